import PyProof.Rows.All
import Wide.All
import OpenK.AllK
import Wide.FinOn
import KE.KStateDown
import HandS.ForMost
import HandS.Defaults
import HandS.IsInst
import HandS.CallLocal
import HandS.TupAny
import HandS.NoneIn
import HandS.Strs
import HandS.TryOnly
import HandS.Head0
import HandS.Head1
import HandS.Head2
import HandS.HeadEnd
import HandS.HeadHook1
import HandS.HeadHook2
import HandS.HeadHook3
import HandS.HeadHook4
import HandS.ListItems
import HandS.More
import HandS.Walk
import HandS.DictComp
import HandS.Style
import PySem.Challenge.RW_seatroads_k01_events_known
set_option Elab.async false
set_option linter.all false
set_option maxRecDepth 100000
set_option maxHeartbeats 4000000
namespace Sr
open PySem PySem.Spec PyProof.Rows L2

/-- a def of the top that may be called: its promise, its name -/
structure Cal (P : Program) (w : World) (K : PySem.W.Frag) (mg : Str → Option Value) (base : Heap) (k : Nat) (x : Str) (ps : List Str) (sp : Sp) : Prop where
  ex : ∃ (f : Addr) (fd : FuncData), FnOk P w K mg base CX0 k f fd ps sp ∧ mg x = some (.ref f) ∧ PySem.W.keepIn K (.ref f) = true ∧ Binds K fd ps []

theorem pe_cal {X : Cx} {k k' : Nat} {x : Str} {ps : List Str} {sp : Sp} {p pos : Pos} {e : Expr} {es : List Expr} {t : TA} (C : Cal X.prog X.w X.K X.mg X.base k x ps sp) (hr : Room k' X.A) (hk : k ≤ k') (hg : Gl X x) (ha : PA X (e :: es) t)
    (hdb : (x == ("__debug__" : Str)) = false := by decide) (he : starEach (e :: es) X.env = (false, eval e X.env) :: starEach es X.env := by rfl) (hpl : (backTo pos (starEach es X.env)).any (·.1) = false := by rfl) :
    PE X (.Call (.Name x p) (e :: es) [] pos) (tCall sp [] E0 t) := by
  obtain ⟨f, fd, F, hm, hkp, hb⟩ := C.ex
  exact pe_call F (hr.mono hk) hg hm hkp hb .nil pass0 ha hdb he hpl

/-- a def of the top as the head tells it -/
structure Dfn (K : PySem.W.Frag) (mg : Str → Option Value) (x : Str) (st : Stmt) : Prop where
  fn : ∃ fd, FunD K x x (defArgs st) (defBody st) (defScope st) [] [] (He.ga K x) fd
  at_ : mg x = some (.ref (He.ga K x))

theorem Dfn.cal {P : Program} {w : World} {K : PySem.W.Frag} {mg : Str → Option Value} {base : Heap} {x : Str} {st : Stmt} {N ps : List Str} {k : Nat} {sp : Sp} (D : Dfn K mg x st) (S : FnScope N ps (defScope st))
    (hb : ∀ (kV doc pm : Value) (an : Option Addr) (cdv ct : Value) (us : List Value), us.length = ps.length → bindArgs (PySem.W.fnOf x x (defArgs st) (defBody st) (defScope st) .none kV doc pm an cdv ct) ⟨us, []⟩ = pure (ps.zip us))
    (len : ∀ vs H Q E, sp vs H Q E → vs.length = ps.length)
    (body : ∀ (cdv : Value) (A : Around) (outer : List Env) (s : Shared) (H : Hp) (vs : List V) (Q : VK) (E : XK), Room k (A.deeper (envOfC x (defScope st) s.heap.objs.size (He.ga K x) cdv)) → sp vs H Q E →
      ∃ t, PSs (cxOf CX0 P w K mg base N x (defScope st) (He.ga K x) cdv A outer s H E).nox (defBody st) t ∧ t { nx := fun _ H' => Q .non H', rt := Q } (start N vs) H) :
    Cal P w K mg base (k + 1) x ps sp := by
  obtain ⟨fd, F⟩ := D.fn
  refine ⟨_, fd, F.ok S len fun cdv A outer s H vs Q E hr h => ?_, D.at_, F.kp, F.bindsN hb⟩
  obtain ⟨t, h1, h2⟩ := body cdv A outer s H vs Q E hr h
  exact ⟨t, PSs.nox h1, h2⟩

/-- a method of a class of the top -/
structure CalM (P : Program) (w : World) (K : PySem.W.Frag) (mg : Str → Option Value) (base : Heap) (CX : CXT) (k : Nat) (f : Addr) (ps : List Str) (sp : Sp) : Prop where
  ex : ∃ fd : FuncData, FnOk P w K mg base CX k f fd ps sp ∧ PySem.W.keepIn K (.ref f) = true ∧ Binds K fd ps []
/-- a method as the head tells it -/
structure DfnM (K : PySem.W.Frag) (c m qual : Str) (st : Stmt) : Prop where
  fn : ∃ fd, FunD K m qual (defArgs st) (defBody st) (defScope st) [] [] (He.fAd K (c, some m)) fd
theorem DfnM.cal {P : Program} {w : World} {K : PySem.W.Frag} {mg : Str → Option Value} {base : Heap} {c m qual : Str} {st : Stmt} {N ps : List Str} {k : Nat} {sp : Sp} (D : DfnM K c m qual st) (S : FnScope N ps (defScope st))
    (hb : ∀ (kV doc pm : Value) (an : Option Addr) (cdv ct : Value) (us : List Value), us.length = ps.length → bindArgs (PySem.W.fnOf m qual (defArgs st) (defBody st) (defScope st) .none kV doc pm an cdv ct) ⟨us, []⟩ = pure (ps.zip us))
    (len : ∀ vs H Q E, sp vs H Q E → vs.length = ps.length)
    (body : ∀ (cdv : Value) (A : Around) (outer : List Env) (s : Shared) (H : Hp) (vs : List V) (Q : VK) (E : XK), Room k (A.deeper (envOfC qual (defScope st) s.heap.objs.size (He.fAd K (c, some m)) cdv)) → sp vs H Q E →
      ∃ t, PSs (cxOf CX0 P w K mg base N qual (defScope st) (He.fAd K (c, some m)) cdv A outer s H E).nox (defBody st) t ∧ t { nx := fun _ H' => Q .non H', rt := Q } (start N vs) H) :
    CalM P w K mg base CX0 (k + 1) (He.fAd K (c, some m)) ps sp := by
  obtain ⟨fd, F⟩ := D.fn
  refine ⟨fd, F.ok S len fun cdv A outer s H vs Q E hr h => ?_, F.kp, F.bindsN hb⟩
  obtain ⟨t, h1, h2⟩ := body cdv A outer s H vs Q E hr h
  exact ⟨t, PSs.nox h1, h2⟩

/-- x in o, o an instance whose class says __contains__ -/
structure Has (K : PySem.W.Frag) (C f : Addr) : Prop where
  at_ : PySem.W.findIn K (.ref C) "__contains__" = some (some (.ref f))
  ty : PySem.W.typeIn K (.ref f) = some (.type "function")
def rInOwn (C : Addr) (sp : Sp) (E : XK) (neg : Bool) : R2 := fun x y H Q => ∃ a dx fs, y = .ref a ∧ H a = some (.ins C dx fs) ∧ sp [y, x] H (fun v H' => ∃ b, v = .bl b ∧ Q (.bl (if neg then !b else b)) H') E

theorem own_in {X : Cx} {CX : CXT} {k : Nat} {C f : Addr} {fd : FuncData} {ps : List Str} {sp : Sp} {E : XK} (F : FnOk X.prog X.w X.K X.mg X.base CX k f fd ps sp) (hr : Room k X.A) (hs : Has X.K C f) (hb : Binds X.K fd ps []) (hx : Passes CX X E)
    {pins : List (Addr × Obj)} {s : Shared} {σ : L2.St} {H : Hp} {x y : V} {v u : Value} {Q : Bool → Shared → Prop} (I : Inv X pins σ H s) (rx : RelV x v) (ry : RelV y u)
    (h : ∃ a dx fs, y = .ref a ∧ H a = some (.ins C dx fs) ∧ sp [y, x] H (fun v H' => ∃ b, v = .bl b ∧ ∀ s', Inv X pins σ H' s' → Q b s') E) :
    wpAny (model X.prog X.w) X.A (contains u v) Q X.xe s := by
  obtain ⟨a, dx, fs, rfl, ha, hsp⟩ := h
  cases ry
  obtain ⟨mA, J, _⟩ := ins_get I.hok ha
  obtain ⟨od, J, _⟩ := J.look
  unfold contains
  refine wpAny_holding ?_
  rw [stdlibNamesSay?_ref]
  refine wpAny_bind ?_
  unfold specialOf
  refine wpAny_bind (J.type.here ?_)
  refine (PySem.W.looks_findIn I.kIn hs.at_).here ?_
  show wpAny _ _ (if (some (Value.ref f) == some Value.none) = true then _ else _) _ _ _
  rw [if_neg (by simp)]
  refine wpAny_bind ?_
  unfold callSpecialUnlessNone?
  refine wpAny_bind ?_
  unfold specialOf
  refine wpAny_bind (J.type.here ?_)
  refine (PySem.W.looks_findIn I.kIn hs.at_).here ?_
  refine wpAny_holding ?_
  refine wpAny_bind ((PySem.W.bind_fn I.kIn (.ref a) hs.ty).here ?_)
  show wpAny _ _ (if (Value.ref f == Value.none) = true then _ else _) _ _ _
  rw [if_neg (by simp)]
  refine wpAny_bind ?_
  have r2 : Vals [V.ref a, x] [Value.ref a, v] := .cons rfl (.cons rx .nil)
  refine thn (run_fn (dvs := []) (ds := []) F hr hb .nil hx I r2 hsp) fun r s1 hq => ?_
  obtain ⟨z, H1, I1, rz, b, ez, hb1⟩ := hq
  subst ez
  obtain rfl : r = Value.bool b := rz
  exact wpAny_pure (wpAny_truthy_bool (hb1 s1 I1))

theorem op_inOwn {X : Cx} {CX : CXT} {k : Nat} {C f : Addr} {fd : FuncData} {ps : List Str} {sp : Sp} {E : XK} (F : FnOk X.prog X.w X.K X.mg X.base CX k f fd ps sp) (hr : Room k X.A) (hs : Has X.K C f) (hb : Binds X.K fd ps []) (hx : Passes CX X E)
    (hm : ∀ x y H Q Q' E, (∀ v H', Q v H' → Q' v H') → sp [x, y] H Q E → sp [x, y] H Q' E) :
    OpR X (compareOp .In) (rInOwn C sp E false) := by
  intro pins s σ H x y v u Q I rx ry h
  obtain ⟨a, dx, fs, e, ha, hsp⟩ := h
  show wpAny _ _ (do return Value.bool (← contains u v)) _ _ _
  refine wpAny_bind (own_in F hr hs hb hx (Q := fun b s' => wpAny (model X.prog X.w) X.A (pure (Value.bool b)) (EP X pins σ Q) X.xe s') I rx ry ⟨a, dx, fs, e, ha, hm _ _ _ _ _ _ (fun z H' hz => ?_) hsp⟩)
  obtain ⟨b, rfl, hq⟩ := hz
  exact ⟨b, rfl, fun s' I' => wpAny_pure ⟨.bl b, H', I', rfl, hq⟩⟩
theorem op_has {X : Cx} {k k' : Nat} {C f : Addr} {ps : List Str} {sp : Sp} (M : CalM X.prog X.w X.K X.mg X.base CX0 k f ps sp) (hr : Room k' X.A) (hk : k ≤ k') (hs : Has X.K C f)
    (hm : ∀ x y H Q Q' E, (∀ v H', Q v H' → Q' v H') → sp [x, y] H Q E → sp [x, y] H Q' E) : OpR X (compareOp .In) (rInOwn C sp E0 false) := by
  obtain ⟨fd, F, _, hb⟩ := M.ex
  exact op_inOwn F (hr.mono hk) hs hb pass0 hm
end Sr

set_option Elab.async false
set_option linter.all false
set_option maxRecDepth 100000
set_option maxHeartbeats 4000000
namespace Sr
open PySem PySem.Spec PyProof.Rows L2
open PySem.SeqAt
/-! ### set(texts): how many unlike ones -/
/-- the unlike texts among the first i, in the order in which they are met -/
def met (xs : List Str) : Nat → List Str
  | 0 => []
  | i + 1 => if (met xs i).any (· == xs.getD i Str.empty) = true then met xs i else met xs i ++ [xs.getD i Str.empty]
theorem met_le (xs : List Str) : ∀ i, (met xs i).length ≤ i
  | 0 => Nat.le_refl _
  | i + 1 => by
    have := met_le xs i
    unfold met
    split
    · omega
    · rw [List.length_append]; simp; omega
theorem met_any (xs : List Str) (i : Nat) (k : Str) : ((met xs i).any (· == k) || decide (k = xs.getD i Str.empty)) = (met xs (i + 1)).any (· == k) := by
  show _ = (if (met xs i).any (· == xs.getD i Str.empty) = true then met xs i else met xs i ++ [xs.getD i Str.empty]).any (· == k)
  split
  · rename_i h
    by_cases e : k = xs.getD i Str.empty
    · rw [e, h]; rfl
    · rw [decide_eq_false e, Bool.or_false]
  · rw [List.any_append]
    by_cases e : k = xs.getD i Str.empty
    · subst e; simp
    · rw [decide_eq_false e]
      have : (xs.getD i Str.empty == k) = false := by
        rw [beq_eq_false_iff_ne]; exact fun z => e z.symm
      simp only [List.any_cons, List.any_nil, this, Bool.or_false]
theorem met_len (xs : List Str) (i : Nat) : (if ((met xs i).any (· == xs.getD i Str.empty)) = true then (met xs i).length else (met xs i).length + 1) = (met xs (i + 1)).length := by
  show _ = (if (met xs i).any (· == xs.getD i Str.empty) = true then met xs i else met xs i ++ [xs.getD i Str.empty]).length
  split <;> rename_i h
  · rfl
  · rw [List.length_append]; rfl
abbrev nset (led : Bool) : Obj := { cls := .type "set", dict := none, data := .set #[] 0 (.fresh 0 0 led) }
section
variable {prog : Program} {w : World} {A : Around} {R : Result → Shared → Prop} {I : Addr} {fp wr : List Addr} {G : Array GenState → Array GenState → Prop} {n : Nat} {P : Nat → Value → Prop} {Stt : Nat → Shared → Prop}
theorem texts_loop (W : WalksS prog w A.in1 I fp wr G n P Stt) (S : Addr) (hSf : S ∉ fp) (xs : List Str) (hv : ∀ i v, P i v → ∃ t, v = .str (xs.getD i Str.empty) t) (hb : n + 1 < scanBound) (d : Nat) :
    ∀ (i : Nat) (s : Shared), n = i + d → Stt i s → s.heap.SetOf (PySem.strKind prog w) S (fun k => (met xs i).any (· == k)) (met xs i).length →
      (∀ s', Moved (S :: wr) G s s' → s'.heap.SetOf (PySem.strKind prog w) S (fun k => (met xs n).any (· == k)) (met xs n).length → R (.ok (.ret .none)) s') →
      codeAny (model prog w) A (.builtin "set.update.loop" ⟨[.ref S, .ref I], []⟩) R s := by
  have out : S ∉ wr := fun h => hSf (W.sub _ h)
  have more : ∀ b ∈ wr, b ∈ S :: wr := fun b h => List.mem_cons_of_mem _ h
  have moves : ∀ (s s' : Shared) (i : Nat), Moved wr G s s' → s.heap.SetOf (PySem.strKind prog w) S (fun k => (met xs i).any (· == k)) (met xs i).length →
      s'.heap.SetOf (PySem.strKind prog w) S (fun k => (met xs i).any (· == k)) (met xs i).length := fun s s' i hm ⟨o, es, ep, t, ho, r⟩ => ⟨o, es, ep, t, hm.heap S _ out ho, r⟩
  induction d with
  | zero =>
    intro i s hd hs hS hR
    obtain rfl : n = i := hd
    refine codeAny_builtin PyProof.Rows.F.entry_set_update_loop ?_
    rw [Around.under_plainId PyProof.Rows.F.plain_set_update_loop _]
    show wpAny _ A.in1 (pyNext (.ref I) >>= _) _ _ s
    refine wpAny_bind (W.done s _ _ hs fun s' hm => ?_)
    show wpAny _ A.in1 (ret Value.none) _ _ s'
    exact wpAny_pure (hR s' (hm.mono more) (moves s s' _ hm hS))
  | succ d ih =>
    intro i s hd hs hS hR
    have lt : i < n := by omega
    refine codeAny_builtin PyProof.Rows.F.entry_set_update_loop ?_
    rw [Around.under_plainId PyProof.Rows.F.plain_set_update_loop _]
    show wpAny _ A.in1 (pyNext (.ref I) >>= _) _ _ s
    refine wpAny_bind (W.item i s _ _ lt hs fun v s' hP hs' hm => ?_)
    obtain ⟨t, rfl⟩ := hv i v hP
    have hS' := moves s s' i hm hS
    show wpAny _ A.in1 (holding [Value.str (xs.getD i Str.empty) t] (setAdd S _) >>= _) _ _ s'
    refine wpAny_bind (wpAny_holding ?_)
    unfold setAdd
    refine wpAny_holding (wpAny_bind ((PySem.strKind prog w).pyHash (k := xs.getD i Str.empty) (strKind_is _ _ _ _) ?_))
    have room : (met xs i).length + 1 < scanBound := by have := met_le xs i; omega
    refine wpAny_setAddHashed_of (knd := PySem.strKind prog w) (s := { s' with toks := s'.toks + 1 }) (strKind_is _ _ _ _) rfl hS' room fun h' hsb hS2 => ?_
    have hS3 : h'.SetOf (PySem.strKind prog w) S (fun k => (met xs (i + 1)).any (· == k)) (met xs (i + 1)).length :=
      PyProof.Rows.SetOf_congr hS2 (fun k => met_any xs i k) (met_len xs i)
    refine wpAny_pure ⟨plainId_quiet PyProof.Rows.F.plain_set_update_loop _, ih (i + 1) _ (by omega) (W.frame _ s' _ _ hs' (Nat.le_succ _) fun b hb o e => ?_) hS3 fun s2 hm2 hS4 => ?_⟩
    · rw [hsb.2 b (fun h : b = S => hSf (by rw [← h]; exact hb))]
      exact e
    · refine hR s2 (Moved.trans W.gtrans ((hm.mono more).then_heap (Nat.le_succ _) fun b o hb e => ?_) hm2) hS4
      rw [hsb.2 b (fun h : b = S => hb (by rw [h]; exact List.mem_cons_self))]
      exact e
end
/-- what set(l) leaves -/
def SetOut (prog : Program) (w : World) (s : Shared) (xs : List Str) (n : Nat) (h' : Heap) : Prop :=
  h'.SetOf (PySem.strKind prog w) s.heap.objs.size (fun k => (met xs n).any (· == k)) (met xs n).length ∧ ∀ b o, b < s.heap.objs.size → s.heap.get? b = some o → h'.get? b = some o
section
variable {prog : Program} {w : World} {A : Around} {E : Value → Shared → Prop} {s : Shared}
theorem texts_set {l : Addr} {items : Array Value} {xs : List Str} {Q : Value → Shared → Prop} {ty : String} {walk : Obj} {wr : List Addr} {G : Array GenState → Array GenState → Prop} {Stt : Nat → Shared → Prop}
    (hl : s.heap.get? l ≠ none) (hi : PyProof.Rows.StrsAre items.toList xs) (hb : items.size + 1 < scanBound)
    (e1 : isSubtype (.type ty) (.type "set") = pure false) (e2 : isSubtype (.type ty) (.type "frozenset") = pure false) (e3 : (Value.type ty == Value.type "dict") = false)
    (hty : ∀ led, Shared.TypeIs { s with heap := s.heap.push (nset led) } (.ref l) ty)
    (hit : ∀ (led : Bool) (A : Around) (Q : Value → Shared → Prop) (E : Value → Shared → Prop), (∀ s' : Shared, s' = { s with heap := (s.heap.push (nset led)).push walk } → Q (.ref (s.heap.objs.size + 1)) s') → wpAny (model prog w) A (pyIter (.ref l)) Q E { s with heap := s.heap.push (nset led) })
    (hW : WalksS prog w A.in1.in1.in1 (s.heap.objs.size + 1) [s.heap.objs.size + 1, l] wr G items.size (fun i v => items[i]? = some v) Stt)
    (hG : ∀ a b, G a b → b = a)
    (hwr : ∀ b ∈ wr, b = s.heap.objs.size + 1)
    (hst : ∀ led, Stt 0 { s with heap := (s.heap.push (nset led)).push walk })
    (h : ∀ (h' : Heap) (tk : Nat), SetOut prog w s xs items.size h' → Q (.ref s.heap.objs.size) { s with heap := h', toks := tk }) :
    wpAny (model prog w) A (call (.type "set") [.ref l]) Q E s := by
  have lt : l < s.heap.objs.size := by
    cases e : s.heap.get? l with
    | none => exact absurd e hl
    | some o => exact Heap.lt_size e
  obtain ⟨c, tl, hmro⟩ := PySem.F.called_set.mro
  have a1 := PySem.F.called_set.made
  have a2 := PySem.F.called_set.sub
  have a3 := PySem.F.called_set.notType
  have a4 := PySem.F.called_set.canCreate
  have a5 := PySem.F.typeCall_set_1 (.ref l)
  refine wpAny_call (codeAny_of_tree ?_)
  show wpAny _ _ (callAny (.type "set") _) _ _ _
  refine wpAny_pure ⟨Code.quiet_builtin _ (by decide +kernel), codeAny_builtin PySem.F.entry_type_call ?_⟩
  rw [Around.under_plain (weight_type_call_type "set" [.ref l] []) rfl]
  repeat (any_goals (first | assumption | wp_step))
  refine codeAny_mono (code_set_new_1 (.ref l) (E := E) (Q₁ := fun obj t => ∃ led : Bool, obj = .ref s.heap.objs.size ∧ t = { s with heap := s.heap.push (nset led) }) fun led => ⟨led, rfl, rfl⟩) fun r t hr => ?_
  cases r with
  | error e => exact hr
  | ok fl =>
    cases fl with
    | ret obj =>
      obtain ⟨led, rfl, rfl⟩ := hr
      have b1 : (s.heap.push (nset led)).get? s.heap.objs.size = some (nset led) := Heap.get?_push_size _ rfl
      have b2 : Shared.TypeIs { s with heap := s.heap.push (nset led) } (.ref s.heap.objs.size) "set" := ⟨_, b1, rfl⟩
      have b3 := PySem.F.called_set.init.lookup
      have b4 := PySem.F.called_set.init.bind (.ref s.heap.objs.size)
      repeat (any_goals (first | assumption | wp_step))
      refine codeAny_mono (codeAny_call_builtin (R := wants (fun r t => r = .none ∧ ∃ h' tk, t = { s with heap := h', toks := tk } ∧ SetOut prog w s xs items.size h') E) PySem.F.called_set.init.plain PySem.F.entry_set_init (check_set_init_1 b2 ?_)) fun r t hr => ?_
      · have c1 := hty led
        unfold Builtin.«set.__init__» noKeywords Builtin.Frozenset.updateFrom
        generalize hPI : pyIter = PI
        wp_walk
        subst hPI
        refine hit led _ _ _ fun s' e => ?_
        subst e
        refine wpAny_bind (wpAny_runValue ?_)
        have nS : s.heap.objs.size ∉ [s.heap.objs.size + 1, l] := fun z => by
          rcases List.mem_cons.mp z with z | z
          · exact Nat.ne_of_lt (Nat.lt_succ_self _) z
          · exact Nat.ne_of_gt lt (List.mem_singleton.mp z)
        have hsz : xs.length = items.size := by rw [← PyProof.Rows.StrsAre.len_eq hi, Array.length_toList]
        have hS0 : ((s.heap.push (nset led)).push walk).SetOf (PySem.strKind prog w) s.heap.objs.size (fun k => (met xs 0).any (· == k)) (met xs 0).length := by
          have g : ((s.heap.push (nset led)).push walk).get? s.heap.objs.size = some (nset led) := Heap.get?_push_of_some _ b1
          exact PyProof.Rows.SetOf_congr ((PyProof.Rows.setObjOf_fresh (knd := PySem.strKind prog w) led).setOf g (by unfold scanBound; omega)) (fun _ => rfl) rfl
        refine texts_loop hW s.heap.objs.size nS xs (fun i v hv => SS.strs_at hi i v (by rw [Array.getElem?_toList]; exact hv)) hb items.size 0 _ (by omega) (hst led) hS0 fun s' hm hS' => ?_
        obtain ⟨h', g', d', tk', os'⟩ := s'
        obtain rfl : g' = s.gens := hG _ _ hm.gens
        obtain rfl : d' = s.drawn := hm.drawn
        obtain rfl : os' = s.os := hm.os
        show wpAny _ _ _ _ _ _
        refine wpAny_pure ?_
        show wpAny _ _ (ret Value.none) _ _ _
        refine wpAny_pure ⟨rfl, h', tk', rfl, hS', fun b o hb e => ?_⟩
        refine hm.heap b o ?_ (Heap.get?_push_of_some _ (Heap.get?_push_of_some _ e))
        intro z
        rcases List.mem_cons.mp z with z | z
        · exact Nat.ne_of_lt hb z
        · exact Nat.ne_of_lt (Nat.lt_succ_of_lt hb) (hwr b z)
      · cases r with
        | error e => exact hr
        | ok fl =>
          cases fl with
          | ret r =>
            obtain ⟨rfl, h', tk, rfl, o⟩ := hr
            repeat (any_goals (first | assumption | wp_step))
            exact h _ _ o
          | _ => exact hr.elim
    | _ => exact hr.elim
end

end Sr

set_option Elab.async false
set_option linter.all false
set_option maxRecDepth 100000
set_option maxHeartbeats 4000000
namespace Sr
open PySem PySem.Spec PyProof.Rows L2
open PySem.SeqAt

section
variable {X : Cx}
def tLenSetT (K : PySem.W.Frag) (ta : TE) : TE := fun σ H Q => ta σ H fun x H1 => ∃ (l : Addr) (xs : List Str), x = .ref l ∧ (SqL K H1 l (xs.map V.str) ∨ SqT K H1 l (xs.map V.str)) ∧ xs.length ≤ 60 ∧ Q (.int (met xs xs.length).length) H1
theorem pe_lenSetT {a : Expr} {ta : TE} {p p2 q pos : Pos} (hc : X.calm = true) (hg : Gl X "len") (hm : X.mg "len" = none) (hg2 : Gl X "set") (hm2 : X.mg "set" = none) (ha : PE X a ta)
    (na : starEach [a] X.env = (false, eval a X.env) :: starEach [] X.env := by rfl) : PE X (.Call (.Name "len" p) [.Call (.Name "set" p2) [a] [] q] [] pos) (tLenSetT X.K ta) := by
  refine ⟨fun pins s σ H Q I h => ?_⟩
  refine Call_ (ld_blt I hg hm boot_len ?_)
  refine PyProof.Rows.callWith_builtin1 (PyProof.Rows.args_cons ?_ rfl) rfl rfl
  refine Call_ (ld_blt (u := .type "set") I hg2 hm2 (by decide +kernel) ?_)
  refine PyProof.Rows.callWith_type1 (PyProof.Rows.args_cons (thn (ha.run pins s σ H _ I h) fun v s1 ⟨x, H1, I1, r1, q1⟩ => PyProof.Rows.args_nil ?_) na) na rfl
  obtain ⟨l, xs, rfl, hq, h1, q1⟩ := q1
  cases r1
  have fin : ∀ (its : List Value), Vals (xs.map V.str) its → ∀ (h' : Heap) (tk : Nat), SetOut X.prog X.w s1 xs its.toArray.size h' →
      wpAny (model X.prog X.w) X.A (spliced (backTo pos (starEach [] X.env))) (fun vs s₂ => wpAny (model X.prog X.w) X.A (call (.builtin "len") (Value.ref s1.heap.objs.size :: vs)) (EP X pins σ Q) X.xe s₂) X.xe { s1 with heap := h', toks := tk } := fun its r h' tk ⟨hS, hk⟩ => by
    refine PyProof.Rows.args_nil ?_
    have hl : its.toArray.size = xs.length := by rw [List.size_toArray, ← r.length, List.length_map]
    rw [hl] at hS
    have := met_le xs xs.length
    obtain ⟨o, es, ep, t, ho, hex, hd, _, _, _, hf, hn⟩ := hS
    have I2 : Inv X pins σ H1 { s1 with heap := h', toks := tk } := I1.kept fun b o e => hk b o (Heap.lt_size e) e
    exact call_len_set ho hex hd hf (by rw [hn] <;> omega) ⟨.int _, H1, I2.tok _, ⟨_, by rw [hn]⟩, q1⟩
  have zz : ∀ its : List Value, Vals (xs.map V.str) its → its.toArray.size + 1 < scanBound := fun its r => by
    rw [List.size_toArray, ← r.length, List.length_map]; unfold scanBound; omega
  have lts : ∀ {o : Obj}, s1.heap.get? l = some o → l < s1.heap.objs.size := fun e => Heap.lt_size e
  have hh : ∀ A : Around, A.handled = none → A.in1.in1.in1.handled = none := fun A h => by simp [h]
  have g2 : ∀ (led : Bool) (o : Obj) (ho : o.isFreed = false), ((s1.heap.push (nset led)).push o).get? (s1.heap.objs.size + 1) = some o := fun led o ho => by
    have e := Heap.get?_push_size (s1.heap.push (nset led)) ho
    rwa [Heap.size_push] at e
  have it : ∀ (led : Bool) (o : Obj) (Q : Value → Shared → Prop), (∀ s' : Shared, s' = { s1 with heap := (s1.heap.push (nset led)).push o } → Q (.ref (s1.heap.objs.size + 1)) s') → Q (.ref (s1.heap.push (nset led)).objs.size) { s1 with heap := (s1.heap.push (nset led)).push o } := fun led o Q k => by
    rw [Heap.size_push]
    exact k _ rfl
  rcases hq with hq | hq
  · obtain ⟨its, r, pl, hz⟩ := I1.list hq
    obtain ⟨ol, e, ec, nn, ed⟩ := pl.isList
    have il : s1.heap.IsList l its.toArray := ⟨ol, e, ec, nn, ed⟩
    have ne : l ≠ s1.heap.objs.size + 1 := Nat.ne_of_lt (Nat.lt_succ_of_lt (lts e))
    exact texts_set (ty := "list") (walk := { cls := .type "list_iterator", data := .fields #[.ref l, .int 0 0] }) (by rw [e]; simp) (by simpa using strsAre_of r) (zz its r) PySem.F.sub_list_set PySem.F.sub_list_frozenset (by decide) (fun led => ⟨_, Heap.get?_push_of_some _ e, ec⟩)
      (fun led A Q E k => wpAny_pyIter_list (il.push _) (it led _ Q k)) ((Walks.list (hh _ (I1.ok.hd hc)) _ l ne its.toArray).toS) (fun a b e => e) (fun b hb => List.mem_singleton.mp hb) (fun led => ⟨⟨_, g2 led _ rfl, rfl, rfl⟩, (il.push _).push _⟩) fun h' tk o => fin its r h' tk o
  · obtain ⟨its, r, pl, hz⟩ := I1.tuple hq
    have il : s1.heap.IsTuple l its.toArray := pl
    obtain ⟨ol, e, ec, nn, ed⟩ := pl
    have ne : l ≠ s1.heap.objs.size + 1 := Nat.ne_of_lt (Nat.lt_succ_of_lt (lts e))
    exact texts_set (ty := "tuple") (walk := { cls := .type "tuple_iterator", data := .fields #[.ref l, .int 0 0] }) (by rw [e]; simp) (by simpa using strsAre_of r) (zz its r) PySem.F.sub_tuple_set PySem.F.sub_tuple_frozenset (by decide) (fun led => ⟨_, Heap.get?_push_of_some _ e, ec⟩)
      (fun led A Q E k => wpAny_pyIter_tuple (il.push _) (it led _ Q k)) ((Walks.tuple (hh _ (I1.ok.hd hc)) _ l ne its.toArray).toS) (fun a b e => e) (fun b hb => List.mem_singleton.mp hb) (fun led => ⟨⟨_, g2 led _ rfl, rfl, rfl⟩, (il.push _).push _⟩) fun h' tk o => fin its r h' tk o
end
end Sr

set_option Elab.async false
set_option linter.all false
set_option maxRecDepth 100000
set_option maxHeartbeats 4000000
namespace Sr
open PySem PySem.Spec PyProof.Rows L2
/-! ### list(d.values()) -/
def tListValues (te : TE) : TE := fun σ H Q => te σ H fun x H1 => ∃ d kvs, x = .ref d ∧ H1 d = some (.dK kvs) ∧ ∀ p, H1 p = none → Q (.ref p) (upd H1 p (.lst (kvs.map (·.2))))
theorem vals_of_kv : ∀ {kvs : List (Key × V)} {vs : List (Key × Value)}, KV kvs vs → Vals (kvs.map (·.2)) (vs.map (·.2))
  | _, _, .nil => .nil
  | _, _, .cons h t => .cons h.2 (vals_of_kv t)
theorem pe_listValues {X : Cx} {e : Expr} {te : TE} {p apos cpos pos : Pos} (hg : Gl X "list") (hm : X.mg "list" = none) (he : PE X e te) (hc : X.calm = true := by rfl) (hbase : attributeBase e "values" X.env (eval e X.env) = eval e X.env := by rfl) (hline : (apos.endLine == cpos.line) = true := by rfl)
    (hs : starEach [.Call (.Attribute e "values" apos) [] [] cpos] X.env = (false, eval (.Call (.Attribute e "values" apos) [] [] cpos) X.env) :: starEach [] X.env := by rfl) :
    PE X (.Call (.Name "list" p) [.Call (.Attribute e "values" apos) [] [] cpos] [] pos) (tListValues te) := by
  refine ⟨fun pins s σ H Q I hq => ?_⟩
  refine wpAny_Call_Name_kw (ld_blt (u := .type "list") I hg hm (by decide +kernel) ?_)
  refine PyProof.Rows.callWith_type1 ?_ hs rfl
  rw [hs]
  show wpAny _ _ (spliced ((false, eval (.Call (.Attribute e "values" apos) [] [] cpos) X.env) :: backTo pos (starEach [] X.env))) _ _ s
  refine Calls.spliced_cons ?_
  refine wpAny_Call_method (T := "dict") (id := "dict.values") hbase rfl hline F.plainAttrs_dict F.slot_dict_values F.type_dict_values (thn (he.run pins s σ H _ I hq) fun u s1 ⟨x, H1, I1, rx, d, kvs, ex, hd, q⟩ => ?_)
  subst ex
  obtain rfl : u = Value.ref d := rx
  obtain ⟨hz, hs0, vs, kv, hdo⟩ := I1.hok d _ hd
  obtain ⟨ep, hat⟩ := hdo.dictAt
  have lk : kvs.length = vs.length := Paired.length kv
  have I2 : Inv X pins σ H1 { s1 with heap := s1.heap.push { cls := .type "dict_values", data := .fields #[.ref d] } } := I1.kept (t' := s1.toks) fun b ob q => Heap.get?_push_of_some _ q
  refine ⟨hdo.typeIs, hdo.mapOf.noDict, ?_⟩
  show wpAny _ _ (callWith cpos (.builtin "dict.values") [.ref d] [] []) _ X.xe s1
  refine method_meetsIn F.slot_dict_values F.entry_dict_values rfl (PySem.evalArgs_none ⟨rfl, hdo.typeIs, F.args_dict_values_1 _, _, meets_dict_values (mixKind X.prog X.w) d hs0, ⟨vs, hdo⟩, ?_⟩)
  refine Calls.spliced_nil ?_
  refine PySem.W.kdl_call (PySem.W.kdl_values (knd := mixKind X.prog X.w) (kvs := vs) (ep := ep) (d := d) (r := s1.heap.objs.size)) (I1.ok.hd hc) ⟨⟨_, Heap.get?_push_size _ rfl, rfl, rfl⟩, hat.push _⟩ (by omega) fun h' tk acc c hk hS hacc => ?_
  have ev : acc.toList = vs.map (·.2) := PySem.W.kdl_vals_eq _ (by rw [Array.length_toList]; exact hacc.1) fun j v e => hacc.2 j v (by rw [← Array.getElem?_toList]; exact e)
  have hv : Vals (kvs.map (·.2)) acc.toList := by rw [ev]; exact vals_of_kv kv
  exact ⟨.ref _, _, I2.laid (t' := tk) hk (Nat.le_refl _) (show ObjOk X.prog X.w _ _ _ (.lst (kvs.map (·.2))) from ⟨by rw [List.length_map]; exact hz, acc.toList, c, hv, by rw [Array.toArray_toList]; exact hS⟩), rfl, q _ (I2.hok.fresh (Nat.le_refl _))⟩
end Sr

set_option Elab.async false
set_option linter.all false
set_option maxRecDepth 100000
set_option maxHeartbeats 4000000
namespace Sr
open PySem PySem.Spec PyProof.Rows L2
/-! ### data as they are passed about -/
inductive Dt where
  | non | bl (b : Bool) | int (i : Int) | str (s : Str) | lst (l : List Dt) | tup (l : List Dt) | dic
mutual
/-- v stands for d in the heap H -/
inductive Is (H : Hp) : V → Dt → Prop
  | non : Is H .non .non
  | bl (b : Bool) : Is H (.bl b) (.bl b)
  | int (i : Int) : Is H (.int i) (.int i)
  | str (s : Str) (h : s.length ≤ 1000) : Is H (.str s) (.str s)
  | lst {a : Addr} {xs : List V} {ds : List Dt} : H a = some (.lst xs) → IsA H xs ds → xs.length ≤ 60 → Is H (.ref a) (.lst ds)
  | tup {a : Addr} {xs : List V} {ds : List Dt} : H a = some (.tup xs) → IsA H xs ds → xs.length ≤ 60 → Is H (.ref a) (.tup ds)
  | dic {a : Addr} {kvs : List (Key × V)} : H a = some (.dK kvs) → Is H (.ref a) .dic
inductive IsA (H : Hp) : List V → List Dt → Prop
  | nil : IsA H [] []
  | cons {v : V} {vs : List V} {d : Dt} {ds : List Dt} : Is H v d → IsA H vs ds → IsA H (v :: vs) (d :: ds)
end
mutual
theorem Is.mono {H H' : Hp} (e : Same H H') : ∀ {v : V} {d : Dt}, Is H v d → Is H' v d
  | _, _, .non => .non
  | _, _, .bl b => .bl b
  | _, _, .int i => .int i
  | _, _, .str s h => .str s h
  | _, _, .lst h r z => .lst (e _ _ h) (IsA.mono e r) z
  | _, _, .tup h r z => .tup (e _ _ h) (IsA.mono e r) z
  | _, _, .dic h => .dic (e _ _ h)
theorem IsA.mono {H H' : Hp} (e : Same H H') : ∀ {vs : List V} {ds : List Dt}, IsA H vs ds → IsA H' vs ds
  | _, _, .nil => .nil
  | _, _, .cons h r => .cons (Is.mono e h) (IsA.mono e r)
end
theorem IsA.len {H : Hp} : ∀ {vs : List V} {ds : List Dt}, IsA H vs ds → vs.length = ds.length
  | _, _, .nil => rfl
  | _, _, .cons _ r => congrArg (· + 1) (IsA.len r)
theorem IsA.get {H : Hp} : ∀ {vs : List V} {ds : List Dt} {i : Nat} {v : V}, IsA H vs ds → vs[i]? = some v → ∃ d, ds[i]? = some d ∧ Is H v d
  | _, _, _, _, .nil, e => by simp at e
  | _, _, 0, _, .cons h _, e => by simp at e; subst e; exact ⟨_, rfl, h⟩
  | _, _, i + 1, v, .cons _ r, e => by
    obtain ⟨d, h1, h2⟩ := IsA.get (i := i) (v := v) r (by simpa using e)
    exact ⟨d, by simpa using h1, h2⟩
theorem IsA.app {H : Hp} : ∀ {xs ys : List V} {ds es : List Dt}, IsA H xs ds → IsA H ys es → IsA H (xs ++ ys) (ds ++ es)
  | _, _, _, _, .nil, s => s
  | _, _, _, _, .cons h r, s => .cons h (IsA.app r s)
theorem IsA.take {H : Hp} : ∀ {xs : List V} {ds : List Dt} (n : Nat), IsA H xs ds → IsA H (xs.take n) (ds.take n)
  | _, _, 0, _ => by simp; exact .nil
  | _, _, _ + 1, .nil => .nil
  | _, _, n + 1, .cons h r => .cons h (IsA.take n r)
theorem IsA.drop {H : Hp} : ∀ {xs : List V} {ds : List Dt} (n : Nat), IsA H xs ds → IsA H (xs.drop n) (ds.drop n)
  | _, _, 0, r => r
  | _, _, _ + 1, .nil => .nil
  | _, _, n + 1, .cons _ r => IsA.drop n r
/-- the name of the type -/
def tyN : Dt → String
  | .non => "NoneType" | .bl _ => "bool" | .int _ => "int" | .str _ => "str" | .lst _ => "list" | .tup _ => "tuple" | .dic => "dict"
theorem Is.ty {K : PySem.W.Frag} {H : Hp} {v : V} {d : Dt} (h : Is H v d) : TyX K H v (.type (tyN d)) := by
  cases h with
  | non => exact .base .non
  | bl b => exact .base (.bl b)
  | int i => exact .base (.int i)
  | str s h => exact .base (.str s)
  | lst h r z => exact .base (.lst h)
  | tup h r z => exact .base (.tup h)
  | dic h => exact .base (.dK h)
def isSeq : Dt → Bool
  | .lst _ => true
  | .tup _ => true
  | _ => false
def isStr : Dt → Bool
  | .str _ => true
  | _ => false
def isInt : Dt → Bool
  | .int _ => true
  | .bl _ => true
  | _ => false
def isBl : Dt → Bool
  | .bl _ => true
  | _ => false
theorem kit_two {K : PySem.W.Frag} {t c1 c2 : Value} {a b : Bool} (h1 : PySem.W.kitOne K t c1 = some a) (h2 : PySem.W.kitOne K t c2 = some b) : PySem.W.kitAny K t [c1, c2] = some (a || b) := by
  refine kitAny_cons h1 (fun e => kitAny_cons h2 (fun e2 => ?_) fun e2 => ?_) fun e => ?_
  · rw [e, e2]; rfl
  · rw [e, e2]; rfl
  · rw [e]; rfl
def isLst : Dt → Bool
  | .lst _ => true
  | _ => false
def isTup : Dt → Bool
  | .tup _ => true
  | _ => false
theorem kit_list (K : PySem.W.Frag) : ∀ d : Dt, PySem.W.kitOne K (.type (tyN d)) (.type "list") = some (isLst d)
  | .non => kit_ty (show kitB "NoneType" "list" = some false by decide +kernel)
  | .bl b => kit_ty (show kitB "bool" "list" = some false by decide +kernel)
  | .int i => kit_ty (show kitB "int" "list" = some false by decide +kernel)
  | .str s => kit_ty (show kitB "str" "list" = some false by decide +kernel)
  | .lst l => kit_ty (show kitB "list" "list" = some true by decide +kernel)
  | .tup l => kit_ty (show kitB "tuple" "list" = some false by decide +kernel)
  | .dic => kit_ty (show kitB "dict" "list" = some false by decide +kernel)
theorem kit_tuple (K : PySem.W.Frag) : ∀ d : Dt, PySem.W.kitOne K (.type (tyN d)) (.type "tuple") = some (isTup d)
  | .non => kit_ty (show kitB "NoneType" "tuple" = some false by decide +kernel)
  | .bl b => kit_ty (show kitB "bool" "tuple" = some false by decide +kernel)
  | .int i => kit_ty (show kitB "int" "tuple" = some false by decide +kernel)
  | .str s => kit_ty (show kitB "str" "tuple" = some false by decide +kernel)
  | .lst l => kit_ty (show kitB "list" "tuple" = some false by decide +kernel)
  | .tup l => kit_ty (show kitB "tuple" "tuple" = some true by decide +kernel)
  | .dic => kit_ty (show kitB "dict" "tuple" = some false by decide +kernel)
theorem kit_seq (K : PySem.W.Frag) (d : Dt) : PySem.W.kitAny K (.type (tyN d)) [.type "list", .type "tuple"] = some (isSeq d) := by
  rw [kit_two (kit_list K d) (kit_tuple K d)]
  cases d <;> rfl
theorem kit_str (K : PySem.W.Frag) : ∀ d : Dt, PySem.W.kitOne K (.type (tyN d)) (.type "str") = some (isStr d)
  | .non => kit_ty (show kitB "NoneType" "str" = some false by decide +kernel)
  | .bl b => kit_ty (show kitB "bool" "str" = some false by decide +kernel)
  | .int i => kit_ty (show kitB "int" "str" = some false by decide +kernel)
  | .str s => kit_ty (show kitB "str" "str" = some true by decide +kernel)
  | .lst l => kit_ty (show kitB "list" "str" = some false by decide +kernel)
  | .tup l => kit_ty (show kitB "tuple" "str" = some false by decide +kernel)
  | .dic => kit_ty (show kitB "dict" "str" = some false by decide +kernel)
theorem kit_int (K : PySem.W.Frag) : ∀ d : Dt, PySem.W.kitOne K (.type (tyN d)) (.type "int") = some (isInt d)
  | .non => kit_ty (show kitB "NoneType" "int" = some false by decide +kernel)
  | .bl b => kit_ty (show kitB "bool" "int" = some true by decide +kernel)
  | .int i => kit_ty (show kitB "int" "int" = some true by decide +kernel)
  | .str s => kit_ty (show kitB "str" "int" = some false by decide +kernel)
  | .lst l => kit_ty (show kitB "list" "int" = some false by decide +kernel)
  | .tup l => kit_ty (show kitB "tuple" "int" = some false by decide +kernel)
  | .dic => kit_ty (show kitB "dict" "int" = some false by decide +kernel)
theorem kit_bool (K : PySem.W.Frag) : ∀ d : Dt, PySem.W.kitOne K (.type (tyN d)) (.type "bool") = some (isBl d)
  | .non => kit_ty (show kitB "NoneType" "bool" = some false by decide +kernel)
  | .bl b => kit_ty (show kitB "bool" "bool" = some true by decide +kernel)
  | .int i => kit_ty (show kitB "int" "bool" = some false by decide +kernel)
  | .str s => kit_ty (show kitB "str" "bool" = some false by decide +kernel)
  | .lst l => kit_ty (show kitB "list" "bool" = some false by decide +kernel)
  | .tup l => kit_ty (show kitB "tuple" "bool" = some false by decide +kernel)
  | .dic => kit_ty (show kitB "dict" "bool" = some false by decide +kernel)
/-- the texts of a list of data -/
def strsOf : List Dt → List Str
  | [] => []
  | .str s :: r => s :: strsOf r
  | _ :: r => strsOf r
theorem IsA.strs {H : Hp} : ∀ {xs : List V} {ds : List Dt}, IsA H xs ds → ds.all isStr = true → xs = (strsOf ds).map V.str
  | _, _, .nil, _ => rfl
  | _, _, .cons (.str s h) r, e => by
    have e2 := IsA.strs r (by simpa [isStr] using e)
    show _ = V.str s :: _
    rw [e2]
  | _, _, .cons .non r, e => by simp [isStr] at e
  | _, _, .cons (.bl b) r, e => by simp [isStr] at e
  | _, _, .cons (.int b) r, e => by simp [isStr] at e
  | _, _, .cons (.lst h z y) r, e => by simp [isStr] at e
  | _, _, .cons (.tup h z y) r, e => by simp [isStr] at e
  | _, _, .cons (.dic h) r, e => by simp [isStr] at e
theorem cls_two (a b : String) : Paired ClsV [V.ty a, V.ty b] [.type a, .type b] := .cons (.ty a) (.cons (.ty b) .nil)
theorem two_line : (2 : Nat) ≤ sizeLine := by rw [sizeLine_eq]; decide
theorem Same.up {H : Hp} {p : Addr} {o : HO} (h : H p = none) : Same H (upd H p o) := fun b u e => by
  rw [upd_ne (ne_of_none e h)]
  exact e
end Sr

set_option Elab.async false
set_option linter.all false
set_option maxRecDepth 100000
set_option maxHeartbeats 4000000
namespace Sr
open PySem PySem.Spec PyProof.Rows L2
/-- a comprehension of one name whose elements change nothing that stood: the list of what they are -/
theorem lc_pure {J : It} {n : Nat} {G : Hp → Prop} {Y : Nat → Hp → V → Hp → Prop} {At : Nat → V → Prop} (w : Walk J n G Y) (hy : ∀ i H x H', Y i H x H' → H' = H ∧ At i x) {te : TE} {j : Nat} {σ : L2.St} {H : Hp} {D : Addr} {Qd : Hp → Prop}
    (ys : List V) (hn : ys.length = n) (hz : n < sizeLine) (hD : H D = none) (hG : ∀ H', Same H H' → G H')
    (turn : ∀ (i : Nat) (x y : V) (H1 : Hp) (Q : VK), i < n → At i x → ys[i]? = some y → Same H H1 → (∀ H2, Same H1 H2 → Q y H2) → te ((σ.set j none).set j (some x)) H1 Q)
    (fin : ∀ H', Same H H' → H' D = some (.lst ys) → Qd H') :
    ∃ W : Nat → Nat → Hp → Prop, (∃ m, W 0 m (upd H D (.lst []))) ∧ ∀ i m H, W i m H →
      (J.stop i H ∧ Qd H) ∨ (J.go i H ∧ ∃ Nx : Hp → Prop, (∀ H', Nx H' → ∃ m', m' < m ∧ W (i + 1) m' H') ∧ ∀ x H', J.yld i H x H' → (gName j) x (wipe σ [j]) H' fun σ2 H2 => wipe σ2 [j] = wipe σ [j] ∧ tYes σ2 H2 fun b H3 =>
        if b = true then te σ2 H3 fun y H4 => ∃ acc, H4 D = some (.lst acc) ∧ acc.length < sizeLine ∧ Nx (upd H4 D (.lst (acc ++ [y]))) else Nx H3) := by
  have below : ∀ {H1 H2 : Hp} {o : HO}, Same H H1 → Same H1 H2 → Same H (upd H2 D o) := fun {H1 H2 o} a b c u e => by
    rw [upd_ne (ne_of_none e hD)]
    exact b _ _ (a _ _ e)
  refine lc_it w (fun i H' => Same H H' ∧ H' D = some (.lst (ys.take i))) ⟨Same.up hD, by rw [upd_same]; simp⟩ (fun i H' _ p => hG H' p.1) (fun i x H1 H2 hi p y => ?_) fun H' p => fin H' p.1 (by rw [p.2, ← hn, List.take_length])
  obtain ⟨rfl, hx⟩ := hy _ _ _ _ y
  refine ⟨?_, ?_⟩
  · show ((σ.set j none).set j (some x)).set j none = σ.set j none
    rw [List.set_set, List.set_set]
  · unfold tYes
    simp only [if_true]
    have hi' : i < ys.length := by omega
    refine turn i x ys[i] H2 _ hi hx (List.getElem?_eq_getElem hi') p.1 fun H3 s3 => ?_
    refine ⟨_, s3 _ _ p.2, by rw [List.length_take]; omega, below p.1 s3, ?_⟩
    rw [upd_same, List.take_add_one, List.getElem?_eq_getElem hi']
    rfl
theorem walk_at {xs : List V} : ∀ (i : Nat) (H : Hp) (x : V) (H' : Hp), YAt xs i H x H' → H' = H ∧ xs[i]? = some x := fun _ _ _ _ y => y
/-- all([.. for ..]) behind its list -/
theorem all_of {K : PySem.W.Frag} {H : Hp} {D : Addr} {bs : List Bool} {Q : VK} (h : H D = some (.lst (bs.map V.bl))) (q : Q (.bl (bs.all id)) H) : (rAll K) [V.ref D] H Q := ⟨D, bs, rfl, SqL.of h, q⟩
theorem sz {n m : Nat} (h : n ≤ m) (hm : m ≤ 1000000 := by decide) : n < sizeLine := by
  rw [sizeLine_eq]
  exact Nat.lt_of_le_of_lt (Nat.le_trans h hm) (by decide)
/-- a built-in class as a value -/
theorem pe_tyv {X : Cx} {x : Str} {n : String} {p : Pos} (hg : Gl X x) (hm : X.mg x = none) (hv : bootBuiltins x = some (.type n)) (hn : x ≠ "__name__" := by decide) (hd : (x == ("__debug__" : Str)) = false := by decide) : PE X (.Name x p) (tC (.ty n)) :=
  pe_bltn hg hm hv rfl hn hd
end Sr

set_option Elab.async false
set_option linter.all false
set_option maxRecDepth 100000
set_option maxHeartbeats 4000000
namespace Sr
open PySem PySem.Spec PyProof.Rows L2
/-! ### a table of the top with text keys, wholly known -/
theorem find_out {P : Params} {z : Str} : ∀ {es : List DictEntry} {ks : List Str}, es.map He.keyOf = He.keysIn P ks → z ∉ ks → es.find? (·.key.isStr z) = none ∧ es.any (·.refKey) = false
  | [], _, _, _ => ⟨rfl, rfl⟩
  | e :: r, [], h, _ => by cases h
  | e :: r, k :: ks, h, hz => by
    have h1 : He.keyOf e :: r.map He.keyOf = some (k, PyData.keyHash P k) :: He.keysIn P ks := h
    injection h1 with h2 h3
    obtain ⟨i1, i2⟩ := find_out h3 fun m => hz (List.mem_cons_of_mem _ m)
    have hk : k ≠ z := fun q => hz (by rw [q]; exact List.mem_cons_self)
    obtain ⟨hs, ky, vl⟩ := e
    unfold He.keyOf at h2
    cases ky with
    | str x t =>
      have e1 : (x, hs) = (k, PyData.keyHash P k) := Option.some.inj h2
      obtain rfl : x = k := congrArg Prod.fst e1
      have n1 : (Value.str x t).isStr z = false := by
        show (x == z) = false
        simpa using hk
      exact ⟨by rw [List.find?_cons, n1]; exact i1, by rw [List.any_cons, i2]; rfl⟩
    | _ => cases h2
theorem tab_list {K : PySem.W.Frag} {w : World} {a : Addr} {ks : List Str} (h : He.dicW K a = some (He.keysIn w.params ks)) : ∃ es n, KDict K w a es n ∧ es.toList.map He.keyOf = He.keysIn w.params ks := by
  obtain ⟨es, n, D⟩ := He.dicW_ok h
  refine ⟨es, n, D, ?_⟩
  unfold He.dicW at h
  rw [D.at_] at h
  have h1 : (match decide ("dict" = "dict") && (#[].isEmpty && !(a == sysModules)) with
    | true => some (es.toList.map He.keyOf)
    | false => none) = some (He.keysIn w.params ks) := h
  rw [D.low] at h1
  exact Option.some.inj h1
theorem nsIn_out {K : PySem.W.Frag} {w : World} {a : Addr} {es : Array DictEntry} {n : Nat} {ks : List Str} {z : Str} (D : KDict K w a es n) (h : es.toList.map He.keyOf = He.keysIn w.params ks) (hz : z ∉ ks) : PySem.W.nsIn K a z = some none := by
  obtain ⟨h1, h2⟩ := find_out h hz
  unfold PySem.W.nsIn
  rw [D.at_]
  show (match es.toList.find? (·.key.isStr z) with
      | some e => some (some e.val)
      | none => if es.toList.any (·.refKey) then none else some none) = some none
  rw [h1]
  show (if es.toList.any (·.refKey) then none else some none) = some none
  rw [h2]
  rfl
/-- a call of a local name that holds a def of the top -/
theorem pe_calL {X : Cx} {k k' i : Nat} {x x0 : Str} {ps : List Str} {sp : Sp} {a : Addr} {p pos : Pos} {e : Expr} {es : List Expr} {t : TA} (C : Cal X.prog X.w X.K X.mg X.base k x0 ps sp) (hm0 : X.mg x0 = some (.ref a)) (hr : Room k' X.A) (hk : k ≤ k') (hN : X.N[i]? = some x) (hv : Vis X.env.scope x) (ha : PA X (e :: es) t)
    (hdb : (x == ("__debug__" : Str)) = false := by decide) (hcd : (x == ("__classdict__" : Str)) = false := by decide)
    (he : starEach (e :: es) X.env = (false, eval e X.env) :: starEach es X.env := by rfl) (hpl : (backTo pos (starEach es X.env)).any (·.1) = false := by rfl) : PE X (.Call (.Name x p) (e :: es) [] pos) (tCallL i a sp [] E0 t) := by
  obtain ⟨f, fd, F, hm, hkp, hb⟩ := C.ex
  obtain rfl : f = a := by
    have := hm.symm.trans hm0
    injection this with this
    injection this
  exact pe_callL F (hr.mono hk) hN hv hkp hb .nil pass0 ha hdb hcd he hpl
end Sr

set_option Elab.async false
set_option linter.all false
set_option maxRecDepth 100000
set_option maxHeartbeats 4000000
namespace Sr
open PySem PySem.Spec PyProof.Rows L2
/-! ### dicts with text keys, as pairs of a text and what stands for it -/
/-- the entries of kvs are the texts ss, in order, and what Rv says of each stands under it -/
abbrev Ent (Rv : Str → V → Prop) (kvs : List (Key × V)) (ss : List Str) : Prop := Paired (fun kv s => kv.1 = Sum.inr s ∧ Rv s kv.2) kvs ss
theorem Ent.keys {Rv : Str → V → Prop} : ∀ {kvs : List (Key × V)} {ss : List Str}, Ent Rv kvs ss → kvs.map (·.1) = ss.map Sum.inr
  | _, _, .nil => rfl
  | _, _, .cons h r => by rw [List.map_cons, List.map_cons, h.1, Ent.keys r]
theorem Ent.imp {Rv Rv' : Str → V → Prop} (f : ∀ s v, Rv s v → Rv' s v) : ∀ {kvs : List (Key × V)} {ss : List Str}, Ent Rv kvs ss → Ent Rv' kvs ss
  | _, _, .nil => .nil
  | _, _, .cons h r => .cons ⟨h.1, f _ _ h.2⟩ (Ent.imp f r)
theorem Ent.len {Rv : Str → V → Prop} {kvs : List (Key × V)} {ss : List Str} (h : Ent Rv kvs ss) : kvs.length = ss.length := Paired.length h
theorem Ent.snoc {Rv : Str → V → Prop} {s : Str} {v : V} (hv : Rv s v) : ∀ {kvs : List (Key × V)} {ss : List Str}, Ent Rv kvs ss → Ent Rv (kvs ++ [(Sum.inr s, v)]) (ss ++ [s])
  | _, _, .nil => .cons ⟨rfl, hv⟩ .nil
  | _, _, .cons h r => .cons h (Ent.snoc hv r)
theorem Ent.at_ {Rv : Str → V → Prop} {s : Str} : ∀ {kvs : List (Key × V)} {ss : List Str}, Ent Rv kvs ss → s ∈ ss → ∃ v, valV kvs (Sum.inr s) = some v ∧ Rv s v
  | _, _, .cons (a := kv) (b := x) h r, m => by
    unfold valV
    rw [List.find?_cons]
    by_cases c : x = s
    · subst c
      rw [h.1, decide_eq_true rfl]
      exact ⟨_, rfl, h.2⟩
    · have m' : s ∈ _ := (List.mem_cons.mp m).resolve_left fun q => c q.symm
      rw [h.1, decide_eq_false fun q => c (Sum.inr.inj q)]
      exact Ent.at_ r m'
theorem Ent.out {Rv : Str → V → Prop} {s : Str} : ∀ {kvs : List (Key × V)} {ss : List Str}, Ent Rv kvs ss → s ∉ ss → valV kvs (Sum.inr s) = none
  | _, _, .nil, _ => rfl
  | _, _, .cons (a := kv) (b := x) h r, m => by
    unfold valV
    rw [List.find?_cons, h.1, decide_eq_false fun q => m (by rw [Sum.inr.inj q]; exact List.mem_cons_self)]
    exact Ent.out r fun q => m (List.mem_cons_of_mem _ q)
theorem Ent.has {Rv : Str → V → Prop} {kvs : List (Key × V)} {ss : List Str} (h : Ent Rv kvs ss) (s : Str) : (valV kvs (Sum.inr s)).isSome = decide (s ∈ ss) := by
  by_cases m : s ∈ ss
  · obtain ⟨v, e, _⟩ := h.at_ m
    rw [e, decide_eq_true m]
    rfl
  · rw [h.out m, decide_eq_false m]
    rfl
theorem putK_new {kvs : List (Key × V)} {k : Key} {v : V} (h : k ∉ kvs.map (·.1)) : putK kvs k v = kvs ++ [(k, v)] := by
  unfold putK
  rw [if_neg]
  intro q
  obtain ⟨kv, m, e⟩ := List.any_eq_true.mp q
  exact h (List.mem_map.mpr ⟨kv, m, of_decide_eq_true e⟩)
theorem Ent.put {Rv : Str → V → Prop} {kvs : List (Key × V)} {ss : List Str} {s : Str} {v : V} (h : Ent Rv kvs ss) (m : s ∉ ss) (hv : Rv s v) : Ent Rv (putK kvs (Sum.inr s) v) (ss ++ [s]) := by
  rw [putK_new]
  · exact h.snoc hv
  · rw [h.keys]
    intro q
    obtain ⟨x, m', e⟩ := List.mem_map.mp q
    exact m (by rw [← Sum.inr.inj e]; exact m')
/-- a dict comprehension of one name with unlike texts for keys; nothing that stood is changed -/
theorem dc_texts {J : It} {n : Nat} {G : Hp → Prop} {Y : Nat → Hp → V → Hp → Prop} {At : Nat → V → Prop} (w : Walk J n G Y) (hy : ∀ i H x H', Y i H x H' → H' = H ∧ At i x) {tk tv : TE} {j : Nat} {σ : L2.St} {H : Hp} {D : Addr} {Qd : Hp → Prop}
    (ss : List Str) (hn : ss.length = n) (nd : ss.Nodup) (hz : n < sizeLine) (hD : H D = none) (hG : ∀ H', Same H H' → G H') (Rv : Hp → Str → V → Prop) (mono : ∀ H1 H2 s v, Same H1 H2 → Rv H1 s v → Rv H2 s v)
    (lay : ∀ H1 s v c c', H1 D = some (.dK c) → Rv H1 s v → Rv (upd H1 D (.dK c')) s v)
    (turn : ∀ (i : Nat) (x : V) (s : Str) (H1 : Hp) (R : V → V → Hp → Prop), i < n → At i x → ss[i]? = some s → Same H H1 → (∀ H2 z, Same H1 H2 → Rv H2 s z → R (.str s) z H2) → tk ((σ.set j none).set j (some x)) H1 fun y H2 => tv ((σ.set j none).set j (some x)) H2 fun z H3 => R y z H3)
    (fin : ∀ H' kvs, Same H H' → H' D = some (.dK kvs) → Ent (Rv H') kvs ss → Qd H') :
    ∃ W : Nat → Nat → Hp → Prop, (∃ m, W 0 m (upd H D (.dK []))) ∧ ∀ i m H, W i m H →
      (J.stop i H ∧ Qd H) ∨ (J.go i H ∧ ∃ Nx : Hp → Prop, (∀ H', Nx H' → ∃ m', m' < m ∧ W (i + 1) m' H') ∧ ∀ x H', J.yld i H x H' → (gName j) x (wipe σ [j]) H' fun σ2 H2 => wipe σ2 [j] = wipe σ [j] ∧ tYes σ2 H2 fun b H3 =>
        if b = true then tk σ2 H3 fun y H4 => tv σ2 H4 fun z H5 => ∃ kvs k, y = kV k ∧ H5 D = some (.dK kvs) ∧ kvs.length < sizeLine ∧ Nx (upd H5 D (.dK (putK kvs k z))) else Nx H3) := by
  have below : ∀ {H1 H2 : Hp} {o : HO}, Same H H1 → Same H1 H2 → Same H (upd H2 D o) := fun {H1 H2 o} a b c u e => by
    rw [upd_ne (ne_of_none e hD)]
    exact b _ _ (a _ _ e)
  refine ⟨fun i m H' => m = n - i ∧ i ≤ n ∧ Same H H' ∧ ∃ kvs, H' D = some (.dK kvs) ∧ Ent (Rv H') kvs (ss.take i), ⟨n, by simp, Nat.zero_le _, Same.up hD, [], upd_same, by rw [List.take_zero]; exact .nil⟩, ?_⟩
  rintro i m H1 ⟨rfl, hi, s1, kvs, hd, he⟩
  by_cases lt : i < n
  · refine .inr ⟨w.goes i H1 lt (hG _ s1), fun H' => i + 1 ≤ n ∧ Same H H' ∧ ∃ kvs, H' D = some (.dK kvs) ∧ Ent (Rv H') kvs (ss.take (i + 1)), fun H' p => ⟨n - (i + 1), by omega, rfl, p⟩, fun x H2 y => ?_⟩
    obtain ⟨rfl, hx⟩ := hy _ _ _ _ (w.yields i H1 x H2 lt (hG _ s1) y)
    refine ⟨?_, ?_⟩
    · show ((σ.set j none).set j (some x)).set j none = σ.set j none
      rw [List.set_set, List.set_set]
    · unfold tYes
      simp only [if_true]
      have hi' : i < ss.length := by omega
      refine turn i x ss[i] H2 _ lt hx (List.getElem?_eq_getElem hi') s1 fun H3 z s3 rv => ?_
      have hl := he.len
      rw [List.length_take] at hl
      have nm : ss[i] ∉ ss.take i := fun q => by
        obtain ⟨a, ha, e⟩ := List.mem_take_iff_getElem.mp q
        exact (List.pairwise_iff_getElem.mp nd) a i (by omega) hi' (by omega) e
      refine ⟨kvs, Sum.inr ss[i], rfl, s3 _ _ hd, by omega, lt, below s1 s3, _, upd_same, ?_⟩
      rw [List.take_add_one, List.getElem?_eq_getElem hi']
      have r1 : Ent (Rv (upd H3 D (.dK (putK kvs (Sum.inr ss[i]) z)))) kvs (ss.take i) := he.imp fun s v r => lay _ _ _ _ _ (s3 _ _ hd) (mono _ _ _ _ s3 r)
      exact r1.put nm (lay _ _ _ _ _ (s3 _ _ hd) rv)
  · obtain rfl : i = n := by omega
    refine .inl ⟨w.stops H1 (hG _ s1), fin H1 kvs s1 hd ?_⟩
    rwa [← hn, List.take_length] at he
end Sr

set_option Elab.async false
set_option linter.all false
set_option maxRecDepth 100000
set_option maxHeartbeats 4000000
namespace Sr
open PySem PySem.Spec PyProof.Rows L2
/-! ### rules that name the written part, for a comprehension's block -/
section
variable {X : Cx}
theorem op_in_seqK (K : PySem.W.Frag) (hK : X.K = K) : OpR X (compareOp .In) (rIn K false) := hK ▸ op_in_seq
theorem call_isiK' (K : PySem.W.Frag) (hK : X.K = K) : CallR X (.builtin "isinstance") (rIsi K) := hK ▸ call_isi
theorem call_isiTK (K : PySem.W.Frag) (hK : X.K = K) : CallR X (.builtin "isinstance") (rIsiT K) := hK ▸ call_isiT
theorem ix_listK (K : PySem.W.Frag) (hK : X.K = K) : IxR X (rIxL K) := hK ▸ ix_list
theorem ix_tupK (K : PySem.W.Frag) (hK : X.K = K) : IxR X (rIxT K) := hK ▸ ix_tup
theorem call_len_seqK (K : PySem.W.Frag) (hK : X.K = K) : CallR X (.builtin "len") (fun xs H Q => ∃ p ys, xs = [.ref p] ∧ (SqL K H p ys ∨ SqT K H p ys) ∧ Q (.int ys.length) H) := hK ▸ call_len_seq
theorem call_list_ofK (K : PySem.W.Frag) (hK : X.K = K) : CallR X (.type "list") (fun xs H Q => ∃ p ys, xs = [.ref p] ∧ (SqL K H p ys ∨ SqT K H p ys) ∧ ∀ l, H l = none → Q (.ref l) (upd H l (.lst ys))) := hK ▸ call_list_of
theorem call_tuple_ofK (K : PySem.W.Frag) (hK : X.K = K) : CallR X (.type "tuple") (fun xs H Q => ∃ p ys, xs = [.ref p] ∧ ((SqL K H p ys ∧ ∀ l, H l = none → Q (.ref l) (upd H l (.tup ys))) ∨ (SqT K H p ys ∧ Q (.ref p) H))) := hK ▸ call_tuple_of
theorem op_eqDK (K : PySem.W.Frag) (hK : X.K = K) (h : X.A.units + 64 < cLine) : OpR X (compareOp .Eq) (rEqD K) := hK ▸ op_eqD h
theorem op_neDK (K : PySem.W.Frag) (hK : X.K = K) (h : X.A.units + 64 < cLine) : OpR X (compareOp .NotEq) (rNeD K) := hK ▸ op_neD h
end
theorem Paired.at2 {α β : Type} {F : α → β → Prop} : ∀ {l : List α} {m : List β} {i : Nat} {a : α} {b : β}, Paired F l m → l[i]? = some a → m[i]? = some b → F a b
  | _, _, _, _, _, .nil, h, _ => by simp at h
  | _, _, 0, _, _, .cons h _, h1, h2 => by
    simp at h1 h2
    rw [← h1, ← h2]
    exact h
  | _, _, i + 1, a, b, .cons _ r, h1, h2 => Paired.at2 (i := i) (a := a) (b := b) r (by simpa using h1) (by simpa using h2)
end Sr

set_option Elab.async false
set_option linter.all false
set_option maxRecDepth 100000
set_option maxHeartbeats 4000000
namespace Sr
open PySem PySem.Spec PyProof.Rows L2
/-! ### what a law's own steps leave: M is settled for ever, S may change -/
def DrawsO (o : HO) : Prop := ∃ x y z : Int, o = .lst [.int x, .int y, .int z]
def DrawsAt (H : Hp) (a : Addr) : Prop := ∃ o, H a = some o ∧ DrawsO o
structure Grow (S : List Addr) (M H M' H' : Hp) : Prop where
  stp : ∀ b o, b ∉ S → H b = some o → H' b = some o
  there : ∀ b, H b ≠ none → H' b ≠ none
  up : Same M M'
  nw : ∀ b o, M' b = some o → M b = some o ∨ H b = none
  sub : Same M' H'
theorem Grow.refl {S : List Addr} {M H : Hp} (s : Same M H) : Grow S M H M H := ⟨fun _ _ _ e => e, fun _ e => e, Same.refl _, fun _ _ e => .inl e, s⟩
theorem Grow.trans {S : List Addr} {M H M1 H1 M2 H2 : Hp} (g : Grow S M H M1 H1) (g' : Grow S M1 H1 M2 H2) : Grow S M H M2 H2 where
  stp := fun b o hb e => g'.stp b o hb (g.stp b o hb e)
  there := fun b e => g'.there b (g.there b e)
  up := g.up.trans g'.up
  nw := fun b o e => by
    rcases g'.nw b o e with h | h
    · exact g.nw b o h
    · cases q : H b with
      | none => exact .inr rfl
      | some u => exact absurd h (g.there b (by rw [q]; simp))
  sub := g'.sub
theorem Grow.mono {S S' : List Addr} {M H M' H' : Hp} (g : Grow S M H M' H') (h : ∀ b ∈ S, b ∈ S') : Grow S' M H M' H' :=
  ⟨fun b o hb e => g.stp b o (fun z => hb (h b z)) e, g.there, g.up, g.nw, g.sub⟩
/-- an address that stands and is not settled stays unsettled -/
theorem Grow.out {S : List Addr} {M H M' H' : Hp} (g : Grow S M H M' H') {b : Addr} (h1 : M b = none) (h2 : H b ≠ none) : M' b = none := by
  cases q : M' b with
  | none => rfl
  | some o =>
    rcases g.nw b o q with h | h
    · rw [h1] at h; cases h
    · exact absurd h h2
/-- nothing that stood is changed, nothing is settled -/
theorem Grow.same {S : List Addr} {M H H' : Hp} (s : Same M H) (e : Same H H') : Grow S M H M H' :=
  ⟨fun b o _ h => e b o h, fun b h => by
    cases q : H b with
    | none => exact absurd q h
    | some o => rw [e b o q]; simp, Same.refl _, fun _ _ h => .inl h, s.trans e⟩
/-- a new object, settled -/
theorem Grow.lay {S : List Addr} {M H : Hp} {p : Addr} {o : HO} (s : Same M H) (hp : H p = none) : Grow S M H (upd M p o) (upd H p o) := by
  have mp : M p = none := s.free hp
  refine ⟨fun b u _ e => Same.up hp b u e, fun b h => ?_, Same.up mp, fun b u e => ?_, fun b u e => ?_⟩
  · by_cases c : b = p
    · rw [c]; exact absurd hp (c ▸ h)
    · rw [upd_ne c]; exact h
  · by_cases c : b = p
    · rw [c]; exact .inr hp
    · rw [upd_ne c] at e; exact .inl e
  · by_cases c : b = p
    · rw [c] at e ⊢; rw [upd_same] at e ⊢; exact e
    · rw [upd_ne c] at e ⊢; exact s _ _ e
/-- an object that may change is changed -/
theorem Grow.chg {S : List Addr} {M H : Hp} {p : Addr} {o : HO} (s : Same M H) (mp : M p = none) (hS : p ∈ S) : Grow S M H M (upd H p o) :=
  ⟨fun b u hb e => by rw [upd_ne fun z => hb (by rw [z]; exact hS)]; exact e, fun b h => by
    by_cases c : b = p
    · rw [c, upd_same]; simp
    · rw [upd_ne c]; exact h, Same.refl _, fun _ _ h => .inl h, fun b u e => by
    rw [upd_ne fun z => by rw [z, mp] at e; cases e]
    exact s _ _ e⟩
/-- an object of one's own, made since, is changed -/
theorem Grow.own {S : List Addr} {M0 H0 M H : Hp} {p : Addr} {o : HO} (g : Grow S M0 H0 M H) (h0 : H0 p = none) (mp : M p = none) : Grow S M0 H0 M (upd H p o) :=
  ⟨fun b u hb e => by rw [upd_ne (ne_of_none e h0)]; exact g.stp b u hb e, fun b h => by
    by_cases c : b = p
    · rw [c, upd_same]; simp
    · rw [upd_ne c]; exact g.there b h, g.up, g.nw, fun b u e => by
    rw [upd_ne fun z => by rw [z, mp] at e; cases e]
    exact g.sub _ _ e⟩
/-- what was made since is settled from now on -/
theorem Grow.settle {S : List Addr} {M0 H0 M H : Hp} {p : Addr} {o : HO} (g : Grow S M0 H0 M H) (h0 : H0 p = none) (mp : M p = none) (hp : H p = some o) : Grow S M0 H0 (upd M p o) H :=
  ⟨g.stp, g.there, g.up.trans (Same.up mp), fun b u e => by
    by_cases c : b = p
    · rw [c]; exact .inr h0
    · rw [upd_ne c] at e; exact g.nw b u e, fun b u e => by
    by_cases c : b = p
    · rw [c] at e ⊢; rw [upd_same] at e; rw [hp]; exact e
    · rw [upd_ne c] at e; exact g.sub _ _ e⟩
theorem DrawsAt.some {H : Hp} {a : Addr} (d : DrawsAt H a) : H a ≠ none := by
  obtain ⟨o, e, _⟩ := d
  rw [e]
  simp
theorem seq_upd {K : PySem.W.Frag} {H : Hp} {a l : Addr} {o : HO} {xs : List V} (hn : l ≠ a) (h : SqL K H l xs ∨ SqT K H l xs) : SqL K (upd H a o) l xs ∨ SqT K (upd H a o) l xs := by
  have e : upd H a o l = H l := upd_ne hn
  rcases h with h | h
  · left
    rcases h with h | h
    · left
      rcases h with h | ⟨u, h⟩
      · exact .inl (e.trans h)
      · exact .inr ⟨u, e.trans h⟩
    · exact .inr h
  · right
    rcases h with h | h
    · left
      rcases h with h | ⟨u, h⟩
      · exact .inl (e.trans h)
      · exact .inr ⟨u, e.trans h⟩
    · exact .inr h
theorem atI_of {α : Type} {xs : List α} {i : Int} {j : Nat} {v : α} (e : i = (j : Int)) (h : xs[j]? = some v) : atI xs i = some v := by
  have hj : j < xs.length := (List.getElem?_eq_some_iff.mp h).1
  unfold atI ixN
  rw [if_pos (by omega), if_pos (by omega)]
  show xs[i.toNat]? = _
  rw [show i.toNat = j by omega]
  exact h
theorem iteB {b : Bool} {A B : Prop} (h1 : A) (h2 : B) : if b = true then A else B := by
  cases b
  · exact iteF h2
  · exact iteT h1
end Sr

set_option Elab.async false
set_option linter.all false
set_option maxRecDepth 100000
set_option maxHeartbeats 4000000
namespace K01
open PySem PySem.Spec PyProof.Rows L2 Sr
def top (i : Nat) : Stmt := PySem.Challenge.pw_seatroads_k01_events_known.main.body.getD i (.Pass ⟨0, 0, 0, 0⟩)
def signs : Str := "abcdefghijklmnopqrstuvwxyz0123456789"
/-- what the top leaves besides defs -/
structure Txt (K : PySem.W.Frag) (mg : Str → Option Value) : Prop where
  len : mg "len" = none
  isinstance : mg "isinstance" = none
  all : mg "all" = none
  set : mg "set" = none
  range : mg "range" = none
  sorted : mg "sorted" = none
  list : mg "list" = none
  tuple : mg "tuple" = none
  min : mg "min" = none
  int : mg "int" = none
  str : mg "str" = none
  bool : mg "bool" = none
  dict : mg "dict" = none
  gSigns : ∃ t, mg "SIGNS" = some (.str signs t)
  gLongest : ∃ t, mg "LONGEST" = some (.int 8 t)
  gGreatest : ∃ t, mg "GREATEST" = some (.int 1000000 t)
theorem Txt.e_SIGNS {X : Cx} {p : Pos} (T : Txt X.K X.mg) (h : Gl X "SIGNS" := by rfl) : PE X (.Name "SIGNS" p) (tC (.str signs)) := by
  obtain ⟨t, e⟩ := T.gSigns
  exact pe_glob h e ⟨t, rfl⟩
theorem Txt.e_LONGEST {X : Cx} {p : Pos} (T : Txt X.K X.mg) (h : Gl X "LONGEST" := by rfl) : PE X (.Name "LONGEST" p) (tC (.int 8)) := by
  obtain ⟨t, e⟩ := T.gLongest
  exact pe_glob h e ⟨t, rfl⟩
theorem Txt.e_GREATEST {X : Cx} {p : Pos} (T : Txt X.K X.mg) (h : Gl X "GREATEST" := by rfl) : PE X (.Name "GREATEST" p) (tC (.int 1000000)) := by
  obtain ⟨t, e⟩ := T.gGreatest
  exact pe_glob h e ⟨t, rfl⟩
/-! ### what the defs tell -/
def nameOk : Dt → Bool
  | .str s => (decide (1 ≤ s.length) && decide (s.length ≤ 8)) && s.cps.toList.all fun c => decide (c ∈ signs.cps.toList)
  | _ => false
def kindOk (ks : List Str) : Dt → Bool
  | .str s => decide (s ∈ ks)
  | _ => false
/-- of one datum: told a Bool, what stood stays -/
def spB (f : Dt → Bool) : Sp := fun vs H Q _ => ∃ v d, vs = [v] ∧ Is H v d ∧ ∀ H', Same H H' → Q (.bl (f d)) H'
theorem spB_len {f : Dt → Bool} (vs : List V) (H : Hp) (Q : VK) (E : XK) (h : spB f vs H Q E) : vs.length = 1 := by
  obtain ⟨v, d, rfl, _⟩ := h
  rfl
abbrev one {α : Type} {l : List α} (h : l.length = 1) : ∃ x, l = [x] := List.length_eq_one_iff.mp h
section
variable {P : Program} {w : World} {K : PySem.W.Frag} {mg : Str → Option Value} {base : Heap}
abbrev s_is_list : Stmt := top 5
theorem sc_is_list : FnScope ["thing"] ["thing"] (defScope s_is_list) := ⟨rfl, rfl, rfl, by decide +kernel, rfl, by decide +kernel, by decide +kernel⟩
theorem c_is_list (T : Txt K mg) (D : Dfn K mg "is_list" s_is_list) : Cal P w K mg base 1 "is_list" ["thing"] (spB isSeq) := by
  refine D.cal sc_is_list (fun _ _ _ _ _ _ us hl => match us, hl with | [_], _ => rfl) spB_len fun cdv A outer s H vs Q E hr h => ?_
  obtain ⟨v, d, rfl, hv, q⟩ := h
  refine ⟨_, (pss_one (ps_ret (pe_callB call_isiT (by rfl) T.isinstance (by decide +kernel) (pa_cons (pv 0) (pa_cons (pe_tup (pa_cons (pe_tyv (n := "list") (by rfl) T.list (by decide +kernel)) (pa_cons (pe_tyv (n := "tuple") (by rfl) T.tuple (by decide +kernel)) pa_nil))) pa_nil))))), ?_⟩
  refine ⟨_, rfl, two_line, fun p hp => ⟨v, p, [.ty "list", .ty "tuple"], .type (tyN d), [.type "list", .type "tuple"], _, rfl, upd_same, cls_two _ _, (hv.mono (Same.up hp)).ty, kit_seq K d, q _ (Same.up hp)⟩⟩
abbrev s_is_integer : Stmt := top 4
theorem sc_is_integer : FnScope ["thing"] ["thing"] (defScope s_is_integer) := ⟨rfl, rfl, rfl, by decide +kernel, rfl, by decide +kernel, by decide +kernel⟩
def isInteger (d : Dt) : Bool := isInt d && !isBl d
theorem c_is_integer (T : Txt K mg) (D : Dfn K mg "is_integer" s_is_integer) : Cal P w K mg base 1 "is_integer" ["thing"] (spB isInteger) := by
  refine D.cal sc_is_integer (fun _ _ _ _ _ _ us hl => match us, hl with | [_], _ => rfl) spB_len fun cdv A outer s H vs Q E hr h => ?_
  obtain ⟨v, d, rfl, hv, q⟩ := h
  refine ⟨_, (pss_one (ps_ret (pe_and (pe_callB call_isi (by rfl) T.isinstance (by decide +kernel) (pa_cons (pv 0) (pa_cons (pe_tyv (n := "int") (by rfl) T.int (by decide +kernel)) pa_nil))) (pe_one (pe_not (pe_callB call_isi (by rfl) T.isinstance (by decide +kernel) (pa_cons (pv 0) (pa_cons (pe_tyv (n := "bool") (by rfl) T.bool (by decide +kernel)) pa_nil)))))))), ?_⟩
  refine ⟨_, rfl, v, _, _, _, _, rfl, .ty _, hv.ty, kit_int K d, _, rfl, ?_⟩
  have e : isInteger d = if isInt d = true then !isBl d else false := by
    unfold isInteger
    cases isInt d <;> rfl
  cases c : isInt d with
  | true =>
    rw [c, if_pos rfl] at e
    exact iteT ⟨_, rfl, v, _, _, _, _, rfl, .ty _, hv.ty, kit_bool K d, _, rfl, by rw [← e]; exact q _ (Same.refl H)⟩
  | false =>
    rw [c] at e
    exact iteF (by rw [show (false : Bool) = isInteger d from e.symm]; exact q _ (Same.refl H))
abbrev s_is_name : Stmt := top 6
theorem sc_is_name : FnScope ["thing", "sign"] ["thing"] (defScope s_is_name) := ⟨rfl, rfl, rfl, by decide +kernel, rfl, by decide +kernel, by decide +kernel⟩
theorem c_is_name (T : Txt K mg) (D : Dfn K mg "is_name" s_is_name) : Cal P w K mg base 1 "is_name" ["thing"] (spB nameOk) := by
  refine D.cal sc_is_name (fun _ _ _ _ _ _ us hl => match us, hl with | [_], _ => rfl) spB_len fun cdv A outer s H vs Q E hr h => ?_
  obtain ⟨v, d, rfl, hv, q⟩ := h
  refine ⟨_, (pss_cons (ps_if (PW.pt (pw_or (pt_not (pt_val (pe_callB call_isi (by rfl) T.isinstance (by decide +kernel) (pa_cons (pv 0) (pa_cons (pe_tyv (n := "str") (by rfl) T.str (by decide +kernel)) pa_nil))))) (pw_or1 (pt_not (pt_chain op_le op_le pe_int (pe_callB call_len_str (by rfl) T.len (by decide +kernel) (pa_cons (pv 0) pa_nil)) (T.e_LONGEST)))))) (pss_one (ps_ret pe_bl)) pss_nil)
      (pss_one (ps_ret (pe_callB (cr_all rfl) (by rfl) T.all (by decide +kernel) (pa_cons (pe_lc (own := [("sign", 1)]) (g := gName 1) (tt := tYes) rfl sc_is_name.nd (pi_str (pv 0)) (blkOk_by (N := ["thing", "sign"]) (sc := defScope s_is_name) (by decide +kernel)) (fun _ _ _ _ _ => (pg_name (i := 1) sc_is_name.nd rfl (by first | exact Or.inl rfl | exact Or.inr rfl))) (fun _ _ _ _ _ => pts_nil) (fun _ _ _ _ _ => (pe_cmpR op_in_sign (pv 1) (T.e_SIGNS) (by rfl)))) pa_nil))))), ?_⟩
  refine ⟨_, rfl, v, _, _, _, _, rfl, .ty _, hv.ty, kit_str K d, _, rfl, ?_⟩
  cases hv with
  | str z hz =>
    refine iteF ?_
    refine ⟨_, rfl, z, rfl, Nat.le_of_lt (sz hz), _, _, rfl, rfl, _, rfl, ?_⟩
    have hS : z.cps.toList.length = z.cps.size := Array.length_toList
    have key : ∀ b : Bool, nameOk (.str z) = b → ∀ H', Same H H' → Q (.bl b) H' := fun b e => e ▸ q
    by_cases h1 : (1 : Int) ≤ (z.length : Int)
    · rw [decide_eq_true h1]
      refine iteT ⟨_, _, rfl, rfl, _, rfl, ?_⟩
      by_cases h2 : (z.length : Int) ≤ 8
      · rw [decide_eq_true h2]
        refine iteF ?_
        refine ⟨_, rfl, z, rfl, fun D hD => lc_pure walk_str (At := fun i x => ∃ c, z.cps[i]? = some c ∧ x = .str ⟨#[c]⟩) (fun _ _ _ _ y => y) ((z.cps.toList.map fun c => decide (c ∈ signs.cps.toList)).map V.bl)
          (by rw [List.length_map, List.length_map, hS]) (sz (m := 1000) hz) hD (fun _ _ => trivial) (fun i x y H1 Q hi hx hy s1 k => ?_) (fun H' s' h' => all_of h' ?_)⟩
        · obtain ⟨c, hc, rfl⟩ := hx
          refine ⟨_, rfl, c, signs, rfl, rfl, ?_⟩
          rw [List.getElem?_map, List.getElem?_map, Array.getElem?_toList, hc] at hy
          obtain rfl : V.bl (decide (c ∈ signs.cps.toList)) = y := Option.some.inj hy
          exact k _ (Same.refl _)
        · refine key _ ?_ H' s'
          show ((decide (1 ≤ z.length) && decide (z.length ≤ 8)) && _) = _
          rw [decide_eq_true (by omega), decide_eq_true (by omega), List.all_map]
          rfl
      · rw [decide_eq_false h2]
        refine iteT (key _ ?_ _ (Same.refl H))
        show ((decide (1 ≤ z.length) && decide (z.length ≤ 8)) && _) = _
        rw [decide_eq_false (show ¬ z.length ≤ 8 by omega), Bool.and_false, Bool.false_and]
    · rw [decide_eq_false h1]
      refine iteF ⟨_, rfl, iteT (key _ ?_ _ (Same.refl H))⟩
      show ((decide (1 ≤ z.length) && decide (z.length ≤ 8)) && _) = _
      rw [decide_eq_false (show ¬ 1 ≤ z.length by omega), Bool.false_and, Bool.false_and]
  | _ => exact iteT (q _ (Same.refl H))
abbrev s_is_points : Stmt := top 7
theorem sc_is_points : FnScope ["thing"] ["thing"] (defScope s_is_points) := ⟨rfl, rfl, rfl, by decide +kernel, rfl, by decide +kernel, by decide +kernel⟩
def pointsOk : Dt → Bool
  | .int i => decide (0 ≤ i) && decide (i ≤ 1000000)
  | _ => false
theorem c_is_points (T : Txt K mg) (D : Dfn K mg "is_points" s_is_points) (C_is_integer : Cal P w K mg base 1 "is_integer" ["thing"] (spB isInteger)) : Cal P w K mg base 2 "is_points" ["thing"] (spB pointsOk) := by
  refine D.cal sc_is_points (fun _ _ _ _ _ _ us hl => match us, hl with | [_], _ => rfl) spB_len fun cdv A outer s H vs Q E hr h => ?_
  obtain ⟨v, d, rfl, hv, q⟩ := h
  refine ⟨_, (pss_one (ps_ret (pe_and (pe_cal C_is_integer hr (by decide) (by rfl) (pa_cons (pv 0) pa_nil)) (pe_one (pe_chain op_le op_le pe_int (pv 0) (T.e_GREATEST)))))), ?_⟩
  refine ⟨_, rfl, v, d, rfl, hv, fun H1 s1 => ⟨_, rfl, ?_⟩⟩
  have q1 : ∀ b, pointsOk d = b → ∀ H', Same H1 H' → Q (.bl b) H' := fun b e H' s' => e ▸ q H' (s1.trans s')
  cases hv with
  | int i =>
    refine iteT ⟨_, rfl, _, _, rfl, rfl, _, rfl, ?_⟩
    by_cases h1 : (0 : Int) ≤ i
    · rw [decide_eq_true h1]
      refine iteT ⟨_, _, rfl, rfl, q1 _ ?_ _ (Same.refl _)⟩
      show (decide (0 ≤ i) && _) = _
      rw [decide_eq_true h1, Bool.true_and]
    · rw [decide_eq_false h1]
      refine iteF (q1 _ ?_ _ (Same.refl _))
      show (decide (0 ≤ i) && _) = _
      rw [decide_eq_false h1, Bool.false_and]
  | _ => exact iteF (q1 _ rfl _ (Same.refl _))
/-! ### the office -/
/-- x is an office whose kinds are ks -/
def OffAt (K : PySem.W.Frag) (H : Hp) (x : Addr) (ks : List Str) : Prop := ∃ dx d kvs, H x = some (.ins (He.ga K "Office") dx [("_ranks", .ref d)]) ∧ H d = some (.dK kvs) ∧ ∀ s : Str, (valV kvs (Sum.inr s)).isSome = decide (s ∈ ks)
theorem OffAt.mono {K : PySem.W.Frag} {H H' : Hp} {x : Addr} {ks : List Str} (e : Same H H') (o : OffAt K H x ks) : OffAt K H' x ks := by
  obtain ⟨dx, d, kvs, h1, h2, h3⟩ := o
  exact ⟨dx, d, kvs, e _ _ h1, e _ _ h2, h3⟩
structure Off (K : PySem.W.Frag) (mg : Str → Option Value) : Prop where
  cl : Cls K (He.ga K "Office")
  nR : NoAttr K (He.ga K "Office") "_ranks"
  has : Has K (He.ga K "Office") (He.fAd K ("Office", some "__contains__"))
def spHas (K : PySem.W.Frag) : Sp := fun vs H Q _ => ∃ x v ks d, vs = [.ref x, v] ∧ OffAt K H x ks ∧ Is H v d ∧ ∀ H', Same H H' → Q (.bl (kindOk ks d)) H'
theorem spHas_mono (x y : V) (H : Hp) (Q Q' : VK) (E : XK) (h : ∀ v H', Q v H' → Q' v H') (p : spHas K [x, y] H Q E) : spHas K [x, y] H Q' E := by
  obtain ⟨a, v, ks, d, e, o, hv, q⟩ := p
  exact ⟨a, v, ks, d, e, o, hv, fun H' s' => h _ _ (q H' s')⟩
abbrev s_Office___contains__ : Stmt := inClass (top 24) 5
theorem sc_Office___contains__ : FnScope ["self", "thing"] ["self", "thing"] (defScope s_Office___contains__) := ⟨rfl, rfl, rfl, by decide +kernel, rfl, by decide +kernel, by decide +kernel⟩
theorem m_contains (T : Txt K mg) (O : Off K mg) (D : DfnM K "Office" "__contains__" "Office.__contains__" s_Office___contains__) : CalM P w K mg base CX0 1 (He.fAd K ("Office", some "__contains__")) ["self", "thing"] (spHas K) := by
  refine D.cal sc_Office___contains__ (fun _ _ _ _ _ _ us hl => match us, hl with | [_, _], _ => rfl) (fun vs H Q E h => ?_) fun cdv A outer s H vs Q E hr h => ?_
  · obtain ⟨x, v, ks, d, rfl, _⟩ := h
    rfl
  obtain ⟨x, v, ks, d, rfl, o, hv, q⟩ := h
  refine ⟨_, (pss_one (ps_ret (pe_and (pe_callB call_isi (by rfl) T.isinstance (by decide +kernel) (pa_cons (pv 1) (pa_cons (pe_tyv (n := "str") (by rfl) T.str (by decide +kernel)) pa_nil))) (pe_one (pe_cmp (pc_din (hu_of hr) (pv 1) (pe_fld (pv 0) rfl)) rfl))))), ?_⟩
  refine ⟨_, rfl, v, _, _, _, _, rfl, .ty _, hv.ty, kit_str K d, _, rfl, ?_⟩
  cases hv with
  | str z hz =>
    obtain ⟨dx, d, kvs, h1, h2, h3⟩ := o
    refine iteT ⟨_, rfl, _, rfl, x, _, dx, _, _, rfl, h1, O.cl, O.nR, rfl, d, _, rfl, DGet.k (k := Sum.inr z) h2, ?_⟩
    rw [h3 z]
    exact q H (Same.refl H)
  | _ => exact iteF (q H (Same.refl H))
end
end K01

set_option Elab.async false
set_option linter.all false
set_option maxRecDepth 100000
set_option maxHeartbeats 4000000
namespace K01
open PySem PySem.Spec PyProof.Rows L2 Sr
def wl (ks : List Str) (ds : List Dt) : Bool := ds.all (kindOk ks) && decide ((met (strsOf ds) (strsOf ds).length).length = (strsOf ds).length)
def wishesOk (ks : List Str) : Dt → Bool
  | .lst ds => wl ks ds
  | .tup ds => wl ks ds
  | _ => false
def homeOk (ks : List Str) : Dt → Bool
  | .non => true
  | d => kindOk ks d
theorem kind_str {ks : List Str} {ds : List Dt} (h : ds.all (kindOk ks) = true) : ds.all isStr = true := by
  rw [List.all_eq_true] at h ⊢
  intro d hd
  have := h d hd
  cases d <;> first | rfl | simp [kindOk] at this
/-- of an office and a datum -/
def spO (K : PySem.W.Frag) (f : List Str → Dt → Bool) : Sp := fun vs H Q _ => ∃ x v ks d, vs = [.ref x, v] ∧ OffAt K H x ks ∧ Is H v d ∧ ∀ H', Same H H' → Q (.bl (f ks d)) H'
theorem spO_len {K : PySem.W.Frag} {f : List Str → Dt → Bool} (vs : List V) (H : Hp) (Q : VK) (E : XK) (h : spO K f vs H Q E) : vs.length = 2 := by
  obtain ⟨x, v, ks, d, rfl, _⟩ := h
  rfl
section
variable {P : Program} {w : World} {K : PySem.W.Frag} {mg : Str → Option Value} {base : Heap}
abbrev s_is_wishes : Stmt := top 10
theorem sc_is_wishes : FnScope ["office", "thing", "kind"] ["office", "thing"] (defScope s_is_wishes) := ⟨rfl, rfl, rfl, by decide +kernel, rfl, by decide +kernel, by decide +kernel⟩
theorem c_is_wishes (T : Txt K mg) (O : Off K mg) (M : CalM P w K mg base CX0 1 (He.fAd K ("Office", some "__contains__")) ["self", "thing"] (spHas K)) (D : Dfn K mg "is_wishes" s_is_wishes) (C_is_list : Cal P w K mg base 1 "is_list" ["thing"] (spB isSeq)) :
    Cal P w K mg base 2 "is_wishes" ["office", "thing"] (spO K wishesOk) := by
  refine D.cal sc_is_wishes (fun _ _ _ _ _ _ us hl => match us, hl with | [_, _], _ => rfl) spO_len fun cdv A outer s H vs Q E hr h => ?_
  obtain ⟨x, v, ks, d, rfl, o, hv, q⟩ := h
  have turn : ∀ (xs : List V) (ds : List Dt) (H1 : Hp), Same H H1 → IsA H xs ds → ∀ (i : Nat) (u y : V) (H2 : Hp) (R : VK), xs[i]? = some u → ((ds.map (kindOk ks)).map V.bl)[i]? = some y → Same H1 H2 → (∀ H3, Same H2 H3 → R y H3) →
      (rInOwn (He.ga K "Office") (spHas K) E0 false) u (.ref x) H2 R := fun xs ds H1 s1 hA i u y H2 R hu hy s2 k => by
    obtain ⟨d, hd, hI⟩ := hA.get hu
    rw [List.getElem?_map, List.getElem?_map, hd] at hy
    obtain rfl : V.bl (kindOk ks d) = y := Option.some.inj hy
    obtain ⟨dx, dd, kvs, h1, _⟩ := id o
    exact ⟨x, dx, _, rfl, s2 _ _ (s1 _ _ h1), x, u, ks, d, rfl, o.mono (s1.trans s2), hI.mono (s1.trans s2), fun H3 s3 => ⟨_, rfl, k _ s3⟩⟩
  have fin : ∀ (xs : List V) (ds : List Dt) (H1 : Hp), Same H H1 → IsA H xs ds → xs.length ≤ 60 → wishesOk ks d = wl ks ds → ds.all (kindOk ks) = true → ∀ (H2 : Hp), Same H1 H2 →
      xs = (strsOf ds).map V.str ∧ ∀ H', Same H1 H' → Q (.bl (decide (V.int ((met (strsOf ds) (strsOf ds).length).length : Nat) = V.int (xs.length : Nat)))) H' := fun xs ds H1 s1 hA hz e1 e2 H2 s2 => by
    have ex := hA.strs (kind_str e2)
    refine ⟨ex, fun H' s' => ?_⟩
    have e : decide (V.int ((met (strsOf ds) (strsOf ds).length).length : Nat) = V.int (xs.length : Nat)) = wishesOk ks d := by
      rw [e1]
      unfold wl
      rw [e2, Bool.true_and]
      have el : xs.length = (strsOf ds).length := by
        have := congrArg List.length ex
        rwa [List.length_map] at this
      rw [el]
      by_cases c : (met (strsOf ds) (strsOf ds).length).length = (strsOf ds).length
      · rw [decide_eq_true c, decide_eq_true (by rw [c])]
      · rw [decide_eq_false c, decide_eq_false fun z => c (by injection z with z; exact Int.ofNat.inj z)]
    rw [e]
    exact q H' (s1.trans s')
  cases hv with
  | lst h r z =>
    rename_i a xs ds
    refine ⟨_, (pss_cons (ps_if (PW.pt (pw_or (pt_not (pt_val (pe_cal C_is_list hr (by decide) (by rfl) (pa_cons (pv 1) pa_nil)))) (pw_or1 (pt_not (pt_val (pe_callB (cr_all rfl) (by rfl) T.all (by decide +kernel) (pa_cons (pe_lc (own := [("kind", 2)]) (g := gName 2) (tt := tYes) rfl sc_is_wishes.nd (pi_list (pv 1)) (blkOk_by (N := ["office", "thing", "kind"]) (sc := defScope s_is_wishes) (by decide +kernel)) (fun _ _ _ _ _ => (pg_name (i := 2) sc_is_wishes.nd rfl (by first | exact Or.inl rfl | exact Or.inr rfl))) (fun _ _ _ _ _ => pts_nil) (fun _ _ _ _ _ => (pe_cmpR (op_has M hr (by decide) O.has spHas_mono) (pv 2) (pv 0) (by rfl)))) pa_nil))))))) (pss_one (ps_ret pe_bl)) pss_nil)
      (pss_one (ps_ret (pe_cmpR op_eq (pe_lenSetT rfl (by rfl) T.len (by rfl) T.set (pv 1)) (pe_callB call_len_seq (by rfl) T.len (by decide +kernel) (pa_cons (pv 1) pa_nil)) (nomark _))))), ?_⟩
    refine ⟨_, rfl, _, _, rfl, .lst h r z, fun H1 s1 => ⟨_, rfl, iteF ⟨_, rfl, a, rfl, ⟨_, SqL.of (s1 _ _ h)⟩, fun D hD => lc_pure walk_list walk_at ((ds.map (kindOk ks)).map V.bl) (by rw [List.length_map, List.length_map, r.len]) (sz z) hD (fun H2 s2 => SqL.of (s2 _ _ (s1 _ _ h)))
      (fun i u y H2 R hi hu hy s2 k => ⟨_, rfl, _, rfl, turn xs ds H1 s1 r i u y H2 R hu hy s2 k⟩) (fun H2 s2 h2 => ⟨D, ds.map (kindOk ks), rfl, SqL.of h2, ?_⟩)⟩⟩⟩
    refine ⟨_, rfl, ?_⟩
    rw [List.all_map]
    cases c : ds.all (kindOk ks) with
    | true =>
      obtain ⟨ex, q2⟩ := fin xs ds H1 s1 r z rfl c H2 s2
      rw [show ds.all (id ∘ kindOk ks) = true from c]
      refine iteF ⟨_, rfl, a, strsOf ds, rfl, .inl (by rw [← ex]; exact SqL.of (s2 _ _ (s1 _ _ h))), by have := congrArg List.length ex; rw [List.length_map] at this; omega, _, rfl, a, xs, rfl, .inl (SqL.of (s2 _ _ (s1 _ _ h))), rfl, q2 _ s2⟩
    | false =>
      rw [show ds.all (id ∘ kindOk ks) = false from c]
      have e : wishesOk ks (.lst ds) = false := by show wl ks ds = false; unfold wl; rw [c]; rfl
      refine iteT ?_
      have := q H2 (s1.trans s2)
      rw [e] at this
      exact this
  | tup h r z =>
    rename_i a xs ds
    refine ⟨_, (pss_cons (ps_if (PW.pt (pw_or (pt_not (pt_val (pe_cal C_is_list hr (by decide) (by rfl) (pa_cons (pv 1) pa_nil)))) (pw_or1 (pt_not (pt_val (pe_callB (cr_all rfl) (by rfl) T.all (by decide +kernel) (pa_cons (pe_lc (own := [("kind", 2)]) (g := gName 2) (tt := tYes) rfl sc_is_wishes.nd (pi_tup (pv 1)) (blkOk_by (N := ["office", "thing", "kind"]) (sc := defScope s_is_wishes) (by decide +kernel)) (fun _ _ _ _ _ => (pg_name (i := 2) sc_is_wishes.nd rfl (by first | exact Or.inl rfl | exact Or.inr rfl))) (fun _ _ _ _ _ => pts_nil) (fun _ _ _ _ _ => (pe_cmpR (op_has M hr (by decide) O.has spHas_mono) (pv 2) (pv 0) (by rfl)))) pa_nil))))))) (pss_one (ps_ret pe_bl)) pss_nil)
      (pss_one (ps_ret (pe_cmpR op_eq (pe_lenSetT rfl (by rfl) T.len (by rfl) T.set (pv 1)) (pe_callB call_len_seq (by rfl) T.len (by decide +kernel) (pa_cons (pv 1) pa_nil)) (nomark _))))), ?_⟩
    refine ⟨_, rfl, _, _, rfl, .tup h r z, fun H1 s1 => ⟨_, rfl, iteF ⟨_, rfl, a, rfl, ⟨_, SqT.of (s1 _ _ h)⟩, fun D hD => lc_pure walk_tup walk_at ((ds.map (kindOk ks)).map V.bl) (by rw [List.length_map, List.length_map, r.len]) (sz z) hD (fun H2 s2 => SqT.of (s2 _ _ (s1 _ _ h)))
      (fun i u y H2 R hi hu hy s2 k => ⟨_, rfl, _, rfl, turn xs ds H1 s1 r i u y H2 R hu hy s2 k⟩) (fun H2 s2 h2 => ⟨D, ds.map (kindOk ks), rfl, SqL.of h2, ?_⟩)⟩⟩⟩
    refine ⟨_, rfl, ?_⟩
    rw [List.all_map]
    cases c : ds.all (kindOk ks) with
    | true =>
      obtain ⟨ex, q2⟩ := fin xs ds H1 s1 r z rfl c H2 s2
      rw [show ds.all (id ∘ kindOk ks) = true from c]
      refine iteF ⟨_, rfl, a, strsOf ds, rfl, .inr (by rw [← ex]; exact SqT.of (s2 _ _ (s1 _ _ h))), by have := congrArg List.length ex; rw [List.length_map] at this; omega, _, rfl, a, xs, rfl, .inr (SqT.of (s2 _ _ (s1 _ _ h))), rfl, q2 _ s2⟩
    | false =>
      rw [show ds.all (id ∘ kindOk ks) = false from c]
      have e : wishesOk ks (.tup ds) = false := by show wl ks ds = false; unfold wl; rw [c]; rfl
      refine iteT ?_
      have := q H2 (s1.trans s2)
      rw [e] at this
      exact this
  | non => exact ⟨_, (pss_cons (ps_if (PW.pt (pw_or (pt_not (pt_val (pe_cal C_is_list hr (by decide) (by rfl) (pa_cons (pv 1) pa_nil)))) (pw_or1 (pt_not (pt_val (pe_callB (cr_all rfl) (by rfl) T.all (by decide +kernel) (pa_cons (pe_lc (own := [("kind", 2)]) (g := gName 2) (tt := tYes) rfl sc_is_wishes.nd (pi_list (pv 1)) (blkOk_by (N := ["office", "thing", "kind"]) (sc := defScope s_is_wishes) (by decide +kernel)) (fun _ _ _ _ _ => (pg_name (i := 2) sc_is_wishes.nd rfl (by first | exact Or.inl rfl | exact Or.inr rfl))) (fun _ _ _ _ _ => pts_nil) (fun _ _ _ _ _ => (pe_cmpR (op_has M hr (by decide) O.has spHas_mono) (pv 2) (pv 0) (by rfl)))) pa_nil))))))) (pss_one (ps_ret pe_bl)) pss_nil)
      (pss_one (ps_ret (pe_cmpR op_eq (pe_lenSetT rfl (by rfl) T.len (by rfl) T.set (pv 1)) (pe_callB call_len (by rfl) T.len (by decide +kernel) (pa_cons (pv 1) pa_nil)) (nomark _))))), _, rfl, _, _, rfl, .non, fun H1 s1 => ⟨_, rfl, iteT (q _ s1)⟩⟩
  | bl b => exact ⟨_, (pss_cons (ps_if (PW.pt (pw_or (pt_not (pt_val (pe_cal C_is_list hr (by decide) (by rfl) (pa_cons (pv 1) pa_nil)))) (pw_or1 (pt_not (pt_val (pe_callB (cr_all rfl) (by rfl) T.all (by decide +kernel) (pa_cons (pe_lc (own := [("kind", 2)]) (g := gName 2) (tt := tYes) rfl sc_is_wishes.nd (pi_list (pv 1)) (blkOk_by (N := ["office", "thing", "kind"]) (sc := defScope s_is_wishes) (by decide +kernel)) (fun _ _ _ _ _ => (pg_name (i := 2) sc_is_wishes.nd rfl (by first | exact Or.inl rfl | exact Or.inr rfl))) (fun _ _ _ _ _ => pts_nil) (fun _ _ _ _ _ => (pe_cmpR (op_has M hr (by decide) O.has spHas_mono) (pv 2) (pv 0) (by rfl)))) pa_nil))))))) (pss_one (ps_ret pe_bl)) pss_nil)
      (pss_one (ps_ret (pe_cmpR op_eq (pe_lenSetT rfl (by rfl) T.len (by rfl) T.set (pv 1)) (pe_callB call_len (by rfl) T.len (by decide +kernel) (pa_cons (pv 1) pa_nil)) (nomark _))))), _, rfl, _, _, rfl, .bl b, fun H1 s1 => ⟨_, rfl, iteT (q _ s1)⟩⟩
  | int b => exact ⟨_, (pss_cons (ps_if (PW.pt (pw_or (pt_not (pt_val (pe_cal C_is_list hr (by decide) (by rfl) (pa_cons (pv 1) pa_nil)))) (pw_or1 (pt_not (pt_val (pe_callB (cr_all rfl) (by rfl) T.all (by decide +kernel) (pa_cons (pe_lc (own := [("kind", 2)]) (g := gName 2) (tt := tYes) rfl sc_is_wishes.nd (pi_list (pv 1)) (blkOk_by (N := ["office", "thing", "kind"]) (sc := defScope s_is_wishes) (by decide +kernel)) (fun _ _ _ _ _ => (pg_name (i := 2) sc_is_wishes.nd rfl (by first | exact Or.inl rfl | exact Or.inr rfl))) (fun _ _ _ _ _ => pts_nil) (fun _ _ _ _ _ => (pe_cmpR (op_has M hr (by decide) O.has spHas_mono) (pv 2) (pv 0) (by rfl)))) pa_nil))))))) (pss_one (ps_ret pe_bl)) pss_nil)
      (pss_one (ps_ret (pe_cmpR op_eq (pe_lenSetT rfl (by rfl) T.len (by rfl) T.set (pv 1)) (pe_callB call_len (by rfl) T.len (by decide +kernel) (pa_cons (pv 1) pa_nil)) (nomark _))))), _, rfl, _, _, rfl, .int b, fun H1 s1 => ⟨_, rfl, iteT (q _ s1)⟩⟩
  | str b z => exact ⟨_, (pss_cons (ps_if (PW.pt (pw_or (pt_not (pt_val (pe_cal C_is_list hr (by decide) (by rfl) (pa_cons (pv 1) pa_nil)))) (pw_or1 (pt_not (pt_val (pe_callB (cr_all rfl) (by rfl) T.all (by decide +kernel) (pa_cons (pe_lc (own := [("kind", 2)]) (g := gName 2) (tt := tYes) rfl sc_is_wishes.nd (pi_list (pv 1)) (blkOk_by (N := ["office", "thing", "kind"]) (sc := defScope s_is_wishes) (by decide +kernel)) (fun _ _ _ _ _ => (pg_name (i := 2) sc_is_wishes.nd rfl (by first | exact Or.inl rfl | exact Or.inr rfl))) (fun _ _ _ _ _ => pts_nil) (fun _ _ _ _ _ => (pe_cmpR (op_has M hr (by decide) O.has spHas_mono) (pv 2) (pv 0) (by rfl)))) pa_nil))))))) (pss_one (ps_ret pe_bl)) pss_nil)
      (pss_one (ps_ret (pe_cmpR op_eq (pe_lenSetT rfl (by rfl) T.len (by rfl) T.set (pv 1)) (pe_callB call_len (by rfl) T.len (by decide +kernel) (pa_cons (pv 1) pa_nil)) (nomark _))))), _, rfl, _, _, rfl, .str b z, fun H1 s1 => ⟨_, rfl, iteT (q _ s1)⟩⟩
  | dic z => exact ⟨_, (pss_cons (ps_if (PW.pt (pw_or (pt_not (pt_val (pe_cal C_is_list hr (by decide) (by rfl) (pa_cons (pv 1) pa_nil)))) (pw_or1 (pt_not (pt_val (pe_callB (cr_all rfl) (by rfl) T.all (by decide +kernel) (pa_cons (pe_lc (own := [("kind", 2)]) (g := gName 2) (tt := tYes) rfl sc_is_wishes.nd (pi_list (pv 1)) (blkOk_by (N := ["office", "thing", "kind"]) (sc := defScope s_is_wishes) (by decide +kernel)) (fun _ _ _ _ _ => (pg_name (i := 2) sc_is_wishes.nd rfl (by first | exact Or.inl rfl | exact Or.inr rfl))) (fun _ _ _ _ _ => pts_nil) (fun _ _ _ _ _ => (pe_cmpR (op_has M hr (by decide) O.has spHas_mono) (pv 2) (pv 0) (by rfl)))) pa_nil))))))) (pss_one (ps_ret pe_bl)) pss_nil)
      (pss_one (ps_ret (pe_cmpR op_eq (pe_lenSetT rfl (by rfl) T.len (by rfl) T.set (pv 1)) (pe_callB call_len (by rfl) T.len (by decide +kernel) (pa_cons (pv 1) pa_nil)) (nomark _))))), _, rfl, _, _, rfl, .dic z, fun H1 s1 => ⟨_, rfl, iteT (q _ s1)⟩⟩
end
end K01

set_option Elab.async false
set_option linter.all false
set_option maxRecDepth 100000
set_option maxHeartbeats 4000000
namespace K01
open PySem PySem.Spec PyProof.Rows L2 Sr
def comeOk (ks : List Str) : List Dt → Bool
  | [n, w, p, h] => nameOk n && (wishesOk ks w && (pointsOk p && homeOk ks h))
  | _ => false
def kindForm (ks : List Str) : List Dt → Bool
  | [k] => kindOk ks k
  | _ => false
def nameForm (_ : List Str) : List Dt → Bool
  | [n] => nameOk n
  | _ => false
def changeForm (ks : List Str) : List Dt → Bool
  | [n, w] => nameOk n && wishesOk ks w
  | _ => false
def alone (_ : List Str) (ds : List Dt) : Bool := ds.isEmpty
def formOk (s : Str) (ks : List Str) (ds : List Dt) : Bool :=
  if s = "come" then comeOk ks ds else if s = "place" then kindForm ks ds else if s = "leave" then nameForm ks ds else if s = "withdraw" then kindForm ks ds else
  if s = "change" then changeForm ks ds else if s = "gather" then alone ks ds else if s = "round" then alone ks ds else false
def evOk (ks : List Str) : Dt → Bool
  | .lst (.str s :: r) => formOk s ks r
  | .tup (.str s :: r) => formOk s ks r
  | _ => false
/-- of an office and a list of data -/
def spR (K : PySem.W.Frag) (f : List Str → List Dt → Bool) : Sp := fun vs H Q _ => ∃ x l ks xs ds, vs = [.ref x, .ref l] ∧ OffAt K H x ks ∧ H l = some (.lst xs) ∧ IsA H xs ds ∧ xs.length ≤ 60 ∧ ∀ H', Same H H' → Q (.bl (f ks ds)) H'
theorem spR_len {K : PySem.W.Frag} {f : List Str → List Dt → Bool} (vs : List V) (H : Hp) (Q : VK) (E : XK) (h : spR K f vs H Q E) : vs.length = 2 := by
  obtain ⟨x, l, ks, xs, ds, rfl, _⟩ := h
  rfl
theorem spR_imp {K : PySem.W.Frag} {f g : List Str → List Dt → Bool} (e : ∀ ks ds, g ks ds = f ks ds) {vs : List V} {H : Hp} {Q : VK} {E : XK} (h : spR K g vs H Q E) : spR K f vs H Q E := by
  have : g = f := funext fun ks => funext fun ds => e ks ds
  rw [← this]
  exact h
theorem lenN (n m : Nat) : decide (V.int (n : Nat) = V.int (m : Nat)) = decide (n = m) := by
  by_cases c : n = m
  · rw [decide_eq_true c, decide_eq_true (by rw [c])]
  · rw [decide_eq_false c, decide_eq_false fun z => c (by injection z with z; exact Int.ofNat.inj z)]
section
variable {P : Program} {w : World} {K : PySem.W.Frag} {mg : Str → Option Value} {base : Heap}
abbrev s_is_home : Stmt := top 11
theorem sc_is_home : FnScope ["office", "thing"] ["office", "thing"] (defScope s_is_home) := ⟨rfl, rfl, rfl, by decide +kernel, rfl, by decide +kernel, by decide +kernel⟩
theorem c_is_home (T : Txt K mg) (O : Off K mg) (M : CalM P w K mg base CX0 1 (He.fAd K ("Office", some "__contains__")) ["self", "thing"] (spHas K)) (D : Dfn K mg "is_home" s_is_home) : Cal P w K mg base 2 "is_home" ["office", "thing"] (spO K homeOk) := by
  refine D.cal sc_is_home (fun _ _ _ _ _ _ us hl => match us, hl with | [_, _], _ => rfl) spO_len fun cdv A outer s H vs Q E hr h => ?_
  obtain ⟨x, v, ks, d, rfl, o, hv, q⟩ := h
  refine ⟨_, (pss_one (ps_ret (pe_or (pe_cmpR op_isN (pv 1) pe_non (nomark _)) (pe_one (pe_cmpR (op_has M hr (by decide) O.has spHas_mono) (pv 1) (pv 0) (by rfl)))))), ?_⟩
  refine ⟨_, rfl, rfl, _, rfl, ?_⟩
  obtain ⟨dx, dd, kvs, h1, _⟩ := id o
  have go : homeOk ks d = kindOk ks d → v ≠ .non → (if decide (v = .non) = true then Q (.bl true) H else
      (tOp (rInOwn (He.ga K "Office") (spHas K) E0 false) (tVar 1) (tVar 0)) (start ["office", "thing"] [.ref x, v]) H Q) := fun e hn => by
    rw [decide_eq_false hn]
    exact iteF ⟨_, rfl, _, rfl, x, dx, _, rfl, h1, x, v, ks, d, rfl, o, hv, fun H' s' => ⟨_, rfl, by rw [e] at q; exact q H' s'⟩⟩
  cases hv with
  | non => exact iteT (q H (Same.refl H))
  | _ => exact go rfl (by simp)
abbrev s__is_come : Stmt := top 12
theorem sc__is_come : FnScope ["office", "rest", "name", "wishes", "points", "home"] ["office", "rest"] (defScope s__is_come) := ⟨rfl, rfl, rfl, by decide +kernel, rfl, by decide +kernel, by decide +kernel⟩
theorem c__is_come (T : Txt K mg) (D : Dfn K mg "_is_come" s__is_come) (C_is_name : Cal P w K mg base 1 "is_name" ["thing"] (spB nameOk)) (C_is_wishes : Cal P w K mg base 2 "is_wishes" ["office", "thing"] (spO K wishesOk))
    (C_is_points : Cal P w K mg base 2 "is_points" ["thing"] (spB pointsOk)) (C_is_home : Cal P w K mg base 2 "is_home" ["office", "thing"] (spO K homeOk)) : Cal P w K mg base 3 "_is_come" ["office", "rest"] (spR K comeOk) := by
  refine D.cal sc__is_come (fun _ _ _ _ _ _ us hl => match us, hl with | [_, _], _ => rfl) spR_len fun cdv A outer s H vs Q E hr h => ?_
  obtain ⟨x, l, ks, xs, ds, rfl, o, hl, r, z, q⟩ := h
  refine ⟨_, (pss_cons (ps_if (pt_cmpR op_ne (pe_callB call_len_seq (by rfl) T.len (by decide +kernel) (pa_cons (pv 1) pa_nil)) pe_int (nomark _)) (pss_one (ps_ret pe_bl)) pss_nil)
      (pss_cons (ps_asg (pv 1) (pg_lst rfl (pgs_cons (pg_name (i := 2) sc__is_come.nd rfl (by first | exact Or.inl rfl | exact Or.inr rfl)) (pgs_cons (pg_name (i := 3) sc__is_come.nd rfl (by first | exact Or.inl rfl | exact Or.inr rfl)) (pgs_cons (pg_name (i := 4) sc__is_come.nd rfl (by first | exact Or.inl rfl | exact Or.inr rfl)) (pgs_cons (pg_name (i := 5) sc__is_come.nd rfl (by first | exact Or.inl rfl | exact Or.inr rfl)) pgs_nil))))))
      (pss_one (ps_ret (pe_and (pe_cal C_is_name hr (by decide) (by rfl) (pa_cons (pv 2) pa_nil)) (pe_and (pe_cal C_is_wishes hr (by decide) (by rfl) (pa_cons (pv 0) (pa_cons (pv 3) pa_nil))) (pe_and (pe_cal C_is_points hr (by decide) (by rfl) (pa_cons (pv 4) pa_nil)) (pe_one (pe_cal C_is_home hr (by decide) (by rfl) (pa_cons (pv 0) (pa_cons (pv 5) pa_nil))))))))))), ?_⟩
  refine ⟨_, rfl, l, xs, rfl, .inl (SqL.of hl), rfl, _, rfl, ?_⟩
  rw [show decide (V.int (xs.length : Nat) = V.int 4) = decide (xs.length = 4) from lenN _ 4]
  by_cases c : xs.length = 4
  · rw [decide_eq_true c]
    refine iteF ?_
    match xs, ds, r, c with
    | [v1, v2, v3, v4], [d1, d2, d3, d4], .cons i1 (.cons i2 (.cons i3 (.cons i4 .nil))), _ =>
      refine ⟨_, rfl, l, _, rfl, SqL.of hl, rfl, _, _, rfl, _, _, rfl, _, _, rfl, _, _, rfl, rfl, ?_⟩
      refine ⟨_, rfl, v1, d1, rfl, i1, fun H1 s1 => ⟨_, rfl, ?_⟩⟩
      have e0 : comeOk ks [d1, d2, d3, d4] = (nameOk d1 && (wishesOk ks d2 && (pointsOk d3 && homeOk ks d4))) := rfl
      cases c1 : nameOk d1 with
      | false => exact iteF (by rw [e0, c1] at q; exact q _ s1)
      | true =>
        refine iteT ⟨_, rfl, _, rfl, x, v2, ks, d2, rfl, o.mono s1, i2.mono s1, fun H2 s2 => ⟨_, rfl, ?_⟩⟩
        cases c2 : wishesOk ks d2 with
        | false => exact iteF (by rw [e0, c1, c2] at q; exact q _ (s1.trans s2))
        | true =>
          refine iteT ⟨_, rfl, v3, d3, rfl, i3.mono (s1.trans s2), fun H3 s3 => ⟨_, rfl, ?_⟩⟩
          cases c3 : pointsOk d3 with
          | false => exact iteF (by rw [e0, c1, c2, c3] at q; exact q _ ((s1.trans s2).trans s3))
          | true =>
            refine iteT ⟨_, rfl, _, rfl, x, v4, ks, d4, rfl, o.mono ((s1.trans s2).trans s3), i4.mono ((s1.trans s2).trans s3), fun H4 s4 => ?_⟩
            rw [e0, c1, c2, c3] at q
            exact q _ (((s1.trans s2).trans s3).trans s4)
  · rw [decide_eq_false c]
    have e : comeOk ks ds = false := by
      have := r.len
      match ds, this with
      | [], _ => rfl
      | [_], _ => rfl
      | [_, _], _ => rfl
      | [_, _, _], _ => rfl
      | [_, _, _, _], h => exact absurd h c
      | _ :: _ :: _ :: _ :: _ :: _, _ => rfl
    exact iteT (by rw [e] at q; exact q H (Same.refl H))
end
end K01

set_option Elab.async false
set_option linter.all false
set_option maxRecDepth 100000
set_option maxHeartbeats 4000000
namespace K01
open PySem PySem.Spec PyProof.Rows L2 Sr
/-- the table of the forms -/
structure Frm (K : PySem.W.Frag) (w : World) (mg : Str → Option Value) : Prop where
  at_ : mg "FORMS" = some (.ref (He.ga K "FORMS"))
  dict : ∃ es n, KDict K w (He.ga K "FORMS") es n
  come : PySem.W.nsIn K (He.ga K "FORMS") "come" = some (some (.ref (He.ga K "_is_come")))
  place : PySem.W.nsIn K (He.ga K "FORMS") "place" = some (some (.ref (He.ga K "_is_of_kind")))
  leave : PySem.W.nsIn K (He.ga K "FORMS") "leave" = some (some (.ref (He.ga K "_is_of_person")))
  withdraw : PySem.W.nsIn K (He.ga K "FORMS") "withdraw" = some (some (.ref (He.ga K "_is_of_kind")))
  change : PySem.W.nsIn K (He.ga K "FORMS") "change" = some (some (.ref (He.ga K "_is_change")))
  gather : PySem.W.nsIn K (He.ga K "FORMS") "gather" = some (some (.ref (He.ga K "_is_alone")))
  round : PySem.W.nsIn K (He.ga K "FORMS") "round" = some (some (.ref (He.ga K "_is_alone")))
  out : ∀ z : Str, z ∉ (["come", "place", "leave", "withdraw", "change", "gather", "round"] : List Str) → PySem.W.nsIn K (He.ga K "FORMS") z = some none
theorem Frm.pe {X : Cx} {p : Pos} (F : Frm X.K X.w X.mg) (h : Gl X "FORMS" := by rfl) : PE X (.Name "FORMS" p) (tC (.ref (He.ga X.K "FORMS"))) := pe_glob h F.at_ rfl
section
variable {P : Program} {w : World} {K : PySem.W.Frag} {mg : Str → Option Value} {base : Heap}
abbrev s__is_of_kind : Stmt := top 13
theorem sc__is_of_kind : FnScope ["office", "rest"] ["office", "rest"] (defScope s__is_of_kind) := ⟨rfl, rfl, rfl, by decide +kernel, rfl, by decide +kernel, by decide +kernel⟩
theorem c__is_of_kind (T : Txt K mg) (O : Off K mg) (M : CalM P w K mg base CX0 1 (He.fAd K ("Office", some "__contains__")) ["self", "thing"] (spHas K)) (D : Dfn K mg "_is_of_kind" s__is_of_kind) : Cal P w K mg base 2 "_is_of_kind" ["office", "rest"] (spR K kindForm) := by
  refine D.cal sc__is_of_kind (fun _ _ _ _ _ _ us hl => match us, hl with | [_, _], _ => rfl) spR_len fun cdv A outer s H vs Q E hr h => ?_
  obtain ⟨x, l, ks, xs, ds, rfl, o, hl, r, z, q⟩ := h
  refine ⟨_, (pss_one (ps_ret (pe_and (pe_cmpR op_eq (pe_callB call_len_seq (by rfl) T.len (by decide +kernel) (pa_cons (pv 1) pa_nil)) pe_int (nomark _)) (pe_one (pe_cmpR (op_has M hr (by decide) O.has spHas_mono) (pe_ix ix_list (pv 1) pe_int (fun _ _ => rfl)) (pv 0) (by rfl)))))), ?_⟩
  refine ⟨_, rfl, l, xs, rfl, .inl (SqL.of hl), rfl, _, rfl, ?_⟩
  rw [show decide (V.int (xs.length : Nat) = V.int 1) = decide (xs.length = 1) from lenN _ 1]
  obtain ⟨dx, dd, kvs, h1, _⟩ := id o
  match xs, ds, r with
  | [], _, .nil => exact iteF (q H (Same.refl H))
  | [v], _, .cons (d := d) i .nil => exact iteT ⟨_, rfl, l, _, _, _, rfl, rfl, SqL.of hl, rfl, _, rfl, x, dx, _, rfl, h1, x, v, ks, d, rfl, o, i, fun H' s' => ⟨_, rfl, q H' s'⟩⟩
  | _ :: _ :: t, _, .cons _ (.cons _ r2) =>
    rw [decide_eq_false (by simp)]
    exact iteF (q H (Same.refl H))
abbrev s__is_of_person : Stmt := top 14
theorem sc__is_of_person : FnScope ["office", "rest"] ["office", "rest"] (defScope s__is_of_person) := ⟨rfl, rfl, rfl, by decide +kernel, rfl, by decide +kernel, by decide +kernel⟩
theorem c__is_of_person (T : Txt K mg) (D : Dfn K mg "_is_of_person" s__is_of_person) (C_is_name : Cal P w K mg base 1 "is_name" ["thing"] (spB nameOk)) : Cal P w K mg base 2 "_is_of_person" ["office", "rest"] (spR K nameForm) := by
  refine D.cal sc__is_of_person (fun _ _ _ _ _ _ us hl => match us, hl with | [_, _], _ => rfl) spR_len fun cdv A outer s H vs Q E hr h => ?_
  obtain ⟨x, l, ks, xs, ds, rfl, o, hl, r, z, q⟩ := h
  refine ⟨_, (pss_one (ps_ret (pe_and (pe_cmpR op_eq (pe_callB call_len_seq (by rfl) T.len (by decide +kernel) (pa_cons (pv 1) pa_nil)) pe_int (nomark _)) (pe_one (pe_cal C_is_name hr (by decide) (by rfl) (pa_cons (pe_ix ix_list (pv 1) pe_int (fun _ _ => rfl)) pa_nil)))))), ?_⟩
  refine ⟨_, rfl, l, xs, rfl, .inl (SqL.of hl), rfl, _, rfl, ?_⟩
  rw [show decide (V.int (xs.length : Nat) = V.int 1) = decide (xs.length = 1) from lenN _ 1]
  match xs, ds, r with
  | [], _, .nil => exact iteF (q H (Same.refl H))
  | [v], _, .cons (d := d) i .nil => exact iteT ⟨_, rfl, l, _, _, _, rfl, rfl, SqL.of hl, rfl, v, d, rfl, i, fun H' s' => q H' s'⟩
  | _ :: _ :: t, _, .cons _ (.cons _ r2) =>
    rw [decide_eq_false (by simp)]
    exact iteF (q H (Same.refl H))
abbrev s__is_change : Stmt := top 15
theorem sc__is_change : FnScope ["office", "rest"] ["office", "rest"] (defScope s__is_change) := ⟨rfl, rfl, rfl, by decide +kernel, rfl, by decide +kernel, by decide +kernel⟩
theorem c__is_change (T : Txt K mg) (D : Dfn K mg "_is_change" s__is_change) (C_is_name : Cal P w K mg base 1 "is_name" ["thing"] (spB nameOk)) (C_is_wishes : Cal P w K mg base 2 "is_wishes" ["office", "thing"] (spO K wishesOk)) : Cal P w K mg base 3 "_is_change" ["office", "rest"] (spR K changeForm) := by
  refine D.cal sc__is_change (fun _ _ _ _ _ _ us hl => match us, hl with | [_, _], _ => rfl) spR_len fun cdv A outer s H vs Q E hr h => ?_
  obtain ⟨x, l, ks, xs, ds, rfl, o, hl, r, z, q⟩ := h
  refine ⟨_, (pss_one (ps_ret (pe_and (pe_cmpR op_eq (pe_callB call_len_seq (by rfl) T.len (by decide +kernel) (pa_cons (pv 1) pa_nil)) pe_int (nomark _)) (pe_and (pe_cal C_is_name hr (by decide) (by rfl) (pa_cons (pe_ix ix_list (pv 1) pe_int (fun _ _ => rfl)) pa_nil)) (pe_one (pe_cal C_is_wishes hr (by decide) (by rfl) (pa_cons (pv 0) (pa_cons (pe_ix ix_list (pv 1) pe_int (fun _ _ => rfl)) pa_nil)))))))), ?_⟩
  refine ⟨_, rfl, l, xs, rfl, .inl (SqL.of hl), rfl, _, rfl, ?_⟩
  rw [show decide (V.int (xs.length : Nat) = V.int 2) = decide (xs.length = 2) from lenN _ 2]
  match xs, ds, r with
  | [], _, .nil => exact iteF (q H (Same.refl H))
  | [v], _, .cons (d := d) i .nil => exact iteF (q H (Same.refl H))
  | [v1, v2], _, .cons (d := d1) i1 (.cons (d := d2) i2 .nil) =>
    refine iteT ⟨_, rfl, l, _, _, _, rfl, rfl, SqL.of hl, rfl, v1, d1, rfl, i1, fun H1 s1 => ⟨_, rfl, ?_⟩⟩
    have e0 : changeForm ks [d1, d2] = (nameOk d1 && wishesOk ks d2) := rfl
    cases c1 : nameOk d1 with
    | false => exact iteF (by rw [e0, c1] at q; exact q _ s1)
    | true =>
      rw [e0, c1] at q
      exact iteT ⟨_, rfl, _, rfl, l, _, _, _, rfl, rfl, SqL.of (s1 _ _ hl), rfl, x, v2, ks, d2, rfl, o.mono s1, i2.mono s1, fun H2 s2 => q H2 (s1.trans s2)⟩
  | _ :: _ :: _ :: t, _, .cons _ (.cons _ (.cons _ r2)) =>
    rw [decide_eq_false (by simp)]
    exact iteF (q H (Same.refl H))
abbrev s__is_alone : Stmt := top 16
theorem sc__is_alone : FnScope ["office", "rest"] ["office", "rest"] (defScope s__is_alone) := ⟨rfl, rfl, rfl, by decide +kernel, rfl, by decide +kernel, by decide +kernel⟩
theorem c__is_alone (T : Txt K mg) (D : Dfn K mg "_is_alone" s__is_alone) : Cal P w K mg base 1 "_is_alone" ["office", "rest"] (spR K alone) := by
  refine D.cal sc__is_alone (fun _ _ _ _ _ _ us hl => match us, hl with | [_, _], _ => rfl) spR_len fun cdv A outer s H vs Q E hr h => ?_
  obtain ⟨x, l, ks, xs, ds, rfl, o, hl, r, z, q⟩ := h
  refine ⟨_, (pss_one (ps_ret (pe_cmpR op_eq (pe_callB call_len_seq (by rfl) T.len (by decide +kernel) (pa_cons (pv 1) pa_nil)) pe_int (nomark _)))), ?_⟩
  refine ⟨_, rfl, l, xs, rfl, .inl (SqL.of hl), rfl, ?_⟩
  show Q (V.bl (decide (V.int (xs.length : Nat) = V.int 0))) H
  rw [show decide (V.int (xs.length : Nat) = V.int 0) = decide (xs.length = 0) from lenN _ 0]
  match xs, ds, r with
  | [], _, .nil => exact q H (Same.refl H)
  | _ :: _, _, .cons _ _ => exact q H (Same.refl H)
/-- the form of a word that the table has -/
theorem form_of (F : Frm K w mg) (g1 : mg "_is_come" = some (.ref (He.ga K "_is_come"))) (g2 : mg "_is_of_kind" = some (.ref (He.ga K "_is_of_kind"))) (g3 : mg "_is_of_person" = some (.ref (He.ga K "_is_of_person"))) (g4 : mg "_is_change" = some (.ref (He.ga K "_is_change"))) (g5 : mg "_is_alone" = some (.ref (He.ga K "_is_alone")))
    (C1 : Cal P w K mg base 3 "_is_come" ["office", "rest"] (spR K comeOk)) (C2 : Cal P w K mg base 2 "_is_of_kind" ["office", "rest"] (spR K kindForm)) (C3 : Cal P w K mg base 2 "_is_of_person" ["office", "rest"] (spR K nameForm))
    (C4 : Cal P w K mg base 3 "_is_change" ["office", "rest"] (spR K changeForm)) (C5 : Cal P w K mg base 1 "_is_alone" ["office", "rest"] (spR K alone)) (z : Str) :
    (PySem.W.nsIn K (He.ga K "FORMS") z = some none ∧ ∀ ks ds, formOk z ks ds = false) ∨
    ∃ (x0 : Str) (a : Addr) (k : Nat) (f : List Str → List Dt → Bool), k ≤ 3 ∧ PySem.W.nsIn K (He.ga K "FORMS") z = some (some (.ref a)) ∧ mg x0 = some (.ref a) ∧ Cal P w K mg base k x0 ["office", "rest"] (spR K f) ∧ ∀ ks ds, formOk z ks ds = f ks ds := by
  by_cases h1 : z = "come"
  · exact .inr ⟨_, _, 3, _, by decide, by rw [h1]; exact F.come, g1, C1, fun ks ds => by unfold formOk; rw [if_pos h1]⟩
  by_cases h2 : z = "place"
  · exact .inr ⟨_, _, 2, _, by decide, by rw [h2]; exact F.place, g2, C2, fun ks ds => by unfold formOk; rw [if_neg h1, if_pos h2]⟩
  by_cases h3 : z = "leave"
  · exact .inr ⟨_, _, 2, _, by decide, by rw [h3]; exact F.leave, g3, C3, fun ks ds => by unfold formOk; rw [if_neg h1, if_neg h2, if_pos h3]⟩
  by_cases h4 : z = "withdraw"
  · exact .inr ⟨_, _, 2, _, by decide, by rw [h4]; exact F.withdraw, g2, C2, fun ks ds => by unfold formOk; rw [if_neg h1, if_neg h2, if_neg h3, if_pos h4]⟩
  by_cases h5 : z = "change"
  · exact .inr ⟨_, _, 3, _, by decide, by rw [h5]; exact F.change, g4, C4, fun ks ds => by unfold formOk; rw [if_neg h1, if_neg h2, if_neg h3, if_neg h4, if_pos h5]⟩
  by_cases h6 : z = "gather"
  · exact .inr ⟨_, _, 1, _, by decide, by rw [h6]; exact F.gather, g5, C5, fun ks ds => by unfold formOk; rw [if_neg h1, if_neg h2, if_neg h3, if_neg h4, if_neg h5, if_pos h6]⟩
  by_cases h7 : z = "round"
  · exact .inr ⟨_, _, 1, _, by decide, by rw [h7]; exact F.round, g5, C5, fun ks ds => by unfold formOk; rw [if_neg h1, if_neg h2, if_neg h3, if_neg h4, if_neg h5, if_neg h6, if_pos h7]⟩
  · exact .inl ⟨F.out z (by simp [h1, h2, h3, h4, h5, h6, h7]), fun ks ds => by unfold formOk; rw [if_neg h1, if_neg h2, if_neg h3, if_neg h4, if_neg h5, if_neg h6, if_neg h7]⟩
end
end K01

set_option Elab.async false
set_option linter.all false
set_option maxRecDepth 100000
set_option maxHeartbeats 4000000
namespace K01
open PySem PySem.Spec PyProof.Rows L2 Sr
section
variable {P : Program} {w : World} {K : PySem.W.Frag} {mg : Str → Option Value} {base : Heap}
abbrev s_is_event : Stmt := top 9
theorem sc_is_event : FnScope ["office", "thing", "word", "has_form"] ["office", "thing"] (defScope s_is_event) := ⟨rfl, rfl, rfl, by decide +kernel, rfl, by decide +kernel, by decide +kernel⟩
theorem evOk_odd {ks : List Str} {d : Dt} (h : isSeq d = false) : evOk ks d = false := by
  cases d <;> first | rfl | simp [isSeq] at h
theorem at0 {α : Type} {x : α} {xs : List α} : atI (x :: xs) 0 = some x := by
  unfold atI ixN
  simp
theorem cutV_one {xs : List V} {x : V} : cutV (x :: xs) (some 1) none = xs := by
  unfold cutV
  simp [HT.sIx]
theorem c_is_event (T : Txt K mg) (F : Frm K w mg) (D : Dfn K mg "is_event" s_is_event) (C_is_list : Cal P w K mg base 1 "is_list" ["thing"] (spB isSeq))
    (ff : ∀ z : Str, (PySem.W.nsIn K (He.ga K "FORMS") z = some none ∧ ∀ ks ds, formOk z ks ds = false) ∨
    ∃ (x0 : Str) (a : Addr) (k : Nat) (f : List Str → List Dt → Bool), k ≤ 3 ∧ PySem.W.nsIn K (He.ga K "FORMS") z = some (some (.ref a)) ∧ mg x0 = some (.ref a) ∧ Cal P w K mg base k x0 ["office", "rest"] (spR K f) ∧ ∀ ks ds, formOk z ks ds = f ks ds) :
    Cal P w K mg base 4 "is_event" ["office", "thing"] (spO K evOk) := by
  refine D.cal sc_is_event (fun _ _ _ _ _ _ us hl => match us, hl with | [_, _], _ => rfl) spO_len fun cdv A outer s H vs Q E hr h => ?_
  obtain ⟨x, v, ks, d, rfl, o, hv, q⟩ := h
  obtain ⟨es, n, Dk⟩ := F.dict
  -- what is no list, or empty
  have z0 : Cal P w K mg base 1 "is_list" ["thing"] (spB isSeq) := C_is_list
  cases hs : isSeq d with
  | false =>
    refine ⟨_, (pss_cons (ps_if (PW.pt (pw_or (pt_not (pt_val (pe_cal C_is_list hr (by decide) (by rfl) (pa_cons (pv 1) pa_nil)))) (pw_or1 (pt_cmpR op_eq (pe_callB call_len_seq (by rfl) T.len (by decide +kernel) (pa_cons (pv 1) pa_nil)) pe_int (nomark _))))) (pss_one (ps_ret pe_bl)) pss_nil)
      (pss_cons (ps_set (i := 2) sc_is_event.nd rfl (by first | exact Or.inl rfl | exact Or.inr rfl) (pe_ix ix_list (pv 1) pe_int (fun _ _ => rfl)))
      (pss_cons (ps_if (PW.pt (pw_or (pt_not (pt_val (pe_callB call_isi (by rfl) T.isinstance (by decide +kernel) (pa_cons (pv 2) (pa_cons (pe_tyv (n := "str") (by rfl) T.str (by decide +kernel)) pa_nil))))) (pw_or1 (pt_cmpR (op_notIn_kd Dk) (pv 2) F.pe (by rfl))))) (pss_one (ps_ret pe_bl)) pss_nil)
      pss_never))), ?_⟩
    refine ⟨_, rfl, v, d, rfl, hv, fun H1 s1 => ⟨_, rfl, ?_⟩⟩
    rw [hs]
    refine iteT (iteT ?_)
    rw [evOk_odd hs] at q
    exact q _ s1
  | true =>
    cases hv with
    | lst hl r z =>
      rename_i a xs ds
      cases r with
      | nil =>
        refine ⟨_, (pss_cons (ps_if (PW.pt (pw_or (pt_not (pt_val (pe_cal C_is_list hr (by decide) (by rfl) (pa_cons (pv 1) pa_nil)))) (pw_or1 (pt_cmpR op_eq (pe_callB call_len_seq (by rfl) T.len (by decide +kernel) (pa_cons (pv 1) pa_nil)) pe_int (nomark _))))) (pss_one (ps_ret pe_bl)) pss_nil)
      pss_never), ?_⟩
        exact ⟨_, rfl, _, _, rfl, .lst hl .nil z, fun H1 s1 => ⟨_, rfl, iteF ⟨_, rfl, a, [], rfl, .inl (SqL.of (s1 _ _ hl)), rfl, _, rfl, iteT (q _ s1)⟩⟩⟩
      | cons i r =>
        rename_i v0 vs d0 ds
        have head : ∀ H1, Same H H1 → SqL K H1 a (v0 :: vs) := fun H1 s1 => SqL.of (s1 _ _ hl)
        cases hq : isStr d0 with
        | false =>
          refine ⟨_, (pss_cons (ps_if (PW.pt (pw_or (pt_not (pt_val (pe_cal C_is_list hr (by decide) (by rfl) (pa_cons (pv 1) pa_nil)))) (pw_or1 (pt_cmpR op_eq (pe_callB call_len_seq (by rfl) T.len (by decide +kernel) (pa_cons (pv 1) pa_nil)) pe_int (nomark _))))) (pss_one (ps_ret pe_bl)) pss_nil)
      (pss_cons (ps_set (i := 2) sc_is_event.nd rfl (by first | exact Or.inl rfl | exact Or.inr rfl) (pe_ix ix_list (pv 1) pe_int (fun _ _ => rfl)))
      (pss_cons (ps_if (PW.pt (pw_or (pt_not (pt_val (pe_callB call_isi (by rfl) T.isinstance (by decide +kernel) (pa_cons (pv 2) (pa_cons (pe_tyv (n := "str") (by rfl) T.str (by decide +kernel)) pa_nil))))) (pw_or1 (pt_cmpR (op_notIn_kd Dk) (pv 2) F.pe (by rfl))))) (pss_one (ps_ret pe_bl)) pss_nil)
      pss_never))), ?_⟩
          refine ⟨_, rfl, _, _, rfl, .lst hl (.cons i r) z, fun H1 s1 => ⟨_, rfl, iteF ⟨_, rfl, a, _, rfl, .inl (head _ s1), rfl, _, rfl, ?_⟩⟩⟩
          rw [show decide (V.int ((v0 :: vs).length : Nat) = V.int 0) = false from lenN _ 0]
          refine iteF ⟨_, rfl, a, _, _, _, rfl, rfl, head _ s1, at0, ?_⟩
          refine ⟨_, rfl, _, _, _, _, _, rfl, .ty _, (i.mono s1).ty, kit_str K _, _, rfl, ?_⟩
          rw [hq]
          refine iteT (iteT ?_)
          have := q H1 s1
          rw [show evOk ks (.lst (d0 :: ds)) = false from by cases d0 <;> first | rfl | simp [isStr] at hq] at this
          exact this
        | true =>
        cases i with
        | str y hy =>
          rcases ff y with ⟨no, e⟩ | ⟨x0, af, k, f, hk, at_, hm, Cf, e⟩
          · refine ⟨_, (pss_cons (ps_if (PW.pt (pw_or (pt_not (pt_val (pe_cal C_is_list hr (by decide) (by rfl) (pa_cons (pv 1) pa_nil)))) (pw_or1 (pt_cmpR op_eq (pe_callB call_len_seq (by rfl) T.len (by decide +kernel) (pa_cons (pv 1) pa_nil)) pe_int (nomark _))))) (pss_one (ps_ret pe_bl)) pss_nil)
      (pss_cons (ps_set (i := 2) sc_is_event.nd rfl (by first | exact Or.inl rfl | exact Or.inr rfl) (pe_ix ix_list (pv 1) pe_int (fun _ _ => rfl)))
      (pss_cons (ps_if (PW.pt (pw_or (pt_not (pt_val (pe_callB call_isi (by rfl) T.isinstance (by decide +kernel) (pa_cons (pv 2) (pa_cons (pe_tyv (n := "str") (by rfl) T.str (by decide +kernel)) pa_nil))))) (pw_or1 (pt_cmpR (op_notIn_kd Dk) (pv 2) F.pe (by rfl))))) (pss_one (ps_ret pe_bl)) pss_nil)
      pss_never))), ?_⟩
            refine ⟨_, rfl, _, _, rfl, .lst hl (.cons (.str y hy) r) z, fun H1 s1 => ⟨_, rfl, iteF ⟨_, rfl, a, _, rfl, .inl (head _ s1), rfl, _, rfl, ?_⟩⟩⟩
            rw [show decide (V.int ((V.str y :: vs).length : Nat) = V.int 0) = false from lenN _ 0]
            refine iteF ⟨_, rfl, a, _, _, _, rfl, rfl, head _ s1, at0, ?_⟩
            refine ⟨_, rfl, _, _, _, _, _, rfl, .ty _, (Is.str (H := H1) y hy).ty, kit_str K _, _, rfl, iteF ⟨_, rfl, y, _, rfl, rfl, no, _, rfl, iteT ?_⟩⟩
            have := q H1 s1
            rw [show evOk ks (.lst (.str y :: ds)) = false from e ks ds] at this
            exact this
          · refine ⟨_, (pss_cons (ps_if (PW.pt (pw_or (pt_not (pt_val (pe_cal C_is_list hr (by decide) (by rfl) (pa_cons (pv 1) pa_nil)))) (pw_or1 (pt_cmpR op_eq (pe_callB call_len_seq (by rfl) T.len (by decide +kernel) (pa_cons (pv 1) pa_nil)) pe_int (nomark _))))) (pss_one (ps_ret pe_bl)) pss_nil)
      (pss_cons (ps_set (i := 2) sc_is_event.nd rfl (by first | exact Or.inl rfl | exact Or.inr rfl) (pe_ix ix_list (pv 1) pe_int (fun _ _ => rfl)))
      (pss_cons (ps_if (PW.pt (pw_or (pt_not (pt_val (pe_callB call_isi (by rfl) T.isinstance (by decide +kernel) (pa_cons (pv 2) (pa_cons (pe_tyv (n := "str") (by rfl) T.str (by decide +kernel)) pa_nil))))) (pw_or1 (pt_cmpR (op_notIn_kd Dk) (pv 2) F.pe (by rfl))))) (pss_one (ps_ret pe_bl)) pss_nil)
      (pss_cons (ps_set (i := 3) sc_is_event.nd rfl (by first | exact Or.inl rfl | exact Or.inr rfl) (pe_ix ix_kdict F.pe (pv 2) (fun _ _ => rfl)))
      (pss_one (ps_ret (pe_calL (i := 3) Cf hm hr (by first | decide | assumption) (by rfl) (by first | exact Or.inl rfl | exact Or.inr (Or.inl rfl) | exact Or.inr (Or.inr rfl)) (pa_cons (pv 0) (pa_cons (pe_callTy call_list_of (by rfl) T.list (by decide +kernel) (pa_cons (pe_slice sl_list (pv 1) (po_some pe_int) po_none) pa_nil)) pa_nil))))))))), ?_⟩
            refine ⟨_, rfl, _, _, rfl, .lst hl (.cons (.str y hy) r) z, fun H1 s1 => ⟨_, rfl, iteF ⟨_, rfl, a, _, rfl, .inl (head _ s1), rfl, _, rfl, ?_⟩⟩⟩
            rw [show decide (V.int ((V.str y :: vs).length : Nat) = V.int 0) = false from lenN _ 0]
            refine iteF ⟨_, rfl, a, _, _, _, rfl, rfl, head _ s1, at0, ?_⟩
            refine ⟨_, rfl, _, _, _, _, _, rfl, .ty _, (Is.str (H := H1) y hy).ty, kit_str K _, _, rfl, iteF ⟨_, rfl, y, _, rfl, rfl, at_, _, rfl, iteF ?_⟩⟩
            refine ⟨_, rfl, _, y, .ref af, rfl, rfl, ⟨es, n, _, Dk.at_, Dk.lit, at_, rfl⟩, ?_⟩
            refine ⟨rfl, _, rfl, _, rfl, _, rfl, a, _, rfl, head _ s1, fun p hp => ⟨p, vs, rfl, .inl (SqL.of (by rw [upd_same, cutV_one])), fun l hl2 => ?_⟩⟩
            have s2 : Same H1 (upd (upd H1 p (.lst (cutV (V.str y :: vs) (some 1) none))) l (.lst vs)) := (Same.up hp).trans (Same.up hl2)
            refine ⟨x, l, ks, vs, ds, rfl, o.mono (s1.trans s2), upd_same, r.mono (s1.trans s2), by simp at z; omega, fun H3 s3 => ?_⟩
            have := q H3 ((s1.trans s2).trans s3)
            rw [show evOk ks (.lst (.str y :: ds)) = f ks ds from e ks ds] at this
            exact this
        | _ => simp [isStr] at hq
    | tup hl r z =>
      rename_i a xs ds
      cases r with
      | nil =>
        refine ⟨_, (pss_cons (ps_if (PW.pt (pw_or (pt_not (pt_val (pe_cal C_is_list hr (by decide) (by rfl) (pa_cons (pv 1) pa_nil)))) (pw_or1 (pt_cmpR op_eq (pe_callB call_len_seq (by rfl) T.len (by decide +kernel) (pa_cons (pv 1) pa_nil)) pe_int (nomark _))))) (pss_one (ps_ret pe_bl)) pss_nil)
      pss_never), ?_⟩
        exact ⟨_, rfl, _, _, rfl, .tup hl .nil z, fun H1 s1 => ⟨_, rfl, iteF ⟨_, rfl, a, [], rfl, .inr (SqT.of (s1 _ _ hl)), rfl, _, rfl, iteT (q _ s1)⟩⟩⟩
      | cons i r =>
        rename_i v0 vs d0 ds
        have head : ∀ H1, Same H H1 → SqT K H1 a (v0 :: vs) := fun H1 s1 => SqT.of (s1 _ _ hl)
        cases hq : isStr d0 with
        | false =>
          refine ⟨_, (pss_cons (ps_if (PW.pt (pw_or (pt_not (pt_val (pe_cal C_is_list hr (by decide) (by rfl) (pa_cons (pv 1) pa_nil)))) (pw_or1 (pt_cmpR op_eq (pe_callB call_len_seq (by rfl) T.len (by decide +kernel) (pa_cons (pv 1) pa_nil)) pe_int (nomark _))))) (pss_one (ps_ret pe_bl)) pss_nil)
      (pss_cons (ps_set (i := 2) sc_is_event.nd rfl (by first | exact Or.inl rfl | exact Or.inr rfl) (pe_ix ix_tup (pv 1) pe_int (fun _ _ => rfl)))
      (pss_cons (ps_if (PW.pt (pw_or (pt_not (pt_val (pe_callB call_isi (by rfl) T.isinstance (by decide +kernel) (pa_cons (pv 2) (pa_cons (pe_tyv (n := "str") (by rfl) T.str (by decide +kernel)) pa_nil))))) (pw_or1 (pt_cmpR (op_notIn_kd Dk) (pv 2) F.pe (by rfl))))) (pss_one (ps_ret pe_bl)) pss_nil)
      pss_never))), ?_⟩
          refine ⟨_, rfl, _, _, rfl, .tup hl (.cons i r) z, fun H1 s1 => ⟨_, rfl, iteF ⟨_, rfl, a, _, rfl, .inr (head _ s1), rfl, _, rfl, ?_⟩⟩⟩
          rw [show decide (V.int ((v0 :: vs).length : Nat) = V.int 0) = false from lenN _ 0]
          refine iteF ⟨_, rfl, a, _, _, _, rfl, rfl, head _ s1, at0, ?_⟩
          refine ⟨_, rfl, _, _, _, _, _, rfl, .ty _, (i.mono s1).ty, kit_str K _, _, rfl, ?_⟩
          rw [hq]
          refine iteT (iteT ?_)
          have := q H1 s1
          rw [show evOk ks (.tup (d0 :: ds)) = false from by cases d0 <;> first | rfl | simp [isStr] at hq] at this
          exact this
        | true =>
        cases i with
        | str y hy =>
          rcases ff y with ⟨no, e⟩ | ⟨x0, af, k, f, hk, at_, hm, Cf, e⟩
          · refine ⟨_, (pss_cons (ps_if (PW.pt (pw_or (pt_not (pt_val (pe_cal C_is_list hr (by decide) (by rfl) (pa_cons (pv 1) pa_nil)))) (pw_or1 (pt_cmpR op_eq (pe_callB call_len_seq (by rfl) T.len (by decide +kernel) (pa_cons (pv 1) pa_nil)) pe_int (nomark _))))) (pss_one (ps_ret pe_bl)) pss_nil)
      (pss_cons (ps_set (i := 2) sc_is_event.nd rfl (by first | exact Or.inl rfl | exact Or.inr rfl) (pe_ix ix_tup (pv 1) pe_int (fun _ _ => rfl)))
      (pss_cons (ps_if (PW.pt (pw_or (pt_not (pt_val (pe_callB call_isi (by rfl) T.isinstance (by decide +kernel) (pa_cons (pv 2) (pa_cons (pe_tyv (n := "str") (by rfl) T.str (by decide +kernel)) pa_nil))))) (pw_or1 (pt_cmpR (op_notIn_kd Dk) (pv 2) F.pe (by rfl))))) (pss_one (ps_ret pe_bl)) pss_nil)
      pss_never))), ?_⟩
            refine ⟨_, rfl, _, _, rfl, .tup hl (.cons (.str y hy) r) z, fun H1 s1 => ⟨_, rfl, iteF ⟨_, rfl, a, _, rfl, .inr (head _ s1), rfl, _, rfl, ?_⟩⟩⟩
            rw [show decide (V.int ((V.str y :: vs).length : Nat) = V.int 0) = false from lenN _ 0]
            refine iteF ⟨_, rfl, a, _, _, _, rfl, rfl, head _ s1, at0, ?_⟩
            refine ⟨_, rfl, _, _, _, _, _, rfl, .ty _, (Is.str (H := H1) y hy).ty, kit_str K _, _, rfl, iteF ⟨_, rfl, y, _, rfl, rfl, no, _, rfl, iteT ?_⟩⟩
            have := q H1 s1
            rw [show evOk ks (.tup (.str y :: ds)) = false from e ks ds] at this
            exact this
          · refine ⟨_, (pss_cons (ps_if (PW.pt (pw_or (pt_not (pt_val (pe_cal C_is_list hr (by decide) (by rfl) (pa_cons (pv 1) pa_nil)))) (pw_or1 (pt_cmpR op_eq (pe_callB call_len_seq (by rfl) T.len (by decide +kernel) (pa_cons (pv 1) pa_nil)) pe_int (nomark _))))) (pss_one (ps_ret pe_bl)) pss_nil)
      (pss_cons (ps_set (i := 2) sc_is_event.nd rfl (by first | exact Or.inl rfl | exact Or.inr rfl) (pe_ix ix_tup (pv 1) pe_int (fun _ _ => rfl)))
      (pss_cons (ps_if (PW.pt (pw_or (pt_not (pt_val (pe_callB call_isi (by rfl) T.isinstance (by decide +kernel) (pa_cons (pv 2) (pa_cons (pe_tyv (n := "str") (by rfl) T.str (by decide +kernel)) pa_nil))))) (pw_or1 (pt_cmpR (op_notIn_kd Dk) (pv 2) F.pe (by rfl))))) (pss_one (ps_ret pe_bl)) pss_nil)
      (pss_cons (ps_set (i := 3) sc_is_event.nd rfl (by first | exact Or.inl rfl | exact Or.inr rfl) (pe_ix ix_kdict F.pe (pv 2) (fun _ _ => rfl)))
      (pss_one (ps_ret (pe_calL (i := 3) Cf hm hr (by first | decide | assumption) (by rfl) (by first | exact Or.inl rfl | exact Or.inr (Or.inl rfl) | exact Or.inr (Or.inr rfl)) (pa_cons (pv 0) (pa_cons (pe_callTy call_list_of (by rfl) T.list (by decide +kernel) (pa_cons (pe_slice sl_tupA (pv 1) (po_some pe_int) po_none) pa_nil)) pa_nil))))))))), ?_⟩
            refine ⟨_, rfl, _, _, rfl, .tup hl (.cons (.str y hy) r) z, fun H1 s1 => ⟨_, rfl, iteF ⟨_, rfl, a, _, rfl, .inr (head _ s1), rfl, _, rfl, ?_⟩⟩⟩
            rw [show decide (V.int ((V.str y :: vs).length : Nat) = V.int 0) = false from lenN _ 0]
            refine iteF ⟨_, rfl, a, _, _, _, rfl, rfl, head _ s1, at0, ?_⟩
            refine ⟨_, rfl, _, _, _, _, _, rfl, .ty _, (Is.str (H := H1) y hy).ty, kit_str K _, _, rfl, iteF ⟨_, rfl, y, _, rfl, rfl, at_, _, rfl, iteF ?_⟩⟩
            refine ⟨_, rfl, _, y, .ref af, rfl, rfl, ⟨es, n, _, Dk.at_, Dk.lit, at_, rfl⟩, ?_⟩
            refine ⟨rfl, _, rfl, _, rfl, _, rfl, a, _, rfl, head _ s1, (fun w => absurd w.1 (by simp [HT.sIx])), fun _ p hp => ⟨p, vs, rfl, .inr (SqT.of (by rw [upd_same, cutV_one])), fun l hl2 => ?_⟩⟩
            have s2 : Same H1 (upd (upd H1 p (.tup (cutV (V.str y :: vs) (some 1) none))) l (.lst vs)) := (Same.up hp).trans (Same.up hl2)
            refine ⟨x, l, ks, vs, ds, rfl, o.mono (s1.trans s2), upd_same, r.mono (s1.trans s2), by simp at z; omega, fun H3 s3 => ?_⟩
            have := q H3 ((s1.trans s2).trans s3)
            rw [show evOk ks (.tup (.str y :: ds)) = f ks ds from e ks ds] at this
            exact this
        | _ => simp [isStr] at hq
    | _ => simp [isSeq] at hs
end
end K01

set_option Elab.async false
set_option linter.all false
set_option maxRecDepth 100000
set_option maxHeartbeats 4000000
namespace K01
open PySem PySem.Spec PyProof.Rows L2 Sr
def words : List Str := ["points", "few", "home", "early", "late"]
def menuW : List (List Str) := [[], ["points"], ["home"], ["few", "late"], ["home", "points"], ["late"], ["early"]]
theorem menu_in : ∀ ws ∈ menuW, ∀ x ∈ ws, inV (.str x) (words.map V.str) = true := by decide +kernel
theorem menu_met : ∀ ws ∈ menuW, (met ws ws.length).length = ws.length := by decide +kernel
theorem menu_len : ∀ ws ∈ menuW, ws.length ≤ 60 := by decide +kernel
def RkV (H : Hp) (_ : Str) (v : V) : Prop := ∃ t ws, v = .ref t ∧ H t = some (.tup (ws.map V.str)) ∧ ws ∈ menuW
theorem RkV.mono {H H' : Hp} (e : Same H H') {s : Str} {v : V} (h : RkV H s v) : RkV H' s v := by
  obtain ⟨t, ws, rfl, h1, h2⟩ := h
  exact ⟨t, ws, rfl, e _ _ h1, h2⟩
theorem RkV.lay {H : Hp} {D : Addr} {c : List (Key × V)} {o : HO} (hD : H D = some (.dK c)) {s : Str} {v : V} (h : RkV H s v) : RkV (upd H D o) s v := by
  obtain ⟨t, ws, rfl, h1, h2⟩ := h
  exact ⟨t, ws, rfl, by rw [upd_ne (ne_of h1 hD (by intro z; cases z))]; exact h1, h2⟩
def names4 : List Str := ["red", "blue", "k9", "a"]
theorem names4_ok : ∀ s ∈ names4, nameOk (.str s) = true ∧ s.length ≤ 1000 := by decide +kernel
theorem names4_str : ∀ s ∈ names4, PyData.canLay0 (.str s) = true := by decide +kernel
/-- ranks that are right: the kinds ss -/
def RanksAt (H : Hp) (r : Addr) (ss : List Str) : Prop := (∃ kvs, H r = some (.dK kvs) ∧ Ent (RkV H) kvs ss) ∧ ss.Nodup ∧ ss.length ≤ 4 ∧ (∀ s ∈ ss, s ∈ names4) ∧ ss ≠ []
theorem RanksAt.mono {H H' : Hp} (e : Same H H') {r : Addr} {ss : List Str} (h : RanksAt H r ss) : RanksAt H' r ss := by
  obtain ⟨⟨kvs, h1, h2⟩, h3⟩ := h
  exact ⟨⟨kvs, e _ _ h1, h2.imp fun s v z => z.mono e⟩, h3⟩
structure Wds (K : PySem.W.Frag) (mg : Str → Option Value) : Prop where
  at_ : mg "WORDS" = some (.ref (He.ga K "WORDS"))
  is_ : ∀ H : Hp, SqT K H (He.ga K "WORDS") (words.map V.str)
theorem Wds.pe {X : Cx} {p : Pos} {K : PySem.W.Frag} {mg : Str → Option Value} (W : Wds K mg) (h : Gl X "WORDS") (hm : X.mg = mg := by rfl) : PE X (.Name "WORDS" p) (tC (.ref (He.ga K "WORDS"))) := pe_glob h (hm ▸ W.at_) rfl
def spRank : Sp := fun vs H Q _ => ∃ t ws, vs = [.ref t] ∧ H t = some (.tup (ws.map V.str)) ∧ ws ∈ menuW ∧ ∀ H', Same H H' → Q (.bl true) H'
theorem isA_strs {H : Hp} : ∀ {ws : List Str}, (∀ s ∈ ws, s.length ≤ 1000) → IsA H (ws.map V.str) (ws.map Dt.str)
  | [], _ => .nil
  | s :: r, h => .cons (.str s (h s List.mem_cons_self)) (isA_strs fun x m => h x (List.mem_cons_of_mem _ m))
theorem menu_small : ∀ ws ∈ menuW, ∀ s ∈ ws, s.length ≤ 1000 := by decide +kernel
section
variable {P : Program} {w : World} {K : PySem.W.Frag} {mg : Str → Option Value} {base : Heap}
abbrev s_is_rank : Stmt := top 25
theorem sc_is_rank : FnScope ["thing", "word"] ["thing"] (defScope s_is_rank) := ⟨rfl, rfl, rfl, by decide +kernel, rfl, by decide +kernel, by decide +kernel⟩
theorem c_is_rank (T : Txt K mg) (W : Wds K mg) (D : Dfn K mg "is_rank" s_is_rank) (C_is_list : Cal P w K mg base 1 "is_list" ["thing"] (spB isSeq)) : Cal P w K mg base 2 "is_rank" ["thing"] spRank := by
  refine D.cal sc_is_rank (fun _ _ _ _ _ _ us hl => match us, hl with | [_], _ => rfl) (fun vs H Q E h => ?_) fun cdv A outer s H vs Q E hr h => ?_
  · obtain ⟨t, ws, rfl, _⟩ := h
    rfl
  obtain ⟨t, ws, rfl, ht, hw, q⟩ := h
  have hz := menu_len ws hw
  refine ⟨_, (pss_cons (ps_if (PW.pt (pw_or (pt_not (pt_val (pe_cal C_is_list hr (by decide) (by rfl) (pa_cons (pv 0) pa_nil)))) (pw_or1 (pt_not (pt_val (pe_callB (id := "all") (cr_all rfl) (by rfl) T.all (by decide +kernel) (pa_cons (pe_lc (own := [("word", 1)]) (g := gName 1) (tt := tYes) rfl sc_is_rank.nd (pi_tup (pv 0)) (blkOk_by (N := ["thing", "word"]) (sc := defScope s_is_rank) (by decide +kernel)) (fun _ _ _ _ _ => (pg_name (i := 1) sc_is_rank.nd rfl (by first | exact Or.inl rfl | exact Or.inr rfl))) (fun _ _ _ _ _ => pts_nil) (fun _ _ _ _ _ => (pe_cmpR (op_in_seqK K rfl) (pv 1) (W.pe (by rfl)) (by rfl)))) pa_nil))))))) (pss_one (ps_ret pe_bl)) pss_nil)
      (pss_one (ps_ret (pe_cmpR op_eq (pe_lenSetT rfl (by rfl) T.len (by rfl) T.set (pv 0)) (pe_callB (id := "len") call_len_seq (by rfl) T.len (by decide +kernel) (pa_cons (pv 0) pa_nil)) (nomark _))))), ?_⟩
  refine ⟨_, rfl, _, .tup (ws.map Dt.str), rfl, .tup ht (isA_strs (menu_small ws hw)) (by rw [List.length_map]; exact hz), fun H1 s1 => ⟨_, rfl, iteF ⟨_, rfl, t, rfl, ⟨_, SqT.of (s1 _ _ ht)⟩, fun D hD =>
    lc_pure walk_tup walk_at ((ws.map fun _ => true).map V.bl) (by simp) (sz (m := 60) (by rw [List.length_map]; exact hz)) hD (fun H2 s2 => SqT.of (s2 _ _ (s1 _ _ ht))) (fun i u y H2 R hi hu hy s2 k => ?_) (fun H2 s2 h2 => ⟨D, ws.map fun _ => true, rfl, SqL.of h2, ?_⟩)⟩⟩⟩
  · rw [List.getElem?_map] at hu
    obtain ⟨x, hx, rfl⟩ := Option.map_eq_some_iff.mp hu
    rw [List.getElem?_map, List.getElem?_map, hx] at hy
    obtain rfl : V.bl true = y := Option.some.inj hy
    refine ⟨_, rfl, He.ga K "WORDS", words.map V.str, rfl, .inr (W.is_ _), rfl, by decide +kernel, ?_⟩
    show R (.bl (inV (.str x) (words.map V.str))) H2
    rw [menu_in ws hw x (List.mem_of_getElem? hx)]
    exact k _ (Same.refl _)
  · refine ⟨_, rfl, ?_⟩
    rw [show (ws.map fun _ => true).all id = true from by rw [List.all_map]; exact List.all_eq_true.mpr fun _ _ => rfl]
    refine iteF ⟨_, rfl, t, ws, rfl, .inr (SqT.of (s2 _ _ (s1 _ _ ht))), hz, _, rfl, t, _, rfl, .inr (SqT.of (s2 _ _ (s1 _ _ ht))), rfl, ?_⟩
    rw [lenN, List.length_map, menu_met ws hw, decide_eq_true rfl]
    exact q _ (s1.trans s2)
abbrev s_Office___init__ : Stmt := inClass (top 24) 0
theorem sc_Office___init__ : FnScope ["self", "ranks", "kind"] ["self", "ranks"] (defScope s_Office___init__) := ⟨rfl, rfl, rfl, by decide +kernel, rfl, by decide +kernel, by decide +kernel⟩
def spInit (K : PySem.W.Frag) : Sp := fun vs H Q _ => ∃ x r H0 dx ss, vs = [.ref x, .ref r] ∧ Same H0 H ∧ H0 x = none ∧ H x = some (.ins (He.ga K "Office") dx []) ∧ RanksAt H r ss ∧ ∀ H', Same H0 H' → OffAt K H' x ss → Q .non H'
theorem m_init (T : Txt K mg) (O : Off K mg) (D : DfnM K "Office" "__init__" "Office.__init__" s_Office___init__) (C_is_name : Cal P w K mg base 1 "is_name" ["thing"] (spB nameOk)) (C_is_rank : Cal P w K mg base 2 "is_rank" ["thing"] spRank) :
    CalM P w K mg base CX0 3 (He.fAd K ("Office", some "__init__")) ["self", "ranks"] (spInit K) := by
  refine D.cal sc_Office___init__ (fun _ _ _ _ _ _ us hl => match us, hl with | [_, _], _ => rfl) (fun vs H Q E h => ?_) fun cdv A outer s H vs Q E hr h => ?_
  · obtain ⟨x, r, H0, dx, ss, rfl, _⟩ := h
    rfl
  obtain ⟨x, r, H0, dx, ss, rfl, s0, x0, hx, ⟨⟨kvs, hd, he⟩, nd, hz, ok, _⟩, q⟩ := h
  have nrx : x ≠ r := ne_of hx hd (by intro z; cases z)
  refine ⟨_, (pss_cons (ps_if (pt_not (pt_val (pe_callB (id := "isinstance") call_isi (by rfl) T.isinstance (by decide +kernel) (pa_cons (pv 1) (pa_cons (pe_tyv (n := "dict") (by rfl) T.dict (by decide +kernel)) pa_nil))))) (pss_one ps_never) pss_nil)
      (pss_cons (ps_lock (ps_for PassesOwn.never rfl (pi_keys (pv 1)) (pg_name (i := 2) sc_Office___init__.nd rfl (by first | exact Or.inl rfl | exact Or.inr rfl))
      (pss_one (ps_if (PW.pt (pw_or (pt_not (pt_val (pe_cal C_is_name hr (by decide) (by rfl) (pa_cons (pv 2) pa_nil)))) (pw_or1 (pt_not (pt_val (pe_cal C_is_rank hr (by decide) (by rfl) (pa_cons (pe_dget (hu_of hr) (pv 1) (pv 2) (fun _ _ => rfl)) pa_nil))))))) (pss_one ps_never) pss_nil))))
      (pss_one (ps_fld (pv 0) (pe_dc (own := [("kind", 2)]) (g := gName 2) (tt := tYes) rfl sc_Office___init__.nd (pi_list (pe_callB (id := "sorted") (call_sortedD rfl) (by rfl) T.sorted (by decide +kernel) (pa_cons (pv 1) pa_nil))) (blkOk_by (N := ["self", "ranks", "kind"]) (sc := defScope s_Office___init__) (by decide +kernel)) (fun _ _ _ _ _ => (pg_name (i := 2) sc_Office___init__.nd rfl (by first | exact Or.inl rfl | exact Or.inr rfl))) (fun _ _ _ _ _ => pts_nil) (fun _ _ _ _ _ => (pv 2)) (fun _ _ _ _ _ => (pe_callTy (T := "tuple") (call_tuple_ofK K rfl) (by rfl) T.tuple (by decide +kernel) (pa_cons (pe_dget (hu_of hr) (pv 1) (pv 2) (fun _ _ => rfl)) pa_nil)))) rfl)))), ?_⟩
  refine ⟨_, rfl, _, _, _, _, _, rfl, .ty _, .base (.dK hd), kit_ty (show kitB "dict" "dict" = some true by decide +kernel), _, rfl, iteF ?_⟩
  have fz : ∀ od, ∀ b o, b ≠ r → H b = some o → (upd H r (.frz od (.dK kvs))) b = some o := fun od b o hb e => by rw [upd_ne hb]; exact e
  refine ⟨r, _, hd, trivial, fun od => ⟨_, rfl, r, od, rfl, .inl ⟨kvs, upd_same, for_it walk_keys (fun i σ H' => (∃ v, σ = [some (.ref x), some (.ref r), v]) ∧ Same (upd H r (.frz od (.dK kvs))) H') ⟨⟨_, rfl⟩, Same.refl _⟩ (fun i σ H' hi p => p.2 _ _ upd_same) ?_ ?_⟩⟩⟩
  · rintro i u σ H1 H2 hi ⟨⟨v, rfl⟩, s1⟩ ⟨rfl, k, v, hk, rfl⟩
    have hl := he.len
    obtain ⟨y, hy⟩ : ∃ y, ss[i]? = some y := ⟨ss[i]'(by omega), List.getElem?_eq_getElem (by omega)⟩
    have ek : k = Sum.inr y := (Paired.at2 he hk hy).1
    subst ek
    have my := List.mem_of_getElem? hy
    obtain ⟨v', ev, t, ws, rfl, ht, hw⟩ := he.at_ my
    obtain ⟨nm, sm⟩ := names4_ok y (ok y my)
    have ntr : t ≠ r := ne_of ht hd (by intro z; cases z)
    refine ⟨_, rfl, .str y, .str y, rfl, .str y sm, fun H2 s2 => ⟨_, rfl, ?_⟩⟩
    rw [nm]
    refine iteF ⟨_, rfl, _, rfl, r, .ref t, rfl, .inl ⟨kvs, Sum.inr y, .inr ⟨od, s2 _ _ (s1 _ _ upd_same)⟩, rfl, ev.symm⟩, t, ws, rfl, s2 _ _ (s1 _ _ (fz od t _ ntr ht)), hw, fun H3 s3 => ⟨_, rfl, iteF ⟨⟨_, rfl⟩, s1.trans (s2.trans s3)⟩⟩⟩
  · rintro σ H1 ⟨⟨v, rfl⟩, s1⟩
    refine ⟨s1 _ _ upd_same, ?_⟩
    have sH : Same H (upd H1 r (.dK kvs)) := fun b o e => by
      by_cases hb : b = r
      · rw [hb] at e ⊢
        rw [hd] at e
        cases e
        exact upd_same
      · rw [upd_ne hb]
        exact s1 _ _ (fz od b o hb e)
    have dr : (upd H1 r (.dK kvs)) r = some (.dK kvs) := upd_same
    refine ⟨_, rfl, r, kvs, ss, rfl, .inl dr, he.keys, by omega, fun ys p perm srt hp => ⟨p, rfl, ⟨_, SqL.of upd_same⟩, fun D hD =>
      dc_texts walk_list walk_at ys (by rw [List.length_map]) (perm.nodup_iff.mpr nd) (sz (m := 60) (by rw [List.length_map, perm.length_eq]; omega)) hD (fun H' s' => SqL.of (s' _ _ upd_same)) RkV (fun _ _ _ _ e h => h.mono e) (fun _ _ _ _ _ e h => h.lay e)
        (fun i u y H2 R hi hu hy s2 k => ?_) (fun H2 kvs2 s2 h2 e2 => ?_)⟩⟩
    · rw [List.getElem?_map, hy] at hu
      obtain rfl : V.str y = u := Option.some.inj hu
      have my : y ∈ ss := perm.mem_iff.mp (List.mem_of_getElem? hy)
      obtain ⟨v', ev, t, ws, rfl, ht, hw⟩ := he.at_ my
      have s3 : Same H H2 := (sH.trans (Same.up hp)).trans s2
      have ht2 := s3 _ _ ht
      exact ⟨_, rfl, _, rfl, _, rfl, r, .ref t, rfl, .inl ⟨kvs, Sum.inr y, .inl (s3 _ _ hd), rfl, ev.symm⟩, t, _, rfl, .inr ⟨SqT.of ht2, k H2 _ (Same.refl _) ⟨t, ws, rfl, ht2, hw⟩⟩⟩
    · have s3 : Same H H2 := (sH.trans (Same.up hp)).trans s2
      have nDx : D ≠ x := ne_of h2 (s3 _ _ hx) (by intro z; cases z)
      refine ⟨_, rfl, x, _, dx, [], rfl, s3 _ _ hx, O.cl, O.nR, by decide, q _ (fun b o e => ?_) ⟨dx, D, kvs2, upd_same, by rw [upd_ne nDx]; exact h2, fun z => ?_⟩⟩
      · rw [upd_ne fun z => by rw [z, x0] at e; cases e]
        exact s3 _ _ (s0 _ _ e)
      · rw [e2.has z]
        by_cases c : z ∈ ss
        · rw [decide_eq_true c, decide_eq_true (perm.mem_iff.mpr c)]
        · rw [decide_eq_false c, decide_eq_false fun h => c (perm.mem_iff.mp h)]
end
end K01

set_option Elab.async false
set_option linter.all false
set_option maxRecDepth 100000
set_option maxHeartbeats 4000000
namespace K01
open PySem PySem.Spec PyProof.Rows L2 Sr
theorem three_line : (3 : Nat) ≤ sizeLine := by rw [sizeLine_eq]; decide
def spSource (K : PySem.W.Frag) : Sp := fun vs H Q _ => ∃ (s : Addr) (t : Int) (ns : List Int), vs = [.ref s, .int t] ∧ SqL K H s (ns.map V.int) ∧ 0 ≤ t ∧ ∀ p o, H p = none → DrawsO o → Q (.ref p) (upd H p o)
def spDraw : Sp := fun vs H Q _ => ∃ (a : Addr) (m : Int), vs = [.ref a, .int m] ∧ DrawsAt H a ∧ 1 ≤ m ∧ m < 1073741824 ∧ ∀ r o, 0 ≤ r → r < m → DrawsO o → Q (.int r) (upd H a o)
def spPick (K : PySem.W.Frag) : Sp := fun vs H Q _ => ∃ (a l : Addr) (xs : List V), vs = [.ref a, .ref l] ∧ DrawsAt H a ∧ l ≠ a ∧ (SqL K H l xs ∨ SqT K H l xs) ∧ 1 ≤ xs.length ∧ xs.length < 1073741824 ∧ ∀ (i : Nat) v o, xs[i]? = some v → DrawsO o → Q v (upd H a o)
def spSame : Sp := fun vs H Q _ => ∃ b : Bool, vs = [.bl b, .bl b] ∧ ∀ H', Same H H' → Q (.bl true) H'
section
variable {P : Program} {w : World} {K : PySem.W.Frag} {mg : Str → Option Value} {base : Heap}
abbrev s__law_source : Stmt := top 27
theorem sc__law_source : FnScope ["script", "place", "cell"] ["script", "place"] (defScope s__law_source) := ⟨rfl, rfl, rfl, by decide +kernel, rfl, by decide +kernel, by decide +kernel⟩
theorem c__law_source (T : Txt K mg) (D : Dfn K mg "_law_source" s__law_source) : Cal P w K mg base 1 "_law_source" ["script", "place"] (spSource K) := by
  refine D.cal sc__law_source (fun _ _ _ _ _ _ us hl => match us, hl with | [_, _], _ => rfl) (fun vs H Q E h => ?_) fun cdv A outer s H vs Q E hr h => ?_
  · obtain ⟨s, t, ns, rfl, _⟩ := h
    rfl
  obtain ⟨sc, t, ns, rfl, hS, h0, q⟩ := h
  refine ⟨_, (pss_cons (ps_set (i := 2) sc__law_source.nd rfl (by first | exact Or.inl rfl | exact Or.inr rfl) (pe_ifExp (pt_cmpR op_lt (pv 1) (pe_callB (id := "len") call_len_seq (by rfl) T.len (by decide +kernel) (pa_cons (pv 0) pa_nil)) (nomark _)) (pe_ix ix_list (pv 0) (pv 1) (fun _ _ => rfl)) (pe_op op_add (pe_op op_mul pe_int (pv 1)) pe_int)))
      (pss_one (ps_ret (pe_lst (pa_cons (pe_ifExp (pt_cmpR op_ge (pv 2) (pe_op op_pow pe_int pe_int) (nomark _)) (pv 2) pe_int) (pa_cons (pe_op op_mod (pe_callTy (T := "int") call_int1 (by rfl) T.int (by decide +kernel) (pa_cons (pv 2) pa_nil)) pe_int) (pa_cons pe_int pa_nil))))))), ?_⟩
  refine ⟨_, rfl, _, rfl, sc, _, rfl, .inl hS, _, _, rfl, rfl, _, rfl, ?_⟩
  by_cases h : t < ((ns.map V.int).length : Int)
  · rw [decide_eq_true h]
    have hlt : t.toNat < ns.length := by rw [List.length_map] at h; omega
    refine iteT ⟨_, rfl, _, rfl, sc, _, _, .int ns[t.toNat], rfl, rfl, hS, atI_of (j := t.toNat) (by omega) (by rw [List.getElem?_map, List.getElem?_eq_getElem hlt]; rfl), ?_⟩
    refine ⟨_, rfl, _, _, rfl, rfl, ⟨by decide, by decide, by decide⟩, _, _, rfl, rfl, _, rfl, ?_⟩
    refine iteB ?_ ?_
    · exact ⟨_, rfl, _, rfl, .inl ⟨_, rfl, _, _, rfl, rfl, (by show (0 : Int) < 2147483629; decide), three_line, fun p hp => q p _ hp ⟨_, _, _, rfl⟩⟩⟩
    · exact ⟨_, rfl, .inl ⟨_, rfl, _, _, rfl, rfl, (by show (0 : Int) < 2147483629; decide), three_line, fun p hp => q p _ hp ⟨_, _, _, rfl⟩⟩⟩
  · rw [decide_eq_false h]
    refine iteF ⟨_, rfl, _, _, rfl, rfl, .inl ⟨by decide, by decide⟩, _, _, rfl, rfl, ?_⟩
    refine ⟨_, rfl, _, _, rfl, rfl, ⟨by decide, by decide, by decide⟩, _, _, rfl, rfl, _, rfl, ?_⟩
    refine iteB ?_ ?_
    · exact ⟨_, rfl, _, rfl, .inl ⟨_, rfl, _, _, rfl, rfl, (by show (0 : Int) < 2147483629; decide), three_line, fun p hp => q p _ hp ⟨_, _, _, rfl⟩⟩⟩
    · exact ⟨_, rfl, .inl ⟨_, rfl, _, _, rfl, rfl, (by show (0 : Int) < 2147483629; decide), three_line, fun p hp => q p _ hp ⟨_, _, _, rfl⟩⟩⟩
abbrev s__law_draw : Stmt := top 28
theorem sc__law_draw : FnScope ["draws", "many", "found"] ["draws", "many"] (defScope s__law_draw) := ⟨rfl, rfl, rfl, by decide +kernel, rfl, by decide +kernel, by decide +kernel⟩
theorem c__law_draw (T : Txt K mg) (D : Dfn K mg "_law_draw" s__law_draw) : Cal P w K mg base 1 "_law_draw" ["draws", "many"] spDraw := by
  refine D.cal sc__law_draw (fun _ _ _ _ _ _ us hl => match us, hl with | [_, _], _ => rfl) (fun vs H Q E h => ?_) fun cdv A outer s H vs Q E hr h => ?_
  · obtain ⟨a, m, rfl, _⟩ := h
    rfl
  obtain ⟨a, m, rfl, ⟨o, ho, x, y, z, rfl⟩, h1, h2, q⟩ := h
  refine ⟨_, (pss_cons (ps_if (pt_cmpR op_gt (pe_ix ix_list (pv 0) pe_int (fun _ _ => rfl)) pe_int (nomark _)) (pss_cons (ps_set (i := 2) sc__law_draw.nd rfl (by first | exact Or.inl rfl | exact Or.inr rfl) (pe_op op_mod (pe_callTy (T := "int") call_int1 (by rfl) T.int (by decide +kernel) (pa_cons (pe_ix ix_list (pv 0) pe_int (fun _ _ => rfl)) pa_nil)) (pv 1)))
      (pss_cons (ps_asg (pe_op op_fdiv (pe_ix ix_list (pv 0) pe_int (fun _ _ => rfl)) (pv 1)) (pg_sub (pv 0) pe_int set_list))
      (pss_one (ps_ret (pv 2))))) pss_nil)
      (pss_cons (ps_asg (pe_op op_add (pe_ix ix_list (pv 0) pe_int (fun _ _ => rfl)) pe_int) (pg_sub (pv 0) pe_int set_list))
      (pss_cons (ps_asg (pe_op op_mod (pe_callTy (T := "int") call_int1 (by rfl) T.int (by decide +kernel) (pa_cons (pe_op op_add (pe_op op_add (pe_op op_mul (pe_ix ix_list (pv 0) pe_int (fun _ _ => rfl)) pe_int) (pe_op op_mul (pe_ix ix_list (pv 0) pe_int (fun _ _ => rfl)) pe_int)) pe_int) pa_nil)) pe_int) (pg_sub (pv 0) pe_int set_list))
      (pss_one (ps_ret (pe_op op_mod (pe_callTy (T := "int") call_int1 (by rfl) T.int (by decide +kernel) (pa_cons (pe_op op_add (pe_op op_fdiv (pe_ix ix_list (pv 0) pe_int (fun _ _ => rfl)) pe_int) (pe_ix ix_list (pv 0) pe_int (fun _ _ => rfl))) pa_nil)) (pv 1))))))), ?_⟩
  have c : ∀ (X Y Z : Int), (V.int X :: V.int Y :: V.int Z :: []).length = 3 := fun _ _ _ => rfl
  refine ⟨_, rfl, a, _, _, _, rfl, rfl, SqL.of ho, rfl, _, _, rfl, rfl, _, rfl, ?_⟩
  refine iteB ?_ ?_
  rotate_left
  · refine ⟨_, rfl, a, _, _, _, rfl, rfl, SqL.of ho, rfl, _, _, rfl, rfl, _, rfl, a, _, _, 2, rfl, rfl, ho, rfl, ?_⟩
    refine ⟨_, rfl, a, _, _, _, rfl, rfl, SqL.of upd_same, rfl, _, _, rfl, rfl, .inr ⟨by decide, by decide⟩, ?_⟩
    refine ⟨_, rfl, a, _, _, _, rfl, rfl, SqL.of upd_same, rfl, _, _, rfl, rfl, .inr ⟨by decide, by decide⟩, _, _, rfl, rfl, _, _, rfl, rfl, .inl ⟨_, rfl, _, _, rfl, rfl, (by show (0 : Int) < 2147483629; decide), ?_⟩⟩
    refine ⟨_, rfl, a, _, _, 1, rfl, rfl, upd_same, rfl, ?_⟩
    rw [upd_upd]
    refine ⟨_, rfl, a, _, _, _, rfl, rfl, SqL.of upd_same, rfl, _, _, rfl, rfl, ⟨by decide, by decide⟩, _, rfl, a, _, _, _, rfl, rfl, SqL.of upd_same, rfl, _, _, rfl, rfl, .inl ⟨_, rfl, _, rfl, _, _, rfl, rfl, (show (0 : Int) < m by omega), ?_⟩⟩
    exact q _ _ (Int.emod_nonneg _ (by omega)) (Int.emod_lt_of_pos _ (by omega)) ⟨_, _, _, rfl⟩
  · refine ⟨_, rfl, a, _, _, _, rfl, rfl, SqL.of ho, rfl, .inl ⟨_, rfl, _, rfl, _, _, rfl, rfl, (show (0 : Int) < m by omega), ?_⟩⟩
    refine ⟨_, rfl, a, _, _, _, rfl, rfl, SqL.of ho, rfl, _, rfl, _, _, rfl, rfl, ⟨by omega, h2⟩, _, rfl, a, _, _, 0, rfl, rfl, ho, rfl, _, rfl, ?_⟩
    exact q _ _ (Int.emod_nonneg _ (by omega)) (Int.emod_lt_of_pos _ (by omega)) ⟨_, _, _, rfl⟩
abbrev s__law_pick : Stmt := top 29
theorem sc__law_pick : FnScope ["draws", "xs"] ["draws", "xs"] (defScope s__law_pick) := ⟨rfl, rfl, rfl, by decide +kernel, rfl, by decide +kernel, by decide +kernel⟩
theorem c__law_pick (T : Txt K mg) (D : Dfn K mg "_law_pick" s__law_pick) (C_law_draw : Cal P w K mg base 1 "_law_draw" ["draws", "many"] spDraw) : Cal P w K mg base 2 "_law_pick" ["draws", "xs"] (spPick K) := by
  refine D.cal sc__law_pick (fun _ _ _ _ _ _ us hl => match us, hl with | [_, _], _ => rfl) (fun vs H Q E h => ?_) fun cdv A outer s H vs Q E hr h => ?_
  · obtain ⟨a, l, xs, rfl, _⟩ := h
    rfl
  obtain ⟨a, l, xs, rfl, hd, hn, hx, l1, l2, q⟩ := h
  refine ⟨_, (pss_one (ps_ret (pe_ix ix_seq (pv 1) (pe_cal C_law_draw hr (by decide) (by rfl) (pa_cons (pv 0) (pa_cons (pe_callB (id := "len") call_len_seq (by rfl) T.len (by decide +kernel) (pa_cons (pv 1) pa_nil)) pa_nil))) (fun _ _ => rfl)))), ?_⟩
  refine ⟨_, rfl, _, rfl, _, rfl, l, xs, rfl, hx, a, _, rfl, hd, by omega, by omega, fun r o r0 r1 ho => ?_⟩
  have hlt : r.toNat < xs.length := by omega
  have e : atI xs r = some xs[r.toNat] := atI_of (j := r.toNat) (by omega) (List.getElem?_eq_getElem hlt)
  rcases seq_upd (o := o) hn hx with h | h
  · exact .inl ⟨l, xs, r, _, rfl, rfl, h, e, q r.toNat _ o (List.getElem?_eq_getElem hlt) ho⟩
  · exact .inr (.inl ⟨l, xs, r, _, rfl, rfl, h, e, q r.toNat _ o (List.getElem?_eq_getElem hlt) ho⟩)
end
end K01

set_option Elab.async false
set_option linter.all false
set_option maxRecDepth 100000
set_option maxHeartbeats 4000000
namespace K01
open PySem PySem.Spec PyProof.Rows L2 Sr
theorem lineN {n : Nat} (h : n ≤ 1000 := by exact Nat.le_of_ble_eq_true rfl) : n ≤ sizeLine := Nat.le_of_lt (sz h)
theorem _root_.Sr.DrawsAt.up {H H' : Hp} {a : Addr} (d : DrawsAt H a) (e : Same H H') : DrawsAt H' a := by
  obtain ⟨o, h, x⟩ := d
  exact ⟨o, e _ _ h, x⟩
theorem draw_step {M H M' H' : Hp} {a : Addr} {o : HO} (g : Grow [a] M H M' H') (Ma' : M' a = none) (ho : DrawsO o) : Grow [a] M H M' (upd H' a o) ∧ DrawsAt (upd H' a o) a :=
  ⟨g.trans (Grow.chg g.sub Ma' (by simp)), ⟨o, upd_same, ho⟩⟩
def RkInv (a l f pw : Addr) (W : List V) (M H M8 : Hp) (i : Nat) (σ : L2.St) (H' : Hp) : Prop :=
  (∃ kk, σ = [some (.ref a), some (.int 4), some (.ref pw), kk, some (.ref l), some (.ref f)]) ∧ Grow [a] M H M8 H' ∧ DrawsAt H' a ∧ H' pw = some (.lst W) ∧
  ∃ (ml ss : List Str) (kvs : List (Key × V)), H' l = some (.lst (ml.map V.str)) ∧ H' f = some (.dK kvs) ∧ Ent (RkV M8) kvs ss ∧ (ss ++ ml).Nodup ∧ (∀ s ∈ ss ++ ml, s ∈ names4) ∧ ml.length + i = 4 ∧ ss.length = i
theorem rk_of {M : Hp} {t0 t1 t2 t3 t4 t5 t6 : Addr} (u0 : RkV M "" (.ref t0)) (u1 : RkV M "" (.ref t1)) (u2 : RkV M "" (.ref t2)) (u3 : RkV M "" (.ref t3)) (u4 : RkV M "" (.ref t4)) (u5 : RkV M "" (.ref t5)) (u6 : RkV M "" (.ref t6))
    {v : V} (hv : v ∈ ([.ref t0, .ref t1, .ref t2, .ref t3, .ref t4, .ref t5, .ref t6] : List V)) : RkV M "" v := by
  simp only [List.mem_cons, List.not_mem_nil, or_false] at hv
  rcases hv with rfl | rfl | rfl | rfl | rfl | rfl | rfl <;> assumption
theorem erase_map {α β : Type} (f : α → β) : ∀ (l : List α) (i : Nat), (l.map f).eraseIdx i = (l.eraseIdx i).map f
  | [], _ => rfl
  | _ :: _, 0 => rfl
  | x :: r, i + 1 => congrArg (f x :: ·) (erase_map f r i)
theorem erase_perm {α : Type} : ∀ {l : List α} {i : Nat} {x : α}, l[i]? = some x → l.Perm (x :: l.eraseIdx i)
  | [], _, _, h => by simp at h
  | y :: r, 0, x, h => by
    obtain rfl : y = x := by simpa using h
    exact List.Perm.refl _
  | y :: r, i + 1, x, h => by
    have p := erase_perm (l := r) (i := i) (x := x) (by simpa using h)
    exact (p.cons y).trans (List.Perm.swap x y _)
/-- new ranks -/
def spSomeRanks : Sp := fun vs H Q _ => ∃ (a : Addr) (M : Hp), vs = [.ref a, .int 4] ∧ DrawsAt H a ∧ Same M H ∧ M a = none ∧ ∀ r M' H' ss, Grow [a] M H M' H' → DrawsAt H' a → RanksAt M' r ss → Q (.ref r) H'
section
variable {P : Program} {w : World} {K : PySem.W.Frag} {mg : Str → Option Value} {base : Heap}
abbrev s__law_same : Stmt := top 30
theorem sc__law_same : FnScope ["found", "due", "left", "right"] ["found", "due"] (defScope s__law_same) := ⟨rfl, rfl, rfl, by decide +kernel, rfl, by decide +kernel, by decide +kernel⟩
theorem kit_bi (K : PySem.W.Frag) : PySem.W.kitAny K (.type "bool") [.type "bool", .type "int"] = some true := kit_two (a := true) (b := true) (kit_ty (by decide +kernel)) (kit_ty (by decide +kernel))
theorem c__law_same (T : Txt K mg) (D : Dfn K mg "_law_same" s__law_same) : Cal P w K mg base 1 "_law_same" ["found", "due"] spSame := by
  refine D.cal sc__law_same (fun _ _ _ _ _ _ us hl => match us, hl with | [_, _], _ => rfl) (fun vs H Q E h => ?_) fun cdv A outer s H vs Q E hr h => ?_
  · obtain ⟨b, rfl, _⟩ := h
    rfl
  obtain ⟨b, rfl, q⟩ := h
  refine ⟨_, (pss_cons (ps_if (pt_val (pe_callB (id := "isinstance") call_isiT (by rfl) T.isinstance (by decide +kernel) (pa_cons (pv 1) (pa_cons (pe_tup (pa_cons (pe_tyv (n := "list") (by rfl) T.list (by decide +kernel)) (pa_cons (pe_tyv (n := "tuple") (by rfl) T.tuple (by decide +kernel)) pa_nil))) pa_nil)))) pss_never pss_nil)
      (pss_cons (ps_if (pt_val (pe_callB (id := "isinstance") call_isiT (by rfl) T.isinstance (by decide +kernel) (pa_cons (pv 1) (pa_cons (pe_tup (pa_cons (pe_tyv (n := "bool") (by rfl) T.bool (by decide +kernel)) (pa_cons (pe_tyv (n := "int") (by rfl) T.int (by decide +kernel)) pa_nil))) pa_nil)))) (pss_one (ps_ret (pe_and (pe_callB (id := "isinstance") call_isi (by rfl) T.isinstance (by decide +kernel) (pa_cons (pv 0) (pa_cons (pe_tyv (n := "int") (by rfl) T.int (by decide +kernel)) pa_nil))) (pe_and (pe_cmpR op_eq (pe_callB (id := "isinstance") call_isi (by rfl) T.isinstance (by decide +kernel) (pa_cons (pv 0) (pa_cons (pe_tyv (n := "bool") (by rfl) T.bool (by decide +kernel)) pa_nil))) (pe_callB (id := "isinstance") call_isi (by rfl) T.isinstance (by decide +kernel) (pa_cons (pv 1) (pa_cons (pe_tyv (n := "bool") (by rfl) T.bool (by decide +kernel)) pa_nil))) (nomark _)) (pe_one (pe_cmpR op_eq (pv 0) (pv 1) (nomark _))))))) pss_nil)
      pss_never)), ?_⟩
  refine ⟨_, rfl, two_line, fun p hp => ⟨.bl b, p, [.ty "list", .ty "tuple"], _, _, _, rfl, upd_same, cls_two _ _, (Is.bl b).ty, kit_seq K (.bl b), _, rfl, iteF ?_⟩⟩
  refine ⟨_, rfl, two_line, fun p2 hp2 => ⟨.bl b, p2, [.ty "bool", .ty "int"], _, _, _, rfl, upd_same, cls_two _ _, (Is.bl b).ty, kit_bi K, _, rfl, iteT ?_⟩⟩
  refine ⟨_, rfl, .bl b, _, _, _, _, rfl, .ty _, (Is.bl b).ty, kit_int K (.bl b), _, rfl, iteT ?_⟩
  refine ⟨_, rfl, .bl b, _, _, _, _, rfl, .ty _, (Is.bl b).ty, kit_bool K (.bl b), _, rfl, .bl b, _, _, _, _, rfl, .ty _, (Is.bl b).ty, kit_bool K (.bl b), rfl, _, rfl, iteT ?_⟩
  refine ⟨_, rfl, _, rfl, rfl, ?_⟩
  have e : decide (V.bl b = V.bl b) = true := decide_eq_true rfl
  show Q (V.bl (decide (V.bl b = V.bl b))) _
  rw [e]
  exact q _ ((Same.up hp).trans (Same.up hp2))
abbrev s__law_some_ranks : Stmt := top 31
theorem sc__law_some_ranks : FnScope ["draws", "most", "words", "k", "menu", "found"] ["draws", "most"] (defScope s__law_some_ranks) := ⟨rfl, rfl, rfl, by decide +kernel, rfl, by decide +kernel, by decide +kernel⟩
theorem c__law_some_ranks (T : Txt K mg) (D : Dfn K mg "_law_some_ranks" s__law_some_ranks) (C_law_draw : Cal P w K mg base 1 "_law_draw" ["draws", "many"] spDraw) (C_law_pick : Cal P w K mg base 2 "_law_pick" ["draws", "xs"] (spPick K)) :
    Cal P w K mg base 3 "_law_some_ranks" ["draws", "most"] spSomeRanks := by
  refine D.cal sc__law_some_ranks (fun _ _ _ _ _ _ us hl => match us, hl with | [_, _], _ => rfl) (fun vs H Q E h => ?_) fun cdv A outer s H vs Q E hr h => ?_
  · obtain ⟨a, M, rfl, _⟩ := h
    rfl
  obtain ⟨a, M, rfl, hd, sM, Ma, q⟩ := h
  refine ⟨_, (pss_cons (ps_par (i := 4) (j := 5) (by rfl) sc__law_some_ranks.nd rfl rfl (by decide) rfl rfl (pa_cons (pe_lst (pa_cons pe_str (pa_cons pe_str (pa_cons pe_str (pa_cons pe_str pa_nil))))) (pa_cons pe_dnewK pa_nil)) (by rfl))
      (pss_cons (ps_set (i := 2) sc__law_some_ranks.nd rfl (by first | exact Or.inl rfl | exact Or.inr rfl) (pe_lst (pa_cons (pe_tup pa_nil) (pa_cons (pe_tup (pa_cons pe_str pa_nil)) (pa_cons (pe_tup (pa_cons pe_str pa_nil)) (pa_cons (pe_tup (pa_cons pe_str (pa_cons pe_str pa_nil))) (pa_cons (pe_tup (pa_cons pe_str (pa_cons pe_str pa_nil))) (pa_cons (pe_tup (pa_cons pe_str pa_nil)) (pa_cons (pe_tup (pa_cons pe_str pa_nil)) pa_nil)))))))))
      (pss_cons (ps_for PassesOwn.never rfl (pi_range1 (by rfl) T.range (pa_cons (pe_op op_add pe_int (pe_cal C_law_draw hr (by decide) (by rfl) (pa_cons (pv 0) (pa_cons (pv 1) pa_nil)))) pa_nil)) (pg_name (i := 3) sc__law_some_ranks.nd rfl (by first | exact Or.inl rfl | exact Or.inr rfl))
      (pss_one (ps_dput (hu_of hr) (pv 5) (pe_bm PySem.F.plainAttrs_list PySem.F.slot_list_pop PySem.F.type_list_pop mt_popAt (pv 4) (pa_cons (pe_cal C_law_draw hr (by decide) (by rfl) (pa_cons (pv 0) (pa_cons (pe_callB (id := "len") call_len_seq (by rfl) T.len (by decide +kernel) (pa_cons (pv 4) pa_nil)) pa_nil))) pa_nil)) (pe_cal C_law_pick hr (by decide) (by rfl) (pa_cons (pv 0) (pa_cons (pv 2) pa_nil))) rfl)))
      (pss_one (ps_ret (pv 5)))))), ?_⟩
  refine ⟨lineN, fun l hl f hf => ⟨_, _, rfl, ?_⟩⟩
  have gH : Grow [a] M H M _ := Grow.same sM ((Same.up (o := .lst [.str "red", .str "blue", .str "k9", .str "a"]) hl).trans (Same.up (o := .dK []) hf))
  have g0 := Grow.refl (S := [a]) gH.sub
  have nlf : f ≠ l := fun z => by rw [z, upd_same] at hf; cases hf
  have Hl0 : (upd (upd H l (.lst [.str "red", .str "blue", .str "k9", .str "a"])) f (.dK [])) l = some (.lst [.str "red", .str "blue", .str "k9", .str "a"]) := by rw [upd_ne nlf.symm, upd_same]
  have Hf0 : (upd (upd H l (.lst [.str "red", .str "blue", .str "k9", .str "a"])) f (.dK [])) f = some (.dK []) := upd_same
  refine ⟨lineN, fun t0 h0 => ?_⟩
  have e0 := Grow.lay (S := [a]) (o := .tup (([] : List Str).map V.str)) g0.sub h0
  have g1 := g0.trans e0
  refine ⟨lineN, fun t1 h1 => ?_⟩
  have e1 := Grow.lay (S := [a]) (o := .tup ((["points"] : List Str).map V.str)) g1.sub h1
  have g2 := g1.trans e1
  refine ⟨lineN, fun t2 h2 => ?_⟩
  have e2 := Grow.lay (S := [a]) (o := .tup ((["home"] : List Str).map V.str)) g2.sub h2
  have g3 := g2.trans e2
  refine ⟨lineN, fun t3 h3 => ?_⟩
  have e3 := Grow.lay (S := [a]) (o := .tup ((["few", "late"] : List Str).map V.str)) g3.sub h3
  have g4 := g3.trans e3
  refine ⟨lineN, fun t4 h4 => ?_⟩
  have e4 := Grow.lay (S := [a]) (o := .tup ((["home", "points"] : List Str).map V.str)) g4.sub h4
  have g5 := g4.trans e4
  refine ⟨lineN, fun t5 h5 => ?_⟩
  have e5 := Grow.lay (S := [a]) (o := .tup ((["late"] : List Str).map V.str)) g5.sub h5
  have g6 := g5.trans e5
  refine ⟨lineN, fun t6 h6 => ?_⟩
  have e6 := Grow.lay (S := [a]) (o := .tup ((["early"] : List Str).map V.str)) g6.sub h6
  have g7 := g6.trans e6
  refine ⟨lineN, fun pw hpw => ?_⟩
  have e7 := Grow.same (S := [a]) g7.sub (Same.up (o := .lst [.ref t0, .ref t1, .ref t2, .ref t3, .ref t4, .ref t5, .ref t6]) hpw)
  have g8 := g7.trans e7
  have u0 : RkV _ "" (.ref t0) := ⟨t0, [], rfl, (e1.up.trans (e2.up.trans (e3.up.trans (e4.up.trans (e5.up.trans (e6.up.trans (e7.up))))))) _ _ upd_same, by decide⟩
  have u1 : RkV _ "" (.ref t1) := ⟨t1, ["points"], rfl, (e2.up.trans (e3.up.trans (e4.up.trans (e5.up.trans (e6.up.trans (e7.up)))))) _ _ upd_same, by decide⟩
  have u2 : RkV _ "" (.ref t2) := ⟨t2, ["home"], rfl, (e3.up.trans (e4.up.trans (e5.up.trans (e6.up.trans (e7.up))))) _ _ upd_same, by decide⟩
  have u3 : RkV _ "" (.ref t3) := ⟨t3, ["few", "late"], rfl, (e4.up.trans (e5.up.trans (e6.up.trans (e7.up)))) _ _ upd_same, by decide⟩
  have u4 : RkV _ "" (.ref t4) := ⟨t4, ["home", "points"], rfl, (e5.up.trans (e6.up.trans (e7.up))) _ _ upd_same, by decide⟩
  have u5 : RkV _ "" (.ref t5) := ⟨t5, ["late"], rfl, (e6.up.trans (e7.up)) _ _ upd_same, by decide⟩
  have u6 : RkV _ "" (.ref t6) := ⟨t6, ["early"], rfl, (e7.up) _ _ upd_same, by decide⟩
  have sF : Same (upd (upd H l (.lst [.str "red", .str "blue", .str "k9", .str "a"])) f (.dK [])) _ := ((((((((Same.up (o := .tup (([] : List Str).map V.str)) h0).trans (Same.up (o := .tup ((["points"] : List Str).map V.str)) h1)).trans (Same.up (o := .tup ((["home"] : List Str).map V.str)) h2)).trans (Same.up (o := .tup ((["few", "late"] : List Str).map V.str)) h3)).trans (Same.up (o := .tup ((["home", "points"] : List Str).map V.str)) h4)).trans (Same.up (o := .tup ((["late"] : List Str).map V.str)) h5)).trans (Same.up (o := .tup ((["early"] : List Str).map V.str)) h6)).trans (Same.up (o := .lst [.ref t0, .ref t1, .ref t2, .ref t3, .ref t4, .ref t5, .ref t6]) hpw))
  have nl0 : l ≠ a := fun z => hd.some (by rw [← z]; exact hl)
  have hf' := hf
  rw [upd_ne nlf] at hf
  have nf0 : f ≠ a := fun z => hd.some (by rw [← z]; exact hf)
  have s8 : Same H _ := ((Same.up (o := .lst [.str "red", .str "blue", .str "k9", .str "a"]) hl).trans (Same.up (o := .dK []) hf')).trans sF
  have np0 : pw ≠ a := fun z => by
    obtain ⟨o, e, _, _, _, rfl⟩ := hd.up s8
    rw [← z, upd_same] at e
    cases e
  have gg := gH.trans g8
  have Ma8 := gg.out Ma hd.some
  have Ml8 := g8.out (sM.free hl) (by rw [Hl0]; simp)
  have Mf8 := g8.out (sM.free hf) (by rw [Hf0]; simp)
  refine ⟨_, rfl, _, rfl, a, _, rfl, hd.up s8, by omega, by omega, fun r o r0 r1 ho => ⟨_, _, rfl, rfl, _, rfl, by omega, by omega, ?_⟩⟩
  obtain ⟨g9, d9⟩ := draw_step gg Ma8 ho
  refine for_range (RkInv a l f pw [.ref t0, .ref t1, .ref t2, .ref t3, .ref t4, .ref t5, .ref t6] M H _) ⟨⟨_, rfl⟩, g9, d9, (upd_ne np0).trans upd_same, names4, [], [], (upd_ne nl0).trans (sF _ _ Hl0), (upd_ne nf0).trans (sF _ _ Hf0), .nil, by decide, fun _ h => h, rfl, rfl⟩ ?_ ?_
  · rintro i σ H1 hi ⟨⟨kk, rfl⟩, g, d, hpw1, ml, ss, kvs, hl1, hf1, he, nd, sub, e1, e2⟩
    refine ⟨_, rfl, _, rfl, a, pw, _, rfl, d, np0, .inl (SqL.of hpw1), (by simp), (by simp), fun j v o1 hv ho1 => ?_⟩
    have rk := rk_of u0 u1 u2 u3 u4 u5 u6 (List.mem_of_getElem? hv)
    obtain ⟨g1, d1⟩ := draw_step g Ma8 ho1
    have hl2 : (upd H1 a o1) l = _ := (upd_ne nl0).trans hl1
    have hf2 : (upd H1 a o1) f = _ := (upd_ne nf0).trans hf1
    have c4 : ml.length ≤ 4 := by omega
    refine ⟨_, rfl, _, rfl, .inl ⟨rfl, _, SqL.of hl2⟩, _, rfl, _, rfl, l, _, rfl, .inl (SqL.of hl2), a, _, rfl, d1, (by rw [List.length_map]; omega), (by rw [List.length_map]; omega), fun r2 o2 q0 q1 ho2 => ?_⟩
    rw [List.length_map] at q1
    obtain ⟨g2, d2⟩ := draw_step g1 Ma8 ho2
    have hl3 : (upd (upd H1 a o1) a o2) l = _ := (upd_ne nl0).trans hl2
    have hf3 : (upd (upd H1 a o1) a o2) f = _ := (upd_ne nf0).trans hf2
    have hp3 : (upd (upd H1 a o1) a o2) pw = _ := (upd_ne np0).trans ((upd_ne np0).trans hpw1)
    have lt : r2.toNat < ml.length := by omega
    obtain ⟨y, hy⟩ : ∃ y, ml[r2.toNat]? = some y := ⟨_, List.getElem?_eq_getElem lt⟩
    have pm := erase_perm hy
    have npl : pw ≠ l := ne_of hp3 hl3 (by intro z; cases ml <;> cases z)
    have npf : pw ≠ f := ne_of hp3 hf3 (by intro z; cases z)
    refine ⟨l, _, r2, r2.toNat, .str y, rfl, rfl, hl3, by omega, by omega, PySem.StrLaws.seqIndex_nonneg q0 (by rw [List.length_map]; omega), (by rw [List.getElem?_map, hy]; rfl), f, _, rfl, DPut.k (k := Sum.inr y) ((upd_ne nlf).trans hf3) (sz (m := 4) (by rw [he.len]; omega)), ?_⟩
    have nd2 : (ss ++ y :: ml.eraseIdx r2.toNat).Nodup := ((List.Perm.append_left ss pm).nodup_iff).mp nd
    have nd3 : (ss ++ [y] ++ ml.eraseIdx r2.toNat).Nodup := by rw [List.append_assoc]; exact nd2
    refine ⟨⟨_, rfl⟩, (g2.own hl Ml8).own hf Mf8, ⟨o2, (upd_ne nf0.symm).trans ((upd_ne nl0.symm).trans upd_same), ho2⟩, (upd_ne npf).trans ((upd_ne npl).trans hp3), ml.eraseIdx r2.toNat, ss ++ [y], _, (upd_ne nlf.symm).trans (upd_same.trans (by rw [erase_map])), upd_same, he.put (fun m => ?_) rk, nd3, fun s m => ?_, ?_, ?_⟩
    · exact (List.nodup_append.mp nd2).2.2 y m y List.mem_cons_self rfl
    · refine sub s ((List.Perm.append_left ss pm).mem_iff.mpr ?_)
      rw [List.append_assoc] at m
      exact m
    · rw [List.length_eraseIdx_of_lt lt]
      omega
    · rw [List.length_append, e2]
      rfl
  · rintro σ H1 ⟨⟨kk, rfl⟩, g, d, hpw1, ml, ss, kvs, hl1, hf1, he, nd, sub, e1, e2⟩
    refine ⟨_, rfl, q f _ H1 ss (g.settle hf Mf8 hf1) d ⟨⟨kvs, upd_same, he.imp fun s v h => h.mono (Same.up Mf8)⟩, (List.nodup_append.mp nd).1, by omega, fun s m => sub s (List.mem_append_left _ m), ?_⟩⟩
    intro z
    rw [z] at e2
    have e3 : (0 : Nat) = (1 + r).toNat := e2
    omega
end
end K01

set_option Elab.async false
set_option linter.all false
set_option maxRecDepth 100000
set_option maxHeartbeats 4000000
namespace K01
open PySem PySem.Spec PyProof.Rows L2 Sr
/-- a settled tuple of texts -/
def Wt (M : Hp) (t : Addr) : Prop := ∃ ws : List Str, M t = some (.tup (ws.map V.str)) ∧ ws.length ≤ 7 ∧ ∀ s ∈ ws, s.length ≤ 1000
theorem Wt.is {M : Hp} {t : Addr} (h : Wt M t) : ∃ d, Is M (.ref t) d := by
  obtain ⟨ws, h1, h2, h3⟩ := h
  exact ⟨_, .tup h1 (isA_strs h3) (by rw [List.length_map]; omega)⟩
def spWishes : Sp := fun vs H Q _ => ∃ (a r : Addr) (M : Hp) (ss : List Str), vs = [.ref a, .ref r] ∧ DrawsAt H a ∧ Same M H ∧ M a = none ∧ RanksAt M r ss ∧ ∀ t M' H', Grow [a] M H M' H' → DrawsAt H' a → Wt M' t → Q (.ref t) H'
theorem shp_strs {K : PySem.W.Frag} {H : Hp} : ∀ {ws : List Str}, (∀ s ∈ ws, s ∈ names4) → DpAll K H (ws.map V.str) (ws.map PyData.str) ∧ PyData.canLayAll0 (ws.map PyData.str) = true ∧ PyData.depthAll (ws.map PyData.str) ≤ 1
  | [], _ => ⟨.nil, rfl, by simp [PyData.depthAll]⟩
  | s :: r, h => by
    obtain ⟨h1, h2, h3⟩ := shp_strs (K := K) (H := H) (ws := r) fun x m => h x (List.mem_cons_of_mem _ m)
    refine ⟨.cons (.str s) h1, ?_, ?_⟩
    · show (PyData.canLay0 (.str s) && PyData.canLayAll0 (r.map PyData.str)) = true
      rw [names4_str s (h s List.mem_cons_self), h2]
      rfl
    · simp only [List.map_cons, PyData.depthAll, PyData.depth]
      omega
theorem shaped_strs {ws : List Str} (h : ∀ s ∈ ws, s ∈ names4) : SeqAt.shaped (.list (ws.map PyData.str)) = true := by
  obtain ⟨_, h2, h3⟩ := shp_strs (K := []) (H := fun _ => none) h
  unfold SeqAt.shaped
  rw [Bool.and_eq_true]
  refine ⟨by simpa [PyData.canLay0] using h2, decide_eq_true ?_⟩
  simp only [PyData.depth]
  omega
theorem seven : ∀ k : Nat, k < 7 → ∃ m : Nat, m ≤ 4 ∧ ([.int 0, .int 1, .int 1, .int 2, .int 2, .int 3, .int 4] : List V)[k]? = some (.int m)
  | 0, _ => ⟨0, by decide, rfl⟩
  | 1, _ => ⟨1, by decide, rfl⟩
  | 2, _ => ⟨1, by decide, rfl⟩
  | 3, _ => ⟨2, by decide, rfl⟩
  | 4, _ => ⟨2, by decide, rfl⟩
  | 5, _ => ⟨3, by decide, rfl⟩
  | 6, _ => ⟨4, by decide, rfl⟩
  | k + 7, h => by omega
theorem eqv_ne {s : Str} {ws : List Str} : PyData.eqv (.list ((s :: ws).map PyData.str)) (.list []) = false := by simp [PyData.eqv, PyData.eqvAll]
def WsInv (a r l f : Addr) (M H : Hp) (i : Nat) (σ : L2.St) (H' : Hp) : Prop :=
  (∃ kk, σ = [some (.ref a), some (.ref r), kk, some (.ref l), some (.ref f)]) ∧ Grow [a] M H M H' ∧ DrawsAt H' a ∧
  ∃ ml fs : List Str, H' l = some (.lst (ml.map V.str)) ∧ H' f = some (.lst (fs.map V.str)) ∧ (∀ s ∈ ml, s ∈ names4) ∧ (∀ s ∈ fs, s ∈ names4) ∧ fs.length ≤ i ∧ ml.length ≤ 4
section
variable {P : Program} {w : World} {K : PySem.W.Frag} {mg : Str → Option Value} {base : Heap}
abbrev s__law_some_wishes : Stmt := top 32
theorem sc__law_some_wishes : FnScope ["draws", "kinds", "k", "left", "found"] ["draws", "kinds"] (defScope s__law_some_wishes) := ⟨rfl, rfl, rfl, by decide +kernel, rfl, by decide +kernel, by decide +kernel⟩
theorem c__law_some_wishes (T : Txt K mg) (D : Dfn K mg "_law_some_wishes" s__law_some_wishes) (C_law_draw : Cal P w K mg base 1 "_law_draw" ["draws", "many"] spDraw) :
    Cal P w K mg base 3 "_law_some_wishes" ["draws", "kinds"] spWishes := by
  refine D.cal sc__law_some_wishes (fun _ _ _ _ _ _ us hl => match us, hl with | [_, _], _ => rfl) (fun vs H Q E h => ?_) fun cdv A outer s H vs Q E hr h => ?_
  · obtain ⟨a, r, M, ss, rfl, _⟩ := h
    rfl
  obtain ⟨a, r, M, ss, rfl, hd, sM, Ma, rk, q⟩ := h
  have rk0 := rk
  obtain ⟨⟨kvs, hk, he⟩, nd, hz, sub, _⟩ := rk
  refine ⟨_, (pss_cons (ps_par (i := 3) (j := 4) (by rfl) sc__law_some_wishes.nd rfl rfl (by decide) rfl rfl (pa_cons (pe_callB (id := "sorted") (call_sortedD rfl) (by rfl) T.sorted (by decide +kernel) (pa_cons (pv 1) pa_nil)) (pa_cons (pe_lst pa_nil) pa_nil)) (by rfl))
      (pss_cons (ps_for PassesOwn.never rfl (pi_range1 (by rfl) T.range (pa_cons (pe_ix ix_list (pe_lst (pa_cons pe_int (pa_cons pe_int (pa_cons pe_int (pa_cons pe_int (pa_cons pe_int (pa_cons pe_int (pa_cons pe_int pa_nil)))))))) (pe_cal C_law_draw hr (by decide) (by rfl) (pa_cons (pv 0) (pa_cons pe_int pa_nil))) (fun _ _ => rfl)) pa_nil)) (pg_name (i := 2) sc__law_some_wishes.nd rfl (by first | exact Or.inl rfl | exact Or.inr rfl))
      (pss_one (ps_if (pt_cmpR (op_neD hr.units) (pv 3) (pe_lst pa_nil) (nomark _)) (pss_one (ps_expr (pe_bm PySem.F.plainAttrs_list PySem.F.slot_list_append PySem.F.type_list_append mt_append (pv 4) (pa_cons (pe_bm PySem.F.plainAttrs_list PySem.F.slot_list_pop PySem.F.type_list_pop mt_popAt (pv 3) (pa_cons (pe_cal C_law_draw hr (by decide) (by rfl) (pa_cons (pv 0) (pa_cons (pe_callB (id := "len") call_len_seq (by rfl) T.len (by decide +kernel) (pa_cons (pv 3) pa_nil)) pa_nil))) pa_nil)) pa_nil)))) pss_nil)))
      (pss_one (ps_ret (pe_callTy (T := "tuple") call_tuple_of (by rfl) T.tuple (by decide +kernel) (pa_cons (pv 4) pa_nil)))))), ?_⟩
  refine ⟨_, rfl, r, kvs, ss, rfl, .inl (sM _ _ hk), he.keys, by omega, fun ys l perm srt hl => ⟨lineN, fun f hf => ⟨_, _, rfl, ?_⟩⟩⟩
  have g0 : Grow [a] M H M _ := Grow.same sM ((Same.up (o := .lst (ys.map V.str)) hl).trans (Same.up (o := .lst []) hf))
  have nlf : f ≠ l := fun z => by rw [z, upd_same] at hf; cases hf
  have s0 : Same H _ := (Same.up (o := .lst (ys.map V.str)) hl).trans (Same.up (o := .lst []) hf)
  have hf' := hf
  rw [upd_ne nlf] at hf
  have nl0 : l ≠ a := fun z => hd.some (by rw [← z]; exact hl)
  have nf0 : f ≠ a := fun z => hd.some (by rw [← z]; exact hf)
  have Ml := sM.free hl
  have Mf := sM.free hf
  refine ⟨lineN, fun p hp => ?_⟩
  have g1 := g0.trans (Grow.same (S := [a]) g0.sub (Same.up (o := .lst [.int 0, .int 1, .int 1, .int 2, .int 2, .int 3, .int 4]) hp))
  have s1 := s0.trans (Same.up (o := .lst [.int 0, .int 1, .int 1, .int 2, .int 2, .int 3, .int 4]) hp)
  have np0 : p ≠ a := fun z => by rw [z] at hp; exact (hd.up s0).some hp
  have npl : p ≠ l := fun z => by rw [z, upd_ne nlf.symm, upd_same] at hp; cases hp
  have npf : p ≠ f := fun z => by rw [z, upd_same] at hp; cases hp
  refine ⟨_, rfl, a, _, rfl, hd.up s1, by decide, by decide, fun n o n0 n1 ho => ?_⟩
  obtain ⟨m, m4, hm⟩ := seven n.toNat (by omega)
  obtain ⟨g2, d2⟩ := draw_step g1 Ma ho
  refine ⟨p, _, n, .int m, rfl, rfl, SqL.of ((upd_ne np0).trans upd_same), atI_of (j := n.toNat) (by omega) hm, m, rfl, by omega, by omega, ?_⟩
  refine for_range (WsInv a r l f M H) ⟨⟨_, rfl⟩, g2, d2, ys, [], (upd_ne nl0).trans ((upd_ne npl.symm).trans ((upd_ne nlf.symm).trans upd_same)), (upd_ne nf0).trans ((upd_ne npf.symm).trans upd_same), fun s h => sub s (perm.mem_iff.mp h), (fun _ h => by cases h), Nat.zero_le _, by rw [perm.length_eq]; exact hz⟩ ?_ ?_
  · rintro i σ H1 hi ⟨⟨kk, rfl⟩, g, d, ml, fs, hl1, hf1, m1, f1, e1, e2⟩
    refine ⟨_, rfl, lineN, fun e he => ⟨.list (ml.map .str), .list [], .lst (SqL.of (Same.up he _ _ hl1)) (shp_strs m1).1, .lst (SqL.of upd_same) .nil, shaped_strs m1, rfl, ?_⟩⟩
    have ge := g.trans (Grow.same (S := [a]) g.sub (Same.up (o := .lst []) he))
    have de := d.up (Same.up (o := .lst []) he)
    have hl2 := Same.up (o := .lst []) he _ _ hl1
    have hf2 := Same.up (o := .lst []) he _ _ hf1
    cases ml with
    | nil => exact ⟨_, rfl, iteF ⟨⟨_, rfl⟩, ge, de, [], fs, hl2, hf2, m1, f1, by omega, e2⟩⟩
    | cons s0 mr =>
      rw [eqv_ne]
      refine ⟨_, rfl, iteT ⟨_, rfl, .inl ⟨rfl, _, SqL.of hf2⟩, _, rfl, .inl ⟨rfl, _, SqL.of hl2⟩, _, rfl, _, rfl, l, _, rfl, .inl (SqL.of hl2), a, _, rfl, de, (by rw [List.length_map, List.length_cons]; omega), (by rw [List.length_map]; omega), fun r2 o2 q0 q1 ho2 => ?_⟩⟩
      rw [List.length_map] at q1
      obtain ⟨g3, d3⟩ := draw_step ge Ma ho2
      have lt : r2.toNat < (s0 :: mr).length := by omega
      obtain ⟨y, hy⟩ : ∃ y, (s0 :: mr)[r2.toNat]? = some y := ⟨_, List.getElem?_eq_getElem lt⟩
      refine ⟨l, _, r2, r2.toNat, .str y, rfl, rfl, (upd_ne nl0).trans hl2, by omega, by omega, PySem.StrLaws.seqIndex_nonneg q0 (by rw [List.length_map]; omega), (by rw [List.getElem?_map, hy]; rfl), f, _, .str y, rfl, rfl, (upd_ne nlf).trans ((upd_ne nf0).trans hf2), sz (m := 60) (by rw [List.length_map]; omega), ?_⟩
      refine ⟨⟨_, rfl⟩, (g3.own hl Ml).own hf Mf, ⟨o2, (upd_ne nf0.symm).trans ((upd_ne nl0.symm).trans upd_same), ho2⟩, (s0 :: mr).eraseIdx r2.toNat, fs ++ [y], (upd_ne nlf.symm).trans (upd_same.trans (by rw [erase_map])), upd_same.trans (by rw [List.map_append]; rfl), fun s m => m1 s (List.mem_of_mem_eraseIdx m), fun s m => ?_, ?_, ?_⟩
      · rcases List.mem_append.mp m with m | m
        · exact f1 s m
        · rw [List.mem_singleton.mp m]
          exact m1 y (List.mem_of_getElem? hy)
      · rw [List.length_append]
        show fs.length + 1 ≤ i + 1
        omega
      · rw [List.length_eraseIdx_of_lt lt]
        omega
  · rintro σ H1 ⟨⟨kk, rfl⟩, g, d, ml, fs, hl1, hf1, m1, f1, e1, e2⟩
    refine ⟨_, rfl, f, _, rfl, .inl ⟨SqL.of hf1, fun t ht => q t _ _ (g.trans (Grow.lay g.sub ht)) (d.up (Same.up ht)) ⟨fs, upd_same, ?_, fun s m => (names4_ok s (f1 s m)).2⟩⟩⟩
    have e3 : fs.length ≤ (m : Int).toNat := e1
    omega
end
end K01

set_option Elab.async false
set_option linter.all false
set_option maxRecDepth 100000
set_option maxHeartbeats 4000000
namespace K01
open PySem PySem.Spec PyProof.Rows L2 Sr
/-- a settled tuple of data -/
def EvT (M : Hp) (t : Addr) : Prop := ∃ (xs : List V) (ds : List Dt), M t = some (.tup xs) ∧ IsA M xs ds ∧ 1 ≤ xs.length ∧ xs.length ≤ 5
theorem EvT.mono {M M' : Hp} (e : Same M M') {t : Addr} (h : EvT M t) : EvT M' t := by
  obtain ⟨xs, ds, h1, h2, h3⟩ := h
  exact ⟨xs, ds, e _ _ h1, h2.mono e, h3⟩
theorem EvT.is {M : Hp} {t : Addr} (h : EvT M t) : ∃ d, Is M (.ref t) d := by
  obtain ⟨xs, ds, h1, h2, h3, h4⟩ := h
  exact ⟨_, .tup h1 h2 (by omega)⟩
def spCome : Sp := fun vs H Q _ => ∃ (a r : Addr) (nm : Str) (M : Hp) (ss : List Str), vs = [.ref a, .ref r, .str nm] ∧ nm.length ≤ 1000 ∧ DrawsAt H a ∧ Same M H ∧ M a = none ∧ RanksAt M r ss ∧ ∀ t M' H', Grow [a] M H M' H' → DrawsAt H' a → EvT M' t → Q (.ref t) H'
theorem home_is {ys : List Str} (hy : ∀ s ∈ ys, s.length ≤ 1000) {v : V} (h : v ∈ [V.non] ++ ys.map V.str) : ∃ d, ∀ M : Hp, Is M v d := by
  rcases List.mem_append.mp h with h | h
  · rw [List.mem_singleton.mp h]
    exact ⟨_, fun _ => .non⟩
  · obtain ⟨s, m, rfl⟩ := List.mem_map.mp h
    exact ⟨_, fun _ => .str s (hy s m)⟩
theorem pts_is {v : V} (h : v ∈ ([.int 0, .int 5, .int 5, .int 7] : List V)) : ∃ d, ∀ M : Hp, Is M v d := by
  simp only [List.mem_cons, List.not_mem_nil, or_false] at h
  rcases h with rfl | rfl | rfl | rfl <;> exact ⟨_, fun _ => .int _⟩
section
variable {P : Program} {w : World} {K : PySem.W.Frag} {mg : Str → Option Value} {base : Heap}
abbrev s__law_some_come : Stmt := top 33
theorem sc__law_some_come : FnScope ["draws", "ranks", "name", "home"] ["draws", "ranks", "name"] (defScope s__law_some_come) := ⟨rfl, rfl, rfl, by decide +kernel, rfl, by decide +kernel, by decide +kernel⟩
theorem c__law_some_come (T : Txt K mg) (D : Dfn K mg "_law_some_come" s__law_some_come) (C_law_pick : Cal P w K mg base 2 "_law_pick" ["draws", "xs"] (spPick K)) (C_law_some_wishes : Cal P w K mg base 3 "_law_some_wishes" ["draws", "kinds"] spWishes) :
    Cal P w K mg base 4 "_law_some_come" ["draws", "ranks", "name"] spCome := by
  refine D.cal sc__law_some_come (fun _ _ _ _ _ _ us hl => match us, hl with | [_, _, _], _ => rfl) (fun vs H Q E h => ?_) fun cdv A outer s H vs Q E hr h => ?_
  · obtain ⟨a, r, nm, M, ss, rfl, _⟩ := h
    rfl
  obtain ⟨a, r, nm, M, ss, rfl, hn, hd, sM, Ma, rk, q⟩ := h
  have rk0 := rk
  obtain ⟨⟨kvs, hk, he⟩, nd, hz, sub, _⟩ := rk
  refine ⟨_, (pss_cons (ps_set (i := 3) sc__law_some_come.nd rfl (by first | exact Or.inl rfl | exact Or.inr rfl) (pe_cal C_law_pick hr (by decide) (by rfl) (pa_cons (pv 0) (pa_cons (pe_op op_cat (pe_lst (pa_cons pe_non pa_nil)) (pe_callB (id := "sorted") (call_sortedD rfl) (by rfl) T.sorted (by decide +kernel) (pa_cons (pv 1) pa_nil))) pa_nil))))
      (pss_one (ps_ret (pe_tup (pa_cons pe_str (pa_cons (pv 2) (pa_cons (pe_cal C_law_some_wishes hr (by decide) (by rfl) (pa_cons (pv 0) (pa_cons (pv 1) pa_nil))) (pa_cons (pe_cal C_law_pick hr (by decide) (by rfl) (pa_cons (pv 0) (pa_cons (pe_lst (pa_cons pe_int (pa_cons pe_int (pa_cons pe_int (pa_cons pe_int pa_nil))))) pa_nil))) (pa_cons (pv 3) pa_nil))))))))), ?_⟩
  refine ⟨_, rfl, lineN, fun e hE => ⟨_, rfl, r, kvs, ss, rfl, .inl (Same.up hE _ _ (sM _ _ hk)), he.keys, by omega, fun ys p perm srt hp => ⟨e, p, _, _, rfl, rfl, Same.up hp _ _ upd_same, upd_same, lineN (by rw [List.length_map, perm.length_eq]; show 1 + ss.length ≤ 1000; omega), fun c hc => ?_⟩⟩⟩
  have s0 := ((Same.up (o := .lst [.non]) hE).trans (Same.up (o := .lst (ys.map V.str)) hp)).trans (Same.up (o := .lst ([.non] ++ ys.map V.str)) hc)
  have g0 : Grow [a] M H M _ := Grow.same sM s0
  have nca : c ≠ a := fun z => by
    rw [z] at hc
    exact (hd.up ((Same.up (o := .lst [.non]) hE).trans (Same.up (o := .lst (ys.map V.str)) hp))).some hc
  refine ⟨a, c, _, rfl, hd.up s0, nca, .inl (SqL.of upd_same), (by simp), (by rw [List.length_append, List.length_map, perm.length_eq]; show 1 + ss.length < _; omega), fun j v o hv ho => ?_⟩
  obtain ⟨dv, iv⟩ := home_is (fun s m => (names4_ok s (sub s (perm.mem_iff.mp m))).2) (List.mem_of_getElem? hv)
  obtain ⟨g2, d2⟩ := draw_step g0 Ma ho
  refine ⟨_, rfl, _, rfl, _, rfl, a, r, M, ss, rfl, d2, g2.sub, Ma, rk0, fun t M' H' gW dW ht => ?_⟩
  have g3 := g2.trans gW
  have Ma3 := g3.out Ma hd.some
  refine ⟨_, rfl, lineN, fun e2 he2 => ⟨a, e2, _, rfl, dW.up (Same.up he2), (fun z => by rw [z] at he2; exact dW.some he2), .inl (SqL.of upd_same), by simp, by simp, fun j2 v2 o2 hv2 ho2 => ⟨_, rfl, lineN, fun T hT => ?_⟩⟩⟩
  obtain ⟨d2v, i2⟩ := pts_is (List.mem_of_getElem? hv2)
  obtain ⟨g4, d4⟩ := draw_step (g3.trans (Grow.same g3.sub (Same.up (o := .lst [.int 0, .int 5, .int 5, .int 7]) he2))) Ma3 ho2
  obtain ⟨dw, iw⟩ := ht.is
  exact q T _ _ (g4.trans (Grow.lay g4.sub hT)) (d4.up (Same.up hT)) ⟨_, _, upd_same, .cons (.str _ (by decide)) (.cons (.str nm hn) (.cons (iw.mono (Same.up (g4.sub.free hT))) (.cons (i2 _) (.cons (iv _) .nil)))), by simp, by simp⟩
end
end K01

set_option Elab.async false
set_option linter.all false
set_option maxRecDepth 100000
set_option maxHeartbeats 4000000
namespace K01
open PySem PySem.Spec PyProof.Rows L2 Sr
def names8 : List Str := ["bob", "ann", "c1", "dora", "e", "fay", "gus", "hal"]
theorem names8_ok : ∀ s ∈ names8, s.length ≤ 1000 ∧ PyData.canLay0 (.str s) = true := by decide +kernel
def NamesAt (H : Hp) (kn mo : Addr) : Prop := ∃ ks ms : List Str, H kn = some (.lst (ks.map V.str)) ∧ H mo = some (.lst (ms.map V.str)) ∧ ks.length + ms.length = 8 ∧ (∀ s ∈ ks, s ∈ names8) ∧ ∀ s ∈ ms, s ∈ names8
theorem NamesAt.up {H H' : Hp} {kn mo : Addr} (e : Same H H') (h : NamesAt H kn mo) : NamesAt H' kn mo := by
  obtain ⟨ks, ms, h1, h2, h3⟩ := h
  exact ⟨ks, ms, e _ _ h1, e _ _ h2, h3⟩
theorem NamesAt.step {S : List Addr} {M H M' H' : Hp} {kn mo : Addr} (g : Grow S M H M' H') (k : kn ∉ S) (m : mo ∉ S) (h : NamesAt H kn mo) : NamesAt H' kn mo := by
  obtain ⟨ks, ms, h1, h2, h3⟩ := h
  exact ⟨ks, ms, g.stp _ _ k h1, g.stp _ _ m h2, h3⟩
theorem shp8 {K : PySem.W.Frag} {H : Hp} : ∀ {ws : List Str}, (∀ s ∈ ws, s ∈ names8) → DpAll K H (ws.map V.str) (ws.map PyData.str) ∧ PyData.canLayAll0 (ws.map PyData.str) = true ∧ PyData.depthAll (ws.map PyData.str) ≤ 1
  | [], _ => ⟨.nil, rfl, by simp [PyData.depthAll]⟩
  | s :: r, h => by
    obtain ⟨h1, h2, h3⟩ := shp8 (K := K) (H := H) (ws := r) fun x m => h x (List.mem_cons_of_mem _ m)
    refine ⟨.cons (.str s) h1, ?_, ?_⟩
    · show (PyData.canLay0 (.str s) && PyData.canLayAll0 (r.map PyData.str)) = true
      rw [(names8_ok s (h s List.mem_cons_self)).2, h2]
      rfl
    · simp only [List.map_cons, PyData.depthAll, PyData.depth]
      omega
theorem shaped8 {ws : List Str} (h : ∀ s ∈ ws, s ∈ names8) : SeqAt.shaped (.list (ws.map PyData.str)) = true := by
  obtain ⟨_, h2, h3⟩ := shp8 (K := []) (H := fun _ => none) h
  unfold SeqAt.shaped
  rw [Bool.and_eq_true]
  refine ⟨by simpa [PyData.canLay0] using h2, decide_eq_true ?_⟩
  simp only [PyData.depth]
  omega
theorem strs_is {ys : List Str} (hy : ∀ s ∈ ys, s.length ≤ 1000) {v : V} (h : v ∈ ys.map V.str) : ∃ d, ∀ M : Hp, Is M v d := by
  obtain ⟨s, m, rfl⟩ := List.mem_map.mp h
  exact ⟨_, fun _ => .str s (hy s m)⟩
theorem cut_rest {S REST : TS} {D : Ends} {σ : L2.St} {H : Hp} (G : Hp → Prop) (hr : ∀ H2, G H2 → REST D σ H2) (h : (∀ H2, G H2 → REST D σ H2) → tSeq S REST D σ H) : tSeq S REST D σ H := h hr
theorem fresh_ne {H : Hp} {a c : Addr} (hd : DrawsAt H a) (hc : H c = none) : c ≠ a := fun z => hd.some (by rw [← z]; exact hc)
theorem atI_last {α : Type} {xs : List α} {x : α} : atI (xs ++ [x]) (-1) = some x := by
  unfold atI ixN
  have e : (xs ++ [x]).length = xs.length + 1 := by rw [List.length_append]; rfl
  rw [if_neg (by omega), if_pos (by omega), e, show (-1 + ((xs.length + 1 : Nat) : Int)).toNat = xs.length by omega]
  simp
theorem _root_.Sr.DrawsAt.ne {H : Hp} {a p : Addr} {o : HO} (n : p ≠ a) (d : DrawsAt H a) : DrawsAt (upd H p o) a := by
  obtain ⟨x, e, y⟩ := d
  exact ⟨x, (upd_ne n.symm).trans e, y⟩
def spEvent : Sp := fun vs H Q _ => ∃ (a r t kn mo : Addr) (M : Hp) (ss : List Str), vs = [.ref a, .ref r, .ref t, .bl true] ∧ DrawsAt H a ∧ Same M H ∧ M a = none ∧ M kn = none ∧ M mo = none ∧ kn ≠ mo ∧ kn ≠ a ∧ mo ≠ a ∧ RanksAt M r ss ∧
  H t = some (.tup [.ref kn, .ref mo]) ∧ NamesAt H kn mo ∧ ∀ T M' H', Grow [a, kn, mo] M H M' H' → DrawsAt H' a → NamesAt H' kn mo → EvT M' T → Q (.ref T) H'
section
variable {P : Program} {w : World} {K : PySem.W.Frag} {mg : Str → Option Value} {base : Heap}
abbrev s__law_some_event : Stmt := top 34
theorem sc__law_some_event : FnScope ["draws", "ranks", "names", "rounds", "choice", "known", "more"] ["draws", "ranks", "names", "rounds"] (defScope s__law_some_event) := ⟨rfl, rfl, rfl, by decide +kernel, rfl, by decide +kernel, by decide +kernel⟩
theorem c__law_some_event (T : Txt K mg) (D : Dfn K mg "_law_some_event" s__law_some_event) (C_law_draw : Cal P w K mg base 1 "_law_draw" ["draws", "many"] spDraw) (C_law_pick : Cal P w K mg base 2 "_law_pick" ["draws", "xs"] (spPick K))
    (C_law_some_wishes : Cal P w K mg base 3 "_law_some_wishes" ["draws", "kinds"] spWishes) (C_law_some_come : Cal P w K mg base 4 "_law_some_come" ["draws", "ranks", "name"] spCome) :
    Cal P w K mg base 5 "_law_some_event" ["draws", "ranks", "names", "rounds"] spEvent := by
  refine D.cal sc__law_some_event (fun _ _ _ _ _ _ us hl => match us, hl with | [_, _, _, _], _ => rfl) (fun vs H Q E h => ?_) fun cdv A outer s H vs Q E hr h => ?_
  · obtain ⟨a, r, t, kn, mo, M, ss, rfl, _⟩ := h
    rfl
  obtain ⟨a, r, t, kn, mo, M, ss, rfl, hd, sM, Ma, Mk, Mm, nkm, nka, nma, rk, ht, hn, q⟩ := h
  have rk0 := rk
  obtain ⟨⟨kvs, hk, he⟩, nd, hz, sub, ne0⟩ := rk
  refine ⟨_, (pss_cons (ps_asg (pv 2) (pg_tup rfl (pgs_cons (pg_name (i := 5) sc__law_some_event.nd rfl (by first | exact Or.inl rfl | exact Or.inr rfl)) (pgs_cons (pg_name (i := 6) sc__law_some_event.nd rfl (by first | exact Or.inl rfl | exact Or.inr rfl)) pgs_nil))))
      (pss_cons (ps_set (i := 4) sc__law_some_event.nd rfl (by first | exact Or.inl rfl | exact Or.inr rfl) (pe_cal C_law_draw hr (by decide) (by rfl) (pa_cons (pv 0) (pa_cons pe_int pa_nil))))
      (pss_cons (ps_if (PW.pt (pw_and (pt_cmpR op_lt (pv 4) pe_int (nomark _)) (pw_and1 (pt_cmpR (op_neD hr.units) (pv 6) (pe_lst pa_nil) (nomark _))))) (pss_cons (ps_expr (pe_bm PySem.F.plainAttrs_list PySem.F.slot_list_append PySem.F.type_list_append mt_append (pv 5) (pa_cons (pe_bm PySem.F.plainAttrs_list PySem.F.slot_list_pop PySem.F.type_list_pop mt_popAt (pv 6) (pa_cons pe_int pa_nil)) pa_nil)))
      (pss_one (ps_ret (pe_cal C_law_some_come hr (by decide) (by rfl) (pa_cons (pv 0) (pa_cons (pv 1) (pa_cons (pe_ix ix_list (pv 5) (pe_un un_neg pe_int) (fun _ _ => rfl)) pa_nil))))))) pss_nil)
      (pss_cons (ps_if (pt_cmpR op_lt (pv 4) pe_int (nomark _)) (pss_one (ps_ret (pe_tup (pa_cons pe_str (pa_cons (pe_cal C_law_pick hr (by decide) (by rfl) (pa_cons (pv 0) (pa_cons (pe_callB (id := "sorted") (call_sortedD rfl) (by rfl) T.sorted (by decide +kernel) (pa_cons (pv 1) pa_nil)) pa_nil))) pa_nil))))) pss_nil)
      (pss_cons (ps_if (pt_cmpR op_eq (pv 4) pe_int (nomark _)) (pss_one (ps_ret (pe_tup (pa_cons pe_str (pa_cons (pe_cal C_law_pick hr (by decide) (by rfl) (pa_cons (pv 0) (pa_cons (pe_op op_cat (pv 5) (pe_lst (pa_cons pe_str pa_nil))) pa_nil))) pa_nil))))) pss_nil)
      (pss_cons (ps_if (pt_cmpR op_eq (pv 4) pe_int (nomark _)) (pss_one (ps_ret (pe_tup (pa_cons pe_str (pa_cons (pe_cal C_law_pick hr (by decide) (by rfl) (pa_cons (pv 0) (pa_cons (pe_callB (id := "sorted") (call_sortedD rfl) (by rfl) T.sorted (by decide +kernel) (pa_cons (pv 1) pa_nil)) pa_nil))) pa_nil))))) pss_nil)
      (pss_cons (ps_if (PW.pt (pw_or (pt_cmpR op_eq (pv 4) pe_int (nomark _)) (pw_or1 (pt_not (pt_val (pv 3)))))) (pss_one (ps_ret (pe_tup (pa_cons pe_str (pa_cons (pe_cal C_law_pick hr (by decide) (by rfl) (pa_cons (pv 0) (pa_cons (pe_op op_cat (pv 5) (pe_lst (pa_cons pe_str pa_nil))) pa_nil))) (pa_cons (pe_cal C_law_some_wishes hr (by decide) (by rfl) (pa_cons (pv 0) (pa_cons (pv 1) pa_nil))) pa_nil)))))) pss_nil)
      (pss_one (ps_ret (pe_cal C_law_pick hr (by decide) (by rfl) (pa_cons (pv 0) (pa_cons (pe_lst (pa_cons (pe_tup (pa_cons pe_str pa_nil)) (pa_cons (pe_tup (pa_cons pe_str pa_nil)) (pa_cons (pe_tup (pa_cons pe_str pa_nil)) pa_nil)))) pa_nil)))))))))))), ?_⟩
  have fin : ∀ T M' H', Grow [a] M H M' H' → DrawsAt H' a → EvT M' T → Q (.ref T) H' := fun T M' H' g d e => q T M' H' (g.mono (by simp)) d (hn.step g (by simp [nka]) (by simp [nma])) e
  refine ⟨_, rfl, t, _, rfl, SqT.of ht, rfl, _, _, rfl, _, _, rfl, rfl, ?_⟩
  refine ⟨_, rfl, a, _, rfl, hd, by decide, by decide, fun ch o c0 c1 ho => ?_⟩
  obtain ⟨g0, d0⟩ := draw_step (Grow.refl sM) Ma ho
  dsimp only [gName]
  refine cut_rest (fun H2 => Grow [a] M H M H2 ∧ DrawsAt H2 a) ?_ ?_
  · rintro H2 ⟨g, d⟩
    obtain ⟨ks, ms, h1, h2, hl, hks, hms⟩ := hn.step g (by simp [nka]) (by simp [nma])
    have l1 : 1 ≤ ss.length := by
      cases ss with
      | nil => exact absurd rfl ne0
      | cons _ _ => simp
    have kz : ∀ s ∈ ks ++ [("zz" : Str)], s.length ≤ 1000 := fun s m => by
      rcases List.mem_append.mp m with m | m
      · exact (names8_ok s (hks s m)).1
      · rw [List.mem_singleton.mp m]
        decide
    refine ⟨_, rfl, _, _, rfl, rfl, _, rfl, iteB ?_ ?_⟩
    · refine ⟨_, rfl, _, rfl, r, kvs, ss, rfl, .inl (g.sub _ _ hk), he.keys, by omega, fun ys p perm srt hp => ⟨a, p, _, rfl, d.up (Same.up hp), fresh_ne d hp, .inl (SqL.of upd_same), (by rw [List.length_map, perm.length_eq]; exact l1), (by rw [List.length_map, perm.length_eq]; omega), fun j v o hv ho => ⟨lineN, fun T hT => ?_⟩⟩⟩
      obtain ⟨dv, iv⟩ := strs_is (fun s m => (names4_ok s (sub s (perm.mem_iff.mp m))).2) (List.mem_of_getElem? hv)
      obtain ⟨g4, d4⟩ := draw_step (g.trans (Grow.same g.sub (Same.up (o := .lst (ys.map V.str)) hp))) Ma ho
      exact fin T _ _ (g4.trans (Grow.lay g4.sub hT)) (d4.up (Same.up hT)) ⟨_, _, upd_same, .cons (.str _ (by decide)) (.cons (iv _) .nil), by simp, by simp⟩
    refine ⟨_, rfl, rfl, _, rfl, iteB ?_ ?_⟩
    · refine ⟨_, rfl, _, rfl, lineN, fun z hz => ⟨kn, z, _, _, rfl, rfl, Same.up hz _ _ h1, upd_same, lineN (by rw [List.length_map]; show ks.length + 1 ≤ 1000; omega), fun c hc => ⟨a, c, _, rfl, (d.up (Same.up hz)).up (Same.up hc), fresh_ne (d.up (Same.up hz)) hc, .inl (SqL.of upd_same), (by rw [List.length_append]; exact Nat.le_add_left 1 _), (by rw [List.length_append, List.length_map]; show ks.length + 1 < _; omega), fun j v o hv ho => ⟨lineN, fun T hT => ?_⟩⟩⟩⟩
      obtain ⟨dv, iv⟩ := strs_is (ys := ks ++ [("zz" : Str)]) kz (by rw [List.map_append]; exact List.mem_of_getElem? hv)
      obtain ⟨g4, d4⟩ := draw_step (g.trans (Grow.same g.sub ((Same.up (o := .lst [.str "zz"]) hz).trans (Same.up (o := .lst (ks.map V.str ++ [.str "zz"])) hc)))) Ma ho
      exact fin T _ _ (g4.trans (Grow.lay g4.sub hT)) (d4.up (Same.up hT)) ⟨_, _, upd_same, .cons (.str _ (by decide)) (.cons (iv _) .nil), by simp, by simp⟩
    refine ⟨_, rfl, rfl, _, rfl, iteB ?_ ?_⟩
    · refine ⟨_, rfl, _, rfl, r, kvs, ss, rfl, .inl (g.sub _ _ hk), he.keys, by omega, fun ys p perm srt hp => ⟨a, p, _, rfl, d.up (Same.up hp), fresh_ne d hp, .inl (SqL.of upd_same), (by rw [List.length_map, perm.length_eq]; exact l1), (by rw [List.length_map, perm.length_eq]; omega), fun j v o hv ho => ⟨lineN, fun T hT => ?_⟩⟩⟩
      obtain ⟨dv, iv⟩ := strs_is (fun s m => (names4_ok s (sub s (perm.mem_iff.mp m))).2) (List.mem_of_getElem? hv)
      obtain ⟨g4, d4⟩ := draw_step (g.trans (Grow.same g.sub (Same.up (o := .lst (ys.map V.str)) hp))) Ma ho
      exact fin T _ _ (g4.trans (Grow.lay g4.sub hT)) (d4.up (Same.up hT)) ⟨_, _, upd_same, .cons (.str _ (by decide)) (.cons (iv _) .nil), by simp, by simp⟩
    refine ⟨_, rfl, rfl, _, rfl, iteB ?_ ?_⟩
    · refine ⟨_, rfl, _, rfl, lineN, fun z hz => ⟨kn, z, _, _, rfl, rfl, Same.up hz _ _ h1, upd_same, lineN (by rw [List.length_map]; show ks.length + 1 ≤ 1000; omega), fun c hc => ⟨a, c, _, rfl, (d.up (Same.up hz)).up (Same.up hc), fresh_ne (d.up (Same.up hz)) hc, .inl (SqL.of upd_same), (by rw [List.length_append]; exact Nat.le_add_left 1 _), (by rw [List.length_append, List.length_map]; show ks.length + 1 < _; omega), fun j v o hv ho => ?_⟩⟩⟩
      obtain ⟨dv, iv⟩ := strs_is (ys := ks ++ [("zz" : Str)]) kz (by rw [List.map_append]; exact List.mem_of_getElem? hv)
      obtain ⟨g4, d4⟩ := draw_step (g.trans (Grow.same g.sub ((Same.up (o := .lst [.str "zz"]) hz).trans (Same.up (o := .lst (ks.map V.str ++ [.str "zz"])) hc)))) Ma ho
      refine ⟨_, rfl, _, rfl, a, r, M, ss, rfl, d4, g4.sub, Ma, rk0, fun t' M' H' gW dW ht' => ⟨lineN, fun T hT => ?_⟩⟩
      have g5 := g4.trans gW
      obtain ⟨dw, iw⟩ := ht'.is
      exact fin T _ _ (g5.trans (Grow.lay g5.sub hT)) (dW.up (Same.up hT)) ⟨_, _, upd_same, .cons (.str _ (by decide)) (.cons (iv _) (.cons (iw.mono (Same.up (g5.sub.free hT))) .nil)), by simp, by simp⟩
    refine ⟨_, rfl, _, rfl, iteF ⟨_, rfl, lineN, fun t1 e1 => ⟨lineN, fun t2 e2 => ⟨lineN, fun t3 e3 => ⟨lineN, fun l hl => ⟨a, l, _, rfl, (((d.up (Same.up e1)).up (Same.up e2)).up (Same.up e3)).up (Same.up hl), fresh_ne (((d.up (Same.up e1)).up (Same.up e2)).up (Same.up e3)) hl, .inl (SqL.of upd_same), by simp, by simp, fun j v o hv ho => ?_⟩⟩⟩⟩⟩⟩
    have k1 := Grow.lay (S := [a]) (o := .tup [.str "gather"]) g.sub e1
    have k2 := Grow.lay (S := [a]) (o := .tup [.str "round"]) k1.sub e2
    have k3 := Grow.lay (S := [a]) (o := .tup [.str "gather"]) k2.sub e3
    have k4 := Grow.same (S := [a]) k3.sub (Same.up (o := .lst [.ref t1, .ref t2, .ref t3]) hl)
    have g5 := ((((g.trans k1).trans k2).trans k3).trans k4)
    obtain ⟨g6, d6⟩ := draw_step g5 (g5.out Ma hd.some) ho
    have hm := List.mem_of_getElem? hv
    simp only [List.mem_cons, List.not_mem_nil, or_false] at hm
    rcases hm with rfl | rfl | rfl
    · exact fin t1 _ _ g6 d6 ⟨_, [.str "gather"], (k2.up.trans k3.up) _ _ upd_same, .cons (.str _ (by decide)) .nil, by simp, by simp⟩
    · exact fin t2 _ _ g6 d6 ⟨_, [.str "round"], k3.up _ _ upd_same, .cons (.str _ (by decide)) .nil, by simp, by simp⟩
    · exact fin t3 _ _ g6 d6 ⟨_, [.str "gather"], upd_same, .cons (.str _ (by decide)) .nil, by simp, by simp⟩
  · intro rest
    refine ⟨_, rfl, _, _, rfl, rfl, _, rfl, iteB ?_ ?_⟩
    · obtain ⟨ks, ms, h1, h2, hl, hks, hms⟩ := hn.step g0 (by simp [nka]) (by simp [nma])
      refine ⟨_, rfl, lineN, fun e hE => ⟨.list (ms.map .str), .list [], .lst (SqL.of (Same.up hE _ _ h2)) (shp8 hms).1, .lst (SqL.of upd_same) .nil, shaped8 hms, rfl, ?_⟩⟩
      have ge := g0.trans (Grow.same (S := [a]) g0.sub (Same.up (o := .lst []) hE))
      have de := d0.up (Same.up (o := .lst []) hE)
      have h1e := Same.up (o := .lst []) hE _ _ h1
      have h2e := Same.up (o := .lst []) hE _ _ h2
      cases ms with
      | nil => exact ⟨_, rfl, iteF (rest _ ⟨ge, de⟩)⟩
      | cons s0 mr =>
        rw [eqv_ne]
        refine ⟨_, rfl, iteT ⟨_, rfl, .inl ⟨rfl, _, SqL.of h1e⟩, _, rfl, .inl ⟨rfl, _, SqL.of h2e⟩, mo, _, 0, 0, .str s0, rfl, rfl, h2e, by decide, by decide, PySem.StrLaws.seqIndex_nonneg (by decide) (by rw [List.length_map, List.length_cons]; omega), rfl, kn, _, .str s0, rfl, rfl, (upd_ne nkm).trans h1e, sz (m := 60) (by rw [List.length_map]; omega), ?_⟩⟩
        have ge' : Grow [a, kn, mo] M H M _ := ge.mono (by simp)
        have gm := ge'.trans (Grow.chg (S := [a, kn, mo]) (p := mo) (o := .lst (mr.map V.str)) ge'.sub Mm (by simp))
        have gk := gm.trans (Grow.chg (S := [a, kn, mo]) (p := kn) (o := .lst (ks.map V.str ++ [.str s0])) gm.sub Mk (by simp))
        refine ⟨_, rfl, _, rfl, _, rfl, _, rfl, kn, _, -1, .str s0, rfl, rfl, SqL.of upd_same, atI_last, a, r, s0, M, ss, rfl, (names8_ok s0 (hms s0 List.mem_cons_self)).1, (de.ne nma).ne nka, gk.sub, Ma, rk0, fun T M' H' g d ht => q T M' H' (gk.trans (g.mono (by simp))) d (NamesAt.step g (by simp [nka]) (by simp [nma]) ⟨ks ++ [s0], mr, upd_same.trans (by rw [List.map_append]; rfl), (upd_ne nkm.symm).trans upd_same, ?_, ?_, fun s m => hms s (List.mem_cons_of_mem _ m)⟩) ht⟩
        · rw [List.length_append]
          simp only [List.length_cons] at hl ⊢
          simp
          omega
        · intro s m
          rcases List.mem_append.mp m with m | m
          · exact hks s m
          · rw [List.mem_singleton.mp m]
            exact hms s0 List.mem_cons_self
    · exact iteF (rest _ ⟨g0, d0⟩)
end
end K01

set_option Elab.async false
set_option linter.all false
set_option maxRecDepth 100000
set_option maxHeartbeats 4000000
namespace K01
open PySem PySem.Spec PyProof.Rows L2 Sr
theorem _root_.Sr.Grow.shrink {S S' : List Addr} {M H M1 H1 M2 H2 : Hp} (g : Grow S M H M1 H1) (g' : Grow S' M1 H1 M2 H2) (h : ∀ b ∈ S', b ∈ S ∨ H b = none) : Grow S M H M2 H2 where
  stp := fun b o hb e => g'.stp b o (fun m => by
    rcases h b m with x | x
    · exact hb x
    · rw [x] at e; cases e) (g.stp b o hb e)
  there := fun b e => g'.there b (g.there b e)
  up := g.up.trans g'.up
  nw := fun b o e => by
    rcases g'.nw b o e with x | x
    · exact g.nw b o x
    · cases q : H b with
      | none => exact .inr rfl
      | some u => exact absurd x (g.there b (by rw [q]; simp))
  sub := g'.sub
/-- a dict of settled events -/
def EvD (M : Hp) (kvs : List (Key × V)) : Prop := ∀ p ∈ kvs, ∃ T, p.2 = .ref T ∧ EvT M T
theorem EvD.mono {M M' : Hp} (e : Same M M') {kvs : List (Key × V)} (h : EvD M kvs) : EvD M' kvs := fun p m => by
  obtain ⟨T, h1, h2⟩ := h p m
  exact ⟨T, h1, h2.mono e⟩
theorem EvD.put {M : Hp} {kvs : List (Key × V)} {k : Key} {T : Addr} (h : EvD M kvs) (ht : EvT M T) : EvD M (putK kvs k (.ref T)) := fun p m => by
  unfold putK at m
  split at m
  · obtain ⟨q, mq, e⟩ := List.mem_map.mp m
    split at e
    · rw [← e]
      exact ⟨T, rfl, ht⟩
    · rw [← e]
      exact h q mq
  · rcases List.mem_append.mp m with m | m
    · exact h p m
    · rw [List.mem_singleton.mp m]
      exact ⟨T, rfl, ht⟩
theorem putK_len {kvs : List (Key × V)} {k : Key} {v : V} : (putK kvs k v).length ≤ kvs.length + 1 := by
  unfold putK
  split
  · rw [List.length_map]; omega
  · rw [List.length_append]; exact Nat.le_refl _
def spEvents : Sp := fun vs H Q _ => ∃ (a r : Addr) (M : Hp) (ss : List Str), vs = [.ref a, .ref r, .int 4, .bl true] ∧ DrawsAt H a ∧ Same M H ∧ M a = none ∧ RanksAt M r ss ∧
  ∀ f M' H' kvs, Grow [a] M H M' H' → DrawsAt H' a → H' f = some (.dK kvs) → EvD M' kvs → kvs.length ≤ 8 → Q (.ref f) H'
theorem gaps_is {v : V} (h : v ∈ ([.int 1, .int 1, .int 2, .int 7] : List V)) : ∃ n, v = .int n := by
  simp only [List.mem_cons, List.not_mem_nil, or_false] at h
  rcases h with rfl | rfl | rfl | rfl <;> exact ⟨_, rfl⟩
theorem evr {M : Hp} {T : Addr} : EvT (upd M T (.tup [.str "round"])) T := ⟨[.str "round"], [.str "round"], upd_same, .cons (.str _ (by decide)) .nil, by simp, by simp⟩
def EsInv (a r t kn mo f : Addr) (M Hf : Hp) (i : Nat) (σ : L2.St) (H' : Hp) : Prop :=
  (∃ kk tm, σ = [some (.ref a), some (.ref r), some (.int 4), some (.bl true), kk, some (.ref t), some (.int tm), some (.ref f)]) ∧ DrawsAt H' a ∧ NamesAt H' kn mo ∧ H' t = some (.tup [.ref kn, .ref mo]) ∧
  ∃ M' kvs, Grow [a, kn, mo, f] M Hf M' H' ∧ H' f = some (.dK kvs) ∧ EvD M' kvs ∧ kvs.length ≤ 2 * i
section
variable {P : Program} {w : World} {K : PySem.W.Frag} {mg : Str → Option Value} {base : Heap}
abbrev s__law_some_events : Stmt := top 35
theorem sc__law_some_events : FnScope ["draws", "ranks", "many", "rounds", "k", "names", "time", "found"] ["draws", "ranks", "many", "rounds"] (defScope s__law_some_events) := ⟨rfl, rfl, rfl, by decide +kernel, rfl, by decide +kernel, by decide +kernel⟩
theorem c__law_some_events (T : Txt K mg) (D : Dfn K mg "_law_some_events" s__law_some_events) (C_law_draw : Cal P w K mg base 1 "_law_draw" ["draws", "many"] spDraw) (C_law_pick : Cal P w K mg base 2 "_law_pick" ["draws", "xs"] (spPick K))
    (C_law_some_event : Cal P w K mg base 5 "_law_some_event" ["draws", "ranks", "names", "rounds"] spEvent) :
    Cal P w K mg base 6 "_law_some_events" ["draws", "ranks", "many", "rounds"] spEvents := by
  refine D.cal sc__law_some_events (fun _ _ _ _ _ _ us hl => match us, hl with | [_, _, _, _], _ => rfl) (fun vs H Q E h => ?_) fun cdv A outer s H vs Q E hr h => ?_
  · obtain ⟨a, r, M, ss, rfl, _⟩ := h
    rfl
  obtain ⟨a, r, M, ss, rfl, hd, sM, Ma, rk, q⟩ := h
  refine ⟨_, (pss_cons (ps_par3 (i := 5) (j := 6) (l := 7) (by rfl) sc__law_some_events.nd rfl rfl rfl (by decide) (by decide) (by decide) rfl rfl rfl (pa_cons (pe_tup (pa_cons (pe_lst pa_nil) (pa_cons (pe_lst (pa_cons pe_str (pa_cons pe_str (pa_cons pe_str (pa_cons pe_str (pa_cons pe_str (pa_cons pe_str (pa_cons pe_str (pa_cons pe_str pa_nil))))))))) pa_nil))) (pa_cons pe_int (pa_cons pe_dnewK pa_nil))) (by rfl))
      (pss_cons (ps_for PassesOwn.never rfl (pi_range1 (by rfl) T.range (pa_cons (pv 2) pa_nil)) (pg_name (i := 4) sc__law_some_events.nd rfl (by first | exact Or.inl rfl | exact Or.inr rfl))
      (pss_cons (ps_set (i := 6) sc__law_some_events.nd rfl (by first | exact Or.inl rfl | exact Or.inr rfl) (pe_op op_add (pv 6) (pe_cal C_law_pick hr (by decide) (by rfl) (pa_cons (pv 0) (pa_cons (pe_lst (pa_cons pe_int (pa_cons pe_int (pa_cons pe_int (pa_cons pe_int pa_nil))))) pa_nil)))))
      (pss_cons (ps_dput (hu_of hr) (pv 7) (pe_op op_sub (pv 6) pe_int) (pe_cal C_law_some_event hr (by decide) (by rfl) (pa_cons (pv 0) (pa_cons (pv 1) (pa_cons (pv 5) (pa_cons (pv 3) pa_nil))))) rfl)
      (pss_one (ps_if (PW.pt (pw_and (pt_val (pv 3)) (pw_and1 (pt_cmpR op_eq (pe_cal C_law_draw hr (by decide) (by rfl) (pa_cons (pv 0) (pa_cons pe_int pa_nil))) pe_int (nomark _))))) (pss_cons (ps_set (i := 6) sc__law_some_events.nd rfl (by first | exact Or.inl rfl | exact Or.inr rfl) (pe_op op_add (pv 6) pe_int))
      (pss_one (ps_dput (hu_of hr) (pv 7) (pe_op op_sub (pv 6) pe_int) (pe_tup (pa_cons pe_str pa_nil)) rfl))) pss_nil)))))
      (pss_one (ps_ret (pv 7))))), ?_⟩
  refine ⟨lineN, fun kn hkn => ⟨lineN, fun mo hmo => ⟨lineN, fun t ht f hf => ⟨_, _, _, rfl, _, rfl, 4, rfl, by decide, by decide, ?_⟩⟩⟩⟩
  have u1 := Same.up (o := .lst []) hkn
  have u2 := Same.up (o := .lst (names8.map V.str)) hmo
  have u3 := Same.up (o := .tup [.ref kn, .ref mo]) ht
  have u4 := Same.up (o := .dK []) hf
  have s0 : Same H _ := ((u1.trans u2).trans u3).trans u4
  have Hmo := u1.free hmo
  have Htt := (u1.trans u2).free ht
  have Hff := ((u1.trans u2).trans u3).free hf
  have nkm : kn ≠ mo := ne_of_none (upd_same (a := kn)) hmo
  have nkt : kn ≠ t := ne_of_none (u2 _ _ (upd_same (a := kn))) ht
  have nmt : mo ≠ t := ne_of_none (upd_same (a := mo)) ht
  have nkf : kn ≠ f := ne_of_none ((u2.trans u3) _ _ (upd_same (a := kn))) hf
  have nmf : mo ≠ f := ne_of_none (u3 _ _ (upd_same (a := mo))) hf
  have ntf : t ≠ f := ne_of_none (upd_same (a := t)) hf
  have nka := fresh_ne hd hkn
  have nma := fresh_ne hd Hmo
  have nta := fresh_ne hd Htt
  have nfa := fresh_ne hd Hff
  have gH : Grow [a] M H M _ := Grow.same sM s0
  have Hk0 := ((u2.trans u3).trans u4) _ _ (upd_same (a := kn) (o := HO.lst []))
  have Hm0 := (u3.trans u4) _ _ (upd_same (a := mo))
  have Ht0 := u4 _ _ (upd_same (a := t))
  have hd0 := hd.up s0
  refine for_range (EsInv a r t kn mo f M _) ⟨⟨_, _, rfl⟩, hd0, ⟨[], names8, Hk0, Hm0, rfl, (fun _ h => by cases h), fun _ h => h⟩, Ht0, M, [], Grow.refl gH.sub, upd_same, (fun _ h => by cases h), Nat.zero_le _⟩ ?_ ?_
  · rintro i σ H1 hi ⟨⟨kk, tm, rfl⟩, d, hn, h1t, M1, kvs, g, h1f, ev, len⟩
    have Ma1 := g.out Ma hd0.some
    have Mk1 := g.out (sM.free hkn) (by rw [Hk0]; simp)
    have Mm1 := g.out (sM.free Hmo) (by rw [Hm0]; simp)
    have Mf1 := g.out (sM.free Hff) (by rw [upd_same]; simp)
    refine ⟨_, rfl, _, rfl, lineN, fun e he => ⟨a, e, _, rfl, d.up (Same.up he), fresh_ne d he, .inl (SqL.of upd_same), by simp, by simp, fun j v o hv ho => ?_⟩⟩
    obtain ⟨n, rfl⟩ := gaps_is (List.mem_of_getElem? hv)
    obtain ⟨p1, d1⟩ := draw_step (Grow.same g.sub (Same.up (o := .lst [.int 1, .int 1, .int 2, .int 7]) he)) Ma1 ho
    have g1 := g.trans (p1.mono (S' := [a, kn, mo, f]) (by simp))
    have hn1 := hn.step p1 (by simp [nka]) (by simp [nma])
    have h1t' := p1.stp _ _ (by simp [nta]) h1t
    have h1f' := p1.stp _ _ (by simp [nfa]) h1f
    refine ⟨_, _, rfl, rfl, _, rfl, _, rfl, _, rfl, _, rfl, a, r, t, kn, mo, M1, ss, rfl, d1, g1.sub, Ma1, Mk1, Mm1, nkm, nka, nma, rk.mono g.up, h1t', hn1, fun T M2 H2 gE dE nE eT => ?_⟩
    have g2 := g1.trans (gE.mono (S' := [a, kn, mo, f]) (by simp))
    have Mf2 := g2.out (sM.free Hff) (by rw [upd_same]; simp)
    have Ma2 := g2.out Ma hd0.some
    have h2t := gE.stp _ _ (by simp [nta, nkt.symm, nmt.symm]) h1t'
    have h2f := gE.stp _ _ (by simp [nfa, nkf.symm, nmf.symm]) h1f'
    refine ⟨_, rfl, _, rfl, _, _, rfl, rfl, f, _, rfl, DPut.k (k := Sum.inl _) h2f (sz (m := 60) (by omega)), ?_⟩
    have g3 := g2.trans (Grow.chg (S := [a, kn, mo, f]) (p := f) (o := .dK (putK kvs (Sum.inl (tm + n - 1)) (.ref T))) g2.sub Mf2 (by simp))
    have hn3 := nE.step (Grow.chg (S := [f]) (p := f) (o := .dK (putK kvs (Sum.inl (tm + n - 1)) (.ref T))) g2.sub Mf2 (by simp)) (by simp [nkf]) (by simp [nmf])
    have ev3 := (ev.mono gE.up).put (k := Sum.inl (tm + n - 1)) eT
    have len3 := Nat.le_trans (putK_len (kvs := kvs) (k := Sum.inl (tm + n - 1)) (v := .ref T)) (Nat.add_le_add_right len 1)
    have d3 := dE.ne (p := f) (o := .dK (putK kvs (Sum.inl (tm + n - 1)) (.ref T))) nfa
    refine ⟨_, rfl, _, rfl, iteT ⟨_, rfl, a, _, rfl, d3, by decide, by decide, fun x o' x0 x1 ho' => ⟨rfl, _, rfl, ?_⟩⟩⟩
    obtain ⟨p4, d4⟩ := draw_step (Grow.refl g3.sub) Ma2 ho'
    have g4 := g3.trans (p4.mono (S' := [a, kn, mo, f]) (by simp))
    have hn4 := hn3.step p4 (by simp [nka]) (by simp [nma])
    have h4t := p4.stp _ _ (by simp [nta]) ((upd_ne ntf).trans h2t)
    have h4f := p4.stp _ _ (by simp [nfa]) (upd_same (a := f))
    refine iteB ?_ ?_
    · refine ⟨_, rfl, _, _, rfl, rfl, lineN, fun T2 hT2 => ⟨_, rfl, _, rfl, _, _, rfl, rfl, f, _, rfl, DPut.k (k := Sum.inl _) (Same.up hT2 _ _ h4f) (sz (m := 60) (by omega)), ?_⟩⟩
      have l5 := Grow.lay (S := [a, kn, mo, f]) (o := .tup [.str "round"]) g4.sub hT2
      have g5 := g4.trans l5
      have Mf5 := g5.out (sM.free Hff) (by rw [upd_same]; simp)
      have ev5 := (ev3.mono l5.up).put (k := Sum.inl (tm + n + 1 - 1)) evr
      refine ⟨⟨_, _, rfl⟩, (d4.up (Same.up hT2)).ne nfa, (hn4.up (Same.up hT2)).step (Grow.chg (S := [f]) (p := f) g5.sub Mf5 (by simp)) (by simp [nkf]) (by simp [nmf]), (upd_ne ntf).trans (Same.up hT2 _ _ h4t), _, _, g5.trans (Grow.chg g5.sub Mf5 (by simp)), upd_same, ev5, ?_⟩
      exact Nat.le_trans putK_len (by omega)
    · exact ⟨⟨_, _, rfl⟩, d4, hn4, h4t, _, _, g4, h4f, ev3, by omega⟩
  · rintro σ H1 ⟨⟨kk, tm, rfl⟩, d, hn, h1t, M1, kvs, g, h1f, ev, len⟩
    refine ⟨_, rfl, q f M1 H1 kvs (gH.shrink g ?_) d h1f ev len⟩
    intro b m
    simp only [List.mem_cons, List.not_mem_nil, or_false] at m
    rcases m with rfl | rfl | rfl | rfl
    · exact .inl (by simp)
    · exact .inr hkn
    · exact .inr Hmo
    · exact .inr Hff
end
end K01

set_option Elab.async false
set_option linter.all false
set_option maxRecDepth 100000
set_option maxHeartbeats 4000000
namespace K01
open PySem PySem.Spec PyProof.Rows L2 Sr
/-- of ranks and a datum -/
def spK (f : List Str → Dt → Bool) : Sp := fun vs H Q _ => ∃ r v ks d, vs = [.ref r, v] ∧ RanksAt H r ks ∧ Is H v d ∧ ∀ H', Same H H' → Q (.bl (f ks d)) H'
theorem spK_len {f : List Str → Dt → Bool} (vs : List V) (H : Hp) (Q : VK) (E : XK) (h : spK f vs H Q E) : vs.length = 2 := by
  obtain ⟨x, v, ks, d, rfl, _⟩ := h
  rfl
section
variable {P : Program} {w : World} {K : PySem.W.Frag} {mg : Str → Option Value} {base : Heap}
abbrev s__law_is_kind : Stmt := top 38
theorem sc__law_is_kind : FnScope ["ranks", "thing"] ["ranks", "thing"] (defScope s__law_is_kind) := ⟨rfl, rfl, rfl, by decide +kernel, rfl, by decide +kernel, by decide +kernel⟩
theorem c__law_is_kind (T : Txt K mg) (D : Dfn K mg "_law_is_kind" s__law_is_kind) : Cal P w K mg base 1 "_law_is_kind" ["ranks", "thing"] (spK kindOk) := by
  refine D.cal sc__law_is_kind (fun _ _ _ _ _ _ us hl => match us, hl with | [_, _], _ => rfl) spK_len fun cdv A outer s H vs Q E hr h => ?_
  obtain ⟨r, v, ks, d, rfl, ⟨⟨kvs, hk, he⟩, _⟩, hv, q⟩ := h
  refine ⟨_, (pss_one (ps_ret (pe_and (pe_callB (id := "isinstance") call_isi (by rfl) T.isinstance (by decide +kernel) (pa_cons (pv 1) (pa_cons (pe_tyv (n := "str") (by rfl) T.str (by decide +kernel)) pa_nil))) (pe_one (pe_cmp (pc_din (hu_of hr) (pv 1) (pv 0)) rfl))))), ?_⟩
  refine ⟨_, rfl, v, _, _, _, _, rfl, .ty _, hv.ty, kit_str K d, _, rfl, ?_⟩
  cases hv with
  | str z hz =>
    refine iteT ⟨_, rfl, _, rfl, r, _, rfl, DGet.k (k := Sum.inr z) hk, ?_⟩
    rw [he.has z]
    exact q H (Same.refl H)
  | _ => exact iteF (q H (Same.refl H))
abbrev s__law_is_name : Stmt := top 36
theorem sc__law_is_name : FnScope ["thing", "signs", "sign"] ["thing"] (defScope s__law_is_name) := ⟨rfl, rfl, rfl, by decide +kernel, rfl, by decide +kernel, by decide +kernel⟩
theorem c__law_is_name (T : Txt K mg) (D : Dfn K mg "_law_is_name" s__law_is_name) : Cal P w K mg base 1 "_law_is_name" ["thing"] (spB nameOk) := by
  refine D.cal sc__law_is_name (fun _ _ _ _ _ _ us hl => match us, hl with | [_], _ => rfl) spB_len fun cdv A outer s H vs Q E hr h => ?_
  obtain ⟨v, d, rfl, hv, q⟩ := h
  refine ⟨_, (pss_cons (ps_set (i := 1) sc__law_is_name.nd rfl (by first | exact Or.inl rfl | exact Or.inr rfl) pe_str)
      (pss_one (ps_ret (pe_and (pe_callB (id := "isinstance") call_isi (by rfl) T.isinstance (by decide +kernel) (pa_cons (pv 0) (pa_cons (pe_tyv (n := "str") (by rfl) T.str (by decide +kernel)) pa_nil))) (pe_and (pe_chain op_lt op_lt pe_int (pe_callB (id := "len") call_len_str (by rfl) T.len (by decide +kernel) (pa_cons (pv 0) pa_nil)) pe_int) (pe_one (pe_callB (id := "all") (cr_all rfl) (by rfl) T.all (by decide +kernel) (pa_cons (pe_lc (own := [("sign", 2)]) (g := gName 2) (tt := tYes) rfl sc__law_is_name.nd (pi_str (pv 0)) (blkOk_by (N := ["thing", "signs", "sign"]) (sc := defScope s__law_is_name) (by decide +kernel)) (fun _ _ _ _ _ => (pg_name (i := 2) sc__law_is_name.nd rfl (by first | exact Or.inl rfl | exact Or.inr rfl))) (fun _ _ _ _ _ => pts_nil) (fun _ _ _ _ _ => (pe_cmpR op_in_sign (pv 2) (pv 1) (by rfl)))) pa_nil)))))))), ?_⟩
  refine ⟨_, rfl, v, _, _, _, _, rfl, .ty _, hv.ty, kit_str K d, _, rfl, ?_⟩
  cases hv with
  | str z hz =>
    refine iteT ?_
    refine ⟨_, rfl, z, rfl, Nat.le_of_lt (sz hz), _, _, rfl, rfl, _, rfl, ?_⟩
    have hS : z.cps.toList.length = z.cps.size := Array.length_toList
    have key : ∀ b : Bool, nameOk (.str z) = b → ∀ H', Same H H' → Q (.bl b) H' := fun b e => e ▸ q
    by_cases h1 : (0 : Int) < (z.length : Int)
    · rw [decide_eq_true h1]
      refine iteT ⟨_, _, rfl, rfl, _, rfl, ?_⟩
      by_cases h2 : (z.length : Int) < 9
      · rw [decide_eq_true h2]
        refine iteT ?_
        refine ⟨_, rfl, z, rfl, fun D hD => lc_pure walk_str (At := fun i x => ∃ c, z.cps[i]? = some c ∧ x = .str ⟨#[c]⟩) (fun _ _ _ _ y => y) ((z.cps.toList.map fun c => decide (c ∈ signs.cps.toList)).map V.bl)
          (by rw [List.length_map, List.length_map, hS]) (sz (m := 1000) hz) hD (fun _ _ => trivial) (fun i x y H1 Q hi hx hy s1 k => ?_) (fun H' s' h' => all_of h' ?_)⟩
        · obtain ⟨c, hc, rfl⟩ := hx
          refine ⟨_, rfl, _, rfl, c, signs, rfl, rfl, ?_⟩
          rw [List.getElem?_map, List.getElem?_map, Array.getElem?_toList, hc] at hy
          obtain rfl : V.bl (decide (c ∈ signs.cps.toList)) = y := Option.some.inj hy
          exact k _ (Same.refl _)
        · refine key _ ?_ H' s'
          show ((decide (1 ≤ z.length) && decide (z.length ≤ 8)) && _) = _
          rw [decide_eq_true (by omega), decide_eq_true (by omega), List.all_map]
          rfl
      · rw [decide_eq_false h2]
        refine iteF (key _ ?_ _ (Same.refl H))
        show ((decide (1 ≤ z.length) && decide (z.length ≤ 8)) && _) = _
        rw [decide_eq_false (show ¬ z.length ≤ 8 by omega), Bool.and_false, Bool.false_and]
    · rw [decide_eq_false h1]
      refine iteF ⟨_, rfl, iteF (key _ ?_ _ (Same.refl H))⟩
      show ((decide (1 ≤ z.length) && decide (z.length ≤ 8)) && _) = _
      rw [decide_eq_false (show ¬ 1 ≤ z.length by omega), Bool.false_and, Bool.false_and]
  | _ => exact iteF (q _ (Same.refl H))
abbrev s__law_are_wishes : Stmt := top 37
theorem sc__law_are_wishes : FnScope ["ranks", "thing", "one"] ["ranks", "thing"] (defScope s__law_are_wishes) := ⟨rfl, rfl, rfl, by decide +kernel, rfl, by decide +kernel, by decide +kernel⟩
theorem c__law_are_wishes (T : Txt K mg) (D : Dfn K mg "_law_are_wishes" s__law_are_wishes) : Cal P w K mg base 2 "_law_are_wishes" ["ranks", "thing"] (spK wishesOk) := by
  refine D.cal sc__law_are_wishes (fun _ _ _ _ _ _ us hl => match us, hl with | [_, _], _ => rfl) spK_len fun cdv A outer s H vs Q E hr h => ?_
  obtain ⟨r, v, ks, d, rfl, ⟨⟨kvs, hk, he⟩, _⟩, hv, q⟩ := h
  have fin : ∀ (xs : List V) (ds : List Dt) (H1 : Hp), Same H H1 → IsA H xs ds → xs.length ≤ 60 → wishesOk ks d = wl ks ds → ds.all (kindOk ks) = true →
      xs = (strsOf ds).map V.str ∧ ∀ H', Same H1 H' → Q (.bl (decide (V.int ((met (strsOf ds) (strsOf ds).length).length : Nat) = V.int (xs.length : Nat)))) H' := fun xs ds H1 s1 hA hz e1 e2 => by
    have ex := hA.strs (kind_str e2)
    refine ⟨ex, fun H' s' => ?_⟩
    have e : decide (V.int ((met (strsOf ds) (strsOf ds).length).length : Nat) = V.int (xs.length : Nat)) = wishesOk ks d := by
      rw [e1]
      unfold wl
      rw [e2, Bool.true_and]
      have el : xs.length = (strsOf ds).length := by
        have := congrArg List.length ex
        rwa [List.length_map] at this
      rw [el]
      by_cases c : (met (strsOf ds) (strsOf ds).length).length = (strsOf ds).length
      · rw [decide_eq_true c, decide_eq_true (by rw [c])]
      · rw [decide_eq_false c, decide_eq_false fun z => c (by injection z with z; exact Int.ofNat.inj z)]
    rw [e]
    exact q H' (s1.trans s')
  cases hv with
  | lst h rr z =>
    rename_i a xs ds
    refine ⟨_, (pss_cons (ps_if (PW.pt (pw_or (pt_not (pt_val (pe_callB (id := "isinstance") call_isiT (by rfl) T.isinstance (by decide +kernel) (pa_cons (pv 1) (pa_cons (pe_tup (pa_cons (pe_tyv (n := "list") (by rfl) T.list (by decide +kernel)) (pa_cons (pe_tyv (n := "tuple") (by rfl) T.tuple (by decide +kernel)) pa_nil))) pa_nil))))) (pw_or1 (pt_not (pt_val (pe_callB (id := "all") (cr_all rfl) (by rfl) T.all (by decide +kernel) (pa_cons (pe_lc (own := [("one", 2)]) (g := gName 2) (tt := tYes) rfl sc__law_are_wishes.nd (pi_list (pv 1)) (blkOk_by (N := ["ranks", "thing", "one"]) (sc := defScope s__law_are_wishes) (by decide +kernel)) (fun _ _ _ _ _ => (pg_name (i := 2) sc__law_are_wishes.nd rfl (by first | exact Or.inl rfl | exact Or.inr rfl))) (fun _ _ _ _ _ => pts_nil) (fun _ _ _ _ _ => (pe_and (pe_callB (id := "isinstance") (call_isiK' K rfl) (by rfl) T.isinstance (by decide +kernel) (pa_cons (pv 2) (pa_cons (pe_tyv (n := "str") (by rfl) T.str (by decide +kernel)) pa_nil))) (pe_one (pe_cmp (pc_din (hu_of hr) (pv 2) (pv 0)) rfl))))) pa_nil))))))) (pss_one (ps_ret pe_bl)) pss_nil)
      (pss_one (ps_ret (pe_cmpR op_eq (pe_lenSetT rfl (by rfl) T.len (by rfl) T.set (pv 1)) (pe_callB (id := "len") call_len_seq (by rfl) T.len (by decide +kernel) (pa_cons (pv 1) pa_nil)) (nomark _))))), ?_⟩
    refine ⟨_, rfl, two_line, fun p hp => ⟨_, p, [.ty "list", .ty "tuple"], _, _, _, rfl, upd_same, cls_two _ _, ((Is.lst h rr z).mono (Same.up hp)).ty, kit_seq K _, _, rfl, iteF ?_⟩⟩
    have s1 : Same H _ := Same.up (o := .tup [.ty "list", .ty "tuple"]) hp
    refine ⟨_, rfl, a, rfl, ⟨_, SqL.of (s1 _ _ h)⟩, fun D hD => lc_pure walk_list walk_at ((ds.map (kindOk ks)).map V.bl) (by rw [List.length_map, List.length_map, rr.len]) (sz z) hD (fun H2 s2 => SqL.of (s2 _ _ (s1 _ _ h)))
      (fun i u y H2 R hi hu hy s2 k => ?_) (fun H2 s2 h2 => ⟨D, ds.map (kindOk ks), rfl, SqL.of h2, ?_⟩)⟩
    · obtain ⟨d, hd, hI⟩ := rr.get hu
      rw [List.getElem?_map, List.getElem?_map, hd] at hy
      obtain rfl : V.bl (kindOk ks d) = y := Option.some.inj hy
      have hI2 := hI.mono (s1.trans s2)
      refine ⟨_, rfl, _, _, _, _, _, rfl, .ty _, hI2.ty, kit_str K d, _, rfl, ?_⟩
      cases hI2 with
      | str x hx =>
        refine iteT ⟨_, rfl, _, rfl, r, _, rfl, DGet.k (k := Sum.inr x) (s2 _ _ (s1 _ _ hk)), ?_⟩
        rw [he.has x]
        exact k _ (Same.refl _)
      | _ => exact iteF (k _ (Same.refl _))
    · refine ⟨_, rfl, ?_⟩
      rw [List.all_map]
      cases c : ds.all (kindOk ks) with
      | true =>
        obtain ⟨ex, q2⟩ := fin xs ds _ s1 rr z rfl c
        rw [show ds.all (id ∘ kindOk ks) = true from c]
        refine iteF ⟨_, rfl, a, strsOf ds, rfl, .inl (by rw [← ex]; exact SqL.of (s2 _ _ (s1 _ _ h))), by have := congrArg List.length ex; rw [List.length_map] at this; omega, _, rfl, a, xs, rfl, .inl (SqL.of (s2 _ _ (s1 _ _ h))), rfl, q2 _ s2⟩
      | false =>
        rw [show ds.all (id ∘ kindOk ks) = false from c]
        have e : wishesOk ks (.lst ds) = false := by show wl ks ds = false; unfold wl; rw [c]; rfl
        refine iteT ?_
        have := q H2 (s1.trans s2)
        rw [e] at this
        exact this
  | tup h rr z =>
    rename_i a xs ds
    refine ⟨_, (pss_cons (ps_if (PW.pt (pw_or (pt_not (pt_val (pe_callB (id := "isinstance") call_isiT (by rfl) T.isinstance (by decide +kernel) (pa_cons (pv 1) (pa_cons (pe_tup (pa_cons (pe_tyv (n := "list") (by rfl) T.list (by decide +kernel)) (pa_cons (pe_tyv (n := "tuple") (by rfl) T.tuple (by decide +kernel)) pa_nil))) pa_nil))))) (pw_or1 (pt_not (pt_val (pe_callB (id := "all") (cr_all rfl) (by rfl) T.all (by decide +kernel) (pa_cons (pe_lc (own := [("one", 2)]) (g := gName 2) (tt := tYes) rfl sc__law_are_wishes.nd (pi_tup (pv 1)) (blkOk_by (N := ["ranks", "thing", "one"]) (sc := defScope s__law_are_wishes) (by decide +kernel)) (fun _ _ _ _ _ => (pg_name (i := 2) sc__law_are_wishes.nd rfl (by first | exact Or.inl rfl | exact Or.inr rfl))) (fun _ _ _ _ _ => pts_nil) (fun _ _ _ _ _ => (pe_and (pe_callB (id := "isinstance") (call_isiK' K rfl) (by rfl) T.isinstance (by decide +kernel) (pa_cons (pv 2) (pa_cons (pe_tyv (n := "str") (by rfl) T.str (by decide +kernel)) pa_nil))) (pe_one (pe_cmp (pc_din (hu_of hr) (pv 2) (pv 0)) rfl))))) pa_nil))))))) (pss_one (ps_ret pe_bl)) pss_nil)
      (pss_one (ps_ret (pe_cmpR op_eq (pe_lenSetT rfl (by rfl) T.len (by rfl) T.set (pv 1)) (pe_callB (id := "len") call_len_seq (by rfl) T.len (by decide +kernel) (pa_cons (pv 1) pa_nil)) (nomark _))))), ?_⟩
    refine ⟨_, rfl, two_line, fun p hp => ⟨_, p, [.ty "list", .ty "tuple"], _, _, _, rfl, upd_same, cls_two _ _, ((Is.tup h rr z).mono (Same.up hp)).ty, kit_seq K _, _, rfl, iteF ?_⟩⟩
    have s1 : Same H _ := Same.up (o := .tup [.ty "list", .ty "tuple"]) hp
    refine ⟨_, rfl, a, rfl, ⟨_, SqT.of (s1 _ _ h)⟩, fun D hD => lc_pure walk_tup walk_at ((ds.map (kindOk ks)).map V.bl) (by rw [List.length_map, List.length_map, rr.len]) (sz z) hD (fun H2 s2 => SqT.of (s2 _ _ (s1 _ _ h)))
      (fun i u y H2 R hi hu hy s2 k => ?_) (fun H2 s2 h2 => ⟨D, ds.map (kindOk ks), rfl, SqL.of h2, ?_⟩)⟩
    · obtain ⟨d, hd, hI⟩ := rr.get hu
      rw [List.getElem?_map, List.getElem?_map, hd] at hy
      obtain rfl : V.bl (kindOk ks d) = y := Option.some.inj hy
      have hI2 := hI.mono (s1.trans s2)
      refine ⟨_, rfl, _, _, _, _, _, rfl, .ty _, hI2.ty, kit_str K d, _, rfl, ?_⟩
      cases hI2 with
      | str x hx =>
        refine iteT ⟨_, rfl, _, rfl, r, _, rfl, DGet.k (k := Sum.inr x) (s2 _ _ (s1 _ _ hk)), ?_⟩
        rw [he.has x]
        exact k _ (Same.refl _)
      | _ => exact iteF (k _ (Same.refl _))
    · refine ⟨_, rfl, ?_⟩
      rw [List.all_map]
      cases c : ds.all (kindOk ks) with
      | true =>
        obtain ⟨ex, q2⟩ := fin xs ds _ s1 rr z rfl c
        rw [show ds.all (id ∘ kindOk ks) = true from c]
        refine iteF ⟨_, rfl, a, strsOf ds, rfl, .inr (by rw [← ex]; exact SqT.of (s2 _ _ (s1 _ _ h))), by have := congrArg List.length ex; rw [List.length_map] at this; omega, _, rfl, a, xs, rfl, .inr (SqT.of (s2 _ _ (s1 _ _ h))), rfl, q2 _ s2⟩
      | false =>
        rw [show ds.all (id ∘ kindOk ks) = false from c]
        have e : wishesOk ks (.tup ds) = false := by show wl ks ds = false; unfold wl; rw [c]; rfl
        refine iteT ?_
        have := q H2 (s1.trans s2)
        rw [e] at this
        exact this
  | non  => exact ⟨_, (pss_cons (ps_if (PW.pt (pw_or (pt_not (pt_val (pe_callB (id := "isinstance") call_isiT (by rfl) T.isinstance (by decide +kernel) (pa_cons (pv 1) (pa_cons (pe_tup (pa_cons (pe_tyv (n := "list") (by rfl) T.list (by decide +kernel)) (pa_cons (pe_tyv (n := "tuple") (by rfl) T.tuple (by decide +kernel)) pa_nil))) pa_nil))))) (pw_or1 (pt_not (pt_val (pe_callB (id := "all") (cr_all rfl) (by rfl) T.all (by decide +kernel) (pa_cons (pe_lc (own := [("one", 2)]) (g := gName 2) (tt := tYes) rfl sc__law_are_wishes.nd (pi_list (pv 1)) (blkOk_by (N := ["ranks", "thing", "one"]) (sc := defScope s__law_are_wishes) (by decide +kernel)) (fun _ _ _ _ _ => (pg_name (i := 2) sc__law_are_wishes.nd rfl (by first | exact Or.inl rfl | exact Or.inr rfl))) (fun _ _ _ _ _ => pts_nil) (fun _ _ _ _ _ => (pe_and (pe_callB (id := "isinstance") (call_isiK' K rfl) (by rfl) T.isinstance (by decide +kernel) (pa_cons (pv 2) (pa_cons (pe_tyv (n := "str") (by rfl) T.str (by decide +kernel)) pa_nil))) (pe_one (pe_cmp (pc_din (hu_of hr) (pv 2) (pv 0)) rfl))))) pa_nil))))))) (pss_one (ps_ret pe_bl)) pss_nil)
      (pss_one (ps_ret (pe_cmpR op_eq (pe_lenSetT rfl (by rfl) T.len (by rfl) T.set (pv 1)) (pe_callB (id := "len") call_len_seq (by rfl) T.len (by decide +kernel) (pa_cons (pv 1) pa_nil)) (nomark _))))), _, rfl, two_line, fun p hp => ⟨_, p, [.ty "list", .ty "tuple"], _, _, _, rfl, upd_same, cls_two _ _, (Is.non).ty, kit_seq K .non, _, rfl, iteT (iteT (q _ (Same.up hp)))⟩⟩
  | bl b => exact ⟨_, (pss_cons (ps_if (PW.pt (pw_or (pt_not (pt_val (pe_callB (id := "isinstance") call_isiT (by rfl) T.isinstance (by decide +kernel) (pa_cons (pv 1) (pa_cons (pe_tup (pa_cons (pe_tyv (n := "list") (by rfl) T.list (by decide +kernel)) (pa_cons (pe_tyv (n := "tuple") (by rfl) T.tuple (by decide +kernel)) pa_nil))) pa_nil))))) (pw_or1 (pt_not (pt_val (pe_callB (id := "all") (cr_all rfl) (by rfl) T.all (by decide +kernel) (pa_cons (pe_lc (own := [("one", 2)]) (g := gName 2) (tt := tYes) rfl sc__law_are_wishes.nd (pi_list (pv 1)) (blkOk_by (N := ["ranks", "thing", "one"]) (sc := defScope s__law_are_wishes) (by decide +kernel)) (fun _ _ _ _ _ => (pg_name (i := 2) sc__law_are_wishes.nd rfl (by first | exact Or.inl rfl | exact Or.inr rfl))) (fun _ _ _ _ _ => pts_nil) (fun _ _ _ _ _ => (pe_and (pe_callB (id := "isinstance") (call_isiK' K rfl) (by rfl) T.isinstance (by decide +kernel) (pa_cons (pv 2) (pa_cons (pe_tyv (n := "str") (by rfl) T.str (by decide +kernel)) pa_nil))) (pe_one (pe_cmp (pc_din (hu_of hr) (pv 2) (pv 0)) rfl))))) pa_nil))))))) (pss_one (ps_ret pe_bl)) pss_nil)
      (pss_one (ps_ret (pe_cmpR op_eq (pe_lenSetT rfl (by rfl) T.len (by rfl) T.set (pv 1)) (pe_callB (id := "len") call_len_seq (by rfl) T.len (by decide +kernel) (pa_cons (pv 1) pa_nil)) (nomark _))))), _, rfl, two_line, fun p hp => ⟨_, p, [.ty "list", .ty "tuple"], _, _, _, rfl, upd_same, cls_two _ _, (Is.bl b).ty, kit_seq K _, _, rfl, iteT (iteT (q _ (Same.up hp)))⟩⟩
  | int b => exact ⟨_, (pss_cons (ps_if (PW.pt (pw_or (pt_not (pt_val (pe_callB (id := "isinstance") call_isiT (by rfl) T.isinstance (by decide +kernel) (pa_cons (pv 1) (pa_cons (pe_tup (pa_cons (pe_tyv (n := "list") (by rfl) T.list (by decide +kernel)) (pa_cons (pe_tyv (n := "tuple") (by rfl) T.tuple (by decide +kernel)) pa_nil))) pa_nil))))) (pw_or1 (pt_not (pt_val (pe_callB (id := "all") (cr_all rfl) (by rfl) T.all (by decide +kernel) (pa_cons (pe_lc (own := [("one", 2)]) (g := gName 2) (tt := tYes) rfl sc__law_are_wishes.nd (pi_list (pv 1)) (blkOk_by (N := ["ranks", "thing", "one"]) (sc := defScope s__law_are_wishes) (by decide +kernel)) (fun _ _ _ _ _ => (pg_name (i := 2) sc__law_are_wishes.nd rfl (by first | exact Or.inl rfl | exact Or.inr rfl))) (fun _ _ _ _ _ => pts_nil) (fun _ _ _ _ _ => (pe_and (pe_callB (id := "isinstance") (call_isiK' K rfl) (by rfl) T.isinstance (by decide +kernel) (pa_cons (pv 2) (pa_cons (pe_tyv (n := "str") (by rfl) T.str (by decide +kernel)) pa_nil))) (pe_one (pe_cmp (pc_din (hu_of hr) (pv 2) (pv 0)) rfl))))) pa_nil))))))) (pss_one (ps_ret pe_bl)) pss_nil)
      (pss_one (ps_ret (pe_cmpR op_eq (pe_lenSetT rfl (by rfl) T.len (by rfl) T.set (pv 1)) (pe_callB (id := "len") call_len_seq (by rfl) T.len (by decide +kernel) (pa_cons (pv 1) pa_nil)) (nomark _))))), _, rfl, two_line, fun p hp => ⟨_, p, [.ty "list", .ty "tuple"], _, _, _, rfl, upd_same, cls_two _ _, (Is.int b).ty, kit_seq K _, _, rfl, iteT (iteT (q _ (Same.up hp)))⟩⟩
  | str b z => exact ⟨_, (pss_cons (ps_if (PW.pt (pw_or (pt_not (pt_val (pe_callB (id := "isinstance") call_isiT (by rfl) T.isinstance (by decide +kernel) (pa_cons (pv 1) (pa_cons (pe_tup (pa_cons (pe_tyv (n := "list") (by rfl) T.list (by decide +kernel)) (pa_cons (pe_tyv (n := "tuple") (by rfl) T.tuple (by decide +kernel)) pa_nil))) pa_nil))))) (pw_or1 (pt_not (pt_val (pe_callB (id := "all") (cr_all rfl) (by rfl) T.all (by decide +kernel) (pa_cons (pe_lc (own := [("one", 2)]) (g := gName 2) (tt := tYes) rfl sc__law_are_wishes.nd (pi_list (pv 1)) (blkOk_by (N := ["ranks", "thing", "one"]) (sc := defScope s__law_are_wishes) (by decide +kernel)) (fun _ _ _ _ _ => (pg_name (i := 2) sc__law_are_wishes.nd rfl (by first | exact Or.inl rfl | exact Or.inr rfl))) (fun _ _ _ _ _ => pts_nil) (fun _ _ _ _ _ => (pe_and (pe_callB (id := "isinstance") (call_isiK' K rfl) (by rfl) T.isinstance (by decide +kernel) (pa_cons (pv 2) (pa_cons (pe_tyv (n := "str") (by rfl) T.str (by decide +kernel)) pa_nil))) (pe_one (pe_cmp (pc_din (hu_of hr) (pv 2) (pv 0)) rfl))))) pa_nil))))))) (pss_one (ps_ret pe_bl)) pss_nil)
      (pss_one (ps_ret (pe_cmpR op_eq (pe_lenSetT rfl (by rfl) T.len (by rfl) T.set (pv 1)) (pe_callB (id := "len") call_len_seq (by rfl) T.len (by decide +kernel) (pa_cons (pv 1) pa_nil)) (nomark _))))), _, rfl, two_line, fun p hp => ⟨_, p, [.ty "list", .ty "tuple"], _, _, _, rfl, upd_same, cls_two _ _, (Is.str b z).ty, kit_seq K _, _, rfl, iteT (iteT (q _ (Same.up hp)))⟩⟩
  | dic z => exact ⟨_, (pss_cons (ps_if (PW.pt (pw_or (pt_not (pt_val (pe_callB (id := "isinstance") call_isiT (by rfl) T.isinstance (by decide +kernel) (pa_cons (pv 1) (pa_cons (pe_tup (pa_cons (pe_tyv (n := "list") (by rfl) T.list (by decide +kernel)) (pa_cons (pe_tyv (n := "tuple") (by rfl) T.tuple (by decide +kernel)) pa_nil))) pa_nil))))) (pw_or1 (pt_not (pt_val (pe_callB (id := "all") (cr_all rfl) (by rfl) T.all (by decide +kernel) (pa_cons (pe_lc (own := [("one", 2)]) (g := gName 2) (tt := tYes) rfl sc__law_are_wishes.nd (pi_list (pv 1)) (blkOk_by (N := ["ranks", "thing", "one"]) (sc := defScope s__law_are_wishes) (by decide +kernel)) (fun _ _ _ _ _ => (pg_name (i := 2) sc__law_are_wishes.nd rfl (by first | exact Or.inl rfl | exact Or.inr rfl))) (fun _ _ _ _ _ => pts_nil) (fun _ _ _ _ _ => (pe_and (pe_callB (id := "isinstance") (call_isiK' K rfl) (by rfl) T.isinstance (by decide +kernel) (pa_cons (pv 2) (pa_cons (pe_tyv (n := "str") (by rfl) T.str (by decide +kernel)) pa_nil))) (pe_one (pe_cmp (pc_din (hu_of hr) (pv 2) (pv 0)) rfl))))) pa_nil))))))) (pss_one (ps_ret pe_bl)) pss_nil)
      (pss_one (ps_ret (pe_cmpR op_eq (pe_lenSetT rfl (by rfl) T.len (by rfl) T.set (pv 1)) (pe_callB (id := "len") call_len_seq (by rfl) T.len (by decide +kernel) (pa_cons (pv 1) pa_nil)) (nomark _))))), _, rfl, two_line, fun p hp => ⟨_, p, [.ty "list", .ty "tuple"], _, _, _, rfl, upd_same, cls_two _ _, ((Is.dic z).mono (Same.up hp)).ty, kit_seq K _, _, rfl, iteT (iteT (q _ (Same.up hp)))⟩⟩
end
end K01

set_option Elab.async false
set_option linter.all false
set_option maxRecDepth 100000
set_option maxHeartbeats 4000000
namespace K01
open PySem PySem.Spec PyProof.Rows L2 Sr
theorem inV2 {s a b : Str} : inV (.str s) [.str a, .str b] = (decide (s = a) || decide (s = b)) := by
  have e : ∀ x y : Str, eqV (.str x) (.str y) = decide (y = x) := fun x y => by
    by_cases h : y = x
    · subst h
      rw [decide_eq_true rfl]
      simp [eqV]
    · rw [decide_eq_false h]
      simp [eqV, Ne.symm h]
      try exact fun z => h z.symm
  show (eqV (.str a) (.str s) || (eqV (.str b) (.str s) || false)) = _
  rw [e, e, Bool.or_false]
/-- a list of data as an event -/
def evL (ks : List Str) : List Dt → Bool
  | .str s :: r => formOk s ks r
  | _ => false
theorem evL_odd {ks : List Str} {d : Dt} {r : List Dt} (h : isStr d = false) : evL ks (d :: r) = false := by
  cases d <;> first | rfl | simp [isStr] at h
theorem strN (a b : Str) : decide (V.str a = V.str b) = decide (a = b) := by
  by_cases c : a = b
  · rw [decide_eq_true c, decide_eq_true (by rw [c])]
  · rw [decide_eq_false c, decide_eq_false fun z => c (by injection z)]
theorem comeOk_len {ks : List Str} : ∀ {r : List Dt}, r.length ≠ 4 → comeOk ks r = false
  | [], _ => rfl
  | [_], _ => rfl
  | [_, _], _ => rfl
  | [_, _, _], _ => rfl
  | [_, _, _, _], h => absurd rfl h
  | _ :: _ :: _ :: _ :: _ :: _, _ => rfl
theorem form_kind {s : Str} {ks : List Str} {r : List Dt} (h : s = "place" ∨ s = "withdraw") : formOk s ks r = kindForm ks r := by
  rcases h with rfl | rfl
  · unfold formOk; rw [if_neg (by decide), if_pos rfl]
  · unfold formOk; rw [if_neg (by decide), if_neg (by decide), if_neg (by decide), if_pos rfl]
theorem form_leave {ks : List Str} {r : List Dt} : formOk "leave" ks r = nameForm ks r := by
  unfold formOk; rw [if_neg (by decide), if_neg (by decide), if_pos rfl]
theorem form_change {ks : List Str} {r : List Dt} : formOk "change" ks r = changeForm ks r := by
  unfold formOk; rw [if_neg (by decide), if_neg (by decide), if_neg (by decide), if_neg (by decide), if_pos rfl]
theorem form_alone {s : Str} {ks : List Str} {r : List Dt} (h : s = "gather" ∨ s = "round") : formOk s ks r = alone ks r := by
  rcases h with rfl | rfl
  · unfold formOk; rw [if_neg (by decide), if_neg (by decide), if_neg (by decide), if_neg (by decide), if_neg (by decide), if_pos rfl]
  · unfold formOk; rw [if_neg (by decide), if_neg (by decide), if_neg (by decide), if_neg (by decide), if_neg (by decide), if_neg (by decide), if_pos rfl]
theorem form_none {s : Str} {ks : List Str} {r : List Dt} (h0 : s = "come" → r.length ≠ 4) (h1 : ¬ (s = "place" ∨ s = "withdraw")) (h2 : s ≠ "leave") (h3 : s ≠ "change") (h4 : ¬ (s = "gather" ∨ s = "round")) : formOk s ks r = false := by
  unfold formOk
  by_cases c : s = "come"
  · rw [if_pos c]
    exact comeOk_len (h0 c)
  · rw [if_neg c, if_neg fun z => h1 (.inl z), if_neg h2, if_neg fun z => h1 (.inr z), if_neg h3, if_neg fun z => h4 (.inl z), if_neg fun z => h4 (.inr z)]
section
variable {P : Program} {w : World} {K : PySem.W.Frag} {mg : Str → Option Value} {base : Heap}
abbrev s__law_is_due : Stmt := top 39
theorem sc__law_is_due : FnScope ["ranks", "thing", "word", "many", "points", "home"] ["ranks", "thing"] (defScope s__law_is_due) := ⟨rfl, rfl, rfl, by decide +kernel, rfl, by decide +kernel, by decide +kernel⟩
theorem c__law_is_due (T : Txt K mg) (D : Dfn K mg "_law_is_due" s__law_is_due) (C_law_is_name : Cal P w K mg base 1 "_law_is_name" ["thing"] (spB nameOk)) (C_law_are_wishes : Cal P w K mg base 2 "_law_are_wishes" ["ranks", "thing"] (spK wishesOk))
    (C_law_is_kind : Cal P w K mg base 1 "_law_is_kind" ["ranks", "thing"] (spK kindOk)) :
    Cal P w K mg base 3 "_law_is_due" ["ranks", "thing"] (spK evOk) := by
  refine D.cal sc__law_is_due (fun _ _ _ _ _ _ us hl => match us, hl with | [_, _], _ => rfl) spK_len fun cdv A outer s H vs Q E hr h => ?_
  obtain ⟨r, v, ks, d, rfl, rk, hv, q⟩ := h
  refine ⟨_, (pss_cons (ps_if (PW.pt (pw_or (pt_not (pt_val (pe_callB (id := "isinstance") call_isiT (by rfl) T.isinstance (by decide +kernel) (pa_cons (pv 1) (pa_cons (pe_tup (pa_cons (pe_tyv (n := "list") (by rfl) T.list (by decide +kernel)) (pa_cons (pe_tyv (n := "tuple") (by rfl) T.tuple (by decide +kernel)) pa_nil))) pa_nil))))) (pw_or (pt_cmpR op_eq (pe_callB (id := "len") call_len_seq (by rfl) T.len (by decide +kernel) (pa_cons (pv 1) pa_nil)) pe_int (nomark _)) (pw_or1 (pt_not (pt_val (pe_callB (id := "isinstance") call_isi (by rfl) T.isinstance (by decide +kernel) (pa_cons (pe_ix ix_seq (pv 1) pe_int (fun _ _ => rfl)) (pa_cons (pe_tyv (n := "str") (by rfl) T.str (by decide +kernel)) pa_nil))))))))) (pss_one (ps_ret pe_bl)) pss_nil)
      (pss_cons (ps_par (i := 2) (j := 3) (by rfl) sc__law_is_due.nd rfl rfl (by decide) rfl rfl (pa_cons (pe_ix ix_seq (pv 1) pe_int (fun _ _ => rfl)) (pa_cons (pe_callB (id := "len") call_len_seq (by rfl) T.len (by decide +kernel) (pa_cons (pv 1) pa_nil)) pa_nil)) (by rfl))
      (pss_cons (ps_if (PW.pt (pw_and (pt_cmpR op_eq (pv 2) pe_str (nomark _)) (pw_and1 (pt_cmpR op_eq (pv 3) pe_int (nomark _))))) (pss_cons (ps_par (i := 4) (j := 5) (by rfl) sc__law_is_due.nd rfl rfl (by decide) rfl rfl (pa_cons (pe_ix ix_seq (pv 1) pe_int (fun _ _ => rfl)) (pa_cons (pe_ix ix_seq (pv 1) pe_int (fun _ _ => rfl)) pa_nil)) (by rfl))
      (pss_cons (ps_if (PW.pt (pw_or (pt_not (pt_val (pe_cal C_law_is_name hr (by decide) (by rfl) (pa_cons (pe_ix ix_seq (pv 1) pe_int (fun _ _ => rfl)) pa_nil)))) (pw_or1 (pt_not (pt_val (pe_cal C_law_are_wishes hr (by decide) (by rfl) (pa_cons (pv 0) (pa_cons (pe_ix ix_seq (pv 1) pe_int (fun _ _ => rfl)) pa_nil)))))))) (pss_one (ps_ret pe_bl)) pss_nil)
      (pss_cons (ps_if (PW.pt (pw_or (pt_not (pt_val (pe_callB (id := "isinstance") call_isi (by rfl) T.isinstance (by decide +kernel) (pa_cons (pv 4) (pa_cons (pe_tyv (n := "int") (by rfl) T.int (by decide +kernel)) pa_nil))))) (pw_or (pt_val (pe_callB (id := "isinstance") call_isi (by rfl) T.isinstance (by decide +kernel) (pa_cons (pv 4) (pa_cons (pe_tyv (n := "bool") (by rfl) T.bool (by decide +kernel)) pa_nil)))) (pw_or1 (pt_not (pt_chain op_le op_le pe_int (pv 4) (pe_op op_pow pe_int pe_int))))))) (pss_one (ps_ret pe_bl)) pss_nil)
      (pss_one (ps_ret (pe_or (pe_cmpR op_isN (pv 5) pe_non (nomark _)) (pe_one (pe_cal C_law_is_kind hr (by decide) (by rfl) (pa_cons (pv 0) (pa_cons (pv 5) pa_nil)))))))))) pss_nil)
      (pss_cons (ps_if (pt_cmpR op_in_seq (pv 2) (pe_tup (pa_cons pe_str (pa_cons pe_str pa_nil))) (by rfl)) (pss_one (ps_ret (pe_and (pe_cmpR op_eq (pv 3) pe_int (nomark _)) (pe_one (pe_cal C_law_is_kind hr (by decide) (by rfl) (pa_cons (pv 0) (pa_cons (pe_ix ix_seq (pv 1) pe_int (fun _ _ => rfl)) pa_nil))))))) pss_nil)
      (pss_cons (ps_if (pt_cmpR op_eq (pv 2) pe_str (nomark _)) (pss_one (ps_ret (pe_and (pe_cmpR op_eq (pv 3) pe_int (nomark _)) (pe_one (pe_cal C_law_is_name hr (by decide) (by rfl) (pa_cons (pe_ix ix_seq (pv 1) pe_int (fun _ _ => rfl)) pa_nil)))))) pss_nil)
      (pss_cons (ps_if (pt_cmpR op_eq (pv 2) pe_str (nomark _)) (pss_one (ps_ret (pe_and (pe_cmpR op_eq (pv 3) pe_int (nomark _)) (pe_and (pe_cal C_law_is_name hr (by decide) (by rfl) (pa_cons (pe_ix ix_seq (pv 1) pe_int (fun _ _ => rfl)) pa_nil)) (pe_one (pe_cal C_law_are_wishes hr (by decide) (by rfl) (pa_cons (pv 0) (pa_cons (pe_ix ix_seq (pv 1) pe_int (fun _ _ => rfl)) pa_nil)))))))) pss_nil)
      (pss_one (ps_ret (pe_and (pe_cmpR op_in_seq (pv 2) (pe_tup (pa_cons pe_str (pa_cons pe_str pa_nil))) (by rfl)) (pe_one (pe_cmpR op_eq (pv 3) pe_int (nomark _)))))))))))), ?_⟩
  refine ⟨_, rfl, two_line, fun p hp => ⟨_, p, [.ty "list", .ty "tuple"], _, _, _, rfl, upd_same, cls_two _ _, (hv.mono (Same.up hp)).ty, kit_seq K d, _, rfl, ?_⟩⟩
  have s1 : Same H _ := Same.up (o := .tup [.ty "list", .ty "tuple"]) hp
  cases hs : isSeq d with
  | false =>
    refine iteT (iteT ?_)
    rw [evOk_odd hs] at q
    exact q _ s1
  | true =>
    obtain ⟨a, xs, ds, rfl, sq, hA, hz, ev⟩ : ∃ a xs ds, v = .ref a ∧ (∀ H', Same H H' → SqL K H' a xs ∨ SqT K H' a xs) ∧ IsA H xs ds ∧ xs.length ≤ 60 ∧ evOk ks d = evL ks ds := by
      cases hv with
      | lst h r z => exact ⟨_, _, _, rfl, fun H' s' => .inl (SqL.of (s' _ _ h)), r, z, by rename_i ds; cases ds with | nil => rfl | cons d r => cases d <;> rfl⟩
      | tup h r z => exact ⟨_, _, _, rfl, fun H' s' => .inr (SqT.of (s' _ _ h)), r, z, by rename_i ds; cases ds with | nil => rfl | cons d r => cases d <;> rfl⟩
      | _ => simp [isSeq] at hs
    refine iteF ?_
    have ret : ∀ (b : Bool) (H' : Hp), evL ks ds = b → Same H H' → Q (.bl b) H' := fun b H' e s' => by
      have := q H' s'
      rw [ev, e] at this
      exact this
    have ix : ∀ (i : Int) (j : Nat) (u : V) (H' : Hp) (R : VK), i = (j : Int) → xs[j]? = some u → Same H H' → R u H' → rIx K (.ref a) (.int i) H' R := fun i j u H' R e hu s' k => by
      rcases sq H' s' with x | x
      · exact .inl ⟨a, xs, i, u, rfl, rfl, x, atI_of e hu, k⟩
      · exact .inr (.inl ⟨a, xs, i, u, rfl, rfl, x, atI_of e hu, k⟩)
    refine ⟨_, rfl, a, xs, rfl, sq _ s1, rfl, _, rfl, ?_⟩
    rw [show decide (V.int (xs.length : Nat) = V.int 0) = decide (xs.length = 0) from lenN _ 0]
    cases hA with
    | nil => exact iteT (iteT (ret _ _ rfl s1))
    | cons i0 rest =>
      rename_i v0 vs d0 r0
      rw [decide_eq_false (by simp)]
      refine iteF ?_
      refine ⟨_, rfl, ix 0 0 v0 _ _ rfl rfl s1 ⟨v0, _, _, _, _, rfl, .ty _, (i0.mono s1).ty, kit_str K d0, _, rfl, ?_⟩⟩
      cases hq : isStr d0 with
      | false => exact iteT (ret _ _ (evL_odd hq) s1)
      | true =>
        obtain ⟨s, rfl⟩ : ∃ s, d0 = .str s := by cases d0 <;> first | exact ⟨_, rfl⟩ | simp [isStr] at hq
        cases i0 with
        | str _ hs0 =>
        refine iteF ?_
        refine ⟨_, rfl, ix 0 0 _ _ _ rfl rfl s1 ⟨_, rfl, a, _, rfl, sq _ s1, _, _, rfl, ?_⟩⟩
        dsimp only
        refine cut_rest (fun H2 => Same H H2 ∧ (s = "come" → r0.length ≠ 4)) ?_ ?_
        · rintro H2 ⟨s2, hc⟩
          have n1 : decide (V.int ((V.str s :: vs).length : Nat) = V.int 1) = decide (vs.length + 1 = 1) := lenN _ 1
          have n2 : decide (V.int ((V.str s :: vs).length : Nat) = V.int 2) = decide (vs.length + 1 = 2) := lenN _ 2
          have n3 : decide (V.int ((V.str s :: vs).length : Nat) = V.int 3) = decide (vs.length + 1 = 3) := lenN _ 3
          refine ⟨_, rfl, lineN, fun p2 hp2 => ⟨p2, _, rfl, .inr (SqT.of upd_same), rfl, by decide +kernel, _, rfl, ?_⟩⟩
          have s3 := s2.trans (Same.up (o := .tup [.str "place", .str "withdraw"]) hp2)
          rw [show (if false = true then !inV (.str s) [.str "place", .str "withdraw"] else inV (.str s) [.str "place", .str "withdraw"]) = decide (s = "place" ∨ s = "withdraw") from by
            show inV (.str s) [.str "place", .str "withdraw"] = _
            rw [inV2, Bool.decide_or]]
          by_cases c1 : s = "place" ∨ s = "withdraw"
          · rw [decide_eq_true c1]
            have fo := form_kind (ks := ks) (r := r0) c1
            refine iteT ⟨_, rfl, rfl, _, rfl, ?_⟩
            rw [n2]
            cases rest with
            | nil => exact iteF (ret _ _ fo s3)
            | cons i1 rest1 =>
              cases rest1 with
              | nil => exact iteT ⟨_, rfl, _, rfl, ix 1 1 _ _ _ rfl rfl s3 ⟨r, _, ks, _, rfl, rk.mono s3, i1.mono s3, fun H' s' => ret _ _ fo (s3.trans s')⟩⟩
              | cons i2 rest2 =>
                rw [decide_eq_false (by simp)]
                exact iteF (ret _ _ fo s3)
          rw [decide_eq_false c1]
          refine iteF ⟨_, rfl, rfl, _, rfl, ?_⟩
          rw [strN]
          by_cases c2 : s = "leave"
          · rw [decide_eq_true c2]
            subst c2
            have fo := form_leave (ks := ks) (r := r0)
            refine iteT ⟨_, rfl, rfl, _, rfl, ?_⟩
            rw [n2]
            cases rest with
            | nil => exact iteF (ret _ _ fo s3)
            | cons i1 rest1 =>
              cases rest1 with
              | nil => exact iteT ⟨_, rfl, ix 1 1 _ _ _ rfl rfl s3 ⟨_, _, rfl, i1.mono s3, fun H' s' => ret _ _ fo (s3.trans s')⟩⟩
              | cons i2 rest2 =>
                rw [decide_eq_false (by simp)]
                exact iteF (ret _ _ fo s3)
          rw [decide_eq_false c2]
          refine iteF ⟨_, rfl, rfl, _, rfl, ?_⟩
          rw [strN]
          by_cases c3 : s = "change"
          · rw [decide_eq_true c3]
            subst c3
            have fo := form_change (ks := ks) (r := r0)
            refine iteT ⟨_, rfl, rfl, _, rfl, ?_⟩
            rw [n3]
            cases rest with
            | nil => exact iteF (ret _ _ fo s3)
            | cons i1 rest1 =>
              cases rest1 with
              | nil => exact iteF (ret _ _ fo s3)
              | cons i2 rest2 =>
                cases rest2 with
                | nil =>
                  refine iteT ⟨_, rfl, ix 1 1 _ _ _ rfl rfl s3 ⟨_, _, rfl, i1.mono s3, fun H' s' => ⟨_, rfl, ?_⟩⟩⟩
                  have s4 := s3.trans s'
                  rename_i d1 _ d2
                  have fo' : evL ks [.str "change", d1, d2] = (nameOk d1 && wishesOk ks d2) := fo
                  cases cn : nameOk d1 with
                  | false =>
                    rw [cn, Bool.false_and] at fo'
                    exact iteF (ret _ _ fo' s4)
                  | true =>
                    rw [cn, Bool.true_and] at fo'
                    exact iteT ⟨_, rfl, _, rfl, ix 2 2 _ _ _ rfl rfl s4 ⟨r, _, ks, _, rfl, rk.mono s4, i2.mono s4, fun H' s' => ret _ _ fo' (s4.trans s')⟩⟩
                | cons i3 rest3 =>
                  rw [decide_eq_false (by simp)]
                  exact iteF (ret _ _ fo s3)
          rw [decide_eq_false c3]
          refine iteF ⟨_, rfl, lineN, fun p4 hp4 => ⟨p4, _, rfl, .inr (SqT.of upd_same), rfl, by decide +kernel, _, rfl, ?_⟩⟩
          have s5 := s3.trans (Same.up (o := .tup [.str "gather", .str "round"]) hp4)
          rw [show (if false = true then !inV (.str s) [.str "gather", .str "round"] else inV (.str s) [.str "gather", .str "round"]) = decide (s = "gather" ∨ s = "round") from by
            show inV (.str s) [.str "gather", .str "round"] = _
            rw [inV2, Bool.decide_or]]
          by_cases c4 : s = "gather" ∨ s = "round"
          · rw [decide_eq_true c4]
            have fo := form_alone (ks := ks) (r := r0) c4
            refine iteT ⟨_, rfl, rfl, ?_⟩
            rw [n1]
            cases rest with
            | nil => exact ret _ _ fo s5
            | cons i1 rest1 =>
              rw [decide_eq_false (by simp)]
              exact ret _ _ fo s5
          rw [decide_eq_false c4]
          exact iteF (ret _ _ (form_none hc c1 c2 c3 c4) s5)
        · intro go
          refine ⟨_, rfl, rfl, _, rfl, ?_⟩
          rw [strN]
          by_cases c0 : s = "come"
          case neg =>
            rw [decide_eq_false c0]
            exact iteF (go _ ⟨s1, fun z => absurd z c0⟩)
          rw [decide_eq_true c0]
          refine iteT ⟨_, rfl, rfl, _, rfl, ?_⟩
          rw [show decide (V.int ((V.str s :: vs).length : Nat) = V.int 5) = decide (vs.length + 1 = 5) from lenN _ 5]
          have hl := rest.len
          by_cases c5 : vs.length + 1 = 5
          case neg =>
            rw [decide_eq_false c5]
            exact iteF (go _ ⟨s1, fun _ z => c5 (by omega)⟩)
          rw [decide_eq_true c5]
          cases rest with
          | nil => simp at c5
          | cons i1 r1 =>
          cases r1 with
          | nil => simp at c5
          | cons i2 r2 =>
          cases r2 with
          | nil => simp at c5
          | cons i3 r3 =>
          cases r3 with
          | nil => simp at c5
          | cons i4 r4 =>
          cases r4 with
          | cons i5 r5 => simp at c5
          | nil =>
          rename_i v1 d1 v2 d2 v3 d3 v4 d4
          have fo : evL ks [.str s, d1, d2, d3, d4] = (nameOk d1 && (wishesOk ks d2 && (pointsOk d3 && homeOk ks d4))) := by
            show formOk s ks [d1, d2, d3, d4] = _
            unfold formOk
            rw [if_pos c0]
            rfl
          refine iteT ⟨_, rfl, ix 3 3 v3 _ _ rfl rfl s1 ⟨_, rfl, ix 4 4 v4 _ _ rfl rfl s1 ⟨_, _, rfl, _, rfl, ix 1 1 v1 _ _ rfl rfl s1 ⟨_, _, rfl, i1.mono s1, fun H2 s2' => ⟨_, rfl, ?_⟩⟩⟩⟩⟩
          have s2 := s1.trans s2'
          cases cn : nameOk d1 with
          | false =>
            rw [cn, Bool.false_and] at fo
            exact iteT (iteT (ret _ _ fo s2))
          | true =>
          rw [cn, Bool.true_and] at fo
          refine iteF ⟨_, rfl, _, rfl, ix 2 2 v2 _ _ rfl rfl s2 ⟨r, _, ks, _, rfl, rk.mono s2, i2.mono s2, fun H3 s3' => ⟨_, rfl, ?_⟩⟩⟩
          have s3 := s2.trans s3'
          cases cw : wishesOk ks d2 with
          | false =>
            rw [cw, Bool.false_and] at fo
            exact iteT (ret _ _ fo s3)
          | true =>
          rw [cw, Bool.true_and] at fo
          refine iteF ⟨_, rfl, v3, _, _, _, _, rfl, .ty _, (i3.mono s3).ty, kit_int K d3, _, rfl, ?_⟩
          have home : pointsOk d3 = true → (tOrV (tOp (fun x y H Q => y = V.non ∧ Q (V.bl (decide (x = V.non))) H) (tVar 5) (tC V.non)) (tCall (spK kindOk) [] E0 (tCons (tVar 0) (tCons (tVar 5) tNil))))
              [some (.ref r), some (.ref a), some (.str s), some (.int 5), some v3, some v4] H3 Q := fun cp => by
            rw [cp, Bool.true_and] at fo
            refine ⟨_, rfl, rfl, _, rfl, ?_⟩
            cases i4 with
            | non => exact iteT (ret _ _ fo s3)
            | bl b => exact iteF ⟨_, rfl, _, rfl, r, _, ks, _, rfl, rk.mono s3, .bl b, fun H' s' => ret _ _ fo (s3.trans s')⟩
            | int b => exact iteF ⟨_, rfl, _, rfl, r, _, ks, _, rfl, rk.mono s3, .int b, fun H' s' => ret _ _ fo (s3.trans s')⟩
            | str b z => exact iteF ⟨_, rfl, _, rfl, r, _, ks, _, rfl, rk.mono s3, .str b z, fun H' s' => ret _ _ fo (s3.trans s')⟩
            | lst h rr z => exact iteF ⟨_, rfl, _, rfl, r, _, ks, _, rfl, rk.mono s3, .lst (s3 _ _ h) (rr.mono s3) z, fun H' s' => ret _ _ fo (s3.trans s')⟩
            | tup h rr z => exact iteF ⟨_, rfl, _, rfl, r, _, ks, _, rfl, rk.mono s3, .tup (s3 _ _ h) (rr.mono s3) z, fun H' s' => ret _ _ fo (s3.trans s')⟩
            | dic h => exact iteF ⟨_, rfl, _, rfl, r, _, ks, _, rfl, rk.mono s3, .dic (s3 _ _ h), fun H' s' => ret _ _ fo (s3.trans s')⟩
          cases i3 with
          | int i =>
            refine iteF ⟨_, rfl, _, _, _, _, _, rfl, .ty _, (Is.int (H := H3) i).ty, kit_bool K (.int i), _, rfl, iteF ?_⟩
            refine ⟨_, rfl, _, _, rfl, rfl, _, rfl, ?_⟩
            by_cases h1 : (0 : Int) ≤ i
            · rw [decide_eq_true h1]
              refine iteT ⟨_, _, rfl, rfl, ⟨by decide, by decide, by decide⟩, _, _, rfl, rfl, _, rfl, ?_⟩
              rw [show (10 : Int) ^ (6 : Int).toNat = 1000000 from by decide]
              by_cases h2 : i ≤ 1000000
              · rw [decide_eq_true h2]
                exact iteF (home (by show (decide (0 ≤ i) && decide (i ≤ 1000000)) = true; rw [decide_eq_true h1, decide_eq_true h2]; rfl))
              · rw [decide_eq_false h2]
                rw [show pointsOk (.int i) = false from by show (decide (0 ≤ i) && decide (i ≤ 1000000)) = false; rw [decide_eq_false h2, Bool.and_false], Bool.false_and] at fo
                exact iteT (ret _ _ fo s3)
            · rw [decide_eq_false h1]
              rw [show pointsOk (.int i) = false from by show (decide (0 ≤ i) && decide (i ≤ 1000000)) = false; rw [decide_eq_false h1, Bool.false_and], Bool.false_and] at fo
              exact iteF ⟨_, rfl, iteT (ret _ _ fo s3)⟩
          | bl b => exact iteF ⟨_, rfl, _, _, _, _, _, rfl, .ty _, (Is.bl (H := H3) b).ty, kit_bool K (.bl b), _, rfl, iteT (iteT (ret _ _ fo s3))⟩
          | _ => exact iteT (iteT (ret _ _ fo s3))
end
end K01

set_option Elab.async false
set_option linter.all false
set_option maxRecDepth 100000
set_option maxHeartbeats 4000000
namespace K01
open PySem PySem.Spec PyProof.Rows L2 Sr
def spBent : Sp := fun vs H Q _ => ∃ (a r t : Addr) (M : Hp) (ss : List Str), vs = [.ref a, .ref r, .ref t] ∧ DrawsAt H a ∧ Same M H ∧ M a = none ∧ RanksAt M r ss ∧ EvT M t ∧ ∀ v d M' H', Grow [a] M H M' H' → DrawsAt H' a → Is M' v d → Q v H'
theorem cut_lo {n : Nat} {k : Int} (h0 : 0 ≤ k) (h1 : k < n) : ¬ (HT.sIx n 0 none = 0 ∧ HT.sIx n n (some k) = n) := by
  rintro ⟨_, e⟩
  have : (if k < 0 then (k + (n : Int)).toNat else min k.toNat n) = n := e
  rw [if_neg (by omega)] at this
  omega
theorem cut_hi {n : Nat} {k : Int} (h0 : 0 ≤ k) (hn : 1 ≤ n) : ¬ (HT.sIx n 0 (some (k + 1)) = 0 ∧ HT.sIx n n none = n) := by
  rintro ⟨e, _⟩
  have : (if k + 1 < 0 then (k + 1 + (n : Int)).toNat else min (k + 1).toNat n) = 0 := e
  rw [if_neg (by omega)] at this
  omega
theorem cut_end {n : Nat} (hn : 1 ≤ n) : ¬ (HT.sIx n 0 none = 0 ∧ HT.sIx n n (some (-1)) = n) := by
  rintro ⟨_, e⟩
  have : (if (-1 : Int) < 0 then (-1 + (n : Int)).toNat else min (-1 : Int).toNat n) = n := e
  rw [if_pos (by omega)] at this
  omega
/-- what a law has built so far: all of L are data, settled; C tells what stands at some places, settled -/
structure Bld (a : Addr) (M0 H0 M H : Hp) (L : List V) (C : List (Addr × HO)) : Prop where
  g : Grow [a] M0 H0 M H
  d : DrawsAt H a
  all : ∀ v ∈ L, ∃ d, Is M v d
  con : ∀ c ∈ C, M c.1 = some c.2
theorem isA_all {M : Hp} : ∀ {xs : List V}, (∀ v ∈ xs, ∃ d, Is M v d) → ∃ ds, IsA M xs ds
  | [], _ => ⟨_, .nil⟩
  | x :: r, h => by
    obtain ⟨d, hd⟩ := h x List.mem_cons_self
    obtain ⟨ds, hr⟩ := isA_all (xs := r) fun v m => h v (List.mem_cons_of_mem _ m)
    exact ⟨_, .cons hd hr⟩
theorem IsA.each {M : Hp} : ∀ {xs : List V} {ds : List Dt}, IsA M xs ds → ∀ v ∈ xs, ∃ d, Is M v d
  | _, _, .cons h r, v, m => by
    rcases List.mem_cons.mp m with rfl | m
    · exact ⟨_, h⟩
    · exact IsA.each r v m
theorem dn {M : Hp} : ∃ ds, IsA M [] ds := ⟨_, .nil⟩
theorem dc {M : Hp} {v : V} {vs : List V} : (∃ d, Is M v d) → (∃ ds, IsA M vs ds) → ∃ ds, IsA M (v :: vs) ds
  | ⟨_, h⟩, ⟨_, r⟩ => ⟨_, .cons h r⟩
theorem di {M : Hp} {i : Int} : ∃ d, Is M (.int i) d := ⟨_, .int i⟩
theorem dt {M : Hp} {s : Str} (h : s.length ≤ 1000 := by decide) : ∃ d, Is M (.str s) d := ⟨_, .str s h⟩
theorem mem_cut {xs : List V} {lo hi : Option Int} {v : V} (h : v ∈ cutV xs lo hi) : v ∈ xs := List.mem_of_mem_drop (List.mem_of_mem_take h)
section
variable {a : Addr} {M0 H0 M H : Hp} {L : List V} {C : List (Addr × HO)}
theorem Bld.lay (b : Bld a M0 H0 M H L C) {p : Addr} {o : HO} (hp : H p = none) (h : ∃ d, Is (upd M p o) (.ref p) d) : Bld a M0 H0 (upd M p o) (upd H p o) (.ref p :: L) ((p, o) :: C) := by
  have k := Grow.lay (S := [a]) (o := o) b.g.sub hp
  refine ⟨b.g.trans k, b.d.up (Same.up hp), fun v m => ?_, fun c m => ?_⟩
  · rcases List.mem_cons.mp m with rfl | m
    · exact h
    · obtain ⟨d, hd⟩ := b.all v m
      exact ⟨d, hd.mono k.up⟩
  · rcases List.mem_cons.mp m with rfl | m
    · exact upd_same
    · exact k.up _ _ (b.con c m)
theorem Bld.lst (b : Bld a M0 H0 M H L C) {p : Addr} {xs : List V} (hp : H p = none) (h : ∃ ds, IsA M xs ds) (z : xs.length ≤ 60 := by exact Nat.le_of_ble_eq_true rfl) : Bld a M0 H0 (upd M p (.lst xs)) (upd H p (.lst xs)) (.ref p :: L) ((p, .lst xs) :: C) := by
  obtain ⟨ds, hs⟩ := h
  exact b.lay hp ⟨_, .lst upd_same (hs.mono (Same.up (b.g.sub.free hp))) z⟩
theorem Bld.tup (b : Bld a M0 H0 M H L C) {p : Addr} {xs : List V} (hp : H p = none) (h : ∃ ds, IsA M xs ds) (z : xs.length ≤ 60 := by exact Nat.le_of_ble_eq_true rfl) : Bld a M0 H0 (upd M p (.tup xs)) (upd H p (.tup xs)) (.ref p :: L) ((p, .tup xs) :: C) := by
  obtain ⟨ds, hs⟩ := h
  exact b.lay hp ⟨_, .tup upd_same (hs.mono (Same.up (b.g.sub.free hp))) z⟩
theorem Bld.dic (b : Bld a M0 H0 M H L C) {p : Addr} (hp : H p = none) : Bld a M0 H0 (upd M p (.dK [])) (upd H p (.dK [])) (.ref p :: L) ((p, .dK []) :: C) := b.lay hp ⟨_, .dic upd_same⟩
theorem Bld.draw (b : Bld a M0 H0 M H L C) {o : HO} (Ma : M0 a = none) (hd : DrawsAt H0 a) (ho : DrawsO o) : Bld a M0 H0 M (upd H a o) L C := by
  obtain ⟨g, d⟩ := draw_step b.g (b.g.out Ma hd.some) ho
  exact ⟨g, d, b.all, b.con⟩
theorem Bld.same (b : Bld a M0 H0 M H L C) {H' : Hp} (e : Same H H') : Bld a M0 H0 M H' L C := ⟨b.g.trans (Grow.same b.g.sub e), b.d.up e, b.all, b.con⟩
theorem Bld.got (b : Bld a M0 H0 M H L C) {M' H' : Hp} (g : Grow [a] M H M' H') (d : DrawsAt H' a) : Bld a M0 H0 M' H' L C := ⟨b.g.trans g, d, fun v m => by
  obtain ⟨d, hd⟩ := b.all v m
  exact ⟨d, hd.mono g.up⟩, fun c m => g.up _ _ (b.con c m)⟩
theorem Bld.add (b : Bld a M0 H0 M H L C) {v : V} (h : ∃ d, Is M v d) : Bld a M0 H0 M H (v :: L) C := ⟨b.g, b.d, fun u m => by
  rcases List.mem_cons.mp m with rfl | m
  · exact h
  · exact b.all u m, b.con⟩
theorem Bld.itemsL (b : Bld a M0 H0 M H L C) {p : Addr} {xs : List V} (hc : (p, HO.lst xs) ∈ C) (hl : V.ref p ∈ L) : ∃ ds, IsA M xs ds := by
  obtain ⟨d, hd⟩ := b.all _ hl
  have e := b.con _ hc
  cases hd with
  | lst e2 r z => rw [e] at e2; cases e2; exact ⟨_, r⟩
  | tup e2 r z => rw [e] at e2; cases e2
  | dic e2 => rw [e] at e2; cases e2
theorem Bld.itemsT (b : Bld a M0 H0 M H L C) {p : Addr} {xs : List V} (hc : (p, HO.tup xs) ∈ C) (hl : V.ref p ∈ L) : ∃ ds, IsA M xs ds := by
  obtain ⟨d, hd⟩ := b.all _ hl
  have e := b.con _ hc
  cases hd with
  | lst e2 r z => rw [e] at e2; cases e2
  | tup e2 r z => rw [e] at e2; cases e2; exact ⟨_, r⟩
  | dic e2 => rw [e] at e2; cases e2
theorem Bld.ne (b : Bld a M0 H0 M H L C) (Ma : M0 a = none) (hd : DrawsAt H0 a) {p : Addr} {o : HO} (hc : (p, o) ∈ C) : p ≠ a := by
  intro z
  have e := b.con _ hc
  rw [show (p, o).1 = a from z, b.g.out Ma hd.some] at e
  cases e
theorem da {xs ys : List V} : (∃ ds, IsA M xs ds) → (∃ ds, IsA M ys ds) → ∃ ds, IsA M (xs ++ ys) ds
  | ⟨_, h⟩, ⟨_, r⟩ => ⟨_, h.app r⟩
theorem dcut {xs : List V} {lo hi : Option Int} : (∃ ds, IsA M xs ds) → ∃ ds, IsA M (cutV xs lo hi) ds
  | ⟨_, h⟩ => isA_all fun v m => IsA.each h v (mem_cut m)
theorem Bld.at_ (b : Bld a M0 H0 M H L C) {p : Addr} {o : HO} (h : (p, o) ∈ C) : H p = some o := b.g.sub _ _ (b.con _ h)
end
section
variable {P : Program} {w : World} {K : PySem.W.Frag} {mg : Str → Option Value} {base : Heap}
abbrev s__law_bent : Stmt := top 40
theorem sc__law_bent : FnScope ["draws", "ranks", "event", "more", "row", "at", "kind"] ["draws", "ranks", "event"] (defScope s__law_bent) := ⟨rfl, rfl, rfl, by decide +kernel, rfl, by decide +kernel, by decide +kernel⟩
theorem c__law_bent (T : Txt K mg) (D : Dfn K mg "_law_bent" s__law_bent) (C_law_draw : Cal P w K mg base 1 "_law_draw" ["draws", "many"] spDraw) (C_law_pick : Cal P w K mg base 2 "_law_pick" ["draws", "xs"] (spPick K)) :
    Cal P w K mg base 3 "_law_bent" ["draws", "ranks", "event"] spBent := by
  refine D.cal sc__law_bent (fun _ _ _ _ _ _ us hl => match us, hl with | [_, _, _], _ => rfl) (fun vs H Q E h => ?_) fun cdv A outer s H vs Q E hr h => ?_
  · obtain ⟨a, r, t, M, ss, rfl, _⟩ := h
    rfl
  obtain ⟨a, r, t, M, ss, rfl, hd, sM, Ma, rk, ev, q⟩ := h
  refine ⟨_, (pss_cons (ps_par (i := 5) (j := 6) (by rfl) sc__law_bent.nd rfl rfl (by decide) rfl rfl (pa_cons (pe_cal C_law_draw hr (by decide) (by rfl) (pa_cons (pv 0) (pa_cons (pe_callB (id := "len") call_len_seq (by rfl) T.len (by decide +kernel) (pa_cons (pv 2) pa_nil)) pa_nil))) (pa_cons (pe_cal C_law_pick hr (by decide) (by rfl) (pa_cons (pv 0) (pa_cons (pe_callB (id := "sorted") (call_sortedD rfl) (by rfl) T.sorted (by decide +kernel) (pa_cons (pv 1) pa_nil)) pa_nil))) pa_nil)) (by rfl))
      (pss_cons (ps_set (i := 3) sc__law_bent.nd rfl (by first | exact Or.inl rfl | exact Or.inr rfl) (pe_lst (pa_cons pe_non (pa_cons pe_bl (pa_cons (pe_un un_neg pe_int) (pa_cons (pe_op op_pow pe_int pe_int) (pa_cons (pe_op op_add (pe_op op_pow pe_int pe_int) pe_int) (pa_cons pe_str (pa_cons pe_str (pa_cons pe_str (pa_cons (pv 6) (pa_cons (pe_lst (pa_cons (pv 6) pa_nil)) (pa_cons (pe_lst (pa_cons (pv 6) (pa_cons (pv 6) pa_nil))) (pa_cons pe_str (pa_cons pe_str (pa_cons pe_dnewK (pa_cons pe_int pa_nil)))))))))))))))))
      (pss_cons (ps_set (i := 3) sc__law_bent.nd rfl (by first | exact Or.inl rfl | exact Or.inr rfl) (pe_op op_cat (pv 3) (pe_lst (pa_cons (pe_lst (pa_cons pe_str pa_nil)) (pa_cons (pe_lst (pa_cons (pv 6) (pa_cons pe_str pa_nil))) (pa_cons (pe_tup (pa_cons (pv 6) (pa_cons pe_str pa_nil))) (pa_cons (pe_tup (pa_cons pe_str pa_nil)) pa_nil)))))))
      (pss_cons (ps_set (i := 4) sc__law_bent.nd rfl (by first | exact Or.inl rfl | exact Or.inr rfl) (pe_op op_cat (pe_op op_cat (pe_callTy (T := "list") call_list_of (by rfl) T.list (by decide +kernel) (pa_cons (pe_slice sl_tup (pv 2) po_none (po_some (pv 5))) pa_nil)) (pe_lst (pa_cons (pe_cal C_law_pick hr (by decide) (by rfl) (pa_cons (pv 0) (pa_cons (pv 3) pa_nil))) pa_nil))) (pe_callTy (T := "list") call_list_of (by rfl) T.list (by decide +kernel) (pa_cons (pe_slice sl_tup (pv 2) (po_some (pe_op op_add (pv 5) pe_int)) po_none) pa_nil))))
      (pss_one (ps_ret (pe_cal C_law_pick hr (by decide) (by rfl) (pa_cons (pv 0) (pa_cons (pe_lst (pa_cons (pv 4) (pa_cons (pe_callTy (T := "tuple") call_tuple_of (by rfl) T.tuple (by decide +kernel) (pa_cons (pv 4) pa_nil)) (pa_cons (pe_slice sl_tup (pv 2) po_none (po_some (pe_un un_neg pe_int))) (pa_cons (pe_op op_catT (pv 2) (pe_tup (pa_cons pe_non pa_nil))) (pa_cons (pe_op op_catT (pv 2) (pe_tup (pa_cons (pv 6) pa_nil))) (pa_cons (pe_callTy (T := "list") call_list_of (by rfl) T.list (by decide +kernel) (pa_cons (pv 2) pa_nil)) (pa_cons (pv 2) pa_nil)))))))) pa_nil))))))))), ?_⟩
  obtain ⟨⟨kvs, hk, he⟩, nd, hz, sub, ne0⟩ := rk
  obtain ⟨xs, ds, ht, hA, l1, l5⟩ := ev
  have b0 : Bld a M H M H [.ref t] [(t, .tup xs)] := ⟨Grow.refl sM, hd, fun v m => by rw [List.mem_singleton.mp m]; exact ⟨_, .tup ht hA (by omega)⟩, fun c m => by rw [List.mem_singleton.mp m]; exact ht⟩
  have xA : ∀ M', Same M M' → ∀ v ∈ xs, ∃ d, Is M' v d := fun M' s' v m => by
    obtain ⟨d, h⟩ := IsA.each hA v m
    exact ⟨d, h.mono s'⟩
  have ls : 1 ≤ ss.length := by
    cases ss with
    | nil => exact absurd rfl ne0
    | cons _ _ => simp
  refine ⟨_, rfl, _, rfl, t, xs, rfl, .inr (SqT.of (sM _ _ ht)), a, _, rfl, hd, by omega, by omega, fun at_ o p0 p1 ho => ?_⟩
  have b1 := b0.draw Ma hd ho
  refine ⟨_, rfl, _, rfl, r, kvs, ss, rfl, .inl (b1.g.sub _ _ hk), he.keys, by omega, fun ys p perm srt hp => ⟨a, p, _, rfl, b1.d.up (Same.up hp), fresh_ne b1.d hp, .inl (SqL.of upd_same), (by rw [List.length_map, perm.length_eq]; exact ls), (by rw [List.length_map, perm.length_eq]; omega), fun j v o2 hv ho2 => ⟨_, _, rfl, ?_⟩⟩⟩
  have b2 := (b1.same (Same.up (o := .lst (ys.map V.str)) hp)).draw Ma hd ho2
  obtain ⟨y, hy, rfl⟩ := List.mem_map.mp (List.mem_of_getElem? hv)
  have y1 := (names4_ok y (sub y (perm.mem_iff.mp hy))).2
  have dk : ∀ M' : Hp, ∃ d, Is M' (.str y) d := fun _ => ⟨_, .str y y1⟩
  refine ⟨_, rfl, _, _, rfl, rfl, ⟨by decide, by decide, by decide⟩, _, _, rfl, rfl, ⟨by decide, by decide, by decide⟩, _, _, rfl, rfl, _, rfl, _, rfl, lineN, fun q1 hq1 => ?_⟩
  have b3 := b2.lst (xs := [.str y]) hq1 (dc (dk _) dn)
  refine ⟨_, rfl, _, rfl, lineN, fun q2 hq2 => ?_⟩
  have b4 := b3.lst (xs := [.str y, .str y]) hq2 (dc (dk _) (dc (dk _) dn))
  intro q3 hq3
  have b5 := b4.dic hq3
  refine ⟨lineN, fun m1 hm1 => ?_⟩
  have b6 := b5.lst (xs := [.non, .bl true, .int (-1), .int (10 ^ (6 : Int).toNat), .int (10 ^ (6 : Int).toNat + 1), .str "", .str "Ann", .str "zz", .str y, .ref q1, .ref q2, .str "gather", .str "come", .ref q3, .int 0]) hm1 (dc ⟨_, .non⟩ (dc ⟨_, .bl _⟩ (dc di (dc di (dc di (dc dt (dc dt (dc dt (dc (dk _) (dc (b5.all _ (by repeat first | exact List.mem_cons_self | refine List.mem_cons_of_mem _ ?_)) (dc (b5.all _ (by repeat first | exact List.mem_cons_self | refine List.mem_cons_of_mem _ ?_)) (dc dt (dc dt (dc (b5.all _ (by repeat first | exact List.mem_cons_self | refine List.mem_cons_of_mem _ ?_)) (dc di dn)))))))))))))))
  refine ⟨_, rfl, lineN, fun q4 hq4 => ?_⟩
  have b7 := b6.lst (xs := [.str "zz"]) hq4 (dc dt dn)
  refine ⟨_, rfl, lineN, fun q5 hq5 => ?_⟩
  have b8 := b7.lst (xs := [.str y, .str "zz"]) hq5 (dc (dk _) (dc dt dn))
  refine ⟨_, rfl, lineN, fun q6 hq6 => ?_⟩
  have b9 := b8.tup (xs := [.str y, .str "zz"]) hq6 (dc (dk _) (dc dt dn))
  refine ⟨lineN, fun q7 hq7 => ?_⟩
  have b10 := b9.tup (xs := [.str "zz"]) hq7 (dc dt dn)
  refine ⟨lineN, fun m2 hm2 => ?_⟩
  have b11 := b10.lst (xs := [.ref q4, .ref q5, .ref q6, .ref q7]) hm2 (dc (b10.all _ (by repeat first | exact List.mem_cons_self | refine List.mem_cons_of_mem _ ?_)) (dc (b10.all _ (by repeat first | exact List.mem_cons_self | refine List.mem_cons_of_mem _ ?_)) (dc (b10.all _ (by repeat first | exact List.mem_cons_self | refine List.mem_cons_of_mem _ ?_)) (dc (b10.all _ (by repeat first | exact List.mem_cons_self | refine List.mem_cons_of_mem _ ?_)) dn))))
  refine ⟨m1, m2, _, _, rfl, rfl, b11.at_ (by repeat first | exact List.mem_cons_self | refine List.mem_cons_of_mem _ ?_), b11.at_ (by repeat first | exact List.mem_cons_self | refine List.mem_cons_of_mem _ ?_), lineN, fun m3 hm3 => ?_⟩
  have b12 := b11.lst (xs := [.non, .bl true, .int (-1), .int (10 ^ (6 : Int).toNat), .int (10 ^ (6 : Int).toNat + 1), .str "", .str "Ann", .str "zz", .str y, .ref q1, .ref q2, .str "gather", .str "come", .ref q3, .int 0] ++ [.ref q4, .ref q5, .ref q6, .ref q7]) hm3 (da (b11.itemsL (p := m1) (by repeat first | exact List.mem_cons_self | refine List.mem_cons_of_mem _ ?_) (by repeat first | exact List.mem_cons_self | refine List.mem_cons_of_mem _ ?_)) (b11.itemsL (p := m2) (by repeat first | exact List.mem_cons_self | refine List.mem_cons_of_mem _ ?_) (by repeat first | exact List.mem_cons_self | refine List.mem_cons_of_mem _ ?_)))
  have c1 := cutV_length xs none (some at_)
  have c2 := cutV_length xs (some (at_ + 1)) none
  have c3 := cutV_length xs none (some (-1))
  refine ⟨_, rfl, _, rfl, _, rfl, t, xs, rfl, SqT.of (b12.at_ (by repeat first | exact List.mem_cons_self | refine List.mem_cons_of_mem _ ?_)), cut_lo p0 p1, fun s1 hs1 => ⟨s1, _, rfl, .inr (SqT.of upd_same), fun l1' hl1 => ?_⟩⟩
  have b13 := b12.tup (xs := cutV xs none (some at_)) hs1 (dcut (b12.itemsT (p := t) (by repeat first | exact List.mem_cons_self | refine List.mem_cons_of_mem _ ?_) (by repeat first | exact List.mem_cons_self | refine List.mem_cons_of_mem _ ?_))) (by omega)
  have b14 := b13.lst (xs := cutV xs none (some at_)) hl1 (b13.itemsT (p := s1) (by repeat first | exact List.mem_cons_self | refine List.mem_cons_of_mem _ ?_) (by repeat first | exact List.mem_cons_self | refine List.mem_cons_of_mem _ ?_)) (by omega)
  refine ⟨_, rfl, _, rfl, a, m3, _, rfl, b14.d, b14.ne Ma hd (by repeat first | exact List.mem_cons_self | refine List.mem_cons_of_mem _ ?_), .inl (SqL.of (b14.at_ (by repeat first | exact List.mem_cons_self | refine List.mem_cons_of_mem _ ?_))), by simp, by simp, fun j2 u o3 hu ho3 => ⟨lineN, fun l2 hl2 => ?_⟩⟩
  have b15 := b14.draw Ma hd ho3
  obtain ⟨ds8, h8⟩ := b14.itemsL (p := m3) (by repeat first | exact List.mem_cons_self | refine List.mem_cons_of_mem _ ?_) (by repeat first | exact List.mem_cons_self | refine List.mem_cons_of_mem _ ?_)
  have du := IsA.each h8 u (List.mem_of_getElem? hu)
  have b16 := b15.lst (xs := [u]) hl2 (dc du dn)
  refine ⟨l1', l2, _, _, rfl, rfl, b16.at_ (by repeat first | exact List.mem_cons_self | refine List.mem_cons_of_mem _ ?_), b16.at_ (by repeat first | exact List.mem_cons_self | refine List.mem_cons_of_mem _ ?_), lineN (by show _ + 1 ≤ 1000; omega), fun l3 hl3 => ?_⟩
  have b17 := b16.lst (xs := cutV xs none (some at_) ++ [u]) hl3 (da (b16.itemsL (p := l1') (by repeat first | exact List.mem_cons_self | refine List.mem_cons_of_mem _ ?_) (by repeat first | exact List.mem_cons_self | refine List.mem_cons_of_mem _ ?_)) (b16.itemsL (p := l2) (by repeat first | exact List.mem_cons_self | refine List.mem_cons_of_mem _ ?_) (by repeat first | exact List.mem_cons_self | refine List.mem_cons_of_mem _ ?_))) (by rw [List.length_append]; show _ + 1 ≤ 60; omega)
  refine ⟨_, rfl, _, rfl, _, _, rfl, rfl, _, rfl, t, xs, rfl, SqT.of (b17.at_ (by repeat first | exact List.mem_cons_self | refine List.mem_cons_of_mem _ ?_)), cut_hi p0 l1, fun s2 hs2 => ⟨s2, _, rfl, .inr (SqT.of upd_same), fun l4 hl4 => ?_⟩⟩
  have b18 := b17.tup (xs := cutV xs (some (at_ + 1)) none) hs2 (dcut (b17.itemsT (p := t) (by repeat first | exact List.mem_cons_self | refine List.mem_cons_of_mem _ ?_) (by repeat first | exact List.mem_cons_self | refine List.mem_cons_of_mem _ ?_))) (by omega)
  have b19 := b18.lst (xs := cutV xs (some (at_ + 1)) none) hl4 (b18.itemsT (p := s2) (by repeat first | exact List.mem_cons_self | refine List.mem_cons_of_mem _ ?_) (by repeat first | exact List.mem_cons_self | refine List.mem_cons_of_mem _ ?_)) (by omega)
  refine ⟨l3, l4, _, _, rfl, rfl, b19.at_ (by repeat first | exact List.mem_cons_self | refine List.mem_cons_of_mem _ ?_), b19.at_ (by repeat first | exact List.mem_cons_self | refine List.mem_cons_of_mem _ ?_), lineN (by rw [List.length_append]; show _ + 1 + _ ≤ 1000; omega), fun row hrow => ?_⟩
  have b20 := b19.lst (xs := cutV xs none (some at_) ++ [u] ++ cutV xs (some (at_ + 1)) none) hrow (da (b19.itemsL (p := l3) (by repeat first | exact List.mem_cons_self | refine List.mem_cons_of_mem _ ?_) (by repeat first | exact List.mem_cons_self | refine List.mem_cons_of_mem _ ?_)) (b19.itemsL (p := l4) (by repeat first | exact List.mem_cons_self | refine List.mem_cons_of_mem _ ?_) (by repeat first | exact List.mem_cons_self | refine List.mem_cons_of_mem _ ?_))) (by rw [List.length_append, List.length_append]; show _ + 1 + _ ≤ 60; omega)
  refine ⟨_, rfl, _, rfl, _, rfl, row, _, rfl, .inl ⟨SqL.of (b20.at_ (by repeat first | exact List.mem_cons_self | refine List.mem_cons_of_mem _ ?_)), fun t1 ht1 => ?_⟩⟩
  have b21 := b20.tup (xs := cutV xs none (some at_) ++ [u] ++ cutV xs (some (at_ + 1)) none) ht1 (b20.itemsL (p := row) (by repeat first | exact List.mem_cons_self | refine List.mem_cons_of_mem _ ?_) (by repeat first | exact List.mem_cons_self | refine List.mem_cons_of_mem _ ?_)) (by rw [List.length_append, List.length_append]; show _ + 1 + _ ≤ 60; omega)
  refine ⟨_, rfl, _, rfl, _, rfl, t, xs, rfl, SqT.of (b21.at_ (by repeat first | exact List.mem_cons_self | refine List.mem_cons_of_mem _ ?_)), cut_end l1, fun s3 hs3 => ?_⟩
  have b22 := b21.tup (xs := cutV xs none (some (-1))) hs3 (dcut (b21.itemsT (p := t) (by repeat first | exact List.mem_cons_self | refine List.mem_cons_of_mem _ ?_) (by repeat first | exact List.mem_cons_self | refine List.mem_cons_of_mem _ ?_))) (by omega)
  have xne : xs ≠ [] := fun z => by rw [z] at l1; cases l1
  refine ⟨_, rfl, lineN, fun t3 ht3 => ?_⟩
  have b23 := b22.tup (xs := [.non]) ht3 (dc ⟨_, .non⟩ dn)
  refine ⟨t, t3, xs, [.non], rfl, rfl, SqT.of (b23.at_ (by repeat first | exact List.mem_cons_self | refine List.mem_cons_of_mem _ ?_)), SqT.of (b23.at_ (by repeat first | exact List.mem_cons_self | refine List.mem_cons_of_mem _ ?_)), xne, lineN (by show _ + 1 ≤ 1000; omega), (fun z => by cases z), fun _ t4 ht4 => ?_⟩
  have b24 := b23.tup (xs := xs ++ [.non]) ht4 (da (b23.itemsT (p := t) (by repeat first | exact List.mem_cons_self | refine List.mem_cons_of_mem _ ?_) (by repeat first | exact List.mem_cons_self | refine List.mem_cons_of_mem _ ?_)) (b23.itemsT (p := t3) (by repeat first | exact List.mem_cons_self | refine List.mem_cons_of_mem _ ?_) (by repeat first | exact List.mem_cons_self | refine List.mem_cons_of_mem _ ?_))) (by rw [List.length_append]; show _ + 1 ≤ 60; omega)
  refine ⟨_, rfl, _, rfl, lineN, fun t5 ht5 => ?_⟩
  have b25 := b24.tup (xs := [.str y]) ht5 (dc (dk _) dn)
  refine ⟨t, t5, xs, [.str y], rfl, rfl, SqT.of (b25.at_ (by repeat first | exact List.mem_cons_self | refine List.mem_cons_of_mem _ ?_)), SqT.of (b25.at_ (by repeat first | exact List.mem_cons_self | refine List.mem_cons_of_mem _ ?_)), xne, lineN (by show _ + 1 ≤ 1000; omega), (fun z => by cases z), fun _ t6 ht6 => ?_⟩
  have b26 := b25.tup (xs := xs ++ [.str y]) ht6 (da (b25.itemsT (p := t) (by repeat first | exact List.mem_cons_self | refine List.mem_cons_of_mem _ ?_) (by repeat first | exact List.mem_cons_self | refine List.mem_cons_of_mem _ ?_)) (b25.itemsT (p := t5) (by repeat first | exact List.mem_cons_self | refine List.mem_cons_of_mem _ ?_) (by repeat first | exact List.mem_cons_self | refine List.mem_cons_of_mem _ ?_))) (by rw [List.length_append]; show _ + 1 ≤ 60; omega)
  refine ⟨_, rfl, t, xs, rfl, .inr (SqT.of (b26.at_ (by repeat first | exact List.mem_cons_self | refine List.mem_cons_of_mem _ ?_))), fun l7 hl7 => ?_⟩
  have b27 := b26.lst (xs := xs) hl7 (b26.itemsT (p := t) (by repeat first | exact List.mem_cons_self | refine List.mem_cons_of_mem _ ?_) (by repeat first | exact List.mem_cons_self | refine List.mem_cons_of_mem _ ?_)) (by omega)
  refine ⟨_, rfl, lineN, fun m9 hm9 => ?_⟩
  have b28 := b27.lst (xs := [.ref row, .ref t1, .ref s3, .ref t4, .ref t6, .ref l7, .ref t]) hm9 (dc (b27.all _ (by repeat first | exact List.mem_cons_self | refine List.mem_cons_of_mem _ ?_)) (dc (b27.all _ (by repeat first | exact List.mem_cons_self | refine List.mem_cons_of_mem _ ?_)) (dc (b27.all _ (by repeat first | exact List.mem_cons_self | refine List.mem_cons_of_mem _ ?_)) (dc (b27.all _ (by repeat first | exact List.mem_cons_self | refine List.mem_cons_of_mem _ ?_)) (dc (b27.all _ (by repeat first | exact List.mem_cons_self | refine List.mem_cons_of_mem _ ?_)) (dc (b27.all _ (by repeat first | exact List.mem_cons_self | refine List.mem_cons_of_mem _ ?_)) (dc (b27.all _ (by repeat first | exact List.mem_cons_self | refine List.mem_cons_of_mem _ ?_)) dn)))))))
  refine ⟨a, m9, _, rfl, b28.d, b28.ne Ma hd (by repeat first | exact List.mem_cons_self | refine List.mem_cons_of_mem _ ?_), .inl (SqL.of (b28.at_ (by repeat first | exact List.mem_cons_self | refine List.mem_cons_of_mem _ ?_))), by simp, by simp, fun j3 v3 o4 hv3 ho4 => ?_⟩
  have b29 := b28.draw Ma hd ho4
  obtain ⟨ds9, h9⟩ := b28.itemsL (p := m9) (by repeat first | exact List.mem_cons_self | refine List.mem_cons_of_mem _ ?_) (by repeat first | exact List.mem_cons_self | refine List.mem_cons_of_mem _ ?_)
  obtain ⟨d9, hd9⟩ := IsA.each h9 v3 (List.mem_of_getElem? hv3)
  exact q v3 d9 _ _ b29.g b29.d hd9
end
end K01

set_option Elab.async false
set_option linter.all false
set_option maxRecDepth 100000
set_option maxHeartbeats 4000000
namespace K01
open PySem PySem.Spec PyProof.Rows L2 Sr
theorem pe_mk {X : Cx} {k k' : Nat} {C f : Addr} {ps : List Str} {sp : Sp} {x : Str} {e : Expr} {es : List Expr} {t : TA} {p pos : Pos} (M : Mk X.K C f) (Ca : CalM X.prog X.w X.K X.mg X.base CX0 k f ps sp) (hr : Room k' X.A) (hk : k + 1 ≤ k') (hg : Gl X x) (hm : X.mg x = some (.ref C))
    (ha : PA X (e :: es) t) (hdb : (x == ("__debug__" : Str)) = false := by decide) (he : starEach (e :: es) X.env = (false, eval e X.env) :: starEach es X.env := by rfl) (hpl : (backTo pos (starEach es X.env)).any (·.1) = false := by rfl) :
    PE X (.Call (.Name x p) (e :: es) [] pos) (tMake C sp [] E0 t) := by
  obtain ⟨fd, F, _, hb⟩ := Ca.ex
  exact pe_make M F (hr.mono hk) hg hm hb .nil pass0 ha hdb he hpl
theorem sql_mono {K : PySem.W.Frag} {H H' : Hp} {l : Addr} {xs : List V} (e : Same H H') (h : SqL K H l xs) : SqL K H' l xs := by
  rcases h with h | h
  · left
    rcases h with h | ⟨u, h⟩
    · exact .inl (e _ _ h)
    · exact .inr ⟨u, e _ _ h⟩
  · exact .inr h
/-- the heap without one place -/
def but (a : Addr) (H : Hp) : Hp := fun b => if b = a then none else H b
theorem but_self {a : Addr} {H : Hp} : but a H a = none := if_pos rfl
theorem but_ne {a b : Addr} {H : Hp} (n : b ≠ a) : but a H b = H b := if_neg n
theorem but_sub {a : Addr} {H : Hp} : Same (but a H) H := fun b o e => by
  by_cases c : b = a
  · rw [c, but_self] at e; cases e
  · rwa [but_ne c] at e
theorem but_up {a : Addr} {M H : Hp} (s : Same M H) (n : M a = none) : Same M (but a H) := fun b o e => by
  rw [but_ne fun z => by rw [z, n] at e; cases e]
  exact s _ _ e
theorem off_but {K : PySem.W.Frag} {H : Hp} {a x : Addr} {ks : List Str} (o : OffAt K H x ks) (d : DrawsAt H a) : OffAt K (but a H) x ks := by
  obtain ⟨dx, e, kvs, h1, h2, h3⟩ := o
  obtain ⟨_, h4, _, _, _, rfl⟩ := d
  exact ⟨dx, e, kvs, (but_ne (ne_of h1 h4 (by intro z; cases z))).trans h1, (but_ne (ne_of h2 h4 (by intro z; cases z))).trans h2, h3⟩
theorem Bld.obj {a : Addr} {M0 H0 M H : Hp} {L : List V} {C : List (Addr × HO)} (b : Bld a M0 H0 M H L C) {p : Addr} {o : HO} (hp : H p = none) : Bld a M0 H0 (upd M p o) (upd H p o) L ((p, o) :: C) := by
  have k := Grow.lay (S := [a]) (o := o) b.g.sub hp
  refine ⟨b.g.trans k, b.d.up (Same.up hp), fun v m => ?_, fun c m => ?_⟩
  · obtain ⟨d, hd⟩ := b.all v m
    exact ⟨d, hd.mono k.up⟩
  · rcases List.mem_cons.mp m with rfl | m
    · exact upd_same
    · exact k.up _ _ (b.con c m)
theorem Bld.own {a : Addr} {M0 H0 M H : Hp} {L : List V} {C : List (Addr × HO)} (b : Bld a M0 H0 M H L C) {p : Addr} {o : HO} (h0 : H0 p = none) (mp : M p = none) (n : p ≠ a) : Bld a M0 H0 M (upd H p o) L C := ⟨b.g.own h0 mp, b.d.ne n, b.all, b.con⟩
theorem Bld.drop {a : Addr} {M0 H0 M H : Hp} {L : List V} {C : List (Addr × HO)} (b : Bld a M0 H0 M H L C) {C' : List (Addr × HO)} (h : ∀ c ∈ C', c ∈ C) : Bld a M0 H0 M H [] C' := ⟨b.g, b.d, (fun _ m => by cases m), fun c m => b.con c (h c m)⟩
theorem Bld.base {a : Addr} {M0 H0 M H : Hp} {L : List V} {C : List (Addr × HO)} (b : Bld a M0 H0 M H L C) : Bld a M H M H L C := ⟨Grow.refl b.g.sub, b.d, b.all, b.con⟩
theorem Bld.ev {a : Addr} {M0 H0 M H : Hp} {L : List V} {C : List (Addr × HO)} (b : Bld a M0 H0 M H L C) {p : Addr} {xs : List V} (hc : (p, HO.tup xs) ∈ C) (hl : V.ref p ∈ L) (l1 : 1 ≤ xs.length := by exact Nat.le_of_ble_eq_true rfl) (l5 : xs.length ≤ 5 := by exact Nat.le_of_ble_eq_true rfl) : ∃ T, V.ref p = .ref T ∧ EvT M T := by
  obtain ⟨ds, h⟩ := b.itemsT hc hl
  exact ⟨p, rfl, xs, ds, b.con _ hc, h, l1, l5⟩
def Evs (M : Hp) (xs : List V) : Prop := ∀ v ∈ xs, ∃ T, v = .ref T ∧ EvT M T
theorem Evs.mono {M M' : Hp} (e : Same M M') {xs : List V} (h : Evs M xs) : Evs M' xs := fun v m => by
  obtain ⟨T, h1, h2⟩ := h v m
  exact ⟨T, h1, h2.mono e⟩
theorem Evs.app {M : Hp} {xs ys : List V} (h : Evs M xs) (h' : Evs M ys) : Evs M (xs ++ ys) := fun v m => by
  rcases List.mem_append.mp m with m | m
  · exact h v m
  · exact h' v m
theorem Evs.cons {M : Hp} {v : V} {ys : List V} (h : ∃ T, v = .ref T ∧ EvT M T) (h' : Evs M ys) : Evs M (v :: ys) := fun u m => by
  rcases List.mem_cons.mp m with rfl | m
  · exact h
  · exact h' u m
theorem Evs.nil {M : Hp} : Evs M [] := fun _ m => by cases m
def Dta (M : Hp) (xs : List V) : Prop := ∀ v ∈ xs, ∃ d, Is M v d
theorem Dta.mono {M M' : Hp} (e : Same M M') {xs : List V} (h : Dta M xs) : Dta M' xs := fun v m => by
  obtain ⟨d, h2⟩ := h v m
  exact ⟨d, h2.mono e⟩
theorem Dta.app {M : Hp} {xs ys : List V} (h : Dta M xs) (h' : Dta M ys) : Dta M (xs ++ ys) := fun v m => by
  rcases List.mem_append.mp m with m | m
  · exact h v m
  · exact h' v m
abbrev Ov := Option V
def LawInv (sc : Addr) (H : Hp) (_ : Nat) (σ : L2.St) (H' : Hp) : Prop := (∃ v1 v2 v3 v4 v5 v6 v7 v8 v9 v10 : Ov, σ = [some (.ref sc), v1, v2, v3, v4, v5, v6, v7, v8, v9, v10]) ∧ Same H H'
def ThInv (sc a r evl x : Addr) (tn kd : V) (M3 H3 : Hp) (EVS : List V) (i : Nat) (σ : L2.St) (H' : Hp) : Prop :=
  ∃ (th : Addr) (v6 v7 v10 : Ov) (M' : Hp) (X : List V), σ = [some (.ref sc), some tn, some (.ref a), some (.ref r), some (.ref evl), some (.ref th), v6, v7, some (.ref x), some kd, v10] ∧ Bld a M3 H3 M' H' [] [(th, .lst X), (evl, .lst EVS)] ∧ Evs M' EVS ∧ Dta M' X ∧ X.length ≤ 20 + 7 * i
def CoInv (a D T : Addr) (M3 H3 : Hp) (EVS X : List V) (C : List (Addr × HO)) (i : Nat) (H' : Hp) : Prop :=
  ∃ (M' : Hp) (acc : List V), Bld a M3 H3 M' H' [] C ∧ EvT M' T ∧ H' D = some (.lst acc) ∧ M' D = none ∧ Dta M' acc ∧ acc.length = i ∧ Evs M' EVS ∧ Dta M' X
theorem _root_.Sr.Grow.free {S : List Addr} {M H M' H' : Hp} (g : Grow S M H M' H') {D : Addr} (h : H' D = none) : H D = none := by
  cases q : H D with
  | none => rfl
  | some o => exact absurd h (g.there D (by rw [q]; simp))
theorem Dta.one {M : Hp} {v : V} {d : Dt} (h : Is M v d) : Dta M [v] := fun u m => by
  rw [List.mem_singleton.mp m]
  exact ⟨d, h⟩
def EnInv (sc a r evl th x : Addr) (tn kd : V) (Hb : Hp) (_ : Nat) (σ : L2.St) (H' : Hp) : Prop :=
  ∃ (v6 v7 v10 : Ov), σ = [some (.ref sc), some tn, some (.ref a), some (.ref r), some (.ref evl), some (.ref th), v6, v7, some (.ref x), some kd, v10] ∧ Same Hb H'
theorem okN {P : Program} {w : World} {K : PySem.W.Frag} {mg : Str → Option Value} {base : Heap} {x : Str} {st : Stmt} {N ps : List Str} {k : Nat} {sp : Sp} {fd : FuncData} (F : FunD K x x (defArgs st) (defBody st) (defScope st) [] [] (He.ga K x) fd) (S : FnScope N ps (defScope st))
    (len : ∀ vs H Q E, sp vs H Q E → vs.length = ps.length)
    (body : ∀ (cdv : Value) (A : Around) (outer : List Env) (s : Shared) (H : Hp) (vs : List V) (Q : VK) (E : XK), Room k (A.deeper (envOfC x (defScope st) s.heap.objs.size (He.ga K x) cdv)) → sp vs H Q E →
      ∃ t, PSs (cxOf CX0 P w K mg base N x (defScope st) (He.ga K x) cdv A outer s H E).nox (defBody st) t ∧ t { nx := fun _ H' => Q .non H', rt := Q } (start N vs) H) :
    FnOk P w K mg base CX0 (k + 1) (He.ga K x) fd ps sp := by
  refine F.ok S len fun cdv A outer s H vs Q E hr h => ?_
  obtain ⟨t, h1, h2⟩ := body cdv A outer s H vs Q E hr h
  exact ⟨t, PSs.nox h1, h2⟩
def spLaw (K : PySem.W.Frag) : Sp := fun vs H Q _ => ∃ (s : Addr) (ns : List Int), vs = [.ref s] ∧ SqL K H s (ns.map V.int) ∧ ∀ H', Same H H' → Q (.bl true) H'
section
variable {P : Program} {w : World} {K : PySem.W.Frag} {mg : Str → Option Value} {base : Heap}
abbrev s_law : Stmt := top 41
theorem sc_law : FnScope ["script", "turn", "draws", "ranks", "events", "things", "event", "thing", "office", "kind", "k"] ["script"] (defScope s_law) := ⟨rfl, rfl, rfl, by decide +kernel, rfl, by decide +kernel, by decide +kernel⟩
theorem c_law (T : Txt K mg) (O : Off K mg) (Mo : Mk K (He.ga K "Office") (He.fAd K ("Office", some "__init__"))) (hO : mg "Office" = some (.ref (He.ga K "Office"))) (Mi : CalM P w K mg base CX0 3 (He.fAd K ("Office", some "__init__")) ["self", "ranks"] (spInit K)) {fd : FuncData} (D : FunD K "law" "law" (defArgs s_law) (defBody s_law) (defScope s_law) [] [] (He.ga K "law") fd)
    (C_law_source : Cal P w K mg base 1 "_law_source" ["script", "place"] (spSource K)) (C_law_some_ranks : Cal P w K mg base 3 "_law_some_ranks" ["draws", "most"] spSomeRanks) (C_law_pick : Cal P w K mg base 2 "_law_pick" ["draws", "xs"] (spPick K))
    (C_law_some_events : Cal P w K mg base 6 "_law_some_events" ["draws", "ranks", "many", "rounds"] spEvents) (C_law_bent : Cal P w K mg base 3 "_law_bent" ["draws", "ranks", "event"] spBent) (C_law_same : Cal P w K mg base 1 "_law_same" ["found", "due"] spSame)
    (C_is_event : Cal P w K mg base 4 "is_event" ["office", "thing"] (spO K evOk)) (C_law_is_due : Cal P w K mg base 3 "_law_is_due" ["ranks", "thing"] (spK evOk)) :
    FnOk P w K mg base CX0 7 (He.ga K "law") fd ["script"] (spLaw K) := by
  refine okN D sc_law (fun vs H Q E h => ?_) fun cdv A outer s H vs Q E hr h => ?_
  · obtain ⟨sc, ns, rfl, _⟩ := h
    rfl
  obtain ⟨sc, ns, rfl, hS, q⟩ := h
  refine ⟨_, (pss_cons (ps_for PassesOwn.never rfl (pi_range1 (by rfl) T.range (pa_cons (pe_op op_add pe_int (pe_callB (id := "min") (call_min2 rfl) (by rfl) T.min (by decide +kernel) (pa_cons (pe_callB (id := "len") call_len_seq (by rfl) T.len (by decide +kernel) (pa_cons (pv 0) pa_nil)) (pa_cons pe_int pa_nil)))) pa_nil)) (pg_name (i := 1) sc_law.nd rfl (by first | exact Or.inl rfl | exact Or.inr rfl))
      (pss_cons (ps_set (i := 2) sc_law.nd rfl (by first | exact Or.inl rfl | exact Or.inr rfl) (pe_cal C_law_source hr (by decide) (by rfl) (pa_cons (pv 0) (pa_cons (pv 1) pa_nil))))
      (pss_cons (ps_set (i := 3) sc_law.nd rfl (by first | exact Or.inl rfl | exact Or.inr rfl) (pe_cal C_law_some_ranks hr (by decide) (by rfl) (pa_cons (pv 2) (pa_cons pe_int pa_nil))))
      (pss_cons (ps_par (i := 8) (j := 9) (by rfl) sc_law.nd rfl rfl (by decide) rfl rfl (pa_cons (pe_mk Mo Mi hr (by decide) (by rfl) hO (pa_cons (pv 3) pa_nil)) (pa_cons (pe_cal C_law_pick hr (by decide) (by rfl) (pa_cons (pv 2) (pa_cons (pe_callB (id := "sorted") (call_sortedD rfl) (by rfl) T.sorted (by decide +kernel) (pa_cons (pv 3) pa_nil)) pa_nil))) pa_nil)) (by rfl))
      (pss_cons (ps_set (i := 4) sc_law.nd rfl (by first | exact Or.inl rfl | exact Or.inr rfl) (pe_listValues (by rfl) T.list (pe_cal C_law_some_events hr (by decide) (by rfl) (pa_cons (pv 2) (pa_cons (pv 3) (pa_cons pe_int (pa_cons pe_bl pa_nil)))))))
      (pss_cons (ps_set (i := 4) sc_law.nd rfl (by first | exact Or.inl rfl | exact Or.inr rfl) (pe_op op_cat (pv 4) (pe_lst (pa_cons (pe_tup (pa_cons pe_str pa_nil)) (pa_cons (pe_tup (pa_cons pe_str pa_nil)) (pa_cons (pe_tup (pa_cons pe_str (pa_cons pe_str pa_nil))) (pa_cons (pe_tup (pa_cons pe_str (pa_cons pe_str (pa_cons (pe_tup pa_nil) pa_nil)))) (pa_cons (pe_tup (pa_cons pe_str (pa_cons (pv 9) pa_nil))) pa_nil))))))))
      (pss_cons (ps_set (i := 5) sc_law.nd rfl (by first | exact Or.inl rfl | exact Or.inr rfl) (pe_lst (pa_cons pe_non (pa_cons pe_int (pa_cons pe_str (pa_cons (pe_tup pa_nil) (pa_cons (pe_lst pa_nil) (pa_cons pe_dnewK (pa_cons (pe_tup (pa_cons (pv 9) pa_nil)) (pa_cons (pe_tup (pa_cons pe_str pa_nil)) (pa_cons (pe_tup (pa_cons pe_str (pa_cons pe_non pa_nil))) (pa_cons (pe_tup (pa_cons pe_str (pa_cons pe_str (pa_cons (pe_tup pa_nil) (pa_cons pe_int pa_nil))))) pa_nil))))))))))))
      (pss_cons (ps_set (i := 5) sc_law.nd rfl (by first | exact Or.inl rfl | exact Or.inr rfl) (pe_op op_cat (pv 5) (pe_lst (pa_cons (pe_tup (pa_cons pe_str (pa_cons pe_str pa_nil))) (pa_cons (pe_tup (pa_cons pe_str (pa_cons pe_str pa_nil))) (pa_cons (pe_tup (pa_cons pe_str (pa_cons pe_str pa_nil))) pa_nil))))))
      (pss_cons (ps_set (i := 5) sc_law.nd rfl (by first | exact Or.inl rfl | exact Or.inr rfl) (pe_op op_cat (pv 5) (pe_lst (pa_cons (pe_tup (pa_cons pe_str (pa_cons pe_str pa_nil))) (pa_cons (pe_tup (pa_cons pe_str (pa_cons pe_str pa_nil))) (pa_cons (pe_tup (pa_cons pe_str (pa_cons pe_str pa_nil))) (pa_cons (pe_tup (pa_cons pe_str (pa_cons pe_str pa_nil))) pa_nil)))))))
      (pss_cons (ps_set (i := 5) sc_law.nd rfl (by first | exact Or.inl rfl | exact Or.inr rfl) (pe_op op_cat (pv 5) (pe_lst (pa_cons (pe_tup (pa_cons pe_str (pa_cons pe_str (pa_cons (pe_lst pa_nil) (pa_cons (pe_op op_pow pe_int pe_int) (pa_cons pe_non pa_nil)))))) (pa_cons (pe_tup (pa_cons pe_str (pa_cons pe_str (pa_cons (pe_lst (pa_cons (pv 9) pa_nil)) (pa_cons pe_int (pa_cons (pv 9) pa_nil)))))) (pa_cons (pe_tup (pa_cons pe_str (pa_cons pe_str pa_nil))) pa_nil))))))
      (pss_cons (ps_for PassesOwn.never rfl (pi_list (pv 4)) (pg_name (i := 6) sc_law.nd rfl (by first | exact Or.inl rfl | exact Or.inr rfl))
      (pss_one (ps_set (i := 5) sc_law.nd rfl (by first | exact Or.inl rfl | exact Or.inr rfl) (pe_op op_cat (pe_op op_cat (pv 5) (pe_lst (pa_cons (pv 6) (pa_cons (pe_callTy (T := "list") call_list_of (by rfl) T.list (by decide +kernel) (pa_cons (pv 6) pa_nil)) pa_nil)))) (pe_lc (own := [("k", 10)]) (g := gName 10) (tt := tYes) rfl sc_law.nd (pi_range1 (by rfl) T.range (pa_cons pe_int pa_nil)) (blkOk_by (N := ["script", "turn", "draws", "ranks", "events", "things", "event", "thing", "office", "kind", "k"]) (sc := defScope s_law) (by decide +kernel)) (fun _ _ _ _ _ => (pg_name (i := 10) sc_law.nd rfl (by first | exact Or.inl rfl | exact Or.inr rfl))) (fun _ _ _ _ _ => pts_nil) (fun _ _ _ _ _ => (pe_cal C_law_bent hr (by decide) (by rfl) (pa_cons (pv 2) (pa_cons (pv 3) (pa_cons (pv 6) pa_nil))))))))))
      (pss_one (ps_for PassesOwn.never rfl (pi_list (pv 5)) (pg_name (i := 7) sc_law.nd rfl (by first | exact Or.inl rfl | exact Or.inr rfl))
      (pss_one (ps_if (pt_not (pt_val (pe_cal C_law_same hr (by decide) (by rfl) (pa_cons (pe_cal C_is_event hr (by decide) (by rfl) (pa_cons (pv 8) (pa_cons (pv 7) pa_nil))) (pa_cons (pe_cal C_law_is_due hr (by decide) (by rfl) (pa_cons (pv 3) (pa_cons (pv 7) pa_nil))) pa_nil))))) (pss_one (ps_ret pe_bl)) pss_nil)))))))))))))))
      (pss_one (ps_ret pe_bl))), ?_⟩
  refine ⟨_, rfl, sc, _, rfl, .inl hS, _, _, rfl, _, _, rfl, rfl, _, rfl, ?_, ?_, ?_⟩
  rotate_left 2
  · refine for_range (LawInv sc H) ⟨⟨_, _, _, _, _, _, _, _, _, _, rfl⟩, Same.refl _⟩ ?_ ?_
    · rintro i σ H1 hi ⟨⟨v1, v2, v3, v4, v5, v6, v7, v8, v9, v10, rfl⟩, s1⟩
      refine ⟨_, rfl, _, rfl, sc, _, ns, rfl, sql_mono s1 hS, by omega, fun a o ha ho => ?_⟩
      refine ⟨_, rfl, a, H1, rfl, ⟨o, upd_same, ho⟩, Same.up ha, ha, fun r M2 H2 ss g2 d2 rk => ?_⟩
      have M2a := g2.out ha (by rw [upd_same]; simp)
      refine ⟨_, rfl, fun x dx hx hdx nxd => ?_⟩
      have hx' : (upd H2 dx (.own x)) x = none := (upd_ne nxd.symm).trans hx
      have u1 : Same H2 _ := (Same.up (o := .own x) hdx).trans (Same.up (o := .ins (He.ga K "Office") dx []) hx')
      refine ⟨x, r, _, dx, ss, rfl, Same.up hx', hx', upd_same, rk.mono (g2.sub.trans u1), fun H3 s3 off => ⟨rfl, ?_⟩⟩
      have u2 : Same H2 H3 := (Same.up (o := .own x) hdx).trans s3
      have d3 := d2.up u2
      have S23 : Same M2 (but a H3) := but_up (g2.sub.trans u2) M2a
      have rk3 := rk.mono S23
      have off3 := off_but off d3
      have M3a : but a H3 a = none := but_self
      have b0 : Bld a (but a H3) H3 (but a H3) H3 [] [] := ⟨Grow.refl but_sub, d3, (fun _ m => by cases m), (fun _ m => by cases m)⟩
      have S13 : Same H1 (but a H3) := g2.up.trans S23
      generalize but a H3 = M3 at S23 rk3 off3 M3a b0 S13
      have rk3' := rk3
      obtain ⟨⟨kvs, hk, he⟩, nd, hz, sub, ne0⟩ := rk3
      have ls : 1 ≤ ss.length := by
        cases ss with
        | nil => exact absurd rfl ne0
        | cons _ _ => simp
      refine ⟨_, rfl, _, rfl, r, kvs, ss, rfl, .inl (b0.g.sub _ _ hk), he.keys, by omega, fun ys p perm srt hp => ⟨a, p, _, rfl, d3.up (Same.up hp), fresh_ne d3 hp, .inl (SqL.of upd_same), (by rw [List.length_map, perm.length_eq]; exact ls), (by rw [List.length_map, perm.length_eq]; omega), fun j v o2 hv ho2 => ⟨_, _, rfl, ?_⟩⟩⟩
      have b1 := (b0.same (Same.up (o := .lst (ys.map V.str)) hp)).draw M3a d3 ho2
      obtain ⟨y, hy, rfl⟩ := List.mem_map.mp (List.mem_of_getElem? hv)
      have y1 := (names4_ok y (sub y (perm.mem_iff.mp hy))).2
      have dk : ∀ M' : Hp, ∃ d, Is M' (.str y) d := fun _ => ⟨_, .str y y1⟩
      refine ⟨_, rfl, _, rfl, a, r, M3, ss, rfl, b1.d, b1.g.sub, M3a, rk3', fun f M4 H4 kv4 g4 d4 hf4 ev4 len4 => ⟨f, kv4, rfl, hf4, fun l hl => ?_⟩⟩
      have b2 := b1.got g4 d4
      have EV : Evs M4 (kv4.map (·.2)) := fun v m => by
        obtain ⟨z, mz, rfl⟩ := List.mem_map.mp m
        exact ev4 z mz
      have lenE : (kv4.map (·.2)).length ≤ 8 := by rw [List.length_map]; exact len4
      generalize hEE : kv4.map (·.2) = EE at EV lenE
      have b3 := b2.obj (p := l) (o := .lst EE) hl
      have EV3 := EV.mono (Same.up (o := .lst EE) (b2.g.sub.free hl))
      refine ⟨_, rfl, lineN, fun e1 he1 => ?_⟩
      have b4 := b3.tup (xs := [.str "gather"]) he1 (dc dt dn)
      refine ⟨lineN, fun e2 he2 => ?_⟩
      have b5 := b4.tup (xs := [.str "round"]) he2 (dc dt dn)
      refine ⟨lineN, fun e3 he3 => ?_⟩
      have b6 := b5.tup (xs := [.str "leave", .str "zz"]) he3 (dc dt (dc dt dn))
      refine ⟨lineN, fun e0 he0 => ?_⟩
      have b7 := b6.tup (xs := []) he0 dn
      refine ⟨lineN, fun e4 he4 => ?_⟩
      have b8 := b7.tup (xs := [.str "change", .str "bob", .ref e0]) he4 (dc dt (dc dt (dc (b7.all _ (by repeat first | exact List.mem_cons_self | refine List.mem_cons_of_mem _ ?_)) dn)))
      refine ⟨_, rfl, lineN, fun e5 he5 => ?_⟩
      have b9 := b8.tup (xs := [.str "withdraw", .str y]) he5 (dc dt (dc (dk _) dn))
      refine ⟨lineN, fun m1 hm1 => ?_⟩
      have b10 := b9.lst (xs := [.ref e1, .ref e2, .ref e3, .ref e4, .ref e5]) hm1 (dc (b9.all _ (by repeat first | exact List.mem_cons_self | refine List.mem_cons_of_mem _ ?_)) (dc (b9.all _ (by repeat first | exact List.mem_cons_self | refine List.mem_cons_of_mem _ ?_)) (dc (b9.all _ (by repeat first | exact List.mem_cons_self | refine List.mem_cons_of_mem _ ?_)) (dc (b9.all _ (by repeat first | exact List.mem_cons_self | refine List.mem_cons_of_mem _ ?_)) (dc (b9.all _ (by repeat first | exact List.mem_cons_self | refine List.mem_cons_of_mem _ ?_)) dn)))))
      refine ⟨l, m1, _, _, rfl, rfl, b10.at_ (by repeat first | exact List.mem_cons_self | refine List.mem_cons_of_mem _ ?_), b10.at_ (by repeat first | exact List.mem_cons_self | refine List.mem_cons_of_mem _ ?_), lineN (by show EE.length + 5 ≤ 1000; omega), fun evl hevl => ?_⟩
      have EV10 : Evs _ EE := EV.mono (((((((Same.up (o := .lst EE) (b2.g.sub.free hl)).trans (Same.up (o := .tup [.str "gather"]) (b3.g.sub.free he1))).trans (Same.up (o := .tup [.str "round"]) (b4.g.sub.free he2))).trans (Same.up (o := .tup [.str "leave", .str "zz"]) (b5.g.sub.free he3))).trans (Same.up (o := .tup []) (b6.g.sub.free he0))).trans (Same.up (o := .tup [.str "change", .str "bob", .ref e0]) (b7.g.sub.free he4))).trans ((Same.up (o := .tup [.str "withdraw", .str y]) (b8.g.sub.free he5)).trans (Same.up (o := .lst [.ref e1, .ref e2, .ref e3, .ref e4, .ref e5]) (b9.g.sub.free hm1))))
      have EVn := EV10.app (Evs.cons (b10.ev (p := e1) (by repeat first | exact List.mem_cons_self | refine List.mem_cons_of_mem _ ?_) (by repeat first | exact List.mem_cons_self | refine List.mem_cons_of_mem _ ?_)) (Evs.cons (b10.ev (p := e2) (by repeat first | exact List.mem_cons_self | refine List.mem_cons_of_mem _ ?_) (by repeat first | exact List.mem_cons_self | refine List.mem_cons_of_mem _ ?_)) (Evs.cons (b10.ev (p := e3) (by repeat first | exact List.mem_cons_self | refine List.mem_cons_of_mem _ ?_) (by repeat first | exact List.mem_cons_self | refine List.mem_cons_of_mem _ ?_)) (Evs.cons (b10.ev (p := e4) (by repeat first | exact List.mem_cons_self | refine List.mem_cons_of_mem _ ?_) (by repeat first | exact List.mem_cons_self | refine List.mem_cons_of_mem _ ?_)) (Evs.cons (b10.ev (p := e5) (by repeat first | exact List.mem_cons_self | refine List.mem_cons_of_mem _ ?_) (by repeat first | exact List.mem_cons_self | refine List.mem_cons_of_mem _ ?_)) Evs.nil)))))
      have b11 := b10.obj (p := evl) (o := .lst (EE ++ [.ref e1, .ref e2, .ref e3, .ref e4, .ref e5])) hevl
      have EV11 := EVn.mono (Same.up (o := .lst (EE ++ [.ref e1, .ref e2, .ref e3, .ref e4, .ref e5])) (b10.g.sub.free hevl))
      have lenS : (EE ++ [.ref e1, .ref e2, .ref e3, .ref e4, .ref e5] : List V).length ≤ 13 := by rw [List.length_append]; show EE.length + 5 ≤ 13; omega
      have b12 := (b11.drop (C' := [(evl, .lst (EE ++ [.ref e1, .ref e2, .ref e3, .ref e4, .ref e5]))]) (fun c m => by rw [List.mem_singleton.mp m]; exact List.mem_cons_self))
      have M12a := b12.g.out M3a d3.some
      have rk12 := rk3'.mono b12.g.up
      have off12 := off3.mono b12.g.up
      have S12 := S13.trans b12.g.up
      have c0 := b12.base
      have d12 := b12.d
      refine ⟨lineN, fun t1 ht1 => ?_⟩
      have c1 := c0.tup (xs := []) ht1 dn
      refine ⟨lineN, fun t2 ht2 => ?_⟩
      have c2 := c1.lst (xs := []) ht2 dn
      intro t3 ht3
      have c3 := c2.dic ht3
      refine ⟨_, rfl, lineN, fun t4 ht4 => ?_⟩
      have c4 := c3.tup (xs := [.str y]) ht4 (dc (dk _) dn)
      refine ⟨lineN, fun t5 ht5 => ?_⟩
      have c5 := c4.tup (xs := [.str "place"]) ht5 (dc dt dn)
      refine ⟨lineN, fun t6 ht6 => ?_⟩
      have c6 := c5.tup (xs := [.str "round", .non]) ht6 (dc dt (dc ⟨_, .non⟩ dn))
      refine ⟨lineN, fun t7 ht7 => ?_⟩
      have c7 := c6.tup (xs := []) ht7 dn
      refine ⟨lineN, fun t8 ht8 => ?_⟩
      have c8 := c7.tup (xs := [.str "come", .str "ann", .ref t7, .int 0]) ht8 (dc dt (dc dt (dc (c7.all _ (by repeat first | exact List.mem_cons_self | refine List.mem_cons_of_mem _ ?_)) (dc di dn))))
      refine ⟨lineN, fun n1 hn1 => ?_⟩
      have c9 := c8.lst (xs := [.non, .int 5, .str "gather", .ref t1, .ref t2, .ref t3, .ref t4, .ref t5, .ref t6, .ref t8]) hn1 (dc ⟨_, .non⟩ (dc di (dc dt (dc (c8.all _ (by repeat first | exact List.mem_cons_self | refine List.mem_cons_of_mem _ ?_)) (dc (c8.all _ (by repeat first | exact List.mem_cons_self | refine List.mem_cons_of_mem _ ?_)) (dc (c8.all _ (by repeat first | exact List.mem_cons_self | refine List.mem_cons_of_mem _ ?_)) (dc (c8.all _ (by repeat first | exact List.mem_cons_self | refine List.mem_cons_of_mem _ ?_)) (dc (c8.all _ (by repeat first | exact List.mem_cons_self | refine List.mem_cons_of_mem _ ?_)) (dc (c8.all _ (by repeat first | exact List.mem_cons_self | refine List.mem_cons_of_mem _ ?_)) (dc (c8.all _ (by repeat first | exact List.mem_cons_self | refine List.mem_cons_of_mem _ ?_)) dn))))))))))
      refine ⟨_, rfl, lineN, fun q1 hq1 => ?_⟩
      have c10 := c9.tup (xs := [.str "leave", .str "eightone"]) hq1 (dc dt (dc dt dn))
      refine ⟨lineN, fun q2 hq2 => ?_⟩
      have c11 := c10.tup (xs := [.str "leave", .str "a1234567"]) hq2 (dc dt (dc dt dn))
      refine ⟨lineN, fun q3 hq3 => ?_⟩
      have c12 := c11.tup (xs := [.str "leave", .str "a12345678"]) hq3 (dc dt (dc dt dn))
      refine ⟨lineN, fun n2 hn2 => ?_⟩
      have c13 := c12.lst (xs := [.ref q1, .ref q2, .ref q3]) hn2 (dc (c12.all _ (by repeat first | exact List.mem_cons_self | refine List.mem_cons_of_mem _ ?_)) (dc (c12.all _ (by repeat first | exact List.mem_cons_self | refine List.mem_cons_of_mem _ ?_)) (dc (c12.all _ (by repeat first | exact List.mem_cons_self | refine List.mem_cons_of_mem _ ?_)) dn)))
      refine ⟨n1, n2, _, _, rfl, rfl, c13.at_ (by repeat first | exact List.mem_cons_self | refine List.mem_cons_of_mem _ ?_), c13.at_ (by repeat first | exact List.mem_cons_self | refine List.mem_cons_of_mem _ ?_), lineN, fun n3 hn3 => ?_⟩
      have c14 := c13.lst (xs := [.non, .int 5, .str "gather", .ref t1, .ref t2, .ref t3, .ref t4, .ref t5, .ref t6, .ref t8] ++ [.ref q1, .ref q2, .ref q3]) hn3 (da (c13.itemsL (p := n1) (by repeat first | exact List.mem_cons_self | refine List.mem_cons_of_mem _ ?_) (by repeat first | exact List.mem_cons_self | refine List.mem_cons_of_mem _ ?_)) (c13.itemsL (p := n2) (by repeat first | exact List.mem_cons_self | refine List.mem_cons_of_mem _ ?_) (by repeat first | exact List.mem_cons_self | refine List.mem_cons_of_mem _ ?_)))
      refine ⟨_, rfl, lineN, fun q4 hq4 => ?_⟩
      have c15 := c14.tup (xs := [.str "leave", .str "hjkpqvwy"]) hq4 (dc dt (dc dt dn))
      refine ⟨lineN, fun q5 hq5 => ?_⟩
      have c16 := c15.tup (xs := [.str "leave", .str "34678025"]) hq5 (dc dt (dc dt dn))
      refine ⟨lineN, fun q6 hq6 => ?_⟩
      have c17 := c16.tup (xs := [.str "leave", .str "a-b"]) hq6 (dc dt (dc dt dn))
      refine ⟨lineN, fun q7 hq7 => ?_⟩
      have c18 := c17.tup (xs := [.str "leave", .str ""]) hq7 (dc dt (dc dt dn))
      refine ⟨lineN, fun n4 hn4 => ?_⟩
      have c19 := c18.lst (xs := [.ref q4, .ref q5, .ref q6, .ref q7]) hn4 (dc (c18.all _ (by repeat first | exact List.mem_cons_self | refine List.mem_cons_of_mem _ ?_)) (dc (c18.all _ (by repeat first | exact List.mem_cons_self | refine List.mem_cons_of_mem _ ?_)) (dc (c18.all _ (by repeat first | exact List.mem_cons_self | refine List.mem_cons_of_mem _ ?_)) (dc (c18.all _ (by repeat first | exact List.mem_cons_self | refine List.mem_cons_of_mem _ ?_)) dn))))
      refine ⟨n3, n4, _, _, rfl, rfl, c19.at_ (by repeat first | exact List.mem_cons_self | refine List.mem_cons_of_mem _ ?_), c19.at_ (by repeat first | exact List.mem_cons_self | refine List.mem_cons_of_mem _ ?_), lineN, fun n5 hn5 => ?_⟩
      have c20 := c19.lst (xs := [.non, .int 5, .str "gather", .ref t1, .ref t2, .ref t3, .ref t4, .ref t5, .ref t6, .ref t8] ++ [.ref q1, .ref q2, .ref q3] ++ [.ref q4, .ref q5, .ref q6, .ref q7]) hn5 (da (c19.itemsL (p := n3) (by repeat first | exact List.mem_cons_self | refine List.mem_cons_of_mem _ ?_) (by repeat first | exact List.mem_cons_self | refine List.mem_cons_of_mem _ ?_)) (c19.itemsL (p := n4) (by repeat first | exact List.mem_cons_self | refine List.mem_cons_of_mem _ ?_) (by repeat first | exact List.mem_cons_self | refine List.mem_cons_of_mem _ ?_)))
      refine ⟨_, rfl, lineN, fun r0 hr0 => ?_⟩
      have c21 := c20.lst (xs := []) hr0 dn
      refine ⟨_, _, rfl, rfl, ⟨by decide, by decide, by decide⟩, lineN, fun r1 hr1 => ?_⟩
      have c22 := c21.tup (xs := [.str "come", .str "red", .ref r0, .int (10 ^ (6 : Int).toNat), .non]) hr1 (dc dt (dc dt (dc (c21.all _ (by repeat first | exact List.mem_cons_self | refine List.mem_cons_of_mem _ ?_)) (dc di (dc ⟨_, .non⟩ dn)))))
      refine ⟨_, rfl, lineN, fun r2 hr2 => ?_⟩
      have c23 := c22.lst (xs := [.str y]) hr2 (dc (dk _) dn)
      refine ⟨_, rfl, lineN, fun r3 hr3 => ?_⟩
      have c24 := c23.tup (xs := [.str "come", .str "place", .ref r2, .int 0, .str y]) hr3 (dc dt (dc dt (dc (c23.all _ (by repeat first | exact List.mem_cons_self | refine List.mem_cons_of_mem _ ?_)) (dc di (dc (dk _) dn)))))
      refine ⟨lineN, fun r4 hr4 => ?_⟩
      have c25 := c24.tup (xs := [.str "leave", .str "home"]) hr4 (dc dt (dc dt dn))
      refine ⟨lineN, fun n6 hn6 => ?_⟩
      have c26 := c25.lst (xs := [.ref r1, .ref r3, .ref r4]) hn6 (dc (c25.all _ (by repeat first | exact List.mem_cons_self | refine List.mem_cons_of_mem _ ?_)) (dc (c25.all _ (by repeat first | exact List.mem_cons_self | refine List.mem_cons_of_mem _ ?_)) (dc (c25.all _ (by repeat first | exact List.mem_cons_self | refine List.mem_cons_of_mem _ ?_)) dn)))
      refine ⟨n5, n6, _, _, rfl, rfl, c26.at_ (by repeat first | exact List.mem_cons_self | refine List.mem_cons_of_mem _ ?_), c26.at_ (by repeat first | exact List.mem_cons_self | refine List.mem_cons_of_mem _ ?_), lineN, fun n7 hn7 => ?_⟩
      have c27 := c26.lst (xs := [.non, .int 5, .str "gather", .ref t1, .ref t2, .ref t3, .ref t4, .ref t5, .ref t6, .ref t8] ++ [.ref q1, .ref q2, .ref q3] ++ [.ref q4, .ref q5, .ref q6, .ref q7] ++ [.ref r1, .ref r3, .ref r4]) hn7 (da (c26.itemsL (p := n5) (by repeat first | exact List.mem_cons_self | refine List.mem_cons_of_mem _ ?_) (by repeat first | exact List.mem_cons_self | refine List.mem_cons_of_mem _ ?_)) (c26.itemsL (p := n6) (by repeat first | exact List.mem_cons_self | refine List.mem_cons_of_mem _ ?_) (by repeat first | exact List.mem_cons_self | refine List.mem_cons_of_mem _ ?_)))
      obtain ⟨ds27, h27⟩ := c27.itemsL (p := n7) (by repeat first | exact List.mem_cons_self | refine List.mem_cons_of_mem _ ?_) (by repeat first | exact List.mem_cons_self | refine List.mem_cons_of_mem _ ?_)
      have X27 : Dta _ _ := IsA.each h27
      have EV27 := EV11.mono c27.g.up
      refine ⟨_, rfl, evl, rfl, ⟨_, SqL.of (c27.at_ (by repeat first | exact List.mem_cons_self | refine List.mem_cons_of_mem _ ?_))⟩, for_it (walk_list (xs := EE ++ [.ref e1, .ref e2, .ref e3, .ref e4, .ref e5])) (ThInv sc a r evl x (.int (0 + i)) (.str y) _ _ (EE ++ [.ref e1, .ref e2, .ref e3, .ref e4, .ref e5]))
        ⟨n7, _, _, _, _, _, rfl, c27.drop (fun c m => by
          simp only [List.mem_cons, List.not_mem_nil, or_false] at m
          rcases m with rfl | rfl <;> (repeat first | exact List.mem_cons_self | refine List.mem_cons_of_mem _ ?_)), EV27, X27, Nat.le_of_ble_eq_true rfl⟩ (fun k σ H' _ p => ?_) ?_ ?_⟩
      · obtain ⟨th, w6, w7, w10, M', X, rfl, b, _⟩ := p
        exact SqL.of (b.at_ (by repeat first | exact List.mem_cons_self | refine List.mem_cons_of_mem _ ?_))
      · rintro k u σ H5 H6 hk5 ⟨th, w6, w7, w10, M', X, rfl, b, ev, dx5, len⟩ ⟨rfl, hu⟩
        obtain ⟨T, rfl, evT⟩ := ev u (List.mem_of_getElem? hu)
        have evT' := evT
        obtain ⟨xsT, dsT, hT, hTA, hT1, hT5⟩ := evT'
        refine ⟨_, rfl, _, rfl, _, rfl, T, xsT, rfl, .inr (SqT.of (b.g.sub _ _ hT)), fun l2 hl2 => ⟨lineN, fun l3 hl3 => ?_⟩⟩
        have k1 := b.lst (xs := xsT) hl2 ⟨_, hTA⟩ (by omega)
        have k2 := k1.obj (p := l3) (o := .lst [.ref T, .ref l2]) hl3
        refine ⟨th, l3, X, _, rfl, rfl, k2.at_ (by repeat first | exact List.mem_cons_self | refine List.mem_cons_of_mem _ ?_), k2.at_ (by repeat first | exact List.mem_cons_self | refine List.mem_cons_of_mem _ ?_), lineN (by show X.length + 2 ≤ 1000; omega), fun l4 hl4 => ?_⟩
        have k3 := k2.obj (p := l4) (o := .lst (X ++ [.ref T, .ref l2])) hl4
        have up3 : Same M' _ := ((Same.up (o := .lst xsT) (b.g.sub.free hl2)).trans (Same.up (o := .lst [.ref T, .ref l2]) (k1.g.sub.free hl3))).trans (Same.up (o := .lst (X ++ [.ref T, .ref l2])) (k2.g.sub.free hl4))
        have dta3 : Dta _ (X ++ [.ref T, .ref l2]) := (dx5.mono up3).app fun v m => by
          simp only [List.mem_cons, List.not_mem_nil, or_false] at m
          rcases m with rfl | rfl
          · exact (evT.mono up3).is
          · exact k3.all _ (by repeat first | exact List.mem_cons_self | refine List.mem_cons_of_mem _ ?_)
        have len3 : (X ++ [.ref T, .ref l2] : List V).length ≤ 22 + 7 * k := by rw [List.length_append]; show X.length + 2 ≤ _; omega
        refine ⟨5, rfl, by decide, by decide, fun D hD => ?_⟩
        have nDa := fresh_ne k3.d hD
        have hD0 := k3.g.free hD
        refine lc_it walk_range (CoInv a D T _ _ _ (X ++ [.ref T, .ref l2]) [(l4, .lst (X ++ [.ref T, .ref l2])), (evl, .lst (EE ++ [.ref e1, .ref e2, .ref e3, .ref e4, .ref e5]))])
          ⟨_, [], (k3.drop (fun c m => by
            simp only [List.mem_cons, List.not_mem_nil, or_false] at m
            rcases m with rfl | rfl <;> (repeat first | exact List.mem_cons_self | refine List.mem_cons_of_mem _ ?_))).same (Same.up hD), evT.mono up3, upd_same, k3.g.sub.free hD, (fun _ m => by cases m), rfl, ev.mono up3, dta3⟩ (fun _ _ _ _ => trivial) ?_ ?_
        · rintro n u5 H7 H8 hn ⟨M5, acc, b5, e5, hD5, mD5, da5, la5, ev5, dx6⟩ ⟨rfl, rfl⟩
          refine ⟨rfl, ?_⟩
          unfold tYes
          simp only [if_true]
          refine ⟨_, rfl, _, rfl, _, rfl, a, r, T, M5, ss, rfl, b5.d, b5.g.sub, b5.g.out M12a d12.some, rk12.mono b5.g.up, e5, fun v d M7 H9 g7 d7 isv => ⟨acc, g7.stp _ _ (by simp [nDa]) hD5, sz (m := 60) (by omega), ?_⟩⟩
          have mD7 := g7.out mD5 (by rw [hD5]; simp)
          exact ⟨M7, acc ++ [v], (b5.got g7 d7).own hD0 mD7 nDa, e5.mono g7.up, upd_same, mD7, (da5.mono g7.up).app (Dta.one isv), by rw [List.length_append, la5]; rfl, ev5.mono g7.up, dx6.mono g7.up⟩
        · rintro H8 ⟨M8, acc, b8, e8, hD8, mD8, da8, la8, ev8, dx8⟩
          refine ⟨l4, D, _, _, rfl, rfl, b8.at_ (by repeat first | exact List.mem_cons_self | refine List.mem_cons_of_mem _ ?_), hD8, lineN (by rw [la8]; omega), fun th2 hth2 => ?_⟩
          have k9 := b8.obj (p := th2) (o := .lst (X ++ [.ref T, .ref l2] ++ acc)) hth2
          have up9 := Same.up (o := .lst (X ++ [.ref T, .ref l2] ++ acc)) (b8.g.sub.free hth2)
          refine ⟨th2, _, _, _, _, _, rfl, k9.drop (fun c m => by
            simp only [List.mem_cons, List.not_mem_nil, or_false] at m
            rcases m with rfl | rfl <;> (repeat first | exact List.mem_cons_self | refine List.mem_cons_of_mem _ ?_)), ev8.mono up9, (dx8.app da8).mono up9, ?_⟩
          rw [List.length_append, la8]
          show _ + 5 ≤ _
          omega
      · rintro σ H5 ⟨th, w6, w7, w10, M', X, rfl, b, ev, dx5, len⟩
        refine ⟨_, rfl, th, rfl, ⟨_, SqL.of (b.at_ (by repeat first | exact List.mem_cons_self | refine List.mem_cons_of_mem _ ?_))⟩, for_it (walk_list (xs := X)) (EnInv sc a r evl th x (.int (0 + i)) (.str y) H5) ⟨_, _, _, rfl, Same.refl _⟩ (fun k σ H' _ p => ?_) ?_ ?_⟩
        · obtain ⟨w6, w7, w10, rfl, s5⟩ := p
          exact SqL.of (s5 _ _ (b.at_ (by repeat first | exact List.mem_cons_self | refine List.mem_cons_of_mem _ ?_)))
        · rintro k u σ H6 H7 hk6 ⟨w6, w7, w10, rfl, s5⟩ ⟨rfl, hu⟩
          obtain ⟨d, isd⟩ := dx5 u (List.mem_of_getElem? hu)
          have sM6 : Same M' H7 := b.g.sub.trans s5
          refine ⟨_, rfl, _, rfl, x, u, ss, d, rfl, (off12.mono b.g.up).mono sM6, isd.mono sM6, fun H8 s8 => ⟨_, rfl, _, rfl, r, u, ss, d, rfl, (rk12.mono b.g.up).mono (sM6.trans s8), isd.mono (sM6.trans s8), fun H9 s9 => ⟨evOk ss d, rfl, fun H10 s10 => ⟨_, rfl, iteF ⟨_, _, _, rfl, s5.trans (s8.trans (s9.trans s10))⟩⟩⟩⟩⟩
        · rintro σ H6 ⟨w6, w7, w10, rfl, s5⟩
          exact ⟨⟨_, _, _, _, _, _, _, _, _, _, rfl⟩, s1.trans (S12.trans (b.g.up.trans (b.g.sub.trans s5)))⟩
    · rintro σ H1 ⟨_, s1⟩
      exact q _ s1
  · split <;> omega
  · split <;> omega
end
end K01

set_option Elab.async false
set_option linter.all false
set_option maxRecDepth 100000
set_option maxHeartbeats 0
namespace K01
open PySem PySem.Spec PyProof.Rows L2 Sr
/-! ### the head -/
def dd (x : Str) (i : Nat) : He.DefD := ⟨(x, none), x, x, defArgs (top i), defBody (top i), defScope (top i), [], []⟩
def dm (m qual : Str) (st : Stmt) : He.DefD := ⟨("Office", some m), m, qual, defArgs st, defBody st, defScope st, [], []⟩
def fn : List He.DefD := [dd "is_integer" 4, dd "is_list" 5, dd "is_name" 6, dd "is_points" 7, dd "is_wishes" 10, dd "is_home" 11, dd "_is_come" 12, dd "_is_of_kind" 13, dd "_is_of_person" 14, dd "_is_change" 15, dd "_is_alone" 16, dd "is_event" 9, dd "is_rank" 25, dd "_law_source" 27, dd "_law_draw" 28, dd "_law_pick" 29, dd "_law_same" 30, dd "_law_some_ranks" 31, dd "_law_some_wishes" 32, dd "_law_some_come" 33, dd "_law_some_event" 34, dd "_law_some_events" 35, dd "_law_is_name" 36, dd "_law_are_wishes" 37, dd "_law_is_kind" 38, dd "_law_is_due" 39, dd "_law_bent" 40, dd "law" 41, dm "__contains__" "Office.__contains__" s_Office___contains__, dm "__init__" "Office.__init__" s_Office___init__]
def fa : List He.Fa := [.glo "is_integer", .glo "is_list", .glo "is_name", .glo "is_points", .glo "is_wishes", .glo "is_home", .glo "_is_come", .glo "_is_of_kind", .glo "_is_of_person", .glo "_is_change", .glo "_is_alone", .glo "is_event", .glo "is_rank", .glo "_law_source", .glo "_law_draw", .glo "_law_pick", .glo "_law_same", .glo "_law_some_ranks", .glo "_law_some_wishes", .glo "_law_some_come", .glo "_law_some_event", .glo "_law_some_events", .glo "_law_is_name", .glo "_law_are_wishes", .glo "_law_is_kind", .glo "_law_is_due", .glo "_law_bent", .glo "law", .free "len", .free "isinstance", .free "all", .free "set", .free "range", .free "sorted", .free "list", .free "tuple", .free "min", .free "int", .free "str", .free "bool", .free "dict", .str "SIGNS" signs, .int "LONGEST" 8, .int "GREATEST" 1000000, .glo "FORMS", .glo "WORDS", .glo "Office", .cls "Office", .noat "Office" "_ranks", .mkr "Office"]
def forms : List (Str × He.Dv) := [("come", .glo "_is_come"), ("place", .glo "_is_of_kind"), ("leave", .glo "_is_of_person"), ("withdraw", .glo "_is_of_kind"), ("change", .glo "_is_change"), ("gather", .glo "_is_alone"), ("round", .glo "_is_alone")]
def formKeys : List Str := ["come", "place", "leave", "withdraw", "change", "gather", "round"]
def ts : List He.Tab := [(fun K => He.ga K "FORMS", formKeys)]
def tf : List He.Defn := []
def ex (K : PySem.W.Frag) : Bool := He.valsB K (He.ga K "FORMS") forms && (He.tupB K "WORDS" (words.map He.Dv.str) && (decide (PySem.W.findIn K (.ref (He.ga K "Office")) "__contains__" = some (some (.ref (He.fAd K ("Office", some "__contains__"))))) &&
  (decide (PySem.W.typeIn K (.ref (He.fAd K ("Office", some "__contains__"))) = some (.type "function")) && decide (He.fAd K ("Office", some "__init__") = He.ma K (He.ga K "Office") "__init__"))))
abbrev R : PySem.W.OpenRow := PySem.W.OpenLaw.row PySem.Challenge.rw_seatroads_k01_events_known
abbrev hk : PySem.W.Hook := He.hookX 6 fa fn ts tf ex
def ob (s : PySem.W.SharedT) : He.AlX := He.obsX 6 fa fn ts tf ex (HandSHeadRun.getT s)
theorem ob_eq (s : PySem.W.SharedT) : ob s = hk.obs s.abs := He.obsX_eq (HandSHeadRun.getT_eq s)
def looseA : List Str := ["is_integer", "is_list", "is_name", "is_points", "is_event", "is_wishes", "is_home", "_is_come", "_is_of_kind", "_is_of_person", "_is_change", "_is_alone", "FORMS", "OfficeError", "BadRank", "BadKind", "WORDS", "Office"]
def looseB : List Str := ["is_rank", "SIGNS", "LONGEST", "GREATEST", "_law_source", "_law_draw", "_law_pick", "_law_same", "_law_some_ranks", "_law_some_wishes", "_law_some_come", "_law_some_event", "_law_some_events", "_law_is_name", "_law_are_wishes", "_law_is_kind", "_law_is_due", "_law_bent"]
def loose : List Str := looseA ++ looseB
theorem run (w : World) : HandSHeadRun.RunEq R (PySem.W.view R.prog [41]) hk ob 60000 loose w := by
  refine PySem.W.byRow2 "special-get-raises" (P := fun w => HandSHeadRun.RunEq R (PySem.W.view R.prog [41]) hk ob 60000 loose w) (fun w => ?_) (fun w => ?_) w
  · intro os
    kernel_rfl
  · intro os
    kernel_rfl
end K01

set_option Elab.async false
set_option linter.all false
set_option maxRecDepth 100000
set_option maxHeartbeats 4000000
namespace K01
open PySem PySem.Spec PyProof.Rows L2 Sr
theorem tab_dic {fa : List He.Fa} {fn : List He.DefD} {ts : List He.Tab} {w : World} {K : PySem.W.Frag} (c : He.SaysT fa fn ts w K) (i : Nat) {t : He.Tab} (h : ts[i]? = some t := by rfl) : He.dicW K (t.1 K) = some (He.keysIn w.params t.2) := by
  have e : ts.map (fun t => He.dicW K (t.1 K)) = ts.map fun t => some (He.keysIn w.params t.2) := congrArg (fun z : He.AlT => z.2) c
  have e2 : (ts.map fun t => He.dicW K (t.1 K))[i]? = (ts.map fun t => some (He.keysIn w.params t.2))[i]? := by rw [e]
  rw [List.getElem?_map, List.getElem?_map, h] at e2
  exact Option.some.inj e2
theorem val_at {K : PySem.W.Frag} (h : He.valsB K (He.ga K "FORMS") forms = true) {k x : Str} (m : (k, He.Dv.glo x) ∈ forms) : PySem.W.nsIn K (He.ga K "FORMS") k = some (some (.ref (He.ga K x))) := by
  obtain ⟨u, h1, h2⟩ := He.valsB_ok h m
  have e : u = .ref (He.ga K x) := h2
  rw [e] at h1
  exact h1
theorem facts {P : Program} {w : World} {K : PySem.W.Frag} {h : Heap} {mg : Str → Option Value} {f : Addr} (X : K.In h) (G : h.Ns mainGlobals mg) (hfa : mg ("law" : Str) = some (.ref f)) (c : He.SaysX fa fn ts tf ex w h K) :
    ∃ fd : FuncData, (∀ (s : Shared) (v : Value), BindsTo s fd ⟨[v], []⟩ [("script", v)]) ∧ ∀ base : Heap, K.In base → base.Ns mainGlobals mg → FnOk P w K mg base CX0 7 f fd ["script"] (spLaw K) := by
  have cd : He.SaysD fa fn K := c.t.d
  have e := hfa.symm.trans (He.glo_ok X G (cd.fact 27 (f := .glo "law") rfl))
  cases e
  have D_is_integer : Dfn K mg "is_integer" s_is_integer := ⟨cd.def_ 0 (d := dd "is_integer" 4) rfl, He.glo_ok X G (cd.fact 0 (f := .glo "is_integer") rfl)⟩
  have D_is_list : Dfn K mg "is_list" s_is_list := ⟨cd.def_ 1 (d := dd "is_list" 5) rfl, He.glo_ok X G (cd.fact 1 (f := .glo "is_list") rfl)⟩
  have D_is_name : Dfn K mg "is_name" s_is_name := ⟨cd.def_ 2 (d := dd "is_name" 6) rfl, He.glo_ok X G (cd.fact 2 (f := .glo "is_name") rfl)⟩
  have D_is_points : Dfn K mg "is_points" s_is_points := ⟨cd.def_ 3 (d := dd "is_points" 7) rfl, He.glo_ok X G (cd.fact 3 (f := .glo "is_points") rfl)⟩
  have D_is_wishes : Dfn K mg "is_wishes" s_is_wishes := ⟨cd.def_ 4 (d := dd "is_wishes" 10) rfl, He.glo_ok X G (cd.fact 4 (f := .glo "is_wishes") rfl)⟩
  have D_is_home : Dfn K mg "is_home" s_is_home := ⟨cd.def_ 5 (d := dd "is_home" 11) rfl, He.glo_ok X G (cd.fact 5 (f := .glo "is_home") rfl)⟩
  have D__is_come : Dfn K mg "_is_come" s__is_come := ⟨cd.def_ 6 (d := dd "_is_come" 12) rfl, He.glo_ok X G (cd.fact 6 (f := .glo "_is_come") rfl)⟩
  have D__is_of_kind : Dfn K mg "_is_of_kind" s__is_of_kind := ⟨cd.def_ 7 (d := dd "_is_of_kind" 13) rfl, He.glo_ok X G (cd.fact 7 (f := .glo "_is_of_kind") rfl)⟩
  have D__is_of_person : Dfn K mg "_is_of_person" s__is_of_person := ⟨cd.def_ 8 (d := dd "_is_of_person" 14) rfl, He.glo_ok X G (cd.fact 8 (f := .glo "_is_of_person") rfl)⟩
  have D__is_change : Dfn K mg "_is_change" s__is_change := ⟨cd.def_ 9 (d := dd "_is_change" 15) rfl, He.glo_ok X G (cd.fact 9 (f := .glo "_is_change") rfl)⟩
  have D__is_alone : Dfn K mg "_is_alone" s__is_alone := ⟨cd.def_ 10 (d := dd "_is_alone" 16) rfl, He.glo_ok X G (cd.fact 10 (f := .glo "_is_alone") rfl)⟩
  have D_is_event : Dfn K mg "is_event" s_is_event := ⟨cd.def_ 11 (d := dd "is_event" 9) rfl, He.glo_ok X G (cd.fact 11 (f := .glo "is_event") rfl)⟩
  have D_is_rank : Dfn K mg "is_rank" s_is_rank := ⟨cd.def_ 12 (d := dd "is_rank" 25) rfl, He.glo_ok X G (cd.fact 12 (f := .glo "is_rank") rfl)⟩
  have D__law_source : Dfn K mg "_law_source" s__law_source := ⟨cd.def_ 13 (d := dd "_law_source" 27) rfl, He.glo_ok X G (cd.fact 13 (f := .glo "_law_source") rfl)⟩
  have D__law_draw : Dfn K mg "_law_draw" s__law_draw := ⟨cd.def_ 14 (d := dd "_law_draw" 28) rfl, He.glo_ok X G (cd.fact 14 (f := .glo "_law_draw") rfl)⟩
  have D__law_pick : Dfn K mg "_law_pick" s__law_pick := ⟨cd.def_ 15 (d := dd "_law_pick" 29) rfl, He.glo_ok X G (cd.fact 15 (f := .glo "_law_pick") rfl)⟩
  have D__law_same : Dfn K mg "_law_same" s__law_same := ⟨cd.def_ 16 (d := dd "_law_same" 30) rfl, He.glo_ok X G (cd.fact 16 (f := .glo "_law_same") rfl)⟩
  have D__law_some_ranks : Dfn K mg "_law_some_ranks" s__law_some_ranks := ⟨cd.def_ 17 (d := dd "_law_some_ranks" 31) rfl, He.glo_ok X G (cd.fact 17 (f := .glo "_law_some_ranks") rfl)⟩
  have D__law_some_wishes : Dfn K mg "_law_some_wishes" s__law_some_wishes := ⟨cd.def_ 18 (d := dd "_law_some_wishes" 32) rfl, He.glo_ok X G (cd.fact 18 (f := .glo "_law_some_wishes") rfl)⟩
  have D__law_some_come : Dfn K mg "_law_some_come" s__law_some_come := ⟨cd.def_ 19 (d := dd "_law_some_come" 33) rfl, He.glo_ok X G (cd.fact 19 (f := .glo "_law_some_come") rfl)⟩
  have D__law_some_event : Dfn K mg "_law_some_event" s__law_some_event := ⟨cd.def_ 20 (d := dd "_law_some_event" 34) rfl, He.glo_ok X G (cd.fact 20 (f := .glo "_law_some_event") rfl)⟩
  have D__law_some_events : Dfn K mg "_law_some_events" s__law_some_events := ⟨cd.def_ 21 (d := dd "_law_some_events" 35) rfl, He.glo_ok X G (cd.fact 21 (f := .glo "_law_some_events") rfl)⟩
  have D__law_is_name : Dfn K mg "_law_is_name" s__law_is_name := ⟨cd.def_ 22 (d := dd "_law_is_name" 36) rfl, He.glo_ok X G (cd.fact 22 (f := .glo "_law_is_name") rfl)⟩
  have D__law_are_wishes : Dfn K mg "_law_are_wishes" s__law_are_wishes := ⟨cd.def_ 23 (d := dd "_law_are_wishes" 37) rfl, He.glo_ok X G (cd.fact 23 (f := .glo "_law_are_wishes") rfl)⟩
  have D__law_is_kind : Dfn K mg "_law_is_kind" s__law_is_kind := ⟨cd.def_ 24 (d := dd "_law_is_kind" 38) rfl, He.glo_ok X G (cd.fact 24 (f := .glo "_law_is_kind") rfl)⟩
  have D__law_is_due : Dfn K mg "_law_is_due" s__law_is_due := ⟨cd.def_ 25 (d := dd "_law_is_due" 39) rfl, He.glo_ok X G (cd.fact 25 (f := .glo "_law_is_due") rfl)⟩
  have D__law_bent : Dfn K mg "_law_bent" s__law_bent := ⟨cd.def_ 26 (d := dd "_law_bent" 40) rfl, He.glo_ok X G (cd.fact 26 (f := .glo "_law_bent") rfl)⟩
  obtain ⟨fd, DL⟩ := cd.def_ 27 (d := dd "law" 41) rfl
  have D_has : DfnM K "Office" "__contains__" "Office.__contains__" s_Office___contains__ := ⟨cd.def_ 28 (d := dm "__contains__" "Office.__contains__" s_Office___contains__) rfl⟩
  have D_ini : DfnM K "Office" "__init__" "Office.__init__" s_Office___init__ := ⟨cd.def_ 29 (d := dm "__init__" "Office.__init__" s_Office___init__) rfl⟩
  have T : Txt K mg := ⟨He.free_ok X G (cd.fact 28 (f := .free "len") rfl), He.free_ok X G (cd.fact 29 (f := .free "isinstance") rfl), He.free_ok X G (cd.fact 30 (f := .free "all") rfl), He.free_ok X G (cd.fact 31 (f := .free "set") rfl), He.free_ok X G (cd.fact 32 (f := .free "range") rfl), He.free_ok X G (cd.fact 33 (f := .free "sorted") rfl), He.free_ok X G (cd.fact 34 (f := .free "list") rfl), He.free_ok X G (cd.fact 35 (f := .free "tuple") rfl), He.free_ok X G (cd.fact 36 (f := .free "min") rfl), He.free_ok X G (cd.fact 37 (f := .free "int") rfl), He.free_ok X G (cd.fact 38 (f := .free "str") rfl), He.free_ok X G (cd.fact 39 (f := .free "bool") rfl), He.free_ok X G (cd.fact 40 (f := .free "dict") rfl), He.str_ok X G (cd.fact 41 (f := .str "SIGNS" signs) rfl), He.int_ok X G (cd.fact 42 (f := .int "LONGEST" 8) rfl), He.int_ok X G (cd.fact 43 (f := .int "GREATEST" 1000000) rfl)⟩
  obtain ⟨x1, x2⟩ := He.ba c.more
  obtain ⟨x2, x3⟩ := He.ba x2
  obtain ⟨x3, x4⟩ := He.ba x3
  obtain ⟨x4, x5⟩ := He.ba x4
  have hF := He.glo_ok X G (cd.fact 44 (f := .glo "FORMS") rfl)
  have hW := He.glo_ok X G (cd.fact 45 (f := .glo "WORDS") rfl)
  have hO := He.glo_ok X G (cd.fact 46 (f := .glo "Office") rfl)
  have O : Off K mg := ⟨He.cls_ok (cd.fact 47 (f := .cls "Office") rfl), He.noat_ok (cd.fact 48 (f := .noat "Office" "_ranks") rfl), ⟨of_decide_eq_true x3, of_decide_eq_true x4⟩⟩
  have Mo : Mk K (He.ga K "Office") (He.fAd K ("Office", some "__init__")) := by
    rw [of_decide_eq_true x5]
    exact He.mkr_ok (cd.fact 49 (f := .mkr "Office") rfl)
  have W : Wds K mg := ⟨hW, fun H => He.tupB_ok x2 H⟩
  obtain ⟨es, n, KD, keys⟩ := tab_list (tab_dic c.t 0 (t := (fun K => He.ga K "FORMS", formKeys)) rfl)
  have F : Frm K w mg := ⟨hF, ⟨es, n, KD⟩, val_at x1 (by simp [forms]), val_at x1 (by simp [forms]), val_at x1 (by simp [forms]), val_at x1 (by simp [forms]), val_at x1 (by simp [forms]), val_at x1 (by simp [forms]), val_at x1 (by simp [forms]), fun z hz => nsIn_out KD keys hz⟩
  have b := FunD.bindsA (ps := ["script"]) DL fun _ _ _ _ _ _ us hl => match us, hl with | [_], _ => rfl
  refine ⟨fd, fun s v => b s [v] rfl, fun base _ _ => ?_⟩
  have C_is_integer := c_is_integer (P := P) (w := w) (base := base) T D_is_integer
  have C_is_list := c_is_list (P := P) (w := w) (base := base) T D_is_list
  have C_is_name := c_is_name (P := P) (w := w) (base := base) T D_is_name
  have C_is_points := c_is_points T D_is_points C_is_integer
  have Mh := m_contains (P := P) (w := w) (base := base) T O D_has
  have C_is_wishes := c_is_wishes T O Mh D_is_wishes C_is_list
  have C_is_home := c_is_home T O Mh D_is_home
  have C_come := c__is_come T D__is_come C_is_name C_is_wishes C_is_points C_is_home
  have C_kind := c__is_of_kind T O Mh D__is_of_kind
  have C_person := c__is_of_person T D__is_of_person C_is_name
  have C_change := c__is_change T D__is_change C_is_name C_is_wishes
  have C_alone := c__is_alone (P := P) (w := w) (base := base) T D__is_alone
  have C_is_event := c_is_event T F D_is_event C_is_list (form_of F D__is_come.at_ D__is_of_kind.at_ D__is_of_person.at_ D__is_change.at_ D__is_alone.at_ C_come C_kind C_person C_change C_alone)
  have C_is_rank := c_is_rank T W D_is_rank C_is_list
  have Mi := m_init T O D_ini C_is_name C_is_rank
  have C_src := c__law_source (P := P) (w := w) (base := base) T D__law_source
  have C_draw := c__law_draw (P := P) (w := w) (base := base) T D__law_draw
  have C_pick := c__law_pick T D__law_pick C_draw
  have C_same := c__law_same (P := P) (w := w) (base := base) T D__law_same
  have C_ranks := c__law_some_ranks T D__law_some_ranks C_draw C_pick
  have C_ws := c__law_some_wishes T D__law_some_wishes C_draw
  have C_sc := c__law_some_come T D__law_some_come C_pick C_ws
  have C_se := c__law_some_event T D__law_some_event C_draw C_pick C_ws C_sc
  have C_ses := c__law_some_events T D__law_some_events C_draw C_pick C_se
  have C_ln := c__law_is_name (P := P) (w := w) (base := base) T D__law_is_name
  have C_lw := c__law_are_wishes (P := P) (w := w) (base := base) T D__law_are_wishes
  have C_lk := c__law_is_kind (P := P) (w := w) (base := base) T D__law_is_kind
  have C_due := c__law_is_due T D__law_is_due C_ln C_lw C_lk
  have C_bent := c__law_bent T D__law_bent C_draw C_pick
  exact c_law T O Mo hO Mi DL C_src C_ranks C_pick C_ses C_bent C_same C_is_event C_due
end K01
open PySem PySem.W PySem.Calls PyProof.Rows
theorem PySem.Challenge.cw_seatroads_k01_events_known_holds : PySem.Challenge.rw_seatroads_k01_events_known.Holds := by
  w_on; o_law
  refine HandSHeadRun.head_any (r := OpenLaw.row PySem.Challenge.rw_seatroads_k01_events_known) (q := view (OpenLaw.row PySem.Challenge.rw_seatroads_k01_events_known).prog [41]) (H := K01.hk) (ob := K01.ob) (M := 60000) (loose := K01.loose) (d := HandSHeadRun.topDef (OpenLaw.row PySem.Challenge.rw_seatroads_k01_events_known).prog 41) (kwd := []) K01.ob_eq
    (by kernel_rfl) (fun s => by kernel_rfl) K01.run (by kernel_rfl) (by kernel_rfl) (by kernel_rfl) (by rfl) (by first | assumption | decide +kernel) (by decide +kernel) ⟨rfl, rfl, rfl, rfl, rfl, by decide +kernel⟩ ?hw ?hc
  case hw => w_witness2
  case hc =>
    refine L2.walk_ofE (l := PySem.Challenge.rw_seatroads_k01_events_known) (n := 63) (k := 7) (x := "script") (CX := L2.CX0) rfl (by decide) (by kernel_rfl) ⟨rfl, by decide, by decide⟩ ?F (fun _ _ _ _ z => z)
    intro w mg fa h Y G hmg0
    obtain ⟨K, KX, c⟩ := Y
    have hmg : mg ("law" : PySem.Str) = some (.ref fa) := by
      have e : (HandSHeadRun.topDef (OpenLaw.row PySem.Challenge.rw_seatroads_k01_events_known).prog 41).name = ("law" : PySem.Str) := by kernel_rfl
      rw [← e]
      exact hmg0
    obtain ⟨fd, hb, hF⟩ := K01.facts (P := (PySem.Challenge.rw_seatroads_k01_events_known).prog) (w := w) KX G hmg c
    exact ⟨K, fd, K01.spLaw K, KX, hb, fun H a ns hl _ hS => ⟨a, ns, rfl, hS, fun _ _ => rfl⟩, hF⟩
