import PyProof.Rows.All
import Wide.All
import OpenK.AllK
import Wide.FinOn
import KE.KStateDown
import HandS.ForMost
import HandS.Defaults
import HandS.IsInst
import HandS.CallLocal
import HandS.TupAny
import HandS.NoneIn
import HandS.Strs
import HandS.TryOnly
import HandS.Head0
import HandS.Head1
import HandS.Head2
import HandS.HeadEnd
import HandS.HeadHook1
import HandS.HeadHook2
import HandS.HeadHook3
import HandS.HeadHook4
import HandS.ListItems
import HandS.More
import HandS.Walk
import HandS.DictComp
import HandS.Exc
import HandS.TryMany
import HandS.ExcInit
import HandS.ExcField
import HandS.Zip
import KE.SortData
import HandS.Conv
import KE.KDictPairs
import KE.GoesEnum
import HandS.Lambda
import HandS.EndTab
import HandS.WordsDict
import PyProof.P3Eq
import HandS.HeadWalk
import PySem.Challenge.RW_seatroads_k25_rows_told
set_option Elab.async false
set_option linter.all false
set_option maxRecDepth 100000
set_option maxHeartbeats 4000000
namespace Sr
open PySem PySem.Spec PyProof.Rows L2

/-- a def of the top that may be called: its promise, its name -/
structure Cal (P : Program) (w : World) (K : PySem.W.Frag) (mg : Str → Option Value) (base : Heap) (k : Nat) (x : Str) (ps : List Str) (sp : Sp) : Prop where
  ex : ∃ (f : Addr) (fd : FuncData), FnOk P w K mg base CX0 k f fd ps sp ∧ mg x = some (.ref f) ∧ PySem.W.keepIn K (.ref f) = true ∧ Binds K fd ps []

theorem pe_cal {X : Cx} {k k' : Nat} {x : Str} {ps : List Str} {sp : Sp} {p pos : Pos} {e : Expr} {es : List Expr} {t : TA} (C : Cal X.prog X.w X.K X.mg X.base k x ps sp) (hr : Room k' X.A) (hk : k ≤ k') (hg : Gl X x) (ha : PA X (e :: es) t)
    (hdb : (x == ("__debug__" : Str)) = false := by decide) (he : starEach (e :: es) X.env = (false, eval e X.env) :: starEach es X.env := by rfl) (hpl : (backTo pos (starEach es X.env)).any (·.1) = false := by rfl) :
    PE X (.Call (.Name x p) (e :: es) [] pos) (tCall sp [] E0 t) := by
  obtain ⟨f, fd, F, hm, hkp, hb⟩ := C.ex
  exact pe_call F (hr.mono hk) hg hm hkp hb .nil pass0 ha hdb he hpl

/-- a def of the top as the head tells it -/
structure Dfn (K : PySem.W.Frag) (mg : Str → Option Value) (x : Str) (st : Stmt) : Prop where
  fn : ∃ fd, FunD K x x (defArgs st) (defBody st) (defScope st) [] [] (He.ga K x) fd
  at_ : mg x = some (.ref (He.ga K x))

theorem Dfn.cal {P : Program} {w : World} {K : PySem.W.Frag} {mg : Str → Option Value} {base : Heap} {x : Str} {st : Stmt} {N ps : List Str} {k : Nat} {sp : Sp} (D : Dfn K mg x st) (S : FnScope N ps (defScope st))
    (hb : ∀ (kV doc pm : Value) (an : Option Addr) (cdv ct : Value) (us : List Value), us.length = ps.length → bindArgs (PySem.W.fnOf x x (defArgs st) (defBody st) (defScope st) .none kV doc pm an cdv ct) ⟨us, []⟩ = pure (ps.zip us))
    (len : ∀ vs H Q E, sp vs H Q E → vs.length = ps.length)
    (body : ∀ (cdv : Value) (A : Around) (outer : List Env) (s : Shared) (H : Hp) (vs : List V) (Q : VK) (E : XK), Room k (A.deeper (envOfC x (defScope st) s.heap.objs.size (He.ga K x) cdv)) → sp vs H Q E →
      ∃ t, PSs (cxOf CX0 P w K mg base N x (defScope st) (He.ga K x) cdv A outer s H E).nox (defBody st) t ∧ t { nx := fun _ H' => Q .non H', rt := Q } (start N vs) H) :
    Cal P w K mg base (k + 1) x ps sp := by
  obtain ⟨fd, F⟩ := D.fn
  refine ⟨_, fd, F.ok S len fun cdv A outer s H vs Q E hr h => ?_, D.at_, F.kp, F.bindsN hb⟩
  obtain ⟨t, h1, h2⟩ := body cdv A outer s H vs Q E hr h
  exact ⟨t, PSs.nox h1, h2⟩

/-- a method of a class of the top -/
structure CalM (P : Program) (w : World) (K : PySem.W.Frag) (mg : Str → Option Value) (base : Heap) (CX : CXT) (k : Nat) (f : Addr) (ps : List Str) (sp : Sp) : Prop where
  ex : ∃ fd : FuncData, FnOk P w K mg base CX k f fd ps sp ∧ PySem.W.keepIn K (.ref f) = true ∧ Binds K fd ps []
/-- a method as the head tells it -/
structure DfnM (K : PySem.W.Frag) (c m qual : Str) (st : Stmt) : Prop where
  fn : ∃ fd, FunD K m qual (defArgs st) (defBody st) (defScope st) [] [] (He.fAd K (c, some m)) fd
theorem DfnM.cal {P : Program} {w : World} {K : PySem.W.Frag} {mg : Str → Option Value} {base : Heap} {c m qual : Str} {st : Stmt} {N ps : List Str} {k : Nat} {sp : Sp} (D : DfnM K c m qual st) (S : FnScope N ps (defScope st))
    (hb : ∀ (kV doc pm : Value) (an : Option Addr) (cdv ct : Value) (us : List Value), us.length = ps.length → bindArgs (PySem.W.fnOf m qual (defArgs st) (defBody st) (defScope st) .none kV doc pm an cdv ct) ⟨us, []⟩ = pure (ps.zip us))
    (len : ∀ vs H Q E, sp vs H Q E → vs.length = ps.length)
    (body : ∀ (cdv : Value) (A : Around) (outer : List Env) (s : Shared) (H : Hp) (vs : List V) (Q : VK) (E : XK), Room k (A.deeper (envOfC qual (defScope st) s.heap.objs.size (He.fAd K (c, some m)) cdv)) → sp vs H Q E →
      ∃ t, PSs (cxOf CX0 P w K mg base N qual (defScope st) (He.fAd K (c, some m)) cdv A outer s H E).nox (defBody st) t ∧ t { nx := fun _ H' => Q .non H', rt := Q } (start N vs) H) :
    CalM P w K mg base CX0 (k + 1) (He.fAd K (c, some m)) ps sp := by
  obtain ⟨fd, F⟩ := D.fn
  refine ⟨fd, F.ok S len fun cdv A outer s H vs Q E hr h => ?_, F.kp, F.bindsN hb⟩
  obtain ⟨t, h1, h2⟩ := body cdv A outer s H vs Q E hr h
  exact ⟨t, PSs.nox h1, h2⟩

/-- x in o, o an instance whose class says __contains__ -/
structure Has (K : PySem.W.Frag) (C f : Addr) : Prop where
  at_ : PySem.W.findIn K (.ref C) "__contains__" = some (some (.ref f))
  ty : PySem.W.typeIn K (.ref f) = some (.type "function")
def rInOwn (C : Addr) (sp : Sp) (E : XK) (neg : Bool) : R2 := fun x y H Q => ∃ a dx fs, y = .ref a ∧ H a = some (.ins C dx fs) ∧ sp [y, x] H (fun v H' => ∃ b, v = .bl b ∧ Q (.bl (if neg then !b else b)) H') E

theorem own_in {X : Cx} {CX : CXT} {k : Nat} {C f : Addr} {fd : FuncData} {ps : List Str} {sp : Sp} {E : XK} (F : FnOk X.prog X.w X.K X.mg X.base CX k f fd ps sp) (hr : Room k X.A) (hs : Has X.K C f) (hb : Binds X.K fd ps []) (hx : Passes CX X E)
    {pins : List (Addr × Obj)} {s : Shared} {σ : L2.St} {H : Hp} {x y : V} {v u : Value} {Q : Bool → Shared → Prop} (I : Inv X pins σ H s) (rx : RelV x v) (ry : RelV y u)
    (h : ∃ a dx fs, y = .ref a ∧ H a = some (.ins C dx fs) ∧ sp [y, x] H (fun v H' => ∃ b, v = .bl b ∧ ∀ s', Inv X pins σ H' s' → Q b s') E) :
    wpAny (model X.prog X.w) X.A (contains u v) Q X.xe s := by
  obtain ⟨a, dx, fs, rfl, ha, hsp⟩ := h
  cases ry
  obtain ⟨mA, J, _⟩ := ins_get I.hok ha
  obtain ⟨od, J, _⟩ := J.look
  unfold contains
  refine wpAny_holding ?_
  rw [stdlibNamesSay?_ref]
  refine wpAny_bind ?_
  unfold specialOf
  refine wpAny_bind (J.type.here ?_)
  refine (PySem.W.looks_findIn I.kIn hs.at_).here ?_
  show wpAny _ _ (if (some (Value.ref f) == some Value.none) = true then _ else _) _ _ _
  rw [if_neg (by simp)]
  refine wpAny_bind ?_
  unfold callSpecialUnlessNone?
  refine wpAny_bind ?_
  unfold specialOf
  refine wpAny_bind (J.type.here ?_)
  refine (PySem.W.looks_findIn I.kIn hs.at_).here ?_
  refine wpAny_holding ?_
  refine wpAny_bind ((PySem.W.bind_fn I.kIn (.ref a) hs.ty).here ?_)
  show wpAny _ _ (if (Value.ref f == Value.none) = true then _ else _) _ _ _
  rw [if_neg (by simp)]
  refine wpAny_bind ?_
  have r2 : Vals [V.ref a, x] [Value.ref a, v] := .cons rfl (.cons rx .nil)
  refine thn (run_fn (dvs := []) (ds := []) F hr hb .nil hx I r2 hsp) fun r s1 hq => ?_
  obtain ⟨z, H1, I1, rz, b, ez, hb1⟩ := hq
  subst ez
  obtain rfl : r = Value.bool b := rz
  exact wpAny_pure (wpAny_truthy_bool (hb1 s1 I1))

theorem op_inOwn {X : Cx} {CX : CXT} {k : Nat} {C f : Addr} {fd : FuncData} {ps : List Str} {sp : Sp} {E : XK} (F : FnOk X.prog X.w X.K X.mg X.base CX k f fd ps sp) (hr : Room k X.A) (hs : Has X.K C f) (hb : Binds X.K fd ps []) (hx : Passes CX X E)
    (hm : ∀ x y H Q Q' E, (∀ v H', Q v H' → Q' v H') → sp [x, y] H Q E → sp [x, y] H Q' E) :
    OpR X (compareOp .In) (rInOwn C sp E false) := by
  intro pins s σ H x y v u Q I rx ry h
  obtain ⟨a, dx, fs, e, ha, hsp⟩ := h
  show wpAny _ _ (do return Value.bool (← contains u v)) _ _ _
  refine wpAny_bind (own_in F hr hs hb hx (Q := fun b s' => wpAny (model X.prog X.w) X.A (pure (Value.bool b)) (EP X pins σ Q) X.xe s') I rx ry ⟨a, dx, fs, e, ha, hm _ _ _ _ _ _ (fun z H' hz => ?_) hsp⟩)
  obtain ⟨b, rfl, hq⟩ := hz
  exact ⟨b, rfl, fun s' I' => wpAny_pure ⟨.bl b, H', I', rfl, hq⟩⟩
theorem op_has {X : Cx} {k k' : Nat} {C f : Addr} {ps : List Str} {sp : Sp} (M : CalM X.prog X.w X.K X.mg X.base CX0 k f ps sp) (hr : Room k' X.A) (hk : k ≤ k') (hs : Has X.K C f)
    (hm : ∀ x y H Q Q' E, (∀ v H', Q v H' → Q' v H') → sp [x, y] H Q E → sp [x, y] H Q' E) : OpR X (compareOp .In) (rInOwn C sp E0 false) := by
  obtain ⟨fd, F, _, hb⟩ := M.ex
  exact op_inOwn F (hr.mono hk) hs hb pass0 hm
end Sr

set_option Elab.async false
set_option linter.all false
set_option maxRecDepth 100000
set_option maxHeartbeats 4000000
namespace Sr
open PySem PySem.Spec PyProof.Rows L2
open PySem.SeqAt
/-! ### set(texts): how many unlike ones -/
/-- the unlike texts among the first i, in the order in which they are met -/
def met (xs : List Str) : Nat → List Str
  | 0 => []
  | i + 1 => if (met xs i).any (· == xs.getD i Str.empty) = true then met xs i else met xs i ++ [xs.getD i Str.empty]
theorem met_le (xs : List Str) : ∀ i, (met xs i).length ≤ i
  | 0 => Nat.le_refl _
  | i + 1 => by
    have := met_le xs i
    unfold met
    split
    · omega
    · rw [List.length_append]; simp; omega
theorem met_any (xs : List Str) (i : Nat) (k : Str) : ((met xs i).any (· == k) || decide (k = xs.getD i Str.empty)) = (met xs (i + 1)).any (· == k) := by
  show _ = (if (met xs i).any (· == xs.getD i Str.empty) = true then met xs i else met xs i ++ [xs.getD i Str.empty]).any (· == k)
  split
  · rename_i h
    by_cases e : k = xs.getD i Str.empty
    · rw [e, h]; rfl
    · rw [decide_eq_false e, Bool.or_false]
  · rw [List.any_append]
    by_cases e : k = xs.getD i Str.empty
    · subst e; simp
    · rw [decide_eq_false e]
      have : (xs.getD i Str.empty == k) = false := by
        rw [beq_eq_false_iff_ne]; exact fun z => e z.symm
      simp only [List.any_cons, List.any_nil, this, Bool.or_false]
theorem met_len (xs : List Str) (i : Nat) : (if ((met xs i).any (· == xs.getD i Str.empty)) = true then (met xs i).length else (met xs i).length + 1) = (met xs (i + 1)).length := by
  show _ = (if (met xs i).any (· == xs.getD i Str.empty) = true then met xs i else met xs i ++ [xs.getD i Str.empty]).length
  split <;> rename_i h
  · rfl
  · rw [List.length_append]; rfl
abbrev nset (led : Bool) : Obj := { cls := .type "set", dict := none, data := .set #[] 0 (.fresh 0 0 led) }
section
variable {prog : Program} {w : World} {A : Around} {R : Result → Shared → Prop} {I : Addr} {fp wr : List Addr} {G : Array GenState → Array GenState → Prop} {n : Nat} {P : Nat → Value → Prop} {Stt : Nat → Shared → Prop}
theorem texts_loop (W : WalksS prog w A.in1 I fp wr G n P Stt) (S : Addr) (hSf : S ∉ fp) (xs : List Str) (hv : ∀ i v, P i v → ∃ t, v = .str (xs.getD i Str.empty) t) (hb : n + 1 < scanBound) (d : Nat) :
    ∀ (i : Nat) (s : Shared), n = i + d → Stt i s → s.heap.SetOf (PySem.strKind prog w) S (fun k => (met xs i).any (· == k)) (met xs i).length →
      (∀ s', Moved (S :: wr) G s s' → s'.heap.SetOf (PySem.strKind prog w) S (fun k => (met xs n).any (· == k)) (met xs n).length → R (.ok (.ret .none)) s') →
      codeAny (model prog w) A (.builtin "set.update.loop" ⟨[.ref S, .ref I], []⟩) R s := by
  have out : S ∉ wr := fun h => hSf (W.sub _ h)
  have more : ∀ b ∈ wr, b ∈ S :: wr := fun b h => List.mem_cons_of_mem _ h
  have moves : ∀ (s s' : Shared) (i : Nat), Moved wr G s s' → s.heap.SetOf (PySem.strKind prog w) S (fun k => (met xs i).any (· == k)) (met xs i).length →
      s'.heap.SetOf (PySem.strKind prog w) S (fun k => (met xs i).any (· == k)) (met xs i).length := fun s s' i hm ⟨o, es, ep, t, ho, r⟩ => ⟨o, es, ep, t, hm.heap S _ out ho, r⟩
  induction d with
  | zero =>
    intro i s hd hs hS hR
    obtain rfl : n = i := hd
    refine codeAny_builtin PyProof.Rows.F.entry_set_update_loop ?_
    rw [Around.under_plainId PyProof.Rows.F.plain_set_update_loop _]
    show wpAny _ A.in1 (pyNext (.ref I) >>= _) _ _ s
    refine wpAny_bind (W.done s _ _ hs fun s' hm => ?_)
    show wpAny _ A.in1 (ret Value.none) _ _ s'
    exact wpAny_pure (hR s' (hm.mono more) (moves s s' _ hm hS))
  | succ d ih =>
    intro i s hd hs hS hR
    have lt : i < n := by omega
    refine codeAny_builtin PyProof.Rows.F.entry_set_update_loop ?_
    rw [Around.under_plainId PyProof.Rows.F.plain_set_update_loop _]
    show wpAny _ A.in1 (pyNext (.ref I) >>= _) _ _ s
    refine wpAny_bind (W.item i s _ _ lt hs fun v s' hP hs' hm => ?_)
    obtain ⟨t, rfl⟩ := hv i v hP
    have hS' := moves s s' i hm hS
    show wpAny _ A.in1 (holding [Value.str (xs.getD i Str.empty) t] (setAdd S _) >>= _) _ _ s'
    refine wpAny_bind (wpAny_holding ?_)
    unfold setAdd
    refine wpAny_holding (wpAny_bind ((PySem.strKind prog w).pyHash (k := xs.getD i Str.empty) (strKind_is _ _ _ _) ?_))
    have room : (met xs i).length + 1 < scanBound := by have := met_le xs i; omega
    refine wpAny_setAddHashed_of (knd := PySem.strKind prog w) (s := { s' with toks := s'.toks + 1 }) (strKind_is _ _ _ _) rfl hS' room fun h' hsb hS2 => ?_
    have hS3 : h'.SetOf (PySem.strKind prog w) S (fun k => (met xs (i + 1)).any (· == k)) (met xs (i + 1)).length :=
      PyProof.Rows.SetOf_congr hS2 (fun k => met_any xs i k) (met_len xs i)
    refine wpAny_pure ⟨plainId_quiet PyProof.Rows.F.plain_set_update_loop _, ih (i + 1) _ (by omega) (W.frame _ s' _ _ hs' (Nat.le_succ _) fun b hb o e => ?_) hS3 fun s2 hm2 hS4 => ?_⟩
    · rw [hsb.2 b (fun h : b = S => hSf (by rw [← h]; exact hb))]
      exact e
    · refine hR s2 (Moved.trans W.gtrans ((hm.mono more).then_heap (Nat.le_succ _) fun b o hb e => ?_) hm2) hS4
      rw [hsb.2 b (fun h : b = S => hb (by rw [h]; exact List.mem_cons_self))]
      exact e
end
/-- what set(l) leaves -/
def SetOut (prog : Program) (w : World) (s : Shared) (xs : List Str) (n : Nat) (h' : Heap) : Prop :=
  h'.SetOf (PySem.strKind prog w) s.heap.objs.size (fun k => (met xs n).any (· == k)) (met xs n).length ∧ ∀ b o, b < s.heap.objs.size → s.heap.get? b = some o → h'.get? b = some o
section
variable {prog : Program} {w : World} {A : Around} {E : Value → Shared → Prop} {s : Shared}
theorem texts_set {l : Addr} {items : Array Value} {xs : List Str} {Q : Value → Shared → Prop} {ty : String} {walk : Obj} {wr : List Addr} {G : Array GenState → Array GenState → Prop} {Stt : Nat → Shared → Prop}
    (hl : s.heap.get? l ≠ none) (hi : PyProof.Rows.StrsAre items.toList xs) (hb : items.size + 1 < scanBound)
    (e1 : isSubtype (.type ty) (.type "set") = pure false) (e2 : isSubtype (.type ty) (.type "frozenset") = pure false) (e3 : (Value.type ty == Value.type "dict") = false)
    (hty : ∀ led, Shared.TypeIs { s with heap := s.heap.push (nset led) } (.ref l) ty)
    (hit : ∀ (led : Bool) (A : Around) (Q : Value → Shared → Prop) (E : Value → Shared → Prop), (∀ s' : Shared, s' = { s with heap := (s.heap.push (nset led)).push walk } → Q (.ref (s.heap.objs.size + 1)) s') → wpAny (model prog w) A (pyIter (.ref l)) Q E { s with heap := s.heap.push (nset led) })
    (hW : WalksS prog w A.in1.in1.in1 (s.heap.objs.size + 1) [s.heap.objs.size + 1, l] wr G items.size (fun i v => items[i]? = some v) Stt)
    (hG : ∀ a b, G a b → b = a)
    (hwr : ∀ b ∈ wr, b = s.heap.objs.size + 1)
    (hst : ∀ led, Stt 0 { s with heap := (s.heap.push (nset led)).push walk })
    (h : ∀ (h' : Heap) (tk : Nat), SetOut prog w s xs items.size h' → Q (.ref s.heap.objs.size) { s with heap := h', toks := tk }) :
    wpAny (model prog w) A (call (.type "set") [.ref l]) Q E s := by
  have lt : l < s.heap.objs.size := by
    cases e : s.heap.get? l with
    | none => exact absurd e hl
    | some o => exact Heap.lt_size e
  obtain ⟨c, tl, hmro⟩ := PySem.F.called_set.mro
  have a1 := PySem.F.called_set.made
  have a2 := PySem.F.called_set.sub
  have a3 := PySem.F.called_set.notType
  have a4 := PySem.F.called_set.canCreate
  have a5 := PySem.F.typeCall_set_1 (.ref l)
  refine wpAny_call (codeAny_of_tree ?_)
  show wpAny _ _ (callAny (.type "set") _) _ _ _
  refine wpAny_pure ⟨Code.quiet_builtin _ (by decide +kernel), codeAny_builtin PySem.F.entry_type_call ?_⟩
  rw [Around.under_plain (weight_type_call_type "set" [.ref l] []) rfl]
  repeat (any_goals (first | assumption | wp_step))
  refine codeAny_mono (code_set_new_1 (.ref l) (E := E) (Q₁ := fun obj t => ∃ led : Bool, obj = .ref s.heap.objs.size ∧ t = { s with heap := s.heap.push (nset led) }) fun led => ⟨led, rfl, rfl⟩) fun r t hr => ?_
  cases r with
  | error e => exact hr
  | ok fl =>
    cases fl with
    | ret obj =>
      obtain ⟨led, rfl, rfl⟩ := hr
      have b1 : (s.heap.push (nset led)).get? s.heap.objs.size = some (nset led) := Heap.get?_push_size _ rfl
      have b2 : Shared.TypeIs { s with heap := s.heap.push (nset led) } (.ref s.heap.objs.size) "set" := ⟨_, b1, rfl⟩
      have b3 := PySem.F.called_set.init.lookup
      have b4 := PySem.F.called_set.init.bind (.ref s.heap.objs.size)
      repeat (any_goals (first | assumption | wp_step))
      refine codeAny_mono (codeAny_call_builtin (R := wants (fun r t => r = .none ∧ ∃ h' tk, t = { s with heap := h', toks := tk } ∧ SetOut prog w s xs items.size h') E) PySem.F.called_set.init.plain PySem.F.entry_set_init (check_set_init_1 b2 ?_)) fun r t hr => ?_
      · have c1 := hty led
        unfold Builtin.«set.__init__» noKeywords Builtin.Frozenset.updateFrom
        generalize hPI : pyIter = PI
        wp_walk
        subst hPI
        refine hit led _ _ _ fun s' e => ?_
        subst e
        refine wpAny_bind (wpAny_runValue ?_)
        have nS : s.heap.objs.size ∉ [s.heap.objs.size + 1, l] := fun z => by
          rcases List.mem_cons.mp z with z | z
          · exact Nat.ne_of_lt (Nat.lt_succ_self _) z
          · exact Nat.ne_of_gt lt (List.mem_singleton.mp z)
        have hsz : xs.length = items.size := by rw [← PyProof.Rows.StrsAre.len_eq hi, Array.length_toList]
        have hS0 : ((s.heap.push (nset led)).push walk).SetOf (PySem.strKind prog w) s.heap.objs.size (fun k => (met xs 0).any (· == k)) (met xs 0).length := by
          have g : ((s.heap.push (nset led)).push walk).get? s.heap.objs.size = some (nset led) := Heap.get?_push_of_some _ b1
          exact PyProof.Rows.SetOf_congr ((PyProof.Rows.setObjOf_fresh (knd := PySem.strKind prog w) led).setOf g (by unfold scanBound; omega)) (fun _ => rfl) rfl
        refine texts_loop hW s.heap.objs.size nS xs (fun i v hv => SS.strs_at hi i v (by rw [Array.getElem?_toList]; exact hv)) hb items.size 0 _ (by omega) (hst led) hS0 fun s' hm hS' => ?_
        obtain ⟨h', g', d', tk', os'⟩ := s'
        obtain rfl : g' = s.gens := hG _ _ hm.gens
        obtain rfl : d' = s.drawn := hm.drawn
        obtain rfl : os' = s.os := hm.os
        show wpAny _ _ _ _ _ _
        refine wpAny_pure ?_
        show wpAny _ _ (ret Value.none) _ _ _
        refine wpAny_pure ⟨rfl, h', tk', rfl, hS', fun b o hb e => ?_⟩
        refine hm.heap b o ?_ (Heap.get?_push_of_some _ (Heap.get?_push_of_some _ e))
        intro z
        rcases List.mem_cons.mp z with z | z
        · exact Nat.ne_of_lt hb z
        · exact Nat.ne_of_lt (Nat.lt_succ_of_lt hb) (hwr b z)
      · cases r with
        | error e => exact hr
        | ok fl =>
          cases fl with
          | ret r =>
            obtain ⟨rfl, h', tk, rfl, o⟩ := hr
            repeat (any_goals (first | assumption | wp_step))
            exact h _ _ o
          | _ => exact hr.elim
    | _ => exact hr.elim
end

end Sr

set_option Elab.async false
set_option linter.all false
set_option maxRecDepth 100000
set_option maxHeartbeats 4000000
namespace Sr
open PySem PySem.Spec PyProof.Rows L2
open PySem.SeqAt

section
variable {X : Cx}
def tLenSetT (K : PySem.W.Frag) (ta : TE) : TE := fun σ H Q => ta σ H fun x H1 => ∃ (l : Addr) (xs : List Str), x = .ref l ∧ (SqL K H1 l (xs.map V.str) ∨ SqT K H1 l (xs.map V.str)) ∧ xs.length ≤ 60 ∧ Q (.int (met xs xs.length).length) H1
theorem pe_lenSetT {a : Expr} {ta : TE} {p p2 q pos : Pos} (hc : X.calm = true) (hg : Gl X "len") (hm : X.mg "len" = none) (hg2 : Gl X "set") (hm2 : X.mg "set" = none) (ha : PE X a ta)
    (na : starEach [a] X.env = (false, eval a X.env) :: starEach [] X.env := by rfl) : PE X (.Call (.Name "len" p) [.Call (.Name "set" p2) [a] [] q] [] pos) (tLenSetT X.K ta) := by
  refine ⟨fun pins s σ H Q I h => ?_⟩
  refine Call_ (ld_blt I hg hm boot_len ?_)
  refine PyProof.Rows.callWith_builtin1 (PyProof.Rows.args_cons ?_ rfl) rfl rfl
  refine Call_ (ld_blt (u := .type "set") I hg2 hm2 (by decide +kernel) ?_)
  refine PyProof.Rows.callWith_type1 (PyProof.Rows.args_cons (thn (ha.run pins s σ H _ I h) fun v s1 ⟨x, H1, I1, r1, q1⟩ => PyProof.Rows.args_nil ?_) na) na rfl
  obtain ⟨l, xs, rfl, hq, h1, q1⟩ := q1
  cases r1
  have fin : ∀ (its : List Value), Vals (xs.map V.str) its → ∀ (h' : Heap) (tk : Nat), SetOut X.prog X.w s1 xs its.toArray.size h' →
      wpAny (model X.prog X.w) X.A (spliced (backTo pos (starEach [] X.env))) (fun vs s₂ => wpAny (model X.prog X.w) X.A (call (.builtin "len") (Value.ref s1.heap.objs.size :: vs)) (EP X pins σ Q) X.xe s₂) X.xe { s1 with heap := h', toks := tk } := fun its r h' tk ⟨hS, hk⟩ => by
    refine PyProof.Rows.args_nil ?_
    have hl : its.toArray.size = xs.length := by rw [List.size_toArray, ← r.length, List.length_map]
    rw [hl] at hS
    have := met_le xs xs.length
    obtain ⟨o, es, ep, t, ho, hex, hd, _, _, _, hf, hn⟩ := hS
    have I2 : Inv X pins σ H1 { s1 with heap := h', toks := tk } := I1.kept fun b o e => hk b o (Heap.lt_size e) e
    exact call_len_set ho hex hd hf (by rw [hn] <;> omega) ⟨.int _, H1, I2.tok _, ⟨_, by rw [hn]⟩, q1⟩
  have zz : ∀ its : List Value, Vals (xs.map V.str) its → its.toArray.size + 1 < scanBound := fun its r => by
    rw [List.size_toArray, ← r.length, List.length_map]; unfold scanBound; omega
  have lts : ∀ {o : Obj}, s1.heap.get? l = some o → l < s1.heap.objs.size := fun e => Heap.lt_size e
  have hh : ∀ A : Around, A.handled = none → A.in1.in1.in1.handled = none := fun A h => by simp [h]
  have g2 : ∀ (led : Bool) (o : Obj) (ho : o.isFreed = false), ((s1.heap.push (nset led)).push o).get? (s1.heap.objs.size + 1) = some o := fun led o ho => by
    have e := Heap.get?_push_size (s1.heap.push (nset led)) ho
    rwa [Heap.size_push] at e
  have it : ∀ (led : Bool) (o : Obj) (Q : Value → Shared → Prop), (∀ s' : Shared, s' = { s1 with heap := (s1.heap.push (nset led)).push o } → Q (.ref (s1.heap.objs.size + 1)) s') → Q (.ref (s1.heap.push (nset led)).objs.size) { s1 with heap := (s1.heap.push (nset led)).push o } := fun led o Q k => by
    rw [Heap.size_push]
    exact k _ rfl
  rcases hq with hq | hq
  · obtain ⟨its, r, pl, hz⟩ := I1.list hq
    obtain ⟨ol, e, ec, nn, ed⟩ := pl.isList
    have il : s1.heap.IsList l its.toArray := ⟨ol, e, ec, nn, ed⟩
    have ne : l ≠ s1.heap.objs.size + 1 := Nat.ne_of_lt (Nat.lt_succ_of_lt (lts e))
    exact texts_set (ty := "list") (walk := { cls := .type "list_iterator", data := .fields #[.ref l, .int 0 0] }) (by rw [e]; simp) (by simpa using strsAre_of r) (zz its r) PySem.F.sub_list_set PySem.F.sub_list_frozenset (by decide) (fun led => ⟨_, Heap.get?_push_of_some _ e, ec⟩)
      (fun led A Q E k => wpAny_pyIter_list (il.push _) (it led _ Q k)) ((Walks.list (hh _ (I1.ok.hd hc)) _ l ne its.toArray).toS) (fun a b e => e) (fun b hb => List.mem_singleton.mp hb) (fun led => ⟨⟨_, g2 led _ rfl, rfl, rfl⟩, (il.push _).push _⟩) fun h' tk o => fin its r h' tk o
  · obtain ⟨its, r, pl, hz⟩ := I1.tuple hq
    have il : s1.heap.IsTuple l its.toArray := pl
    obtain ⟨ol, e, ec, nn, ed⟩ := pl
    have ne : l ≠ s1.heap.objs.size + 1 := Nat.ne_of_lt (Nat.lt_succ_of_lt (lts e))
    exact texts_set (ty := "tuple") (walk := { cls := .type "tuple_iterator", data := .fields #[.ref l, .int 0 0] }) (by rw [e]; simp) (by simpa using strsAre_of r) (zz its r) PySem.F.sub_tuple_set PySem.F.sub_tuple_frozenset (by decide) (fun led => ⟨_, Heap.get?_push_of_some _ e, ec⟩)
      (fun led A Q E k => wpAny_pyIter_tuple (il.push _) (it led _ Q k)) ((Walks.tuple (hh _ (I1.ok.hd hc)) _ l ne its.toArray).toS) (fun a b e => e) (fun b hb => List.mem_singleton.mp hb) (fun led => ⟨⟨_, g2 led _ rfl, rfl, rfl⟩, (il.push _).push _⟩) fun h' tk o => fin its r h' tk o
end
end Sr

set_option Elab.async false
set_option linter.all false
set_option maxRecDepth 100000
set_option maxHeartbeats 4000000
namespace Sr
open PySem PySem.Spec PyProof.Rows L2
/-! ### list(d.values()) -/
def tListValues (te : TE) : TE := fun σ H Q => te σ H fun x H1 => ∃ d kvs, x = .ref d ∧ H1 d = some (.dK kvs) ∧ ∀ p, H1 p = none → Q (.ref p) (upd H1 p (.lst (kvs.map (·.2))))
theorem vals_of_kv : ∀ {kvs : List (Key × V)} {vs : List (Key × Value)}, KV kvs vs → Vals (kvs.map (·.2)) (vs.map (·.2))
  | _, _, .nil => .nil
  | _, _, .cons h t => .cons h.2 (vals_of_kv t)
theorem pe_listValues {X : Cx} {e : Expr} {te : TE} {p apos cpos pos : Pos} (hg : Gl X "list") (hm : X.mg "list" = none) (he : PE X e te) (hc : X.calm = true := by rfl) (hbase : attributeBase e "values" X.env (eval e X.env) = eval e X.env := by rfl) (hline : (apos.endLine == cpos.line) = true := by rfl)
    (hs : starEach [.Call (.Attribute e "values" apos) [] [] cpos] X.env = (false, eval (.Call (.Attribute e "values" apos) [] [] cpos) X.env) :: starEach [] X.env := by rfl) :
    PE X (.Call (.Name "list" p) [.Call (.Attribute e "values" apos) [] [] cpos] [] pos) (tListValues te) := by
  refine ⟨fun pins s σ H Q I hq => ?_⟩
  refine wpAny_Call_Name_kw (ld_blt (u := .type "list") I hg hm (by decide +kernel) ?_)
  refine PyProof.Rows.callWith_type1 ?_ hs rfl
  rw [hs]
  show wpAny _ _ (spliced ((false, eval (.Call (.Attribute e "values" apos) [] [] cpos) X.env) :: backTo pos (starEach [] X.env))) _ _ s
  refine Calls.spliced_cons ?_
  refine wpAny_Call_method (T := "dict") (id := "dict.values") hbase rfl hline F.plainAttrs_dict F.slot_dict_values F.type_dict_values (thn (he.run pins s σ H _ I hq) fun u s1 ⟨x, H1, I1, rx, d, kvs, ex, hd, q⟩ => ?_)
  subst ex
  obtain rfl : u = Value.ref d := rx
  obtain ⟨hz, hs0, vs, kv, hdo⟩ := I1.hok d _ hd
  obtain ⟨ep, hat⟩ := hdo.dictAt
  have lk : kvs.length = vs.length := Paired.length kv
  have I2 : Inv X pins σ H1 { s1 with heap := s1.heap.push { cls := .type "dict_values", data := .fields #[.ref d] } } := I1.kept (t' := s1.toks) fun b ob q => Heap.get?_push_of_some _ q
  refine ⟨hdo.typeIs, hdo.mapOf.noDict, ?_⟩
  show wpAny _ _ (callWith cpos (.builtin "dict.values") [.ref d] [] []) _ X.xe s1
  refine method_meetsIn F.slot_dict_values F.entry_dict_values rfl (PySem.evalArgs_none ⟨rfl, hdo.typeIs, F.args_dict_values_1 _, _, meets_dict_values (mixKind X.prog X.w) d hs0, ⟨vs, hdo⟩, ?_⟩)
  refine Calls.spliced_nil ?_
  refine PySem.W.kdl_call (PySem.W.kdl_values (knd := mixKind X.prog X.w) (kvs := vs) (ep := ep) (d := d) (r := s1.heap.objs.size)) (I1.ok.hd hc) ⟨⟨_, Heap.get?_push_size _ rfl, rfl, rfl⟩, hat.push _⟩ (by omega) fun h' tk acc c hk hS hacc => ?_
  have ev : acc.toList = vs.map (·.2) := PySem.W.kdl_vals_eq _ (by rw [Array.length_toList]; exact hacc.1) fun j v e => hacc.2 j v (by rw [← Array.getElem?_toList]; exact e)
  have hv : Vals (kvs.map (·.2)) acc.toList := by rw [ev]; exact vals_of_kv kv
  exact ⟨.ref _, _, I2.laid (t' := tk) hk (Nat.le_refl _) (show ObjOk X.prog X.w _ _ _ (.lst (kvs.map (·.2))) from ⟨by rw [List.length_map]; exact hz, acc.toList, c, hv, by rw [Array.toArray_toList]; exact hS⟩), rfl, q _ (I2.hok.fresh (Nat.le_refl _))⟩
end Sr

set_option Elab.async false
set_option linter.all false
set_option maxRecDepth 100000
set_option maxHeartbeats 4000000
namespace Sr
open PySem PySem.Spec PyProof.Rows L2
/-! ### data as they are passed about -/
inductive Dt where
  | non | bl (b : Bool) | int (i : Int) | str (s : Str) | lst (l : List Dt) | tup (l : List Dt) | dic
mutual
/-- v stands for d in the heap H -/
inductive Is (H : Hp) : V → Dt → Prop
  | non : Is H .non .non
  | bl (b : Bool) : Is H (.bl b) (.bl b)
  | int (i : Int) : Is H (.int i) (.int i)
  | str (s : Str) (h : s.length ≤ 1000) : Is H (.str s) (.str s)
  | lst {a : Addr} {xs : List V} {ds : List Dt} : H a = some (.lst xs) → IsA H xs ds → xs.length ≤ 60 → Is H (.ref a) (.lst ds)
  | tup {a : Addr} {xs : List V} {ds : List Dt} : H a = some (.tup xs) → IsA H xs ds → xs.length ≤ 60 → Is H (.ref a) (.tup ds)
  | dic {a : Addr} {kvs : List (Key × V)} : H a = some (.dK kvs) → Is H (.ref a) .dic
inductive IsA (H : Hp) : List V → List Dt → Prop
  | nil : IsA H [] []
  | cons {v : V} {vs : List V} {d : Dt} {ds : List Dt} : Is H v d → IsA H vs ds → IsA H (v :: vs) (d :: ds)
end
mutual
theorem Is.mono {H H' : Hp} (e : Same H H') : ∀ {v : V} {d : Dt}, Is H v d → Is H' v d
  | _, _, .non => .non
  | _, _, .bl b => .bl b
  | _, _, .int i => .int i
  | _, _, .str s h => .str s h
  | _, _, .lst h r z => .lst (e _ _ h) (IsA.mono e r) z
  | _, _, .tup h r z => .tup (e _ _ h) (IsA.mono e r) z
  | _, _, .dic h => .dic (e _ _ h)
theorem IsA.mono {H H' : Hp} (e : Same H H') : ∀ {vs : List V} {ds : List Dt}, IsA H vs ds → IsA H' vs ds
  | _, _, .nil => .nil
  | _, _, .cons h r => .cons (Is.mono e h) (IsA.mono e r)
end
theorem IsA.len {H : Hp} : ∀ {vs : List V} {ds : List Dt}, IsA H vs ds → vs.length = ds.length
  | _, _, .nil => rfl
  | _, _, .cons _ r => congrArg (· + 1) (IsA.len r)
theorem IsA.get {H : Hp} : ∀ {vs : List V} {ds : List Dt} {i : Nat} {v : V}, IsA H vs ds → vs[i]? = some v → ∃ d, ds[i]? = some d ∧ Is H v d
  | _, _, _, _, .nil, e => by simp at e
  | _, _, 0, _, .cons h _, e => by simp at e; subst e; exact ⟨_, rfl, h⟩
  | _, _, i + 1, v, .cons _ r, e => by
    obtain ⟨d, h1, h2⟩ := IsA.get (i := i) (v := v) r (by simpa using e)
    exact ⟨d, by simpa using h1, h2⟩
theorem IsA.app {H : Hp} : ∀ {xs ys : List V} {ds es : List Dt}, IsA H xs ds → IsA H ys es → IsA H (xs ++ ys) (ds ++ es)
  | _, _, _, _, .nil, s => s
  | _, _, _, _, .cons h r, s => .cons h (IsA.app r s)
theorem IsA.take {H : Hp} : ∀ {xs : List V} {ds : List Dt} (n : Nat), IsA H xs ds → IsA H (xs.take n) (ds.take n)
  | _, _, 0, _ => by simp; exact .nil
  | _, _, _ + 1, .nil => .nil
  | _, _, n + 1, .cons h r => .cons h (IsA.take n r)
theorem IsA.drop {H : Hp} : ∀ {xs : List V} {ds : List Dt} (n : Nat), IsA H xs ds → IsA H (xs.drop n) (ds.drop n)
  | _, _, 0, r => r
  | _, _, _ + 1, .nil => .nil
  | _, _, n + 1, .cons _ r => IsA.drop n r
/-- the name of the type -/
def tyN : Dt → String
  | .non => "NoneType" | .bl _ => "bool" | .int _ => "int" | .str _ => "str" | .lst _ => "list" | .tup _ => "tuple" | .dic => "dict"
theorem Is.ty {K : PySem.W.Frag} {H : Hp} {v : V} {d : Dt} (h : Is H v d) : TyX K H v (.type (tyN d)) := by
  cases h with
  | non => exact .base .non
  | bl b => exact .base (.bl b)
  | int i => exact .base (.int i)
  | str s h => exact .base (.str s)
  | lst h r z => exact .base (.lst h)
  | tup h r z => exact .base (.tup h)
  | dic h => exact .base (.dK h)
def isSeq : Dt → Bool
  | .lst _ => true
  | .tup _ => true
  | _ => false
def isStr : Dt → Bool
  | .str _ => true
  | _ => false
def isInt : Dt → Bool
  | .int _ => true
  | .bl _ => true
  | _ => false
def isBl : Dt → Bool
  | .bl _ => true
  | _ => false
theorem kit_two {K : PySem.W.Frag} {t c1 c2 : Value} {a b : Bool} (h1 : PySem.W.kitOne K t c1 = some a) (h2 : PySem.W.kitOne K t c2 = some b) : PySem.W.kitAny K t [c1, c2] = some (a || b) := by
  refine kitAny_cons h1 (fun e => kitAny_cons h2 (fun e2 => ?_) fun e2 => ?_) fun e => ?_
  · rw [e, e2]; rfl
  · rw [e, e2]; rfl
  · rw [e]; rfl
def isLst : Dt → Bool
  | .lst _ => true
  | _ => false
def isTup : Dt → Bool
  | .tup _ => true
  | _ => false
theorem kit_list (K : PySem.W.Frag) : ∀ d : Dt, PySem.W.kitOne K (.type (tyN d)) (.type "list") = some (isLst d)
  | .non => kit_ty (show kitB "NoneType" "list" = some false by decide +kernel)
  | .bl b => kit_ty (show kitB "bool" "list" = some false by decide +kernel)
  | .int i => kit_ty (show kitB "int" "list" = some false by decide +kernel)
  | .str s => kit_ty (show kitB "str" "list" = some false by decide +kernel)
  | .lst l => kit_ty (show kitB "list" "list" = some true by decide +kernel)
  | .tup l => kit_ty (show kitB "tuple" "list" = some false by decide +kernel)
  | .dic => kit_ty (show kitB "dict" "list" = some false by decide +kernel)
theorem kit_tuple (K : PySem.W.Frag) : ∀ d : Dt, PySem.W.kitOne K (.type (tyN d)) (.type "tuple") = some (isTup d)
  | .non => kit_ty (show kitB "NoneType" "tuple" = some false by decide +kernel)
  | .bl b => kit_ty (show kitB "bool" "tuple" = some false by decide +kernel)
  | .int i => kit_ty (show kitB "int" "tuple" = some false by decide +kernel)
  | .str s => kit_ty (show kitB "str" "tuple" = some false by decide +kernel)
  | .lst l => kit_ty (show kitB "list" "tuple" = some false by decide +kernel)
  | .tup l => kit_ty (show kitB "tuple" "tuple" = some true by decide +kernel)
  | .dic => kit_ty (show kitB "dict" "tuple" = some false by decide +kernel)
theorem kit_seq (K : PySem.W.Frag) (d : Dt) : PySem.W.kitAny K (.type (tyN d)) [.type "list", .type "tuple"] = some (isSeq d) := by
  rw [kit_two (kit_list K d) (kit_tuple K d)]
  cases d <;> rfl
theorem kit_str (K : PySem.W.Frag) : ∀ d : Dt, PySem.W.kitOne K (.type (tyN d)) (.type "str") = some (isStr d)
  | .non => kit_ty (show kitB "NoneType" "str" = some false by decide +kernel)
  | .bl b => kit_ty (show kitB "bool" "str" = some false by decide +kernel)
  | .int i => kit_ty (show kitB "int" "str" = some false by decide +kernel)
  | .str s => kit_ty (show kitB "str" "str" = some true by decide +kernel)
  | .lst l => kit_ty (show kitB "list" "str" = some false by decide +kernel)
  | .tup l => kit_ty (show kitB "tuple" "str" = some false by decide +kernel)
  | .dic => kit_ty (show kitB "dict" "str" = some false by decide +kernel)
theorem kit_int (K : PySem.W.Frag) : ∀ d : Dt, PySem.W.kitOne K (.type (tyN d)) (.type "int") = some (isInt d)
  | .non => kit_ty (show kitB "NoneType" "int" = some false by decide +kernel)
  | .bl b => kit_ty (show kitB "bool" "int" = some true by decide +kernel)
  | .int i => kit_ty (show kitB "int" "int" = some true by decide +kernel)
  | .str s => kit_ty (show kitB "str" "int" = some false by decide +kernel)
  | .lst l => kit_ty (show kitB "list" "int" = some false by decide +kernel)
  | .tup l => kit_ty (show kitB "tuple" "int" = some false by decide +kernel)
  | .dic => kit_ty (show kitB "dict" "int" = some false by decide +kernel)
theorem kit_bool (K : PySem.W.Frag) : ∀ d : Dt, PySem.W.kitOne K (.type (tyN d)) (.type "bool") = some (isBl d)
  | .non => kit_ty (show kitB "NoneType" "bool" = some false by decide +kernel)
  | .bl b => kit_ty (show kitB "bool" "bool" = some true by decide +kernel)
  | .int i => kit_ty (show kitB "int" "bool" = some false by decide +kernel)
  | .str s => kit_ty (show kitB "str" "bool" = some false by decide +kernel)
  | .lst l => kit_ty (show kitB "list" "bool" = some false by decide +kernel)
  | .tup l => kit_ty (show kitB "tuple" "bool" = some false by decide +kernel)
  | .dic => kit_ty (show kitB "dict" "bool" = some false by decide +kernel)
/-- the texts of a list of data -/
def strsOf : List Dt → List Str
  | [] => []
  | .str s :: r => s :: strsOf r
  | _ :: r => strsOf r
theorem IsA.strs {H : Hp} : ∀ {xs : List V} {ds : List Dt}, IsA H xs ds → ds.all isStr = true → xs = (strsOf ds).map V.str
  | _, _, .nil, _ => rfl
  | _, _, .cons (.str s h) r, e => by
    have e2 := IsA.strs r (by simpa [isStr] using e)
    show _ = V.str s :: _
    rw [e2]
  | _, _, .cons .non r, e => by simp [isStr] at e
  | _, _, .cons (.bl b) r, e => by simp [isStr] at e
  | _, _, .cons (.int b) r, e => by simp [isStr] at e
  | _, _, .cons (.lst h z y) r, e => by simp [isStr] at e
  | _, _, .cons (.tup h z y) r, e => by simp [isStr] at e
  | _, _, .cons (.dic h) r, e => by simp [isStr] at e
theorem cls_two (a b : String) : Paired ClsV [V.ty a, V.ty b] [.type a, .type b] := .cons (.ty a) (.cons (.ty b) .nil)
theorem two_line : (2 : Nat) ≤ sizeLine := by rw [sizeLine_eq]; decide
theorem Same.up {H : Hp} {p : Addr} {o : HO} (h : H p = none) : Same H (upd H p o) := fun b u e => by
  rw [upd_ne (ne_of_none e h)]
  exact e
end Sr

set_option Elab.async false
set_option linter.all false
set_option maxRecDepth 100000
set_option maxHeartbeats 4000000
namespace Sr
open PySem PySem.Spec PyProof.Rows L2
/-- a comprehension of one name whose elements change nothing that stood: the list of what they are -/
theorem lc_pure {J : It} {n : Nat} {G : Hp → Prop} {Y : Nat → Hp → V → Hp → Prop} {At : Nat → V → Prop} (w : Walk J n G Y) (hy : ∀ i H x H', Y i H x H' → H' = H ∧ At i x) {te : TE} {j : Nat} {σ : L2.St} {H : Hp} {D : Addr} {Qd : Hp → Prop}
    (ys : List V) (hn : ys.length = n) (hz : n < sizeLine) (hD : H D = none) (hG : ∀ H', Same H H' → G H')
    (turn : ∀ (i : Nat) (x y : V) (H1 : Hp) (Q : VK), i < n → At i x → ys[i]? = some y → Same H H1 → (∀ H2, Same H1 H2 → Q y H2) → te ((σ.set j none).set j (some x)) H1 Q)
    (fin : ∀ H', Same H H' → H' D = some (.lst ys) → Qd H') :
    ∃ W : Nat → Nat → Hp → Prop, (∃ m, W 0 m (upd H D (.lst []))) ∧ ∀ i m H, W i m H →
      (J.stop i H ∧ Qd H) ∨ (J.go i H ∧ ∃ Nx : Hp → Prop, (∀ H', Nx H' → ∃ m', m' < m ∧ W (i + 1) m' H') ∧ ∀ x H', J.yld i H x H' → (gName j) x (wipe σ [j]) H' fun σ2 H2 => wipe σ2 [j] = wipe σ [j] ∧ tYes σ2 H2 fun b H3 =>
        if b = true then te σ2 H3 fun y H4 => ∃ acc, H4 D = some (.lst acc) ∧ acc.length < sizeLine ∧ Nx (upd H4 D (.lst (acc ++ [y]))) else Nx H3) := by
  have below : ∀ {H1 H2 : Hp} {o : HO}, Same H H1 → Same H1 H2 → Same H (upd H2 D o) := fun {H1 H2 o} a b c u e => by
    rw [upd_ne (ne_of_none e hD)]
    exact b _ _ (a _ _ e)
  refine lc_it w (fun i H' => Same H H' ∧ H' D = some (.lst (ys.take i))) ⟨Same.up hD, by rw [upd_same]; simp⟩ (fun i H' _ p => hG H' p.1) (fun i x H1 H2 hi p y => ?_) fun H' p => fin H' p.1 (by rw [p.2, ← hn, List.take_length])
  obtain ⟨rfl, hx⟩ := hy _ _ _ _ y
  refine ⟨?_, ?_⟩
  · show ((σ.set j none).set j (some x)).set j none = σ.set j none
    rw [List.set_set, List.set_set]
  · unfold tYes
    simp only [if_true]
    have hi' : i < ys.length := by omega
    refine turn i x ys[i] H2 _ hi hx (List.getElem?_eq_getElem hi') p.1 fun H3 s3 => ?_
    refine ⟨_, s3 _ _ p.2, by rw [List.length_take]; omega, below p.1 s3, ?_⟩
    rw [upd_same, List.take_add_one, List.getElem?_eq_getElem hi']
    rfl
theorem walk_at {xs : List V} : ∀ (i : Nat) (H : Hp) (x : V) (H' : Hp), YAt xs i H x H' → H' = H ∧ xs[i]? = some x := fun _ _ _ _ y => y
/-- all([.. for ..]) behind its list -/
theorem all_of {K : PySem.W.Frag} {H : Hp} {D : Addr} {bs : List Bool} {Q : VK} (h : H D = some (.lst (bs.map V.bl))) (q : Q (.bl (bs.all id)) H) : (rAll K) [V.ref D] H Q := ⟨D, bs, rfl, SqL.of h, q⟩
theorem sz {n m : Nat} (h : n ≤ m) (hm : m ≤ 1000000 := by decide) : n < sizeLine := by
  rw [sizeLine_eq]
  exact Nat.lt_of_le_of_lt (Nat.le_trans h hm) (by decide)
/-- a built-in class as a value -/
theorem pe_tyv {X : Cx} {x : Str} {n : String} {p : Pos} (hg : Gl X x) (hm : X.mg x = none) (hv : bootBuiltins x = some (.type n)) (hn : x ≠ "__name__" := by decide) (hd : (x == ("__debug__" : Str)) = false := by decide) : PE X (.Name x p) (tC (.ty n)) :=
  pe_bltn hg hm hv rfl hn hd
end Sr

set_option Elab.async false
set_option linter.all false
set_option maxRecDepth 100000
set_option maxHeartbeats 4000000
namespace Sr
open PySem PySem.Spec PyProof.Rows L2
/-! ### a table of the top with text keys, wholly known -/
theorem find_out {P : Params} {z : Str} : ∀ {es : List DictEntry} {ks : List Str}, es.map He.keyOf = He.keysIn P ks → z ∉ ks → es.find? (·.key.isStr z) = none ∧ es.any (·.refKey) = false
  | [], _, _, _ => ⟨rfl, rfl⟩
  | e :: r, [], h, _ => by cases h
  | e :: r, k :: ks, h, hz => by
    have h1 : He.keyOf e :: r.map He.keyOf = some (k, PyData.keyHash P k) :: He.keysIn P ks := h
    injection h1 with h2 h3
    obtain ⟨i1, i2⟩ := find_out h3 fun m => hz (List.mem_cons_of_mem _ m)
    have hk : k ≠ z := fun q => hz (by rw [q]; exact List.mem_cons_self)
    obtain ⟨hs, ky, vl⟩ := e
    unfold He.keyOf at h2
    cases ky with
    | str x t =>
      have e1 : (x, hs) = (k, PyData.keyHash P k) := Option.some.inj h2
      obtain rfl : x = k := congrArg Prod.fst e1
      have n1 : (Value.str x t).isStr z = false := by
        show (x == z) = false
        simpa using hk
      exact ⟨by rw [List.find?_cons, n1]; exact i1, by rw [List.any_cons, i2]; rfl⟩
    | _ => cases h2
theorem tab_list {K : PySem.W.Frag} {w : World} {a : Addr} {ks : List Str} (h : He.dicW K a = some (He.keysIn w.params ks)) : ∃ es n, KDict K w a es n ∧ es.toList.map He.keyOf = He.keysIn w.params ks := by
  obtain ⟨es, n, D⟩ := He.dicW_ok h
  refine ⟨es, n, D, ?_⟩
  unfold He.dicW at h
  rw [D.at_] at h
  have h1 : (match decide ("dict" = "dict") && (#[].isEmpty && !(a == sysModules)) with
    | true => some (es.toList.map He.keyOf)
    | false => none) = some (He.keysIn w.params ks) := h
  rw [D.low] at h1
  exact Option.some.inj h1
theorem nsIn_out {K : PySem.W.Frag} {w : World} {a : Addr} {es : Array DictEntry} {n : Nat} {ks : List Str} {z : Str} (D : KDict K w a es n) (h : es.toList.map He.keyOf = He.keysIn w.params ks) (hz : z ∉ ks) : PySem.W.nsIn K a z = some none := by
  obtain ⟨h1, h2⟩ := find_out h hz
  unfold PySem.W.nsIn
  rw [D.at_]
  show (match es.toList.find? (·.key.isStr z) with
      | some e => some (some e.val)
      | none => if es.toList.any (·.refKey) then none else some none) = some none
  rw [h1]
  show (if es.toList.any (·.refKey) then none else some none) = some none
  rw [h2]
  rfl
/-- a call of a local name that holds a def of the top -/
theorem pe_calL {X : Cx} {k k' i : Nat} {x x0 : Str} {ps : List Str} {sp : Sp} {a : Addr} {p pos : Pos} {e : Expr} {es : List Expr} {t : TA} (C : Cal X.prog X.w X.K X.mg X.base k x0 ps sp) (hm0 : X.mg x0 = some (.ref a)) (hr : Room k' X.A) (hk : k ≤ k') (hN : X.N[i]? = some x) (hv : Vis X.env.scope x) (ha : PA X (e :: es) t)
    (hdb : (x == ("__debug__" : Str)) = false := by decide) (hcd : (x == ("__classdict__" : Str)) = false := by decide)
    (he : starEach (e :: es) X.env = (false, eval e X.env) :: starEach es X.env := by rfl) (hpl : (backTo pos (starEach es X.env)).any (·.1) = false := by rfl) : PE X (.Call (.Name x p) (e :: es) [] pos) (tCallL i a sp [] E0 t) := by
  obtain ⟨f, fd, F, hm, hkp, hb⟩ := C.ex
  obtain rfl : f = a := by
    have := hm.symm.trans hm0
    injection this with this
    injection this
  exact pe_callL F (hr.mono hk) hN hv hkp hb .nil pass0 ha hdb hcd he hpl
end Sr

set_option Elab.async false
set_option linter.all false
set_option maxRecDepth 100000
set_option maxHeartbeats 4000000
namespace Sr
open PySem PySem.Spec PyProof.Rows L2
/-! ### dicts with text keys, as pairs of a text and what stands for it -/
/-- the entries of kvs are the texts ss, in order, and what Rv says of each stands under it -/
abbrev Ent (Rv : Str → V → Prop) (kvs : List (Key × V)) (ss : List Str) : Prop := Paired (fun kv s => kv.1 = Sum.inr s ∧ Rv s kv.2) kvs ss
theorem Ent.keys {Rv : Str → V → Prop} : ∀ {kvs : List (Key × V)} {ss : List Str}, Ent Rv kvs ss → kvs.map (·.1) = ss.map Sum.inr
  | _, _, .nil => rfl
  | _, _, .cons h r => by rw [List.map_cons, List.map_cons, h.1, Ent.keys r]
theorem Ent.imp {Rv Rv' : Str → V → Prop} (f : ∀ s v, Rv s v → Rv' s v) : ∀ {kvs : List (Key × V)} {ss : List Str}, Ent Rv kvs ss → Ent Rv' kvs ss
  | _, _, .nil => .nil
  | _, _, .cons h r => .cons ⟨h.1, f _ _ h.2⟩ (Ent.imp f r)
theorem Ent.len {Rv : Str → V → Prop} {kvs : List (Key × V)} {ss : List Str} (h : Ent Rv kvs ss) : kvs.length = ss.length := Paired.length h
theorem Ent.snoc {Rv : Str → V → Prop} {s : Str} {v : V} (hv : Rv s v) : ∀ {kvs : List (Key × V)} {ss : List Str}, Ent Rv kvs ss → Ent Rv (kvs ++ [(Sum.inr s, v)]) (ss ++ [s])
  | _, _, .nil => .cons ⟨rfl, hv⟩ .nil
  | _, _, .cons h r => .cons h (Ent.snoc hv r)
theorem Ent.at_ {Rv : Str → V → Prop} {s : Str} : ∀ {kvs : List (Key × V)} {ss : List Str}, Ent Rv kvs ss → s ∈ ss → ∃ v, valV kvs (Sum.inr s) = some v ∧ Rv s v
  | _, _, .cons (a := kv) (b := x) h r, m => by
    unfold valV
    rw [List.find?_cons]
    by_cases c : x = s
    · subst c
      rw [h.1, decide_eq_true rfl]
      exact ⟨_, rfl, h.2⟩
    · have m' : s ∈ _ := (List.mem_cons.mp m).resolve_left fun q => c q.symm
      rw [h.1, decide_eq_false fun q => c (Sum.inr.inj q)]
      exact Ent.at_ r m'
theorem Ent.out {Rv : Str → V → Prop} {s : Str} : ∀ {kvs : List (Key × V)} {ss : List Str}, Ent Rv kvs ss → s ∉ ss → valV kvs (Sum.inr s) = none
  | _, _, .nil, _ => rfl
  | _, _, .cons (a := kv) (b := x) h r, m => by
    unfold valV
    rw [List.find?_cons, h.1, decide_eq_false fun q => m (by rw [Sum.inr.inj q]; exact List.mem_cons_self)]
    exact Ent.out r fun q => m (List.mem_cons_of_mem _ q)
theorem Ent.has {Rv : Str → V → Prop} {kvs : List (Key × V)} {ss : List Str} (h : Ent Rv kvs ss) (s : Str) : (valV kvs (Sum.inr s)).isSome = decide (s ∈ ss) := by
  by_cases m : s ∈ ss
  · obtain ⟨v, e, _⟩ := h.at_ m
    rw [e, decide_eq_true m]
    rfl
  · rw [h.out m, decide_eq_false m]
    rfl
theorem putK_new {kvs : List (Key × V)} {k : Key} {v : V} (h : k ∉ kvs.map (·.1)) : putK kvs k v = kvs ++ [(k, v)] := by
  unfold putK
  rw [if_neg]
  intro q
  obtain ⟨kv, m, e⟩ := List.any_eq_true.mp q
  exact h (List.mem_map.mpr ⟨kv, m, of_decide_eq_true e⟩)
theorem Ent.put {Rv : Str → V → Prop} {kvs : List (Key × V)} {ss : List Str} {s : Str} {v : V} (h : Ent Rv kvs ss) (m : s ∉ ss) (hv : Rv s v) : Ent Rv (putK kvs (Sum.inr s) v) (ss ++ [s]) := by
  rw [putK_new]
  · exact h.snoc hv
  · rw [h.keys]
    intro q
    obtain ⟨x, m', e⟩ := List.mem_map.mp q
    exact m (by rw [← Sum.inr.inj e]; exact m')
/-- a dict comprehension of one name with unlike texts for keys; nothing that stood is changed -/
theorem dc_texts {J : It} {n : Nat} {G : Hp → Prop} {Y : Nat → Hp → V → Hp → Prop} {At : Nat → V → Prop} (w : Walk J n G Y) (hy : ∀ i H x H', Y i H x H' → H' = H ∧ At i x) {tk tv : TE} {j : Nat} {σ : L2.St} {H : Hp} {D : Addr} {Qd : Hp → Prop}
    (ss : List Str) (hn : ss.length = n) (nd : ss.Nodup) (hz : n < sizeLine) (hD : H D = none) (hG : ∀ H', Same H H' → G H') (Rv : Hp → Str → V → Prop) (mono : ∀ H1 H2 s v, Same H1 H2 → Rv H1 s v → Rv H2 s v)
    (lay : ∀ H1 s v c c', H1 D = some (.dK c) → Rv H1 s v → Rv (upd H1 D (.dK c')) s v)
    (turn : ∀ (i : Nat) (x : V) (s : Str) (H1 : Hp) (R : V → V → Hp → Prop), i < n → At i x → ss[i]? = some s → Same H H1 → (∀ H2 z, Same H1 H2 → Rv H2 s z → R (.str s) z H2) → tk ((σ.set j none).set j (some x)) H1 fun y H2 => tv ((σ.set j none).set j (some x)) H2 fun z H3 => R y z H3)
    (fin : ∀ H' kvs, Same H H' → H' D = some (.dK kvs) → Ent (Rv H') kvs ss → Qd H') :
    ∃ W : Nat → Nat → Hp → Prop, (∃ m, W 0 m (upd H D (.dK []))) ∧ ∀ i m H, W i m H →
      (J.stop i H ∧ Qd H) ∨ (J.go i H ∧ ∃ Nx : Hp → Prop, (∀ H', Nx H' → ∃ m', m' < m ∧ W (i + 1) m' H') ∧ ∀ x H', J.yld i H x H' → (gName j) x (wipe σ [j]) H' fun σ2 H2 => wipe σ2 [j] = wipe σ [j] ∧ tYes σ2 H2 fun b H3 =>
        if b = true then tk σ2 H3 fun y H4 => tv σ2 H4 fun z H5 => ∃ kvs k, y = kV k ∧ H5 D = some (.dK kvs) ∧ kvs.length < sizeLine ∧ Nx (upd H5 D (.dK (putK kvs k z))) else Nx H3) := by
  have below : ∀ {H1 H2 : Hp} {o : HO}, Same H H1 → Same H1 H2 → Same H (upd H2 D o) := fun {H1 H2 o} a b c u e => by
    rw [upd_ne (ne_of_none e hD)]
    exact b _ _ (a _ _ e)
  refine ⟨fun i m H' => m = n - i ∧ i ≤ n ∧ Same H H' ∧ ∃ kvs, H' D = some (.dK kvs) ∧ Ent (Rv H') kvs (ss.take i), ⟨n, by simp, Nat.zero_le _, Same.up hD, [], upd_same, by rw [List.take_zero]; exact .nil⟩, ?_⟩
  rintro i m H1 ⟨rfl, hi, s1, kvs, hd, he⟩
  by_cases lt : i < n
  · refine .inr ⟨w.goes i H1 lt (hG _ s1), fun H' => i + 1 ≤ n ∧ Same H H' ∧ ∃ kvs, H' D = some (.dK kvs) ∧ Ent (Rv H') kvs (ss.take (i + 1)), fun H' p => ⟨n - (i + 1), by omega, rfl, p⟩, fun x H2 y => ?_⟩
    obtain ⟨rfl, hx⟩ := hy _ _ _ _ (w.yields i H1 x H2 lt (hG _ s1) y)
    refine ⟨?_, ?_⟩
    · show ((σ.set j none).set j (some x)).set j none = σ.set j none
      rw [List.set_set, List.set_set]
    · unfold tYes
      simp only [if_true]
      have hi' : i < ss.length := by omega
      refine turn i x ss[i] H2 _ lt hx (List.getElem?_eq_getElem hi') s1 fun H3 z s3 rv => ?_
      have hl := he.len
      rw [List.length_take] at hl
      have nm : ss[i] ∉ ss.take i := fun q => by
        obtain ⟨a, ha, e⟩ := List.mem_take_iff_getElem.mp q
        exact (List.pairwise_iff_getElem.mp nd) a i (by omega) hi' (by omega) e
      refine ⟨kvs, Sum.inr ss[i], rfl, s3 _ _ hd, by omega, lt, below s1 s3, _, upd_same, ?_⟩
      rw [List.take_add_one, List.getElem?_eq_getElem hi']
      have r1 : Ent (Rv (upd H3 D (.dK (putK kvs (Sum.inr ss[i]) z)))) kvs (ss.take i) := he.imp fun s v r => lay _ _ _ _ _ (s3 _ _ hd) (mono _ _ _ _ s3 r)
      exact r1.put nm (lay _ _ _ _ _ (s3 _ _ hd) rv)
  · obtain rfl : i = n := by omega
    refine .inl ⟨w.stops H1 (hG _ s1), fin H1 kvs s1 hd ?_⟩
    rwa [← hn, List.take_length] at he
end Sr

set_option Elab.async false
set_option linter.all false
set_option maxRecDepth 100000
set_option maxHeartbeats 4000000
namespace Sr
open PySem PySem.Spec PyProof.Rows L2
/-! ### rules that name the written part, for a comprehension's block -/
section
variable {X : Cx}
theorem op_in_seqK (K : PySem.W.Frag) (hK : X.K = K) : OpR X (compareOp .In) (rIn K false) := hK ▸ op_in_seq
theorem call_isiK' (K : PySem.W.Frag) (hK : X.K = K) : CallR X (.builtin "isinstance") (rIsi K) := hK ▸ call_isi
theorem call_isiTK (K : PySem.W.Frag) (hK : X.K = K) : CallR X (.builtin "isinstance") (rIsiT K) := hK ▸ call_isiT
theorem ix_listK (K : PySem.W.Frag) (hK : X.K = K) : IxR X (rIxL K) := hK ▸ ix_list
theorem ix_tupK (K : PySem.W.Frag) (hK : X.K = K) : IxR X (rIxT K) := hK ▸ ix_tup
theorem call_len_seqK (K : PySem.W.Frag) (hK : X.K = K) : CallR X (.builtin "len") (fun xs H Q => ∃ p ys, xs = [.ref p] ∧ (SqL K H p ys ∨ SqT K H p ys) ∧ Q (.int ys.length) H) := hK ▸ call_len_seq
theorem call_list_ofK (K : PySem.W.Frag) (hK : X.K = K) : CallR X (.type "list") (fun xs H Q => ∃ p ys, xs = [.ref p] ∧ (SqL K H p ys ∨ SqT K H p ys) ∧ ∀ l, H l = none → Q (.ref l) (upd H l (.lst ys))) := hK ▸ call_list_of
theorem call_tuple_ofK (K : PySem.W.Frag) (hK : X.K = K) : CallR X (.type "tuple") (fun xs H Q => ∃ p ys, xs = [.ref p] ∧ ((SqL K H p ys ∧ ∀ l, H l = none → Q (.ref l) (upd H l (.tup ys))) ∨ (SqT K H p ys ∧ Q (.ref p) H))) := hK ▸ call_tuple_of
theorem op_eqDK (K : PySem.W.Frag) (hK : X.K = K) (h : X.A.units + 64 < cLine) : OpR X (compareOp .Eq) (rEqD K) := hK ▸ op_eqD h
theorem op_neDK (K : PySem.W.Frag) (hK : X.K = K) (h : X.A.units + 64 < cLine) : OpR X (compareOp .NotEq) (rNeD K) := hK ▸ op_neD h
end
theorem Paired.at2 {α β : Type} {F : α → β → Prop} : ∀ {l : List α} {m : List β} {i : Nat} {a : α} {b : β}, Paired F l m → l[i]? = some a → m[i]? = some b → F a b
  | _, _, _, _, _, .nil, h, _ => by simp at h
  | _, _, 0, _, _, .cons h _, h1, h2 => by
    simp at h1 h2
    rw [← h1, ← h2]
    exact h
  | _, _, i + 1, a, b, .cons _ r, h1, h2 => Paired.at2 (i := i) (a := a) (b := b) r (by simpa using h1) (by simpa using h2)
end Sr

set_option Elab.async false
set_option linter.all false
set_option maxRecDepth 100000
set_option maxHeartbeats 4000000
namespace Sr
open PySem PySem.Spec PyProof.Rows L2
/-! ### what a law's own steps leave: M is settled for ever, S may change -/
def DrawsO (o : HO) : Prop := ∃ x y z : Int, o = .lst [.int x, .int y, .int z]
def DrawsAt (H : Hp) (a : Addr) : Prop := ∃ o, H a = some o ∧ DrawsO o
structure Grow (S : List Addr) (M H M' H' : Hp) : Prop where
  stp : ∀ b o, b ∉ S → H b = some o → H' b = some o
  there : ∀ b, H b ≠ none → H' b ≠ none
  up : Same M M'
  nw : ∀ b o, M' b = some o → M b = some o ∨ H b = none
  sub : Same M' H'
theorem Grow.refl {S : List Addr} {M H : Hp} (s : Same M H) : Grow S M H M H := ⟨fun _ _ _ e => e, fun _ e => e, Same.refl _, fun _ _ e => .inl e, s⟩
theorem Grow.trans {S : List Addr} {M H M1 H1 M2 H2 : Hp} (g : Grow S M H M1 H1) (g' : Grow S M1 H1 M2 H2) : Grow S M H M2 H2 where
  stp := fun b o hb e => g'.stp b o hb (g.stp b o hb e)
  there := fun b e => g'.there b (g.there b e)
  up := g.up.trans g'.up
  nw := fun b o e => by
    rcases g'.nw b o e with h | h
    · exact g.nw b o h
    · cases q : H b with
      | none => exact .inr rfl
      | some u => exact absurd h (g.there b (by rw [q]; simp))
  sub := g'.sub
theorem Grow.mono {S S' : List Addr} {M H M' H' : Hp} (g : Grow S M H M' H') (h : ∀ b ∈ S, b ∈ S') : Grow S' M H M' H' :=
  ⟨fun b o hb e => g.stp b o (fun z => hb (h b z)) e, g.there, g.up, g.nw, g.sub⟩
/-- an address that stands and is not settled stays unsettled -/
theorem Grow.out {S : List Addr} {M H M' H' : Hp} (g : Grow S M H M' H') {b : Addr} (h1 : M b = none) (h2 : H b ≠ none) : M' b = none := by
  cases q : M' b with
  | none => rfl
  | some o =>
    rcases g.nw b o q with h | h
    · rw [h1] at h; cases h
    · exact absurd h h2
/-- nothing that stood is changed, nothing is settled -/
theorem Grow.same {S : List Addr} {M H H' : Hp} (s : Same M H) (e : Same H H') : Grow S M H M H' :=
  ⟨fun b o _ h => e b o h, fun b h => by
    cases q : H b with
    | none => exact absurd q h
    | some o => rw [e b o q]; simp, Same.refl _, fun _ _ h => .inl h, s.trans e⟩
/-- a new object, settled -/
theorem Grow.lay {S : List Addr} {M H : Hp} {p : Addr} {o : HO} (s : Same M H) (hp : H p = none) : Grow S M H (upd M p o) (upd H p o) := by
  have mp : M p = none := s.free hp
  refine ⟨fun b u _ e => Same.up hp b u e, fun b h => ?_, Same.up mp, fun b u e => ?_, fun b u e => ?_⟩
  · by_cases c : b = p
    · rw [c]; exact absurd hp (c ▸ h)
    · rw [upd_ne c]; exact h
  · by_cases c : b = p
    · rw [c]; exact .inr hp
    · rw [upd_ne c] at e; exact .inl e
  · by_cases c : b = p
    · rw [c] at e ⊢; rw [upd_same] at e ⊢; exact e
    · rw [upd_ne c] at e ⊢; exact s _ _ e
/-- an object that may change is changed -/
theorem Grow.chg {S : List Addr} {M H : Hp} {p : Addr} {o : HO} (s : Same M H) (mp : M p = none) (hS : p ∈ S) : Grow S M H M (upd H p o) :=
  ⟨fun b u hb e => by rw [upd_ne fun z => hb (by rw [z]; exact hS)]; exact e, fun b h => by
    by_cases c : b = p
    · rw [c, upd_same]; simp
    · rw [upd_ne c]; exact h, Same.refl _, fun _ _ h => .inl h, fun b u e => by
    rw [upd_ne fun z => by rw [z, mp] at e; cases e]
    exact s _ _ e⟩
/-- an object of one's own, made since, is changed -/
theorem Grow.own {S : List Addr} {M0 H0 M H : Hp} {p : Addr} {o : HO} (g : Grow S M0 H0 M H) (h0 : H0 p = none) (mp : M p = none) : Grow S M0 H0 M (upd H p o) :=
  ⟨fun b u hb e => by rw [upd_ne (ne_of_none e h0)]; exact g.stp b u hb e, fun b h => by
    by_cases c : b = p
    · rw [c, upd_same]; simp
    · rw [upd_ne c]; exact g.there b h, g.up, g.nw, fun b u e => by
    rw [upd_ne fun z => by rw [z, mp] at e; cases e]
    exact g.sub _ _ e⟩
/-- what was made since is settled from now on -/
theorem Grow.settle {S : List Addr} {M0 H0 M H : Hp} {p : Addr} {o : HO} (g : Grow S M0 H0 M H) (h0 : H0 p = none) (mp : M p = none) (hp : H p = some o) : Grow S M0 H0 (upd M p o) H :=
  ⟨g.stp, g.there, g.up.trans (Same.up mp), fun b u e => by
    by_cases c : b = p
    · rw [c]; exact .inr h0
    · rw [upd_ne c] at e; exact g.nw b u e, fun b u e => by
    by_cases c : b = p
    · rw [c] at e ⊢; rw [upd_same] at e; rw [hp]; exact e
    · rw [upd_ne c] at e; exact g.sub _ _ e⟩
theorem DrawsAt.some {H : Hp} {a : Addr} (d : DrawsAt H a) : H a ≠ none := by
  obtain ⟨o, e, _⟩ := d
  rw [e]
  simp
theorem seq_upd {K : PySem.W.Frag} {H : Hp} {a l : Addr} {o : HO} {xs : List V} (hn : l ≠ a) (h : SqL K H l xs ∨ SqT K H l xs) : SqL K (upd H a o) l xs ∨ SqT K (upd H a o) l xs := by
  have e : upd H a o l = H l := upd_ne hn
  rcases h with h | h
  · left
    rcases h with h | h
    · left
      rcases h with h | ⟨u, h⟩
      · exact .inl (e.trans h)
      · exact .inr ⟨u, e.trans h⟩
    · exact .inr h
  · right
    rcases h with h | h
    · left
      rcases h with h | ⟨u, h⟩
      · exact .inl (e.trans h)
      · exact .inr ⟨u, e.trans h⟩
    · exact .inr h
theorem atI_of {α : Type} {xs : List α} {i : Int} {j : Nat} {v : α} (e : i = (j : Int)) (h : xs[j]? = some v) : atI xs i = some v := by
  have hj : j < xs.length := (List.getElem?_eq_some_iff.mp h).1
  unfold atI ixN
  rw [if_pos (by omega), if_pos (by omega)]
  show xs[i.toNat]? = _
  rw [show i.toNat = j by omega]
  exact h
theorem iteB {b : Bool} {A B : Prop} (h1 : A) (h2 : B) : if b = true then A else B := by
  cases b
  · exact iteF h2
  · exact iteT h1
end Sr

set_option Elab.async false
set_option linter.all false
set_option maxRecDepth 100000
set_option maxHeartbeats 4000000
namespace Sr
open PySem PySem.Spec PyProof.Rows L2
/-! ### several except clauses, each with a name for the error -/
abbrev Su := Addr → Value → Option Addr → TS
/-- a clause: the class, the slot of the name, what the suite does -/
abbrev Clause := Value × Nat × Su
/-- the ends of a suite: the name goes -/
def gone (i : Nat) (D : Ends) : Ends where
  nx := fun σ H => D.nx (σ.set i none) H
  rt := D.rt
  bk := fun σ H => D.bk (σ.set i none) H
  ct := fun σ H => D.ct (σ.set i none) H
def wNamed (K : PySem.W.Frag) (Wout : WX) (D : Ends) : List Clause → WX
  | [] => Wout
  | k :: r => fun cls d σ H => ∃ hit, PySem.W.exmOne K cls k.1 = some hit ∧
      (if hit = true then ∀ a, H a = none → k.2.2 a cls d (gone k.2.1 D) (σ.set k.2.1 (some (.ref a))) H else wNamed K Wout D r cls d σ H)
structure ClauseOk (X : Cx) (h : ExceptHandler) (k : Clause) : Prop where
  is_ : ∃ (x n : Str) (b₀ : Stmt) (rest : List Stmt) (p q : Pos), h = .ExceptHandler (some (.Name x p)) (some n) (b₀ :: rest) q ∧ Names X x k.1 ∧ X.N[k.2.1]? = some n ∧ X.env.kindOf n = some .local ∧
    ∀ (a : Addr) (oe : Obj) (cls : Value) (d : Option Addr) (pn : List (Addr × Obj)), Zc cls d oe → (∃ vs, oe.data = .fields vs) → PSs (X.suite a ((a, oe) :: pn)) (b₀ :: rest) (k.2.2 a cls d)
/-- an error has been caught: what stood stays, the error flies no more -/
def Fell (X : Cx) (pins : List (Addr × Obj)) (σ : L2.St) (H : Hp) (B : Heap) (a : Addr) (cls : Value) (d : Option Addr) (t : Shared) : Prop :=
  ∃ sI : Shared, Inv X pins σ H sI ∧ (∀ b o, sI.heap.get? b = some o → b ∉ frs X.stack → B.get? b = some o) ∧ sI.heap.UpToSlots t.heap ∧
    HandSPX.FlyingZ B (X.env :: X.outer) a (Zc cls d) t.heap ∧ H a = none ∧ t.os = sI.os ∧ AllBare t.gens
section
variable {X : Cx} {pins : List (Addr × Obj)} {σ : L2.St} {H : Hp} {B : Heap} {a : Addr} {cls : Value} {d : Option Addr} {t : Shared}
theorem Fell.inv (f : Fell X pins σ H B a cls d t) : Inv X pins σ H t := by
  obtain ⟨sI, I, nb, up, fl, _, os, ag⟩ := f
  exact I.landed nb fl.1 up os ag
theorem Fell.again (f : Fell X pins σ H B a cls d t) {h' : Heap} (fl' : HandSPX.FlyingZ B (X.env :: X.outer) a (Zc cls d) h') (up' : t.heap.UpToSlots h') : Fell X pins σ H B a cls d { t with heap := h' } := by
  obtain ⟨sI, I, nb, up, _, na, os, ag⟩ := f
  exact ⟨sI, I, nb, up.trans up', fl', na, os, ag⟩
theorem Fell.stands (f : Fell X pins σ H B a cls d t) (hf : X.env.frame = some X.env.locals) :
    ∃ oe, t.heap.get? a = some oe ∧ Zc cls d oe ∧ (∃ vs, oe.data = .fields vs) ∧ Inv (X.suite a ((a, oe) :: (X.pn ++ pins))) [] σ H t := by
  have J := f.inv
  obtain ⟨sI, I, nb, up, fl, na, os, ag⟩ := f
  obtain ⟨oe, vs, e, z, dd⟩ := fl.there
  have out : a ∉ frs (X.env :: X.outer) := fun m => by
    obtain ⟨_, o2, e2, nf⟩ := fl.2.2.1.mem m
    rw [e] at e2
    cases e2
    exact nf vs dd
  have o1 : a ≠ X.env.locals := fun z => out (List.mem_filterMap.mpr ⟨_, List.mem_cons_self, z ▸ hf⟩)
  have o2 : a ∉ X.fs := fun m => by
    obtain ⟨v, mv, ev⟩ := List.mem_filterMap.mp m
    exact out (List.mem_filterMap.mpr ⟨v, List.mem_cons_of_mem _ mv, ev⟩)
  exact ⟨oe, e, z, ⟨vs, dd⟩, J.suite e dd na o1 o2⟩
/-- no clause fits: the error flies on -/
theorem Fell.on (f : Fell X pins σ H B a cls d t) (hs : X.stack = X.env :: X.outer) (hf : X.env.frame = some X.env.locals) {Wout : WX} {D : Ends} (tk : Takes X Wout) (w : Wout cls d σ H) :
    wpAny (model X.prog X.w) X.A (handleBy (.ref a) X.env []) (SP X pins D) X.xe t := by
  obtain ⟨sI, I, nb, up, fl, na, os, ag⟩ := f
  obtain ⟨_, _, _, oe, vs, T, oT, ts, e, z, dd, v1, _⟩ := id fl
  have leaves : wpAny (model X.prog X.w) X.A (setFlight (.ref a) X.env.frame) (fun _ u => wpAny (model X.prog X.w) X.A (throw (.ref a) : Sem Flow) (SP X pins D) X.xe u) X.xe t := by
    rw [hf]
    exact HandSPX.setFlight_upZ fl fun h' held up' => wpAny_throw (tk _ _ ⟨a, B, sI, pins, σ, H, cls, d, rfl, I, nb, up.trans up', .inr (.inr (hs ▸ held)), na, os, ag, w⟩)
  refine wpAny_handleBy_nil ?_
  unfold PySem.passOn
  refine wpAny_bind (wpAny_field e dd v1 ?_)
  have no : ¬ ((Value.ref T == Value.none) = true) := by simp
  rw [if_neg no]
  first
    | exact wpAny_bind leaves
    | exact wpAny_bind (wpAny_pure (wpAny_bind leaves))
theorem Fell.cls_ (f : Fell X pins σ H B a cls d t) (hf : X.env.frame = some X.env.locals) {x : Str} {c : Value} {np : Pos} (hc : Names X x c) {Q : Value → Shared → Prop} {E : Value → Shared → Prop} (q : Q c t) :
    wpAny (model X.prog X.w) (X.A.mark (some (.ref a))) (eval (.Name x np) X.env) Q E t := by
  obtain ⟨oe, _, _, _, S⟩ := f.stands hf
  obtain ⟨g, nd, c1 | ⟨c1, c2, c3⟩⟩ := hc
  · exact ld_glob (X := X.suite a _) S g c1 q nd
  · exact ld_blt (X := X.suite a _) S g c1 c2 q c3 nd
theorem Fell.go {Wout : WX} {D : Ends} (hs : X.stack = X.env :: X.outer) (hf : X.env.frame = some X.env.locals) (hN : X.N.Nodup) (tk : Takes X Wout) : ∀ {hds : List ExceptHandler} {l : List Clause}, Paired (ClauseOk X) hds l → ∀ {t : Shared}, Fell X pins σ H B a cls d t →
    wNamed X.K Wout D l cls d σ H → wpAny (model X.prog X.w) X.A (handleBy (.ref a) X.env hds) (SP X pins D) X.xe t
  | _, _, .nil, _, f, w => f.on hs hf tk w
  | _, _, .cons hk r, t, f, w => by
    obtain ⟨x, n, b₀, rest, p, p', rfl, hc, hi, hl, body⟩ := hk.is_
    obtain ⟨hit, e1, w⟩ := w
    obtain ⟨oe, e, z, _, _⟩ := f.stands hf
    have looks : PySem.W.Looks (model X.prog X.w) t.heap (typeOf (.ref a)) cls := fun _ _ _ _ k q => wpAny_typeOf_ref (k _ _ e) (by rw [z.1]; exact q)
    have fits := PySem.W.exm_one (M := model X.prog X.w) f.inv.kIn looks e1
    refine wpAny_handleBy_cons (codeAny_handlers_test (f.cls_ hf hc (fits.here ?_))) fun q => by cases q
    cases hit with
    | false => exact Fell.go hs hf hN tk r f w
    | true =>
      refine codeAny_handlers_suite_as (HandSPX.lands_againZ (by obtain ⟨_, _, _, _, fl, _⟩ := f; exact fl) fun h' fl' up' => ?_)
      have f' := f.again fl' up'
      obtain ⟨oe2, _, z2, dd2, S⟩ := f'.stands hf
      have na : H a = none := by obtain ⟨_, _, _, _, _, na, _⟩ := f; exact na
      refine store_ok (X := X.suite a _) (v := .ref a) S hN hi (.inl hl) rfl (fun s5 S5 => ?_) (.inr hl)
      refine wpAny_mono ((body a oe2 cls d _ z2 dd2).run [] s5 _ H (gone _ D) S5 (w a na)) (fun fl s6 sp => ?_) fun _ _ z => z.elim
      have off : ∀ {σ6 : L2.St} {H6 : Hp} {Q : Shared → Prop}, Inv (X.suite a ((a, oe2) :: (X.pn ++ pins))) [] σ6 H6 s6 → (∀ s7, Inv X pins (σ6.set _ none) H6 s7 → Q s7) →
          wpAny (model X.prog X.w) X.A (do bindName X.env n .none; unbindBehindTheSuite X.env n p') (fun _ s7 => Q s7) X.xe s6 := fun S6 hq => gone_ok (S6.unsuite f.inv.ok) hN hi hl hq
      cases fl with
      | ret u =>
        obtain ⟨v6, _, _, S6, r6, q6⟩ := sp
        exact off S6 fun _ J => ⟨v6, _, _, J, r6, q6⟩
      | next => exact sp.elim fun _ y => y.elim fun _ y => off y.1 fun _ J => ⟨_, _, J, y.2⟩
      | brk => exact sp.elim fun _ y => y.elim fun _ y => off y.1 fun _ J => ⟨_, _, J, y.2⟩
      | cont => exact sp.elim fun _ y => y.elim fun _ y => off y.1 fun _ J => ⟨_, _, J, y.2⟩
end
/-- try: body, except x as n: .. except y as m: .. -/
theorem ps_try_named {X : Cx} {body : List Stmt} {h₀ : ExceptHandler} {hds : List ExceptHandler} {l : List Clause} {pos : Pos} {tb : WX → TS} {Wout : WX} (hs : X.stack = X.env :: X.outer) (hf : X.env.frame = some X.env.locals) (hN : X.N.Nodup) (tk : Takes X Wout)
    (hb : ∀ (W : WX) (pn : List (Addr × Obj)) (xe : Value → Shared → Prop), Takes (X.tr pn xe) W → PassesOwn (model X.prog X.w) X.A X.env xe → PSs (X.tr pn xe) body (tb W)) (hk : Paired (ClauseOk X) (h₀ :: hds) l) :
    PS X (.Try body (h₀ :: hds) [] [] pos) (fun D σ H => tb (wNamed X.K Wout D l) D σ H) := by
  refine ⟨fun pins s σ H D I h => wpAny_Try_except ?_⟩
  let xt : Value → Shared → Prop := fun e s₁ => wpAny (model X.prog X.w) X.A (noteFrame e X.env) (fun _ s₂ => wpAny (model X.prog X.w) X.A (setFlight e none)
    (fun _ s₃ => wpAny (model X.prog X.w) X.A (handleBy e X.env (h₀ :: hds)) (SP X pins D) X.xe s₃) X.xe s₂) X.xe s₁
  have takes : Takes (X.tr (X.pn ++ pins) xt) (wNamed X.K Wout D l) := fun u s' y => by
    obtain ⟨a, B, sI, pins', σ', H', cls, d, rfl, J', nb, up, sky, na, os, ag, w⟩ := y
    have hfr : X.A.frames = some (X.env :: X.outer) := I.ok.frames.trans (congrArg some hs)
    exact Sky.land Zc.steady hfr hf (hs ▸ sky) fun h3 fl3 up3 => Fell.go hs hf hN tk hk ⟨sI, J'.ofTry I.ok, nb, up.trans up3, fl3, na, os, ag⟩ w
  refine wpAny_mono ((hb _ _ xt takes PassesOwn.looking).run [] s σ H D (I.toTry _) h) (fun f s1 sp => ?_) fun _ _ he => he
  cases f with
  | ret u =>
    obtain ⟨v, _, _, J, r, q⟩ := sp
    exact ⟨v, _, _, J.ofTry I.ok, r, q⟩
  | next => exact sp.elim fun _ y => y.elim fun _ y => wpAny_execs_nil ⟨_, _, y.1.ofTry I.ok, y.2⟩
  | brk => exact sp.elim fun _ y => y.elim fun _ y => ⟨_, _, y.1.ofTry I.ok, y.2⟩
  | cont => exact sp.elim fun _ y => y.elim fun _ y => ⟨_, _, y.1.ofTry I.ok, y.2⟩
end Sr

set_option Elab.async false
set_option linter.all false
set_option maxRecDepth 100000
set_option maxHeartbeats 4000000
namespace Sr
open PySem PySem.Spec PyProof.Rows L2
/-! ### own errors below ValueError, at any depth of classes, with an own __init__ -/
def errSl (sl : Array (Option Value)) : Bool := match sl.toList with
  | [_, _, _, _, some (.builtin n), _] => decide (n = "ValueError.__new__")
  | _ => false
def errCl (C : Addr) (k : ClassData) : Bool := match k.mro with
  | .ref c :: r => decide (c = C) && (PySem.HandSPX.refsVE r && (k.hasDict && !k.hasDel))
  | _ => false
def errB (K : PySem.W.Frag) (C : Addr) : Bool := match K.lookup C with
  | some ⟨.type t, _, .cls k, sl⟩ => decide (t = "type") && (errCl C k && errSl sl)
  | _ => false
theorem errSl_ok {sl : Array (Option Value)} (h : errSl sl = true) : ∃ k0 k1 k2 k3 k5, sl = #[k0, k1, k2, k3, some (.builtin "ValueError.__new__"), k5] := by
  obtain ⟨l⟩ := sl
  unfold errSl at h
  match l, h with
  | [k0, k1, k2, k3, some (.builtin n), k5], h =>
    obtain rfl : n = "ValueError.__new__" := of_decide_eq_true h
    exact ⟨k0, k1, k2, k3, k5, rfl⟩
theorem errCl_ok {C : Addr} {k : ClassData} (h : errCl C k = true) : ∃ bm, k.mro = .ref C :: bm ∧ PySem.HandSPX.refsVE bm = true ∧ k.hasDict = true ∧ k.hasDel = false := by
  unfold errCl at h
  cases e : k.mro with
  | nil => rw [e] at h; cases h
  | cons c r =>
    rw [e] at h
    cases c with
    | ref c =>
      have h' : (decide (c = C) && (PySem.HandSPX.refsVE r && (k.hasDict && !k.hasDel))) = true := h
      obtain ⟨a1, a2⟩ := Bool.and_eq_true_iff.mp h'
      obtain ⟨a2, a3⟩ := Bool.and_eq_true_iff.mp a2
      obtain ⟨a3, a4⟩ := Bool.and_eq_true_iff.mp a3
      obtain rfl : c = C := of_decide_eq_true a1
      exact ⟨r, rfl, a2, a3, by simpa using a4⟩
    | _ => cases h
theorem errB_ok {K : PySem.W.Frag} {C : Addr} (h : errB K C = true) : ∃ nm q N bs bm sn sub ab col dd k0 k1 k2 k3 k5,
    K.lookup C = some (excClassObj nm q C N bs bm true sn sub ab col dd k0 k1 k2 k3 k5 "ValueError.__new__") ∧ PySem.HandSPX.refsVE bm = true := by
  unfold errB at h
  cases e : K.lookup C with
  | none => rw [e] at h; cases h
  | some o =>
    rw [e] at h
    obtain ⟨oc, od, dt, sl⟩ := o
    cases oc with
    | type t =>
      cases dt with
      | cls k =>
        have h' : (decide (t = "type") && (errCl C k && errSl sl)) = true := h
        obtain ⟨h1, h2⟩ := Bool.and_eq_true_iff.mp h'
        obtain ⟨h4, h5⟩ := Bool.and_eq_true_iff.mp h2
        obtain ⟨bm, m1, m2, m3, m4⟩ := errCl_ok h4
        obtain rfl : t = "type" := of_decide_eq_true h1
        obtain ⟨k0, k1, k2, k3, k5, rfl⟩ := errSl_ok h5
        obtain ⟨nm, bs, mro, N, q, hd, sn, sub, ab, col, del⟩ := k
        obtain rfl : mro = .ref C :: bm := m1
        obtain rfl : hd = true := m3
        obtain rfl : del = false := m4
        exact ⟨nm, q, N, bs, bm, sn, sub, ab, col, od, k0, k1, k2, k3, k5, rfl, m2⟩
      | _ => cases h
    | _ => cases h
/-- all that an own error's class must be, as one look -/
def errAll (K : PySem.W.Frag) (C f : Addr) (at_ : Str) : Bool := errB K C && (decide (PySem.W.findIn K (.ref C) "__setattr__" = some (some (.builtin "object.__setattr__"))) && (decide (PySem.W.subIn K (.ref C) (.type "BaseException") = some true) &&
  (decide (PySem.W.typeIn K (.ref C) = some (.type "type")) && (PySem.W.keepIn K (.ref C) && (decide (PySem.W.findIn K (.ref C) "__init__" = some (some (.ref f))) && (decide (PySem.W.typeIn K (.ref f) = some (.type "function")) &&
  (decide (PySem.W.findIn K (.ref C) at_ = some none) && xfB K C)))))))
structure Err (K : PySem.W.Frag) (C f : Addr) (at_ : Str) : Prop where
  oex : OexC K C
  init : PySem.W.findIn K (.ref C) "__init__" = some (some (.ref f))
  fn : PySem.W.typeIn K (.ref f) = some (.type "function")
  no : PySem.W.findIn K (.ref C) at_ = some none
  xf : XfC K C
theorem errAll_ok {K : PySem.W.Frag} {C f : Addr} {at_ : Str} (h : errAll K C f at_ = true) : Err K C f at_ := by
  obtain ⟨h1, h⟩ := Bool.and_eq_true_iff.mp h
  obtain ⟨h2, h⟩ := Bool.and_eq_true_iff.mp h
  obtain ⟨h3, h⟩ := Bool.and_eq_true_iff.mp h
  obtain ⟨h4, h⟩ := Bool.and_eq_true_iff.mp h
  obtain ⟨h5, h⟩ := Bool.and_eq_true_iff.mp h
  obtain ⟨h6, h⟩ := Bool.and_eq_true_iff.mp h
  obtain ⟨h7, h⟩ := Bool.and_eq_true_iff.mp h
  obtain ⟨h8, h9⟩ := Bool.and_eq_true_iff.mp h
  exact ⟨⟨errB_ok h1, of_decide_eq_true h2, of_decide_eq_true h3, of_decide_eq_true h4, h5⟩, of_decide_eq_true h6, of_decide_eq_true h7, of_decide_eq_true h8, xfB_ok h9⟩
/-- __init__(self, v): self.at_ = v -/
def spErr (K : PySem.W.Frag) (C : Addr) (at_ : Str) : Sp := fun vs H Q _ => ∃ a v, vs = [.ref a, v] ∧ H a = some (exo a C none) ∧ ∀ dx, H dx = none → dx ≠ a → Q .non (upd (upd H dx (exd dx [(at_, v)])) a (exo a C (some dx)))
/-- C(v) raised: the dict of the error stands -/
theorem err_at {K : PySem.W.Frag} {C : Addr} {at_ : Str} {v : V} {H1 : Hp} {Q : XK} (q : ∀ dx, H1 dx = none → Q (.ref C) (some dx) (upd H1 dx (.xd [(at_, v)]))) : [v].length ≤ 1000 ∧ ∀ a, H1 a = none → spErr K C at_ (.ref a :: ([v] ++ [])) (upd H1 a (exo a C none))
    (fun u H2 => u = .non ∧ ∃ (d : Addr) (fs : List (Str × V)), H2 a = some (exo a C (some d)) ∧ H2 d = some (exd d fs) ∧ H1 d = none ∧ Q (.ref C) (some d) (upd (del H2 a) d (.xd fs))) (fun _ _ _ => False) := by
  refine ⟨by simp, fun a ha => ⟨a, v, rfl, upd_same, fun dx hdx nd => ?_⟩⟩
  have h1 : H1 dx = none := (upd_ne nd).symm.trans hdx
  refine ⟨rfl, dx, [(at_, v)], upd_same, (upd_ne nd).trans upd_same, h1, ?_⟩
  have e : upd (del (upd (upd (upd H1 a (exo a C none)) dx (exd dx [(at_, v)])) a (exo a C (some dx))) a) dx (.xd [(at_, v)]) = upd H1 dx (.xd [(at_, v)]) := by
    funext b
    by_cases c : b = dx
    · rw [c, upd_same, upd_same]
    · rw [upd_ne c, upd_ne c]
      by_cases c2 : b = a
      · rw [c2, del_same, ha]
      · rw [del_ne c2, upd_ne c2, upd_ne c, upd_ne c2]
  rw [e]
  exact q dx h1
theorem pmk_err {X : Cx} {k k' : Nat} {C f : Addr} {at_ x : Str} {ps : List Str} {e : Expr} {ta : TA} {p pos : Pos} (E : Err X.K C f at_) (M : CalM X.prog X.w X.K X.mg X.base CX0 k f ps (spErr X.K C at_)) (hr : Room k' X.A) (hk : k + 1 ≤ k') (hg : Gl X x) (hm : X.mg x = some (.ref C)) (ha : PA X [e] ta)
    (hdb : (x == ("__debug__" : Str)) = false := by decide) (he : starEach [e] X.env = (false, eval e X.env) :: starEach [] X.env := by rfl) (hpl : (backTo pos (starEach [] X.env)).any (·.1) = false := by rfl) :
    PMk X (.Call (.Name x p) [e] [] pos) (tMkO C (spErr X.K C at_) [] ta) := by
  obtain ⟨fd, F, _, hb⟩ := M.ex
  exact pmk_oex (CX := CX0) E.oex E.init E.fn F (hr.mono hk) hb .nil (fun _ _ _ _ _ _ _ h => h.elim) hg hm ha hdb he hpl
/-- an own error that may be raised: its class, its __init__, its name -/
structure ErrAt (P : Program) (w : World) (K : PySem.W.Frag) (mg : Str → Option Value) (base : Heap) (x at_ p : Str) : Prop where
  e : Err K (He.ga K x) (He.fAd K (x, some "__init__")) at_
  m : CalM P w K mg base CX0 1 (He.fAd K (x, some "__init__")) ["self", p] (spErr K (He.ga K x) at_)
  g : mg x = some (.ref (He.ga K x))
theorem ErrAt.mk_ {X : Cx} {k : Nat} {x at_ q : Str} {e : Expr} {ta : TA} {p pos : Pos} (R : ErrAt X.prog X.w X.K X.mg X.base x at_ q) (hr : Room k X.A) (hk : 2 ≤ k) (hg : Gl X x) (ha : PA X [e] ta)
    (hdb : (x == ("__debug__" : Str)) = false := by decide) (he : starEach [e] X.env = (false, eval e X.env) :: starEach [] X.env := by rfl) (hpl : (backTo pos (starEach [] X.env)).any (·.1) = false := by rfl) :
    PMk X (.Call (.Name x p) [e] [] pos) (tMkO (He.ga X.K x) (spErr X.K (He.ga X.K x) at_) [] ta) := pmk_err R.e R.m hr hk hg R.g ha hdb he hpl
/-- a method that errors may leave -/
theorem DfnM.calE {P : Program} {w : World} {K : PySem.W.Frag} {mg : Str → Option Value} {base : Heap} {c m qual : Str} {st : Stmt} {N ps : List Str} {k : Nat} {sp : Sp} (D : DfnM K c m qual st) (S : FnScope N ps (defScope st))
    (hb : ∀ (kV doc pm : Value) (an : Option Addr) (cdv ct : Value) (us : List Value), us.length = ps.length → bindArgs (PySem.W.fnOf m qual (defArgs st) (defBody st) (defScope st) .none kV doc pm an cdv ct) ⟨us, []⟩ = pure (ps.zip us))
    (len : ∀ vs H Q E, sp vs H Q E → vs.length = ps.length)
    (body : ∀ (cdv : Value) (A : Around) (outer : List Env) (s : Shared) (H : Hp) (vs : List V) (Q : VK) (E : XK), Room k (A.deeper (envOfC qual (defScope st) s.heap.objs.size (He.fAd K (c, some m)) cdv)) → sp vs H Q E →
      ∃ t, PSs (cxOf (L2.CX P w) P w K mg base N qual (defScope st) (He.fAd K (c, some m)) cdv A outer s H E) (defBody st) t ∧ t { nx := fun _ H' => Q .non H', rt := Q } (start N vs) H) :
    CalM P w K mg base (L2.CX P w) (k + 1) (He.fAd K (c, some m)) ps sp := by
  obtain ⟨fd, F⟩ := D.fn
  exact ⟨fd, F.ok S len body, F.kp, F.bindsN hb⟩
theorem op_notHas {X : Cx} {k k' : Nat} {C f : Addr} {ps : List Str} {sp : Sp} (M : CalM X.prog X.w X.K X.mg X.base CX0 k f ps sp) (hr : Room k' X.A) (hk : k ≤ k') (hs : Has X.K C f)
    (hm : ∀ x y H Q Q' E, (∀ v H', Q v H' → Q' v H') → sp [x, y] H Q E → sp [x, y] H Q' E) : OpR X (compareOp .NotIn) (rInOwn C sp E0 true) := by
  obtain ⟨fd, F, _, hb⟩ := M.ex
  intro pins s σ H x y v u Q I rx ry h
  obtain ⟨a, dx, fs, e, ha, hsp⟩ := h
  show wpAny _ _ (do return Value.bool (!(← contains u v))) _ _ _
  refine wpAny_bind (own_in F (hr.mono hk) hs hb pass0 (Q := fun b s' => wpAny (model X.prog X.w) X.A (pure (Value.bool (!b))) (EP X pins σ Q) X.xe s') I rx ry ⟨a, dx, fs, e, ha, hm _ _ _ _ _ _ (fun z H' hz => ?_) hsp⟩)
  obtain ⟨b, rfl, hq⟩ := hz
  exact ⟨b, rfl, fun s' I' => wpAny_pure ⟨.bl (!b), H', I', rfl, hq⟩⟩
end Sr

set_option Elab.async false
set_option linter.all false
set_option maxRecDepth 100000
set_option maxHeartbeats 4000000
namespace Sr
open PySem PySem.Spec PyProof.Rows L2 RZ
/-! ### data of a depth, without dicts -/
inductive Dep : Nat → Dt → Prop
  | non (n : Nat) : Dep n .non
  | bl (n : Nat) (b : Bool) : Dep n (.bl b)
  | int (n : Nat) (i : Int) : Dep n (.int i)
  | str (n : Nat) (s : Str) : Dep n (.str s)
  | lst (n : Nat) (l : List Dt) : (∀ d ∈ l, Dep n d) → Dep (n + 1) (.lst l)
  | tup (n : Nat) (l : List Dt) : (∀ d ∈ l, Dep n d) → Dep (n + 1) (.tup l)
theorem kit_more {K : PySem.W.Frag} {t c c2 : Value} {r : List Value} {a b : Bool} (h1 : PySem.W.kitOne K t c = some a) (h2 : PySem.W.kitAny K t (c2 :: r) = some b) : PySem.W.kitAny K t (c :: c2 :: r) = some (a || b) := by
  refine kitAny_cons h1 (fun e => ?_) fun e => ?_
  · rw [e, h2]; rfl
  · rw [e]; rfl
theorem kit_ints (K : PySem.W.Frag) (d : Dt) : PySem.W.kitAny K (.type (tyN d)) [.type "bool", .type "int"] = some (isInt d) := by
  rw [kit_two (kit_bool K d) (kit_int K d)]
  cases d <;> rfl
theorem kit_four (K : PySem.W.Frag) (d : Dt) : PySem.W.kitAny K (.type (tyN d)) [.type "bool", .type "int", .type "list", .type "tuple"] = some (isInt d || isSeq d) := by
  rw [kit_more (kit_bool K d) (kit_more (kit_int K d) (kit_seq K d))]
  cases d <;> rfl
theorem cls_four (a b c d : String) : Paired ClsV [V.ty a, V.ty b, V.ty c, V.ty d] [.type a, .type b, .type c, .type d] := .cons (.ty a) (.cons (.ty b) (.cons (.ty c) (.cons (.ty d) .nil)))
theorem flat_eq {n : Nat} {H : Hp} {v u : V} {d : Dt} (dp : Dep n d) (hq : isSeq d = false) (iv : Is H v d) (iu : Is H u d) : v = u ∧ scal v u = true := by
  cases dp with
  | lst => cases hq
  | tup => cases hq
  | _ => cases iv; cases iu; exact ⟨rfl, rfl⟩
theorem walk_zipT {K : PySem.W.Frag} {a b : Addr} {xs ys : List V} {n : Nat} (hn : n = min xs.length ys.length) : Walk (ItzT K a b) n (fun H => SqT K H a xs ∧ SqT K H b ys) (YPair (fun i => xs[i]?) (fun i => ys[i]?)) := by
  subst hn
  refine ⟨fun i H hi g => ?_, fun H g => ?_, fun i H v H' _ g y => ?_⟩
  · exact ⟨xs, ys, xs[i]'(by omega), ys[i]'(by omega), g.1, g.2, List.getElem?_eq_getElem _, List.getElem?_eq_getElem _⟩
  · exact ⟨xs, ys, g.1, g.2, by omega⟩
  · obtain ⟨T, p, q, y1, y2, y3, y4, y5⟩ := y
    exact ⟨T, p, q, y1, y2, y3, y4 xs g.1, y5 ys g.2⟩
/-- a comprehension of two names over pairs whose elements change nothing that stood -/
theorem lc_pairs {J : It} {n : Nat} {G : Hp → Prop} {xs ys : Nat → Option V} (w : Walk J n G (YPair xs ys)) {K : PySem.W.Frag} {te : TE} {i j : Nat} {σ : L2.St} {H : Hp} {D : Addr} {Qd : Hp → Prop} (hij : i ≠ j)
    (zs : List V) (hn : zs.length = n) (hz : n < sizeLine) (hD : H D = none) (hG : ∀ H', Same H H' → G H')
    (turn : ∀ (k : Nat) (x y z : V) (H1 : Hp) (Q : VK), k < n → xs k = some x → ys k = some y → zs[k]? = some z → Same H H1 → (∀ H2, Same H1 H2 → Q z H2) → te ((wipe σ [i, j]).set i (some x) |>.set j (some y)) H1 Q)
    (fin : ∀ H', Same H H' → H' D = some (.lst zs) → Qd H') :
    ∃ W : Nat → Nat → Hp → Prop, (∃ m, W 0 m (upd H D (.lst []))) ∧ ∀ k m H, W k m H →
      (J.stop k H ∧ Qd H) ∨ (J.go k H ∧ ∃ Nx : Hp → Prop, (∀ H', Nx H' → ∃ m', m' < m ∧ W (k + 1) m' H') ∧ ∀ x H', J.yld k H x H' → (gTup K 2 (gCons (gName i) (gCons (gName j) gNil))) x (wipe σ [i, j]) H' fun σ2 H2 => wipe σ2 [i, j] = wipe σ [i, j] ∧ tYes σ2 H2 fun b H3 =>
        if b = true then te σ2 H3 fun y H4 => ∃ acc, H4 D = some (.lst acc) ∧ acc.length < sizeLine ∧ Nx (upd H4 D (.lst (acc ++ [y]))) else Nx H3) := by
  have below : ∀ {H1 H2 : Hp} {o : HO}, Same H H1 → Same H1 H2 → Same H (upd H2 D o) := fun {H1 H2 o} p q c u e => by
    rw [upd_ne (ne_of_none e hD)]
    exact q _ _ (p _ _ e)
  refine lc_it w (fun k H' => Same H H' ∧ H' D = some (.lst (zs.take k))) ⟨Same.up hD, by rw [upd_same]; simp⟩ (fun k H' _ p => hG H' p.1) (fun k v H1 H2 hk p y => ?_) fun H' p => fin H' p.1 (by rw [p.2, ← hn, List.take_length])
  obtain ⟨T, x, y, rfl, hT, rfl, hx, hy⟩ := y
  refine ⟨T, [x, y], rfl, SqT.of upd_same, rfl, ?_⟩
  have s2 : Same H1 _ := Same.up (o := .tup [x, y]) hT
  refine ⟨x, [y], rfl, y, [], rfl, rfl, ?_, ?_⟩
  · show ((((((σ.set j none).set i none).set i (some x)).set j (some y)).set j none).set i none) = (σ.set j none).set i none
    rw [List.set_set, List.set_set, List.set_comm _ _ hij, List.set_set, List.set_set]
  · unfold tYes
    simp only [if_true]
    have hk' : k < zs.length := by omega
    refine turn k x y zs[k] _ _ hk hx hy (List.getElem?_eq_getElem hk') (p.1.trans s2) fun H3 s3 => ?_
    refine ⟨_, s3 _ _ (s2 _ _ p.2), by rw [List.length_take]; omega, below (p.1.trans s2) s3, ?_⟩
    rw [upd_same, List.take_add_one, List.getElem?_eq_getElem hk']
    rfl
end Sr

set_option Elab.async false
set_option linter.all false
set_option maxRecDepth 100000
set_option maxHeartbeats 4000000
namespace Sr
open PySem PySem.Spec PyProof.Rows L2
/-! ### sorted(d) where the keys are pairs of texts -/
def pk (p : Str × Str) : List Key := [Sum.inr p.1, Sum.inr p.2]
def encP (p : Str × Str) : PyData := .tuple [.str p.1, .str p.2]
def pSort (l : List (Str × Str)) : List (Str × Str) := l.mergeSort (PySem.W.dataLe false encP)
theorem pSort_perm (l : List (Str × Str)) : (pSort l).Perm l := List.mergeSort_perm _ _
theorem encP_alike (p q : Str × Str) : PySem.W.alike (encP p) (encP q) = true := by simp [encP, PySem.W.alike, PySem.W.alikeAll]
theorem encP_depth (p : Str × Str) : (encP p).depth ≤ 2 := by
  show PyData.depth (.tuple [.str p.1, .str p.2]) ≤ 2
  simp [PyData.depth, PyData.depthAll]
theorem reads_pair {P : Program} {w : World} {H : Hp} {h : Heap} {q : Addr} {p : Str × Str} (hok : HOk P w H h) (hq : H q = some (.tup [.str p.1, .str p.2])) : PySem.Reads h (.ref q) (encP p) [] := by
  obtain ⟨_, its, rv, o, ho, hc, n, hd⟩ := hok q _ hq
  obtain ⟨a, t1, rfl, r1, t2⟩ := (show ∃ a t, its = a :: t ∧ RelV (.str p.1) a ∧ Vals [.str p.2] t from by cases rv with | cons h1 h2 => exact ⟨_, _, rfl, h1, h2⟩)
  obtain ⟨b, t3, rfl, r2, t4⟩ := (show ∃ a t, t1 = a :: t ∧ RelV (.str p.2) a ∧ Vals [] t from by cases t2 with | cons h1 h2 => exact ⟨_, _, rfl, h1, h2⟩)
  cases t4
  obtain ⟨u1, rfl⟩ := r1
  obtain ⟨u2, rfl⟩ := r2
  exact .tuple ho hc hd (.cons (as := []) (.str _ _) (.cons (as := []) (.str _ _) .nil))
def AtP (H : Hp) (q : Addr) (p : Str × Str) : Prop := H q = some (.tup [.str p.1, .str p.2])
theorem each_paired {α β : Type} {R : α → β → Prop} : ∀ {l : List α} {m : List β}, PySem.W.EachIs R l m → Paired R l m
  | _, _, .nil => .nil
  | _, _, .cons h t => .cons h (each_paired t)
theorem each_of {H : Hp} : ∀ {kvs : List (List Key × V)} {ks : List (List Key × Addr × Value)} {bs : List (Str × Str)}, Paired (fun (p : List Key × V) (q : List Key × Addr × Value) => p.1 = q.1 ∧ H q.2.1 = some (.tup (p.1.map kV)) ∧ RelV p.2 q.2.2) kvs ks →
    kvs.map (·.1) = bs.map pk → PySem.W.EachIs (fun v b => ∃ q, v = Value.ref q ∧ AtP H q b) (ks.map fun x => Value.ref x.2.1) bs
  | _, _, [], .nil, _ => .nil
  | _, _, _ :: _, .nil, h => by cases h
  | _, _, [], .cons _ _, h => by cases h
  | _, _, b :: bs, .cons h1 h2, h => by
    rw [List.map_cons, List.map_cons] at h
    obtain ⟨e1, e2⟩ := List.cons.inj h
    refine .cons ⟨_, rfl, ?_⟩ (each_of h2 e2)
    have h3 := h1.2.1
    rw [e1] at h3
    exact h3
theorem vals_of_each {H : Hp} : ∀ {vs : List Value} {bs : List (Str × Str)}, PySem.W.EachIs (fun v b => ∃ q, v = Value.ref q ∧ AtP H q b) vs bs → ∃ qs : List Addr, vs = qs.map Value.ref ∧ Vals (qs.map V.ref) vs ∧ Paired (AtP H) qs bs
  | _, _, .nil => ⟨[], rfl, .nil, .nil⟩
  | _, _, .cons ⟨q, e, h⟩ t => by
    obtain ⟨qs, e1, e2, e3⟩ := vals_of_each t
    exact ⟨q :: qs, by rw [e, e1]; rfl, by rw [e]; exact .cons rfl e2, .cons h e3⟩
section
variable {X : Cx}
theorem call_sortedDT (hcalm : X.calm = true) (hu : X.A.units + 64 < cLine) : CallR X (.builtin "sorted") (fun xs H Q => ∃ (a : Addr) (kvs : List (List Key × V)) (bs : List (Str × Str)), xs = [.ref a] ∧ Rd H a (.dT kvs) ∧ kvs.map (·.1) = bs.map pk ∧ bs.length ≤ 1000 ∧
    ∀ qs p, Paired (AtP H) qs (pSort bs) → H p = none → Q (.ref p) (upd H p (.lst (qs.map V.ref)))) := by
  intro pins s σ H xs us Q I r q
  obtain ⟨a, kvs, bs, ex, hd, hks, hz, q⟩ := q
  subst ex
  obtain ⟨u, eu, rx⟩ := vals1 r
  subst eu
  cases rx
  obtain ⟨z, hs, ks, pr, o, es, ep, ho, hx, hdt, he, hn⟩ := (show ObjOk X.prog X.w H s.heap a (.dT kvs) from hd.ok I.hok)
  have l1 : es.size = ks.length := size_of_entries he
  have l2 : kvs.length = ks.length := Paired.length pr
  have l3 : kvs.length = bs.length := by
    have e := congrArg List.length hks
    rwa [List.length_map, List.length_map] at e
  have h16 : es.size ≤ sizeLine := by rw [l1, ← l2, l3, sizeLine_eq]; omega
  refine Calls.call_function_entry PyProof.Rows.kind_sorted PyProof.Rows.plain_sorted PyProof.Rows.entry_sorted (PyProof.Rows.args_sorted1 _) ?_
  unfold Builtin.«sorted»
  refine wpAny_bind (m := checkCount "sorted" 1 1 _) (wpAny_pure ?_)
  refine wpAny_bind (PySem.W.kdu_collect (A := X.A.in1) (kdl_raw hs hx hdt) (I.ok.hd hcalm) ho h16 fun h' tk acc hk hacc => ?_)
  have ea : acc.toList = ks.map fun x => Value.ref x.2.1 := by
    have hl : acc.toList.length = ks.length := by rw [Array.length_toList, hacc.1]; exact l1
    apply List.ext_getElem?
    intro j
    rw [List.getElem?_map]
    cases hj : acc.toList[j]? with
    | none =>
      have h1 := List.getElem?_eq_none_iff.mp hj
      rw [List.getElem?_eq_none (by omega)]
      rfl
    | some v =>
      obtain ⟨en, hen, hv⟩ := hacc.2 j v (by rw [← Array.getElem?_toList]; exact hj)
      have qe := entry_at he j
      rw [hen] at qe
      cases hb : ks[j]? with
      | none =>
        rw [hb] at qe
        exact nomatch (show some en = none from qe)
      | some b =>
        rw [hb] at qe
        have e2 : en = entryOfKey (tupleKind (mixKind X.prog X.w)) b := Option.some.inj qe
        rw [hv, e2]
        rfl
  have e0 : PySem.W.EachIs (fun v b => ∃ q, v = Value.ref q ∧ AtP H q b) acc.toList bs := by rw [ea]; exact each_of pr hks
  have I1 : Inv X pins σ H { s with heap := h', toks := tk } := I.kept hk
  have hal : acc.toList.length = bs.length := e0.length
  refine wpAny_bind (wpAny_newList ?_ (by rw [hal, sizeLine_eq]; omega))
  have hoL : (h'.push (seqObj "list" acc.toList.toArray 0)).get? h'.objs.size = some (seqObj "list" acc.toList.toArray 0) := Heap.get?_push_size _ rfl
  show wpAny _ _ _ _ _ { s with heap := h'.push (seqObj "list" acc.toList.toArray 0), toks := tk }
  have k2 : ∀ b o, h'.get? b = some o → (h'.push (seqObj "list" acc.toList.toArray 0)).get? b = some o := fun b o e => Heap.get?_push_of_some _ e
  have hok2 : HOk X.prog X.w H (h'.push (seqObj "list" acc.toList.toArray 0)) := I1.hok.kept k2
  have er : PySem.W.EachIs (fun v b => ∃ as, Reads (h'.push (seqObj "list" acc.toList.toArray 0)) v (encP b) as ∧ h'.objs.size ∉ as) acc.toList bs := e0.mono fun v b ⟨q, e, h⟩ => ⟨[], by rw [e]; exact reads_pair hok2 h, by simp⟩
  refine wpAny_bind (wpAny_holding (PySem.W.list_sort_data (s := { s with heap := h'.push (seqObj "list" acc.toList.toArray 0), toks := tk }) (enc := encP) hoL e0 er (PySem.W.AllAlike.of encP_alike) (PySem.W.Sortable.tuples fun b => ⟨_, _, rfl⟩) (by rw [sizeLine_eq]; omega) (fun b _ => ?_) fun out hlen eo => ?_))
  · have := encP_depth b
    simp only [Around.in1_units]
    omega
  obtain ⟨qs, e1, e2, e3⟩ := vals_of_each eo
  obtain ⟨e', he'⟩ := PyProof.Rows.sortedHeap_at (vs := acc.toList) (out := out.toArray) hoL
  have hlen2 : (qs.map V.ref).length ≤ sizeLine := by
    rw [e2.length, hlen, sizeLine_eq]
    omega
  refine wpAny_pure ⟨_, rfl, .ref h'.objs.size, upd H h'.objs.size (.lst (qs.map V.ref)), I1.laid (t' := tk) (fun b u e => ?_) (Nat.le_refl _)
    (show ObjOk X.prog X.w _ _ _ (.lst (qs.map V.ref)) from ⟨hlen2, out, e', e2, he'⟩), rfl, q qs _ e3 (I1.hok.fresh (Nat.le_refl _))⟩
  have hb : b < h'.objs.size := Heap.lt_size e
  rw [PyProof.Rows.sortedHeap_old (Nat.ne_of_lt hb) (by rw [size_push']; exact Nat.lt_succ_of_lt hb)]
  exact Heap.get?_push_of_some _ e
/-! ### dict(pairs) where the keys are tuples, all unlike -/
theorem tupPairs_of {pins : List (Addr × Obj)} {σ : L2.St} {H : Hp} {s : Shared} (I : Inv X pins σ H s) : ∀ {ts : List Addr} {kvs : List (List Key × V)}, Paired (fun t kv => ∃ q, SqT X.K H t [.ref q, kv.2] ∧ H q = some (.tup (kv.1.map kV))) ts kvs →
    ∃ xs : List (List Key × Addr × Value), KT H kvs xs ∧ xs.length = ts.length ∧ ∀ (j : Nat) (x : List Key × Addr × Value), xs[j]? = some x → ∃ t, ts[j]? = some t ∧ IsTup s.heap t #[.ref x.2.1, x.2.2] ∧ H x.2.1 = some (.tup (x.1.map kV))
  | _, _, .nil => ⟨[], .nil, rfl, fun j q e => by simp at e⟩
  | _, _, .cons (a := t) (b := kv) h r => by
    obtain ⟨xs, r1, hl, hp⟩ := tupPairs_of I r
    obtain ⟨q, hq, hk⟩ := h
    obtain ⟨its, rv, ht, _⟩ := I.tuple hq
    obtain ⟨u, y, ei, ru, ry⟩ := vals2 rv
    subst ei
    obtain rfl : u = Value.ref q := ru
    refine ⟨(kv.1, q, y) :: xs, .cons ⟨rfl, hk, ry⟩ r1, by rw [List.length_cons, List.length_cons, hl], fun j x e => ?_⟩
    cases j with
    | zero =>
      obtain rfl : (kv.1, q, y) = x := Option.some.inj e
      exact ⟨t, rfl, ht, hk⟩
    | succ j =>
      obtain ⟨t', e1, e2⟩ := hp j x (by simpa using e)
      exact ⟨t', by simpa using e1, e2⟩
theorem stored_snoc : ∀ (ps acc : List (List Key × Addr × Value)), ((acc ++ ps).map (·.1)).Nodup → PySem.storedAllH acc ps = acc ++ ps
  | [], acc, _ => by simp [PySem.storedAllH]
  | p :: r, acc, h => by
    have e : PySem.storedH acc p.1 p.2.1 p.2.2 = acc ++ [p] := by
      refine PySem.storedH_new ?_ _ _
      have nm : p.1 ∉ acc.map (·.1) := by
        rw [List.map_append, List.map_cons] at h
        intro m
        exact (List.nodup_append.mp h).2.2 _ m _ List.mem_cons_self rfl
      unfold PySem.atKey
      rw [List.find?_eq_none.mpr]
      · rfl
      · intro x hx e
        exact nm (List.mem_map.mpr ⟨x, hx, of_decide_eq_true e⟩)
    have h2 : ((acc ++ [p] ++ r).map (·.1)).Nodup := by simpa using h
    have e2 := stored_snoc r (acc ++ [p]) h2
    show PySem.storedAllH (PySem.storedH acc p.1 p.2.1 p.2.2) r = _
    rw [e, e2]
    simp
theorem keys_eq {H : Hp} : ∀ {kvs : List (List Key × V)} {xs : List (List Key × Addr × Value)}, KT H kvs xs → kvs.map (·.1) = xs.map (·.1)
  | _, _, .nil => rfl
  | _, _, .cons h t => by rw [List.map_cons, List.map_cons, h.1, keys_eq t]
theorem call_dictPT (hcalm : X.calm = true) (hu : X.A.units + 64 < cLine) : CallR X (.type "dict") (fun xs H Q => ∃ (a : Addr) (ts : List Addr) (kvs : List (List Key × V)), xs = [.ref a] ∧ SqL X.K H a (ts.map V.ref) ∧ Paired (fun t kv => ∃ q, SqT X.K H t [.ref q, kv.2] ∧ H q = some (.tup (kv.1.map kV))) ts kvs ∧
    (kvs.map (·.1)).Nodup ∧ ∀ p, H p = none → Q (.ref p) (upd H p (.dT kvs))) := by
  intro pins s σ H xs us Q I r q
  obtain ⟨a, ts, kvs, ex, hq, hp, nd, q⟩ := q
  subst ex
  obtain ⟨u, eu, rx⟩ := vals1 r
  subst eu
  cases rx
  obtain ⟨its, rv, pl, hz⟩ := I.list hq
  have ei := refs_at rv
  subst ei
  rw [List.length_map] at hz
  obtain ⟨ps, kt, hl, hpr⟩ := tupPairs_of I hp
  obtain ⟨o, n, ho, hc, hd, hdat⟩ := pl
  have len2 : (ps.map fun x => (Value.ref x.2.1, x.2.2)).length = ts.length := by rw [List.length_map, hl]
  have P := PairArg.list (prog := X.prog) (w := X.w) a (ts.map Value.ref).toArray (fun j => ts.getD j 0) (ps.map fun x => (Value.ref x.2.1, x.2.2))
  refine call_dict_pairsH (knd := tupleKind (mixKind X.prog X.w)) (ps := ps) P (I.ok.hd hcalm) (by show _ + 1 < cLine; simp only [Around.in1_units]; omega) ⟨⟨o, n, ho, hc, hd, hdat⟩, by simp [hl], fun j k v e => ?_⟩ ⟨by simp, fun i k v e => ?_⟩ (fun h' hk x hx => ?_) (by rw [len2]; exact hz) fun h' tk hd' hk => ?_
  · rw [List.getElem?_map] at e
    obtain ⟨x, hx, e⟩ := Option.map_eq_some_iff.mp e
    obtain ⟨t, e1, e2, e3⟩ := hpr j x hx
    cases e
    have g : ts.getD j 0 = t := by rw [List.getD_eq_getElem?_getD, e1]; rfl
    exact ⟨by simp [e1], .inl (by show IsTup s.heap (ts.getD j 0) _; rw [g]; exact e2)⟩
  · have e : (ps.map fun x => (Value.ref x.2.1, x.2.2))[i]? = some (k, v) := e
    rw [List.getElem?_map] at e
    obtain ⟨x, hx, e⟩ := Option.map_eq_some_iff.mp e
    cases e
    exact ⟨x.1, x.2.1, hx, rfl⟩
  · obtain ⟨j, hj⟩ := List.mem_iff_getElem?.mp hx
    obtain ⟨t, e1, e2, e3⟩ := hpr j x hj
    have k0 := key_of (P := X.prog) (w := X.w) I.hok e3
    obtain ⟨o', items, n', g1, g2⟩ := k0
    exact ⟨o', items, n', hk _ _ (Nat.ne_of_lt (Heap.lt_size g1)) (by simp) g1, g2⟩
  · have hm : (s.heap.objs.size == sysModules) = false := beq_eq_false_iff_ne.mpr (Nat.ne_of_gt I.big)
    have nd2 : (ps.map (·.1)).Nodup := by rw [← keys_eq kt]; exact nd
    rw [stored_snoc ps [] (by simpa using nd2)] at hd'
    obtain ⟨o', es, ep, g1, g2, g3, g4, g5, g6⟩ := hd'
    have hlen : kvs.length ≤ sizeLine := by rw [Paired.length kt, hl]; exact hz
    have keep : ∀ b o, s.heap.get? b = some o → h'.get? b = some o := fun b o e => hk b o (by simp) e
    refine ⟨.ref s.heap.objs.size, upd H s.heap.objs.size (.dT kvs), I.laid (t' := tk) keep (Nat.le_refl _) (show ObjOk X.prog X.w _ _ _ (.dT kvs) from ⟨hlen, hm, ps, kt.keeps fun b ys e => ?_, o', es, ep, g1, g2, g3, g4, g6⟩), rfl, q _ (I.hok.fresh (Nat.le_refl _))⟩
    first
      | exact e
      | (rw [upd_ne (ne_of_none e (I.hok.fresh (Nat.le_refl _)))]; exact e)
end
end Sr

set_option Elab.async false
set_option linter.all false
set_option maxRecDepth 100000
set_option maxHeartbeats 4000000
namespace Sr
open PySem PySem.Spec PyProof.Rows L2
/-! ### defs that errors may leave -/
structure CalE (P : Program) (w : World) (K : PySem.W.Frag) (mg : Str → Option Value) (base : Heap) (k : Nat) (x : Str) (ps : List Str) (sp : Sp) : Prop where
  ex : ∃ (f : Addr) (fd : FuncData), FnOk P w K mg base (L2.CX P w) k f fd ps sp ∧ mg x = some (.ref f) ∧ PySem.W.keepIn K (.ref f) = true ∧ Binds K fd ps []
theorem pe_calE {X : Cx} {k k' : Nat} {x : Str} {ps : List Str} {sp : Sp} {E : XK} {p pos : Pos} {e : Expr} {es : List Expr} {t : TA} (C : CalE X.prog X.w X.K X.mg X.base k x ps sp) (hr : Room k' X.A) (hk : k ≤ k') (hg : Gl X x) (hx : Passes (L2.CX X.prog X.w) X E) (ha : PA X (e :: es) t)
    (hdb : (x == ("__debug__" : Str)) = false := by decide) (he : starEach (e :: es) X.env = (false, eval e X.env) :: starEach es X.env := by rfl) (hpl : (backTo pos (starEach es X.env)).any (·.1) = false := by rfl) :
    PE X (.Call (.Name x p) (e :: es) [] pos) (tCall sp [] E t) := by
  obtain ⟨f, fd, F, hm, hkp, hb⟩ := C.ex
  exact pe_call F (hr.mono hk) hg hm hkp hb .nil hx ha hdb he hpl
theorem Dfn.calE {P : Program} {w : World} {K : PySem.W.Frag} {mg : Str → Option Value} {base : Heap} {x : Str} {st : Stmt} {N ps : List Str} {k : Nat} {sp : Sp} (D : Dfn K mg x st) (S : FnScope N ps (defScope st))
    (hb : ∀ (kV doc pm : Value) (an : Option Addr) (cdv ct : Value) (us : List Value), us.length = ps.length → bindArgs (PySem.W.fnOf x x (defArgs st) (defBody st) (defScope st) .none kV doc pm an cdv ct) ⟨us, []⟩ = pure (ps.zip us))
    (len : ∀ vs H Q E, sp vs H Q E → vs.length = ps.length)
    (body : ∀ (cdv : Value) (A : Around) (outer : List Env) (s : Shared) (H : Hp) (vs : List V) (Q : VK) (E : XK), Room k (A.deeper (envOfC x (defScope st) s.heap.objs.size (He.ga K x) cdv)) → sp vs H Q E →
      ∃ t, PSs (cxOf (L2.CX P w) P w K mg base N x (defScope st) (He.ga K x) cdv A outer s H E) (defBody st) t ∧ t { nx := fun _ H' => Q .non H', rt := Q } (start N vs) H) :
    CalE P w K mg base (k + 1) x ps sp := by
  obtain ⟨fd, F⟩ := D.fn
  exact ⟨_, fd, F.ok S len body, D.at_, F.kp, F.bindsN hb⟩
/-- where the callee's contract lets no error out -/
theorem passes_never {X : Cx} : Passes (L2.CX X.prog X.w) X E0 := fun _ _ _ _ _ _ _ c => by
  obtain ⟨_, _, _, _, _, _, _, _, _, _, _, _, h⟩ := c
  exact h.elim
/-- within a def that errors may leave -/
theorem passes_def {X : Cx} {E : XK} {E₁ : Value → Shared → Prop} (hs : X.stack = X.env :: X.outer) (hf : X.env.frame = some X.env.locals) (hex : X.ex = [])
    (hx : X.xe = fun e s' => wpAny (model X.prog X.w) X.A (leaving X.env e) (fun _ s'' => L2.CX X.prog X.w X.outer X.H_0 X.s_0 E e s'') E₁ s') : Passes (L2.CX X.prog X.w) X E :=
  passes_call (takes_of hs hf hex hx) fun _ _ _ _ h => h
end Sr

set_option Elab.async false
set_option linter.all false
set_option maxRecDepth 100000
set_option maxHeartbeats 4000000
namespace Sr
open PySem PySem.Spec PyProof.Rows L2
open Sem (wp)
/-! ### enumerate(tuple) -/
theorem meets_enumerate_newT {v : Value} {o : Obj} {H : Heap → Prop} (B : Begins v o H) :
    Meets (Builtin.«enumerate.__new__» ⟨[.type "enumerate", v], []⟩) (fun _ R s => H s.heap ∧
      R (.ok (.ret (.ref (s.heap.push o).objs.size))) { s with heap := (s.heap.push o).push { cls := .type "enumerate", data := .fields #[.none, .bool false, .ref s.heap.objs.size, rawInt 0, .none, .none] } }) :=
  .of_wp fun prog w A R s h => by
    obtain ⟨hp, g, d, tk, os⟩ := s; obtain ⟨h1, h⟩ := h
    have hsub := sub_enumerate
    have q1 : ∀ {A' : Around} {E : Value → Shared → Prop} {Q : Value → Shared → Prop}, Q (.ref hp.objs.size) ⟨hp.push o, g, d, tk, os⟩ → wpAny (model prog w) A' (pyIter v) Q E ⟨hp, g, d, tk, os⟩ :=
      fun q => B.iter prog w _ _ ⟨hp, g, d, tk, os⟩ _ h1 q
    wp_walk using q1
    refine wpAny_stack_any fun st => wpAny_pure ?_
    split
    · rename_i c _ _ _ _ _
      cases (c == Value.type "enumerate")
      · wp_walk using q1
        exact ⟨_, rfl, h⟩
      · wp_walk using q1
        exact ⟨_, rfl, h⟩
    · wp_walk using q1
      exact ⟨_, rfl, h⟩
section
variable {prog : Program} {w : World} {A : Around} {E : Value → Shared → Prop} {s : Shared}
theorem enumT_begins {v : Value} {o : Obj} {H : Heap → Prop} {Q : Value → Shared → Prop} (B : Begins v o H) (h1 : H s.heap)
    (h : ∀ h', IsEnum h' (s.heap.objs.size + 1) s.heap.objs.size 0 .none → h'.get? s.heap.objs.size = some o → h'.objs.size = s.heap.objs.size + 2 →
      (∀ b o, s.heap.get? b = some o → h'.get? b = some o) → Q (.ref (s.heap.objs.size + 1)) { s with heap := h' }) :
    wpAny (model prog w) A (call (.type "enumerate") [v]) Q E s := by
  refine callType_new PySem.F.called_enumerate (by decide) (PySem.F.typeCall_enumerate_1 _) (PySem.F.newCall_enumerate_1 _) (fun obj => PySem.F.args_object_init_2 obj _) PySem.F.entry_enumerate_new
    (meets_enumerate_newT B) ⟨h1, ?_⟩
  have hz : (s.heap.push o).objs.size = s.heap.objs.size + 1 := Heap.size_push ..
  show _ ∧ _
  rw [hz]
  have he : IsEnum ((s.heap.push o).push { cls := .type "enumerate", data := .fields #[.none, .bool false, .ref s.heap.objs.size, rawInt 0, .none, .none] }) (s.heap.objs.size + 1) s.heap.objs.size 0 .none := by
    have := Heap.get?_push_size (s.heap.push o) (o := { cls := .type "enumerate", data := .fields #[.none, .bool false, .ref s.heap.objs.size, rawInt 0, .none, .none] }) rfl
    rw [hz] at this; exact this
  refine ⟨⟨_, he, rfl⟩, h _ he (Heap.get?_push_of_some _ (Heap.get?_push_size _ B.free)) (by rw [Heap.size_push, hz]) fun b o x => Heap.get?_push_of_some _ (Heap.get?_push_of_some _ x)⟩
end
theorem enum_endT {prog : Program} {w : World} {A : Around} {E : Value → Shared → Prop} {s : Shared} {e it t : Addr} {j : Nat} {items : Array Value} {i : Int} {old : Value} {Q : Option Value → Shared → Prop} (hh : A.in1.handled = none)
    (he : IsEnum s.heap e it i old) (hit : s.heap.IsTupleIter it t j) (ht : s.heap.IsTuple t items) (hx : items[j]? = none)
    (hQ : ∀ h', Heap.ExtBut it s.heap h' → Q none { s with heap := h' }) : wpAny (model prog w) A (pyNext (.ref e)) Q E s := by
  have hT : s.TypeIs (.ref e) "enumerate" := ⟨_, he, rfl⟩
  unfold pyNext
  refine wpAny_bind (wpAny_attempt (wpAny_callSpecial?_slot (name := Str.ofString "__next__") hT PySem.F.slot_enumerate_next
    (wpAny_call_entry PySem.F.slot_enumerate_next hT PySem.F.entry_enumerate_next ?_ (PySem.F.args_enumerate_next_1 _))))
  show wpAny _ _ (field (.ref e) 2 >>= _) _ _ _
  refine wpAny_bind (wpAny_field he rfl (x := .ref it) rfl ?_)
  refine wpAny_bind (wpAny_nextOf_tuple_end hh hit ht hx fun h' x he' hx' => ?_)
  obtain ⟨o, ho, hc⟩ := hx'
  refine wpAny_bind (wpAny_isInstance (T := "StopIteration") (b := true) ⟨o, ho, hc⟩ isSubtype_stop ?_)
  exact wpAny_pure (hQ _ he')
/-- the tuple at a, each item in a new pair -/
def Itet (K : PySem.W.Frag) (a : Addr) : It :=
  ⟨fun i H => ∃ (xs : List V) (x : V), SqT K H a xs ∧ xs[i]? = some x, fun i H v H' => ∃ T x, v = .ref T ∧ H T = none ∧ H' = upd H T (.tup [.int (i : Nat), x]) ∧ ∀ xs, SqT K H a xs → xs[i]? = some x, fun i H => ∃ xs : List V, SqT K H a xs ∧ xs.length ≤ i⟩
theorem turn_enumT {P : Program} {w : World} {K : PySem.W.Frag} {elts : List Expr} {kk : Nat} {tpos : Pos} (a e it : Addr) :
    Turn P w K (.Tuple elts kk tpos) (Itet K a) [e, it] e (fun i h => (∃ old, IsEnum h e it ((i : Nat) : Int) old) ∧ h.IsTupleIter it a i ∧ e ≠ it) where
  mem := by simp
  obj := fun i h st b hb => by
    obtain ⟨⟨old, he⟩, ⟨o, ho, hc, hd⟩, _⟩ := st
    have e' : b = e ∨ b = it := by simpa using hb
    rcases e' with z | z
    · rw [z]; exact ⟨_, he, fun v q => nomatch q⟩
    · rw [z]; exact ⟨o, ho, fun v q => by rw [hd] at q; cases q⟩
  keep := fun i h h' st k => let ⟨⟨old, he⟩, hi, hne⟩ := st; ⟨⟨old, k e (by simp) _ he⟩, hi.at fun o q => k it (by simp) o q, hne⟩
  item := by
    intro X hP hw hK hc i pins s σ H E I hf st hg
    subst hP hw hK
    obtain ⟨⟨old, he⟩, hit, hne⟩ := st
    obtain ⟨xs, x, hq, hx⟩ := hg
    obtain ⟨its, rv, p, hz⟩ := I.tuple hq
    obtain ⟨u, hu, ru⟩ := rv.get hx
    have hel : e < s.heap.objs.size := Heap.lt_size he
    have hil : it < s.heap.objs.size := by obtain ⟨_, q, _⟩ := hit; exact Heap.lt_size q
    have hai : a ≠ it := fun z => by
      obtain ⟨o1, g1, g2, _⟩ := p
      obtain ⟨o2, g3, g4, _⟩ := hit
      rw [z, g3] at g1
      cases g1
      rw [g2] at g4
      injection g4 with g4
      exact absurd g4 (by decide)
    have hea : e ≠ a := fun z => by
      obtain ⟨o1, g1, g2, _⟩ := p
      have he2 : s.heap.get? a = _ := z ▸ he
      rw [he2] at g1
      cases g1
      injection g2 with g2
      exact absurd g2 (by decide)
    have D := Draws.tuple (prog := X.prog) (w := X.w) (A := X.A.in1) (I.ok.hd hc) it a hai its.toArray
    have hlt : i < its.toArray.size := by
      have := (List.getElem?_eq_some_iff.mp hu).1
      simpa using this
    refine wpAny_pyNext_enum_itemC D he ⟨hit, p⟩ hlt hne (by simp [hne, hea]) fun y h' tk hP ho hst' hT hsz hk => ?_
    have ey : y = u := by
      have hP : its.toArray[i]? = some y := hP
      rw [List.getElem?_toArray, hu] at hP
      exact (Option.some.inj hP).symm
    subst ey
    refine ⟨_, rfl, wpAny_letOwnedTupleGo_enum (s := { s with heap := h', toks := tk + 1 }) ho fun h'' he' sb => ?_⟩
    have hT2 : h''.get? s.heap.objs.size = some { cls := .type "tuple", data := .seq #[.int i tk, y] } := (sb.2 _ (Nat.ne_of_gt hel)).trans hT
    have new : ObjOk X.prog X.w (upd H s.heap.objs.size (.tup [.int (i : Nat), x])) h'' s.heap.objs.size (.tup [.int (i : Nat), x]) :=
      ⟨by show 2 ≤ sizeLine; decide, [.int i tk, y], .cons ⟨_, rfl⟩ (.cons ru .nil), ⟨_, hT2, rfl, _, rfl⟩⟩
    have I1 : L2.Inv X pins σ (upd H s.heap.objs.size (.tup [.int (i : Nat), x])) { s with heap := h'', toks := tk + 1 } :=
      I.turnedNew (ch := [e, it]) (fun b ob hb q => (sb.2 b (fun z => hb (by simp [z]))).trans (hk b ob (fun z => hb (by simp [z])) (fun z => hb (by simp [z])) q)) hf (Nat.le_refl _) new
    refine ⟨.ref s.heap.objs.size, _, I1, rfl, ⟨_, x, rfl, I.hok.fresh (Nat.le_refl _), rfl, fun ys hy => by rw [I.tuple_inj hy hq]; exact hx⟩, ⟨⟨y, ?_⟩, hst'.1.at fun o q => (sb.2 it (Ne.symm hne)).trans q, hne⟩, fun b hb => ?_⟩
    · have e1 : ((i + 1 : Nat) : Int) = (i : Int) + 1 := by omega
      rw [e1]; exact he'
    · have hb' : b < s.heap.objs.size := by
        have e' : b = e ∨ b = it := by simpa using hb
        rcases e' with z | z
        · rw [z]; exact hel
        · rw [z]; exact hil
      rw [upd_ne (Nat.ne_of_lt hb')]
      exact (hf b hb).1
  done := by
    intro X hP hw hK hc i pins s σ H E I hf st hg
    subst hP hw hK
    obtain ⟨⟨old, he⟩, hit, hne⟩ := st
    obtain ⟨xs, hq, hx⟩ := hg
    obtain ⟨its, rv, p, hz⟩ := I.tuple hq
    obtain ⟨f0, f1, f2, f3, f4, f5⟩ := hf it (by simp)
    have hl := rv.length
    refine enum_endT (I.ok.hd hc) he hit (show s.heap.IsTuple a its.toArray from p) (by simp; omega) fun h' eb => ⟨rfl, I.turned (t' := s.toks) (fun b o hb q => eb b o hb q) f0 f1 f3 f4 f5⟩
  self := fun A i s Q E st h => let ⟨⟨_, he⟩, _⟩ := st; wpAny_pyIter_enum he h
def iEnumT (K : PySem.W.Frag) (ta : TA) : TI := fun σ H R => ta σ H fun vs H1 => ∃ a xs, vs = [.ref a] ∧ SqT K H1 a xs ∧ R (Itet K a) H1
theorem pi_enumT {X : Cx} {e : Expr} {ta : TA} {p pos tpos : Pos} {elts : List Expr} {kk : Nat} (hg : Gl X "enumerate") (hm : X.mg "enumerate" = none) (ha : PA X [e] ta) (hs : starEach [e] X.env = [(false, eval e X.env)] := by rfl) :
    PI X (.Tuple elts kk tpos) (.Call (.Name "enumerate" p) [e] [] pos) (iEnumT X.K ta) := by
  refine ⟨fun pins s σ H R I h => ?_⟩
  refine Call_ (ld_blt I hg hm boot_enumerate (PyProof.Rows.callWith_type1 (thn (ha.run pos pins s σ H _ I h) fun us s1 ⟨vs, H1, I1, r1, q1⟩ => ?_) hs rfl))
  obtain ⟨a, xs, ex, hq, q⟩ := q1
  subst ex
  cases r1 with
  | cons r rr =>
    cases rr
    cases r
    obtain ⟨its, rv, p', hz⟩ := I1.tuple hq
    refine enumT_begins (begins_tuple a its.toArray) (show s1.heap.IsTuple a its.toArray from p') fun h' he hit hsz hk => wpAny_pyIter_enum he ?_
    have I2 : L2.Inv X pins σ H1 { s1 with heap := h' } := I1.kept (t' := s1.toks) hk
    refine ⟨s1.heap.objs.size + 1, [s1.heap.objs.size + 1, s1.heap.objs.size], _, _, H1, rfl, I2, turn_enumT a (s1.heap.objs.size + 1) s1.heap.objs.size, ⟨⟨.none, he⟩, ⟨_, hit, rfl, rfl⟩, Nat.succ_ne_self _⟩, fun b hb => ?_, q⟩
    have e' : b = s1.heap.objs.size + 1 ∨ b = s1.heap.objs.size := by simpa using hb
    have hle : s1.heap.objs.size ≤ b := by
      rcases e' with z | z
      · rw [z]; exact Nat.le_add_right _ _
      · rw [z]; exact Nat.le_refl _
    exact I1.fpOk hle (I1.hok.fresh hle)
theorem walk_enumT {K : PySem.W.Frag} {a : Addr} {xs : List V} : Walk (Itet K a) xs.length (fun H => SqT K H a xs) (YPair (fun i => some (.int (i : Nat))) (fun i => xs[i]?)) := by
  refine ⟨fun i _ hi q => ⟨xs, xs[i], q, by simp [hi]⟩, fun _ q => ⟨xs, q, Nat.le_refl _⟩, fun i H v H' _ q y => ?_⟩
  obtain ⟨T, x, h1, h2, h3, h4⟩ := y
  exact ⟨T, .int (i : Nat), x, h1, h2, h3, rfl, h4 xs q⟩
end Sr

set_option Elab.async false
set_option linter.all false
set_option maxRecDepth 100000
set_option maxHeartbeats 4000000
namespace Sr
open PySem PySem.Spec PyProof.Rows L2 LamX
/-! ### a def that calls what it got within a try, and tells what is told or refused -/
/-- try: return (s1, a()) / except CS as e: return (s2, e.at_) -/
def TTried (CS : Addr) (at_ : Str) (s1 s2 : Str) : (XK → Hp → VK → Prop) → Hp → VK → Prop := fun tl H Q =>
  tl (fun cls d H' => cls = .ref CS ∧ ∃ e v, d = some e ∧ H' e = some (.xd [(at_, v)]) ∧ ∀ p, H' p = none → Q (.ref p) (upd H' p (.tup [.str s2, v]))) H
    (fun v H' => [V.str s1, v].length ≤ sizeLine ∧ ∀ p, H' p = none → Q (.ref p) (upd H' p (.tup [.str s1, v])))
theorem lineN {n : Nat} (h : n ≤ 1000 := by decide) : n ≤ sizeLine := Nat.le_of_lt (sz h)
theorem three_line : (3 : Nat) ≤ sizeLine := by rw [sizeLine_eq]; decide
theorem rd_mono {H H' : Hp} {a : Addr} {o : HO} (e : Same H H') (h : Rd H a o) : Rd H' a o := h.elim (fun h => .inl (e _ _ h)) fun ⟨u, h⟩ => .inr ⟨u, e _ _ h⟩
theorem sql_mono {K : PySem.W.Frag} {H H' : Hp} {a : Addr} {xs : List V} (e : Same H H') (h : SqL K H a xs) : SqL K H' a xs := h.elim (fun h => .inl (rd_mono e h)) .inr
theorem sqt_mono {K : PySem.W.Frag} {H H' : Hp} {a : Addr} {xs : List V} (e : Same H H') (h : SqT K H a xs) : SqT K H' a xs := h.elim (fun h => .inl (rd_mono e h)) .inr
theorem sq_mono {K : PySem.W.Frag} {H H' : Hp} {a : Addr} {xs : List V} (e : Same H H') (h : SqL K H a xs ∨ SqT K H a xs) : SqL K H' a xs ∨ SqT K H' a xs := h.elim (fun h => .inl (sql_mono e h)) fun h => .inr (sqt_mono e h)
/-- a body whose slots are as many as its names -/
theorem pss_len {X : Cx} {sts : List Stmt} {t : TS} {n : Nat} (h : PSs X sts t) (hn : X.N.length = n := by rfl) : PSs X sts (fun D σ H => σ.length = n → t D σ H) :=
  ⟨fun pins s σ H D I q => h.run pins s σ H D I (q (I.len.trans hn))⟩
/-! ### a def called with a lambda -/
theorem pe_lam {X : Cx} (qn : Str) {x a : Str} {st : Stmt} {Ng : List Str} {TT : (XK → Hp → VK → Prop) → Hp → VK → Prop} {k : Nat} {params : Arguments} {body : Expr} {scope : Scope} {t : XK → TE} {c P : Addr} {p lpos pos : Pos} (D : Dfn X.K X.mg x st) (Sg : FnScope Ng [a] (defScope st))
    (hb : ∀ (kV doc pm : Value) (an : Option Addr) (cdv ct : Value) (us : List Value), us.length = [a].length → bindArgs (PySem.W.fnOf x x (defArgs st) (defBody st) (defScope st) .none kV doc pm an cdv ct) ⟨us, []⟩ = pure ([a].zip us))
    (hG : ∀ cdv : Value, GivesTo X Ng x (defScope st) (He.ga X.K x) cdv (defBody st) a (X.env.qual ++ "<lambda>") TT) (TB : TabB X.base X.mg c P) (hcode : X.env.code = .ref c) (hr : Room (k + 2) X.A)
    (hbody : ∀ (A : Around) (outer : List Env) (s : Shared) (H : Hp) (E : XK) (f c' : Addr), Room k (A.deeper (lamEnv X scope s.heap.objs.size f c')) → PE (lamCx X A outer s H E scope f c') body (t E))
    (hg : Gl X x) (L : LamS X.env.scope scope) (hbind : ∀ (q : Str) (cl : List (Str × Addr)) (pm cv ctv : Value), bindArgs (PySem.W.kla_fn "<lambda>" q params body scope cl pm cv ctv) ⟨[], []⟩ = pure [])
    (hqn : X.env.qual = qn := by rfl) (hdef : defaultsOf params X.env = ([], []) := by rfl) (hNg : Ng[0]? = some a := by rfl) (hva : Vis (defScope st) a := by first | exact Or.inl rfl | exact Or.inr (Or.inl rfl))
    (hdb : (x == ("__debug__" : Str)) = false := by decide) (hd : (a == ("__debug__" : Str)) = false := by decide) (hcd : (a == ("__classdict__" : Str)) = false := by decide) :
    PE X (.Call (.Name x p) [.Lambda params body scope lpos] [] pos) (tLam [(P, qn ++ "<lambda>")] TT t) := by
  subst hqn
  obtain ⟨fd, F⟩ := D.fn
  have hB := F.bindsN hb
  obtain ⟨oc, od, dV, kV, doc, pm, an, cdv, ct, osl, rfl, lk, hcg, _, _⟩ := F.ex
  exact pe_lamcall hg D.at_ F.kp lk hcg hB Sg hNg hva (hG cdv) TB hcode List.mem_cons_self (fun p hp _ => by rw [List.mem_singleton.mp hp]) hr L hdef hbind hbody hdb hd hcd
/-- a def of the top, with its code object known -/
theorem fun_ok {P : Program} {w : World} {K : PySem.W.Frag} {mg : Str → Option Value} {base : Heap} {CX : CXT} {x : Str} {st : Stmt} {N ps : List Str} {k : Nat} {sp : Sp} {fd : FuncData} (F : FunD K x x (defArgs st) (defBody st) (defScope st) [] [] (He.ga K x) fd) (S : FnScope N ps (defScope st)) (len : ∀ vs H Q E, sp vs H Q E → vs.length = ps.length)
    (hbody : ∀ (A : Around) (outer : List Env) (s : Shared) (H : Hp) (vs : List V) (Q : VK) (E : XK), Room k (A.deeper (envOfC x (defScope st) s.heap.objs.size (He.ga K x) (.ref (He.codeOf K (x, none))))) → sp vs H Q E →
      ∃ t, PSs (cxOf CX P w K mg base N x (defScope st) (He.ga K x) (.ref (He.codeOf K (x, none))) A outer s H E) (defBody st) t ∧ t { nx := fun _ H' => Q .non H', rt := Q } (L2.start N vs) H) : FnOk P w K mg base CX (k + 1) (He.ga K x) fd ps sp := by
  obtain ⟨oc, od, dV, kV, doc, pm, an, cdv, ct, osl, rfl, lk, hcd, _, _⟩ := F.ex
  obtain ⟨c, rfl⟩ := He.codeIn_ref hcd
  have e : He.codeOf K (x, none) = c := He.codeOf_eq (p := (x, none)) lk rfl
  rw [e] at hbody
  exact fn_of lk hcd S len hbody
end Sr

set_option Elab.async false
set_option linter.all false
set_option maxRecDepth 100000
set_option maxHeartbeats 4000000
namespace Sr
open PySem PySem.Spec PyProof.Rows L2
theorem Paired.snoc {α β : Type} {F : α → β → Prop} {a : α} {b : β} (h : F a b) : ∀ {l : List α} {m : List β}, Paired F l m → Paired F (l ++ [a]) (m ++ [b])
  | _, _, .nil => .cons h .nil
  | _, _, .cons h1 t => .cons h1 (Paired.snoc h t)
theorem Paired.imp' {α β : Type} {F G : α → β → Prop} (f : ∀ a b, F a b → G a b) : ∀ {l : List α} {m : List β}, Paired F l m → Paired G l m
  | _, _, .nil => .nil
  | _, _, .cons h t => .cons (f _ _ h) (Paired.imp' f t)
/-- a comprehension over items, some of which are kept, each kept one a new thing; nothing that stood is changed -/
theorem lc_genD {α : Type} {J : It} {n : Nat} {G : Hp → Prop} {Y : Nat → Hp → V → Hp → Prop} {At : Nat → Hp → V → Prop} (w : Walk J n G Y) (hy : ∀ i H x H', Y i H x H' → H' = H ∧ At i H x) {g : TG} {tt : TT} {te : TE} {vs : List Nat} {σ : L2.St} {H : Hp} {D : Addr} {Qd : Hp → Prop}
    (items : List α) (keep : α → Bool) (hn : items.length = n) (hz : n < sizeLine) (hD : H D = none) (hG : ∀ H', Same H H' → G H') (Rel : Hp → α → V → Prop) (mono : ∀ H1 H2 a y, Same H1 H2 → Rel H1 a y → Rel H2 a y) (lay : ∀ H1 a y c c', H1 D = some (.lst c) → Rel H1 a y → Rel (upd H1 D (.lst c')) a y)
    (turn : ∀ (i : Nat) (x : V) (a : α) (H1 : Hp) (A : V → Hp → Prop) (B : Hp → Prop), i < n → At i H1 x → items[i]? = some a → H1 D ≠ none → Same H H1 → (keep a = true → ∀ y H2, Same H1 H2 → Rel H2 a y → A y H2) → (keep a = false → ∀ H2, Same H1 H2 → B H2) →
      g x (wipe σ vs) H1 fun σ2 H2 => wipe σ2 vs = wipe σ vs ∧ tt σ2 H2 fun b H3 => if b = true then te σ2 H3 A else B H3)
    (fin : ∀ H' acc, Same H H' → H' D = some (.lst acc) → Paired (fun y a => Rel H' a y) acc (items.filter keep) → Qd H') :
    ∃ W : Nat → Nat → Hp → Prop, (∃ m, W 0 m (upd H D (.lst []))) ∧ ∀ i m H, W i m H →
      (J.stop i H ∧ Qd H) ∨ (J.go i H ∧ ∃ Nx : Hp → Prop, (∀ H', Nx H' → ∃ m', m' < m ∧ W (i + 1) m' H') ∧ ∀ x H', J.yld i H x H' → g x (wipe σ vs) H' fun σ2 H2 => wipe σ2 vs = wipe σ vs ∧ tt σ2 H2 fun b H3 =>
        if b = true then te σ2 H3 fun y H4 => ∃ acc, H4 D = some (.lst acc) ∧ acc.length < sizeLine ∧ Nx (upd H4 D (.lst (acc ++ [y]))) else Nx H3) := by
  have below : ∀ {H1 H2 : Hp} {o : HO}, Same H H1 → Same H1 H2 → Same H (upd H2 D o) := fun {H1 H2 o} a b c u e => by
    rw [upd_ne (ne_of_none e hD)]
    exact b _ _ (a _ _ e)
  refine lc_it w (fun i H' => Same H H' ∧ ∃ acc, H' D = some (.lst acc) ∧ Paired (fun y a => Rel H' a y) acc ((items.take i).filter keep)) ⟨Same.up hD, [], upd_same, by simp; exact .nil⟩ (fun i H' _ p => hG H' p.1) (fun i x H1 H2 hi p y => ?_) fun H' p => ?_
  · obtain ⟨rfl, hx⟩ := hy _ _ _ _ y
    obtain ⟨s1, acc, hd, pr⟩ := p
    have hi' : i < items.length := by omega
    have tk : items.take (i + 1) = items.take i ++ [items[i]] := by rw [List.take_add_one, List.getElem?_eq_getElem hi']; rfl
    have hl : acc.length < sizeLine := by
      have h1 := Paired.length pr
      have h2 := List.length_filter_le keep (items.take i)
      rw [List.length_take] at h2
      omega
    refine turn i x items[i] H2 _ _ hi hx (List.getElem?_eq_getElem hi') (by rw [hd]; simp) s1 (fun hk y H3 s3 r => ?_) fun hk H3 s3 => ?_
    · refine ⟨acc, s3 _ _ hd, hl, below s1 s3, _, upd_same, ?_⟩
      rw [tk, List.filter_append, List.filter_cons, if_pos hk]
      have r1 : Rel (upd H3 D (.lst (acc ++ [y]))) items[i] y := lay _ _ _ _ _ (s3 _ _ hd) r
      have pr1 : Paired (fun z a => Rel (upd H3 D (.lst (acc ++ [y]))) a z) acc ((items.take i).filter keep) := Paired.imp' (fun y a h => lay _ a y _ _ (s3 _ _ hd) (mono _ _ a y s3 h)) pr
      exact Paired.snoc (F := fun z a => Rel (upd H3 D (.lst (acc ++ [y]))) a z) r1 pr1
    · refine ⟨s1.trans s3, acc, s3 _ _ hd, ?_⟩
      rw [tk, List.filter_append, List.filter_cons, if_neg (by rw [hk]; simp)]
      simp only [List.filter_nil, List.append_nil]
      exact Paired.imp' (fun y a h => mono _ _ _ _ s3 h) pr
  · obtain ⟨s1, acc, hd, pr⟩ := p
    rw [← hn, List.take_length] at pr
    exact fin H' acc s1 hd pr
/-- a comprehension over items, some of which are kept, each kept one a new thing; nothing that stood is changed -/
theorem lc_gen {α : Type} {J : It} {n : Nat} {G : Hp → Prop} {Y : Nat → Hp → V → Hp → Prop} {At : Nat → Hp → V → Prop} (w : Walk J n G Y) (hy : ∀ i H x H', Y i H x H' → H' = H ∧ At i H x) {g : TG} {tt : TT} {te : TE} {vs : List Nat} {σ : L2.St} {H : Hp} {D : Addr} {Qd : Hp → Prop}
    (items : List α) (keep : α → Bool) (hn : items.length = n) (hz : n < sizeLine) (hD : H D = none) (hG : ∀ H', Same H H' → G H') (Rel : Hp → α → V → Prop) (mono : ∀ H1 H2 a y, Same H1 H2 → Rel H1 a y → Rel H2 a y) (lay : ∀ H1 a y c c', H1 D = some (.lst c) → Rel H1 a y → Rel (upd H1 D (.lst c')) a y)
    (turn : ∀ (i : Nat) (x : V) (a : α) (H1 : Hp) (A : V → Hp → Prop) (B : Hp → Prop), i < n → At i H1 x → items[i]? = some a → Same H H1 → (keep a = true → ∀ y H2, Same H1 H2 → Rel H2 a y → A y H2) → (keep a = false → ∀ H2, Same H1 H2 → B H2) →
      g x (wipe σ vs) H1 fun σ2 H2 => wipe σ2 vs = wipe σ vs ∧ tt σ2 H2 fun b H3 => if b = true then te σ2 H3 A else B H3)
    (fin : ∀ H' acc, Same H H' → H' D = some (.lst acc) → Paired (fun y a => Rel H' a y) acc (items.filter keep) → Qd H') :
    ∃ W : Nat → Nat → Hp → Prop, (∃ m, W 0 m (upd H D (.lst []))) ∧ ∀ i m H, W i m H →
      (J.stop i H ∧ Qd H) ∨ (J.go i H ∧ ∃ Nx : Hp → Prop, (∀ H', Nx H' → ∃ m', m' < m ∧ W (i + 1) m' H') ∧ ∀ x H', J.yld i H x H' → g x (wipe σ vs) H' fun σ2 H2 => wipe σ2 vs = wipe σ vs ∧ tt σ2 H2 fun b H3 =>
        if b = true then te σ2 H3 fun y H4 => ∃ acc, H4 D = some (.lst acc) ∧ acc.length < sizeLine ∧ Nx (upd H4 D (.lst (acc ++ [y]))) else Nx H3) :=
  lc_genD w hy items keep hn hz hD hG Rel mono lay (fun i x a H1 A B hi hx ha _ s1 => turn i x a H1 A B hi hx ha s1) fin
end Sr

set_option Elab.async false
set_option linter.all false
set_option maxRecDepth 100000
set_option maxHeartbeats 4000000
namespace Sr
open PySem PySem.Spec PyProof.Rows L2
/-! ### dicts of sums -/
def intOf : Option V → Int
  | some (.int i) => i
  | _ => 0
section
variable {κ : Type} [DecidableEq κ]
def bump (kvs : List (κ × V)) (k : κ) (n : Int) : List (κ × V) := putK kvs k (.int (intOf (valV kvs k) + n))
structure Ints (P : κ → Prop) (kvs : List (κ × V)) : Prop where
  ent : ∀ e ∈ kvs, P e.1 ∧ ∃ n, e.2 = .int n
  nd : (kvs.map (·.1)).Nodup
theorem Ints.nil {P : κ → Prop} : Ints P ([] : List (κ × V)) := ⟨fun _ m => absurd m (by simp), List.nodup_nil⟩
theorem Ints.bump {P : κ → Prop} {kvs : List (κ × V)} {k : κ} {n : Int} (h : Ints P kvs) (hk : P k) : Ints P (Sr.bump kvs k n) := by
  unfold Sr.bump putK
  split
  · refine ⟨fun e m => ?_, ?_⟩
    · obtain ⟨e0, m0, rfl⟩ := List.mem_map.mp m
      split
      · exact ⟨(h.ent _ m0).1, _, rfl⟩
      · exact h.ent _ m0
    · rw [List.map_map]
      have e : (kvs.map ((fun x : κ × V => x.1) ∘ fun kv => if kv.1 = k then (kv.1, V.int (intOf (valV kvs k) + n)) else kv)) = kvs.map (·.1) := by
        refine List.map_congr_left fun kv _ => ?_
        show (if kv.1 = k then (kv.1, V.int (intOf (valV kvs k) + n)) else kv).1 = kv.1
        split <;> rfl
      rw [e]
      exact h.nd
  · rename_i no
    refine ⟨fun e m => ?_, ?_⟩
    · rcases List.mem_append.mp m with m | m
      · exact h.ent _ m
      · rw [List.mem_singleton.mp m]
        exact ⟨hk, _, rfl⟩
    · rw [List.map_append]
      refine List.nodup_append.mpr ⟨h.nd, by simp, fun a ha b hb e => no ?_⟩
      have hb' : b = k := by simpa using hb
      obtain ⟨kv, m, e2⟩ := List.mem_map.mp ha
      exact List.any_eq_true.mpr ⟨kv, m, decide_eq_true (e2.trans (e.trans hb'))⟩
theorem bump_len {kvs : List (κ × V)} {k : κ} {n : Int} : (Sr.bump kvs k n).length ≤ kvs.length + 1 := length_putK _ _ _
theorem val_of {kvs : List (κ × V)} : (kvs.map (·.1)).Nodup → ∀ {e : κ × V}, e ∈ kvs → valV kvs e.1 = some e.2 := by
  induction kvs with
  | nil => intro _ e m; cases m
  | cons p r ih =>
    intro nd e m
    rw [List.map_cons] at nd
    obtain ⟨n1, n2⟩ := List.nodup_cons.mp nd
    rcases List.mem_cons.mp m with rfl | m
    · exact valV_pos rfl
    · rw [valV_neg (fun z => n1 (by rw [z]; exact List.mem_map.mpr ⟨e, m, rfl⟩))]
      exact ih n2 m
theorem val_mem {kvs : List (κ × V)} {k : κ} {v : V} (h : valV kvs k = some v) : (k, v) ∈ kvs := by
  unfold valV at h
  obtain ⟨e, h1, h2⟩ := Option.map_eq_some_iff.mp h
  have h3 := List.find?_some h1
  have h4 : e.1 = k := of_decide_eq_true h3
  have m := List.mem_of_find?_eq_some h1
  rw [← h4, ← h2]
  exact m
/-- d.get(k, 0) -/
theorem Ints.get {P : κ → Prop} {kvs : List (κ × V)} (h : Ints P kvs) (k : κ) : (valV kvs k).getD (.int 0) = .int (intOf (valV kvs k)) := by
  cases e : valV kvs k with
  | none => rfl
  | some v =>
    obtain ⟨_, n, en⟩ := h.ent _ (val_mem e)
    have en : v = .int n := en
    subst en
    rfl
theorem Ints.at_ {P : κ → Prop} {kvs : List (κ × V)} (h : Ints P kvs) {k : κ} (m : k ∈ kvs.map (·.1)) : valV kvs k = some (.int (intOf (valV kvs k))) := by
  obtain ⟨e, m2, rfl⟩ := List.mem_map.mp m
  obtain ⟨_, n, en⟩ := h.ent _ m2
  rw [val_of h.nd m2, en]
  rfl
/-- sums of rows, each at its key -/
def sums {α : Type} (key : α → κ) (am : α → Int) (rows : List α) : List (κ × V) := rows.foldl (fun kvs r => bump kvs (key r) (am r)) []
theorem sums_snoc {α : Type} (key : α → κ) (am : α → Int) (rows : List α) (r : α) : sums key am (rows ++ [r]) = bump (sums key am rows) (key r) (am r) := by
  unfold sums
  rw [List.foldl_append]
  rfl
theorem sums_len {α : Type} (key : α → κ) (am : α → Int) : ∀ (rows : List α) (kvs : List (κ × V)), (rows.foldl (fun kvs r => bump kvs (key r) (am r)) kvs).length ≤ kvs.length + rows.length
  | [], _ => Nat.le_refl _
  | r :: t, kvs => by
    have h1 := sums_len key am t (bump kvs (key r) (am r))
    have h2 := bump_len (kvs := kvs) (k := key r) (n := am r)
    simp only [List.foldl_cons, List.length_cons]
    omega
theorem sums_ints {α : Type} {P : κ → Prop} (key : α → κ) (am : α → Int) : ∀ (rows : List α) (kvs : List (κ × V)), Ints P kvs → (∀ r ∈ rows, P (key r)) → Ints P (rows.foldl (fun kvs r => bump kvs (key r) (am r)) kvs)
  | [], _, h, _ => h
  | r :: t, kvs, h, hp => sums_ints key am t _ (h.bump (hp r List.mem_cons_self)) fun x m => hp x (List.mem_cons_of_mem _ m)
end
/-! ### what is told of sums with pairs of texts for keys -/
def small (p : Str × Str) : Prop := p.1.length ≤ 1000 ∧ p.2.length ≤ 1000
def isPk (k : List Key) : Prop := ∃ p, k = pk p ∧ small p
def unpk : List Key → Str × Str
  | [.inr a, .inr b] => (a, b)
  | _ => ("", "")
theorem unpk_pk (p : Str × Str) : unpk (pk p) = p := rfl
theorem pk_inj {p q : Str × Str} (h : pk p = pk q) : p = q := by rw [← unpk_pk p, ← unpk_pk q, h]
def keysOf (kvs : List (List Key × V)) : List (Str × Str) := kvs.map fun e => unpk e.1
theorem keysOf_eq {kvs : List (List Key × V)} (h : Ints isPk kvs) : kvs.map (·.1) = (keysOf kvs).map pk := by
  unfold keysOf
  rw [List.map_map]
  refine List.map_congr_left fun e m => ?_
  obtain ⟨⟨p, e1, _⟩, _⟩ := h.ent e m
  show e.1 = pk (unpk e.1)
  rw [e1, unpk_pk]
theorem keysOf_small {kvs : List (List Key × V)} (h : Ints isPk kvs) : ∀ p ∈ keysOf kvs, small p := fun p m => by
  obtain ⟨e, m2, rfl⟩ := List.mem_map.mp m
  obtain ⟨⟨q, e1, sm⟩, _⟩ := h.ent e m2
  rw [e1]
  exact sm
theorem keysOf_nodup {kvs : List (List Key × V)} (h : Ints isPk kvs) : (keysOf kvs).Nodup := by
  have nd := h.nd
  rw [keysOf_eq h] at nd
  exact List.Pairwise.imp (fun {a b} ne e => ne (by rw [e])) (List.pairwise_map.mp nd)
def amt (kvs : List (List Key × V)) (p : Str × Str) : Int := intOf (valV kvs (pk p))
def kept (kvs : List (List Key × V)) : List (Str × Str) := (pSort (keysOf kvs)).filter fun p => decide (amt kvs p ≠ 0)
def rowTd (p : Str × Str) (n : Int) : Dt := .tup [.str p.1, .str p.2, .int n]
def toldOf (kvs : List (List Key × V)) : List Dt := (kept kvs).map fun p => rowTd p (amt kvs p)
/-- what is told stands in the heap -/
theorem isA_told {H : Hp} {f : Str × Str → Int} : ∀ {acc : List V} {ks : List (Str × Str)}, Paired (fun y k => ∃ q, y = V.ref q ∧ H q = some (.tup [.str k.1, .str k.2, .int (f k)])) acc ks → (∀ k ∈ ks, small k) → IsA H acc (ks.map fun p => rowTd p (f p))
  | _, _, .nil, _ => .nil
  | _, _, .cons (b := k) ⟨q, e, h⟩ t, sm => by
    rw [e]
    have h1 := sm k List.mem_cons_self
    exact .cons (.tup h (.cons (.str _ h1.1) (.cons (.str _ h1.2) (.cons (.int _) .nil))) (show (3 : Nat) ≤ 60 by decide)) (isA_told t fun x m => sm x (List.mem_cons_of_mem _ m))
theorem kept_mem {kvs : List (List Key × V)} {p : Str × Str} (m : p ∈ kept kvs) : p ∈ keysOf kvs := (pSort_perm _).mem_iff.mp (List.mem_filter.mp m).1
theorem kept_nodup {kvs : List (List Key × V)} (h : Ints isPk kvs) : (kept kvs).Nodup := ((pSort_perm _).nodup_iff.mpr (keysOf_nodup h)).filter _
theorem kept_len {kvs : List (List Key × V)} : (kept kvs).length ≤ kvs.length := by
  refine Nat.le_trans (List.length_filter_le _ _) ?_
  rw [(pSort_perm _).length_eq]
  unfold keysOf
  rw [List.length_map]
  exact Nat.le_refl _
end Sr

set_option Elab.async false
set_option linter.all false
set_option maxRecDepth 100000
set_option maxHeartbeats 4000000
namespace Sr
open PySem PySem.Spec PyProof.Rows L2 LamX
/-! ### all but the draws' list -/
def rm (H : Hp) (a : Addr) : Hp := fun b => if b = a then none else H b
theorem cut_if {S REST : TS} {D : Ends} {σ : L2.St} {H : Hp} (G : L2.St → Hp → Prop) (hr : ∀ σ2 H2, G σ2 H2 → REST D σ2 H2) (h : (∀ σ2 H2, G σ2 H2 → REST D σ2 H2) → tSeq S REST D σ H) : tSeq S REST D σ H := h hr
theorem rm_same {H : Hp} {a : Addr} : Same (rm H a) H := fun b o e => by
  unfold rm at e
  split at e
  · cases e
  · exact e
theorem rm_at {H : Hp} {a : Addr} : rm H a a = none := by unfold rm; rw [if_pos rfl]
theorem rm_ne {H : Hp} {a b : Addr} (h : b ≠ a) : rm H a b = H b := by unfold rm; rw [if_neg h]
theorem rm_new {H : Hp} {a : Addr} {o : HO} (h : H a = none) : Same H (rm (upd H a o) a) := fun b x e => by
  have n := ne_of_none e h
  rw [rm_ne n, upd_ne n]
  exact e
theorem rm_upd {H : Hp} {a : Addr} {o : HO} : rm (upd H a o) a = rm H a := by
  funext b
  by_cases c : b = a
  · rw [c, rm_at, rm_at]
  · rw [rm_ne c, rm_ne c, upd_ne c]
theorem Same.rm {H H' : Hp} {a : Addr} (s : Same H H') : Same (Sr.rm H a) (Sr.rm H' a) := fun b o e => by
  by_cases c : b = a
  · rw [c, rm_at] at e; cases e
  · rw [rm_ne c] at e ⊢; exact s _ _ e
theorem rm_free {H : Hp} {a p : Addr} (h : H p = none) : rm H a p = none := by
  by_cases c : p = a
  · rw [c, rm_at]
  · rw [rm_ne c, h]
/-- an object of one's own changes: what stood ahead of it stays -/
theorem Same.set {M H : Hp} {p : Addr} {o : HO} (s : Same M H) (h : M p = none) : Same M (upd H p o) := fun b u e => by
  rw [upd_ne (ne_of_none e h)]
  exact s _ _ e
mutual
theorem Is.ext {H H' : Hp} (e : ExtN H H') : ∀ {v : V} {d : Dt}, Is H v d → Is H' v d
  | _, _, .non => .non
  | _, _, .bl b => .bl b
  | _, _, .int i => .int i
  | _, _, .str s h => .str s h
  | _, _, .lst h r z => .lst (e _ _ h (fun _ q => by cases q)) (IsA.ext e r) z
  | _, _, .tup h r z => .tup (e _ _ h (fun _ q => by cases q)) (IsA.ext e r) z
  | _, _, .dic h => .dic (e _ _ h (fun _ q => by cases q))
theorem IsA.ext {H H' : Hp} (e : ExtN H H') : ∀ {vs : List V} {ds : List Dt}, IsA H vs ds → IsA H' vs ds
  | _, _, .nil => .nil
  | _, _, .cons h r => .cons (Is.ext e h) (IsA.ext e r)
end
/-- what data consist of -/
def dataO : HO → Prop
  | .lst _ => True
  | .tup _ => True
  | .dK _ => True
  | _ => False
mutual
theorem Is.keep {H H' : Hp} (e : ∀ b o, H b = some o → dataO o → H' b = some o) : ∀ {v : V} {d : Dt}, Is H v d → Is H' v d
  | _, _, .non => .non
  | _, _, .bl b => .bl b
  | _, _, .int i => .int i
  | _, _, .str s h => .str s h
  | _, _, .lst h r z => .lst (e _ _ h trivial) (IsA.keep e r) z
  | _, _, .tup h r z => .tup (e _ _ h trivial) (IsA.keep e r) z
  | _, _, .dic h => .dic (e _ _ h trivial)
theorem IsA.keep {H H' : Hp} (e : ∀ b o, H b = some o → dataO o → H' b = some o) : ∀ {vs : List V} {ds : List Dt}, IsA H vs ds → IsA H' vs ds
  | _, _, .nil => .nil
  | _, _, .cons h r => .cons (Is.keep e h) (IsA.keep e r)
end
/-- a frozen thing let go -/
theorem thaw {H : Hp} {p : Addr} {od : Obj} {u o : HO} (h : H p = some (.frz od u)) : ∀ b x, H b = some x → dataO x → (upd H p o) b = some x := fun b x e d => by
  rw [upd_ne fun z => ?_]
  · exact e
  · rw [z, h] at e
    cases e
    exact d.elim
/-- no list of three ints within -/
def three : List Dt → Bool
  | [.int _, .int _, .int _] => true
  | _ => false
mutual
def noD : Dt → Bool
  | .lst l => !three l && noDs l
  | .tup l => noDs l
  | _ => true
def noDs : List Dt → Bool
  | [] => true
  | d :: r => noD d && noDs r
end
theorem noDs_all : ∀ {l : List Dt}, (∀ d ∈ l, noD d = true) → noDs l = true
  | [], _ => rfl
  | d :: r, h => by
    unfold noDs
    rw [h d List.mem_cons_self, noDs_all fun x m => h x (List.mem_cons_of_mem _ m)]
    rfl
theorem ints_three {H : Hp} {x y z : Int} {ds : List Dt} (h : IsA H [.int x, .int y, .int z] ds) : three ds = true := by
  cases h with
  | cons h1 t => cases t with
    | cons h2 t => cases t with
      | cons h3 t => cases t with
        | nil => cases h1 with
          | int i => cases h2 with
            | int j => cases h3 with
              | int k => rfl
mutual
theorem Is.off {H : Hp} {a : Addr} (hd : DrawsAt H a) : ∀ {v : V} {d : Dt}, Is H v d → noD d = true → Is (rm H a) v d
  | _, _, .non, _ => .non
  | _, _, .bl b, _ => .bl b
  | _, _, .int i, _ => .int i
  | _, _, .str s h, _ => .str s h
  | _, _, .lst (a := b) (xs := xs) (ds := ds) h r z, n => by
    unfold noD at n
    obtain ⟨n1, n2⟩ := Bool.and_eq_true_iff.mp n
    have ne : b ≠ a := fun e => by
      obtain ⟨o, ho, x, y, w, rfl⟩ := hd
      rw [← e, h] at ho
      have e2 : xs = [.int x, .int y, .int w] := by injection ho with ho; injection ho
      rw [e2] at r
      rw [ints_three r] at n1
      cases n1
    exact .lst (by rw [rm_ne ne]; exact h) (IsA.off hd r n2) z
  | _, _, .tup (a := b) h r z, n => by
    unfold noD at n
    have ne : b ≠ a := fun e => by
      obtain ⟨o, ho, x, y, w, rfl⟩ := hd
      rw [← e, h] at ho
      injection ho with ho
      cases ho
    exact .tup (by rw [rm_ne ne]; exact h) (IsA.off hd r n) z
  | _, _, .dic (a := b) h, _ => by
    have ne : b ≠ a := fun e => by
      obtain ⟨o, ho, x, y, w, rfl⟩ := hd
      rw [← e, h] at ho
      injection ho with ho
      cases ho
    exact .dic (by rw [rm_ne ne]; exact h)
theorem IsA.off {H : Hp} {a : Addr} (hd : DrawsAt H a) : ∀ {vs : List V} {ds : List Dt}, IsA H vs ds → noDs ds = true → IsA (rm H a) vs ds
  | _, _, .nil, _ => .nil
  | _, _, .cons h r, n => by
    unfold noDs at n
    obtain ⟨n1, n2⟩ := Bool.and_eq_true_iff.mp n
    exact .cons (Is.off hd h n1) (IsA.off hd r n2)
end
theorem Tabs.off {T : List (Addr × Str)} {H : Hp} {a : Addr} (t : Tabs T H) (hd : DrawsAt H a) : Tabs T (rm H a) := fun p hp => by
  obtain ⟨o, ho, x, y, w, rfl⟩ := hd
  obtain ⟨ps, h1, h2, h3⟩ := t p hp
  have n1 : p.1 ≠ a := fun e => by rw [e, ho] at h1; injection h1 with h1; cases h1
  refine ⟨ps, by rw [rm_ne n1]; exact h1, h2, fun pos cv hc => ?_⟩
  obtain ⟨c, e1, e2⟩ := h3 pos cv hc
  have n2 : c ≠ a := fun e => by
    rw [e, ho] at e2
    injection e2 with e2
    unfold CodeO at e2
    cases e2
  exact ⟨c, e1, by rw [rm_ne n2]; exact e2⟩
theorem ExtN.set {M H : Hp} {p : Addr} {o : HO} (e : ExtN M H) (h : M p = none) : ExtN M (upd H p o) := fun b u q n => by
  rw [upd_ne (ne_of_none q h)]
  exact e _ _ q n
theorem ExtN.none {H H' : Hp} {p : Addr} (e : ExtN H H') (h : H' p = Option.none) (n : ∀ ps, H p ≠ some (.tbl ps)) : H p = Option.none := by
  cases q : H p with
  | none => rfl
  | some o =>
    have := e _ _ q (fun ps z => n ps (by rw [q, z]))
    rw [this] at h
    cases h
theorem sql_ext {K : PySem.W.Frag} {H H' : Hp} {a : Addr} {xs : List V} (e : ExtN H H') (h : SqL K H a xs) : SqL K H' a xs := by
  rcases h with (h | ⟨u, h⟩) | h
  · exact .inl (.inl (e _ _ h fun _ q => by cases q))
  · exact .inl (.inr ⟨u, e _ _ h fun _ q => by cases q⟩)
  · exact .inr h
/-- a list changes: the tables stay -/
theorem Tabs.set {T : List (Addr × Str)} {H : Hp} {f : Addr} {xs ys : List V} (t : Tabs T H) (hf : H f = some (.lst xs)) : Tabs T (upd H f (.lst ys)) := fun p hp => by
  obtain ⟨ps, h1, h2, h3⟩ := t p hp
  have n1 : p.1 ≠ f := fun e => by rw [e, hf] at h1; injection h1 with h1; cases h1
  refine ⟨ps, by rw [upd_ne n1]; exact h1, h2, fun pos cv hc => ?_⟩
  obtain ⟨c, e1, e2⟩ := h3 pos cv hc
  have n2 : c ≠ f := fun e => by
    rw [e, hf] at e2
    injection e2 with e2
    unfold CodeO at e2
    cases e2
  exact ⟨c, e1, by rw [upd_ne n2]; exact e2⟩
theorem cut_to (xs : List V) {k : Nat} (h : k ≤ xs.length) : cutV xs none (some (k : Int)) = xs.take k := by
  unfold cutV
  rw [HT.sIx_none, HT.sIx_nat, Nat.min_eq_left h, Nat.sub_zero, List.drop_zero]
theorem cut_from (xs : List V) {k : Nat} (h : k ≤ xs.length) : cutV xs (some (k : Int)) none = xs.drop k := by
  unfold cutV
  rw [HT.sIx_none, HT.sIx_nat, Nat.min_eq_left h, List.take_of_length_le (by rw [List.length_drop]; exact Nat.le_refl _)]
/-! ### what is settled, beside the draws' list at a -/
structure Dr (a : Addr) (M H : Hp) : Prop where
  d : DrawsAt H a
  s : Same M (rm H a)
section
variable {a p : Addr} {M H H' : Hp} {o : HO}
theorem Dr.ne (D : Dr a M H) {b : Addr} {x : HO} (e : M b = some x) : b ≠ a := fun z => by
  have h := D.s _ _ e
  rw [z, rm_at] at h
  cases h
theorem Dr.get (D : Dr a M H) {b : Addr} {x : HO} (e : M b = some x) : H b = some x := rm_same _ _ (D.s _ _ e)
theorem Dr.up (D : Dr a M H) : Same M H := fun _ _ e => D.get e
theorem Dr.free (D : Dr a M H) {b : Addr} (h : H b = none) : M b = none := by
  cases q : M b with
  | none => rfl
  | some x => rw [D.get q] at h; cases h
theorem Dr.grow (D : Dr a M H) (s : Same H H') : Dr a M H' := ⟨by
  obtain ⟨o, e, x⟩ := D.d
  exact ⟨o, s _ _ e, x⟩, D.s.trans (Same.rm s)⟩
theorem Dr.lay (D : Dr a M H) (hp : H p = none) : Dr a (upd M p o) (upd H p o) ∧ Same M (upd M p o) := by
  have np : p ≠ a := fun z => D.d.some (by rw [← z]; exact hp)
  refine ⟨⟨(D.grow (Same.up hp)).d, fun b x e => ?_⟩, Same.up (D.free hp)⟩
  by_cases c : b = p
  · rw [c, upd_same] at e
    rw [c, rm_ne np, upd_same]
    exact e
  · rw [upd_ne c] at e
    have h := D.s _ _ e
    have nb : b ≠ a := D.ne e
    rw [rm_ne nb] at h ⊢
    rw [upd_ne c]
    exact h
theorem Dr.pick (D : Dr a M H) (ho : DrawsO o) : Dr a M (upd H a o) := ⟨⟨o, upd_same, ho⟩, by rw [rm_upd]; exact D.s⟩
end
end Sr

set_option Elab.async false
set_option linter.all false
set_option maxRecDepth 100000
set_option maxHeartbeats 4000000
namespace K25
open PySem PySem.Spec PyProof.Rows L2 Sr
def top (i : Nat) : Stmt := PySem.Challenge.pw_seatroads_k25_rows_told.main.body.getD i (.Pass ⟨0, 0, 0, 0⟩)
def signs : Str := "abcdefghijklmnopqrstuvwxyz0123456789"
/-- what the top leaves besides defs -/
structure Txt (K : PySem.W.Frag) (mg : Str → Option Value) : Prop where
  len : mg "len" = none
  isinstance : mg "isinstance" = none
  all : mg "all" = none
  range : mg "range" = none
  sorted : mg "sorted" = none
  list : mg "list" = none
  tuple : mg "tuple" = none
  min : mg "min" = none
  int : mg "int" = none
  str : mg "str" = none
  bool : mg "bool" = none
  dict : mg "dict" = none
  zip : mg "zip" = none
  enumerate : mg "enumerate" = none
  gSigns : ∃ t, mg "SIGNS" = some (.str signs t)
  gLongest : ∃ t, mg "LONGEST" = some (.int 8 t)
  gTill : ∃ t, mg "TILL" = some (.str "the-till" t)
  gPool : ∃ t, mg "POOL" = some (.str "the-pool" t)
theorem Txt.e_SIGNS {X : Cx} {p : Pos} (T : Txt X.K X.mg) (h : Gl X "SIGNS" := by rfl) : PE X (.Name "SIGNS" p) (tC (.str signs)) := by
  obtain ⟨t, e⟩ := T.gSigns
  exact pe_glob h e ⟨t, rfl⟩
theorem Txt.e_LONGEST {X : Cx} {p : Pos} (T : Txt X.K X.mg) (h : Gl X "LONGEST" := by rfl) : PE X (.Name "LONGEST" p) (tC (.int 8)) := by
  obtain ⟨t, e⟩ := T.gLongest
  exact pe_glob h e ⟨t, rfl⟩
theorem Txt.e_TILL {X : Cx} {p : Pos} (T : Txt X.K X.mg) (h : Gl X "TILL" := by rfl) : PE X (.Name "TILL" p) (tC (.str "the-till")) := by
  obtain ⟨t, e⟩ := T.gTill
  exact pe_glob h e ⟨t, rfl⟩
theorem Txt.e_POOL {X : Cx} {p : Pos} (T : Txt X.K X.mg) (h : Gl X "POOL" := by rfl) : PE X (.Name "POOL" p) (tC (.str "the-pool")) := by
  obtain ⟨t, e⟩ := T.gPool
  exact pe_glob h e ⟨t, rfl⟩
/-! ### what the defs tell -/
def nameOk : Dt → Bool
  | .str s => (decide (1 ≤ s.length) && decide (s.length ≤ 8)) && s.cps.toList.all fun c => decide (c ∈ signs.cps.toList)
  | _ => false
def flatD (d : Dt) : Prop := isSeq d = false ∧ d ≠ .dic
def valD : Dt → V
  | .bl b => .bl b
  | .int i => .int i
  | .str s => .str s
  | _ => .non
theorem flat_val {H : Hp} {v : V} {d : Dt} (h : Is H v d) (f : flatD d) : v = valD d ∧ flatV (valD d) = true := by
  cases h with
  | lst => cases f.1
  | tup => cases f.1
  | dic => exact absurd rfl f.2
  | _ => exact ⟨rfl, rfl⟩
def offices : List V := [.str "the-till", .str "the-pool"]
def accOk (d : Dt) : Bool := nameOk d || inV (valD d) offices
def isInteger (d : Dt) : Bool := isInt d && !isBl d
def seqOf : Dt → Option (List Dt)
  | .lst l => some l
  | .tup l => some l
  | _ => none
def rowL : List Dt → Bool
  | [a, b, c] => accOk a && (nameOk b && isInteger c)
  | _ => false
def rowOk (d : Dt) : Bool := match seqOf d with
  | some l => rowL l
  | none => false
def rowFlat (d : Dt) : Prop := ∀ l, seqOf d = some l → ∀ x ∈ l, flatD x
def firstBad : List Dt → Nat → Option Nat
  | [], _ => none
  | x :: r, i => if rowOk x = true then firstBad r (i + 1) else some i
def badAt (d : Dt) : Option Nat := match seqOf d with
  | none => some 0
  | some l => firstBad l 0
/-- of one datum: told a Bool, what stood stays -/
def spB (f : Dt → Bool) : Sp := fun vs H Q _ => ∃ v d, vs = [v] ∧ Is H v d ∧ ∀ H', Same H H' → Q (.bl (f d)) H'
theorem spB_len {f : Dt → Bool} (vs : List V) (H : Hp) (Q : VK) (E : XK) (h : spB f vs H Q E) : vs.length = 1 := by
  obtain ⟨v, d, rfl, _⟩ := h
  rfl
/-- the same, of a datum with a property -/
def spBP (p : Dt → Prop) (f : Dt → Bool) : Sp := fun vs H Q _ => ∃ v d, vs = [v] ∧ Is H v d ∧ p d ∧ ∀ H', Same H H' → Q (.bl (f d)) H'
theorem spBP_len {p : Dt → Prop} {f : Dt → Bool} (vs : List V) (H : Hp) (Q : VK) (E : XK) (h : spBP p f vs H Q E) : vs.length = 1 := by
  obtain ⟨v, d, rfl, _⟩ := h
  rfl
abbrev one {α : Type} {l : List α} (h : l.length = 1) : ∃ x, l = [x] := List.length_eq_one_iff.mp h
section
variable {P : Program} {w : World} {K : PySem.W.Frag} {mg : Str → Option Value} {base : Heap}
abbrev s_is_list : Stmt := top 4
theorem sc_is_list : FnScope ["thing"] ["thing"] (defScope s_is_list) := ⟨rfl, rfl, rfl, by decide +kernel, rfl, by decide +kernel, by decide +kernel⟩
theorem c_is_list (T : Txt K mg) (D : Dfn K mg "is_list" s_is_list) : Cal P w K mg base 1 "is_list" ["thing"] (spB isSeq) := by
  refine D.cal sc_is_list (fun _ _ _ _ _ _ us hl => match us, hl with | [_], _ => rfl) spB_len fun cdv A outer s H vs Q E hr h => ?_
  obtain ⟨v, d, rfl, hv, q⟩ := h
  refine ⟨_, (pss_one (ps_ret (pe_callB (id := "isinstance") call_isiT (by rfl) T.isinstance (by decide +kernel) (pa_cons (pv 0) (pa_cons (pe_tup (pa_cons (pe_tyv (n := "list") (by rfl) T.list (by decide +kernel)) (pa_cons (pe_tyv (n := "tuple") (by rfl) T.tuple (by decide +kernel)) pa_nil))) pa_nil))))), ?_⟩
  refine ⟨_, rfl, two_line, fun p hp => ⟨v, p, [.ty "list", .ty "tuple"], .type (tyN d), [.type "list", .type "tuple"], _, rfl, upd_same, cls_two _ _, (hv.mono (Same.up hp)).ty, kit_seq K d, q _ (Same.up hp)⟩⟩
abbrev s_is_integer : Stmt := top 3
theorem sc_is_integer : FnScope ["thing"] ["thing"] (defScope s_is_integer) := ⟨rfl, rfl, rfl, by decide +kernel, rfl, by decide +kernel, by decide +kernel⟩
theorem c_is_integer (T : Txt K mg) (D : Dfn K mg "is_integer" s_is_integer) : Cal P w K mg base 1 "is_integer" ["thing"] (spB isInteger) := by
  refine D.cal sc_is_integer (fun _ _ _ _ _ _ us hl => match us, hl with | [_], _ => rfl) spB_len fun cdv A outer s H vs Q E hr h => ?_
  obtain ⟨v, d, rfl, hv, q⟩ := h
  refine ⟨_, (pss_one (ps_ret (pe_and (pe_callB (id := "isinstance") call_isi (by rfl) T.isinstance (by decide +kernel) (pa_cons (pv 0) (pa_cons (pe_tyv (n := "int") (by rfl) T.int (by decide +kernel)) pa_nil))) (pe_one (pe_not (pe_callB (id := "isinstance") call_isi (by rfl) T.isinstance (by decide +kernel) (pa_cons (pv 0) (pa_cons (pe_tyv (n := "bool") (by rfl) T.bool (by decide +kernel)) pa_nil)))))))), ?_⟩
  refine ⟨_, rfl, v, _, _, _, _, rfl, .ty _, hv.ty, kit_int K d, _, rfl, ?_⟩
  have e : isInteger d = if isInt d = true then !isBl d else false := by
    unfold isInteger
    cases isInt d <;> rfl
  cases c : isInt d with
  | true =>
    rw [c, if_pos rfl] at e
    exact iteT ⟨_, rfl, v, _, _, _, _, rfl, .ty _, hv.ty, kit_bool K d, _, rfl, by rw [← e]; exact q _ (Same.refl H)⟩
  | false =>
    rw [c] at e
    exact iteF (by rw [show (false : Bool) = isInteger d from e.symm]; exact q _ (Same.refl H))
abbrev s_is_name : Stmt := top 5
theorem sc_is_name : FnScope ["thing", "sign"] ["thing"] (defScope s_is_name) := ⟨rfl, rfl, rfl, by decide +kernel, rfl, by decide +kernel, by decide +kernel⟩
theorem c_is_name (T : Txt K mg) (D : Dfn K mg "is_name" s_is_name) : Cal P w K mg base 1 "is_name" ["thing"] (spB nameOk) := by
  refine D.cal sc_is_name (fun _ _ _ _ _ _ us hl => match us, hl with | [_], _ => rfl) spB_len fun cdv A outer s H vs Q E hr h => ?_
  obtain ⟨v, d, rfl, hv, q⟩ := h
  refine ⟨_, (pss_cons (ps_if (PW.pt (pw_or (pt_not (pt_val (pe_callB (id := "isinstance") call_isi (by rfl) T.isinstance (by decide +kernel) (pa_cons (pv 0) (pa_cons (pe_tyv (n := "str") (by rfl) T.str (by decide +kernel)) pa_nil))))) (pw_or1 (pt_not (pt_chain op_le op_le pe_int (pe_callB (id := "len") call_len_str (by rfl) T.len (by decide +kernel) (pa_cons (pv 0) pa_nil)) (T.e_LONGEST (by rfl))))))) (pss_one (ps_ret pe_bl)) pss_nil)
      (pss_one (ps_ret (pe_callB (id := "all") (cr_all rfl) (by rfl) T.all (by decide +kernel) (pa_cons (pe_lc (own := [("sign", 1)]) (g := gName 1) (tt := tYes) rfl sc_is_name.nd (pi_str (pv 0)) (blkOk_by (N := ["thing", "sign"]) (sc := defScope s_is_name) (by decide +kernel)) (fun _ _ _ _ _ => (pg_name (i := 1) sc_is_name.nd rfl (by first | exact Or.inl rfl | exact Or.inr rfl))) (fun _ _ _ _ _ => pts_nil) (fun _ _ _ _ _ => (pe_cmpR op_in_sign (pv 1) (T.e_SIGNS (by rfl)) (by rfl)))) pa_nil))))), ?_⟩
  refine ⟨_, rfl, v, _, _, _, _, rfl, .ty _, hv.ty, kit_str K d, _, rfl, ?_⟩
  cases hv with
  | str z hz =>
    refine iteF ?_
    refine ⟨_, rfl, z, rfl, Nat.le_of_lt (sz hz), _, _, rfl, rfl, _, rfl, ?_⟩
    have hS : z.cps.toList.length = z.cps.size := Array.length_toList
    have key : ∀ b : Bool, nameOk (.str z) = b → ∀ H', Same H H' → Q (.bl b) H' := fun b e => e ▸ q
    by_cases h1 : (1 : Int) ≤ (z.length : Int)
    · rw [decide_eq_true h1]
      refine iteT ⟨_, _, rfl, rfl, _, rfl, ?_⟩
      by_cases h2 : (z.length : Int) ≤ 8
      · rw [decide_eq_true h2]
        refine iteF ?_
        refine ⟨_, rfl, z, rfl, fun D hD => lc_pure walk_str (At := fun i x => ∃ c, z.cps[i]? = some c ∧ x = .str ⟨#[c]⟩) (fun _ _ _ _ y => y) ((z.cps.toList.map fun c => decide (c ∈ signs.cps.toList)).map V.bl)
          (by rw [List.length_map, List.length_map, hS]) (sz (m := 1000) hz) hD (fun _ _ => trivial) (fun i x y H1 Q hi hx hy s1 k => ?_) (fun H' s' h' => all_of h' ?_)⟩
        · obtain ⟨c, hc, rfl⟩ := hx
          refine ⟨_, rfl, c, signs, rfl, rfl, ?_⟩
          rw [List.getElem?_map, List.getElem?_map, Array.getElem?_toList, hc] at hy
          obtain rfl : V.bl (decide (c ∈ signs.cps.toList)) = y := Option.some.inj hy
          exact k _ (Same.refl _)
        · refine key _ ?_ H' s'
          show ((decide (1 ≤ z.length) && decide (z.length ≤ 8)) && _) = _
          rw [decide_eq_true (by omega), decide_eq_true (by omega), List.all_map]
          rfl
      · rw [decide_eq_false h2]
        refine iteT (key _ ?_ _ (Same.refl H))
        show ((decide (1 ≤ z.length) && decide (z.length ≤ 8)) && _) = _
        rw [decide_eq_false (show ¬ z.length ≤ 8 by omega), Bool.and_false, Bool.false_and]
    · rw [decide_eq_false h1]
      refine iteF ⟨_, rfl, iteT (key _ ?_ _ (Same.refl H))⟩
      show ((decide (1 ≤ z.length) && decide (z.length ≤ 8)) && _) = _
      rw [decide_eq_false (show ¬ 1 ≤ z.length by omega), Bool.false_and, Bool.false_and]
  | _ => exact iteT (q _ (Same.refl H))
abbrev s_is_account : Stmt := top 14
theorem sc_is_account : FnScope ["thing"] ["thing"] (defScope s_is_account) := ⟨rfl, rfl, rfl, by decide +kernel, rfl, by decide +kernel, by decide +kernel⟩
theorem c_is_account (T : Txt K mg) (D : Dfn K mg "is_account" s_is_account) (C_is_name : Cal P w K mg base 1 "is_name" ["thing"] (spB nameOk)) : Cal P w K mg base 2 "is_account" ["thing"] (spBP flatD accOk) := by
  refine D.cal sc_is_account (fun _ _ _ _ _ _ us hl => match us, hl with | [_], _ => rfl) spBP_len fun cdv A outer s H vs Q E hr h => ?_
  obtain ⟨v, d, rfl, hv, hf, q⟩ := h
  refine ⟨_, (pss_one (ps_ret (pe_or (pe_cal C_is_name hr (by first | decide | omega) (by rfl) (pa_cons (pv 0) pa_nil)) (pe_one (pe_cmpR op_in_seq (pv 0) (pe_tup (pa_cons (T.e_TILL (by rfl)) (pa_cons (T.e_POOL (by rfl)) pa_nil))) (by rfl)))))), ?_⟩
  refine ⟨_, rfl, v, d, rfl, hv, fun H1 s1 => ⟨_, rfl, ?_⟩⟩
  obtain ⟨rfl, fv⟩ := flat_val hv hf
  cases c : nameOk d with
  | true =>
    have e : accOk d = true := by unfold accOk; rw [c]; rfl
    rw [e] at q
    exact iteT (q _ s1)
  | false =>
    have e : accOk d = inV (valD d) offices := by unfold accOk; rw [c]; rfl
    rw [e] at q
    exact iteF ⟨_, rfl, two_line, fun p hp => ⟨p, offices, rfl, .inr (SqT.of upd_same), fv, by decide +kernel, q _ (s1.trans (Same.up hp))⟩⟩
abbrev s__is_row : Stmt := top 15
theorem sc__is_row : FnScope ["thing"] ["thing"] (defScope s__is_row) := ⟨rfl, rfl, rfl, by decide +kernel, rfl, by decide +kernel, by decide +kernel⟩
theorem c__is_row (T : Txt K mg) (D : Dfn K mg "_is_row" s__is_row) (C_is_list : Cal P w K mg base 1 "is_list" ["thing"] (spB isSeq)) (C_is_account : Cal P w K mg base 2 "is_account" ["thing"] (spBP flatD accOk))
    (C_is_name : Cal P w K mg base 1 "is_name" ["thing"] (spB nameOk)) (C_is_integer : Cal P w K mg base 1 "is_integer" ["thing"] (spB isInteger)) : Cal P w K mg base 3 "_is_row" ["thing"] (spBP rowFlat rowOk) := by
  refine D.cal sc__is_row (fun _ _ _ _ _ _ us hl => match us, hl with | [_], _ => rfl) spBP_len fun cdv A outer s H vs Q E hr h => ?_
  obtain ⟨v, d, rfl, hv, hf, q⟩ := h
  refine ⟨_, (pss_one (ps_ret (pe_and (pe_cal C_is_list hr (by first | decide | omega) (by rfl) (pa_cons (pv 0) pa_nil)) (pe_and (pe_cmpR op_eq (pe_callB (id := "len") call_len_seq (by rfl) T.len (by decide +kernel) (pa_cons (pv 0) pa_nil)) pe_int (nomark _)) (pe_and (pe_cal C_is_account hr (by first | decide | omega) (by rfl) (pa_cons (pe_ix ix_seq (pv 0) pe_int (fun _ _ => rfl)) pa_nil)) (pe_and (pe_cal C_is_name hr (by first | decide | omega) (by rfl) (pa_cons (pe_ix ix_seq (pv 0) pe_int (fun _ _ => rfl)) pa_nil)) (pe_one (pe_cal C_is_integer hr (by first | decide | omega) (by rfl) (pa_cons (pe_ix ix_seq (pv 0) pe_int (fun _ _ => rfl)) pa_nil))))))))), ?_⟩
  refine ⟨_, rfl, v, d, rfl, hv, fun H1 s1 => ⟨_, rfl, ?_⟩⟩
  have no : isSeq d = false → rowOk d = false := fun e => by cases d <;> first | rfl | cases e
  cases hq : isSeq d with
  | false =>
    rw [no hq] at q
    exact iteF (q _ s1)
  | true =>
    obtain ⟨a, xs, ds, rfl, hs, ia, zz, hds⟩ : ∃ a xs ds, v = .ref a ∧ (SqL K H1 a xs ∨ SqT K H1 a xs) ∧ IsA H1 xs ds ∧ xs.length ≤ 60 ∧ seqOf d = some ds := by
      cases hv with
      | lst h r z => exact ⟨_, _, _, rfl, .inl (SqL.of (s1 _ _ h)), r.mono s1, z, rfl⟩
      | tup h r z => exact ⟨_, _, _, rfl, .inr (SqT.of (s1 _ _ h)), r.mono s1, z, rfl⟩
      | _ => cases hq
    refine iteT ⟨_, rfl, a, xs, rfl, hs, rfl, _, rfl, ?_⟩
    have qv : rowOk d = rowL ds := by
      unfold rowOk
      rw [hds]
    have hl := ia.len
    by_cases h3 : xs.length = 3
    · obtain ⟨x, y, z, rfl⟩ : ∃ x y z, xs = [x, y, z] := by
        match xs, h3 with
        | [x, y, z], _ => exact ⟨x, y, z, rfl⟩
      cases ia with
      | cons i1 r1 => cases r1 with
        | cons i2 r2 => cases r2 with
          | cons i3 r3 => cases r3 with
            | nil =>
              rename_i d1 d2 d3
              have qv2 : rowOk d = (accOk d1 && (nameOk d2 && isInteger d3)) := qv
              have f1 : flatD d1 := hf _ hds _ List.mem_cons_self
              have up : ∀ {H2 : Hp}, Same H1 H2 → (SqL K H2 a [x, y, z] ∨ SqT K H2 a [x, y, z]) := fun s2 => sq_mono s2 hs
              have ixq : ∀ {H2 : Hp} (s2 : Same H1 H2) (n : Int) (u : V) (R : VK), atI [x, y, z] n = some u → R u H2 → (rIx K) (.ref a) (.int n) H2 R := fun s2 n u R e r => by
                rcases up s2 with h | h
                · exact .inl ⟨a, _, _, _, rfl, rfl, h, e, r⟩
                · exact .inr (.inl ⟨a, _, _, _, rfl, rfl, h, e, r⟩)
              refine iteT ⟨_, rfl, ixq (Same.refl _) 0 x _ rfl ⟨x, d1, rfl, i1, f1, fun H2 s2 => ⟨_, rfl, ?_⟩⟩⟩
              cases c1 : accOk d1 with
              | false =>
                rw [qv2, c1] at q
                exact iteF (q _ (s1.trans s2))
              | true =>
                refine iteT ⟨_, rfl, ixq s2 1 y _ rfl ⟨y, d2, rfl, i2.mono s2, fun H3 s3 => ⟨_, rfl, ?_⟩⟩⟩
                cases c2 : nameOk d2 with
                | false =>
                  rw [qv2, c1, c2] at q
                  exact iteF (q _ (s1.trans (s2.trans s3)))
                | true =>
                  rw [qv2, c1, c2] at q
                  exact iteT ⟨_, rfl, ixq (s2.trans s3) 2 z _ rfl ⟨z, d3, rfl, i3.mono (s2.trans s3), fun H4 s4 => q _ (s1.trans (s2.trans (s3.trans s4)))⟩⟩
    · have nn : rowOk d = false := by
        rw [qv]
        match ds, hl with
        | [], _ => rfl
        | [_], _ => rfl
        | [_, _], _ => rfl
        | [_, _, _], hl => exact absurd hl h3
        | _ :: _ :: _ :: _ :: _, _ => rfl
      rw [nn] at q
      rw [decide_eq_false (by intro z; injection z with z; omega)]
      exact iteF (q _ s1)
end
end K25

set_option Elab.async false
set_option linter.all false
set_option maxRecDepth 100000
set_option maxHeartbeats 4000000
namespace K25
open PySem PySem.Spec PyProof.Rows L2 Sr
/-- rows, each with flat items, looked at: the first that is none is told -/
def spChk (K : PySem.W.Frag) : Sp := fun vs H Q E => ∃ v d, vs = [v] ∧ Is H v d ∧ (∀ l, seqOf d = some l → ∀ x ∈ l, rowFlat x) ∧ (badAt d = none → ∀ H', Same H H' → Q .non H') ∧
  ∀ i, badAt d = some i → ∀ H' e, Same H H' → H' e = none → E (.ref (He.ga K "BadRow")) (some e) (upd H' e (.xd [("index", .int (i : Nat))]))
theorem firstBad_drop {l : List Dt} {i : Nat} {x : Dt} (h : l[i]? = some x) : firstBad (l.drop i) i = if rowOk x = true then firstBad (l.drop (i + 1)) (i + 1) else some i := by
  have hi := (List.getElem?_eq_some_iff.mp h).1
  have e : l.drop i = x :: l.drop (i + 1) := by
    rw [List.drop_eq_getElem_cons hi]
    congr 1
    exact (List.getElem?_eq_some_iff.mp h).2
  rw [e]
  rfl
section
variable {P : Program} {w : World} {K : PySem.W.Frag} {mg : Str → Option Value} {base : Heap}
abbrev s_BadRow___init__ : Stmt := inClass (top 8) 0
theorem sc_BadRow___init__ : FnScope ["self", "index"] ["self", "index"] (defScope s_BadRow___init__) := ⟨rfl, rfl, rfl, by decide +kernel, rfl, by decide +kernel, by decide +kernel⟩
theorem m_BadRow (E : Err K (He.ga K "BadRow") (He.fAd K ("BadRow", some "__init__")) "index") (D : DfnM K "BadRow" "__init__" "BadRow.__init__" s_BadRow___init__) :
    CalM P w K mg base CX0 1 (He.fAd K ("BadRow", some "__init__")) ["self", "index"] (spErr K (He.ga K "BadRow") "index") := by
  refine D.cal sc_BadRow___init__ (fun _ _ _ _ _ _ us hl => match us, hl with | [_, _], _ => rfl) (fun vs H Q E' h => ?_) fun cdv A outer s H vs Q E' hr h => ?_
  · obtain ⟨a, v, rfl, _⟩ := h
    rfl
  obtain ⟨a, v, rfl, ha, q⟩ := h
  refine ⟨_, (pss_one (ps_ost (pv 0) (pv 1))), ?_⟩
  exact ⟨_, rfl, _, rfl, a, _, rfl, E.oex, E.no, .inl ⟨ha, q⟩⟩
abbrev s__check_rows : Stmt := top 16
theorem sc__check_rows : FnScope ["rows", "index", "row"] ["rows"] (defScope s__check_rows) := ⟨rfl, rfl, rfl, by decide +kernel, rfl, by decide +kernel, by decide +kernel⟩
theorem c__check_rows (T : Txt K mg) (R : ErrAt P w K mg base "BadRow" "index" "index") (D : Dfn K mg "_check_rows" s__check_rows) (C_is_list : Cal P w K mg base 1 "is_list" ["thing"] (spB isSeq)) (C_is_row : Cal P w K mg base 3 "_is_row" ["thing"] (spBP rowFlat rowOk)) :
    CalE P w K mg base 4 "_check_rows" ["rows"] (spChk K) := by
  refine D.calE sc__check_rows (fun _ _ _ _ _ _ us hl => match us, hl with | [_], _ => rfl) (fun vs H Q E h => ?_) fun cdv A outer s H vs Q E hr h => ?_
  · obtain ⟨v, d, rfl, _⟩ := h
    rfl
  obtain ⟨v, d, rfl, hv, hf, q1, q2⟩ := h
  have key : ∀ (l : List Dt) (xs : List V) (H1 : Hp), seqOf d = some l → Same H H1 → IsA H1 xs l → ∀ (i : Nat) (x : V), xs[i]? = some x → ∃ dx, l[i]? = some dx ∧ Is H1 x dx ∧ rowFlat dx := fun l xs H1 e s1 ia i x hx => by
    obtain ⟨dx, e1, i1⟩ := ia.get hx
    exact ⟨dx, e1, i1, hf l e dx (List.mem_of_getElem? e1)⟩
  have hv0 := hv
  cases hv with
  | lst hv rv zv =>
    rename_i a xs l
    refine ⟨_, (pss_cons (ps_if (pt_not (pt_val (pe_cal C_is_list hr (by first | decide | omega) (by rfl) (pa_cons (pv 0) pa_nil)))) (pss_one (ps_raise rfl (takes_of rfl rfl rfl rfl) (R.mk_ hr (by decide) (by rfl) (pa_cons pe_int pa_nil)))) pss_nil)
      (pss_one (ps_for (L2.passes_of rfl) rfl (pi_enum (by rfl) T.enumerate (pa_cons (pv 0) pa_nil)) (pg_tup rfl (pgs_cons (pg_name (i := 1) sc__check_rows.nd rfl (by first | exact Or.inl rfl | exact Or.inr rfl)) (pgs_cons (pg_name (i := 2) sc__check_rows.nd rfl (by first | exact Or.inl rfl | exact Or.inr rfl)) pgs_nil)))
      (pss_one (ps_if (pt_not (pt_val (pe_cal C_is_row hr (by first | decide | omega) (by rfl) (pa_cons (pv 2) pa_nil)))) (pss_one (ps_raise rfl (takes_of rfl rfl rfl rfl) (R.mk_ hr (by decide) (by rfl) (pa_cons (pv 1) pa_nil)))) pss_nil))))), ?_⟩
    refine ⟨_, rfl, _, _, rfl, .lst hv rv zv, fun H1 s1 => ⟨_, rfl, iteF ?_⟩⟩
    refine ⟨_, rfl, a, xs, rfl, SqL.of (s1 _ _ hv), for_it walk_enum (fun i σ H' => (∃ u v, σ = [some (.ref a), u, v]) ∧ Same H H' ∧ badAt (.lst l) = firstBad (l.drop i) i) ⟨⟨_, _, rfl⟩, s1, rfl⟩ (fun i σ H' hi p => SqL.of (p.2.1 _ _ hv)) ?_ ?_⟩
    · rintro i u σ H2 H3 hi ⟨⟨u1, v1, rfl⟩, s2, eb⟩ ⟨T', x, y, rfl, hT, rfl, hx, hy⟩
      obtain rfl : V.int (i : Nat) = x := Option.some.inj hx
      obtain ⟨dy, e1, i1, f1⟩ := key l xs H2 rfl s2 (rv.mono s2) i y hy
      have s3 : Same H2 _ := Same.up (o := .tup [.int (i : Nat), y]) hT
      refine ⟨T', _, rfl, SqT.of upd_same, rfl, _, _, rfl, _, _, rfl, rfl, ?_⟩
      refine ⟨_, rfl, y, dy, rfl, i1.mono s3, f1, fun H4 s4 => ⟨_, rfl, ?_⟩⟩
      rw [firstBad_drop e1] at eb
      cases c : rowOk dy with
      | true =>
        rw [c, if_pos rfl] at eb
        exact iteF ⟨⟨_, _, rfl⟩, s2.trans (s3.trans s4), eb⟩
      | false =>
        rw [c, if_neg (by simp)] at eb
        exact iteT ⟨_, rfl, err_at fun e he => q2 i eb _ e (s2.trans (s3.trans s4)) he⟩
    · rintro σ H2 ⟨⟨u1, v1, rfl⟩, s2, eb⟩
      have e0 : l.drop xs.length = [] := by rw [rv.len]; exact List.drop_length
      rw [e0] at eb
      exact q1 eb _ s2
  | tup hv rv zv =>
    rename_i a xs l
    refine ⟨_, (pss_cons (ps_if (pt_not (pt_val (pe_cal C_is_list hr (by first | decide | omega) (by rfl) (pa_cons (pv 0) pa_nil)))) (pss_one (ps_raise rfl (takes_of rfl rfl rfl rfl) (R.mk_ hr (by decide) (by rfl) (pa_cons pe_int pa_nil)))) pss_nil)
      (pss_one (ps_for (L2.passes_of rfl) rfl (pi_enumT (by rfl) T.enumerate (pa_cons (pv 0) pa_nil)) (pg_tup rfl (pgs_cons (pg_name (i := 1) sc__check_rows.nd rfl (by first | exact Or.inl rfl | exact Or.inr rfl)) (pgs_cons (pg_name (i := 2) sc__check_rows.nd rfl (by first | exact Or.inl rfl | exact Or.inr rfl)) pgs_nil)))
      (pss_one (ps_if (pt_not (pt_val (pe_cal C_is_row hr (by first | decide | omega) (by rfl) (pa_cons (pv 2) pa_nil)))) (pss_one (ps_raise rfl (takes_of rfl rfl rfl rfl) (R.mk_ hr (by decide) (by rfl) (pa_cons (pv 1) pa_nil)))) pss_nil))))), ?_⟩
    refine ⟨_, rfl, _, _, rfl, .tup hv rv zv, fun H1 s1 => ⟨_, rfl, iteF ?_⟩⟩
    refine ⟨_, rfl, a, xs, rfl, SqT.of (s1 _ _ hv), for_it walk_enumT (fun i σ H' => (∃ u v, σ = [some (.ref a), u, v]) ∧ Same H H' ∧ badAt (.tup l) = firstBad (l.drop i) i) ⟨⟨_, _, rfl⟩, s1, rfl⟩ (fun i σ H' hi p => SqT.of (p.2.1 _ _ hv)) ?_ ?_⟩
    · rintro i u σ H2 H3 hi ⟨⟨u1, v1, rfl⟩, s2, eb⟩ ⟨T', x, y, rfl, hT, rfl, hx, hy⟩
      obtain rfl : V.int (i : Nat) = x := Option.some.inj hx
      obtain ⟨dy, e1, i1, f1⟩ := key l xs H2 rfl s2 (rv.mono s2) i y hy
      have s3 : Same H2 _ := Same.up (o := .tup [.int (i : Nat), y]) hT
      refine ⟨T', _, rfl, SqT.of upd_same, rfl, _, _, rfl, _, _, rfl, rfl, ?_⟩
      refine ⟨_, rfl, y, dy, rfl, i1.mono s3, f1, fun H4 s4 => ⟨_, rfl, ?_⟩⟩
      rw [firstBad_drop e1] at eb
      cases c : rowOk dy with
      | true =>
        rw [c, if_pos rfl] at eb
        exact iteF ⟨⟨_, _, rfl⟩, s2.trans (s3.trans s4), eb⟩
      | false =>
        rw [c, if_neg (by simp)] at eb
        exact iteT ⟨_, rfl, err_at fun e he => q2 i eb _ e (s2.trans (s3.trans s4)) he⟩
    · rintro σ H2 ⟨⟨u1, v1, rfl⟩, s2, eb⟩
      have e0 : l.drop xs.length = [] := by rw [rv.len]; exact List.drop_length
      rw [e0] at eb
      exact q1 eb _ s2
  | _ =>
    refine ⟨_, (pss_cons (ps_if (pt_not (pt_val (pe_cal C_is_list hr (by first | decide | omega) (by rfl) (pa_cons (pv 0) pa_nil)))) (pss_one (ps_raise rfl (takes_of rfl rfl rfl rfl) (R.mk_ hr (by decide) (by rfl) (pa_cons pe_int pa_nil)))) pss_nil)
      (pss_one (ps_for (L2.passes_of rfl) rfl (pi_enum (by rfl) T.enumerate (pa_cons (pv 0) pa_nil)) (pg_tup rfl (pgs_cons (pg_name (i := 1) sc__check_rows.nd rfl (by first | exact Or.inl rfl | exact Or.inr rfl)) (pgs_cons (pg_name (i := 2) sc__check_rows.nd rfl (by first | exact Or.inl rfl | exact Or.inr rfl)) pgs_nil)))
      (pss_one (ps_if (pt_not (pt_val (pe_cal C_is_row hr (by first | decide | omega) (by rfl) (pa_cons (pv 2) pa_nil)))) (pss_one (ps_raise rfl (takes_of rfl rfl rfl rfl) (R.mk_ hr (by decide) (by rfl) (pa_cons (pv 1) pa_nil)))) pss_nil))))), ?_⟩
    refine ⟨_, rfl, _, _, rfl, hv0, fun H1 s1 => ⟨_, rfl, ?_⟩⟩
    refine iteT ?_
    exact err_at fun e he => q2 0 rfl _ e s1 he
end
end K25

set_option Elab.async false
set_option linter.all false
set_option maxRecDepth 100000
set_option maxHeartbeats 4000000
namespace K25
open PySem PySem.Spec PyProof.Rows L2 Sr
abbrev Rw := (Str × Str) × Int
def rowLd (r : Rw) : Dt := .lst [.str r.1.1, .str r.1.2, .int r.2]
def sumT (rs : List Rw) : List (List Key × V) := sums (fun r : Rw => pk r.1) (·.2) rs
def sumS (rs : List Rw) : List (Key × V) := sums (fun r : Rw => Sum.inr r.1.2) (·.2) rs
theorem sumT_len (rs : List Rw) : (sumT rs).length ≤ rs.length := by
  have h := sums_len (fun r : Rw => pk r.1) (·.2) rs []
  simp only [List.length_nil, Nat.zero_add] at h
  exact h
theorem sumS_len (rs : List Rw) : (sumS rs).length ≤ rs.length := by
  have h := sums_len (fun r : Rw => (Sum.inr r.1.2 : Key)) (·.2) rs []
  simp only [List.length_nil, Nat.zero_add] at h
  exact h
theorem row_at {H : Hp} {v : V} {r : Rw} (h : Is H v (rowLd r)) : ∃ a, v = .ref a ∧ H a = some (.lst [.str r.1.1, .str r.1.2, .int r.2]) ∧ small r.1 := by
  cases h with
  | lst h ia z =>
    cases ia with
    | cons i1 t => cases t with
      | cons i2 t => cases t with
        | cons i3 t => cases t with
          | nil => cases i1 with
            | str s h1 => cases i2 with
              | str s2 h2 => cases i3 with
                | int i => exact ⟨_, rfl, h, h1, h2⟩
def spTold (K : PySem.W.Frag) : Sp := fun vs H Q E => ∃ v d, vs = [v] ∧ Is H v d ∧ (∀ l, seqOf d = some l → ∀ x ∈ l, rowFlat x) ∧
  (badAt d = none → ∃ rs : List Rw, d = .lst (rs.map rowLd) ∧ ∀ H' l, Same H H' → H l = none → H' l ≠ none → Is H' (.ref l) (.lst (toldOf (sumT rs))) → Q (.ref l) H') ∧
  ∀ i, badAt d = some i → ∀ H' e, Same H H' → H' e = none → E (.ref (He.ga K "BadRow")) (some e) (upd H' e (.xd [("index", .int (i : Nat))]))
section
variable {P : Program} {w : World} {K : PySem.W.Frag} {mg : Str → Option Value} {base : Heap}
abbrev s_told_rows : Stmt := top 12
theorem sc_told_rows : FnScope ["rows", "sums", "account", "thing", "amount"] ["rows"] (defScope s_told_rows) := ⟨rfl, rfl, rfl, by decide +kernel, rfl, by decide +kernel, by decide +kernel⟩
theorem c_told_rows (T : Txt K mg) (D : Dfn K mg "told_rows" s_told_rows) (C_check_rows : CalE P w K mg base 4 "_check_rows" ["rows"] (spChk K)) :
    CalE P w K mg base 5 "told_rows" ["rows"] (spTold K) := by
  refine D.calE sc_told_rows (fun _ _ _ _ _ _ us hl => match us, hl with | [_], _ => rfl) (fun vs H Q E h => ?_) fun cdv A outer s H vs Q E hr h => ?_
  · obtain ⟨v, d, rfl, _⟩ := h
    rfl
  obtain ⟨v, d, rfl, hv, hf, q1, q2⟩ := h
  refine ⟨_, (pss_cons (ps_expr (pe_calE C_check_rows hr (by first | decide | omega) (by rfl) (passes_def rfl rfl rfl rfl) (pa_cons (pv 0) pa_nil)))
      (pss_cons (ps_set (i := 1) sc_told_rows.nd rfl (by first | exact Or.inl rfl | exact Or.inr rfl) pe_dnewT)
      (pss_cons (ps_for (L2.passes_of rfl) rfl (pi_list (pv 0)) (pg_unl rfl (pgs_cons (pg_name (i := 2) sc_told_rows.nd rfl (by first | exact Or.inl rfl | exact Or.inr rfl)) (pgs_cons (pg_name (i := 3) sc_told_rows.nd rfl (by first | exact Or.inl rfl | exact Or.inr rfl)) (pgs_cons (pg_name (i := 4) sc_told_rows.nd rfl (by first | exact Or.inl rfl | exact Or.inr rfl)) pgs_nil))))
      (pss_one (ps_dput (hu_of hr) (pv 1) (pe_tup (pa_cons (pv 2) (pa_cons (pv 3) pa_nil))) (pe_op op_add (pe_dget2 (hu_of hr) (pv 1) (pe_tup (pa_cons (pv 2) (pa_cons (pv 3) pa_nil))) pe_int ⟨rfl, by rfl, rfl, rfl⟩) (pv 4)) rfl)))
      (pss_one (ps_ret (pe_lc (own := [("account", 2), ("thing", 3)]) (g := gTup K 2 (gCons (gName 2) (gCons (gName 3) gNil))) rfl sc_told_rows.nd (pi_list (pe_callB (id := "sorted") (call_sortedDT rfl hr.units) (by rfl) T.sorted (by decide +kernel) (pa_cons (pv 1) pa_nil))) (blkOk_by (N := ["rows", "sums", "account", "thing", "amount"]) (sc := defScope s_told_rows) (by decide +kernel)) (fun _ _ _ _ _ => (pg_tup rfl (pgs_cons (pg_name (i := 2) sc_told_rows.nd rfl (by first | exact Or.inl rfl | exact Or.inr rfl)) (pgs_cons (pg_name (i := 3) sc_told_rows.nd rfl (by first | exact Or.inl rfl | exact Or.inr rfl)) pgs_nil)))) (fun _ _ _ _ _ => (pts_one (pt_cmpR op_ne (pe_dget (hu_of hr) (pv 1) (pe_tup (pa_cons (pv 2) (pa_cons (pv 3) pa_nil))) (fun _ _ => rfl)) pe_int (nomark _)))) (fun _ _ _ _ _ => (pe_tup (pa_cons (pv 2) (pa_cons (pv 3) (pa_cons (pe_dget (hu_of hr) (pv 1) (pe_tup (pa_cons (pv 2) (pa_cons (pv 3) pa_nil))) (fun _ _ => rfl)) pa_nil))))))))))), ?_⟩
  refine ⟨_, rfl, v, d, rfl, hv, hf, fun hb H1 s1 => ?_, fun i e H' a s ha => q2 i e H' a s ha⟩
  obtain ⟨rs, rfl, q3⟩ := q1 hb
  cases hv with
  | lst hv rv zv =>
  rename_i a xs
  intro S hS
  have hl : xs.length = rs.length := rv.len.trans (by rw [List.length_map])
  have sS : Same H _ := s1.trans (Same.up (o := .dT []) hS)
  have nSa : S ≠ a := fun z => by rw [z, s1 _ _ hv] at hS; cases hS
  have sm : ∀ r ∈ rs, small r.1 := fun r m => by
    obtain ⟨i, hi⟩ := List.mem_iff_getElem?.mp m
    have hi2 : i < xs.length := by rw [hl]; exact (List.getElem?_eq_some_iff.mp hi).1
    obtain ⟨d, e1, i1⟩ := rv.get (List.getElem?_eq_getElem hi2)
    rw [List.getElem?_map, hi] at e1
    obtain rfl : rowLd r = d := Option.some.inj e1
    obtain ⟨_, _, _, h⟩ := row_at i1
    exact h
  refine ⟨_, rfl, a, rfl, ⟨xs, SqL.of (sS _ _ hv)⟩, for_it walk_list (fun i σ H' => (∃ u v w, σ = [some (.ref a), some (.ref S), u, v, w]) ∧ Same H1 H' ∧ H' S = some (.dT (sumT (rs.take i)))) ⟨⟨_, _, _, rfl⟩, Same.up hS, by simp [sumT, sums, upd_same]⟩ (fun i σ H' hi p => SqL.of (p.2.1 _ _ (s1 _ _ hv))) ?_ ?_⟩
  · rintro i x σ H2 H3 hi ⟨⟨u1, v1, w1, rfl⟩, s2, hd⟩ ⟨rfl, hx⟩
    have hi2 : i < rs.length := by omega
    obtain ⟨r, hr2⟩ : ∃ r, rs[i]? = some r := ⟨_, List.getElem?_eq_getElem hi2⟩
    obtain ⟨dd, e1, i1⟩ := rv.get hx
    rw [List.getElem?_map, hr2] at e1
    obtain rfl : rowLd r = dd := Option.some.inj e1
    obtain ⟨b, rfl, hb3, sm1⟩ := row_at (i1.mono (s1.trans s2))
    have I0 : Ints isPk (sumT (rs.take i)) := sums_ints _ _ _ _ Ints.nil fun r m => ⟨r.1, rfl, sm r (List.mem_of_mem_take m)⟩
    have tk : rs.take (i + 1) = rs.take i ++ [r] := by rw [List.take_add_one, hr2]; rfl
    refine ⟨b, _, rfl, SqL.of hb3, rfl, _, _, rfl, _, _, rfl, _, _, rfl, rfl, ?_⟩
    refine ⟨_, rfl, S, rfl, .inr ⟨_, .inl hd⟩, _, rfl, _, rfl, two_line, fun p hp => ⟨_, DGet.t (k := pk r.1) ((Same.up hp) _ _ hd) upd_same, _, rfl, ?_⟩⟩
    rw [I0.get]
    refine ⟨_, _, rfl, rfl, _, rfl, _, rfl, _, rfl, two_line, fun p2 hp2 => ?_⟩
    have s4 := (Same.up (o := .tup [.str r.1.1, .str r.1.2]) hp).trans (Same.up (o := .tup [.str r.1.1, .str r.1.2]) hp2)
    refine ⟨S, _, rfl, DPut.t (k := pk r.1) (s4 _ _ hd) upd_same (sz (m := 60) ?_), ⟨_, _, _, rfl⟩, ?_, ?_⟩
    · have := sumT_len (rs.take i)
      rw [List.length_take] at this
      omega
    · intro b o e
      have nb : b ≠ S := fun z => by rw [z, hS] at e; cases e
      rw [upd_ne nb]
      exact s4 _ _ (s2 _ _ e)
    · rw [upd_same, tk]
      unfold sumT
      rw [sums_snoc]
      rfl
  · rintro σ H2 ⟨⟨u1, v1, w1, rfl⟩, s2, hd⟩
    have hd : H2 S = some (.dT (sumT rs)) := by rw [hd, hl, List.take_length]
    have I0 : Ints isPk (sumT rs) := sums_ints _ _ _ _ Ints.nil fun r m => ⟨r.1, rfl, sm r m⟩
    have kl : (keysOf (sumT rs)).length ≤ 60 := by
      have := sumT_len rs
      unfold keysOf
      rw [List.length_map]
      omega
    refine ⟨_, rfl, S, _, _, rfl, .inl hd, keysOf_eq I0, by omega, fun qs p hq hp => ?_⟩
    have sp := Same.up (o := .lst (qs.map V.ref)) hp
    have ql : qs.length = (pSort (keysOf (sumT rs))).length := Paired.length hq
    have kl2 : (pSort (keysOf (sumT rs))).length ≤ 60 := by rw [(pSort_perm _).length_eq]; exact kl
    refine ⟨p, rfl, ⟨_, SqL.of upd_same⟩, fun D hD => lc_gen walk_list walk_at (pSort (keysOf (sumT rs))) (fun k => decide (amt (sumT rs) k ≠ 0)) (by rw [List.length_map, ql]) (sz (m := 60) (by rw [List.length_map, ql]; exact kl2)) hD (fun H' s' => SqL.of (s' _ _ upd_same))
      (fun H' k y => ∃ q, y = .ref q ∧ H' q = some (.tup [.str k.1, .str k.2, .int (amt (sumT rs) k)])) (fun _ _ _ _ e ⟨q, e1, e2⟩ => ⟨q, e1, e _ _ e2⟩) (fun _ _ _ _ _ e ⟨q, e1, e2⟩ => ⟨q, e1, by rw [upd_ne (ne_of e2 e (by intro z; cases z))]; exact e2⟩) (fun i x k H3 A B hi hx hk s3 kA kB => ?_) (fun H3 acc s3 h3 pr => ?_)⟩
    · rw [List.getElem?_map] at hx
      obtain ⟨q, hq1, rfl⟩ := Option.map_eq_some_iff.mp hx
      have hk2 : k ∈ keysOf (sumT rs) := (pSort_perm _).mem_iff.mp (List.mem_of_getElem? hk)
      have hq2 : AtP H2 q k := Paired.at2 hq hq1 hk
      have s4 := sp.trans s3
      have v0 : valV (sumT rs) (pk k) = some (.int (amt (sumT rs) k)) := I0.at_ (by rw [keysOf_eq I0]; exact List.mem_map.mpr ⟨k, hk2, rfl⟩)
      refine ⟨q, _, rfl, SqT.of (s4 _ _ hq2), rfl, _, _, rfl, _, _, rfl, rfl, rfl, ?_⟩
      refine ⟨_, rfl, _, rfl, _, rfl, two_line, fun t ht => ⟨S, _, rfl, v0 ▸ DGet.t (k := pk k) (Same.up ht _ _ (s4 _ _ hd)) upd_same, rfl, _, rfl, ?_⟩⟩
      have s5 := Same.up (o := .tup [.str k.1, .str k.2]) ht
      have cc : (!decide (V.int (amt (sumT rs) k) = V.int 0)) = decide (amt (sumT rs) k ≠ 0) := by
        by_cases c : amt (sumT rs) k = 0 <;> simp [c]
      cases c : decide (amt (sumT rs) k ≠ 0) with
      | false =>
        rw [cc, c]
        exact iteF (kB c _ s5)
      | true =>
        rw [cc, c]
        refine iteT ?_
        refine ⟨_, rfl, _, rfl, _, rfl, _, rfl, _, rfl, two_line, fun t2 ht2 => ⟨S, _, rfl, v0 ▸ DGet.t (k := pk k) (Same.up ht2 _ _ (s5 _ _ (s4 _ _ hd))) upd_same, three_line, fun t3 ht3 => ?_⟩⟩
        exact kA c _ _ (s5.trans ((Same.up ht2).trans (Same.up ht3))) ⟨t3, rfl, upd_same⟩
    · refine q3 H3 D (s1.trans (s2.trans (sp.trans s3))) ?_ (by rw [h3]; simp) (.lst h3 ?_ ?_)
      · exact (s1.trans (s2.trans sp)).free hD
      · exact isA_told pr fun k m => keysOf_small I0 k (kept_mem m)
      · have h1 : acc.length = (kept (sumT rs)).length := Paired.length pr
        have h2 := kept_len (kvs := sumT rs)
        have h3 := sumT_len rs
        omega
end
end K25

set_option Elab.async false
set_option linter.all false
set_option maxRecDepth 100000
set_option maxHeartbeats 4000000
namespace K25
open PySem PySem.Spec PyProof.Rows L2 Sr
def bal (kvs : List (Key × V)) : Bool := (kvs.map fun e => decide (e.2 = V.int 0)).all id
def spBal (K : PySem.W.Frag) : Sp := fun vs H Q E => ∃ v d, vs = [v] ∧ Is H v d ∧ (∀ l, seqOf d = some l → ∀ x ∈ l, rowFlat x) ∧
  (badAt d = none → ∃ rs : List Rw, d = .tup (rs.map rowLd) ∧ ∀ H', Same H H' → Q (.bl (bal (sumS rs))) H') ∧
  ∀ i, badAt d = some i → ∀ H' e, Same H H' → H' e = none → E (.ref (He.ga K "BadRow")) (some e) (upd H' e (.xd [("index", .int (i : Nat))]))
def isStrKey (k : Key) : Prop := ∃ s : Str, k = Sum.inr s
section
variable {P : Program} {w : World} {K : PySem.W.Frag} {mg : Str → Option Value} {base : Heap}
abbrev s_is_balanced : Stmt := top 13
theorem sc_is_balanced : FnScope ["rows", "sums", "_", "thing", "amount", "total"] ["rows"] (defScope s_is_balanced) := ⟨rfl, rfl, rfl, by decide +kernel, rfl, by decide +kernel, by decide +kernel⟩
theorem c_is_balanced (T : Txt K mg) (D : Dfn K mg "is_balanced" s_is_balanced) (C_check_rows : CalE P w K mg base 4 "_check_rows" ["rows"] (spChk K)) :
    CalE P w K mg base 5 "is_balanced" ["rows"] (spBal K) := by
  refine D.calE sc_is_balanced (fun _ _ _ _ _ _ us hl => match us, hl with | [_], _ => rfl) (fun vs H Q E h => ?_) fun cdv A outer s H vs Q E hr h => ?_
  · obtain ⟨v, d, rfl, _⟩ := h
    rfl
  obtain ⟨v, d, rfl, hv, hf, q1, q2⟩ := h
  refine ⟨_, (pss_cons (ps_expr (pe_calE C_check_rows hr (by first | decide | omega) (by rfl) (passes_def rfl rfl rfl rfl) (pa_cons (pv 0) pa_nil)))
      (pss_cons (ps_set (i := 1) sc_is_balanced.nd rfl (by first | exact Or.inl rfl | exact Or.inr rfl) pe_dnewK)
      (pss_cons (ps_for (L2.passes_of rfl) rfl (pi_tup (pv 0)) (pg_unl rfl (pgs_cons (pg_name (i := 2) sc_is_balanced.nd rfl (by first | exact Or.inl rfl | exact Or.inr rfl)) (pgs_cons (pg_name (i := 3) sc_is_balanced.nd rfl (by first | exact Or.inl rfl | exact Or.inr rfl)) (pgs_cons (pg_name (i := 4) sc_is_balanced.nd rfl (by first | exact Or.inl rfl | exact Or.inr rfl)) pgs_nil))))
      (pss_one (ps_dput (hu_of hr) (pv 1) (pv 3) (pe_op op_add (pe_dget2 (hu_of hr) (pv 1) (pv 3) pe_int ⟨rfl, by rfl, rfl, rfl⟩) (pv 4)) rfl)))
      (pss_one (ps_ret (pe_callB (id := "all") (cr_all rfl) (by rfl) T.all (by decide +kernel) (pa_cons (pe_lock (pe_lc (own := [("total", 5)]) (g := gName 5) (tt := tYes) rfl sc_is_balanced.nd (pi_values (pv 1)) (blkOk_by (N := ["rows", "sums", "_", "thing", "amount", "total"]) (sc := defScope s_is_balanced) (by decide +kernel)) (fun _ _ _ _ _ => (pg_name (i := 5) sc_is_balanced.nd rfl (by first | exact Or.inl rfl | exact Or.inr rfl))) (fun _ _ _ _ _ => pts_nil) (fun _ _ _ _ _ => (pe_cmpR op_eq (pv 5) pe_int (nomark _))))) pa_nil))))))), ?_⟩
  refine ⟨_, rfl, v, d, rfl, hv, hf, fun hb H1 s1 => ?_, fun i e H' a s ha => q2 i e H' a s ha⟩
  obtain ⟨rs, rfl, q3⟩ := q1 hb
  cases hv with
  | tup hv rv zv =>
  rename_i a xs
  intro S hS
  have hl : xs.length = rs.length := rv.len.trans (by rw [List.length_map])
  have sS : Same H _ := s1.trans (Same.up (o := .dK []) hS)
  refine ⟨_, rfl, a, rfl, ⟨xs, SqT.of (sS _ _ hv)⟩, for_it walk_tup (fun i σ H' => (∃ u v w z, σ = [some (.ref a), some (.ref S), u, v, w, z]) ∧ Same H1 H' ∧ H' S = some (.dK (sumS (rs.take i)))) ⟨⟨_, _, _, _, rfl⟩, Same.up hS, by simp [sumS, sums, upd_same]⟩ (fun i σ H' hi p => SqT.of (p.2.1 _ _ (s1 _ _ hv))) ?_ ?_⟩
  · rintro i x σ H2 H3 hi ⟨⟨u1, v1, w1, z1, rfl⟩, s2, hd⟩ ⟨rfl, hx⟩
    have hi2 : i < rs.length := by omega
    obtain ⟨r, hr2⟩ : ∃ r, rs[i]? = some r := ⟨_, List.getElem?_eq_getElem hi2⟩
    obtain ⟨dd, e1, i1⟩ := rv.get hx
    rw [List.getElem?_map, hr2] at e1
    obtain rfl : rowLd r = dd := Option.some.inj e1
    obtain ⟨b, rfl, hb3, sm1⟩ := row_at (i1.mono (s1.trans s2))
    have I0 : Ints isStrKey (sumS (rs.take i)) := sums_ints _ _ _ _ Ints.nil fun r m => ⟨_, rfl⟩
    have tk : rs.take (i + 1) = rs.take i ++ [r] := by rw [List.take_add_one, hr2]; rfl
    refine ⟨b, _, rfl, SqL.of hb3, rfl, _, _, rfl, _, _, rfl, _, _, rfl, rfl, ?_⟩
    refine ⟨_, rfl, S, rfl, .inl ⟨_, .inl hd⟩, _, rfl, _, DGet.k (k := Sum.inr r.1.2) hd, _, rfl, ?_⟩
    rw [I0.get]
    refine ⟨_, _, rfl, rfl, _, rfl, _, rfl, S, _, rfl, DPut.k (k := Sum.inr r.1.2) hd (sz (m := 60) ?_), ⟨_, _, _, _, rfl⟩, ?_, ?_⟩
    · have := sumS_len (rs.take i)
      rw [List.length_take] at this
      omega
    · intro b o e
      have nb : b ≠ S := fun z => by rw [z, hS] at e; cases e
      rw [upd_ne nb]
      exact s2 _ _ e
    · rw [upd_same, tk]
      unfold sumS
      rw [sums_snoc]
      rfl
  · rintro σ H2 ⟨⟨u1, v1, w1, z1, rfl⟩, s2, hd⟩
    have hd : H2 S = some (.dK (sumS rs)) := by rw [hd, hl, List.take_length]
    have I0 : Ints isStrKey (sumS rs) := sums_ints _ _ _ _ Ints.nil fun r m => ⟨_, rfl⟩
    have kl := sumS_len rs
    refine ⟨S, _, hd, trivial, fun od => ?_⟩
    have kn : (sumS rs).length ≤ 60 := by omega
    refine ⟨_, rfl, S, od, _, rfl, upd_same, fun D hD => lc_pure walk_values (At := fun i x => ∃ k, (sumS rs)[i]? = some (k, x)) (fun _ _ _ _ y => y) (((sumS rs).map fun e => decide (e.2 = V.int 0)).map V.bl) (by simp) (sz kn) hD (fun H3 s3 => s3 _ _ upd_same) (fun i x y H3 R hi hx hy s3 k => ?_) (fun H3 s3 h3 => ?_)⟩
    · obtain ⟨kk, hk⟩ := hx
      obtain ⟨n, en⟩ := (I0.ent _ (List.mem_of_getElem? hk)).2
      have en : x = .int n := en
      subst en
      rw [List.getElem?_map, List.getElem?_map, hk] at hy
      obtain rfl : V.bl (decide (V.int n = V.int 0)) = y := Option.some.inj hy
      exact ⟨_, rfl, rfl, k _ (Same.refl _)⟩
    · have nD : D ≠ S := fun z => by rw [z, upd_same] at hD; cases hD
      refine ⟨s3 _ _ upd_same, all_of (by rw [upd_ne nD]; exact h3) (q3 _ fun b o e => ?_)⟩
      have e1 := s1 _ _ e
      have nb : b ≠ S := fun z => by rw [z, hS] at e1; cases e1
      rw [upd_ne nb]
      refine s3 _ _ ?_
      rw [upd_ne nb]
      exact s2 _ _ e1
end
end K25

set_option Elab.async false
set_option linter.all false
set_option maxRecDepth 100000
set_option maxHeartbeats 4000000
namespace K25
open PySem PySem.Spec PyProof.Rows L2 Sr RZ
theorem _root_.Sr.DrawsAt.up {H H' : Hp} {a : Addr} (d : DrawsAt H a) (e : Same H H') : DrawsAt H' a := by
  obtain ⟨o, h, x⟩ := d
  exact ⟨o, e _ _ h, x⟩
theorem draw_step {M H M' H' : Hp} {a : Addr} {o : HO} (g : Grow [a] M H M' H') (Ma' : M' a = none) (ho : DrawsO o) : Grow [a] M H M' (upd H' a o) ∧ DrawsAt (upd H' a o) a :=
  ⟨g.trans (Grow.chg g.sub Ma' (by simp)), ⟨o, upd_same, ho⟩⟩
def spSource (K : PySem.W.Frag) : Sp := fun vs H Q _ => ∃ (s : Addr) (t : Int) (ns : List Int), vs = [.ref s, .int t] ∧ SqL K H s (ns.map V.int) ∧ 0 ≤ t ∧ ∀ p o, H p = none → DrawsO o → Q (.ref p) (upd H p o)
def spDraw : Sp := fun vs H Q _ => ∃ (a : Addr) (m : Int), vs = [.ref a, .int m] ∧ DrawsAt H a ∧ 1 ≤ m ∧ m < 1073741824 ∧ ∀ r o, 0 ≤ r → r < m → DrawsO o → Q (.int r) (upd H a o)
def spPick (K : PySem.W.Frag) : Sp := fun vs H Q _ => ∃ (a l : Addr) (xs : List V), vs = [.ref a, .ref l] ∧ DrawsAt H a ∧ l ≠ a ∧ (SqL K H l xs ∨ SqT K H l xs) ∧ 1 ≤ xs.length ∧ xs.length < 1073741824 ∧ ∀ (i : Nat) v o, xs[i]? = some v → DrawsO o → Q v (upd H a o)
/-- two that stand for one datum are the same -/
def spDeep (n : Nat) : Sp := fun vs H Q _ => ∃ (v u : V) (d : Dt), vs = [v, u] ∧ Is H v d ∧ Is H u d ∧ Dep n d ∧ ∀ H', Same H H' → Q (.bl true) H'
section
variable {P : Program} {w : World} {K : PySem.W.Frag} {mg : Str → Option Value} {base : Heap}
abbrev s__law_source : Stmt := top 18
theorem sc__law_source : FnScope ["script", "place", "cell"] ["script", "place"] (defScope s__law_source) := ⟨rfl, rfl, rfl, by decide +kernel, rfl, by decide +kernel, by decide +kernel⟩
theorem c__law_source (T : Txt K mg) (D : Dfn K mg "_law_source" s__law_source) : Cal P w K mg base 1 "_law_source" ["script", "place"] (spSource K) := by
  refine D.cal sc__law_source (fun _ _ _ _ _ _ us hl => match us, hl with | [_, _], _ => rfl) (fun vs H Q E h => ?_) fun cdv A outer s H vs Q E hr h => ?_
  · obtain ⟨s, t, ns, rfl, _⟩ := h
    rfl
  obtain ⟨sc, t, ns, rfl, hS, h0, q⟩ := h
  refine ⟨_, (pss_cons (ps_set (i := 2) sc__law_source.nd rfl (by first | exact Or.inl rfl | exact Or.inr rfl) (pe_ifExp (pt_cmpR op_lt (pv 1) (pe_callB (id := "len") call_len_seq (by rfl) T.len (by decide +kernel) (pa_cons (pv 0) pa_nil)) (nomark _)) (pe_ix ix_list (pv 0) (pv 1) (fun _ _ => rfl)) (pe_op op_add (pe_op op_mul pe_int (pv 1)) pe_int)))
      (pss_one (ps_ret (pe_lst (pa_cons (pe_ifExp (pt_cmpR op_ge (pv 2) (pe_op op_pow pe_int pe_int) (nomark _)) (pv 2) pe_int) (pa_cons (pe_op op_mod (pe_callTy (T := "int") call_int1 (by rfl) T.int (by decide +kernel) (pa_cons (pv 2) pa_nil)) pe_int) (pa_cons pe_int pa_nil))))))), ?_⟩
  refine ⟨_, rfl, _, rfl, sc, _, rfl, .inl hS, _, _, rfl, rfl, _, rfl, ?_⟩
  by_cases h : t < ((ns.map V.int).length : Int)
  · rw [decide_eq_true h]
    have hlt : t.toNat < ns.length := by rw [List.length_map] at h; omega
    refine iteT ⟨_, rfl, _, rfl, sc, _, _, .int ns[t.toNat], rfl, rfl, hS, atI_of (j := t.toNat) (by omega) (by rw [List.getElem?_map, List.getElem?_eq_getElem hlt]; rfl), ?_⟩
    refine ⟨_, rfl, _, _, rfl, rfl, ⟨by decide, by decide, by decide⟩, _, _, rfl, rfl, _, rfl, ?_⟩
    refine iteB ?_ ?_
    · exact ⟨_, rfl, _, rfl, .inl ⟨_, rfl, _, _, rfl, rfl, (by show (0 : Int) < 2147483629; decide), three_line, fun p hp => q p _ hp ⟨_, _, _, rfl⟩⟩⟩
    · exact ⟨_, rfl, .inl ⟨_, rfl, _, _, rfl, rfl, (by show (0 : Int) < 2147483629; decide), three_line, fun p hp => q p _ hp ⟨_, _, _, rfl⟩⟩⟩
  · rw [decide_eq_false h]
    refine iteF ⟨_, rfl, _, _, rfl, rfl, .inl ⟨by decide, by decide⟩, _, _, rfl, rfl, ?_⟩
    refine ⟨_, rfl, _, _, rfl, rfl, ⟨by decide, by decide, by decide⟩, _, _, rfl, rfl, _, rfl, ?_⟩
    refine iteB ?_ ?_
    · exact ⟨_, rfl, _, rfl, .inl ⟨_, rfl, _, _, rfl, rfl, (by show (0 : Int) < 2147483629; decide), three_line, fun p hp => q p _ hp ⟨_, _, _, rfl⟩⟩⟩
    · exact ⟨_, rfl, .inl ⟨_, rfl, _, _, rfl, rfl, (by show (0 : Int) < 2147483629; decide), three_line, fun p hp => q p _ hp ⟨_, _, _, rfl⟩⟩⟩
abbrev s__law_draw : Stmt := top 19
theorem sc__law_draw : FnScope ["draws", "many", "found"] ["draws", "many"] (defScope s__law_draw) := ⟨rfl, rfl, rfl, by decide +kernel, rfl, by decide +kernel, by decide +kernel⟩
theorem c__law_draw (T : Txt K mg) (D : Dfn K mg "_law_draw" s__law_draw) : Cal P w K mg base 1 "_law_draw" ["draws", "many"] spDraw := by
  refine D.cal sc__law_draw (fun _ _ _ _ _ _ us hl => match us, hl with | [_, _], _ => rfl) (fun vs H Q E h => ?_) fun cdv A outer s H vs Q E hr h => ?_
  · obtain ⟨a, m, rfl, _⟩ := h
    rfl
  obtain ⟨a, m, rfl, ⟨o, ho, x, y, z, rfl⟩, h1, h2, q⟩ := h
  refine ⟨_, (pss_cons (ps_if (pt_cmpR op_gt (pe_ix ix_list (pv 0) pe_int (fun _ _ => rfl)) pe_int (nomark _)) (pss_cons (ps_set (i := 2) sc__law_draw.nd rfl (by first | exact Or.inl rfl | exact Or.inr rfl) (pe_op op_mod (pe_callTy (T := "int") call_int1 (by rfl) T.int (by decide +kernel) (pa_cons (pe_ix ix_list (pv 0) pe_int (fun _ _ => rfl)) pa_nil)) (pv 1)))
      (pss_cons (ps_asg (pe_op op_fdiv (pe_ix ix_list (pv 0) pe_int (fun _ _ => rfl)) (pv 1)) (pg_sub (pv 0) pe_int set_list))
      (pss_one (ps_ret (pv 2))))) pss_nil)
      (pss_cons (ps_asg (pe_op op_add (pe_ix ix_list (pv 0) pe_int (fun _ _ => rfl)) pe_int) (pg_sub (pv 0) pe_int set_list))
      (pss_cons (ps_asg (pe_op op_mod (pe_callTy (T := "int") call_int1 (by rfl) T.int (by decide +kernel) (pa_cons (pe_op op_add (pe_op op_add (pe_op op_mul (pe_ix ix_list (pv 0) pe_int (fun _ _ => rfl)) pe_int) (pe_op op_mul (pe_ix ix_list (pv 0) pe_int (fun _ _ => rfl)) pe_int)) pe_int) pa_nil)) pe_int) (pg_sub (pv 0) pe_int set_list))
      (pss_one (ps_ret (pe_op op_mod (pe_callTy (T := "int") call_int1 (by rfl) T.int (by decide +kernel) (pa_cons (pe_op op_add (pe_op op_fdiv (pe_ix ix_list (pv 0) pe_int (fun _ _ => rfl)) pe_int) (pe_ix ix_list (pv 0) pe_int (fun _ _ => rfl))) pa_nil)) (pv 1))))))), ?_⟩
  have c : ∀ (X Y Z : Int), (V.int X :: V.int Y :: V.int Z :: []).length = 3 := fun _ _ _ => rfl
  refine ⟨_, rfl, a, _, _, _, rfl, rfl, SqL.of ho, rfl, _, _, rfl, rfl, _, rfl, ?_⟩
  refine iteB ?_ ?_
  rotate_left
  · refine ⟨_, rfl, a, _, _, _, rfl, rfl, SqL.of ho, rfl, _, _, rfl, rfl, _, rfl, a, _, _, 2, rfl, rfl, ho, rfl, ?_⟩
    refine ⟨_, rfl, a, _, _, _, rfl, rfl, SqL.of upd_same, rfl, _, _, rfl, rfl, .inr ⟨by decide, by decide⟩, ?_⟩
    refine ⟨_, rfl, a, _, _, _, rfl, rfl, SqL.of upd_same, rfl, _, _, rfl, rfl, .inr ⟨by decide, by decide⟩, _, _, rfl, rfl, _, _, rfl, rfl, .inl ⟨_, rfl, _, _, rfl, rfl, (by show (0 : Int) < 2147483629; decide), ?_⟩⟩
    refine ⟨_, rfl, a, _, _, 1, rfl, rfl, upd_same, rfl, ?_⟩
    rw [upd_upd]
    refine ⟨_, rfl, a, _, _, _, rfl, rfl, SqL.of upd_same, rfl, _, _, rfl, rfl, ⟨by decide, by decide⟩, _, rfl, a, _, _, _, rfl, rfl, SqL.of upd_same, rfl, _, _, rfl, rfl, .inl ⟨_, rfl, _, rfl, _, _, rfl, rfl, (show (0 : Int) < m by omega), ?_⟩⟩
    exact q _ _ (Int.emod_nonneg _ (by omega)) (Int.emod_lt_of_pos _ (by omega)) ⟨_, _, _, rfl⟩
  · refine ⟨_, rfl, a, _, _, _, rfl, rfl, SqL.of ho, rfl, .inl ⟨_, rfl, _, rfl, _, _, rfl, rfl, (show (0 : Int) < m by omega), ?_⟩⟩
    refine ⟨_, rfl, a, _, _, _, rfl, rfl, SqL.of ho, rfl, _, rfl, _, _, rfl, rfl, ⟨by omega, h2⟩, _, rfl, a, _, _, 0, rfl, rfl, ho, rfl, _, rfl, ?_⟩
    exact q _ _ (Int.emod_nonneg _ (by omega)) (Int.emod_lt_of_pos _ (by omega)) ⟨_, _, _, rfl⟩
abbrev s__law_pick : Stmt := top 20
theorem sc__law_pick : FnScope ["draws", "xs"] ["draws", "xs"] (defScope s__law_pick) := ⟨rfl, rfl, rfl, by decide +kernel, rfl, by decide +kernel, by decide +kernel⟩
theorem c__law_pick (T : Txt K mg) (D : Dfn K mg "_law_pick" s__law_pick) (C_law_draw : Cal P w K mg base 1 "_law_draw" ["draws", "many"] spDraw) : Cal P w K mg base 2 "_law_pick" ["draws", "xs"] (spPick K) := by
  refine D.cal sc__law_pick (fun _ _ _ _ _ _ us hl => match us, hl with | [_, _], _ => rfl) (fun vs H Q E h => ?_) fun cdv A outer s H vs Q E hr h => ?_
  · obtain ⟨a, l, xs, rfl, _⟩ := h
    rfl
  obtain ⟨a, l, xs, rfl, hd, hn, hx, l1, l2, q⟩ := h
  refine ⟨_, (pss_one (ps_ret (pe_ix ix_seq (pv 1) (pe_cal C_law_draw hr (by first | decide | omega) (by rfl) (pa_cons (pv 0) (pa_cons (pe_callB (id := "len") call_len_seq (by rfl) T.len (by decide +kernel) (pa_cons (pv 1) pa_nil)) pa_nil))) (fun _ _ => rfl)))), ?_⟩
  refine ⟨_, rfl, _, rfl, _, rfl, l, xs, rfl, hx, a, _, rfl, hd, by omega, by omega, fun r o r0 r1 ho => ?_⟩
  have hlt : r.toNat < xs.length := by omega
  have e : atI xs r = some xs[r.toNat] := atI_of (j := r.toNat) (by omega) (List.getElem?_eq_getElem hlt)
  rcases seq_upd (o := o) hn hx with h | h
  · exact .inl ⟨l, xs, r, _, rfl, rfl, h, e, q r.toNat _ o (List.getElem?_eq_getElem hlt) ho⟩
  · exact .inr (.inl ⟨l, xs, r, _, rfl, rfl, h, e, q r.toNat _ o (List.getElem?_eq_getElem hlt) ho⟩)
abbrev s__law_same : Stmt := top 21
theorem sc__law_same : FnScope ["found", "due", "left", "right"] ["found", "due"] (defScope s__law_same) := ⟨rfl, rfl, rfl, by decide +kernel, rfl, by decide +kernel, by decide +kernel⟩
theorem c__law_same_deep (T : Txt K mg) (D : Dfn K mg "_law_same" s__law_same) : ∀ n : Nat, Cal P w K mg base (n + 1) "_law_same" ["found", "due"] (spDeep n) := by
  intro n
  induction n with
  | zero =>
    refine D.cal sc__law_same (fun _ _ _ _ _ _ us hl => match us, hl with | [_, _], _ => rfl) (fun vs H Q E h => ?_) fun cdv A outer s H vs Q E hr h => ?_
    · obtain ⟨v, u, d, rfl, _⟩ := h
      rfl
    obtain ⟨v, u, d, rfl, iv, iu, dp, q⟩ := h
    have hq : isSeq d = false := by cases dp <;> rfl
    refine ⟨_, (pss_cons (ps_if (pt_val (pe_callB (id := "isinstance") call_isiT (by rfl) T.isinstance (by decide +kernel) (pa_cons (pv 1) (pa_cons (pe_tup (pa_cons (pe_tyv (n := "list") (by rfl) T.list (by decide +kernel)) (pa_cons (pe_tyv (n := "tuple") (by rfl) T.tuple (by decide +kernel)) pa_nil))) pa_nil)))) pss_never pss_nil)
      (pss_cons (ps_if (pt_val (pe_callB (id := "isinstance") call_isiT (by rfl) T.isinstance (by decide +kernel) (pa_cons (pv 1) (pa_cons (pe_tup (pa_cons (pe_tyv (n := "bool") (by rfl) T.bool (by decide +kernel)) (pa_cons (pe_tyv (n := "int") (by rfl) T.int (by decide +kernel)) pa_nil))) pa_nil)))) (pss_one (ps_ret (pe_and (pe_callB (id := "isinstance") call_isi (by rfl) T.isinstance (by decide +kernel) (pa_cons (pv 0) (pa_cons (pe_tyv (n := "int") (by rfl) T.int (by decide +kernel)) pa_nil))) (pe_and (pe_cmpR op_eq (pe_callB (id := "isinstance") call_isi (by rfl) T.isinstance (by decide +kernel) (pa_cons (pv 0) (pa_cons (pe_tyv (n := "bool") (by rfl) T.bool (by decide +kernel)) pa_nil))) (pe_callB (id := "isinstance") call_isi (by rfl) T.isinstance (by decide +kernel) (pa_cons (pv 1) (pa_cons (pe_tyv (n := "bool") (by rfl) T.bool (by decide +kernel)) pa_nil))) (nomark _)) (pe_one (pe_cmpR op_eq (pv 0) (pv 1) (nomark _))))))) pss_nil)
      (pss_one (ps_ret (pe_and (pe_not (pe_callB (id := "isinstance") call_isiT (by rfl) T.isinstance (by decide +kernel) (pa_cons (pv 0) (pa_cons (pe_tup (pa_cons (pe_tyv (n := "bool") (by rfl) T.bool (by decide +kernel)) (pa_cons (pe_tyv (n := "int") (by rfl) T.int (by decide +kernel)) (pa_cons (pe_tyv (n := "list") (by rfl) T.list (by decide +kernel)) (pa_cons (pe_tyv (n := "tuple") (by rfl) T.tuple (by decide +kernel)) pa_nil))))) pa_nil)))) (pe_one (pe_cmpR op_eq (pv 0) (pv 1) (nomark _)))))))), ?_⟩
    refine ⟨_, rfl, two_line, fun p hp => ⟨_, p, [.ty "list", .ty "tuple"], _, _, _, rfl, upd_same, cls_two _ _, (iu.mono (Same.up hp)).ty, kit_seq K d, _, rfl, ?_⟩⟩
    rw [hq]
    have s1 : Same H _ := Same.up (o := .tup [.ty "list", .ty "tuple"]) hp
    refine iteF ⟨_, rfl, two_line, fun p2 hp2 => ⟨_, p2, [.ty "bool", .ty "int"], _, _, _, rfl, upd_same, cls_two _ _, ((iu.mono s1).mono (Same.up hp2)).ty, kit_ints K d, _, rfl, ?_⟩⟩
    have s2 := s1.trans (Same.up (o := .tup [.ty "bool", .ty "int"]) hp2)
    have iv2 := iv.mono s2
    have iu2 := iu.mono s2
    cases hi : isInt d with
    | true =>
      refine iteT ⟨_, rfl, _, _, _, _, _, rfl, .ty _, iv2.ty, kit_int K d, _, rfl, ?_⟩
      rw [hi]
      refine iteT ⟨_, rfl, _, _, _, _, _, rfl, .ty _, iv2.ty, kit_bool K d, _, rfl, _, _, _, _, _, rfl, .ty _, iu2.ty, kit_bool K d, rfl, _, rfl, ?_⟩
      rw [decide_eq_true rfl]
      refine iteT ⟨_, rfl, _, rfl, ?_⟩
      obtain ⟨rfl, sc⟩ := flat_eq dp hq iv iu
      refine ⟨sc, ?_⟩
      rw [decide_eq_true rfl]
      exact q _ s2
    | false =>
      refine iteF ⟨_, rfl, lineN, fun p3 hp3 => ⟨_, p3, [.ty "bool", .ty "int", .ty "list", .ty "tuple"], _, _, _, rfl, upd_same, cls_four _ _ _ _, (iv2.mono (Same.up hp3)).ty, kit_four K d, _, rfl, ?_⟩⟩
      have s3 := s2.trans (Same.up (o := .tup [.ty "bool", .ty "int", .ty "list", .ty "tuple"]) hp3)
      rw [hi, hq]
      refine ⟨_, rfl, iteT ⟨_, rfl, _, rfl, ?_⟩⟩
      obtain ⟨rfl, sc⟩ := flat_eq dp hq iv iu
      refine ⟨sc, ?_⟩
      rw [decide_eq_true rfl]
      exact q _ s3
  | succ n ih =>
    refine D.cal sc__law_same (fun _ _ _ _ _ _ us hl => match us, hl with | [_, _], _ => rfl) (fun vs H Q E h => ?_) fun cdv A outer s H vs Q E hr h => ?_
    · obtain ⟨v, u, d, rfl, _⟩ := h
      rfl
    obtain ⟨v, u, d, rfl, iv, iu, dp, q⟩ := h
    cases hq : isSeq d with
    | false =>
      refine ⟨_, (pss_cons (ps_if (pt_val (pe_callB (id := "isinstance") call_isiT (by rfl) T.isinstance (by decide +kernel) (pa_cons (pv 1) (pa_cons (pe_tup (pa_cons (pe_tyv (n := "list") (by rfl) T.list (by decide +kernel)) (pa_cons (pe_tyv (n := "tuple") (by rfl) T.tuple (by decide +kernel)) pa_nil))) pa_nil)))) pss_never pss_nil)
      (pss_cons (ps_if (pt_val (pe_callB (id := "isinstance") call_isiT (by rfl) T.isinstance (by decide +kernel) (pa_cons (pv 1) (pa_cons (pe_tup (pa_cons (pe_tyv (n := "bool") (by rfl) T.bool (by decide +kernel)) (pa_cons (pe_tyv (n := "int") (by rfl) T.int (by decide +kernel)) pa_nil))) pa_nil)))) (pss_one (ps_ret (pe_and (pe_callB (id := "isinstance") call_isi (by rfl) T.isinstance (by decide +kernel) (pa_cons (pv 0) (pa_cons (pe_tyv (n := "int") (by rfl) T.int (by decide +kernel)) pa_nil))) (pe_and (pe_cmpR op_eq (pe_callB (id := "isinstance") call_isi (by rfl) T.isinstance (by decide +kernel) (pa_cons (pv 0) (pa_cons (pe_tyv (n := "bool") (by rfl) T.bool (by decide +kernel)) pa_nil))) (pe_callB (id := "isinstance") call_isi (by rfl) T.isinstance (by decide +kernel) (pa_cons (pv 1) (pa_cons (pe_tyv (n := "bool") (by rfl) T.bool (by decide +kernel)) pa_nil))) (nomark _)) (pe_one (pe_cmpR op_eq (pv 0) (pv 1) (nomark _))))))) pss_nil)
      (pss_one (ps_ret (pe_and (pe_not (pe_callB (id := "isinstance") call_isiT (by rfl) T.isinstance (by decide +kernel) (pa_cons (pv 0) (pa_cons (pe_tup (pa_cons (pe_tyv (n := "bool") (by rfl) T.bool (by decide +kernel)) (pa_cons (pe_tyv (n := "int") (by rfl) T.int (by decide +kernel)) (pa_cons (pe_tyv (n := "list") (by rfl) T.list (by decide +kernel)) (pa_cons (pe_tyv (n := "tuple") (by rfl) T.tuple (by decide +kernel)) pa_nil))))) pa_nil)))) (pe_one (pe_cmpR op_eq (pv 0) (pv 1) (nomark _)))))))), ?_⟩
      refine ⟨_, rfl, two_line, fun p hp => ⟨_, p, [.ty "list", .ty "tuple"], _, _, _, rfl, upd_same, cls_two _ _, (iu.mono (Same.up hp)).ty, kit_seq K d, _, rfl, ?_⟩⟩
      rw [hq]
      have s1 : Same H _ := Same.up (o := .tup [.ty "list", .ty "tuple"]) hp
      refine iteF ⟨_, rfl, two_line, fun p2 hp2 => ⟨_, p2, [.ty "bool", .ty "int"], _, _, _, rfl, upd_same, cls_two _ _, ((iu.mono s1).mono (Same.up hp2)).ty, kit_ints K d, _, rfl, ?_⟩⟩
      have s2 := s1.trans (Same.up (o := .tup [.ty "bool", .ty "int"]) hp2)
      have iv2 := iv.mono s2
      have iu2 := iu.mono s2
      cases hi : isInt d with
      | true =>
        refine iteT ⟨_, rfl, _, _, _, _, _, rfl, .ty _, iv2.ty, kit_int K d, _, rfl, ?_⟩
        rw [hi]
        refine iteT ⟨_, rfl, _, _, _, _, _, rfl, .ty _, iv2.ty, kit_bool K d, _, rfl, _, _, _, _, _, rfl, .ty _, iu2.ty, kit_bool K d, rfl, _, rfl, ?_⟩
        rw [decide_eq_true rfl]
        refine iteT ⟨_, rfl, _, rfl, ?_⟩
        obtain ⟨rfl, sc⟩ := flat_eq dp hq iv iu
        refine ⟨sc, ?_⟩
        rw [decide_eq_true rfl]
        exact q _ s2
      | false =>
        refine iteF ⟨_, rfl, lineN, fun p3 hp3 => ⟨_, p3, [.ty "bool", .ty "int", .ty "list", .ty "tuple"], _, _, _, rfl, upd_same, cls_four _ _ _ _, (iv2.mono (Same.up hp3)).ty, kit_four K d, _, rfl, ?_⟩⟩
        have s3 := s2.trans (Same.up (o := .tup [.ty "bool", .ty "int", .ty "list", .ty "tuple"]) hp3)
        rw [hi, hq]
        refine ⟨_, rfl, iteT ⟨_, rfl, _, rfl, ?_⟩⟩
        obtain ⟨rfl, sc⟩ := flat_eq dp hq iv iu
        refine ⟨sc, ?_⟩
        rw [decide_eq_true rfl]
        exact q _ s3
    | true =>
      have C_law_same := ih
      refine ⟨_, (pss_cons (ps_if (pt_val (pe_callB (id := "isinstance") call_isiT (by rfl) T.isinstance (by decide +kernel) (pa_cons (pv 1) (pa_cons (pe_tup (pa_cons (pe_tyv (n := "list") (by rfl) T.list (by decide +kernel)) (pa_cons (pe_tyv (n := "tuple") (by rfl) T.tuple (by decide +kernel)) pa_nil))) pa_nil)))) (pss_cons (ps_if (PW.pt (pw_or (pt_cmpR op_ne (pe_callB (id := "isinstance") call_isi (by rfl) T.isinstance (by decide +kernel) (pa_cons (pv 0) (pa_cons (pe_tyv (n := "list") (by rfl) T.list (by decide +kernel)) pa_nil))) (pe_callB (id := "isinstance") call_isi (by rfl) T.isinstance (by decide +kernel) (pa_cons (pv 1) (pa_cons (pe_tyv (n := "list") (by rfl) T.list (by decide +kernel)) pa_nil))) (nomark _)) (pw_or1 (pt_cmpR op_ne (pe_callB (id := "isinstance") call_isi (by rfl) T.isinstance (by decide +kernel) (pa_cons (pv 0) (pa_cons (pe_tyv (n := "tuple") (by rfl) T.tuple (by decide +kernel)) pa_nil))) (pe_callB (id := "isinstance") call_isi (by rfl) T.isinstance (by decide +kernel) (pa_cons (pv 1) (pa_cons (pe_tyv (n := "tuple") (by rfl) T.tuple (by decide +kernel)) pa_nil))) (nomark _))))) (pss_one (ps_ret pe_bl)) pss_nil)
      (pss_one (ps_ret (pe_and (pe_cmpR op_eq (pe_callB (id := "len") call_len_seq (by rfl) T.len (by decide +kernel) (pa_cons (pv 0) pa_nil)) (pe_callB (id := "len") call_len_seq (by rfl) T.len (by decide +kernel) (pa_cons (pv 1) pa_nil)) (nomark _)) (pe_one (pe_callB (id := "all") (cr_all rfl) (by rfl) T.all (by decide +kernel) (pa_cons (pe_lc (own := [("left", 2), ("right", 3)]) (g := gTup K 2 (gCons (gName 2) (gCons (gName 3) gNil))) (tt := tYes) rfl sc__law_same.nd (pi_zipA (by rfl) T.zip (pa_cons (pv 0) (pa_cons (pv 1) pa_nil))) (blkOk_by (N := ["found", "due", "left", "right"]) (sc := defScope s__law_same) (by decide +kernel)) (fun _ _ _ _ _ => (pg_tup rfl (pgs_cons (pg_name (i := 2) sc__law_same.nd rfl (by first | exact Or.inl rfl | exact Or.inr rfl)) (pgs_cons (pg_name (i := 3) sc__law_same.nd rfl (by first | exact Or.inl rfl | exact Or.inr rfl)) pgs_nil)))) (fun _ _ _ _ _ => pts_nil) (fun _ _ _ _ _ => (pe_cal C_law_same hr (by first | decide | omega) (by rfl) (pa_cons (pv 2) (pa_cons (pv 3) pa_nil))))) pa_nil))))))) pss_nil)
      (pss_cons (ps_if (pt_val (pe_callB (id := "isinstance") call_isiT (by rfl) T.isinstance (by decide +kernel) (pa_cons (pv 1) (pa_cons (pe_tup (pa_cons (pe_tyv (n := "bool") (by rfl) T.bool (by decide +kernel)) (pa_cons (pe_tyv (n := "int") (by rfl) T.int (by decide +kernel)) pa_nil))) pa_nil)))) (pss_one (ps_ret (pe_and (pe_callB (id := "isinstance") call_isi (by rfl) T.isinstance (by decide +kernel) (pa_cons (pv 0) (pa_cons (pe_tyv (n := "int") (by rfl) T.int (by decide +kernel)) pa_nil))) (pe_and (pe_cmpR op_eq (pe_callB (id := "isinstance") call_isi (by rfl) T.isinstance (by decide +kernel) (pa_cons (pv 0) (pa_cons (pe_tyv (n := "bool") (by rfl) T.bool (by decide +kernel)) pa_nil))) (pe_callB (id := "isinstance") call_isi (by rfl) T.isinstance (by decide +kernel) (pa_cons (pv 1) (pa_cons (pe_tyv (n := "bool") (by rfl) T.bool (by decide +kernel)) pa_nil))) (nomark _)) (pe_one (pe_cmpR op_eq (pv 0) (pv 1) (nomark _))))))) pss_nil)
      pss_never)), ?_⟩
      cases iv with
      | lst hv rv zv =>
        cases iu with
        | lst hu ru zu =>
        rename_i a xs l b ys
        refine ⟨_, rfl, two_line, fun p hp => ⟨_, p, [.ty "list", .ty "tuple"], _, _, _, rfl, upd_same, cls_two _ _, ((Is.lst hu ru zu).mono (Same.up hp)).ty, kit_seq K _, _, rfl, iteT ?_⟩⟩
        have s1 : Same H _ := Same.up (o := .tup [.ty "list", .ty "tuple"]) hp
        have iv1 := (Is.lst hv rv zv).mono s1
        have iu1 := (Is.lst hu ru zu).mono s1
        refine ⟨_, rfl, _, _, _, _, _, rfl, .ty _, iv1.ty, kit_list K _, _, rfl, _, _, _, _, _, rfl, .ty _, iu1.ty, kit_list K _, rfl, _, rfl, ?_⟩
        rw [decide_eq_true rfl]
        refine iteF ⟨_, rfl, _, _, _, _, _, rfl, .ty _, iv1.ty, kit_tuple K _, _, rfl, _, _, _, _, _, rfl, .ty _, iu1.ty, kit_tuple K _, rfl, _, rfl, ?_⟩
        rw [decide_eq_true rfl]
        refine iteF ⟨_, rfl, a, xs, rfl, .inl (SqL.of (s1 _ _ hv)), _, rfl, b, ys, rfl, .inl (SqL.of (s1 _ _ hu)), rfl, _, rfl, ?_⟩
        have el : xs.length = ys.length := rv.len.trans ru.len.symm
        rw [el, decide_eq_true rfl]
        refine iteT ⟨_, rfl, _, rfl, a, b, xs, ys, rfl, .inl ⟨SqL.of (s1 _ _ hv), SqL.of (s1 _ _ hu), fun D hD =>
          lc_pairs (walk_zip (n := xs.length) (by omega)) (by decide) ((l.map fun _ => true).map V.bl) (by rw [List.length_map, List.length_map, rv.len]) (sz zv) hD (fun H2 s2 => ⟨SqL.of (s2 _ _ (s1 _ _ hv)), SqL.of (s2 _ _ (s1 _ _ hu))⟩)
            (fun k x y z H2 R hk hx hy hz s2 kk => ?_) (fun H2 s2 h2 => ⟨D, l.map fun _ => true, rfl, SqL.of h2, ?_⟩)⟩⟩
        · obtain ⟨d1, e1, i1⟩ := rv.get hx
          obtain ⟨d2, e2, i2⟩ := ru.get hy
          rw [e1] at e2
          cases e2
          rw [List.getElem?_map, List.getElem?_map, e1] at hz
          obtain rfl : V.bl true = z := Option.some.inj hz
          have dd : Dep n d1 := by
            cases dp with
            | lst _ _ h => exact h _ (List.mem_of_getElem? e1)
          exact ⟨_, rfl, _, rfl, x, y, d1, rfl, i1.mono (s1.trans s2), i2.mono (s1.trans s2), dd, kk⟩
        · rw [show (l.map fun _ => true).all id = true from by rw [List.all_map]; exact List.all_eq_true.mpr fun _ _ => rfl]
          exact q _ (s1.trans s2)
      | tup hv rv zv =>
        cases iu with
        | tup hu ru zu =>
        rename_i a xs l b ys
        refine ⟨_, rfl, two_line, fun p hp => ⟨_, p, [.ty "list", .ty "tuple"], _, _, _, rfl, upd_same, cls_two _ _, ((Is.tup hu ru zu).mono (Same.up hp)).ty, kit_seq K _, _, rfl, iteT ?_⟩⟩
        have s1 : Same H _ := Same.up (o := .tup [.ty "list", .ty "tuple"]) hp
        have iv1 := (Is.tup hv rv zv).mono s1
        have iu1 := (Is.tup hu ru zu).mono s1
        refine ⟨_, rfl, _, _, _, _, _, rfl, .ty _, iv1.ty, kit_list K _, _, rfl, _, _, _, _, _, rfl, .ty _, iu1.ty, kit_list K _, rfl, _, rfl, ?_⟩
        rw [decide_eq_true rfl]
        refine iteF ⟨_, rfl, _, _, _, _, _, rfl, .ty _, iv1.ty, kit_tuple K _, _, rfl, _, _, _, _, _, rfl, .ty _, iu1.ty, kit_tuple K _, rfl, _, rfl, ?_⟩
        rw [decide_eq_true rfl]
        refine iteF ⟨_, rfl, a, xs, rfl, .inr (SqT.of (s1 _ _ hv)), _, rfl, b, ys, rfl, .inr (SqT.of (s1 _ _ hu)), rfl, _, rfl, ?_⟩
        have el : xs.length = ys.length := rv.len.trans ru.len.symm
        rw [el, decide_eq_true rfl]
        refine iteT ⟨_, rfl, _, rfl, a, b, xs, ys, rfl, .inr ⟨SqT.of (s1 _ _ hv), SqT.of (s1 _ _ hu), fun D hD =>
          lc_pairs (walk_zipT (n := xs.length) (by omega)) (by decide) ((l.map fun _ => true).map V.bl) (by rw [List.length_map, List.length_map, rv.len]) (sz zv) hD (fun H2 s2 => ⟨SqT.of (s2 _ _ (s1 _ _ hv)), SqT.of (s2 _ _ (s1 _ _ hu))⟩)
            (fun k x y z H2 R hk hx hy hz s2 kk => ?_) (fun H2 s2 h2 => ⟨D, l.map fun _ => true, rfl, SqL.of h2, ?_⟩)⟩⟩
        · obtain ⟨d1, e1, i1⟩ := rv.get hx
          obtain ⟨d2, e2, i2⟩ := ru.get hy
          rw [e1] at e2
          cases e2
          rw [List.getElem?_map, List.getElem?_map, e1] at hz
          obtain rfl : V.bl true = z := Option.some.inj hz
          have dd : Dep n d1 := by
            cases dp with
            | tup _ _ h => exact h _ (List.mem_of_getElem? e1)
          exact ⟨_, rfl, _, rfl, x, y, d1, rfl, i1.mono (s1.trans s2), i2.mono (s1.trans s2), dd, kk⟩
        · rw [show (l.map fun _ => true).all id = true from by rw [List.all_map]; exact List.all_eq_true.mpr fun _ _ => rfl]
          exact q _ (s1.trans s2)
      | _ => cases hq
end
end K25

set_option Elab.async false
set_option linter.all false
set_option maxRecDepth 100000
set_option maxHeartbeats 4000000
namespace K25
open PySem PySem.Spec PyProof.Rows L2 Sr LamX
def accs : List Str := ["ann", "bob", "the-till", "the-pool", "zz"]
def thgs : List Str := ["coin", "seat", "x"]
def rowTr (r : Rw) : Dt := rowTd r.1 r.2
def good (r : Rw) : Prop := r.1.1 ∈ accs ∧ r.1.2 ∈ thgs
theorem accs_ok : ∀ s ∈ accs, s.length ≤ 1000 ∧ accOk (.str s) = true := by decide +kernel
theorem thgs_ok : ∀ s ∈ thgs, s.length ≤ 1000 ∧ nameOk (.str s) = true := by decide +kernel
theorem good_small {r : Rw} (h : good r) : small r.1 := ⟨(accs_ok _ h.1).1, (thgs_ok _ h.2).1⟩
theorem row_is {H : Hp} {t : Addr} {r : Rw} (h : H t = some (.tup [.str r.1.1, .str r.1.2, .int r.2])) (g : good r) : Is H (.ref t) (rowTr r) :=
  .tup h (.cons (.str _ (good_small g).1) (.cons (.str _ (good_small g).2) (.cons (.int _) .nil))) (show (3 : Nat) ≤ 60 by decide)
def amounts : List V := [.int 0, .int 1, .int (-1), .int 5, .int (10 ^ 15 - 1), .int (1 - 10 ^ 15)]
def spSome : Sp := fun vs H Q _ => ∃ (a : Addr), vs = [.ref a, .int 8] ∧ DrawsAt H a ∧ ∀ (l : Addr) (H' : Hp) (rs : List Rw), DrawsAt H' a → Same (rm H a) (rm H' a) → Is (rm H' a) (.ref l) (.lst (rs.map rowTr)) → rs.length ≤ 8 → (∀ r ∈ rs, good r) → Q (.ref l) H'
theorem snd_rm {H : Hp} {a f : Addr} {o : HO} : rm (rm (upd H f o) a) f = rm (rm H a) f := by
  funext b
  by_cases c : b = f
  · rw [c, rm_at, rm_at]
  · rw [rm_ne c, rm_ne c]
    by_cases c2 : b = a
    · rw [c2, rm_at, rm_at]
    · rw [rm_ne c2, rm_ne c2, upd_ne c]
section
variable {P : Program} {w : World} {K : PySem.W.Frag} {mg : Str → Option Value} {base : Heap}
abbrev s__law_some_rows : Stmt := top 22
theorem sc__law_some_rows : FnScope ["draws", "many", "found", "k", "accounts", "things", "amount"] ["draws", "many"] (defScope s__law_some_rows) := ⟨rfl, rfl, rfl, by decide +kernel, rfl, by decide +kernel, by decide +kernel⟩
theorem c__law_some_rows (T : Txt K mg) (D : Dfn K mg "_law_some_rows" s__law_some_rows) (C_law_draw : Cal P w K mg base 1 "_law_draw" ["draws", "many"] spDraw) (C_law_pick : Cal P w K mg base 2 "_law_pick" ["draws", "xs"] (spPick K)) :
    Cal P w K mg base 3 "_law_some_rows" ["draws", "many"] spSome := by
  refine D.cal sc__law_some_rows (fun _ _ _ _ _ _ us hl => match us, hl with | [_, _], _ => rfl) (fun vs H Q E h => ?_) fun cdv A outer s H vs Q E hr h => ?_
  · obtain ⟨a, rfl, _⟩ := h
    rfl
  obtain ⟨a, rfl, hd, q⟩ := h
  refine ⟨_, (pss_cons (ps_par (i := 4) (j := 5) (by rfl) sc__law_some_rows.nd rfl rfl (by decide) rfl rfl (pa_cons (pe_lst (pa_cons pe_str (pa_cons pe_str (pa_cons pe_str (pa_cons pe_str (pa_cons pe_str pa_nil)))))) (pa_cons (pe_lst (pa_cons pe_str (pa_cons pe_str (pa_cons pe_str pa_nil)))) pa_nil)) (by rfl))
      (pss_cons (ps_set (i := 2) sc__law_some_rows.nd rfl (by first | exact Or.inl rfl | exact Or.inr rfl) (pe_lst pa_nil))
      (pss_cons (ps_for PassesOwn.never rfl (pi_range1 (by rfl) T.range (pa_cons (pe_cal C_law_draw hr (by first | decide | omega) (by rfl) (pa_cons (pv 0) (pa_cons (pe_op op_add (pv 1) pe_int) pa_nil))) pa_nil)) (pg_name (i := 3) sc__law_some_rows.nd rfl (by first | exact Or.inl rfl | exact Or.inr rfl))
      (pss_cons (ps_set (i := 6) sc__law_some_rows.nd rfl (by first | exact Or.inl rfl | exact Or.inr rfl) (pe_cal C_law_pick hr (by first | decide | omega) (by rfl) (pa_cons (pv 0) (pa_cons (pe_lst (pa_cons pe_int (pa_cons pe_int (pa_cons (pe_un un_neg pe_int) (pa_cons pe_int (pa_cons (pe_op op_sub (pe_op op_pow pe_int pe_int) pe_int) (pa_cons (pe_op op_sub pe_int (pe_op op_pow pe_int pe_int)) pa_nil))))))) pa_nil))))
      (pss_one (ps_expr (pe_bm PySem.F.plainAttrs_list PySem.F.slot_list_append PySem.F.type_list_append mt_append (pv 2) (pa_cons (pe_tup (pa_cons (pe_cal C_law_pick hr (by first | decide | omega) (by rfl) (pa_cons (pv 0) (pa_cons (pv 4) pa_nil))) (pa_cons (pe_cal C_law_pick hr (by first | decide | omega) (by rfl) (pa_cons (pv 0) (pa_cons (pv 5) pa_nil))) (pa_cons (pv 6) pa_nil)))) pa_nil))))))
      (pss_one (ps_ret (pv 2)))))), ?_⟩
  refine ⟨lineN, fun pa hpa => ⟨lineN, fun pt hpt => ⟨_, _, rfl, lineN, fun f hf => ?_⟩⟩⟩
  have s1 := (Same.up (o := .lst (accs.map V.str)) hpa).trans (Same.up (o := .lst (thgs.map V.str)) hpt)
  have s2 := s1.trans (Same.up (o := .lst []) hf)
  have npa : pa ≠ a := fun z => hd.some (by rw [← z]; exact hpa)
  have npt : pt ≠ a := fun z => (hd.up (Same.up hpa)).some (by rw [← z]; exact hpt)
  have nfa : f ≠ a := fun z => (hd.up s1).some (by rw [← z]; exact hf)
  have Hf : H f = none := s1.free hf
  have nfp : f ≠ pa := fun z => by
    have h := Same.up (o := .lst (thgs.map V.str)) hpt pa (.lst (accs.map V.str)) upd_same
    have hf' : (upd (upd H pa (.lst (accs.map V.str))) pt (.lst (thgs.map V.str))) f = none := hf
    rw [z] at hf'
    exact absurd (h.symm.trans hf') (by simp)
  have nft : f ≠ pt := fun z => by
    have hf' : (upd (upd H pa (.lst (accs.map V.str))) pt (.lst (thgs.map V.str))) f = none := hf
    rw [z, upd_same] at hf'
    cases hf'
  refine ⟨_, rfl, _, rfl, _, _, rfl, rfl, a, _, rfl, hd.up s2, by decide, by decide, fun r o r0 r1 ho => ⟨_, rfl, by omega, by omega, ?_⟩⟩
  refine for_range (fun i σ H' => (∃ k u, σ = [some (.ref a), some (.int 8), some (.ref f), k, some (.ref pa), some (.ref pt), u]) ∧ DrawsAt H' a ∧ Same (rm H a) (rm H' a) ∧ H' pa = some (.lst (accs.map V.str)) ∧ H' pt = some (.lst (thgs.map V.str)) ∧
    ∃ (xs : List V) (rs : List Rw), H' f = some (.lst xs) ∧ IsA (rm (rm H' a) f) xs (rs.map rowTr) ∧ rs.length = i ∧ ∀ r ∈ rs, good r) ⟨⟨_, _, rfl⟩, ?_, ?_, ?_, ?_, ?_⟩ ?_ ?_
  · exact ⟨o, upd_same, ho⟩
  · rw [rm_upd]
    exact Same.rm s2
  · rw [upd_ne npa]
    exact Same.up hf _ _ (Same.up hpt _ _ upd_same)
  · rw [upd_ne npt]
    exact Same.up hf _ _ upd_same
  · exact ⟨[], [], by rw [upd_ne nfa]; exact upd_same, .nil, rfl, fun r m => by cases m⟩
  · rintro i σ H1 hi ⟨⟨k, u, rfl⟩, hd1, sr, ha1, ht1, xs, rs, hf1, ia, hl, hg⟩
    refine ⟨_, rfl, _, rfl, _, _, rfl, rfl, ⟨by decide, by decide, by decide⟩, _, _, rfl, rfl, _, _, rfl, rfl, ⟨by decide, by decide, by decide⟩, _, _, rfl, rfl, lineN, fun p hp => ⟨a, p, _, rfl, hd1.up (Same.up hp), fun z => hd1.some (by rw [← z]; exact hp), .inl (SqL.of upd_same), by simp, by simp, fun j v o1 hv ho1 => ?_⟩⟩
    obtain ⟨n, rfl⟩ : ∃ n, v = .int n := by
      have m := List.mem_of_getElem? hv
      simp only [List.mem_cons, List.not_mem_nil, or_false] at m
      rcases m with rfl | rfl | rfl | rfl | rfl | rfl <;> exact ⟨_, rfl⟩
    have sp := Same.up (o := .lst [.int 0, .int 1, .int (-1), .int 5, .int (10 ^ 15 - 1), .int (1 - 10 ^ 15)]) hp
    have fa : ∀ {b : Addr} {u : HO}, b ≠ a → H1 b = some u → ∀ o', (upd (upd H1 p o') a o1) b = some u := fun {b u} nb e o' => by
      rw [upd_ne nb, upd_ne (ne_of_none e hp)]
      exact e
    refine ⟨_, rfl, .inl ⟨rfl, _, SqL.of (fa nfa hf1 _)⟩, _, rfl, _, rfl, a, pa, _, rfl, ⟨o1, upd_same, ho1⟩, npa, .inl (SqL.of (fa npa ha1 _)), by decide, by decide, fun j2 v2 o2 hv2 ho2 => ?_⟩
    refine ⟨_, rfl, _, rfl, a, pt, _, rfl, ⟨o2, upd_same, ho2⟩, npt, .inl (SqL.of (by rw [upd_ne npt]; exact fa npt ht1 _)), by decide, by decide, fun j3 v3 o3 hv3 ho3 => ?_⟩
    rw [upd_upd, upd_upd]
    rw [List.getElem?_map] at hv2 hv3
    obtain ⟨s2', m2, rfl⟩ := Option.map_eq_some_iff.mp hv2
    obtain ⟨s3', m3, rfl⟩ := Option.map_eq_some_iff.mp hv3
    have fb : ∀ {b : Addr} {u : HO}, b ≠ a → H1 b = some u → ∀ o', (upd (upd H1 p o') a o3) b = some u := fun {b u} nb e o' => by
      rw [upd_ne nb, upd_ne (ne_of_none e hp)]
      exact e
    refine ⟨_, rfl, three_line, fun t ht => ⟨f, xs, _, rfl, rfl, Same.up ht _ _ (fb nfa hf1 _), ?_, ?_⟩⟩
    · have := ia.len
      rw [List.length_map] at this
      exact sz (m := 60) (by omega)
    have nta : a ≠ t := fun z => by rw [← z, upd_same] at ht; cases ht
    have ntf : f ≠ t := fun z => by rw [← z, fb nfa hf1] at ht; cases ht
    have st : ∀ {b : Addr} {u : HO}, b ≠ a → b ≠ f → H1 b = some u → (upd (upd (upd (upd H1 p (.lst [.int 0, .int 1, .int (-1), .int 5, .int (10 ^ 15 - 1), .int (1 - 10 ^ 15)])) a o3) t (.tup [.str s2', .str s3', .int n])) f (.lst (xs ++ [.ref t]))) b = some u := fun {b u} n1 n2 e => by
      rw [upd_ne n2]
      exact Same.up ht _ _ (fb n1 e _)
    have g : good ((s2', s3'), n) := ⟨List.mem_of_getElem? m2, List.mem_of_getElem? m3⟩
    refine ⟨⟨_, _, rfl⟩, ⟨o3, by rw [upd_ne nfa.symm, upd_ne nta, upd_same], ho3⟩, fun b u e => ?_, st npa nfp.symm ha1, st npt nft.symm ht1, _, rs ++ [((s2', s3'), n)], upd_same, ?_, by rw [List.length_append, hl]; rfl, ?_⟩
    · have nb : b ≠ a := fun z => by rw [z, rm_at] at e; cases e
      have nbf : b ≠ f := fun z => by rw [z, rm_free Hf] at e; cases e
      have e2 := sr _ _ e
      rw [rm_ne nb] at e2 ⊢
      exact st nb nbf e2
    · rw [List.map_append]
      refine IsA.app (ia.mono fun b u e => ?_) (.cons (row_is ?_ g) .nil)
      · have nbf : b ≠ f := fun z => by rw [z, rm_at] at e; cases e
        rw [rm_ne nbf] at e ⊢
        have nb : b ≠ a := fun z => by rw [z, rm_at] at e; cases e
        rw [rm_ne nb] at e ⊢
        exact st nb nbf e
      · rw [rm_ne ntf.symm, rm_ne nta.symm, upd_ne ntf.symm]
        exact upd_same
    · intro r m
      rcases List.mem_append.mp m with m | m
      · exact hg r m
      · rw [List.mem_singleton.mp m]
        exact g
  · rintro σ H1 ⟨⟨k, u, rfl⟩, hd1, sr, ha1, ht1, xs, rs, hf1, ia, hl, hg⟩
    have zl : xs.length ≤ 60 := by
      have := ia.len
      rw [List.length_map] at this
      omega
    exact ⟨_, rfl, q f H1 rs hd1 sr (.lst (by rw [rm_ne nfa]; exact hf1) (ia.mono rm_same) zl) (by omega) hg⟩
end
end K25

set_option Elab.async false
set_option linter.all false
set_option maxRecDepth 100000
set_option maxHeartbeats 4000000
namespace K25
open PySem PySem.Spec PyProof.Rows L2 Sr LamX
theorem row_tr {H : Hp} {v : V} {r : Rw} (h : Is H v (rowTr r)) : ∃ a, v = .ref a ∧ H a = some (.tup [.str r.1.1, .str r.1.2, .int r.2]) ∧ small r.1 := by
  cases h with
  | tup h ia z =>
    cases ia with
    | cons i1 t => cases t with
      | cons i2 t => cases t with
        | cons i3 t => cases t with
          | nil => cases i1 with
            | str s h1 => cases i2 with
              | str s2 h2 => cases i3 with
                | int i => exact ⟨_, rfl, h, h1, h2⟩
theorem rows_at {H : Hp} {v : V} {rs : List Rw} (h : Is H v (.lst (rs.map rowTr))) : ∃ a xs, v = .ref a ∧ H a = some (.lst xs) ∧ IsA H xs (rs.map rowTr) ∧ xs.length = rs.length ∧ rs.length ≤ 60 ∧ ∀ r ∈ rs, small r.1 := by
  cases h with
  | lst h ia z =>
    have hl := ia.len
    rw [List.length_map] at hl
    refine ⟨_, _, rfl, h, ia, hl, by omega, fun r m => ?_⟩
    obtain ⟨i, hi⟩ := List.mem_iff_getElem?.mp m
    have hi2 : i < _ := hl ▸ (List.getElem?_eq_some_iff.mp hi).1
    obtain ⟨d, e1, i1⟩ := ia.get (List.getElem?_eq_getElem hi2)
    rw [List.getElem?_map, hi] at e1
    obtain rfl : rowTr r = d := Option.some.inj e1
    obtain ⟨_, _, _, h⟩ := row_tr i1
    exact h
theorem row_get {H : Hp} {xs : List V} {rs : List Rw} {i : Nat} {x : V} (ia : IsA H xs (rs.map rowTr)) (hx : xs[i]? = some x) : ∃ r a, rs[i]? = some r ∧ x = .ref a ∧ H a = some (.tup [.str r.1.1, .str r.1.2, .int r.2]) := by
  obtain ⟨d, e1, i1⟩ := ia.get hx
  rw [List.getElem?_map] at e1
  obtain ⟨r, hr, rfl⟩ := Option.map_eq_some_iff.mp e1
  obtain ⟨a, e, h, _⟩ := row_tr i1
  exact ⟨r, a, hr, e, h⟩
def tk (kvs : List (List Key × V)) : List (List Key × V) := (kept kvs).map fun p => (pk p, V.int (amt kvs p))
theorem tk_keys (kvs : List (List Key × V)) : (tk kvs).map (·.1) = (kept kvs).map pk := by
  unfold tk
  rw [List.map_map]
  rfl
theorem tk_nodup {kvs : List (List Key × V)} (h : Ints isPk kvs) : ((tk kvs).map (·.1)).Nodup := by
  rw [tk_keys]
  exact List.pairwise_map.mpr (List.Pairwise.imp (fun {a b} ne e => ne (pk_inj e)) (kept_nodup h))
theorem sumT_ints {rs : List Rw} (h : ∀ r ∈ rs, small r.1) : Ints isPk (sumT rs) := sums_ints _ _ _ _ Ints.nil fun r m => ⟨r.1, rfl, h r m⟩
def isStrKey' (k : Key) : Prop := ∃ s : Str, k = Sum.inr s
theorem sumS_ints (rs : List Rw) : Ints isStrKey (sumS rs) := sums_ints _ _ _ _ Ints.nil fun r m => ⟨_, rfl⟩
theorem sumT_snoc {rs : List Rw} {i : Nat} {r : Rw} (h : rs[i]? = some r) : sumT (rs.take (i + 1)) = bump (sumT (rs.take i)) (pk r.1) r.2 := by
  rw [show rs.take (i + 1) = rs.take i ++ [r] by rw [List.take_add_one, h]; rfl]
  unfold sumT
  rw [sums_snoc]
theorem sumS_snoc {rs : List Rw} {i : Nat} {r : Rw} (h : rs[i]? = some r) : sumS (rs.take (i + 1)) = bump (sumS (rs.take i)) (Sum.inr r.1.2) r.2 := by
  rw [show rs.take (i + 1) = rs.take i ++ [r] by rw [List.take_add_one, h]; rfl]
  unfold sumS
  rw [sums_snoc]
theorem small_take {rs : List Rw} {i : Nat} (h : ∀ r ∈ rs, small r.1) : ∀ r ∈ rs.take i, small r.1 := fun r m => h r (List.mem_of_mem_take m)
theorem take_len {α : Type} (rs : List α) (i : Nat) : (rs.take i).length ≤ rs.length := by rw [List.length_take]; omega
theorem pairs_tk {K : PySem.W.Frag} {H : Hp} {f : Str × Str → Int} : ∀ {acc : List V} {ks : List (Str × Str)}, Paired (fun y k => ∃ t q, y = V.ref t ∧ H t = some (.tup [.ref q, .int (f k)]) ∧ H q = some (.tup [.str k.1, .str k.2])) acc ks →
    ∃ ts : List Addr, acc = ts.map V.ref ∧ Paired (fun t kv => ∃ q, SqT K H t [.ref q, kv.2] ∧ H q = some (.tup (kv.1.map kV))) ts (ks.map fun p => (pk p, V.int (f p)))
  | _, _, .nil => ⟨[], rfl, .nil⟩
  | _, _, .cons ⟨t, q, e, h1, h2⟩ r => by
    obtain ⟨ts, e1, p1⟩ := pairs_tk r
    exact ⟨t :: ts, by rw [e, e1]; rfl, .cons ⟨q, SqT.of h1, h2⟩ p1⟩
def spSums : Sp := fun vs H Q _ => ∃ (v : V) (rs : List Rw), vs = [v] ∧ Is H v (.lst (rs.map rowTr)) ∧ ∀ H' p, Same H H' → H p = none → H' p = some (.dT (tk (sumT rs))) → Q (.ref p) H'
section
variable {P : Program} {w : World} {K : PySem.W.Frag} {mg : Str → Option Value} {base : Heap}
abbrev s__law_sums : Stmt := top 23
theorem sc__law_sums : FnScope ["rows", "found", "account", "thing", "amount", "key"] ["rows"] (defScope s__law_sums) := ⟨rfl, rfl, rfl, by decide +kernel, rfl, by decide +kernel, by decide +kernel⟩
theorem c__law_sums (T : Txt K mg) (D : Dfn K mg "_law_sums" s__law_sums) : Cal P w K mg base 1 "_law_sums" ["rows"] spSums := by
  refine D.cal sc__law_sums (fun _ _ _ _ _ _ us hl => match us, hl with | [_], _ => rfl) (fun vs H Q E h => ?_) fun cdv A outer s H vs Q E hr h => ?_
  · obtain ⟨v, rs, rfl, _⟩ := h
    rfl
  obtain ⟨v, rs, rfl, hv, q⟩ := h
  obtain ⟨a, xs, rfl, hv, rv, hl, zl, sm⟩ := rows_at hv
  refine ⟨_, (pss_cons (ps_set (i := 1) sc__law_sums.nd rfl (by first | exact Or.inl rfl | exact Or.inr rfl) pe_dnewT)
      (pss_cons (ps_for PassesOwn.never rfl (pi_list (pv 0)) (pg_tup rfl (pgs_cons (pg_name (i := 2) sc__law_sums.nd rfl (by first | exact Or.inl rfl | exact Or.inr rfl)) (pgs_cons (pg_name (i := 3) sc__law_sums.nd rfl (by first | exact Or.inl rfl | exact Or.inr rfl)) (pgs_cons (pg_name (i := 4) sc__law_sums.nd rfl (by first | exact Or.inl rfl | exact Or.inr rfl)) pgs_nil))))
      (pss_one (ps_dput (hu_of hr) (pv 1) (pe_tup (pa_cons (pv 2) (pa_cons (pv 3) pa_nil))) (pe_op op_add (pe_dget2 (hu_of hr) (pv 1) (pe_tup (pa_cons (pv 2) (pa_cons (pv 3) pa_nil))) pe_int ⟨rfl, by rfl, rfl, rfl⟩) (pv 4)) rfl)))
      (pss_one (ps_ret (pe_callTy (T := "dict") (call_dictPT rfl hr.units) (by rfl) T.dict (by decide +kernel) (pa_cons (pe_lc (own := [("key", 5)]) (g := gName 5) rfl sc__law_sums.nd (pi_list (pe_callB (id := "sorted") (call_sortedDT rfl hr.units) (by rfl) T.sorted (by decide +kernel) (pa_cons (pv 1) pa_nil))) (blkOk_by (N := ["rows", "found", "account", "thing", "amount", "key"]) (sc := defScope s__law_sums) (by decide +kernel)) (fun _ _ _ _ _ => (pg_name (i := 5) sc__law_sums.nd rfl (by first | exact Or.inl rfl | exact Or.inr rfl))) (fun _ _ _ _ _ => (pts_one (pt_cmpR op_ne (pe_dget (hu_of hr) (pv 1) (pv 5) (fun _ _ => rfl)) pe_int (nomark _)))) (fun _ _ _ _ _ => (pe_tup (pa_cons (pv 5) (pa_cons (pe_dget (hu_of hr) (pv 1) (pv 5) (fun _ _ => rfl)) pa_nil))))) pa_nil)))))), ?_⟩
  intro S hS
  have sS : Same H _ := Same.up (o := .dT []) hS
  refine ⟨_, rfl, a, rfl, ⟨xs, SqL.of (sS _ _ hv)⟩, for_it walk_list (fun i σ H' => (∃ u v w x, σ = [some (.ref a), some (.ref S), u, v, w, x]) ∧ Same H H' ∧ H' S = some (.dT (sumT (rs.take i)))) ⟨⟨_, _, _, _, rfl⟩, sS, by simp [sumT, sums, upd_same]⟩ (fun i σ H' hi p => SqL.of (p.2.1 _ _ hv)) ?_ ?_⟩
  · rintro i x σ H2 H3 hi ⟨⟨u1, v1, w1, x1, rfl⟩, s2, hd⟩ ⟨rfl, hx⟩
    obtain ⟨r, b, hr2, rfl, hb3⟩ := row_get (rv.mono s2) hx
    have I0 := sumT_ints (small_take (i := i) sm)
    refine ⟨b, _, rfl, SqT.of hb3, rfl, _, _, rfl, _, _, rfl, _, _, rfl, rfl, ?_⟩
    refine ⟨_, rfl, S, rfl, .inr ⟨_, .inl hd⟩, _, rfl, _, rfl, two_line, fun p hp => ⟨_, DGet.t (k := pk r.1) ((Same.up hp) _ _ hd) upd_same, _, rfl, ?_⟩⟩
    rw [I0.get]
    refine ⟨_, _, rfl, rfl, _, rfl, _, rfl, _, rfl, two_line, fun p2 hp2 => ?_⟩
    have s4 := (Same.up (o := .tup [.str r.1.1, .str r.1.2]) hp).trans (Same.up (o := .tup [.str r.1.1, .str r.1.2]) hp2)
    refine ⟨S, _, rfl, DPut.t (k := pk r.1) (s4 _ _ hd) upd_same (sz (m := 60) ?_), ⟨_, _, _, _, rfl⟩, Same.set (s2.trans s4) hS, ?_⟩
    · have := sumT_len (rs.take i)
      have := take_len rs i
      omega
    · rw [upd_same, sumT_snoc hr2]
      rfl
  · rintro σ H2 ⟨⟨u1, v1, w1, x1, rfl⟩, s2, hd⟩
    have hd : H2 S = some (.dT (sumT rs)) := by rw [hd, hl, List.take_length]
    have I0 := sumT_ints sm
    have kl : (keysOf (sumT rs)).length ≤ 60 := by
      have := sumT_len rs
      unfold keysOf
      rw [List.length_map]
      omega
    refine ⟨_, rfl, S, _, _, rfl, .inl hd, keysOf_eq I0, by omega, fun qs p hq hp => ?_⟩
    have sp := Same.up (o := .lst (qs.map V.ref)) hp
    have ql : qs.length = (pSort (keysOf (sumT rs))).length := Paired.length hq
    have kl2 : (pSort (keysOf (sumT rs))).length ≤ 60 := by rw [(pSort_perm _).length_eq]; exact kl
    refine ⟨p, rfl, ⟨_, SqL.of upd_same⟩, fun D hD => lc_gen walk_list walk_at (pSort (keysOf (sumT rs))) (fun k => decide (amt (sumT rs) k ≠ 0)) (by rw [List.length_map, ql]) (sz (m := 60) (by rw [List.length_map, ql]; exact kl2)) hD (fun H' s' => SqL.of (s' _ _ upd_same))
      (fun H' k y => ∃ t q, y = .ref t ∧ H' t = some (.tup [.ref q, .int (amt (sumT rs) k)]) ∧ H' q = some (.tup [.str k.1, .str k.2])) (fun _ _ _ _ e ⟨t, q, e1, e2, e3⟩ => ⟨t, q, e1, e _ _ e2, e _ _ e3⟩) (fun _ _ _ _ _ e ⟨t, q, e1, e2, e3⟩ => ⟨t, q, e1, by rw [upd_ne (ne_of e2 e (by intro z; cases z))]; exact e2, by rw [upd_ne (ne_of e3 e (by intro z; cases z))]; exact e3⟩) (fun i x k H3 A B hi hx hk s3 kA kB => ?_) (fun H3 acc s3 h3 pr => ?_)⟩
    · rw [List.getElem?_map] at hx
      obtain ⟨q, hq1, rfl⟩ := Option.map_eq_some_iff.mp hx
      have hk2 : k ∈ keysOf (sumT rs) := (pSort_perm _).mem_iff.mp (List.mem_of_getElem? hk)
      have hq2 : AtP H2 q k := Paired.at2 hq hq1 hk
      have s4 := sp.trans s3
      have v0 : valV (sumT rs) (pk k) = some (.int (amt (sumT rs) k)) := I0.at_ (by rw [keysOf_eq I0]; exact List.mem_map.mpr ⟨k, hk2, rfl⟩)
      refine ⟨rfl, ?_⟩
      refine ⟨_, rfl, _, rfl, S, _, rfl, v0 ▸ DGet.t (k := pk k) (s4 _ _ hd) (s4 _ _ hq2), rfl, _, rfl, ?_⟩
      have cc : (!decide (V.int (amt (sumT rs) k) = V.int 0)) = decide (amt (sumT rs) k ≠ 0) := by
        by_cases c : amt (sumT rs) k = 0 <;> simp [c]
      cases c : decide (amt (sumT rs) k ≠ 0) with
      | false =>
        rw [cc, c]
        exact iteF (kB c _ (Same.refl _))
      | true =>
        rw [cc, c]
        refine iteT ?_
        refine ⟨_, rfl, _, rfl, _, rfl, S, _, rfl, v0 ▸ DGet.t (k := pk k) (s4 _ _ hd) (s4 _ _ hq2), two_line, fun t3 ht3 => ?_⟩
        exact kA c _ _ (Same.up ht3) ⟨t3, q, rfl, upd_same, Same.up ht3 _ _ (s4 _ _ hq2)⟩
    · obtain ⟨ts, rfl, pts⟩ := pairs_tk (K := K) pr
      have sH := s2.trans (sp.trans s3)
      exact ⟨D, ts, _, rfl, SqL.of h3, pts, tk_nodup I0, fun p2 hp2 => q _ p2 (sH.trans (Same.up hp2)) (sH.free hp2) upd_same⟩
abbrev s__law_told : Stmt := top 24
theorem sc__law_told : FnScope ["rows", "sums", "key"] ["rows"] (defScope s__law_told) := ⟨rfl, rfl, rfl, by decide +kernel, rfl, by decide +kernel, by decide +kernel⟩
def spLTold : Sp := fun vs H Q _ => ∃ (v : V) (rs : List Rw), vs = [v] ∧ Is H v (.lst (rs.map rowTr)) ∧ ∀ H' p, Same H H' → H p = none → Is H' (.ref p) (.lst (toldOf (sumT rs))) → Q (.ref p) H'
theorem c__law_told (T : Txt K mg) (D : Dfn K mg "_law_told" s__law_told) (C_law_sums : Cal P w K mg base 1 "_law_sums" ["rows"] spSums) : Cal P w K mg base 2 "_law_told" ["rows"] spLTold := by
  refine D.cal sc__law_told (fun _ _ _ _ _ _ us hl => match us, hl with | [_], _ => rfl) (fun vs H Q E h => ?_) fun cdv A outer s H vs Q E hr h => ?_
  · obtain ⟨v, rs, rfl, _⟩ := h
    rfl
  obtain ⟨v, rs, rfl, hv, q⟩ := h
  have hv0 := hv
  obtain ⟨a, xs, rfl, hv, rv, hl, zl, sm⟩ := rows_at hv
  refine ⟨_, (pss_cons (ps_set (i := 1) sc__law_told.nd rfl (by first | exact Or.inl rfl | exact Or.inr rfl) (pe_cal C_law_sums hr (by first | decide | omega) (by rfl) (pa_cons (pv 0) pa_nil)))
      (pss_one (ps_ret (pe_lock (pe_lc (own := [("key", 2)]) (g := gName 2) (tt := tYes) rfl sc__law_told.nd (pi_keys (pv 1)) (blkOk_by (N := ["rows", "sums", "key"]) (sc := defScope s__law_told) (by decide +kernel)) (fun _ _ _ _ _ => (pg_name (i := 2) sc__law_told.nd rfl (by first | exact Or.inl rfl | exact Or.inr rfl))) (fun _ _ _ _ _ => pts_nil) (fun _ _ _ _ _ => (pe_tup (pa_cons (pe_ix (ix_tupK K rfl) (pv 2) pe_int (fun _ _ => rfl)) (pa_cons (pe_ix (ix_tupK K rfl) (pv 2) pe_int (fun _ _ => rfl)) (pa_cons (pe_dget (hu_of hr) (pv 1) (pv 2) (fun _ _ => rfl)) pa_nil)))))))))), ?_⟩
  have I0 := sumT_ints sm
  have kl : (kept (sumT rs)).length ≤ 60 := by
    have h1 := kept_len (kvs := sumT rs)
    have h2 := sumT_len rs
    omega
  refine ⟨_, rfl, _, rs, rfl, hv0, fun H1 p s1 hp h1 => ?_⟩
  refine ⟨p, _, h1, trivial, fun od => ?_⟩
  refine ⟨_, rfl, p, od, rfl, .inr ⟨_, upd_same, fun D hD => lc_gen walk_keysT (At := fun i H x => ∃ k v q, (tk (sumT rs))[i]? = some (k, v) ∧ x = .ref q ∧ H q = some (.tup (k.map kV))) (fun i H x H' y => y) (kept (sumT rs)) (fun _ => true) (by unfold tk; rw [List.length_map]) (sz (m := 60) (by unfold tk; rw [List.length_map]; exact kl)) hD (fun H' s' => s' _ _ upd_same)
    (fun H' k y => ∃ q, y = .ref q ∧ H' q = some (.tup [.str k.1, .str k.2, .int (amt (sumT rs) k)])) (fun _ _ _ _ e ⟨q, e1, e2⟩ => ⟨q, e1, e _ _ e2⟩) (fun _ _ _ _ _ e ⟨q, e1, e2⟩ => ⟨q, e1, by rw [upd_ne (ne_of e2 e (by intro z; cases z))]; exact e2⟩) (fun i x k H3 A B hi hx hk s3 kA kB => ?_) (fun H3 acc s3 h3 pr => ?_)⟩⟩
  · obtain ⟨kk, v, t, e1, rfl, ht⟩ := hx
    have e2 : (tk (sumT rs))[i]? = some (pk k, V.int (amt (sumT rs) k)) := by unfold tk; rw [List.getElem?_map, hk]; rfl
    rw [e2] at e1
    obtain ⟨rfl, rfl⟩ := Prod.mk.inj (Option.some.inj e1)
    have v0 : valV (tk (sumT rs)) (pk k) = some (.int (amt (sumT rs) k)) := val_of (tk_nodup I0) (List.mem_of_getElem? e2)
    have ht : H3 t = some (.tup [.str k.1, .str k.2]) := ht
    refine ⟨rfl, ?_⟩
    unfold tYes
    simp only [if_true]
    refine ⟨_, rfl, t, _, _, _, rfl, rfl, SqT.of ht, rfl, _, rfl, t, _, _, _, rfl, rfl, SqT.of ht, rfl, _, rfl, _, rfl, p, _, rfl, .inr ⟨_, pk k, t, .inr ⟨od, s3 _ _ upd_same⟩, rfl, ht, v0.symm⟩, three_line, fun t3 ht3 => ?_⟩
    exact kA rfl _ _ (Same.up ht3) ⟨t3, rfl, upd_same⟩
  · have nD : D ≠ p := fun z => by rw [z, upd_same] at hD; cases hD
    have fz : (kept (sumT rs)).filter (fun _ => true) = kept (sumT rs) := List.filter_eq_self.mpr fun _ _ => rfl
    rw [fz] at pr
    have al : acc.length ≤ 60 := by rw [Paired.length pr]; exact kl
    have sR : Same H (upd H3 p (.dT (tk (sumT rs)))) := fun b o e => by
      have e1 := s1 _ _ e
      have nb : b ≠ p := fun z => by rw [z, hp] at e; cases e
      rw [upd_ne nb]
      refine s3 _ _ ?_
      rw [upd_ne nb]
      exact e1
    refine ⟨s3 _ _ upd_same, q _ D sR ?_ (.lst (by rw [upd_ne nD]; exact h3) (IsA.keep (thaw (s3 _ _ upd_same)) (isA_told pr fun k m => keysOf_small I0 k (kept_mem m))) al)⟩
    · have h := hD
      rw [upd_ne nD] at h
      exact s1.free h
end
end K25

set_option Elab.async false
set_option linter.all false
set_option maxRecDepth 100000
set_option maxHeartbeats 4000000
namespace K25
open PySem PySem.Spec PyProof.Rows L2 Sr LamX
def strOfK : Key → Str
  | .inr s => s
  | _ => ""
def till : Str := "the-till"
def extR (kvs : List (Key × V)) : List Rw := kvs.map fun e => ((till, strOfK e.1), 0 - intOf (some e.2))
def isThg (k : Key) : Prop := ∃ s ∈ thgs, k = Sum.inr s
theorem sumS_thg {rs : List Rw} (h : ∀ r ∈ rs, good r) : Ints isThg (sumS rs) := sums_ints _ _ _ _ Ints.nil fun r m => ⟨_, (h r m).2, rfl⟩
theorem extR_good {rs : List Rw} (h : ∀ r ∈ rs, good r) : ∀ r ∈ extR (sumS rs), good r := fun r m => by
  obtain ⟨e, m2, rfl⟩ := List.mem_map.mp m
  obtain ⟨⟨s, hs, e1⟩, _⟩ := (sumS_thg h).ent e m2
  refine ⟨by show till ∈ accs; decide, ?_⟩
  show strOfK e.1 ∈ thgs
  rw [e1]
  exact hs
theorem isA_rows {H : Hp} : ∀ {acc : List V} {rs : List Rw}, Paired (fun y r => ∃ t, y = V.ref t ∧ H t = some (.tup [.str r.1.1, .str r.1.2, .int r.2])) acc rs → (∀ r ∈ rs, good r) → IsA H acc (rs.map rowTr)
  | _, _, .nil, _ => .nil
  | _, _, .cons (b := r) ⟨t, e, h⟩ p, g => by
    rw [e]
    exact .cons (row_is h (g r List.mem_cons_self)) (isA_rows p fun x m => g x (List.mem_cons_of_mem _ m))
def spBald : Sp := fun vs H Q _ => ∃ (v : V) (rs : List Rw), vs = [v] ∧ Is H v (.lst (rs.map rowTr)) ∧ (∀ r ∈ rs, good r) ∧ rs.length ≤ 8 ∧ ∀ (H' : Hp) (p : Addr) (rs' : List Rw), Same H H' → H p = none → Is H' (.ref p) (.lst (rs'.map rowTr)) → (∀ r ∈ rs', good r) → rs'.length ≤ 16 → Q (.ref p) H'
section
variable {P : Program} {w : World} {K : PySem.W.Frag} {mg : Str → Option Value} {base : Heap}
abbrev s__law_balanced : Stmt := top 25
theorem sc__law_balanced : FnScope ["rows", "sums", "account", "thing", "amount"] ["rows"] (defScope s__law_balanced) := ⟨rfl, rfl, rfl, by decide +kernel, rfl, by decide +kernel, by decide +kernel⟩
theorem c__law_balanced (T : Txt K mg) (D : Dfn K mg "_law_balanced" s__law_balanced) : Cal P w K mg base 1 "_law_balanced" ["rows"] spBald := by
  refine D.cal sc__law_balanced (fun _ _ _ _ _ _ us hl => match us, hl with | [_], _ => rfl) (fun vs H Q E h => ?_) fun cdv A outer s H vs Q E hr h => ?_
  · obtain ⟨v, rs, rfl, _⟩ := h
    rfl
  obtain ⟨v, rs, rfl, hv, hg, l8, q⟩ := h
  obtain ⟨a, xs, rfl, hv, rv, hl, zl, sm⟩ := rows_at hv
  refine ⟨_, (pss_cons (ps_set (i := 1) sc__law_balanced.nd rfl (by first | exact Or.inl rfl | exact Or.inr rfl) pe_dnewK)
      (pss_cons (ps_for PassesOwn.never rfl (pi_list (pv 0)) (pg_tup rfl (pgs_cons (pg_name (i := 2) sc__law_balanced.nd rfl (by first | exact Or.inl rfl | exact Or.inr rfl)) (pgs_cons (pg_name (i := 3) sc__law_balanced.nd rfl (by first | exact Or.inl rfl | exact Or.inr rfl)) (pgs_cons (pg_name (i := 4) sc__law_balanced.nd rfl (by first | exact Or.inl rfl | exact Or.inr rfl)) pgs_nil))))
      (pss_one (ps_dput (hu_of hr) (pv 1) (pv 3) (pe_op op_add (pe_dget2 (hu_of hr) (pv 1) (pv 3) pe_int ⟨rfl, by rfl, rfl, rfl⟩) (pv 4)) rfl)))
      (pss_one (ps_ret (pe_op op_cat (pv 0) (pe_lock (pe_lc (own := [("thing", 3)]) (g := gName 3) (tt := tYes) rfl sc__law_balanced.nd (pi_keys (pv 1)) (blkOk_by (N := ["rows", "sums", "account", "thing", "amount"]) (sc := defScope s__law_balanced) (by decide +kernel)) (fun _ _ _ _ _ => (pg_name (i := 3) sc__law_balanced.nd rfl (by first | exact Or.inl rfl | exact Or.inr rfl))) (fun _ _ _ _ _ => pts_nil) (fun _ _ _ _ _ => (pe_tup (pa_cons pe_str (pa_cons (pv 3) (pa_cons (pe_op op_sub pe_int (pe_dget (hu_of hr) (pv 1) (pv 3) (fun _ _ => rfl))) pa_nil)))))))))))), ?_⟩
  intro S hS
  have sS : Same H _ := Same.up (o := .dK []) hS
  refine ⟨_, rfl, a, rfl, ⟨xs, SqL.of (sS _ _ hv)⟩, for_it walk_list (fun i σ H' => (∃ u v w, σ = [some (.ref a), some (.ref S), u, v, w]) ∧ Same H H' ∧ H' S = some (.dK (sumS (rs.take i)))) ⟨⟨_, _, _, rfl⟩, sS, by simp [sumS, sums, upd_same]⟩ (fun i σ H' hi p => SqL.of (p.2.1 _ _ hv)) ?_ ?_⟩
  · rintro i x σ H2 H3 hi ⟨⟨u1, v1, w1, rfl⟩, s2, hd⟩ ⟨rfl, hx⟩
    obtain ⟨r, b, hr2, rfl, hb3⟩ := row_get (rv.mono s2) hx
    have I0 := sumS_ints (rs.take i)
    refine ⟨b, _, rfl, SqT.of hb3, rfl, _, _, rfl, _, _, rfl, _, _, rfl, rfl, ?_⟩
    refine ⟨_, rfl, S, rfl, .inl ⟨_, .inl hd⟩, _, rfl, _, DGet.k (k := Sum.inr r.1.2) hd, _, rfl, ?_⟩
    rw [I0.get]
    refine ⟨_, _, rfl, rfl, _, rfl, _, rfl, S, _, rfl, DPut.k (k := Sum.inr r.1.2) hd (sz (m := 60) ?_), ⟨_, _, _, rfl⟩, Same.set s2 hS, ?_⟩
    · have := sumS_len (rs.take i)
      have := take_len rs i
      omega
    · rw [upd_same, sumS_snoc hr2]
      rfl
  · rintro σ H2 ⟨⟨u1, v1, w1, rfl⟩, s2, hd⟩
    have hd : H2 S = some (.dK (sumS rs)) := by rw [hd, hl, List.take_length]
    have I0 := sumS_thg hg
    have sl := sumS_len rs
    refine ⟨_, rfl, S, _, hd, trivial, fun od => ?_⟩
    have el : (extR (sumS rs)).length = (sumS rs).length := by unfold extR; rw [List.length_map]
    refine ⟨_, rfl, S, od, rfl, .inl ⟨_, upd_same, fun D hD => lc_gen walk_keys (At := fun i _ x => ∃ k v, (sumS rs)[i]? = some (k, v) ∧ x = kV k) (fun i H x H' y => y) (extR (sumS rs)) (fun _ => true) el (sz (m := 60) (by omega)) hD (fun H' s' => s' _ _ upd_same)
      (fun H' r y => ∃ t, y = .ref t ∧ H' t = some (.tup [.str r.1.1, .str r.1.2, .int r.2])) (fun _ _ _ _ e ⟨q, e1, e2⟩ => ⟨q, e1, e _ _ e2⟩) (fun _ _ _ _ _ e ⟨q, e1, e2⟩ => ⟨q, e1, by rw [upd_ne (ne_of e2 e (by intro z; cases z))]; exact e2⟩) (fun i x r H3 A B hi hx hk s3 kA kB => ?_) (fun H3 acc s3 h3 pr => ?_)⟩⟩
    · obtain ⟨k, v, e1, rfl⟩ := hx
      have m := List.mem_of_getElem? e1
      obtain ⟨⟨z, hz, ek⟩, n, en⟩ := I0.ent _ m
      have ek : k = Sum.inr z := ek
      have en : v = .int n := en
      subst ek en
      have v0 : valV (sumS rs) (Sum.inr z) = some (.int n) := val_of I0.nd m
      have hr : r = ((till, z), 0 - n) := by
        unfold extR at hk
        rw [List.getElem?_map, e1] at hk
        exact (Option.some.inj hk).symm
      subst hr
      refine ⟨rfl, ?_⟩
      unfold tYes
      simp only [if_true]
      refine ⟨_, rfl, _, rfl, _, rfl, S, _, rfl, .inl ⟨_, Sum.inr z, .inr ⟨od, s3 _ _ upd_same⟩, rfl, v0.symm⟩, _, _, rfl, rfl, three_line, fun t3 ht3 => ?_⟩
      exact kA rfl _ _ (Same.up ht3) ⟨t3, rfl, upd_same⟩
    · have nD : D ≠ S := fun z => by rw [z, upd_same] at hD; cases hD
      have nS : a ≠ S := fun z => by rw [z, hS] at hv; cases hv
      have fz : (extR (sumS rs)).filter (fun _ => true) = extR (sumS rs) := List.filter_eq_self.mpr fun _ _ => rfl
      rw [fz] at pr
      have al : acc.length = (sumS rs).length := by rw [Paired.length pr, el]
      have sR : Same H (upd H3 S (.dK (sumS rs))) := fun b o e => by
        have nb : b ≠ S := fun z => by rw [z, hS] at e; cases e
        rw [upd_ne nb]
        refine s3 _ _ ?_
        rw [upd_ne nb]
        exact s2 _ _ e
      refine ⟨s3 _ _ upd_same, a, D, xs, acc, rfl, rfl, sR _ _ hv, by rw [upd_ne nD]; exact h3, lineN (by omega), fun p hp => ?_⟩
      have sp := Same.up (o := .lst (xs ++ acc)) hp
      refine q _ p (rs ++ extR (sumS rs)) (sR.trans sp) (sR.free hp) (.lst upd_same ?_ (by rw [List.length_append]; omega)) (fun r m => ?_) (by rw [List.length_append]; omega)
      · rw [List.map_append]
        exact IsA.app (rv.mono (sR.trans sp)) ((IsA.keep (thaw (s3 _ _ upd_same)) (isA_rows pr (extR_good hg))).mono sp)
      · rcases List.mem_append.mp m with m | m
        · exact hg r m
        · exact extR_good hg r m
end
end K25

set_option Elab.async false
set_option linter.all false
set_option maxRecDepth 100000
set_option maxHeartbeats 4000000
namespace K25
open PySem PySem.Spec PyProof.Rows L2 Sr LamX
abbrev s__law_tried : Stmt := top 26
theorem sc__law_tried : FnScope ["work", "e"] ["work"] (defScope s__law_tried) := ⟨rfl, rfl, rfl, by decide +kernel, rfl, by decide +kernel, by decide +kernel⟩
theorem g_tried {X : Cx} {C f0 g : Addr} (hme : X.mg "BadRow" = some (.ref C)) (E : Err X.K C f0 "index") (hx : PySem.W.exmOne X.K (.ref C) (.ref C) = some true) (cdg : Value) (q : Str) :
    GivesTo X ["work", "e"] "_law_tried" (defScope s__law_tried) g cdg (defBody s__law_tried) "work" q (TTried C "index" "told" "row") := by
  intro f c' s H Q tl act hc h
  refine ⟨_, pss_one (ps_try_named (X := (cxOf C8.CX0 X.prog X.w X.K X.mg X.base ["work", "e"] "_law_tried" (defScope s__law_tried) g cdg X.A X.stack s H C8.E0).nox)
      (tb := fun W D σ H => ∃ Ech : XK, (∀ cls d σ' H', Ech cls d H' → W cls d σ' H') ∧ σ[0]? = some (some (.ref f)) ∧ H c' = some (CodeO c' q) ∧ tl Ech H (fun v H' => [V.str "told", v].length ≤ sizeLine ∧ ∀ p, H' p = none → D.rt (.ref p) (upd H' p (.tup [.str "told", v]))))
      (l := [(.ref C, 1, fun a cls d D σ H => σ.length = 2 → tRet (tTup (tCons (tC (.str "row")) (tCons (tXf a cls d C "index" (tVar 1)) tNil))) D σ H)]) rfl rfl sc__law_tried.nd takes0 (fun W pn xe tk _ => ?_) (.cons ⟨?_⟩ .nil)), ?_⟩
  · refine ⟨fun pins s' σ H' D I h' => ?_⟩
    obtain ⟨Ech, hW, h1, h2, h3⟩ := h'
    have hp := act W pn xe Ech ⟨88, 24, 88, 28⟩ ⟨88, 24, 88, 30⟩ tk hW
    exact (pss_one (ps_ret (pe_tup (pa_cons pe_str (pa_cons hp pa_nil))))).run pins s' σ H' D I ⟨h1, h2, h3⟩
  · refine ⟨_, _, _, _, _, _, rfl, ⟨rfl, by decide, .inl hme⟩, rfl, rfl, fun a oe cls d pn hz hf => ?_⟩
    exact pss_len (pss_one (ps_ret (pe_tup (pa_cons pe_str (pa_cons (pe_xf E.xf E.no hz hf (pv 1)) pa_nil)))))
  · refine ⟨_, fun cls d σ' H' hE => ?_, rfl, hc, h⟩
    obtain ⟨rfl, e, v, rfl, he, hq⟩ := hE
    refine ⟨true, hx, iteT fun a ha hl => ?_⟩
    have h1 : (σ'.set 1 (some (V.ref a)))[1]? = some (some (.ref a)) := by
      rw [List.length_set] at hl
      rw [List.getElem?_set_self (by omega)]
    exact ⟨_, h1, rfl, rfl, e, _, v, rfl, he, rfl, two_line, fun p hp => hq p hp⟩
end K25

set_option Elab.async false
set_option linter.all false
set_option maxRecDepth 100000
set_option maxHeartbeats 4000000
namespace K25
open PySem PySem.Spec PyProof.Rows L2 Sr LamX
/-! ### rows handed as lists -/
def rowP (r : Rw) : PyData := .list [.str r.1.1, .str r.1.2, .int r.2]
theorem accs_lay : ∀ s ∈ accs, PyData.canLay0 (.str s) = true := by decide +kernel
theorem thgs_lay : ∀ s ∈ thgs, PyData.canLay0 (.str s) = true := by decide +kernel
theorem rowP_lay {r : Rw} (g : good r) : PyData.canLay0 (rowP r) = true := by
  unfold rowP
  simp only [PyData.canLay0, PyData.canLayAll0, Bool.and_true]
  have h1 := accs_lay _ g.1
  have h2 := thgs_lay _ g.2
  simp only [PyData.canLay0] at h1 h2
  rw [h1, h2]
  rfl
theorem rowsP_lay : ∀ {rs : List Rw}, (∀ r ∈ rs, good r) → PyData.canLayAll0 (rs.map rowP) = true
  | [], _ => rfl
  | r :: t, g => by
    rw [List.map_cons]
    show (PyData.canLay0 (rowP r) && PyData.canLayAll0 (t.map rowP)) = true
    rw [rowP_lay (g r List.mem_cons_self), rowsP_lay fun x m => g x (List.mem_cons_of_mem _ m)]
    rfl
theorem rowsP_depth : ∀ rs : List Rw, PyData.depthAll (rs.map rowP) ≤ 1
  | [] => by simp [PyData.depthAll]
  | r :: t => by
    rw [List.map_cons]
    show max (PyData.depth (rowP r)) (PyData.depthAll (t.map rowP)) ≤ 1
    have h := rowsP_depth t
    have h1 : PyData.depth (rowP r) ≤ 1 := by simp [rowP, PyData.depth, PyData.depthAll]
    omega
theorem hand_shaped {rs : List Rw} (g : ∀ r ∈ rs, good r) : SeqAt.shaped (.list (rs.map rowP)) = true := by
  unfold SeqAt.shaped
  have h1 : PyData.canLay0 (.list (rs.map rowP)) = true := rowsP_lay g
  have h2 : PyData.depth (.list (rs.map rowP)) ≤ 64 := by
    show PyData.depthAll (rs.map rowP) + 1 ≤ 64
    have := rowsP_depth rs
    omega
  rw [h1, decide_eq_true h2]
  rfl
theorem hand_eqv {rs : List Rw} (g : ∀ r ∈ rs, good r) : PyData.eqv (.list (rs.map rowP)) (.list (rs.map rowP)) = true := SeqAt.eqv_refl _ (rowsP_lay g)
theorem dp_row {K : PySem.W.Frag} {H : Hp} {v : V} {r : Rw} (h : Is H v (rowLd r)) : Dp K H v (rowP r) := by
  obtain ⟨a, rfl, h, _⟩ := row_at h
  exact .lst (SqL.of h) (.cons (.str _) (.cons (.str _) (.cons (.int _) .nil)))
theorem dp_rows {K : PySem.W.Frag} {H : Hp} : ∀ {xs : List V} {rs : List Rw}, IsA H xs (rs.map rowLd) → DpAll K H xs (rs.map rowP)
  | _, [], h => by cases h; exact .nil
  | _, r :: t, h => by
    cases h with
    | cons h1 h2 => exact .cons (dp_row h1) (dp_rows h2)
theorem dp_hand {K : PySem.W.Frag} {H : Hp} {v : V} {rs : List Rw} (h : Is H v (.lst (rs.map rowLd))) : Dp K H v (.list (rs.map rowP)) := by
  cases h with
  | lst h ia z => exact .lst (SqL.of h) (dp_rows ia)
theorem isA_hand {H : Hp} : ∀ {acc : List V} {rs : List Rw}, Paired (fun y r => ∃ t, y = V.ref t ∧ H t = some (.lst [.str r.1.1, .str r.1.2, .int r.2])) acc rs → (∀ r ∈ rs, good r) → IsA H acc (rs.map rowLd)
  | _, _, .nil, _ => .nil
  | _, _, .cons (b := r) ⟨t, e, h⟩ p, g => by
    rw [e]
    have sm := good_small (g r List.mem_cons_self)
    exact .cons (.lst h (.cons (.str _ sm.1) (.cons (.str _ sm.2) (.cons (.int _) .nil))) (show (3 : Nat) ≤ 60 by decide)) (isA_hand p fun x m => g x (List.mem_cons_of_mem _ m))
theorem noD_hand (rs : List Rw) : noD (.lst (rs.map rowLd)) = true := by
  have h : noDs (rs.map rowLd) = true := noDs_all fun d m => by
    obtain ⟨r, _, rfl⟩ := List.mem_map.mp m
    unfold rowLd noD noDs noDs noDs noDs
    rfl
  unfold noD
  rw [h]
  have h3 : three (rs.map rowLd) = false := by
    match rs with
    | [] => rfl
    | [_] => rfl
    | [_, _] => rfl
    | [_, _, _] => rfl
    | _ :: _ :: _ :: _ :: _ => rfl
  rw [h3]
  rfl
/-! ### what is a row, what is none -/
theorem good_ok {r : Rw} (g : good r) : rowL [.str r.1.1, .str r.1.2, .int r.2] = true := by
  show (accOk (.str r.1.1) && (nameOk (.str r.1.2) && isInteger (.int r.2))) = true
  rw [(accs_ok _ g.1).2, (thgs_ok _ g.2).2]
  rfl
theorem ok_ld {r : Rw} (g : good r) : rowOk (rowLd r) = true := good_ok g
theorem ok_tr {r : Rw} (g : good r) : rowOk (rowTr r) = true := good_ok g
theorem flat3 (a b : Str) (n : Int) : ∀ x ∈ [Dt.str a, .str b, .int n], flatD x := fun x m => by
  simp only [List.mem_cons, List.not_mem_nil, or_false] at m
  rcases m with rfl | rfl | rfl <;> exact ⟨rfl, by intro z; cases z⟩
theorem fl_ld (r : Rw) : rowFlat (rowLd r) := fun l e => by cases e; exact flat3 _ _ _
theorem fl_tr (r : Rw) : rowFlat (rowTr r) := fun l e => by cases e; exact flat3 _ _ _
def flatDb : Dt → Bool
  | .lst _ => false
  | .tup _ => false
  | .dic => false
  | _ => true
theorem flatDb_ok {d : Dt} (h : flatDb d = true) : flatD d := by
  cases d with
  | lst => cases h
  | tup => cases h
  | dic => cases h
  | _ => exact ⟨rfl, by intro z; cases z⟩
def rowFlatB (d : Dt) : Bool := match seqOf d with
  | some l => l.all flatDb
  | none => true
theorem rowFlatB_ok {d : Dt} (h : rowFlatB d = true) : rowFlat d := fun l e x m => by
  unfold rowFlatB at h
  rw [e] at h
  exact flatDb_ok (List.all_eq_true.mp h x m)
theorem firstBad_none : ∀ (l : List Dt) (i : Nat), (∀ d ∈ l, rowOk d = true) → firstBad l i = none
  | [], _, _ => rfl
  | d :: r, i, h => by
    unfold firstBad
    rw [if_pos (h d List.mem_cons_self)]
    exact firstBad_none r _ fun x m => h x (List.mem_cons_of_mem _ m)
theorem firstBad_at : ∀ (l : List Dt) (x : Dt) (r : List Dt) (i : Nat), (∀ d ∈ l, rowOk d = true) → rowOk x = false → firstBad (l ++ x :: r) i = some (i + l.length)
  | [], x, r, i, _, hx => by
    show (if rowOk x = true then firstBad r (i + 1) else some i) = _
    rw [if_neg (by rw [hx]; simp)]
    rfl
  | d :: l, x, r, i, h, hx => by
    show (if rowOk d = true then firstBad (l ++ x :: r) (i + 1) else some i) = _
    rw [if_pos (h d List.mem_cons_self), firstBad_at l x r (i + 1) (fun z m => h z (List.mem_cons_of_mem _ m)) hx, List.length_cons]
    congr 1
    omega
/-! ### what is the same -/
theorem dep_told (kvs : List (List Key × V)) (b : Bool) : Dep 4 (.lst [.lst (toldOf kvs), .bl b]) := by
  refine .lst 3 _ fun d m => ?_
  simp only [List.mem_cons, List.not_mem_nil, or_false] at m
  rcases m with rfl | rfl
  · refine .lst 2 _ fun d m => ?_
    obtain ⟨p, _, rfl⟩ := List.mem_map.mp m
    refine .tup 1 _ fun d m => ?_
    simp only [List.mem_cons, List.not_mem_nil, or_false] at m
    rcases m with rfl | rfl | rfl
    · exact .str _ _
    · exact .str _ _
    · exact .int _ _
  · exact .bl _ _
def rowD (n : Int) : Dt := .tup [.str "row", .int n]
theorem dep_rows (n : Int) : Dep 4 (.lst [rowD n, rowD n, rowD 0, rowD 0]) := by
  have h : ∀ m, Dep 3 (rowD m) := fun m => .tup 2 _ fun d k => by
    simp only [List.mem_cons, List.not_mem_nil, or_false] at k
    rcases k with rfl | rfl
    · exact .str _ _
    · exact .int _ _
  refine .lst 3 _ fun d m => ?_
  simp only [List.mem_cons, List.not_mem_nil, or_false] at m
  rcases m with rfl | rfl | rfl | rfl <;> exact h _
/-! ### the odd things -/
def oddD : List Dt := [.non, .int 5, .tup [], .tup [.str "ann", .str "coin"], .tup [.str "ann", .str "coin", .int 1, .int 1], .tup [.str "Ann", .str "coin", .int 1], .tup [.str "the-bank", .str "coin", .int 1], .str "abc", .dic, .tup [.str "ann", .str "the-till", .int 1], .tup [.str "ann", .str "coin", .bl true], .tup [.str "ann", .str "coin", .str "1"], .tup [.str "", .str "coin", .int 1], .tup [.int 5, .str "coin", .int 1]]
theorem odd_bad : ∀ d ∈ oddD, rowOk d = false ∧ rowFlatB d = true ∧ noD d = true := by
  intro d m
  simp only [oddD, List.mem_cons, List.not_mem_nil, or_false] at m
  rcases m with rfl | rfl | rfl | rfl | rfl | rfl | rfl | rfl | rfl | rfl | rfl | rfl | rfl | rfl <;> decide +kernel
theorem noDs_odd : noD (.lst oddD) = true := by decide +kernel
theorem flat_tr {rs : List Rw} : ∀ x ∈ rs.map rowTr, rowFlat x := fun x m => by
  obtain ⟨r, _, rfl⟩ := List.mem_map.mp m
  exact fl_tr r
theorem ok_trs {rs : List Rw} (g : ∀ r ∈ rs, good r) : ∀ d ∈ rs.map rowTr, rowOk d = true := fun d m => by
  obtain ⟨r, mr, rfl⟩ := List.mem_map.mp m
  exact ok_tr (g r mr)
/-- rows with odd things among them -/
def badDs (rs : List Rw) (k : Nat) (x y : Dt) : List Dt := ((rs.map rowTr).take k ++ [x] ++ (rs.map rowTr).drop k) ++ [y]
theorem bad_at {rs : List Rw} {k : Nat} {x y : Dt} (g : ∀ r ∈ rs, good r) (hk : k ≤ rs.length) (hx : x ∈ oddD) : badAt (.lst (badDs rs k x y)) = some k := by
  have e : badDs rs k x y = (rs.map rowTr).take k ++ x :: ((rs.map rowTr).drop k ++ [y]) := by simp [badDs]
  show firstBad (badDs rs k x y) 0 = some k
  rw [e, firstBad_at _ _ _ _ (fun d m => ok_trs g d (List.mem_of_mem_take m)) (odd_bad x hx).1, List.length_take, List.length_map, Nat.min_eq_left hk, Nat.zero_add]
theorem bad_flat {rs : List Rw} {k : Nat} {x y : Dt} (hx : x ∈ oddD) (hy : y ∈ oddD) : ∀ d ∈ badDs rs k x y, rowFlat d := fun d m => by
  have e : badDs rs k x y = (rs.map rowTr).take k ++ x :: ((rs.map rowTr).drop k ++ [y]) := by simp [badDs]
  rw [e] at m
  rcases List.mem_append.mp m with m | m
  · exact flat_tr d (List.mem_of_mem_take m)
  · rcases List.mem_cons.mp m with rfl | m
    · exact rowFlatB_ok (odd_bad _ hx).2.1
    · rcases List.mem_append.mp m with m | m
      · exact flat_tr d (List.mem_of_mem_drop m)
      · rw [List.mem_singleton.mp m]
        exact rowFlatB_ok (odd_bad _ hy).2.1
/-- things that are no lists -/
def thingsD : List Dt := [.non, .int 5, .str "rows", .dic, .bl true]
theorem things_bad : ∀ d ∈ thingsD, badAt d = some 0 ∧ seqOf d = none := by
  intro d m
  simp only [thingsD, List.mem_cons, List.not_mem_nil, or_false] at m
  rcases m with rfl | rfl | rfl | rfl | rfl <;> exact ⟨rfl, rfl⟩
/-! ### the list of what was tried -/
structure Fd (T : List (Addr × Str)) (HT G : Hp) (f : Addr) (vs : List V) (ns : List Int) : Prop where
  e : ExtN HT G
  t : Tabs T G
  at_ : G f = some (.lst vs)
  free : ∀ o, HT f = some o → ∃ ps, o = .tbl ps
  els : Paired (fun v n => ∃ p, v = V.ref p ∧ G p = some (.tup [.str "row", .int n])) vs ns
theorem ext_set {M H : Hp} {p : Addr} {o : HO} (e : ExtN M H) (h : ∀ o, M p = some o → ∃ ps, o = .tbl ps) : ExtN M (upd H p o) := fun b u q n => by
  rw [upd_ne fun z => ?_]
  · exact e _ _ q n
  · rw [z] at q
    obtain ⟨ps, hp⟩ := h _ q
    exact n ps hp
theorem Fd.first {T : List (Addr × Str)} {HT G1 G2 : Hp} {f p : Addr} {n : Int} (e : ExtN HT G1) (t : Tabs T G1) (s : Same G1 G2) (hp : G2 p = some (.tup [.str "row", .int n])) (hf : G2 f = none) : Fd T HT (upd G2 f (.lst [.ref p])) f [.ref p] [n] := by
  have e2 : ExtN HT G2 := e.trans (.of s)
  have fr : ∀ o, HT f = some o → ∃ ps, o = .tbl ps := fun o q => by
    cases o with
    | tbl ps => exact ⟨ps, rfl⟩
    | _ =>
      have h := e2 _ _ q (fun _ z => by cases z)
      rw [h] at hf
      cases hf
  refine ⟨ext_set e2 fr, (t.ext s).ext (Same.up hf), upd_same, fr, .cons ⟨p, rfl, ?_⟩ .nil⟩
  exact Same.up hf _ _ hp
theorem Fd.step {T : List (Addr × Str)} {HT G G1 G2 : Hp} {f p : Addr} {vs : List V} {ns : List Int} {n : Int} (F : Fd T HT G f vs ns) (e : ExtN G G1) (t : Tabs T G1) (s : Same G1 G2) (hp : G2 p = some (.tup [.str "row", .int n])) :
    G2 f = some (.lst vs) ∧ Fd T HT (upd G2 f (.lst (vs ++ [.ref p]))) f (vs ++ [.ref p]) (ns ++ [n]) := by
  have hf : G2 f = some (.lst vs) := s _ _ (e _ _ F.at_ fun _ z => by cases z)
  have keep : ∀ {b : Addr} {xs : List V}, G2 b = some (.tup xs) → (upd G2 f (.lst (vs ++ [.ref p]))) b = some (.tup xs) := fun {b xs} h => by
    rw [upd_ne (ne_of h hf (by intro z; cases z))]
    exact h
  refine ⟨hf, ext_set ((F.e.trans e).trans (.of s)) F.free, Tabs.set (t.ext s) hf, upd_same, F.free, ?_⟩
  refine Paired.snoc (F := fun v n => ∃ q, v = V.ref q ∧ (upd G2 f (.lst (vs ++ [.ref p]))) q = some (.tup [.str "row", .int n])) ⟨p, rfl, keep hp⟩ (Paired.imp' (fun v n ⟨q, e1, e2⟩ => ⟨q, e1, keep (s _ _ (e _ _ e2 fun _ z => by cases z))⟩) F.els)
theorem isA_fd {H : Hp} : ∀ {vs : List V} {ns : List Int}, Paired (fun v n => ∃ p, v = V.ref p ∧ H p = some (.tup [.str "row", .int n])) vs ns → IsA H vs (ns.map rowD)
  | _, _, .nil => .nil
  | _, _, .cons ⟨p, e, h⟩ t => by
    rw [e]
    exact .cons (.tup h (.cons (.str _ (by decide)) (.cons (.int _) .nil)) (show (2 : Nat) ≤ 60 by decide)) (isA_fd t)
end K25

set_option Elab.async false
set_option linter.all false
set_option maxRecDepth 100000
set_option maxHeartbeats 4000000
namespace K25
open PySem PySem.Spec PyProof.Rows L2 Sr LamX
abbrev s_law : Stmt := top 27
theorem sc_law : FnScope ["script", "odd", "turn", "draws", "rows", "handed", "sums", "due", "again", "at", "bad", "thing", "found", "account", "amount", "row"] ["script"] (defScope s_law) := ⟨rfl, rfl, rfl, by decide +kernel, rfl, by decide +kernel, by decide +kernel⟩
def spLaw (K : PySem.W.Frag) (Pt : Addr) : Sp := fun vs H Q _ => ∃ (l : Addr) (ns : List Int), vs = [.ref l] ∧ SqL K H l (ns.map V.int) ∧ H Pt = some (.tbl #[]) ∧ ∀ H', Q (.bl true) H'
theorem noD_row (r : Rw) : noD (rowTr r) = true := by
  unfold rowTr rowTd noD noDs noDs noDs noDs
  rfl
theorem noD_rows (rs : List Rw) : noD (.lst (rs.map rowTr)) = true := by
  have h : noDs (rs.map rowTr) = true := noDs_all fun d m => by
    obtain ⟨r, _, rfl⟩ := List.mem_map.mp m
    exact noD_row r
  unfold noD
  rw [h]
  have h3 : three (rs.map rowTr) = false := by
    match rs with
    | [] => rfl
    | [_] => rfl
    | [_, _] => rfl
    | [_, _, _] => rfl
    | _ :: _ :: _ :: _ :: _ => rfl
  rw [h3]
  rfl
def LawInv (K : PySem.W.Frag) (l O Pt : Addr) (ns : List Int) (i : Nat) (σ : L2.St) (H' : Hp) : Prop :=
  (∃ v2 v3 v4 v5 v6 v7 v8 v9 v10 v11 v12 v13 v14 v15, σ = [some (.ref l), some (.ref O), v2, v3, v4, v5, v6, v7, v8, v9, v10, v11, v12, v13, v14, v15]) ∧ Is H' (.ref O) (.lst oddD) ∧ SqL K H' l (ns.map V.int) ∧ Tabs [(Pt, "law" ++ ".<locals>." ++ "<lambda>")] H'
section
variable {P : Program} {w : World} {K : PySem.W.Frag} {mg : Str → Option Value} {base : Heap}
theorem c_law {fd : FuncData} {C f0 Pt : Addr} (T : Txt K mg) (DL : FunD K "law" "law" (defArgs s_law) (defBody s_law) (defScope s_law) [] [] (He.ga K "law") fd) (hme : mg "BadRow" = some (.ref C)) (eC : C = He.ga K "BadRow") (ER : Err K C f0 "index") (hx : PySem.W.exmOne K (.ref C) (.ref C) = some true)
    (TB : TabB base mg (He.codeOf K ("law", none)) Pt) (D_law_tried : Dfn K mg "_law_tried" s__law_tried)
    (C_law_source : Cal P w K mg base 1 "_law_source" ["script", "place"] (spSource K)) (C_law_draw : Cal P w K mg base 1 "_law_draw" ["draws", "many"] spDraw) (C_law_pick : Cal P w K mg base 2 "_law_pick" ["draws", "xs"] (spPick K)) (C_law_some_rows : Cal P w K mg base 3 "_law_some_rows" ["draws", "many"] spSome)
    (C_law_balanced : Cal P w K mg base 1 "_law_balanced" ["rows"] spBald) (C_law_told : Cal P w K mg base 2 "_law_told" ["rows"] spLTold) (C_law_same : Cal P w K mg base 5 "_law_same" ["found", "due"] (spDeep 4)) (C_told_rows : CalE P w K mg base 5 "told_rows" ["rows"] (spTold K)) (C_is_balanced : CalE P w K mg base 5 "is_balanced" ["rows"] (spBal K)) :
    FnOk P w K mg base CX0 8 (He.ga K "law") fd ["script"] (spLaw K Pt) := by
  refine fun_ok DL sc_law (fun vs H Q E h => ?_) fun A outer s H vs Q E hr h => ?_
  · obtain ⟨l, ns, rfl, _⟩ := h
    rfl
  obtain ⟨l, ns, rfl, hs, ht, q⟩ := h
  refine ⟨_, PSs.nox (pss_cons (ps_set (i := 1) sc_law.nd rfl (by first | exact Or.inl rfl | exact Or.inr rfl) (pe_lst (pa_cons pe_non (pa_cons pe_int (pa_cons (pe_tup pa_nil) (pa_cons (pe_tup (pa_cons pe_str (pa_cons pe_str pa_nil))) (pa_cons (pe_tup (pa_cons pe_str (pa_cons pe_str (pa_cons pe_int (pa_cons pe_int pa_nil))))) (pa_cons (pe_tup (pa_cons pe_str (pa_cons pe_str (pa_cons pe_int pa_nil)))) (pa_cons (pe_tup (pa_cons pe_str (pa_cons pe_str (pa_cons pe_int pa_nil)))) (pa_cons pe_str (pa_cons pe_dnewK pa_nil)))))))))))
      (pss_cons (ps_expr (pe_bm PySem.F.plainAttrs_list PySem.F.slot_list_extend PySem.F.type_list_extend mt_extend (pv 1) (pa_cons (pe_lst (pa_cons (pe_tup (pa_cons pe_str (pa_cons pe_str (pa_cons pe_int pa_nil)))) (pa_cons (pe_tup (pa_cons pe_str (pa_cons pe_str (pa_cons pe_bl pa_nil)))) (pa_cons (pe_tup (pa_cons pe_str (pa_cons pe_str (pa_cons pe_str pa_nil)))) (pa_cons (pe_tup (pa_cons pe_str (pa_cons pe_str (pa_cons pe_int pa_nil)))) (pa_cons (pe_tup (pa_cons pe_int (pa_cons pe_str (pa_cons pe_int pa_nil)))) pa_nil)))))) pa_nil)))
      (pss_cons (ps_for PassesOwn.never rfl (pi_range1 (by rfl) T.range (pa_cons (pe_op op_add pe_int (pe_callB (id := "min") (call_min2 rfl) (by rfl) T.min (by decide +kernel) (pa_cons (pe_callB (id := "len") call_len_seq (by rfl) T.len (by decide +kernel) (pa_cons (pv 0) pa_nil)) (pa_cons pe_int pa_nil)))) pa_nil)) (pg_name (i := 2) sc_law.nd rfl (by first | exact Or.inl rfl | exact Or.inr rfl))
      (pss_cons (ps_set (i := 3) sc_law.nd rfl (by first | exact Or.inl rfl | exact Or.inr rfl) (pe_cal C_law_source hr (by first | decide | omega) (by rfl) (pa_cons (pv 0) (pa_cons (pv 2) pa_nil))))
      (pss_cons (ps_set (i := 4) sc_law.nd rfl (by first | exact Or.inl rfl | exact Or.inr rfl) (pe_cal C_law_some_rows hr (by first | decide | omega) (by rfl) (pa_cons (pv 3) (pa_cons pe_int pa_nil))))
      (pss_cons (ps_if (pt_cmpR op_eq (pe_cal C_law_draw hr (by first | decide | omega) (by rfl) (pa_cons (pv 3) (pa_cons pe_int pa_nil))) pe_int (nomark _)) (pss_one (ps_set (i := 4) sc_law.nd rfl (by first | exact Or.inl rfl | exact Or.inr rfl) (pe_cal C_law_balanced hr (by first | decide | omega) (by rfl) (pa_cons (pv 4) pa_nil)))) pss_nil)
      (pss_cons (ps_setLc (i := 5) (own := [("row", 15)]) (g := gName 15) (tt := tYes) rfl sc_law.nd rfl rfl (sw_true rfl rfl rfl rfl) (pi_list (pv 4)) (blkOk_by (N := ["script", "odd", "turn", "draws", "rows", "handed", "sums", "due", "again", "at", "bad", "thing", "found", "account", "amount", "row"]) (sc := defScope s_law) (by decide +kernel)) (fun _ _ _ _ _ => (pg_name (i := 15) sc_law.nd rfl (by first | exact Or.inl rfl | exact Or.inr rfl))) (fun _ _ _ _ _ => pts_nil) (fun _ _ _ _ _ => (pe_callTy (T := "list") (call_list_ofK K rfl) (by rfl) T.list (by decide +kernel) (pa_cons (pv 15) pa_nil))))
      (pss_cons (ps_set (i := 6) sc_law.nd rfl (by first | exact Or.inl rfl | exact Or.inr rfl) pe_dnewK)
      (pss_cons (ps_for PassesOwn.never rfl (pi_list (pv 4)) (pg_tup rfl (pgs_cons (pg_name (i := 13) sc_law.nd rfl (by first | exact Or.inl rfl | exact Or.inr rfl)) (pgs_cons (pg_name (i := 11) sc_law.nd rfl (by first | exact Or.inl rfl | exact Or.inr rfl)) (pgs_cons (pg_name (i := 14) sc_law.nd rfl (by first | exact Or.inl rfl | exact Or.inr rfl)) pgs_nil))))
      (pss_one (ps_dput (hu_of hr) (pv 6) (pv 11) (pe_op op_add (pe_dget2 (hu_of hr) (pv 6) (pv 11) pe_int ⟨rfl, by rfl, rfl, rfl⟩) (pv 14)) rfl)))
      (pss_cons (ps_set (i := 7) sc_law.nd rfl (by first | exact Or.inl rfl | exact Or.inr rfl) (pe_callB (id := "all") (cr_all rfl) (by rfl) T.all (by decide +kernel) (pa_cons (pe_lock (pe_lc (own := [("thing", 11)]) (g := gName 11) (tt := tYes) rfl sc_law.nd (pi_keys (pv 6)) (blkOk_by (N := ["script", "odd", "turn", "draws", "rows", "handed", "sums", "due", "again", "at", "bad", "thing", "found", "account", "amount", "row"]) (sc := defScope s_law) (by decide +kernel)) (fun _ _ _ _ _ => (pg_name (i := 11) sc_law.nd rfl (by first | exact Or.inl rfl | exact Or.inr rfl))) (fun _ _ _ _ _ => pts_nil) (fun _ _ _ _ _ => (pe_cmpR op_eq (pe_dget (hu_of hr) (pv 6) (pv 11) (fun _ _ => rfl)) pe_int (nomark _))))) pa_nil)))
      (pss_cons (ps_for PassesOwn.never rfl (pi_range1 (by rfl) T.range (pa_cons pe_int pa_nil)) (pg_name (i := 8) sc_law.nd rfl (by first | exact Or.inl rfl | exact Or.inr rfl))
      (pss_cons (ps_set (i := 12) sc_law.nd rfl (by first | exact Or.inl rfl | exact Or.inr rfl) (pe_calE C_told_rows hr (by first | decide | omega) (by rfl) passes_never (pa_cons (pv 5) pa_nil)))
      (pss_cons (ps_if (pt_not (pt_val (pe_cal C_law_same hr (by first | decide | omega) (by rfl) (pa_cons (pe_lst (pa_cons (pv 12) (pa_cons (pe_calE C_is_balanced hr (by first | decide | omega) (by rfl) passes_never (pa_cons (pe_callTy (T := "tuple") call_tuple_of (by rfl) T.tuple (by decide +kernel) (pa_cons (pv 5) pa_nil)) pa_nil)) pa_nil))) (pa_cons (pe_lst (pa_cons (pe_cal C_law_told hr (by first | decide | omega) (by rfl) (pa_cons (pv 4) pa_nil)) (pa_cons (pv 7) pa_nil))) pa_nil))))) (pss_one (ps_ret pe_bl)) pss_nil)
      (pss_one (ps_expr (pe_bm PySem.F.plainAttrs_list PySem.F.slot_list_append PySem.F.type_list_append mt_append (pv 12) (pa_cons pe_str pa_nil)))))))
      (pss_cons (ps_if (pt_cmpR (op_neD hr.units) (pv 5) (pe_lc (own := [("row", 15)]) (g := gName 15) (tt := tYes) rfl sc_law.nd (pi_list (pv 4)) (blkOk_by (N := ["script", "odd", "turn", "draws", "rows", "handed", "sums", "due", "again", "at", "bad", "thing", "found", "account", "amount", "row"]) (sc := defScope s_law) (by decide +kernel)) (fun _ _ _ _ _ => (pg_name (i := 15) sc_law.nd rfl (by first | exact Or.inl rfl | exact Or.inr rfl))) (fun _ _ _ _ _ => pts_nil) (fun _ _ _ _ _ => (pe_callTy (T := "list") (call_list_ofK K rfl) (by rfl) T.list (by decide +kernel) (pa_cons (pv 15) pa_nil)))) (nomark _)) (pss_one (ps_ret pe_bl)) pss_nil)
      (pss_cons (ps_set (i := 9) sc_law.nd rfl (by first | exact Or.inl rfl | exact Or.inr rfl) (pe_cal C_law_draw hr (by first | decide | omega) (by rfl) (pa_cons (pv 3) (pa_cons (pe_op op_add (pe_callB (id := "len") call_len_seq (by rfl) T.len (by decide +kernel) (pa_cons (pv 4) pa_nil)) pe_int) pa_nil))))
      (pss_cons (ps_set (i := 10) sc_law.nd rfl (by first | exact Or.inl rfl | exact Or.inr rfl) (pe_op op_cat (pe_op op_cat (pe_op op_cat (pe_slice sl_list (pv 4) po_none (po_some (pv 9))) (pe_lst (pa_cons (pe_cal C_law_pick hr (by first | decide | omega) (by rfl) (pa_cons (pv 3) (pa_cons (pv 1) pa_nil))) pa_nil))) (pe_slice sl_list (pv 4) (po_some (pv 9)) po_none)) (pe_lst (pa_cons (pe_cal C_law_pick hr (by first | decide | omega) (by rfl) (pa_cons (pv 3) (pa_cons (pv 1) pa_nil))) pa_nil))))
      (pss_cons (ps_set (i := 11) sc_law.nd rfl (by first | exact Or.inl rfl | exact Or.inr rfl) (pe_cal C_law_pick hr (by first | decide | omega) (by rfl) (pa_cons (pv 3) (pa_cons (pe_lst (pa_cons pe_non (pa_cons pe_int (pa_cons pe_str (pa_cons pe_dnewK (pa_cons pe_bl pa_nil)))))) pa_nil))))
      (pss_cons (ps_set (i := 12) sc_law.nd rfl (by first | exact Or.inl rfl | exact Or.inr rfl) (pe_lst (pa_cons (pe_lam ("law" ++ ".<locals>.") D_law_tried sc__law_tried (fun _ _ _ _ _ _ us hl => match us, hl with | [_], _ => rfl) (fun cdv => g_tried hme ER hx cdv _) TB rfl hr (fun A outer s H E f c' hr => (pe_calE C_told_rows hr (by first | decide | omega) (by rfl) (passes_def rfl rfl rfl rfl) (pa_cons (pv 10) pa_nil))) (by rfl) (lamS_by (by show lamSB (defScope s_law) _ = true; decide +kernel)) (fun _ _ _ _ _ => rfl)) pa_nil)))
      (pss_cons (ps_expr (pe_bm PySem.F.plainAttrs_list PySem.F.slot_list_append PySem.F.type_list_append mt_append (pv 12) (pa_cons (pe_lam ("law" ++ ".<locals>.") D_law_tried sc__law_tried (fun _ _ _ _ _ _ us hl => match us, hl with | [_], _ => rfl) (fun cdv => g_tried hme ER hx cdv _) TB rfl hr (fun A outer s H E f c' hr => (pe_calE C_is_balanced hr (by first | decide | omega) (by rfl) (passes_def rfl rfl rfl rfl) (pa_cons (pv 10) pa_nil))) (by rfl) (lamS_by (by show lamSB (defScope s_law) _ = true; decide +kernel)) (fun _ _ _ _ _ => rfl)) pa_nil)))
      (pss_cons (ps_expr (pe_bm PySem.F.plainAttrs_list PySem.F.slot_list_append PySem.F.type_list_append mt_append (pv 12) (pa_cons (pe_lam ("law" ++ ".<locals>.") D_law_tried sc__law_tried (fun _ _ _ _ _ _ us hl => match us, hl with | [_], _ => rfl) (fun cdv => g_tried hme ER hx cdv _) TB rfl hr (fun A outer s H E f c' hr => (pe_calE C_told_rows hr (by first | decide | omega) (by rfl) (passes_def rfl rfl rfl rfl) (pa_cons (pv 11) pa_nil))) (by rfl) (lamS_by (by show lamSB (defScope s_law) _ = true; decide +kernel)) (fun _ _ _ _ _ => rfl)) pa_nil)))
      (pss_cons (ps_expr (pe_bm PySem.F.plainAttrs_list PySem.F.slot_list_append PySem.F.type_list_append mt_append (pv 12) (pa_cons (pe_lam ("law" ++ ".<locals>.") D_law_tried sc__law_tried (fun _ _ _ _ _ _ us hl => match us, hl with | [_], _ => rfl) (fun cdv => g_tried hme ER hx cdv _) TB rfl hr (fun A outer s H E f c' hr => (pe_calE C_is_balanced hr (by first | decide | omega) (by rfl) (passes_def rfl rfl rfl rfl) (pa_cons (pv 11) pa_nil))) (by rfl) (lamS_by (by show lamSB (defScope s_law) _ = true; decide +kernel)) (fun _ _ _ _ _ => rfl)) pa_nil)))
      (pss_one (ps_if (pt_not (pt_val (pe_cal C_law_same hr (by first | decide | omega) (by rfl) (pa_cons (pv 12) (pa_cons (pe_op op_cat (pe_op op_rep (pe_lst (pa_cons (pe_tup (pa_cons pe_str (pa_cons (pv 9) pa_nil))) pa_nil)) pe_int) (pe_op op_rep (pe_lst (pa_cons (pe_tup (pa_cons pe_str (pa_cons pe_int pa_nil))) pa_nil)) pe_int)) pa_nil))))) (pss_one (ps_ret pe_bl)) pss_nil)))))))))))))))))))
      (pss_one (ps_ret pe_bl))))), ?_⟩
  refine ⟨lineN (by simp), fun t0 ht0 => ?_⟩
  refine ⟨lineN (by simp), fun t1 ht1 => ?_⟩
  refine ⟨lineN (by simp), fun t2 ht2 => ?_⟩
  refine ⟨lineN (by simp), fun t3 ht3 => ?_⟩
  refine ⟨lineN (by simp), fun t4 ht4 => ?_⟩
  intro td htd
  refine ⟨lineN (by simp), fun O hO => ?_⟩
  refine ⟨_, rfl, .inl ⟨rfl, _, SqL.of upd_same⟩, ?_⟩
  refine ⟨lineN (by simp), fun u0 hu0 => ?_⟩
  refine ⟨lineN (by simp), fun u1 hu1 => ?_⟩
  refine ⟨lineN (by simp), fun u2 hu2 => ?_⟩
  refine ⟨lineN (by simp), fun u3 hu3 => ?_⟩
  refine ⟨lineN (by simp), fun u4 hu4 => ?_⟩
  refine ⟨lineN (by simp), fun L hL => ?_⟩
  have et0 := Same.up (o := .tup []) ht0
  have et1 := Same.up (o := .tup [.str "ann", .str "coin"]) ht1
  have et2 := Same.up (o := .tup [.str "ann", .str "coin", .int 1, .int 1]) ht2
  have et3 := Same.up (o := .tup [.str "Ann", .str "coin", .int 1]) ht3
  have et4 := Same.up (o := .tup [.str "the-bank", .str "coin", .int 1]) ht4
  have etd := Same.up (o := .dK []) htd
  have eO := Same.up (o := .lst [.non, .int 5, .ref t0, .ref t1, .ref t2, .ref t3, .ref t4, .str "abc", .ref td]) hO
  have eu0 := Same.up (o := .tup [.str "ann", .str "the-till", .int 1]) hu0
  have eu1 := Same.up (o := .tup [.str "ann", .str "coin", .bl true]) hu1
  have eu2 := Same.up (o := .tup [.str "ann", .str "coin", .str "1"]) hu2
  have eu3 := Same.up (o := .tup [.str "", .str "coin", .int 1]) hu3
  have eu4 := Same.up (o := .tup [.int 5, .str "coin", .int 1]) hu4
  have eL := Same.up (o := .lst [.ref u0, .ref u1, .ref u2, .ref u3, .ref u4]) hL
  have sO := (((((eu0.trans eu1).trans eu2).trans eu3).trans eu4).trans eL)
  have hO1 := sO _ _ upd_same
  refine ⟨O, L, _, _, rfl, rfl, hO1, upd_same, lineN (by simp), ?_⟩
  have sA := ((((((((((((et0.trans et1).trans et2).trans et3).trans et4).trans etd).trans eO).trans eu0).trans eu1).trans eu2).trans eu3).trans eu4).trans eL)
  have nO : ∀ {b : Addr} {x : HO}, H b = some x → b ≠ O := fun {b x} e z => by
    have h := ((((((et0.trans et1).trans et2).trans et3).trans et4).trans etd)) _ _ e
    cases h.symm.trans ((congrArg _ z).trans hO)
  have nt0 : t0 ≠ O := fun z => by
    have h := ((((et1.trans et2).trans et3).trans et4).trans etd) _ _ (upd_same (o := .tup []))
    cases h.symm.trans ((congrArg _ z).trans hO)
  have ft0 := (((((((((((et1.trans et2).trans et3).trans et4).trans etd).trans eO).trans eu0).trans eu1).trans eu2).trans eu3).trans eu4).trans eL) _ _ upd_same
  have nt1 : t1 ≠ O := fun z => by
    have h := (((et2.trans et3).trans et4).trans etd) _ _ (upd_same (o := .tup [.str "ann", .str "coin"]))
    cases h.symm.trans ((congrArg _ z).trans hO)
  have ft1 := ((((((((((et2.trans et3).trans et4).trans etd).trans eO).trans eu0).trans eu1).trans eu2).trans eu3).trans eu4).trans eL) _ _ upd_same
  have nt2 : t2 ≠ O := fun z => by
    have h := ((et3.trans et4).trans etd) _ _ (upd_same (o := .tup [.str "ann", .str "coin", .int 1, .int 1]))
    cases h.symm.trans ((congrArg _ z).trans hO)
  have ft2 := (((((((((et3.trans et4).trans etd).trans eO).trans eu0).trans eu1).trans eu2).trans eu3).trans eu4).trans eL) _ _ upd_same
  have nt3 : t3 ≠ O := fun z => by
    have h := (et4.trans etd) _ _ (upd_same (o := .tup [.str "Ann", .str "coin", .int 1]))
    cases h.symm.trans ((congrArg _ z).trans hO)
  have ft3 := ((((((((et4.trans etd).trans eO).trans eu0).trans eu1).trans eu2).trans eu3).trans eu4).trans eL) _ _ upd_same
  have nt4 : t4 ≠ O := fun z => by
    have h := etd _ _ (upd_same (o := .tup [.str "the-bank", .str "coin", .int 1]))
    cases h.symm.trans ((congrArg _ z).trans hO)
  have ft4 := (((((((etd.trans eO).trans eu0).trans eu1).trans eu2).trans eu3).trans eu4).trans eL) _ _ upd_same
  have ntd : td ≠ O := fun z => by
    cases (upd_same (a := td) (o := .dK [])).symm.trans ((congrArg _ z).trans hO)
  have ftd := ((((((eO.trans eu0).trans eu1).trans eu2).trans eu3).trans eu4).trans eL) _ _ upd_same
  have nu0 : u0 ≠ O := fun z => by
    cases (upd_same (a := O) (o := .lst [.non, .int 5, .ref t0, .ref t1, .ref t2, .ref t3, .ref t4, .str "abc", .ref td])).symm.trans ((congrArg _ z.symm).trans hu0)
  have fu0 := ((((eu1.trans eu2).trans eu3).trans eu4).trans eL) _ _ upd_same
  have nu1 : u1 ≠ O := fun z => by
    have h := eu0 _ _ (upd_same (o := .lst [.non, .int 5, .ref t0, .ref t1, .ref t2, .ref t3, .ref t4, .str "abc", .ref td]))
    cases h.symm.trans ((congrArg _ z.symm).trans hu1)
  have fu1 := (((eu2.trans eu3).trans eu4).trans eL) _ _ upd_same
  have nu2 : u2 ≠ O := fun z => by
    have h := (eu0.trans eu1) _ _ (upd_same (o := .lst [.non, .int 5, .ref t0, .ref t1, .ref t2, .ref t3, .ref t4, .str "abc", .ref td]))
    cases h.symm.trans ((congrArg _ z.symm).trans hu2)
  have fu2 := ((eu3.trans eu4).trans eL) _ _ upd_same
  have nu3 : u3 ≠ O := fun z => by
    have h := ((eu0.trans eu1).trans eu2) _ _ (upd_same (o := .lst [.non, .int 5, .ref t0, .ref t1, .ref t2, .ref t3, .ref t4, .str "abc", .ref td]))
    cases h.symm.trans ((congrArg _ z.symm).trans hu3)
  have fu3 := (eu4.trans eL) _ _ upd_same
  have nu4 : u4 ≠ O := fun z => by
    have h := (((eu0.trans eu1).trans eu2).trans eu3) _ _ (upd_same (o := .lst [.non, .int 5, .ref t0, .ref t1, .ref t2, .ref t3, .ref t4, .str "abc", .ref td]))
    cases h.symm.trans ((congrArg _ z.symm).trans hu4)
  have fu4 := eL _ _ upd_same
  generalize hG : upd _ O _ = HG
  have gt0 : HG t0 = some (.tup []) := by rw [← hG, upd_ne nt0]; exact ft0
  have gt1 : HG t1 = some (.tup [.str "ann", .str "coin"]) := by rw [← hG, upd_ne nt1]; exact ft1
  have gt2 : HG t2 = some (.tup [.str "ann", .str "coin", .int 1, .int 1]) := by rw [← hG, upd_ne nt2]; exact ft2
  have gt3 : HG t3 = some (.tup [.str "Ann", .str "coin", .int 1]) := by rw [← hG, upd_ne nt3]; exact ft3
  have gt4 : HG t4 = some (.tup [.str "the-bank", .str "coin", .int 1]) := by rw [← hG, upd_ne nt4]; exact ft4
  have gtd : HG td = some (.dK []) := by rw [← hG, upd_ne ntd]; exact ftd
  have gu0 : HG u0 = some (.tup [.str "ann", .str "the-till", .int 1]) := by rw [← hG, upd_ne nu0]; exact fu0
  have gu1 : HG u1 = some (.tup [.str "ann", .str "coin", .bl true]) := by rw [← hG, upd_ne nu1]; exact fu1
  have gu2 : HG u2 = some (.tup [.str "ann", .str "coin", .str "1"]) := by rw [← hG, upd_ne nu2]; exact fu2
  have gu3 : HG u3 = some (.tup [.str "", .str "coin", .int 1]) := by rw [← hG, upd_ne nu3]; exact fu3
  have gu4 : HG u4 = some (.tup [.int 5, .str "coin", .int 1]) := by rw [← hG, upd_ne nu4]; exact fu4
  have sG : Same H HG := fun b x e => by rw [← hG, upd_ne (nO e)]; exact sA _ _ e
  have gO : HG O = some (.lst ([.non, .int 5, .ref t0, .ref t1, .ref t2, .ref t3, .ref t4, .str "abc", .ref td] ++ [.ref u0, .ref u1, .ref u2, .ref u3, .ref u4])) := by rw [← hG]; exact upd_same
  have odd0 : Is HG (.ref O) (.lst oddD) := .lst gO (.cons (.non) (.cons (.int _) (.cons ((.tup gt0 .nil (by decide))) (.cons ((.tup gt1 (.cons (.str _ (by decide)) (.cons (.str _ (by decide)) .nil)) (by decide))) (.cons ((.tup gt2 (.cons (.str _ (by decide)) (.cons (.str _ (by decide)) (.cons (.int _) (.cons (.int _) .nil)))) (by decide))) (.cons ((.tup gt3 (.cons (.str _ (by decide)) (.cons (.str _ (by decide)) (.cons (.int _) .nil))) (by decide))) (.cons ((.tup gt4 (.cons (.str _ (by decide)) (.cons (.str _ (by decide)) (.cons (.int _) .nil))) (by decide))) (.cons (.str _ (by decide)) (.cons (.dic gtd) (.cons ((.tup gu0 (.cons (.str _ (by decide)) (.cons (.str _ (by decide)) (.cons (.int _) .nil))) (by decide))) (.cons ((.tup gu1 (.cons (.str _ (by decide)) (.cons (.str _ (by decide)) (.cons (.bl _) .nil))) (by decide))) (.cons ((.tup gu2 (.cons (.str _ (by decide)) (.cons (.str _ (by decide)) (.cons (.str _ (by decide)) .nil))) (by decide))) (.cons ((.tup gu3 (.cons (.str _ (by decide)) (.cons (.str _ (by decide)) (.cons (.int _) .nil))) (by decide))) (.cons ((.tup gu4 (.cons (.int _) (.cons (.str _ (by decide)) (.cons (.int _) .nil))) (by decide))) .nil)))))))))))))) (by simp)
  have tab0 : Tabs [(Pt, "law" ++ ".<locals>." ++ "<lambda>")] HG := fun p hp => by
    rw [List.mem_singleton.mp hp]
    exact TabS.nil (sG _ _ ht)
  have sql0 := sql_mono sG hs
  refine ⟨_, rfl, l, _, rfl, .inl sql0, _, _, rfl, _, _, rfl, rfl, _, rfl, ?_, ?_, ?_⟩
  rotate_left 2
  · refine for_range (LawInv K l O Pt ns) ⟨⟨_, _, _, _, _, _, _, _, _, _, _, _, _, _, rfl⟩, odd0, sql0, tab0⟩ ?_ ?_
    · rintro i σ H1 hi ⟨⟨v2, v3, v4, v5, v6, v7, v8, v9, v10, v11, v12, v13, v14, v15, rfl⟩, odd1, sql1, tab1⟩
      refine ⟨_, rfl, _, rfl, l, _, ns, rfl, sql1, by omega, fun a o ha ho => ?_⟩
      have sN := rm_new (o := o) ha
      refine ⟨_, rfl, a, rfl, ⟨o, upd_same, ho⟩, fun rl H2 rs d2 sR irows lr gr => ?_⟩
      have s2 := sN.trans sR
      dsimp only
      refine cut_if (fun σ2 H2 => ∃ (rl : Addr) (rs : List Rw), σ2 = [some (.ref l), some (.ref O), some (.int (0 + (i : Nat))), some (.ref a), some (.ref rl), v5, v6, v7, v8, v9, v10, v11, v12, v13, v14, v15] ∧ DrawsAt H2 a ∧ Same H1 (rm H2 a) ∧ Is (rm H2 a) (.ref rl) (.lst (rs.map rowTr)) ∧ rs.length ≤ 16 ∧ ∀ r ∈ rs, good r) ?_ fun rest => ?_
      rotate_left
      · refine ⟨_, rfl, a, _, rfl, d2, by decide, by decide, fun r2 o2 _ _ ho2 => ?_⟩
        have d3 : DrawsAt (upd H2 a o2) a := ⟨o2, upd_same, ho2⟩
        refine ⟨rfl, _, rfl, iteB ?_ ?_⟩
        · refine ⟨_, rfl, _, rs, rfl, irows.mono (by rw [← rm_upd (o := o2)]; exact rm_same), gr, lr, fun H3 p rs' s3 hp ip g3 l3 => rest _ _ ⟨p, rs', rfl, d3.up s3, ?_, ?_, l3, g3⟩⟩
          · have h := Same.rm (a := a) s3
            rw [rm_upd] at h
            exact s2.trans h
          · exact ip.off (d3.up s3) (noD_rows rs')
        · refine rest _ _ ⟨rl, rs, rfl, d3, by rw [rm_upd]; exact s2, by rw [rm_upd]; exact irows, by omega, gr⟩
      · rintro _ H2 ⟨rl, rs, rfl, d2, s2, irows, lr, gr⟩
        have irows2 : Is H2 (.ref rl) (.lst (rs.map rowTr)) := irows.mono rm_same
        obtain ⟨_, xs, e0, hrl, rv, xl, _, sm⟩ := rows_at irows2
        cases e0
        refine ⟨_, rfl, rl, rfl, ⟨xs, SqL.of hrl⟩, fun D hD => lc_genD walk_list walk_at rs (fun _ => true) (by omega) (sz (m := 60) (by omega)) hD (fun H' s' => SqL.of (s' _ _ hrl))
          (fun H' r y => ∃ t, y = .ref t ∧ t ≠ D ∧ H' t = some (.lst [.str r.1.1, .str r.1.2, .int r.2])) (fun _ _ _ _ e ⟨q, e1, n, e2⟩ => ⟨q, e1, n, e _ _ e2⟩) (fun _ _ _ _ _ e ⟨q, e1, n, e2⟩ => ⟨q, e1, n, by rw [upd_ne n]; exact e2⟩) (fun j x r H3 A B hj hx hk hD3 s3 kA kB => ?_) (fun H3 acc s3 h3 pr => ?_)⟩
        · obtain ⟨r', t, hk', rfl, ht⟩ := row_get (rv.mono s3) hx
          rw [hk] at hk'
          obtain rfl : r = r' := Option.some.inj hk'
          refine ⟨rfl, ?_⟩
          unfold tYes
          simp only [if_true]
          refine ⟨_, rfl, t, _, rfl, .inr (SqT.of ht), fun t2 ht2 => ?_⟩
          exact kA rfl _ _ (Same.up ht2) ⟨t2, rfl, fun z => hD3 (by rw [← z]; exact ht2), upd_same⟩
        · have fz : rs.filter (fun _ => true) = rs := List.filter_eq_self.mpr fun _ _ => rfl
          rw [fz] at pr
          have al : acc.length = rs.length := Paired.length pr
          have ihand : Is H3 (.ref D) (.lst (rs.map rowLd)) := .lst h3 (isA_hand (Paired.imp' (fun y r ⟨t, e1, _, e2⟩ => ⟨t, e1, e2⟩) pr) gr) (by omega)
          intro S hS
          have sS := Same.up (o := .dK []) hS
          have hrl3 := s3 _ _ hrl
          refine ⟨_, rfl, rl, rfl, ⟨xs, SqL.of (sS _ _ hrl3)⟩, for_it walk_list (fun j σ H' => (∃ w11 w13 w14, σ = [some (.ref l), some (.ref O), some (.int (0 + (i : Nat))), some (.ref a), some (.ref rl), some (.ref D), some (.ref S), v7, v8, v9, v10, w11, v12, w13, w14, v15]) ∧ Same H3 H' ∧ H' S = some (.dK (sumS (rs.take j)))) ⟨⟨_, _, _, rfl⟩, sS, by simp [sumS, sums, upd_same]⟩ (fun j σ H' hj p => SqL.of (p.2.1 _ _ hrl3)) ?_ ?_⟩
          · rintro j x σ H4 H5 hj ⟨⟨w11, w13, w14, rfl⟩, s4, hd⟩ ⟨rfl, hx⟩
            obtain ⟨r, b, hr2, rfl, hb3⟩ := row_get (rv.mono (s3.trans s4)) hx
            have I0 := sumS_ints (rs.take j)
            refine ⟨b, _, rfl, SqT.of hb3, rfl, _, _, rfl, _, _, rfl, _, _, rfl, rfl, ?_⟩
            refine ⟨_, rfl, S, rfl, .inl ⟨_, .inl hd⟩, _, rfl, _, DGet.k (k := Sum.inr r.1.2) hd, _, rfl, ?_⟩
            rw [I0.get]
            refine ⟨_, _, rfl, rfl, _, rfl, _, rfl, S, _, rfl, DPut.k (k := Sum.inr r.1.2) hd (sz (m := 60) ?_), ⟨_, _, _, rfl⟩, Same.set s4 hS, ?_⟩
            · have := sumS_len (rs.take j)
              have := take_len rs j
              omega
            · rw [upd_same, sumS_snoc hr2]
              rfl
          · rintro σ H4 ⟨⟨w11, w13, w14, rfl⟩, s4, hd⟩
            have hd : H4 S = some (.dK (sumS rs)) := by rw [hd, xl, List.take_length]
            have I0 := sumS_ints rs
            have sl := sumS_len rs
            refine ⟨S, _, hd, trivial, fun od => ?_⟩
            refine ⟨_, rfl, S, od, rfl, .inl ⟨_, upd_same, fun D2 hD2 => lc_pure walk_keys (At := fun i x => ∃ k v, (sumS rs)[i]? = some (k, v) ∧ x = kV k) (fun _ _ _ _ y => y) (((sumS rs).map fun e => decide (e.2 = V.int 0)).map V.bl) (by simp) (sz (m := 60) (by omega)) hD2 (fun H' s' => s' _ _ upd_same) (fun j x y H5 R hj hx hy s5 k => ?_) (fun H5 s5 h5 => ?_)⟩⟩
            · obtain ⟨kk, v, e1, rfl⟩ := hx
              have m := List.mem_of_getElem? e1
              obtain ⟨⟨z, ek⟩, n, en⟩ := I0.ent _ m
              have ek : kk = Sum.inr z := ek
              have en : v = .int n := en
              subst ek en
              have v0 : valV (sumS rs) (Sum.inr z) = some (.int n) := val_of I0.nd m
              rw [List.getElem?_map, List.getElem?_map, e1] at hy
              obtain rfl : V.bl (decide (V.int n = V.int 0)) = y := Option.some.inj hy
              exact ⟨_, rfl, _, rfl, S, _, rfl, .inl ⟨_, Sum.inr z, .inr ⟨od, s5 _ _ upd_same⟩, rfl, v0.symm⟩, rfl, k _ (Same.refl _)⟩
            · have nD2 : D2 ≠ S := fun z => by rw [z, upd_same] at hD2; cases hD2
              refine ⟨s5 _ _ upd_same, D2, (sumS rs).map fun e => decide (e.2 = V.int 0), rfl, SqL.of (by rw [upd_ne nD2]; exact h5), ?_⟩
              have s6 : Same H3 (upd H5 S (.dK (sumS rs))) := fun b o e => by
                have nb : b ≠ S := fun z => by rw [z, hS] at e; cases e
                rw [upd_ne nb]
                refine s5 _ _ ?_
                rw [upd_ne nb]
                exact s4 _ _ e
              have sB : Same H2 (upd H5 S (.dK (sumS rs))) := s3.trans s6
              generalize upd H5 S (.dK (sumS rs)) = HB at s6 sB
              have ihB := ihand.mono s6
              have irB := irows2.mono sB
              have dB := d2.up sB
              have nb0 : firstBad (rs.map rowLd) 0 = none := firstBad_none _ _ fun d m => by
                obtain ⟨r, mr, rfl⟩ := List.mem_map.mp m
                exact ok_ld (gr r mr)
              have fl0 : ∀ x ∈ rs.map rowLd, rowFlat x := fun x m => by
                obtain ⟨r, _, rfl⟩ := List.mem_map.mp m
                exact fl_ld r
              refine ⟨2, rfl, by decide, by decide, for_range (fun j σ H' => (∃ w8 w12, σ = [some (.ref l), some (.ref O), some (.int (0 + (i : Nat))), some (.ref a), some (.ref rl), some (.ref D), some (.ref S), some (.bl (bal (sumS rs))), w8, v9, v10, w11, w12, w13, w14, v15]) ∧ Same HB H') ⟨⟨_, _, rfl⟩, Same.refl _⟩ ?_ ?_⟩
              · rintro j σ H6 hj ⟨⟨w8, w12, rfl⟩, s7⟩
                refine ⟨_, rfl, _, .lst (rs.map rowLd), rfl, ihB.mono s7, fun z e x m => by cases e; exact fl0 x m, fun _ => ⟨rs, rfl, fun H7 fl s8 hfl nfl it => ?_⟩, fun j e => by rw [show badAt (.lst (rs.map rowLd)) = none from nb0] at e; cases e⟩
                have it0 := it
                obtain ⟨accf, hf7, lf⟩ : ∃ accf, H7 fl = some (.lst accf) ∧ accf.length ≤ 60 := by
                  cases it0 with
                  | lst h ia z => exact ⟨_, h, z⟩
                obtain ⟨xsH, hD7, iaH, zH⟩ : ∃ xsH, H7 D = some (.lst xsH) ∧ IsA H7 xsH (rs.map rowLd) ∧ xsH.length ≤ 60 := by
                  cases ihB with
                  | lst h ia z => exact ⟨_, s8 _ _ (s7 _ _ h), (ia.mono s7).mono s8, z⟩
                refine ⟨_, rfl, _, rfl, D, xsH, rfl, .inl ⟨SqL.of hD7, fun tl htl => ?_⟩⟩
                have q1 := Same.up (o := .tup xsH) htl
                refine ⟨_, .tup (rs.map rowLd), rfl, .tup upd_same (iaH.mono q1) zH, fun z e x m => by cases e; exact fl0 x m, fun _ => ⟨rs, rfl, fun H8 s9 => ?_⟩, fun j e => by rw [show badAt (.tup (rs.map rowLd)) = none from nb0] at e; cases e⟩
                refine ⟨lineN (by simp), fun f1 hf1 => ?_⟩
                have q2 := Same.up (o := .lst [.ref fl, .bl (bal (sumS rs))]) hf1
                refine ⟨_, rfl, _, rs, rfl, ((((irB.mono s7).mono s8).mono q1).mono s9).mono q2, fun H9 tp s10 htp itp => ?_⟩
                refine ⟨_, rfl, lineN (by simp), fun f2 hf2 => ?_⟩
                have q3 := Same.up (o := .lst [.ref tp, .bl (bal (sumS rs))]) hf2
                have q4 : Same H7 _ := (q1.trans s9).trans (q2.trans (s10.trans q3))
                refine ⟨_, _, .lst [.lst (toldOf (sumT rs)), .bl (bal (sumS rs))], rfl, .lst (q3 _ _ (s10 _ _ upd_same)) (.cons (it.mono q4) (.cons (.bl _) .nil)) (by simp), .lst upd_same (.cons (itp.mono q3) (.cons (.bl _) .nil)) (by simp), dep_told _ _, fun H10 s11 => ?_⟩
                have q5 := q4.trans s11
                refine ⟨_, rfl, iteF ?_⟩
                refine ⟨_, rfl, .inl ⟨rfl, _, SqL.of (q5 _ _ hf7)⟩, fl, _, _, rfl, rfl, q5 _ _ hf7, sz (m := 60) lf, ⟨_, _, rfl⟩, ?_⟩
                exact Same.set (s7.trans (s8.trans q5)) (s7.free hfl)
              · rintro σ H6 ⟨⟨w8, w12, rfl⟩, s7⟩
                have hrl6 : H6 rl = some (.lst xs) := s7 _ _ (sB _ _ hrl)
                have rv6 := (rv.mono sB).mono s7
                refine ⟨_, rfl, _, rfl, rl, rfl, ⟨xs, SqL.of hrl6⟩, fun D3 hD3 => lc_genD walk_list walk_at rs (fun _ => true) (by omega) (sz (m := 60) (by omega)) hD3 (fun H' s' => SqL.of (s' _ _ hrl6))
                  (fun H' r y => ∃ t, y = .ref t ∧ t ≠ D3 ∧ H' t = some (.lst [.str r.1.1, .str r.1.2, .int r.2])) (fun _ _ _ _ e ⟨q, e1, n, e2⟩ => ⟨q, e1, n, e _ _ e2⟩) (fun _ _ _ _ _ e ⟨q, e1, n, e2⟩ => ⟨q, e1, n, by rw [upd_ne n]; exact e2⟩) (fun j x r H7 A B hj hx hk hD7 s8 kA kB => ?_) (fun H7 acc s8 h7 pr => ?_)⟩
                · obtain ⟨r', t, hk', rfl, ht⟩ := row_get (rv6.mono s8) hx
                  rw [hk] at hk'
                  obtain rfl : r = r' := Option.some.inj hk'
                  refine ⟨rfl, ?_⟩
                  unfold tYes
                  simp only [if_true]
                  refine ⟨_, rfl, t, _, rfl, .inr (SqT.of ht), fun t2 ht2 => ?_⟩
                  exact kA rfl _ _ (Same.up ht2) ⟨t2, rfl, fun z => hD7 (by rw [← z]; exact ht2), upd_same⟩
                · have fz : rs.filter (fun _ => true) = rs := List.filter_eq_self.mpr fun _ _ => rfl
                  rw [fz] at pr
                  have al : acc.length = rs.length := Paired.length pr
                  have ih2 : Is H7 (.ref D3) (.lst (rs.map rowLd)) := .lst h7 (isA_hand (Paired.imp' (fun y r ⟨t, e1, _, e2⟩ => ⟨t, e1, e2⟩) pr) gr) (by omega)
                  refine ⟨_, _, dp_hand ((ihB.mono s7).mono s8), dp_hand ih2, hand_shaped gr, hand_shaped gr, ?_⟩
                  rw [hand_eqv gr]
                  refine ⟨_, rfl, iteF ?_⟩
                  have sC := sB.trans (s7.trans s8)
                  have dC := d2.up sC
                  have sC2 : Same H1 (rm H7 a) := s2.trans (Same.rm sC)
                  have irC : Is (rm H7 a) (.ref rl) (.lst (rs.map rowTr)) := irows.mono (Same.rm sC)
                  have hrl7 := s8 _ _ hrl6
                  refine ⟨_, rfl, _, rfl, rl, _, rfl, .inl (SqL.of hrl7), _, _, rfl, rfl, a, _, rfl, dC, by omega, by omega, fun at0 o3 a0 a1 ho3 => ?_⟩
                  obtain ⟨k, rfl⟩ : ∃ k : Nat, at0 = (k : Int) := ⟨at0.toNat, by omega⟩
                  have hkl : k ≤ rs.length := by omega
                  have hrl8 : (upd H7 a o3) rl = some (.lst xs) := by
                    rw [upd_ne fun z => ?_]
                    · exact hrl7
                    · cases irC with
                      | lst h _ _ => rw [z, rm_at] at h; cases h
                  have d8 : DrawsAt (upd H7 a o3) a := ⟨o3, upd_same, ho3⟩
                  have odd8 : Is (rm (upd H7 a o3) a) (.ref O) (.lst oddD) := by rw [rm_upd]; exact odd1.mono sC2
                  have sql8 : SqL K (rm (upd H7 a o3) a) l (ns.map V.int) := by rw [rm_upd]; exact sql_mono sC2 sql1
                  have tab8 : Tabs [(Pt, "law" ++ ".<locals>." ++ "<lambda>")] (rm (upd H7 a o3) a) := by rw [rm_upd]; exact tab1.ext sC2
                  have ir8 : Is (rm (upd H7 a o3) a) (.ref rl) (.lst (rs.map rowTr)) := by rw [rm_upd]; exact irC
                  generalize upd H7 a o3 = H8 at hrl8 d8 odd8 sql8 tab8 ir8
                  have D0 : Dr a (rm H8 a) H8 := ⟨d8, Same.refl _⟩
                  generalize hM : rm H8 a = M0 at odd8 sql8 tab8 ir8 D0
                  have hrlM : M0 rl = some (.lst xs) := by
                    obtain ⟨_, xs', e, h, _⟩ := rows_at ir8
                    cases e
                    have h2 := D0.get h
                    rw [hrl8] at h2
                    cases h2
                    exact h
                  obtain ⟨xsO, hOM, iaO, zO⟩ : ∃ xsO, M0 O = some (.lst xsO) ∧ IsA M0 xsO oddD ∧ xsO.length ≤ 60 := by
                    cases odd8 with
                    | lst h ia z => exact ⟨_, h, ia, z⟩
                  have lO : xsO.length = 14 := iaO.len
                  have xl2 : xs.length = rs.length := xl
                  have xk : k ≤ xs.length := by omega
                  have lt : (xs.take k).length ≤ 60 := by rw [List.length_take]; omega
                  have ld : (xs.drop k).length ≤ 60 := by rw [List.length_drop]; omega
                  refine ⟨_, rfl, _, rfl, _, rfl, rl, xs, rfl, SqL.of (D0.get hrlM), fun p1 hp1 => ?_⟩
                  rw [cut_to xs xk]
                  obtain ⟨D1, m1⟩ := D0.lay (o := .lst (xs.take k)) hp1
                  refine ⟨_, rfl, _, rfl, a, O, _, rfl, D1.d, D1.ne (m1 _ _ hOM), .inl (SqL.of (D1.get (m1 _ _ hOM))), by omega, by omega, fun j1 x1 o4 hx1 ho4 => ?_⟩
                  have D2 := D1.pick ho4
                  refine ⟨lineN (by simp), fun L1 hL1 => ?_⟩
                  obtain ⟨D3, m3⟩ := D2.lay (o := .lst [x1]) hL1
                  refine ⟨p1, L1, _, _, rfl, rfl, D3.get (m3 _ _ upd_same), D3.get upd_same, lineN (by simp; omega), fun c1 hc1 => ?_⟩
                  obtain ⟨D4, m4⟩ := D3.lay (o := .lst (xs.take k ++ [x1])) hc1
                  have hrl4 := m4 _ _ (m3 _ _ (m1 _ _ hrlM))
                  refine ⟨_, rfl, _, rfl, _, rfl, rl, xs, rfl, SqL.of (D4.get hrl4), fun p2 hp2 => ?_⟩
                  rw [cut_from xs xk]
                  obtain ⟨D5, m5⟩ := D4.lay (o := .lst (xs.drop k)) hp2
                  refine ⟨c1, p2, _, _, rfl, rfl, D5.get (m5 _ _ upd_same), D5.get upd_same, lineN (by simp; omega), fun c2 hc2 => ?_⟩
                  obtain ⟨D6, m6⟩ := D5.lay (o := .lst (xs.take k ++ [x1] ++ xs.drop k)) hc2
                  have mA := (m1.trans m3).trans ((m4.trans m5).trans m6)
                  refine ⟨_, rfl, _, rfl, a, O, _, rfl, D6.d, D6.ne (mA _ _ hOM), .inl (SqL.of (D6.get (mA _ _ hOM))), by omega, by omega, fun j2 x2 o5 hx2 ho5 => ?_⟩
                  have D7 := D6.pick ho5
                  refine ⟨lineN (by simp), fun L2 hL2 => ?_⟩
                  obtain ⟨D8, m8⟩ := D7.lay (o := .lst [x2]) hL2
                  refine ⟨c2, L2, _, _, rfl, rfl, D8.get (m8 _ _ upd_same), D8.get upd_same, lineN (by simp; omega), fun bd hbd => ?_⟩
                  obtain ⟨D9, m9⟩ := D8.lay (o := .lst (xs.take k ++ [x1] ++ xs.drop k ++ [x2])) hbd
                  have mB := mA.trans (m8.trans m9)
                  obtain ⟨y1, ey1, iy1⟩ := iaO.get hx1
                  obtain ⟨y2, ey2, iy2⟩ := iaO.get hx2
                  have my1 := List.mem_of_getElem? ey1
                  have my2 := List.mem_of_getElem? ey2
                  obtain ⟨M9, D9, mB, hbd9⟩ : ∃ M9, Dr a M9 _ ∧ Same M0 M9 ∧ M9 bd = some (.lst (xs.take k ++ [x1] ++ xs.drop k ++ [x2])) := ⟨_, D9, mB, upd_same⟩
                  have irM : IsA M0 xs (rs.map rowTr) := by
                    obtain ⟨_, xs', e, h, ia, _⟩ := rows_at ir8
                    cases e
                    rw [hrlM] at h
                    cases h
                    exact ia
                  have ibd : Is M9 (.ref bd) (.lst (badDs rs k y1 y2)) := by
                    have i0 := irM.mono mB
                    refine .lst hbd9 ?_ (by simp; omega)
                    exact IsA.app (IsA.app (IsA.app (i0.take k) (.cons (iy1.mono mB) .nil)) (i0.drop k)) (.cons (iy2.mono mB) .nil)
                  refine ⟨_, rfl, fun td2 htd2 => ⟨lineN (by simp), fun TL hTL => ?_⟩⟩
                  obtain ⟨D10, m10⟩ := D9.lay (o := .dK []) htd2
                  obtain ⟨D11, m11⟩ := D10.lay (o := .lst [.non, .int 5, .str "rows", .ref td2, .bl true]) hTL
                  refine ⟨a, TL, _, rfl, D11.d, D11.ne upd_same, .inl (SqL.of (D11.get upd_same)), by simp, by simp, fun j3 x3 o6 hx3 ho6 => ?_⟩
                  have D12 := D11.pick ho6
                  have mC := m10.trans m11
                  obtain ⟨y3, my3, iy3⟩ : ∃ y3 ∈ thingsD, Is _ x3 y3 := by
                    have ia : IsA (upd (upd M9 td2 (.dK [])) TL (.lst [.non, .int 5, .str "rows", .ref td2, .bl true])) [.non, .int 5, .str "rows", .ref td2, .bl true] thingsD := .cons .non (.cons (.int _) (.cons (.str _ (by decide)) (.cons (.dic (m11 _ _ upd_same)) (.cons (.bl _) .nil))))
                    obtain ⟨y, e1, i1⟩ := ia.get hx3
                    exact ⟨y, List.mem_of_getElem? e1, i1⟩
                  obtain ⟨M12, D12, mC, iy3⟩ : ∃ M12, Dr a M12 _ ∧ Same M9 M12 ∧ Is M12 x3 y3 := ⟨_, D12, mC, iy3⟩
                  have ibd2 := (ibd.mono mC).mono D12.up
                  have iy32 := iy3.mono D12.up
                  have oddT := ((odd8.mono mB).mono mC).mono D12.up
                  have sqlT := sql_mono D12.up (sql_mono mC (sql_mono mB sql8))
                  have tabT : Tabs [(Pt, "law" ++ ".<locals>." ++ "<lambda>")] _ := ((tab8.ext mB).ext mC).ext D12.up
                  generalize upd _ a o6 = HT at ibd2 iy32 oddT sqlT tabT
                  have bk : badAt (.lst (badDs rs k y1 y2)) = some k := bad_at gr hkl my1
                  have bf : ∀ z, seqOf (.lst (badDs rs k y1 y2)) = some z → ∀ x ∈ z, rowFlat x := fun z e x m => by cases e; exact bad_flat my1 my2 x m
                  obtain ⟨b3, s3'⟩ := things_bad y3 my3
                  have tf : ∀ z, seqOf y3 = some z → ∀ x ∈ z, rowFlat x := fun z e => by rw [s3'] at e; cases e
                  -- the first
                  refine ⟨tabT, fun G1 e1 u1 => ?_⟩
                  refine ⟨_, rfl, _, _, rfl, ibd2.ext e1, bf, fun z => by (rw [bk] at z; cases z), fun j ej G2 x1' s1 hx1' => ?_⟩
                  obtain rfl : k = j := by rw [bk] at ej; exact Option.some.inj ej
                  refine ⟨by rw [eC], x1', _, rfl, upd_same, fun p1' hp1' => ⟨lineN (by simp), fun f hf => ?_⟩⟩
                  have F1 := Fd.first (n := (k : Nat)) e1 u1 (s1.trans ((Same.up hx1').trans (Same.up hp1'))) upd_same hf
                  refine ⟨_, rfl, .inl ⟨rfl, _, SqL.of F1.at_⟩, F1.t, fun Ga2 ea2 ua2 => ?_⟩
                  refine ⟨_, rfl, _, _, rfl, (ibd2.ext F1.e).ext ea2, bf, fun z => by (rw [bk] at z; cases z), fun j ej Gb2 x2' s2 hx2' => ?_⟩
                  obtain rfl : k = j := by rw [bk] at ej; exact Option.some.inj ej
                  refine ⟨by rw [eC], x2', _, rfl, upd_same, fun p2' hp2' => ?_⟩
                  obtain ⟨hf2, F2⟩ := F1.step (n := (k : Nat)) ea2 ua2 (s2.trans ((Same.up hx2').trans (Same.up hp2'))) upd_same
                  refine ⟨f, _, _, rfl, rfl, hf2, sz (m := 60) (by simp), ?_⟩
                  refine ⟨_, rfl, .inl ⟨rfl, _, SqL.of F2.at_⟩, F2.t, fun Ga3 ea3 ua3 => ?_⟩
                  refine ⟨_, rfl, _, _, rfl, (iy32.ext F2.e).ext ea3, tf, fun z => by (rw [b3] at z; cases z), fun j ej Gb3 x3' s3 hx3' => ?_⟩
                  obtain rfl : 0 = j := by rw [b3] at ej; exact Option.some.inj ej
                  refine ⟨by rw [eC], x3', _, rfl, upd_same, fun p3' hp3' => ?_⟩
                  obtain ⟨hf3, F3⟩ := F2.step (n := ((0 : Nat) : Int)) ea3 ua3 (s3.trans ((Same.up hx3').trans (Same.up hp3'))) upd_same
                  refine ⟨f, _, _, rfl, rfl, hf3, sz (m := 60) (by simp), ?_⟩
                  refine ⟨_, rfl, .inl ⟨rfl, _, SqL.of F3.at_⟩, F3.t, fun Ga4 ea4 ua4 => ?_⟩
                  refine ⟨_, rfl, _, _, rfl, (iy32.ext F3.e).ext ea4, tf, fun z => by (rw [b3] at z; cases z), fun j ej Gb4 x4' s4 hx4' => ?_⟩
                  obtain rfl : 0 = j := by rw [b3] at ej; exact Option.some.inj ej
                  refine ⟨by rw [eC], x4', _, rfl, upd_same, fun p4' hp4' => ?_⟩
                  obtain ⟨hf4, F4⟩ := F3.step (n := ((0 : Nat) : Int)) ea4 ua4 (s4.trans ((Same.up hx4').trans (Same.up hp4'))) upd_same
                  refine ⟨f, _, _, rfl, rfl, hf4, sz (m := 60) (by simp), ?_⟩
                  have ff : Is _ (.ref f) (.lst [rowD (k : Nat), rowD (k : Nat), rowD 0, rowD 0]) := .lst F4.at_ (isA_fd F4.els) (by simp)
                  have oddF := oddT.ext F4.e
                  have sqlF := sql_ext F4.e sqlT
                  have tabF := F4.t
                  refine ⟨_, rfl, _, rfl, two_line, fun tA hA => ⟨lineN (by simp), fun lA hlA => ?_⟩⟩
                  have g1 := (Same.up (o := .tup [.str "row", .int (k : Nat)]) hA).trans (Same.up (o := .lst [.ref tA]) hlA)
                  refine ⟨lA, 2, _, rfl, rfl, upd_same, by decide, by decide, lineN (by simp), fun rA hrA => ?_⟩
                  have g2 := Same.up (o := .lst (List.replicate (Int.toNat 2) [V.ref tA]).flatten) hrA
                  refine ⟨two_line, fun tB hB => ⟨lineN (by simp), fun lB hlB => ?_⟩⟩
                  have g3 := (Same.up (o := .tup [.str "row", .int 0]) hB).trans (Same.up (o := .lst [.ref tB]) hlB)
                  refine ⟨lB, 2, _, rfl, rfl, upd_same, by decide, by decide, lineN (by simp), fun rB hrB => ?_⟩
                  have g4 := Same.up (o := .lst (List.replicate (Int.toNat 2) [V.ref tB]).flatten) hrB
                  refine ⟨rA, rB, _, _, rfl, rfl, g4 _ _ (g3 _ _ upd_same), upd_same, lineN (by simp), fun cc hcc => ?_⟩
                  have g5 := Same.up (o := .lst ((List.replicate (Int.toNat 2) [V.ref tA]).flatten ++ (List.replicate (Int.toNat 2) [V.ref tB]).flatten)) hcc
                  have gA := (g1.trans g2).trans (g3.trans (g4.trans g5))
                  have tAt := (Same.up hlA |>.trans (g2.trans (g3.trans (g4.trans g5)))) _ _ (upd_same (a := tA) (o := .tup [.str "row", .int (k : Nat)]))
                  have tBt := ((Same.up (o := .lst [.ref tB]) hlB).trans (g4.trans g5)) _ _ (upd_same (a := tB) (o := .tup [.str "row", .int 0]))
                  have rk : ∀ {G : Hp} {t : Addr} {n : Int}, G t = some (.tup [.str "row", .int n]) → Is G (.ref t) (rowD n) := fun h => .tup h (.cons (.str _ (by decide)) (.cons (.int _) .nil)) (show (2 : Nat) ≤ 60 by decide)
                  refine ⟨_, _, .lst [rowD (k : Nat), rowD (k : Nat), rowD 0, rowD 0], rfl, ff.mono gA, .lst upd_same (.cons (rk tAt) (.cons (rk tAt) (.cons (rk tBt) (.cons (rk tBt) .nil)))) (by simp), dep_rows _, fun HE sE => ?_⟩
                  have gE := gA.trans sE
                  refine ⟨_, rfl, iteF ⟨⟨_, _, _, _, _, _, _, _, _, _, _, _, _, _, rfl⟩, oddF.mono gE, sql_mono gE sqlF, tabF.ext gE⟩⟩
    · rintro σ H1 _
      exact q _
  · split <;> omega
  · split <;> omega
end
end K25

set_option Elab.async false
set_option linter.all false
set_option maxRecDepth 100000
set_option maxHeartbeats 0
namespace K25
open PySem PySem.Spec PyProof.Rows L2 Sr
/-! ### the head -/
def dd (x : Str) (i : Nat) : He.DefD := ⟨(x, none), x, x, defArgs (top i), defBody (top i), defScope (top i), [], []⟩
def dm (c m qual : Str) (st : Stmt) : He.DefD := ⟨(c, some m), m, qual, defArgs st, defBody st, defScope st, [], []⟩
def fn : List He.DefD := [dd "is_integer" 3, dd "is_list" 4, dd "is_name" 5, dd "told_rows" 12, dd "is_balanced" 13, dd "is_account" 14, dd "_is_row" 15, dd "_check_rows" 16, dd "_law_source" 18, dd "_law_draw" 19, dd "_law_pick" 20, dd "_law_same" 21, dd "_law_some_rows" 22, dd "_law_sums" 23, dd "_law_told" 24, dd "_law_balanced" 25, dd "_law_tried" 26, dd "law" 27, dm "BadRow" "__init__" "BadRow.__init__" s_BadRow___init__]
def fa : List He.Fa := [.glo "is_integer", .glo "is_list", .glo "is_name", .glo "told_rows", .glo "is_balanced", .glo "is_account", .glo "_is_row", .glo "_check_rows", .glo "_law_source", .glo "_law_draw", .glo "_law_pick", .glo "_law_same", .glo "_law_some_rows", .glo "_law_sums", .glo "_law_told", .glo "_law_balanced", .glo "_law_tried", .glo "law", .free "len", .free "isinstance", .free "all", .free "range", .free "sorted", .free "list", .free "tuple", .free "min", .free "int", .free "str", .free "bool", .free "dict", .free "zip", .free "enumerate", .str "SIGNS" signs, .int "LONGEST" 8, .str "TILL" "the-till", .str "POOL" "the-pool", .glo "BadRow"]
def ts : List He.Tab := []
def tf : List He.Defn := [("law", none)]
def ex (K : PySem.W.Frag) : Bool := errAll K (He.ga K "BadRow") (He.fAd K ("BadRow", some "__init__")) "index" && decide (PySem.W.exmOne K (.ref (He.ga K "BadRow")) (.ref (He.ga K "BadRow")) = some true)
abbrev R : PySem.W.OpenRow := PySem.W.OpenLaw.row PySem.Challenge.rw_seatroads_k25_rows_told
abbrev hk : PySem.W.Hook := He.hookX 6 fa fn ts tf ex
def ob (s : PySem.W.SharedT) : He.AlX := He.obsX 6 fa fn ts tf ex (HandSHeadRun.getT s)
theorem ob_eq (s : PySem.W.SharedT) : ob s = hk.obs s.abs := He.obsX_eq (HandSHeadRun.getT_eq s)
def loose : List Str := ["is_integer", "is_list", "is_name", "told_rows", "is_balanced", "is_account", "_is_row", "_check_rows", "_law_source", "_law_draw", "_law_pick", "_law_same", "_law_some_rows", "_law_sums", "_law_told", "_law_balanced", "_law_tried", "SIGNS", "LONGEST", "TILL", "POOL", "OfficeError", "BadRow"]
theorem run (w : World) : HandSHeadRun.RunEq R (PySem.W.view R.prog [27]) hk ob 60000 loose w := by
  intro os
  kernel_rfl
end K25

set_option Elab.async false
set_option linter.all false
set_option maxRecDepth 100000
set_option maxHeartbeats 4000000
namespace K25
open PySem PySem.Spec PyProof.Rows L2 Sr LamX
theorem facts {l : PySem.W.OpenLaw} {w : World} {K : PySem.W.Frag} {h : Heap} {mg : Str → Option Value} {f : Addr} (X : K.In h) (G : h.Ns mainGlobals mg) (hfa : mg ("law" : Str) = some (.ref f)) (c : He.SaysX fa fn ts tf ex w h K) : LawAtS l w K CX0 8 63 "script" mg f h := by
  have cd : He.SaysD fa fn K := c.t.d
  have e := hfa.symm.trans (He.glo_ok X G (cd.fact 17 (f := .glo "law") rfl))
  cases e
  have D_is_integer : Dfn K mg "is_integer" s_is_integer := ⟨cd.def_ 0 (d := dd "is_integer" 3) rfl, He.glo_ok X G (cd.fact 0 (f := .glo "is_integer") rfl)⟩
  have D_is_list : Dfn K mg "is_list" s_is_list := ⟨cd.def_ 1 (d := dd "is_list" 4) rfl, He.glo_ok X G (cd.fact 1 (f := .glo "is_list") rfl)⟩
  have D_is_name : Dfn K mg "is_name" s_is_name := ⟨cd.def_ 2 (d := dd "is_name" 5) rfl, He.glo_ok X G (cd.fact 2 (f := .glo "is_name") rfl)⟩
  have D_told_rows : Dfn K mg "told_rows" s_told_rows := ⟨cd.def_ 3 (d := dd "told_rows" 12) rfl, He.glo_ok X G (cd.fact 3 (f := .glo "told_rows") rfl)⟩
  have D_is_balanced : Dfn K mg "is_balanced" s_is_balanced := ⟨cd.def_ 4 (d := dd "is_balanced" 13) rfl, He.glo_ok X G (cd.fact 4 (f := .glo "is_balanced") rfl)⟩
  have D_is_account : Dfn K mg "is_account" s_is_account := ⟨cd.def_ 5 (d := dd "is_account" 14) rfl, He.glo_ok X G (cd.fact 5 (f := .glo "is_account") rfl)⟩
  have D__is_row : Dfn K mg "_is_row" s__is_row := ⟨cd.def_ 6 (d := dd "_is_row" 15) rfl, He.glo_ok X G (cd.fact 6 (f := .glo "_is_row") rfl)⟩
  have D__check_rows : Dfn K mg "_check_rows" s__check_rows := ⟨cd.def_ 7 (d := dd "_check_rows" 16) rfl, He.glo_ok X G (cd.fact 7 (f := .glo "_check_rows") rfl)⟩
  have D__law_source : Dfn K mg "_law_source" s__law_source := ⟨cd.def_ 8 (d := dd "_law_source" 18) rfl, He.glo_ok X G (cd.fact 8 (f := .glo "_law_source") rfl)⟩
  have D__law_draw : Dfn K mg "_law_draw" s__law_draw := ⟨cd.def_ 9 (d := dd "_law_draw" 19) rfl, He.glo_ok X G (cd.fact 9 (f := .glo "_law_draw") rfl)⟩
  have D__law_pick : Dfn K mg "_law_pick" s__law_pick := ⟨cd.def_ 10 (d := dd "_law_pick" 20) rfl, He.glo_ok X G (cd.fact 10 (f := .glo "_law_pick") rfl)⟩
  have D__law_same : Dfn K mg "_law_same" s__law_same := ⟨cd.def_ 11 (d := dd "_law_same" 21) rfl, He.glo_ok X G (cd.fact 11 (f := .glo "_law_same") rfl)⟩
  have D__law_some_rows : Dfn K mg "_law_some_rows" s__law_some_rows := ⟨cd.def_ 12 (d := dd "_law_some_rows" 22) rfl, He.glo_ok X G (cd.fact 12 (f := .glo "_law_some_rows") rfl)⟩
  have D__law_sums : Dfn K mg "_law_sums" s__law_sums := ⟨cd.def_ 13 (d := dd "_law_sums" 23) rfl, He.glo_ok X G (cd.fact 13 (f := .glo "_law_sums") rfl)⟩
  have D__law_told : Dfn K mg "_law_told" s__law_told := ⟨cd.def_ 14 (d := dd "_law_told" 24) rfl, He.glo_ok X G (cd.fact 14 (f := .glo "_law_told") rfl)⟩
  have D__law_balanced : Dfn K mg "_law_balanced" s__law_balanced := ⟨cd.def_ 15 (d := dd "_law_balanced" 25) rfl, He.glo_ok X G (cd.fact 15 (f := .glo "_law_balanced") rfl)⟩
  have D__law_tried : Dfn K mg "_law_tried" s__law_tried := ⟨cd.def_ 16 (d := dd "_law_tried" 26) rfl, He.glo_ok X G (cd.fact 16 (f := .glo "_law_tried") rfl)⟩
  obtain ⟨fd, DL⟩ := cd.def_ 17 (d := dd "law" 27) rfl
  have D_ini : DfnM K "BadRow" "__init__" "BadRow.__init__" s_BadRow___init__ := ⟨cd.def_ 18 (d := dm "BadRow" "__init__" "BadRow.__init__" s_BadRow___init__) rfl⟩
  have T : Txt K mg := ⟨He.free_ok X G (cd.fact 18 (f := .free "len") rfl), He.free_ok X G (cd.fact 19 (f := .free "isinstance") rfl), He.free_ok X G (cd.fact 20 (f := .free "all") rfl), He.free_ok X G (cd.fact 21 (f := .free "range") rfl), He.free_ok X G (cd.fact 22 (f := .free "sorted") rfl), He.free_ok X G (cd.fact 23 (f := .free "list") rfl), He.free_ok X G (cd.fact 24 (f := .free "tuple") rfl), He.free_ok X G (cd.fact 25 (f := .free "min") rfl), He.free_ok X G (cd.fact 26 (f := .free "int") rfl), He.free_ok X G (cd.fact 27 (f := .free "str") rfl), He.free_ok X G (cd.fact 28 (f := .free "bool") rfl), He.free_ok X G (cd.fact 29 (f := .free "dict") rfl), He.free_ok X G (cd.fact 30 (f := .free "zip") rfl), He.free_ok X G (cd.fact 31 (f := .free "enumerate") rfl), He.str_ok X G (cd.fact 32 (f := .str "SIGNS" signs) rfl), He.int_ok X G (cd.fact 33 (f := .int "LONGEST" 8) rfl), He.str_ok X G (cd.fact 34 (f := .str "TILL" "the-till") rfl), He.str_ok X G (cd.fact 35 (f := .str "POOL" "the-pool") rfl)⟩
  have hB := He.glo_ok X G (cd.fact 36 (f := .glo "BadRow") rfl)
  obtain ⟨x1, x2⟩ := He.ba c.more
  have E := errAll_ok x1
  have b := FunD.bindsA (ps := ["script"]) DL fun _ _ _ _ _ _ us hl => match us, hl with | [_], _ => rfl
  refine ⟨fd, [He.cT K ("law", none)], spLaw K (He.cT K ("law", none)).2, ?_, ?_, ?_, fun s v => b s [v] rfl, fun H a ns hl _ hT hS => ⟨a, ns, rfl, hS, hT _ List.mem_cons_self, fun _ => rfl⟩, fun base _ _ TB => ?_⟩
  · intro p hp
    rw [List.mem_singleton.mp hp]
    exact c.empty _ List.mem_cons_self
  · intro p hp
    rw [List.mem_singleton.mp hp]
    exact c.out _ List.mem_cons_self
  · intro p hp
    rw [List.mem_singleton.mp hp]
    exact PySem.W.codeHd_of_K X (c.hd _ List.mem_cons_self)
  have TB1 := TB _ List.mem_cons_self
  have C_is_list := c_is_list (P := l.prog) (w := w) (base := base) T D_is_list
  have C_is_integer := c_is_integer (P := l.prog) (w := w) (base := base) T D_is_integer
  have C_is_name := c_is_name (P := l.prog) (w := w) (base := base) T D_is_name
  have C_is_account := c_is_account T D_is_account C_is_name
  have C_is_row := c__is_row T D__is_row C_is_list C_is_account C_is_name C_is_integer
  have R : ErrAt l.prog w K mg base "BadRow" "index" "index" := ⟨E, m_BadRow E D_ini, hB⟩
  have C_check := c__check_rows T R D__check_rows C_is_list C_is_row
  have C_told := c_told_rows T D_told_rows C_check
  have C_bal := c_is_balanced T D_is_balanced C_check
  have C_src := c__law_source (P := l.prog) (w := w) (base := base) T D__law_source
  have C_draw := c__law_draw (P := l.prog) (w := w) (base := base) T D__law_draw
  have C_pick := c__law_pick T D__law_pick C_draw
  have C_same := c__law_same_deep (P := l.prog) (w := w) (base := base) T D__law_same 4
  have C_some := c__law_some_rows T D__law_some_rows C_draw C_pick
  have C_sums := c__law_sums (P := l.prog) (w := w) (base := base) T D__law_sums
  have C_ltold := c__law_told T D__law_told C_sums
  have C_bald := c__law_balanced (P := l.prog) (w := w) (base := base) T D__law_balanced
  exact c_law T DL hB rfl E (of_decide_eq_true x2) TB1 D__law_tried C_src C_draw C_pick C_some C_bald C_ltold C_same C_told C_bal
end K25
open PySem PySem.W PySem.Calls PyProof.Rows
theorem PySem.Challenge.cw_seatroads_k25_rows_told_holds : PySem.Challenge.rw_seatroads_k25_rows_told.Holds := by
  w_on; o_law
  refine HandSHeadRun.head_any (r := OpenLaw.row PySem.Challenge.rw_seatroads_k25_rows_told) (q := view (OpenLaw.row PySem.Challenge.rw_seatroads_k25_rows_told).prog [27]) (H := K25.hk) (ob := K25.ob) (M := 60000) (loose := K25.loose) (d := HandSHeadRun.topDef (OpenLaw.row PySem.Challenge.rw_seatroads_k25_rows_told).prog 27) (kwd := []) K25.ob_eq
    (by kernel_rfl) (fun s => by kernel_rfl) K25.run (by kernel_rfl) (by kernel_rfl) (by kernel_rfl) (by rfl) (by first | assumption | decide +kernel) (by decide +kernel) ⟨rfl, rfl, rfl, rfl, rfl, by decide +kernel⟩ ?hw ?hc
  case hw => w_witness2
  case hc =>
    refine LamX.walk_ofTsE (l := PySem.Challenge.rw_seatroads_k25_rows_told) (n := 63) (k := 8) (x := "script") (CX := fun _ => L2.CX0) rfl (by decide) (by kernel_rfl) ⟨rfl, by decide, by decide⟩ ?F (fun _ _ _ _ _ z => z)
    intro w mg fa h Y G hmg0
    obtain ⟨K, KX, c⟩ := Y
    have hmg : mg ("law" : PySem.Str) = some (.ref fa) := by
      have e : (HandSHeadRun.topDef (OpenLaw.row PySem.Challenge.rw_seatroads_k25_rows_told).prog 27).name = ("law" : PySem.Str) := by kernel_rfl
      rw [← e]
      exact hmg0
    exact ⟨K, KX, K25.facts KX G hmg c⟩
