import PyProof.Rows.All
import Wide.All
import OpenK.AllK
import Wide.FinOn
import KE.KStateDown
import HandS.ForMost
import HandS.Defaults
import HandS.IsInst
import HandS.CallLocal
import HandS.TupAny
import HandS.NoneIn
import HandS.Strs
import HandS.TryOnly
import HandS.Head0
import HandS.Head1
import HandS.Head2
import HandS.HeadEnd
import HandS.HeadHook1
import HandS.HeadHook2
import HandS.HeadHook3
import HandS.HeadHook4
import HandS.ListItems
import HandS.More
import HandS.Walk
import HandS.DictComp
import HandS.Zip
import KE.SortData
import HandS.Conv
import KE.KDictPairs
import HandS.Exc
import HandS.TryMany
import HandS.ExcInit
import HandS.ExcField
import KE.GoesEnum
import HandS.Lambda
import HandS.EndTab
import HandS.Deep
import HandS.WordsDict
import HandS.TupSets
import HandS.DictTup
import KE.KDictCopyH
import HandS.Finally
import HandS.Style
import HandS.SetFor
import HandS.HeadWalk
import PySem.Challenge.RW_seatroads_k28_known_when
set_option Elab.async false
set_option linter.all false
set_option maxRecDepth 100000
set_option maxHeartbeats 4000000
namespace Sr
open PySem PySem.Spec PyProof.Rows L2

/-- a def of the top that may be called: its promise, its name -/
structure Cal (P : Program) (w : World) (K : PySem.W.Frag) (mg : Str → Option Value) (base : Heap) (k : Nat) (x : Str) (ps : List Str) (sp : Sp) : Prop where
  ex : ∃ (f : Addr) (fd : FuncData), FnOk P w K mg base CX0 k f fd ps sp ∧ mg x = some (.ref f) ∧ PySem.W.keepIn K (.ref f) = true ∧ Binds K fd ps []

theorem pe_cal {X : Cx} {k k' : Nat} {x : Str} {ps : List Str} {sp : Sp} {p pos : Pos} {e : Expr} {es : List Expr} {t : TA} (C : Cal X.prog X.w X.K X.mg X.base k x ps sp) (hr : Room k' X.A) (hk : k ≤ k') (hg : Gl X x) (ha : PA X (e :: es) t)
    (hdb : (x == ("__debug__" : Str)) = false := by decide) (he : starEach (e :: es) X.env = (false, eval e X.env) :: starEach es X.env := by rfl) (hpl : (backTo pos (starEach es X.env)).any (·.1) = false := by rfl) :
    PE X (.Call (.Name x p) (e :: es) [] pos) (tCall sp [] E0 t) := by
  obtain ⟨f, fd, F, hm, hkp, hb⟩ := C.ex
  exact pe_call F (hr.mono hk) hg hm hkp hb .nil pass0 ha hdb he hpl

/-- a def of the top as the head tells it -/
structure Dfn (K : PySem.W.Frag) (mg : Str → Option Value) (x : Str) (st : Stmt) : Prop where
  fn : ∃ fd, FunD K x x (defArgs st) (defBody st) (defScope st) [] [] (He.ga K x) fd
  at_ : mg x = some (.ref (He.ga K x))

theorem Dfn.cal {P : Program} {w : World} {K : PySem.W.Frag} {mg : Str → Option Value} {base : Heap} {x : Str} {st : Stmt} {N ps : List Str} {k : Nat} {sp : Sp} (D : Dfn K mg x st) (S : FnScope N ps (defScope st))
    (hb : ∀ (kV doc pm : Value) (an : Option Addr) (cdv ct : Value) (us : List Value), us.length = ps.length → bindArgs (PySem.W.fnOf x x (defArgs st) (defBody st) (defScope st) .none kV doc pm an cdv ct) ⟨us, []⟩ = pure (ps.zip us))
    (len : ∀ vs H Q E, sp vs H Q E → vs.length = ps.length)
    (body : ∀ (cdv : Value) (A : Around) (outer : List Env) (s : Shared) (H : Hp) (vs : List V) (Q : VK) (E : XK), Room k (A.deeper (envOfC x (defScope st) s.heap.objs.size (He.ga K x) cdv)) → sp vs H Q E →
      ∃ t, PSs (cxOf CX0 P w K mg base N x (defScope st) (He.ga K x) cdv A outer s H E).nox (defBody st) t ∧ t { nx := fun _ H' => Q .non H', rt := Q } (start N vs) H) :
    Cal P w K mg base (k + 1) x ps sp := by
  obtain ⟨fd, F⟩ := D.fn
  refine ⟨_, fd, F.ok S len fun cdv A outer s H vs Q E hr h => ?_, D.at_, F.kp, F.bindsN hb⟩
  obtain ⟨t, h1, h2⟩ := body cdv A outer s H vs Q E hr h
  exact ⟨t, PSs.nox h1, h2⟩

/-- a method of a class of the top -/
structure CalM (P : Program) (w : World) (K : PySem.W.Frag) (mg : Str → Option Value) (base : Heap) (CX : CXT) (k : Nat) (f : Addr) (ps : List Str) (sp : Sp) : Prop where
  ex : ∃ fd : FuncData, FnOk P w K mg base CX k f fd ps sp ∧ PySem.W.keepIn K (.ref f) = true ∧ Binds K fd ps []
/-- a method as the head tells it -/
structure DfnM (K : PySem.W.Frag) (c m qual : Str) (st : Stmt) : Prop where
  fn : ∃ fd, FunD K m qual (defArgs st) (defBody st) (defScope st) [] [] (He.fAd K (c, some m)) fd
theorem DfnM.cal {P : Program} {w : World} {K : PySem.W.Frag} {mg : Str → Option Value} {base : Heap} {c m qual : Str} {st : Stmt} {N ps : List Str} {k : Nat} {sp : Sp} (D : DfnM K c m qual st) (S : FnScope N ps (defScope st))
    (hb : ∀ (kV doc pm : Value) (an : Option Addr) (cdv ct : Value) (us : List Value), us.length = ps.length → bindArgs (PySem.W.fnOf m qual (defArgs st) (defBody st) (defScope st) .none kV doc pm an cdv ct) ⟨us, []⟩ = pure (ps.zip us))
    (len : ∀ vs H Q E, sp vs H Q E → vs.length = ps.length)
    (body : ∀ (cdv : Value) (A : Around) (outer : List Env) (s : Shared) (H : Hp) (vs : List V) (Q : VK) (E : XK), Room k (A.deeper (envOfC qual (defScope st) s.heap.objs.size (He.fAd K (c, some m)) cdv)) → sp vs H Q E →
      ∃ t, PSs (cxOf CX0 P w K mg base N qual (defScope st) (He.fAd K (c, some m)) cdv A outer s H E).nox (defBody st) t ∧ t { nx := fun _ H' => Q .non H', rt := Q } (start N vs) H) :
    CalM P w K mg base CX0 (k + 1) (He.fAd K (c, some m)) ps sp := by
  obtain ⟨fd, F⟩ := D.fn
  refine ⟨fd, F.ok S len fun cdv A outer s H vs Q E hr h => ?_, F.kp, F.bindsN hb⟩
  obtain ⟨t, h1, h2⟩ := body cdv A outer s H vs Q E hr h
  exact ⟨t, PSs.nox h1, h2⟩

/-- x in o, o an instance whose class says __contains__ -/
structure Has (K : PySem.W.Frag) (C f : Addr) : Prop where
  at_ : PySem.W.findIn K (.ref C) "__contains__" = some (some (.ref f))
  ty : PySem.W.typeIn K (.ref f) = some (.type "function")
def rInOwn (C : Addr) (sp : Sp) (E : XK) (neg : Bool) : R2 := fun x y H Q => ∃ a dx fs, y = .ref a ∧ H a = some (.ins C dx fs) ∧ sp [y, x] H (fun v H' => ∃ b, v = .bl b ∧ Q (.bl (if neg then !b else b)) H') E

theorem own_in {X : Cx} {CX : CXT} {k : Nat} {C f : Addr} {fd : FuncData} {ps : List Str} {sp : Sp} {E : XK} (F : FnOk X.prog X.w X.K X.mg X.base CX k f fd ps sp) (hr : Room k X.A) (hs : Has X.K C f) (hb : Binds X.K fd ps []) (hx : Passes CX X E)
    {pins : List (Addr × Obj)} {s : Shared} {σ : L2.St} {H : Hp} {x y : V} {v u : Value} {Q : Bool → Shared → Prop} (I : Inv X pins σ H s) (rx : RelV x v) (ry : RelV y u)
    (h : ∃ a dx fs, y = .ref a ∧ H a = some (.ins C dx fs) ∧ sp [y, x] H (fun v H' => ∃ b, v = .bl b ∧ ∀ s', Inv X pins σ H' s' → Q b s') E) :
    wpAny (model X.prog X.w) X.A (contains u v) Q X.xe s := by
  obtain ⟨a, dx, fs, rfl, ha, hsp⟩ := h
  cases ry
  obtain ⟨mA, J, _⟩ := ins_get I.hok ha
  obtain ⟨od, J, _⟩ := J.look
  unfold contains
  refine wpAny_holding ?_
  rw [stdlibNamesSay?_ref]
  refine wpAny_bind ?_
  unfold specialOf
  refine wpAny_bind (J.type.here ?_)
  refine (PySem.W.looks_findIn I.kIn hs.at_).here ?_
  show wpAny _ _ (if (some (Value.ref f) == some Value.none) = true then _ else _) _ _ _
  rw [if_neg (by simp)]
  refine wpAny_bind ?_
  unfold callSpecialUnlessNone?
  refine wpAny_bind ?_
  unfold specialOf
  refine wpAny_bind (J.type.here ?_)
  refine (PySem.W.looks_findIn I.kIn hs.at_).here ?_
  refine wpAny_holding ?_
  refine wpAny_bind ((PySem.W.bind_fn I.kIn (.ref a) hs.ty).here ?_)
  show wpAny _ _ (if (Value.ref f == Value.none) = true then _ else _) _ _ _
  rw [if_neg (by simp)]
  refine wpAny_bind ?_
  have r2 : Vals [V.ref a, x] [Value.ref a, v] := .cons rfl (.cons rx .nil)
  refine thn (run_fn (dvs := []) (ds := []) F hr hb .nil hx I r2 hsp) fun r s1 hq => ?_
  obtain ⟨z, H1, I1, rz, b, ez, hb1⟩ := hq
  subst ez
  obtain rfl : r = Value.bool b := rz
  exact wpAny_pure (wpAny_truthy_bool (hb1 s1 I1))

theorem op_inOwn {X : Cx} {CX : CXT} {k : Nat} {C f : Addr} {fd : FuncData} {ps : List Str} {sp : Sp} {E : XK} (F : FnOk X.prog X.w X.K X.mg X.base CX k f fd ps sp) (hr : Room k X.A) (hs : Has X.K C f) (hb : Binds X.K fd ps []) (hx : Passes CX X E)
    (hm : ∀ x y H Q Q' E, (∀ v H', Q v H' → Q' v H') → sp [x, y] H Q E → sp [x, y] H Q' E) :
    OpR X (compareOp .In) (rInOwn C sp E false) := by
  intro pins s σ H x y v u Q I rx ry h
  obtain ⟨a, dx, fs, e, ha, hsp⟩ := h
  show wpAny _ _ (do return Value.bool (← contains u v)) _ _ _
  refine wpAny_bind (own_in F hr hs hb hx (Q := fun b s' => wpAny (model X.prog X.w) X.A (pure (Value.bool b)) (EP X pins σ Q) X.xe s') I rx ry ⟨a, dx, fs, e, ha, hm _ _ _ _ _ _ (fun z H' hz => ?_) hsp⟩)
  obtain ⟨b, rfl, hq⟩ := hz
  exact ⟨b, rfl, fun s' I' => wpAny_pure ⟨.bl b, H', I', rfl, hq⟩⟩
theorem op_has {X : Cx} {k k' : Nat} {C f : Addr} {ps : List Str} {sp : Sp} (M : CalM X.prog X.w X.K X.mg X.base CX0 k f ps sp) (hr : Room k' X.A) (hk : k ≤ k') (hs : Has X.K C f)
    (hm : ∀ x y H Q Q' E, (∀ v H', Q v H' → Q' v H') → sp [x, y] H Q E → sp [x, y] H Q' E) : OpR X (compareOp .In) (rInOwn C sp E0 false) := by
  obtain ⟨fd, F, _, hb⟩ := M.ex
  exact op_inOwn F (hr.mono hk) hs hb pass0 hm
end Sr

set_option Elab.async false
set_option linter.all false
set_option maxRecDepth 100000
set_option maxHeartbeats 4000000
namespace Sr
open PySem PySem.Spec PyProof.Rows L2
open PySem.SeqAt
/-! ### set(texts): how many unlike ones -/
/-- the unlike texts among the first i, in the order in which they are met -/
def met (xs : List Str) : Nat → List Str
  | 0 => []
  | i + 1 => if (met xs i).any (· == xs.getD i Str.empty) = true then met xs i else met xs i ++ [xs.getD i Str.empty]
theorem met_le (xs : List Str) : ∀ i, (met xs i).length ≤ i
  | 0 => Nat.le_refl _
  | i + 1 => by
    have := met_le xs i
    unfold met
    split
    · omega
    · rw [List.length_append]; simp; omega
theorem met_any (xs : List Str) (i : Nat) (k : Str) : ((met xs i).any (· == k) || decide (k = xs.getD i Str.empty)) = (met xs (i + 1)).any (· == k) := by
  show _ = (if (met xs i).any (· == xs.getD i Str.empty) = true then met xs i else met xs i ++ [xs.getD i Str.empty]).any (· == k)
  split
  · rename_i h
    by_cases e : k = xs.getD i Str.empty
    · rw [e, h]; rfl
    · rw [decide_eq_false e, Bool.or_false]
  · rw [List.any_append]
    by_cases e : k = xs.getD i Str.empty
    · subst e; simp
    · rw [decide_eq_false e]
      have : (xs.getD i Str.empty == k) = false := by
        rw [beq_eq_false_iff_ne]; exact fun z => e z.symm
      simp only [List.any_cons, List.any_nil, this, Bool.or_false]
theorem met_len (xs : List Str) (i : Nat) : (if ((met xs i).any (· == xs.getD i Str.empty)) = true then (met xs i).length else (met xs i).length + 1) = (met xs (i + 1)).length := by
  show _ = (if (met xs i).any (· == xs.getD i Str.empty) = true then met xs i else met xs i ++ [xs.getD i Str.empty]).length
  split <;> rename_i h
  · rfl
  · rw [List.length_append]; rfl
abbrev nset (led : Bool) : Obj := { cls := .type "set", dict := none, data := .set #[] 0 (.fresh 0 0 led) }
section
variable {prog : Program} {w : World} {A : Around} {R : Result → Shared → Prop} {I : Addr} {fp wr : List Addr} {G : Array GenState → Array GenState → Prop} {n : Nat} {P : Nat → Value → Prop} {Stt : Nat → Shared → Prop}
theorem texts_loop (W : WalksS prog w A.in1 I fp wr G n P Stt) (S : Addr) (hSf : S ∉ fp) (xs : List Str) (hv : ∀ i v, P i v → ∃ t, v = .str (xs.getD i Str.empty) t) (hb : n + 1 < scanBound) (d : Nat) :
    ∀ (i : Nat) (s : Shared), n = i + d → Stt i s → s.heap.SetOf (PySem.strKind prog w) S (fun k => (met xs i).any (· == k)) (met xs i).length →
      (∀ s', Moved (S :: wr) G s s' → s'.heap.SetOf (PySem.strKind prog w) S (fun k => (met xs n).any (· == k)) (met xs n).length → R (.ok (.ret .none)) s') →
      codeAny (model prog w) A (.builtin "set.update.loop" ⟨[.ref S, .ref I], []⟩) R s := by
  have out : S ∉ wr := fun h => hSf (W.sub _ h)
  have more : ∀ b ∈ wr, b ∈ S :: wr := fun b h => List.mem_cons_of_mem _ h
  have moves : ∀ (s s' : Shared) (i : Nat), Moved wr G s s' → s.heap.SetOf (PySem.strKind prog w) S (fun k => (met xs i).any (· == k)) (met xs i).length →
      s'.heap.SetOf (PySem.strKind prog w) S (fun k => (met xs i).any (· == k)) (met xs i).length := fun s s' i hm ⟨o, es, ep, t, ho, r⟩ => ⟨o, es, ep, t, hm.heap S _ out ho, r⟩
  induction d with
  | zero =>
    intro i s hd hs hS hR
    obtain rfl : n = i := hd
    refine codeAny_builtin PyProof.Rows.F.entry_set_update_loop ?_
    rw [Around.under_plainId PyProof.Rows.F.plain_set_update_loop _]
    show wpAny _ A.in1 (pyNext (.ref I) >>= _) _ _ s
    refine wpAny_bind (W.done s _ _ hs fun s' hm => ?_)
    show wpAny _ A.in1 (ret Value.none) _ _ s'
    exact wpAny_pure (hR s' (hm.mono more) (moves s s' _ hm hS))
  | succ d ih =>
    intro i s hd hs hS hR
    have lt : i < n := by omega
    refine codeAny_builtin PyProof.Rows.F.entry_set_update_loop ?_
    rw [Around.under_plainId PyProof.Rows.F.plain_set_update_loop _]
    show wpAny _ A.in1 (pyNext (.ref I) >>= _) _ _ s
    refine wpAny_bind (W.item i s _ _ lt hs fun v s' hP hs' hm => ?_)
    obtain ⟨t, rfl⟩ := hv i v hP
    have hS' := moves s s' i hm hS
    show wpAny _ A.in1 (holding [Value.str (xs.getD i Str.empty) t] (setAdd S _) >>= _) _ _ s'
    refine wpAny_bind (wpAny_holding ?_)
    unfold setAdd
    refine wpAny_holding (wpAny_bind ((PySem.strKind prog w).pyHash (k := xs.getD i Str.empty) (strKind_is _ _ _ _) ?_))
    have room : (met xs i).length + 1 < scanBound := by have := met_le xs i; omega
    refine wpAny_setAddHashed_of (knd := PySem.strKind prog w) (s := { s' with toks := s'.toks + 1 }) (strKind_is _ _ _ _) rfl hS' room fun h' hsb hS2 => ?_
    have hS3 : h'.SetOf (PySem.strKind prog w) S (fun k => (met xs (i + 1)).any (· == k)) (met xs (i + 1)).length :=
      PyProof.Rows.SetOf_congr hS2 (fun k => met_any xs i k) (met_len xs i)
    refine wpAny_pure ⟨plainId_quiet PyProof.Rows.F.plain_set_update_loop _, ih (i + 1) _ (by omega) (W.frame _ s' _ _ hs' (Nat.le_succ _) fun b hb o e => ?_) hS3 fun s2 hm2 hS4 => ?_⟩
    · rw [hsb.2 b (fun h : b = S => hSf (by rw [← h]; exact hb))]
      exact e
    · refine hR s2 (Moved.trans W.gtrans ((hm.mono more).then_heap (Nat.le_succ _) fun b o hb e => ?_) hm2) hS4
      rw [hsb.2 b (fun h : b = S => hb (by rw [h]; exact List.mem_cons_self))]
      exact e
end
/-- what set(l) leaves -/
def SetOut (prog : Program) (w : World) (s : Shared) (xs : List Str) (n : Nat) (h' : Heap) : Prop :=
  h'.SetOf (PySem.strKind prog w) s.heap.objs.size (fun k => (met xs n).any (· == k)) (met xs n).length ∧ ∀ b o, b < s.heap.objs.size → s.heap.get? b = some o → h'.get? b = some o
section
variable {prog : Program} {w : World} {A : Around} {E : Value → Shared → Prop} {s : Shared}
theorem texts_set {l : Addr} {items : Array Value} {xs : List Str} {Q : Value → Shared → Prop} {ty : String} {walk : Obj} {wr : List Addr} {G : Array GenState → Array GenState → Prop} {Stt : Nat → Shared → Prop}
    (hl : s.heap.get? l ≠ none) (hi : PyProof.Rows.StrsAre items.toList xs) (hb : items.size + 1 < scanBound)
    (e1 : isSubtype (.type ty) (.type "set") = pure false) (e2 : isSubtype (.type ty) (.type "frozenset") = pure false) (e3 : (Value.type ty == Value.type "dict") = false)
    (hty : ∀ led, Shared.TypeIs { s with heap := s.heap.push (nset led) } (.ref l) ty)
    (hit : ∀ (led : Bool) (A : Around) (Q : Value → Shared → Prop) (E : Value → Shared → Prop), (∀ s' : Shared, s' = { s with heap := (s.heap.push (nset led)).push walk } → Q (.ref (s.heap.objs.size + 1)) s') → wpAny (model prog w) A (pyIter (.ref l)) Q E { s with heap := s.heap.push (nset led) })
    (hW : WalksS prog w A.in1.in1.in1 (s.heap.objs.size + 1) [s.heap.objs.size + 1, l] wr G items.size (fun i v => items[i]? = some v) Stt)
    (hG : ∀ a b, G a b → b = a)
    (hwr : ∀ b ∈ wr, b = s.heap.objs.size + 1)
    (hst : ∀ led, Stt 0 { s with heap := (s.heap.push (nset led)).push walk })
    (h : ∀ (h' : Heap) (tk : Nat), SetOut prog w s xs items.size h' → Q (.ref s.heap.objs.size) { s with heap := h', toks := tk }) :
    wpAny (model prog w) A (call (.type "set") [.ref l]) Q E s := by
  have lt : l < s.heap.objs.size := by
    cases e : s.heap.get? l with
    | none => exact absurd e hl
    | some o => exact Heap.lt_size e
  obtain ⟨c, tl, hmro⟩ := PySem.F.called_set.mro
  have a1 := PySem.F.called_set.made
  have a2 := PySem.F.called_set.sub
  have a3 := PySem.F.called_set.notType
  have a4 := PySem.F.called_set.canCreate
  have a5 := PySem.F.typeCall_set_1 (.ref l)
  refine wpAny_call (codeAny_of_tree ?_)
  show wpAny _ _ (callAny (.type "set") _) _ _ _
  refine wpAny_pure ⟨Code.quiet_builtin _ (by decide +kernel), codeAny_builtin PySem.F.entry_type_call ?_⟩
  rw [Around.under_plain (weight_type_call_type "set" [.ref l] []) rfl]
  repeat (any_goals (first | assumption | wp_step))
  refine codeAny_mono (code_set_new_1 (.ref l) (E := E) (Q₁ := fun obj t => ∃ led : Bool, obj = .ref s.heap.objs.size ∧ t = { s with heap := s.heap.push (nset led) }) fun led => ⟨led, rfl, rfl⟩) fun r t hr => ?_
  cases r with
  | error e => exact hr
  | ok fl =>
    cases fl with
    | ret obj =>
      obtain ⟨led, rfl, rfl⟩ := hr
      have b1 : (s.heap.push (nset led)).get? s.heap.objs.size = some (nset led) := Heap.get?_push_size _ rfl
      have b2 : Shared.TypeIs { s with heap := s.heap.push (nset led) } (.ref s.heap.objs.size) "set" := ⟨_, b1, rfl⟩
      have b3 := PySem.F.called_set.init.lookup
      have b4 := PySem.F.called_set.init.bind (.ref s.heap.objs.size)
      repeat (any_goals (first | assumption | wp_step))
      refine codeAny_mono (codeAny_call_builtin (R := wants (fun r t => r = .none ∧ ∃ h' tk, t = { s with heap := h', toks := tk } ∧ SetOut prog w s xs items.size h') E) PySem.F.called_set.init.plain PySem.F.entry_set_init (check_set_init_1 b2 ?_)) fun r t hr => ?_
      · have c1 := hty led
        unfold Builtin.«set.__init__» noKeywords Builtin.Frozenset.updateFrom
        generalize hPI : pyIter = PI
        wp_walk
        subst hPI
        refine hit led _ _ _ fun s' e => ?_
        subst e
        refine wpAny_bind (wpAny_runValue ?_)
        have nS : s.heap.objs.size ∉ [s.heap.objs.size + 1, l] := fun z => by
          rcases List.mem_cons.mp z with z | z
          · exact Nat.ne_of_lt (Nat.lt_succ_self _) z
          · exact Nat.ne_of_gt lt (List.mem_singleton.mp z)
        have hsz : xs.length = items.size := by rw [← PyProof.Rows.StrsAre.len_eq hi, Array.length_toList]
        have hS0 : ((s.heap.push (nset led)).push walk).SetOf (PySem.strKind prog w) s.heap.objs.size (fun k => (met xs 0).any (· == k)) (met xs 0).length := by
          have g : ((s.heap.push (nset led)).push walk).get? s.heap.objs.size = some (nset led) := Heap.get?_push_of_some _ b1
          exact PyProof.Rows.SetOf_congr ((PyProof.Rows.setObjOf_fresh (knd := PySem.strKind prog w) led).setOf g (by unfold scanBound; omega)) (fun _ => rfl) rfl
        refine texts_loop hW s.heap.objs.size nS xs (fun i v hv => SS.strs_at hi i v (by rw [Array.getElem?_toList]; exact hv)) hb items.size 0 _ (by omega) (hst led) hS0 fun s' hm hS' => ?_
        obtain ⟨h', g', d', tk', os'⟩ := s'
        obtain rfl : g' = s.gens := hG _ _ hm.gens
        obtain rfl : d' = s.drawn := hm.drawn
        obtain rfl : os' = s.os := hm.os
        show wpAny _ _ _ _ _ _
        refine wpAny_pure ?_
        show wpAny _ _ (ret Value.none) _ _ _
        refine wpAny_pure ⟨rfl, h', tk', rfl, hS', fun b o hb e => ?_⟩
        refine hm.heap b o ?_ (Heap.get?_push_of_some _ (Heap.get?_push_of_some _ e))
        intro z
        rcases List.mem_cons.mp z with z | z
        · exact Nat.ne_of_lt hb z
        · exact Nat.ne_of_lt (Nat.lt_succ_of_lt hb) (hwr b z)
      · cases r with
        | error e => exact hr
        | ok fl =>
          cases fl with
          | ret r =>
            obtain ⟨rfl, h', tk, rfl, o⟩ := hr
            repeat (any_goals (first | assumption | wp_step))
            exact h _ _ o
          | _ => exact hr.elim
    | _ => exact hr.elim
end

end Sr

set_option Elab.async false
set_option linter.all false
set_option maxRecDepth 100000
set_option maxHeartbeats 4000000
namespace Sr
open PySem PySem.Spec PyProof.Rows L2
open PySem.SeqAt

section
variable {X : Cx}
def tLenSetT (K : PySem.W.Frag) (ta : TE) : TE := fun σ H Q => ta σ H fun x H1 => ∃ (l : Addr) (xs : List Str), x = .ref l ∧ (SqL K H1 l (xs.map V.str) ∨ SqT K H1 l (xs.map V.str)) ∧ xs.length ≤ 60 ∧ Q (.int (met xs xs.length).length) H1
theorem pe_lenSetT {a : Expr} {ta : TE} {p p2 q pos : Pos} (hc : X.calm = true) (hg : Gl X "len") (hm : X.mg "len" = none) (hg2 : Gl X "set") (hm2 : X.mg "set" = none) (ha : PE X a ta)
    (na : starEach [a] X.env = (false, eval a X.env) :: starEach [] X.env := by rfl) : PE X (.Call (.Name "len" p) [.Call (.Name "set" p2) [a] [] q] [] pos) (tLenSetT X.K ta) := by
  refine ⟨fun pins s σ H Q I h => ?_⟩
  refine Call_ (ld_blt I hg hm boot_len ?_)
  refine PyProof.Rows.callWith_builtin1 (PyProof.Rows.args_cons ?_ rfl) rfl rfl
  refine Call_ (ld_blt (u := .type "set") I hg2 hm2 (by decide +kernel) ?_)
  refine PyProof.Rows.callWith_type1 (PyProof.Rows.args_cons (thn (ha.run pins s σ H _ I h) fun v s1 ⟨x, H1, I1, r1, q1⟩ => PyProof.Rows.args_nil ?_) na) na rfl
  obtain ⟨l, xs, rfl, hq, h1, q1⟩ := q1
  cases r1
  have fin : ∀ (its : List Value), Vals (xs.map V.str) its → ∀ (h' : Heap) (tk : Nat), SetOut X.prog X.w s1 xs its.toArray.size h' →
      wpAny (model X.prog X.w) X.A (spliced (backTo pos (starEach [] X.env))) (fun vs s₂ => wpAny (model X.prog X.w) X.A (call (.builtin "len") (Value.ref s1.heap.objs.size :: vs)) (EP X pins σ Q) X.xe s₂) X.xe { s1 with heap := h', toks := tk } := fun its r h' tk ⟨hS, hk⟩ => by
    refine PyProof.Rows.args_nil ?_
    have hl : its.toArray.size = xs.length := by rw [List.size_toArray, ← r.length, List.length_map]
    rw [hl] at hS
    have := met_le xs xs.length
    obtain ⟨o, es, ep, t, ho, hex, hd, _, _, _, hf, hn⟩ := hS
    have I2 : Inv X pins σ H1 { s1 with heap := h', toks := tk } := I1.kept fun b o e => hk b o (Heap.lt_size e) e
    exact call_len_set ho hex hd hf (by rw [hn] <;> omega) ⟨.int _, H1, I2.tok _, ⟨_, by rw [hn]⟩, q1⟩
  have zz : ∀ its : List Value, Vals (xs.map V.str) its → its.toArray.size + 1 < scanBound := fun its r => by
    rw [List.size_toArray, ← r.length, List.length_map]; unfold scanBound; omega
  have lts : ∀ {o : Obj}, s1.heap.get? l = some o → l < s1.heap.objs.size := fun e => Heap.lt_size e
  have hh : ∀ A : Around, A.handled = none → A.in1.in1.in1.handled = none := fun A h => by simp [h]
  have g2 : ∀ (led : Bool) (o : Obj) (ho : o.isFreed = false), ((s1.heap.push (nset led)).push o).get? (s1.heap.objs.size + 1) = some o := fun led o ho => by
    have e := Heap.get?_push_size (s1.heap.push (nset led)) ho
    rwa [Heap.size_push] at e
  have it : ∀ (led : Bool) (o : Obj) (Q : Value → Shared → Prop), (∀ s' : Shared, s' = { s1 with heap := (s1.heap.push (nset led)).push o } → Q (.ref (s1.heap.objs.size + 1)) s') → Q (.ref (s1.heap.push (nset led)).objs.size) { s1 with heap := (s1.heap.push (nset led)).push o } := fun led o Q k => by
    rw [Heap.size_push]
    exact k _ rfl
  rcases hq with hq | hq
  · obtain ⟨its, r, pl, hz⟩ := I1.list hq
    obtain ⟨ol, e, ec, nn, ed⟩ := pl.isList
    have il : s1.heap.IsList l its.toArray := ⟨ol, e, ec, nn, ed⟩
    have ne : l ≠ s1.heap.objs.size + 1 := Nat.ne_of_lt (Nat.lt_succ_of_lt (lts e))
    exact texts_set (ty := "list") (walk := { cls := .type "list_iterator", data := .fields #[.ref l, .int 0 0] }) (by rw [e]; simp) (by simpa using strsAre_of r) (zz its r) PySem.F.sub_list_set PySem.F.sub_list_frozenset (by decide) (fun led => ⟨_, Heap.get?_push_of_some _ e, ec⟩)
      (fun led A Q E k => wpAny_pyIter_list (il.push _) (it led _ Q k)) ((Walks.list (hh _ (I1.ok.hd hc)) _ l ne its.toArray).toS) (fun a b e => e) (fun b hb => List.mem_singleton.mp hb) (fun led => ⟨⟨_, g2 led _ rfl, rfl, rfl⟩, (il.push _).push _⟩) fun h' tk o => fin its r h' tk o
  · obtain ⟨its, r, pl, hz⟩ := I1.tuple hq
    have il : s1.heap.IsTuple l its.toArray := pl
    obtain ⟨ol, e, ec, nn, ed⟩ := pl
    have ne : l ≠ s1.heap.objs.size + 1 := Nat.ne_of_lt (Nat.lt_succ_of_lt (lts e))
    exact texts_set (ty := "tuple") (walk := { cls := .type "tuple_iterator", data := .fields #[.ref l, .int 0 0] }) (by rw [e]; simp) (by simpa using strsAre_of r) (zz its r) PySem.F.sub_tuple_set PySem.F.sub_tuple_frozenset (by decide) (fun led => ⟨_, Heap.get?_push_of_some _ e, ec⟩)
      (fun led A Q E k => wpAny_pyIter_tuple (il.push _) (it led _ Q k)) ((Walks.tuple (hh _ (I1.ok.hd hc)) _ l ne its.toArray).toS) (fun a b e => e) (fun b hb => List.mem_singleton.mp hb) (fun led => ⟨⟨_, g2 led _ rfl, rfl, rfl⟩, (il.push _).push _⟩) fun h' tk o => fin its r h' tk o
end
end Sr

set_option Elab.async false
set_option linter.all false
set_option maxRecDepth 100000
set_option maxHeartbeats 4000000
namespace Sr
open PySem PySem.Spec PyProof.Rows L2
/-! ### list(d.values()) -/
def tListValues (te : TE) : TE := fun σ H Q => te σ H fun x H1 => ∃ d kvs, x = .ref d ∧ H1 d = some (.dK kvs) ∧ ∀ p, H1 p = none → Q (.ref p) (upd H1 p (.lst (kvs.map (·.2))))
theorem vals_of_kv : ∀ {kvs : List (Key × V)} {vs : List (Key × Value)}, KV kvs vs → Vals (kvs.map (·.2)) (vs.map (·.2))
  | _, _, .nil => .nil
  | _, _, .cons h t => .cons h.2 (vals_of_kv t)
theorem pe_listValues {X : Cx} {e : Expr} {te : TE} {p apos cpos pos : Pos} (hg : Gl X "list") (hm : X.mg "list" = none) (he : PE X e te) (hc : X.calm = true := by rfl) (hbase : attributeBase e "values" X.env (eval e X.env) = eval e X.env := by rfl) (hline : (apos.endLine == cpos.line) = true := by rfl)
    (hs : starEach [.Call (.Attribute e "values" apos) [] [] cpos] X.env = (false, eval (.Call (.Attribute e "values" apos) [] [] cpos) X.env) :: starEach [] X.env := by rfl) :
    PE X (.Call (.Name "list" p) [.Call (.Attribute e "values" apos) [] [] cpos] [] pos) (tListValues te) := by
  refine ⟨fun pins s σ H Q I hq => ?_⟩
  refine wpAny_Call_Name_kw (ld_blt (u := .type "list") I hg hm (by decide +kernel) ?_)
  refine PyProof.Rows.callWith_type1 ?_ hs rfl
  rw [hs]
  show wpAny _ _ (spliced ((false, eval (.Call (.Attribute e "values" apos) [] [] cpos) X.env) :: backTo pos (starEach [] X.env))) _ _ s
  refine Calls.spliced_cons ?_
  refine wpAny_Call_method (T := "dict") (id := "dict.values") hbase rfl hline F.plainAttrs_dict F.slot_dict_values F.type_dict_values (thn (he.run pins s σ H _ I hq) fun u s1 ⟨x, H1, I1, rx, d, kvs, ex, hd, q⟩ => ?_)
  subst ex
  obtain rfl : u = Value.ref d := rx
  obtain ⟨hz, hs0, vs, kv, hdo⟩ := I1.hok d _ hd
  obtain ⟨ep, hat⟩ := hdo.dictAt
  have lk : kvs.length = vs.length := Paired.length kv
  have I2 : Inv X pins σ H1 { s1 with heap := s1.heap.push { cls := .type "dict_values", data := .fields #[.ref d] } } := I1.kept (t' := s1.toks) fun b ob q => Heap.get?_push_of_some _ q
  refine ⟨hdo.typeIs, hdo.mapOf.noDict, ?_⟩
  show wpAny _ _ (callWith cpos (.builtin "dict.values") [.ref d] [] []) _ X.xe s1
  refine method_meetsIn F.slot_dict_values F.entry_dict_values rfl (PySem.evalArgs_none ⟨rfl, hdo.typeIs, F.args_dict_values_1 _, _, meets_dict_values (mixKind X.prog X.w) d hs0, ⟨vs, hdo⟩, ?_⟩)
  refine Calls.spliced_nil ?_
  refine PySem.W.kdl_call (PySem.W.kdl_values (knd := mixKind X.prog X.w) (kvs := vs) (ep := ep) (d := d) (r := s1.heap.objs.size)) (I1.ok.hd hc) ⟨⟨_, Heap.get?_push_size _ rfl, rfl, rfl⟩, hat.push _⟩ (by omega) fun h' tk acc c hk hS hacc => ?_
  have ev : acc.toList = vs.map (·.2) := PySem.W.kdl_vals_eq _ (by rw [Array.length_toList]; exact hacc.1) fun j v e => hacc.2 j v (by rw [← Array.getElem?_toList]; exact e)
  have hv : Vals (kvs.map (·.2)) acc.toList := by rw [ev]; exact vals_of_kv kv
  exact ⟨.ref _, _, I2.laid (t' := tk) hk (Nat.le_refl _) (show ObjOk X.prog X.w _ _ _ (.lst (kvs.map (·.2))) from ⟨by rw [List.length_map]; exact hz, acc.toList, c, hv, by rw [Array.toArray_toList]; exact hS⟩), rfl, q _ (I2.hok.fresh (Nat.le_refl _))⟩
end Sr

set_option Elab.async false
set_option linter.all false
set_option maxRecDepth 100000
set_option maxHeartbeats 4000000
namespace Sr
open PySem PySem.Spec PyProof.Rows L2
/-! ### data as they are passed about -/
inductive Dt where
  | non | bl (b : Bool) | int (i : Int) | str (s : Str) | lst (l : List Dt) | tup (l : List Dt) | dic
mutual
/-- v stands for d in the heap H -/
inductive Is (H : Hp) : V → Dt → Prop
  | non : Is H .non .non
  | bl (b : Bool) : Is H (.bl b) (.bl b)
  | int (i : Int) : Is H (.int i) (.int i)
  | str (s : Str) (h : s.length ≤ 1000) : Is H (.str s) (.str s)
  | lst {a : Addr} {xs : List V} {ds : List Dt} : H a = some (.lst xs) → IsA H xs ds → xs.length ≤ 60 → Is H (.ref a) (.lst ds)
  | tup {a : Addr} {xs : List V} {ds : List Dt} : H a = some (.tup xs) → IsA H xs ds → xs.length ≤ 60 → Is H (.ref a) (.tup ds)
  | dic {a : Addr} {kvs : List (Key × V)} : H a = some (.dK kvs) → Is H (.ref a) .dic
inductive IsA (H : Hp) : List V → List Dt → Prop
  | nil : IsA H [] []
  | cons {v : V} {vs : List V} {d : Dt} {ds : List Dt} : Is H v d → IsA H vs ds → IsA H (v :: vs) (d :: ds)
end
mutual
theorem Is.mono {H H' : Hp} (e : Same H H') : ∀ {v : V} {d : Dt}, Is H v d → Is H' v d
  | _, _, .non => .non
  | _, _, .bl b => .bl b
  | _, _, .int i => .int i
  | _, _, .str s h => .str s h
  | _, _, .lst h r z => .lst (e _ _ h) (IsA.mono e r) z
  | _, _, .tup h r z => .tup (e _ _ h) (IsA.mono e r) z
  | _, _, .dic h => .dic (e _ _ h)
theorem IsA.mono {H H' : Hp} (e : Same H H') : ∀ {vs : List V} {ds : List Dt}, IsA H vs ds → IsA H' vs ds
  | _, _, .nil => .nil
  | _, _, .cons h r => .cons (Is.mono e h) (IsA.mono e r)
end
theorem IsA.len {H : Hp} : ∀ {vs : List V} {ds : List Dt}, IsA H vs ds → vs.length = ds.length
  | _, _, .nil => rfl
  | _, _, .cons _ r => congrArg (· + 1) (IsA.len r)
theorem IsA.get {H : Hp} : ∀ {vs : List V} {ds : List Dt} {i : Nat} {v : V}, IsA H vs ds → vs[i]? = some v → ∃ d, ds[i]? = some d ∧ Is H v d
  | _, _, _, _, .nil, e => by simp at e
  | _, _, 0, _, .cons h _, e => by simp at e; subst e; exact ⟨_, rfl, h⟩
  | _, _, i + 1, v, .cons _ r, e => by
    obtain ⟨d, h1, h2⟩ := IsA.get (i := i) (v := v) r (by simpa using e)
    exact ⟨d, by simpa using h1, h2⟩
theorem IsA.app {H : Hp} : ∀ {xs ys : List V} {ds es : List Dt}, IsA H xs ds → IsA H ys es → IsA H (xs ++ ys) (ds ++ es)
  | _, _, _, _, .nil, s => s
  | _, _, _, _, .cons h r, s => .cons h (IsA.app r s)
theorem IsA.take {H : Hp} : ∀ {xs : List V} {ds : List Dt} (n : Nat), IsA H xs ds → IsA H (xs.take n) (ds.take n)
  | _, _, 0, _ => by simp; exact .nil
  | _, _, _ + 1, .nil => .nil
  | _, _, n + 1, .cons h r => .cons h (IsA.take n r)
theorem IsA.drop {H : Hp} : ∀ {xs : List V} {ds : List Dt} (n : Nat), IsA H xs ds → IsA H (xs.drop n) (ds.drop n)
  | _, _, 0, r => r
  | _, _, _ + 1, .nil => .nil
  | _, _, n + 1, .cons _ r => IsA.drop n r
/-- the name of the type -/
def tyN : Dt → String
  | .non => "NoneType" | .bl _ => "bool" | .int _ => "int" | .str _ => "str" | .lst _ => "list" | .tup _ => "tuple" | .dic => "dict"
theorem Is.ty {K : PySem.W.Frag} {H : Hp} {v : V} {d : Dt} (h : Is H v d) : TyX K H v (.type (tyN d)) := by
  cases h with
  | non => exact .base .non
  | bl b => exact .base (.bl b)
  | int i => exact .base (.int i)
  | str s h => exact .base (.str s)
  | lst h r z => exact .base (.lst h)
  | tup h r z => exact .base (.tup h)
  | dic h => exact .base (.dK h)
def isSeq : Dt → Bool
  | .lst _ => true
  | .tup _ => true
  | _ => false
def isStr : Dt → Bool
  | .str _ => true
  | _ => false
def isInt : Dt → Bool
  | .int _ => true
  | .bl _ => true
  | _ => false
def isBl : Dt → Bool
  | .bl _ => true
  | _ => false
theorem kit_two {K : PySem.W.Frag} {t c1 c2 : Value} {a b : Bool} (h1 : PySem.W.kitOne K t c1 = some a) (h2 : PySem.W.kitOne K t c2 = some b) : PySem.W.kitAny K t [c1, c2] = some (a || b) := by
  refine kitAny_cons h1 (fun e => kitAny_cons h2 (fun e2 => ?_) fun e2 => ?_) fun e => ?_
  · rw [e, e2]; rfl
  · rw [e, e2]; rfl
  · rw [e]; rfl
def isLst : Dt → Bool
  | .lst _ => true
  | _ => false
def isTup : Dt → Bool
  | .tup _ => true
  | _ => false
theorem kit_list (K : PySem.W.Frag) : ∀ d : Dt, PySem.W.kitOne K (.type (tyN d)) (.type "list") = some (isLst d)
  | .non => kit_ty (show kitB "NoneType" "list" = some false by decide +kernel)
  | .bl b => kit_ty (show kitB "bool" "list" = some false by decide +kernel)
  | .int i => kit_ty (show kitB "int" "list" = some false by decide +kernel)
  | .str s => kit_ty (show kitB "str" "list" = some false by decide +kernel)
  | .lst l => kit_ty (show kitB "list" "list" = some true by decide +kernel)
  | .tup l => kit_ty (show kitB "tuple" "list" = some false by decide +kernel)
  | .dic => kit_ty (show kitB "dict" "list" = some false by decide +kernel)
theorem kit_tuple (K : PySem.W.Frag) : ∀ d : Dt, PySem.W.kitOne K (.type (tyN d)) (.type "tuple") = some (isTup d)
  | .non => kit_ty (show kitB "NoneType" "tuple" = some false by decide +kernel)
  | .bl b => kit_ty (show kitB "bool" "tuple" = some false by decide +kernel)
  | .int i => kit_ty (show kitB "int" "tuple" = some false by decide +kernel)
  | .str s => kit_ty (show kitB "str" "tuple" = some false by decide +kernel)
  | .lst l => kit_ty (show kitB "list" "tuple" = some false by decide +kernel)
  | .tup l => kit_ty (show kitB "tuple" "tuple" = some true by decide +kernel)
  | .dic => kit_ty (show kitB "dict" "tuple" = some false by decide +kernel)
theorem kit_seq (K : PySem.W.Frag) (d : Dt) : PySem.W.kitAny K (.type (tyN d)) [.type "list", .type "tuple"] = some (isSeq d) := by
  rw [kit_two (kit_list K d) (kit_tuple K d)]
  cases d <;> rfl
theorem kit_str (K : PySem.W.Frag) : ∀ d : Dt, PySem.W.kitOne K (.type (tyN d)) (.type "str") = some (isStr d)
  | .non => kit_ty (show kitB "NoneType" "str" = some false by decide +kernel)
  | .bl b => kit_ty (show kitB "bool" "str" = some false by decide +kernel)
  | .int i => kit_ty (show kitB "int" "str" = some false by decide +kernel)
  | .str s => kit_ty (show kitB "str" "str" = some true by decide +kernel)
  | .lst l => kit_ty (show kitB "list" "str" = some false by decide +kernel)
  | .tup l => kit_ty (show kitB "tuple" "str" = some false by decide +kernel)
  | .dic => kit_ty (show kitB "dict" "str" = some false by decide +kernel)
theorem kit_int (K : PySem.W.Frag) : ∀ d : Dt, PySem.W.kitOne K (.type (tyN d)) (.type "int") = some (isInt d)
  | .non => kit_ty (show kitB "NoneType" "int" = some false by decide +kernel)
  | .bl b => kit_ty (show kitB "bool" "int" = some true by decide +kernel)
  | .int i => kit_ty (show kitB "int" "int" = some true by decide +kernel)
  | .str s => kit_ty (show kitB "str" "int" = some false by decide +kernel)
  | .lst l => kit_ty (show kitB "list" "int" = some false by decide +kernel)
  | .tup l => kit_ty (show kitB "tuple" "int" = some false by decide +kernel)
  | .dic => kit_ty (show kitB "dict" "int" = some false by decide +kernel)
theorem kit_bool (K : PySem.W.Frag) : ∀ d : Dt, PySem.W.kitOne K (.type (tyN d)) (.type "bool") = some (isBl d)
  | .non => kit_ty (show kitB "NoneType" "bool" = some false by decide +kernel)
  | .bl b => kit_ty (show kitB "bool" "bool" = some true by decide +kernel)
  | .int i => kit_ty (show kitB "int" "bool" = some false by decide +kernel)
  | .str s => kit_ty (show kitB "str" "bool" = some false by decide +kernel)
  | .lst l => kit_ty (show kitB "list" "bool" = some false by decide +kernel)
  | .tup l => kit_ty (show kitB "tuple" "bool" = some false by decide +kernel)
  | .dic => kit_ty (show kitB "dict" "bool" = some false by decide +kernel)
/-- the texts of a list of data -/
def strsOf : List Dt → List Str
  | [] => []
  | .str s :: r => s :: strsOf r
  | _ :: r => strsOf r
theorem IsA.strs {H : Hp} : ∀ {xs : List V} {ds : List Dt}, IsA H xs ds → ds.all isStr = true → xs = (strsOf ds).map V.str
  | _, _, .nil, _ => rfl
  | _, _, .cons (.str s h) r, e => by
    have e2 := IsA.strs r (by simpa [isStr] using e)
    show _ = V.str s :: _
    rw [e2]
  | _, _, .cons .non r, e => by simp [isStr] at e
  | _, _, .cons (.bl b) r, e => by simp [isStr] at e
  | _, _, .cons (.int b) r, e => by simp [isStr] at e
  | _, _, .cons (.lst h z y) r, e => by simp [isStr] at e
  | _, _, .cons (.tup h z y) r, e => by simp [isStr] at e
  | _, _, .cons (.dic h) r, e => by simp [isStr] at e
theorem cls_two (a b : String) : Paired ClsV [V.ty a, V.ty b] [.type a, .type b] := .cons (.ty a) (.cons (.ty b) .nil)
theorem two_line : (2 : Nat) ≤ sizeLine := by rw [sizeLine_eq]; decide
theorem Same.up {H : Hp} {p : Addr} {o : HO} (h : H p = none) : Same H (upd H p o) := fun b u e => by
  rw [upd_ne (ne_of_none e h)]
  exact e
end Sr

set_option Elab.async false
set_option linter.all false
set_option maxRecDepth 100000
set_option maxHeartbeats 4000000
namespace Sr
open PySem PySem.Spec PyProof.Rows L2
/-- a comprehension of one name whose elements change nothing that stood: the list of what they are -/
theorem lc_pure {J : It} {n : Nat} {G : Hp → Prop} {Y : Nat → Hp → V → Hp → Prop} {At : Nat → V → Prop} (w : Walk J n G Y) (hy : ∀ i H x H', Y i H x H' → H' = H ∧ At i x) {te : TE} {j : Nat} {σ : L2.St} {H : Hp} {D : Addr} {Qd : Hp → Prop}
    (ys : List V) (hn : ys.length = n) (hz : n < sizeLine) (hD : H D = none) (hG : ∀ H', Same H H' → G H')
    (turn : ∀ (i : Nat) (x y : V) (H1 : Hp) (Q : VK), i < n → At i x → ys[i]? = some y → Same H H1 → (∀ H2, Same H1 H2 → Q y H2) → te ((σ.set j none).set j (some x)) H1 Q)
    (fin : ∀ H', Same H H' → H' D = some (.lst ys) → Qd H') :
    ∃ W : Nat → Nat → Hp → Prop, (∃ m, W 0 m (upd H D (.lst []))) ∧ ∀ i m H, W i m H →
      (J.stop i H ∧ Qd H) ∨ (J.go i H ∧ ∃ Nx : Hp → Prop, (∀ H', Nx H' → ∃ m', m' < m ∧ W (i + 1) m' H') ∧ ∀ x H', J.yld i H x H' → (gName j) x (wipe σ [j]) H' fun σ2 H2 => wipe σ2 [j] = wipe σ [j] ∧ tYes σ2 H2 fun b H3 =>
        if b = true then te σ2 H3 fun y H4 => ∃ acc, H4 D = some (.lst acc) ∧ acc.length < sizeLine ∧ Nx (upd H4 D (.lst (acc ++ [y]))) else Nx H3) := by
  have below : ∀ {H1 H2 : Hp} {o : HO}, Same H H1 → Same H1 H2 → Same H (upd H2 D o) := fun {H1 H2 o} a b c u e => by
    rw [upd_ne (ne_of_none e hD)]
    exact b _ _ (a _ _ e)
  refine lc_it w (fun i H' => Same H H' ∧ H' D = some (.lst (ys.take i))) ⟨Same.up hD, by rw [upd_same]; simp⟩ (fun i H' _ p => hG H' p.1) (fun i x H1 H2 hi p y => ?_) fun H' p => fin H' p.1 (by rw [p.2, ← hn, List.take_length])
  obtain ⟨rfl, hx⟩ := hy _ _ _ _ y
  refine ⟨?_, ?_⟩
  · show ((σ.set j none).set j (some x)).set j none = σ.set j none
    rw [List.set_set, List.set_set]
  · unfold tYes
    simp only [if_true]
    have hi' : i < ys.length := by omega
    refine turn i x ys[i] H2 _ hi hx (List.getElem?_eq_getElem hi') p.1 fun H3 s3 => ?_
    refine ⟨_, s3 _ _ p.2, by rw [List.length_take]; omega, below p.1 s3, ?_⟩
    rw [upd_same, List.take_add_one, List.getElem?_eq_getElem hi']
    rfl
theorem walk_at {xs : List V} : ∀ (i : Nat) (H : Hp) (x : V) (H' : Hp), YAt xs i H x H' → H' = H ∧ xs[i]? = some x := fun _ _ _ _ y => y
/-- all([.. for ..]) behind its list -/
theorem all_of {K : PySem.W.Frag} {H : Hp} {D : Addr} {bs : List Bool} {Q : VK} (h : H D = some (.lst (bs.map V.bl))) (q : Q (.bl (bs.all id)) H) : (rAll K) [V.ref D] H Q := ⟨D, bs, rfl, SqL.of h, q⟩
theorem sz {n m : Nat} (h : n ≤ m) (hm : m ≤ 1000000 := by decide) : n < sizeLine := by
  rw [sizeLine_eq]
  exact Nat.lt_of_le_of_lt (Nat.le_trans h hm) (by decide)
/-- a built-in class as a value -/
theorem pe_tyv {X : Cx} {x : Str} {n : String} {p : Pos} (hg : Gl X x) (hm : X.mg x = none) (hv : bootBuiltins x = some (.type n)) (hn : x ≠ "__name__" := by decide) (hd : (x == ("__debug__" : Str)) = false := by decide) : PE X (.Name x p) (tC (.ty n)) :=
  pe_bltn hg hm hv rfl hn hd
end Sr

set_option Elab.async false
set_option linter.all false
set_option maxRecDepth 100000
set_option maxHeartbeats 4000000
namespace Sr
open PySem PySem.Spec PyProof.Rows L2
/-! ### a table of the top with text keys, wholly known -/
theorem find_out {P : Params} {z : Str} : ∀ {es : List DictEntry} {ks : List Str}, es.map He.keyOf = He.keysIn P ks → z ∉ ks → es.find? (·.key.isStr z) = none ∧ es.any (·.refKey) = false
  | [], _, _, _ => ⟨rfl, rfl⟩
  | e :: r, [], h, _ => by cases h
  | e :: r, k :: ks, h, hz => by
    have h1 : He.keyOf e :: r.map He.keyOf = some (k, PyData.keyHash P k) :: He.keysIn P ks := h
    injection h1 with h2 h3
    obtain ⟨i1, i2⟩ := find_out h3 fun m => hz (List.mem_cons_of_mem _ m)
    have hk : k ≠ z := fun q => hz (by rw [q]; exact List.mem_cons_self)
    obtain ⟨hs, ky, vl⟩ := e
    unfold He.keyOf at h2
    cases ky with
    | str x t =>
      have e1 : (x, hs) = (k, PyData.keyHash P k) := Option.some.inj h2
      obtain rfl : x = k := congrArg Prod.fst e1
      have n1 : (Value.str x t).isStr z = false := by
        show (x == z) = false
        simpa using hk
      exact ⟨by rw [List.find?_cons, n1]; exact i1, by rw [List.any_cons, i2]; rfl⟩
    | _ => cases h2
theorem tab_list {K : PySem.W.Frag} {w : World} {a : Addr} {ks : List Str} (h : He.dicW K a = some (He.keysIn w.params ks)) : ∃ es n, KDict K w a es n ∧ es.toList.map He.keyOf = He.keysIn w.params ks := by
  obtain ⟨es, n, D⟩ := He.dicW_ok h
  refine ⟨es, n, D, ?_⟩
  unfold He.dicW at h
  rw [D.at_] at h
  have h1 : (match decide ("dict" = "dict") && (#[].isEmpty && !(a == sysModules)) with
    | true => some (es.toList.map He.keyOf)
    | false => none) = some (He.keysIn w.params ks) := h
  rw [D.low] at h1
  exact Option.some.inj h1
theorem nsIn_out {K : PySem.W.Frag} {w : World} {a : Addr} {es : Array DictEntry} {n : Nat} {ks : List Str} {z : Str} (D : KDict K w a es n) (h : es.toList.map He.keyOf = He.keysIn w.params ks) (hz : z ∉ ks) : PySem.W.nsIn K a z = some none := by
  obtain ⟨h1, h2⟩ := find_out h hz
  unfold PySem.W.nsIn
  rw [D.at_]
  show (match es.toList.find? (·.key.isStr z) with
      | some e => some (some e.val)
      | none => if es.toList.any (·.refKey) then none else some none) = some none
  rw [h1]
  show (if es.toList.any (·.refKey) then none else some none) = some none
  rw [h2]
  rfl
/-- a call of a local name that holds a def of the top -/
theorem pe_calL {X : Cx} {k k' i : Nat} {x x0 : Str} {ps : List Str} {sp : Sp} {a : Addr} {p pos : Pos} {e : Expr} {es : List Expr} {t : TA} (C : Cal X.prog X.w X.K X.mg X.base k x0 ps sp) (hm0 : X.mg x0 = some (.ref a)) (hr : Room k' X.A) (hk : k ≤ k') (hN : X.N[i]? = some x) (hv : Vis X.env.scope x) (ha : PA X (e :: es) t)
    (hdb : (x == ("__debug__" : Str)) = false := by decide) (hcd : (x == ("__classdict__" : Str)) = false := by decide)
    (he : starEach (e :: es) X.env = (false, eval e X.env) :: starEach es X.env := by rfl) (hpl : (backTo pos (starEach es X.env)).any (·.1) = false := by rfl) : PE X (.Call (.Name x p) (e :: es) [] pos) (tCallL i a sp [] E0 t) := by
  obtain ⟨f, fd, F, hm, hkp, hb⟩ := C.ex
  obtain rfl : f = a := by
    have := hm.symm.trans hm0
    injection this with this
    injection this
  exact pe_callL F (hr.mono hk) hN hv hkp hb .nil pass0 ha hdb hcd he hpl
end Sr

set_option Elab.async false
set_option linter.all false
set_option maxRecDepth 100000
set_option maxHeartbeats 4000000
namespace Sr
open PySem PySem.Spec PyProof.Rows L2
/-! ### dicts with text keys, as pairs of a text and what stands for it -/
/-- the entries of kvs are the texts ss, in order, and what Rv says of each stands under it -/
abbrev Ent (Rv : Str → V → Prop) (kvs : List (Key × V)) (ss : List Str) : Prop := Paired (fun kv s => kv.1 = Sum.inr s ∧ Rv s kv.2) kvs ss
theorem Ent.keys {Rv : Str → V → Prop} : ∀ {kvs : List (Key × V)} {ss : List Str}, Ent Rv kvs ss → kvs.map (·.1) = ss.map Sum.inr
  | _, _, .nil => rfl
  | _, _, .cons h r => by rw [List.map_cons, List.map_cons, h.1, Ent.keys r]
theorem Ent.imp {Rv Rv' : Str → V → Prop} (f : ∀ s v, Rv s v → Rv' s v) : ∀ {kvs : List (Key × V)} {ss : List Str}, Ent Rv kvs ss → Ent Rv' kvs ss
  | _, _, .nil => .nil
  | _, _, .cons h r => .cons ⟨h.1, f _ _ h.2⟩ (Ent.imp f r)
theorem Ent.len {Rv : Str → V → Prop} {kvs : List (Key × V)} {ss : List Str} (h : Ent Rv kvs ss) : kvs.length = ss.length := Paired.length h
theorem Ent.snoc {Rv : Str → V → Prop} {s : Str} {v : V} (hv : Rv s v) : ∀ {kvs : List (Key × V)} {ss : List Str}, Ent Rv kvs ss → Ent Rv (kvs ++ [(Sum.inr s, v)]) (ss ++ [s])
  | _, _, .nil => .cons ⟨rfl, hv⟩ .nil
  | _, _, .cons h r => .cons h (Ent.snoc hv r)
theorem Ent.at_ {Rv : Str → V → Prop} {s : Str} : ∀ {kvs : List (Key × V)} {ss : List Str}, Ent Rv kvs ss → s ∈ ss → ∃ v, valV kvs (Sum.inr s) = some v ∧ Rv s v
  | _, _, .cons (a := kv) (b := x) h r, m => by
    unfold valV
    rw [List.find?_cons]
    by_cases c : x = s
    · subst c
      rw [h.1, decide_eq_true rfl]
      exact ⟨_, rfl, h.2⟩
    · have m' : s ∈ _ := (List.mem_cons.mp m).resolve_left fun q => c q.symm
      rw [h.1, decide_eq_false fun q => c (Sum.inr.inj q)]
      exact Ent.at_ r m'
theorem Ent.out {Rv : Str → V → Prop} {s : Str} : ∀ {kvs : List (Key × V)} {ss : List Str}, Ent Rv kvs ss → s ∉ ss → valV kvs (Sum.inr s) = none
  | _, _, .nil, _ => rfl
  | _, _, .cons (a := kv) (b := x) h r, m => by
    unfold valV
    rw [List.find?_cons, h.1, decide_eq_false fun q => m (by rw [Sum.inr.inj q]; exact List.mem_cons_self)]
    exact Ent.out r fun q => m (List.mem_cons_of_mem _ q)
theorem Ent.has {Rv : Str → V → Prop} {kvs : List (Key × V)} {ss : List Str} (h : Ent Rv kvs ss) (s : Str) : (valV kvs (Sum.inr s)).isSome = decide (s ∈ ss) := by
  by_cases m : s ∈ ss
  · obtain ⟨v, e, _⟩ := h.at_ m
    rw [e, decide_eq_true m]
    rfl
  · rw [h.out m, decide_eq_false m]
    rfl
theorem putK_new {kvs : List (Key × V)} {k : Key} {v : V} (h : k ∉ kvs.map (·.1)) : putK kvs k v = kvs ++ [(k, v)] := by
  unfold putK
  rw [if_neg]
  intro q
  obtain ⟨kv, m, e⟩ := List.any_eq_true.mp q
  exact h (List.mem_map.mpr ⟨kv, m, of_decide_eq_true e⟩)
theorem Ent.put {Rv : Str → V → Prop} {kvs : List (Key × V)} {ss : List Str} {s : Str} {v : V} (h : Ent Rv kvs ss) (m : s ∉ ss) (hv : Rv s v) : Ent Rv (putK kvs (Sum.inr s) v) (ss ++ [s]) := by
  rw [putK_new]
  · exact h.snoc hv
  · rw [h.keys]
    intro q
    obtain ⟨x, m', e⟩ := List.mem_map.mp q
    exact m (by rw [← Sum.inr.inj e]; exact m')
/-- a dict comprehension of one name with unlike texts for keys; nothing that stood is changed -/
theorem dc_texts {J : It} {n : Nat} {G : Hp → Prop} {Y : Nat → Hp → V → Hp → Prop} {At : Nat → V → Prop} (w : Walk J n G Y) (hy : ∀ i H x H', Y i H x H' → H' = H ∧ At i x) {tk tv : TE} {j : Nat} {σ : L2.St} {H : Hp} {D : Addr} {Qd : Hp → Prop}
    (ss : List Str) (hn : ss.length = n) (nd : ss.Nodup) (hz : n < sizeLine) (hD : H D = none) (hG : ∀ H', Same H H' → G H') (Rv : Hp → Str → V → Prop) (mono : ∀ H1 H2 s v, Same H1 H2 → Rv H1 s v → Rv H2 s v)
    (lay : ∀ H1 s v c c', H1 D = some (.dK c) → Rv H1 s v → Rv (upd H1 D (.dK c')) s v)
    (turn : ∀ (i : Nat) (x : V) (s : Str) (H1 : Hp) (R : V → V → Hp → Prop), i < n → At i x → ss[i]? = some s → Same H H1 → (∀ H2 z, Same H1 H2 → Rv H2 s z → R (.str s) z H2) → tk ((σ.set j none).set j (some x)) H1 fun y H2 => tv ((σ.set j none).set j (some x)) H2 fun z H3 => R y z H3)
    (fin : ∀ H' kvs, Same H H' → H' D = some (.dK kvs) → Ent (Rv H') kvs ss → Qd H') :
    ∃ W : Nat → Nat → Hp → Prop, (∃ m, W 0 m (upd H D (.dK []))) ∧ ∀ i m H, W i m H →
      (J.stop i H ∧ Qd H) ∨ (J.go i H ∧ ∃ Nx : Hp → Prop, (∀ H', Nx H' → ∃ m', m' < m ∧ W (i + 1) m' H') ∧ ∀ x H', J.yld i H x H' → (gName j) x (wipe σ [j]) H' fun σ2 H2 => wipe σ2 [j] = wipe σ [j] ∧ tYes σ2 H2 fun b H3 =>
        if b = true then tk σ2 H3 fun y H4 => tv σ2 H4 fun z H5 => ∃ kvs k, y = kV k ∧ H5 D = some (.dK kvs) ∧ kvs.length < sizeLine ∧ Nx (upd H5 D (.dK (putK kvs k z))) else Nx H3) := by
  have below : ∀ {H1 H2 : Hp} {o : HO}, Same H H1 → Same H1 H2 → Same H (upd H2 D o) := fun {H1 H2 o} a b c u e => by
    rw [upd_ne (ne_of_none e hD)]
    exact b _ _ (a _ _ e)
  refine ⟨fun i m H' => m = n - i ∧ i ≤ n ∧ Same H H' ∧ ∃ kvs, H' D = some (.dK kvs) ∧ Ent (Rv H') kvs (ss.take i), ⟨n, by simp, Nat.zero_le _, Same.up hD, [], upd_same, by rw [List.take_zero]; exact .nil⟩, ?_⟩
  rintro i m H1 ⟨rfl, hi, s1, kvs, hd, he⟩
  by_cases lt : i < n
  · refine .inr ⟨w.goes i H1 lt (hG _ s1), fun H' => i + 1 ≤ n ∧ Same H H' ∧ ∃ kvs, H' D = some (.dK kvs) ∧ Ent (Rv H') kvs (ss.take (i + 1)), fun H' p => ⟨n - (i + 1), by omega, rfl, p⟩, fun x H2 y => ?_⟩
    obtain ⟨rfl, hx⟩ := hy _ _ _ _ (w.yields i H1 x H2 lt (hG _ s1) y)
    refine ⟨?_, ?_⟩
    · show ((σ.set j none).set j (some x)).set j none = σ.set j none
      rw [List.set_set, List.set_set]
    · unfold tYes
      simp only [if_true]
      have hi' : i < ss.length := by omega
      refine turn i x ss[i] H2 _ lt hx (List.getElem?_eq_getElem hi') s1 fun H3 z s3 rv => ?_
      have hl := he.len
      rw [List.length_take] at hl
      have nm : ss[i] ∉ ss.take i := fun q => by
        obtain ⟨a, ha, e⟩ := List.mem_take_iff_getElem.mp q
        exact (List.pairwise_iff_getElem.mp nd) a i (by omega) hi' (by omega) e
      refine ⟨kvs, Sum.inr ss[i], rfl, s3 _ _ hd, by omega, lt, below s1 s3, _, upd_same, ?_⟩
      rw [List.take_add_one, List.getElem?_eq_getElem hi']
      have r1 : Ent (Rv (upd H3 D (.dK (putK kvs (Sum.inr ss[i]) z)))) kvs (ss.take i) := he.imp fun s v r => lay _ _ _ _ _ (s3 _ _ hd) (mono _ _ _ _ s3 r)
      exact r1.put nm (lay _ _ _ _ _ (s3 _ _ hd) rv)
  · obtain rfl : i = n := by omega
    refine .inl ⟨w.stops H1 (hG _ s1), fin H1 kvs s1 hd ?_⟩
    rwa [← hn, List.take_length] at he
end Sr

set_option Elab.async false
set_option linter.all false
set_option maxRecDepth 100000
set_option maxHeartbeats 4000000
namespace Sr
open PySem PySem.Spec PyProof.Rows L2
/-! ### rules that name the written part, for a comprehension's block -/
section
variable {X : Cx}
theorem op_in_seqK (K : PySem.W.Frag) (hK : X.K = K) : OpR X (compareOp .In) (rIn K false) := hK ▸ op_in_seq
theorem call_isiK' (K : PySem.W.Frag) (hK : X.K = K) : CallR X (.builtin "isinstance") (rIsi K) := hK ▸ call_isi
theorem call_isiTK (K : PySem.W.Frag) (hK : X.K = K) : CallR X (.builtin "isinstance") (rIsiT K) := hK ▸ call_isiT
theorem ix_listK (K : PySem.W.Frag) (hK : X.K = K) : IxR X (rIxL K) := hK ▸ ix_list
theorem ix_tupK (K : PySem.W.Frag) (hK : X.K = K) : IxR X (rIxT K) := hK ▸ ix_tup
theorem call_len_seqK (K : PySem.W.Frag) (hK : X.K = K) : CallR X (.builtin "len") (fun xs H Q => ∃ p ys, xs = [.ref p] ∧ (SqL K H p ys ∨ SqT K H p ys) ∧ Q (.int ys.length) H) := hK ▸ call_len_seq
theorem call_list_ofK (K : PySem.W.Frag) (hK : X.K = K) : CallR X (.type "list") (fun xs H Q => ∃ p ys, xs = [.ref p] ∧ (SqL K H p ys ∨ SqT K H p ys) ∧ ∀ l, H l = none → Q (.ref l) (upd H l (.lst ys))) := hK ▸ call_list_of
theorem call_tuple_ofK (K : PySem.W.Frag) (hK : X.K = K) : CallR X (.type "tuple") (fun xs H Q => ∃ p ys, xs = [.ref p] ∧ ((SqL K H p ys ∧ ∀ l, H l = none → Q (.ref l) (upd H l (.tup ys))) ∨ (SqT K H p ys ∧ Q (.ref p) H))) := hK ▸ call_tuple_of
theorem op_eqDK (K : PySem.W.Frag) (hK : X.K = K) (h : X.A.units + 64 < cLine) : OpR X (compareOp .Eq) (rEqD K) := hK ▸ op_eqD h
theorem op_neDK (K : PySem.W.Frag) (hK : X.K = K) (h : X.A.units + 64 < cLine) : OpR X (compareOp .NotEq) (rNeD K) := hK ▸ op_neD h
end
theorem Paired.at2 {α β : Type} {F : α → β → Prop} : ∀ {l : List α} {m : List β} {i : Nat} {a : α} {b : β}, Paired F l m → l[i]? = some a → m[i]? = some b → F a b
  | _, _, _, _, _, .nil, h, _ => by simp at h
  | _, _, 0, _, _, .cons h _, h1, h2 => by
    simp at h1 h2
    rw [← h1, ← h2]
    exact h
  | _, _, i + 1, a, b, .cons _ r, h1, h2 => Paired.at2 (i := i) (a := a) (b := b) r (by simpa using h1) (by simpa using h2)
end Sr

set_option Elab.async false
set_option linter.all false
set_option maxRecDepth 100000
set_option maxHeartbeats 4000000
namespace Sr
open PySem PySem.Spec PyProof.Rows L2
/-! ### what a law's own steps leave: M is settled for ever, S may change -/
def DrawsO (o : HO) : Prop := ∃ x y z : Int, o = .lst [.int x, .int y, .int z]
def DrawsAt (H : Hp) (a : Addr) : Prop := ∃ o, H a = some o ∧ DrawsO o
structure Grow (S : List Addr) (M H M' H' : Hp) : Prop where
  stp : ∀ b o, b ∉ S → H b = some o → H' b = some o
  there : ∀ b, H b ≠ none → H' b ≠ none
  up : Same M M'
  nw : ∀ b o, M' b = some o → M b = some o ∨ H b = none
  sub : Same M' H'
theorem Grow.refl {S : List Addr} {M H : Hp} (s : Same M H) : Grow S M H M H := ⟨fun _ _ _ e => e, fun _ e => e, Same.refl _, fun _ _ e => .inl e, s⟩
theorem Grow.trans {S : List Addr} {M H M1 H1 M2 H2 : Hp} (g : Grow S M H M1 H1) (g' : Grow S M1 H1 M2 H2) : Grow S M H M2 H2 where
  stp := fun b o hb e => g'.stp b o hb (g.stp b o hb e)
  there := fun b e => g'.there b (g.there b e)
  up := g.up.trans g'.up
  nw := fun b o e => by
    rcases g'.nw b o e with h | h
    · exact g.nw b o h
    · cases q : H b with
      | none => exact .inr rfl
      | some u => exact absurd h (g.there b (by rw [q]; simp))
  sub := g'.sub
theorem Grow.mono {S S' : List Addr} {M H M' H' : Hp} (g : Grow S M H M' H') (h : ∀ b ∈ S, b ∈ S') : Grow S' M H M' H' :=
  ⟨fun b o hb e => g.stp b o (fun z => hb (h b z)) e, g.there, g.up, g.nw, g.sub⟩
/-- an address that stands and is not settled stays unsettled -/
theorem Grow.out {S : List Addr} {M H M' H' : Hp} (g : Grow S M H M' H') {b : Addr} (h1 : M b = none) (h2 : H b ≠ none) : M' b = none := by
  cases q : M' b with
  | none => rfl
  | some o =>
    rcases g.nw b o q with h | h
    · rw [h1] at h; cases h
    · exact absurd h h2
/-- nothing that stood is changed, nothing is settled -/
theorem Grow.same {S : List Addr} {M H H' : Hp} (s : Same M H) (e : Same H H') : Grow S M H M H' :=
  ⟨fun b o _ h => e b o h, fun b h => by
    cases q : H b with
    | none => exact absurd q h
    | some o => rw [e b o q]; simp, Same.refl _, fun _ _ h => .inl h, s.trans e⟩
/-- a new object, settled -/
theorem Grow.lay {S : List Addr} {M H : Hp} {p : Addr} {o : HO} (s : Same M H) (hp : H p = none) : Grow S M H (upd M p o) (upd H p o) := by
  have mp : M p = none := s.free hp
  refine ⟨fun b u _ e => Same.up hp b u e, fun b h => ?_, Same.up mp, fun b u e => ?_, fun b u e => ?_⟩
  · by_cases c : b = p
    · rw [c]; exact absurd hp (c ▸ h)
    · rw [upd_ne c]; exact h
  · by_cases c : b = p
    · rw [c]; exact .inr hp
    · rw [upd_ne c] at e; exact .inl e
  · by_cases c : b = p
    · rw [c] at e ⊢; rw [upd_same] at e ⊢; exact e
    · rw [upd_ne c] at e ⊢; exact s _ _ e
/-- an object that may change is changed -/
theorem Grow.chg {S : List Addr} {M H : Hp} {p : Addr} {o : HO} (s : Same M H) (mp : M p = none) (hS : p ∈ S) : Grow S M H M (upd H p o) :=
  ⟨fun b u hb e => by rw [upd_ne fun z => hb (by rw [z]; exact hS)]; exact e, fun b h => by
    by_cases c : b = p
    · rw [c, upd_same]; simp
    · rw [upd_ne c]; exact h, Same.refl _, fun _ _ h => .inl h, fun b u e => by
    rw [upd_ne fun z => by rw [z, mp] at e; cases e]
    exact s _ _ e⟩
/-- an object of one's own, made since, is changed -/
theorem Grow.own {S : List Addr} {M0 H0 M H : Hp} {p : Addr} {o : HO} (g : Grow S M0 H0 M H) (h0 : H0 p = none) (mp : M p = none) : Grow S M0 H0 M (upd H p o) :=
  ⟨fun b u hb e => by rw [upd_ne (ne_of_none e h0)]; exact g.stp b u hb e, fun b h => by
    by_cases c : b = p
    · rw [c, upd_same]; simp
    · rw [upd_ne c]; exact g.there b h, g.up, g.nw, fun b u e => by
    rw [upd_ne fun z => by rw [z, mp] at e; cases e]
    exact g.sub _ _ e⟩
/-- what was made since is settled from now on -/
theorem Grow.settle {S : List Addr} {M0 H0 M H : Hp} {p : Addr} {o : HO} (g : Grow S M0 H0 M H) (h0 : H0 p = none) (mp : M p = none) (hp : H p = some o) : Grow S M0 H0 (upd M p o) H :=
  ⟨g.stp, g.there, g.up.trans (Same.up mp), fun b u e => by
    by_cases c : b = p
    · rw [c]; exact .inr h0
    · rw [upd_ne c] at e; exact g.nw b u e, fun b u e => by
    by_cases c : b = p
    · rw [c] at e ⊢; rw [upd_same] at e; rw [hp]; exact e
    · rw [upd_ne c] at e; exact g.sub _ _ e⟩
theorem DrawsAt.some {H : Hp} {a : Addr} (d : DrawsAt H a) : H a ≠ none := by
  obtain ⟨o, e, _⟩ := d
  rw [e]
  simp
theorem seq_upd {K : PySem.W.Frag} {H : Hp} {a l : Addr} {o : HO} {xs : List V} (hn : l ≠ a) (h : SqL K H l xs ∨ SqT K H l xs) : SqL K (upd H a o) l xs ∨ SqT K (upd H a o) l xs := by
  have e : upd H a o l = H l := upd_ne hn
  rcases h with h | h
  · left
    rcases h with h | h
    · left
      rcases h with h | ⟨u, h⟩
      · exact .inl (e.trans h)
      · exact .inr ⟨u, e.trans h⟩
    · exact .inr h
  · right
    rcases h with h | h
    · left
      rcases h with h | ⟨u, h⟩
      · exact .inl (e.trans h)
      · exact .inr ⟨u, e.trans h⟩
    · exact .inr h
theorem atI_of {α : Type} {xs : List α} {i : Int} {j : Nat} {v : α} (e : i = (j : Int)) (h : xs[j]? = some v) : atI xs i = some v := by
  have hj : j < xs.length := (List.getElem?_eq_some_iff.mp h).1
  unfold atI ixN
  rw [if_pos (by omega), if_pos (by omega)]
  show xs[i.toNat]? = _
  rw [show i.toNat = j by omega]
  exact h
theorem iteB {b : Bool} {A B : Prop} (h1 : A) (h2 : B) : if b = true then A else B := by
  cases b
  · exact iteF h2
  · exact iteT h1
end Sr

set_option Elab.async false
set_option linter.all false
set_option maxRecDepth 100000
set_option maxHeartbeats 4000000
namespace Sr
open PySem PySem.Spec PyProof.Rows L2 RZ
/-! ### data of a depth, without dicts -/
inductive Dep : Nat → Dt → Prop
  | non (n : Nat) : Dep n .non
  | bl (n : Nat) (b : Bool) : Dep n (.bl b)
  | int (n : Nat) (i : Int) : Dep n (.int i)
  | str (n : Nat) (s : Str) : Dep n (.str s)
  | lst (n : Nat) (l : List Dt) : (∀ d ∈ l, Dep n d) → Dep (n + 1) (.lst l)
  | tup (n : Nat) (l : List Dt) : (∀ d ∈ l, Dep n d) → Dep (n + 1) (.tup l)
theorem kit_more {K : PySem.W.Frag} {t c c2 : Value} {r : List Value} {a b : Bool} (h1 : PySem.W.kitOne K t c = some a) (h2 : PySem.W.kitAny K t (c2 :: r) = some b) : PySem.W.kitAny K t (c :: c2 :: r) = some (a || b) := by
  refine kitAny_cons h1 (fun e => ?_) fun e => ?_
  · rw [e, h2]; rfl
  · rw [e]; rfl
theorem kit_ints (K : PySem.W.Frag) (d : Dt) : PySem.W.kitAny K (.type (tyN d)) [.type "bool", .type "int"] = some (isInt d) := by
  rw [kit_two (kit_bool K d) (kit_int K d)]
  cases d <;> rfl
theorem kit_four (K : PySem.W.Frag) (d : Dt) : PySem.W.kitAny K (.type (tyN d)) [.type "bool", .type "int", .type "list", .type "tuple"] = some (isInt d || isSeq d) := by
  rw [kit_more (kit_bool K d) (kit_more (kit_int K d) (kit_seq K d))]
  cases d <;> rfl
theorem cls_four (a b c d : String) : Paired ClsV [V.ty a, V.ty b, V.ty c, V.ty d] [.type a, .type b, .type c, .type d] := .cons (.ty a) (.cons (.ty b) (.cons (.ty c) (.cons (.ty d) .nil)))
theorem flat_eq {n : Nat} {H : Hp} {v u : V} {d : Dt} (dp : Dep n d) (hq : isSeq d = false) (iv : Is H v d) (iu : Is H u d) : v = u ∧ scal v u = true := by
  cases dp with
  | lst => cases hq
  | tup => cases hq
  | _ => cases iv; cases iu; exact ⟨rfl, rfl⟩
theorem walk_zipT {K : PySem.W.Frag} {a b : Addr} {xs ys : List V} {n : Nat} (hn : n = min xs.length ys.length) : Walk (ItzT K a b) n (fun H => SqT K H a xs ∧ SqT K H b ys) (YPair (fun i => xs[i]?) (fun i => ys[i]?)) := by
  subst hn
  refine ⟨fun i H hi g => ?_, fun H g => ?_, fun i H v H' _ g y => ?_⟩
  · exact ⟨xs, ys, xs[i]'(by omega), ys[i]'(by omega), g.1, g.2, List.getElem?_eq_getElem _, List.getElem?_eq_getElem _⟩
  · exact ⟨xs, ys, g.1, g.2, by omega⟩
  · obtain ⟨T, p, q, y1, y2, y3, y4, y5⟩ := y
    exact ⟨T, p, q, y1, y2, y3, y4 xs g.1, y5 ys g.2⟩
/-- a comprehension of two names over pairs whose elements change nothing that stood -/
theorem lc_pairs {J : It} {n : Nat} {G : Hp → Prop} {xs ys : Nat → Option V} (w : Walk J n G (YPair xs ys)) {K : PySem.W.Frag} {te : TE} {i j : Nat} {σ : L2.St} {H : Hp} {D : Addr} {Qd : Hp → Prop} (hij : i ≠ j)
    (zs : List V) (hn : zs.length = n) (hz : n < sizeLine) (hD : H D = none) (hG : ∀ H', Same H H' → G H')
    (turn : ∀ (k : Nat) (x y z : V) (H1 : Hp) (Q : VK), k < n → xs k = some x → ys k = some y → zs[k]? = some z → Same H H1 → (∀ H2, Same H1 H2 → Q z H2) → te ((wipe σ [i, j]).set i (some x) |>.set j (some y)) H1 Q)
    (fin : ∀ H', Same H H' → H' D = some (.lst zs) → Qd H') :
    ∃ W : Nat → Nat → Hp → Prop, (∃ m, W 0 m (upd H D (.lst []))) ∧ ∀ k m H, W k m H →
      (J.stop k H ∧ Qd H) ∨ (J.go k H ∧ ∃ Nx : Hp → Prop, (∀ H', Nx H' → ∃ m', m' < m ∧ W (k + 1) m' H') ∧ ∀ x H', J.yld k H x H' → (gTup K 2 (gCons (gName i) (gCons (gName j) gNil))) x (wipe σ [i, j]) H' fun σ2 H2 => wipe σ2 [i, j] = wipe σ [i, j] ∧ tYes σ2 H2 fun b H3 =>
        if b = true then te σ2 H3 fun y H4 => ∃ acc, H4 D = some (.lst acc) ∧ acc.length < sizeLine ∧ Nx (upd H4 D (.lst (acc ++ [y]))) else Nx H3) := by
  have below : ∀ {H1 H2 : Hp} {o : HO}, Same H H1 → Same H1 H2 → Same H (upd H2 D o) := fun {H1 H2 o} p q c u e => by
    rw [upd_ne (ne_of_none e hD)]
    exact q _ _ (p _ _ e)
  refine lc_it w (fun k H' => Same H H' ∧ H' D = some (.lst (zs.take k))) ⟨Same.up hD, by rw [upd_same]; simp⟩ (fun k H' _ p => hG H' p.1) (fun k v H1 H2 hk p y => ?_) fun H' p => fin H' p.1 (by rw [p.2, ← hn, List.take_length])
  obtain ⟨T, x, y, rfl, hT, rfl, hx, hy⟩ := y
  refine ⟨T, [x, y], rfl, SqT.of upd_same, rfl, ?_⟩
  have s2 : Same H1 _ := Same.up (o := .tup [x, y]) hT
  refine ⟨x, [y], rfl, y, [], rfl, rfl, ?_, ?_⟩
  · show ((((((σ.set j none).set i none).set i (some x)).set j (some y)).set j none).set i none) = (σ.set j none).set i none
    rw [List.set_set, List.set_set, List.set_comm _ _ hij, List.set_set, List.set_set]
  · unfold tYes
    simp only [if_true]
    have hk' : k < zs.length := by omega
    refine turn k x y zs[k] _ _ hk hx hy (List.getElem?_eq_getElem hk') (p.1.trans s2) fun H3 s3 => ?_
    refine ⟨_, s3 _ _ (s2 _ _ p.2), by rw [List.length_take]; omega, below (p.1.trans s2) s3, ?_⟩
    rw [upd_same, List.take_add_one, List.getElem?_eq_getElem hk']
    rfl
end Sr

set_option Elab.async false
set_option linter.all false
set_option maxRecDepth 100000
set_option maxHeartbeats 4000000
namespace Sr
open PySem PySem.Spec PyProof.Rows L2
/-! ### sorted(d) where the keys are pairs of texts -/
def pk (p : Str × Str) : List Key := [Sum.inr p.1, Sum.inr p.2]
def encP (p : Str × Str) : PyData := .tuple [.str p.1, .str p.2]
def pSort (l : List (Str × Str)) : List (Str × Str) := l.mergeSort (PySem.W.dataLe false encP)
theorem pSort_perm (l : List (Str × Str)) : (pSort l).Perm l := List.mergeSort_perm _ _
theorem encP_alike (p q : Str × Str) : PySem.W.alike (encP p) (encP q) = true := by simp [encP, PySem.W.alike, PySem.W.alikeAll]
theorem encP_depth (p : Str × Str) : (encP p).depth ≤ 2 := by
  show PyData.depth (.tuple [.str p.1, .str p.2]) ≤ 2
  simp [PyData.depth, PyData.depthAll]
theorem reads_pair {P : Program} {w : World} {H : Hp} {h : Heap} {q : Addr} {p : Str × Str} (hok : HOk P w H h) (hq : H q = some (.tup [.str p.1, .str p.2])) : PySem.Reads h (.ref q) (encP p) [] := by
  obtain ⟨_, its, rv, o, ho, hc, n, hd⟩ := hok q _ hq
  obtain ⟨a, t1, rfl, r1, t2⟩ := (show ∃ a t, its = a :: t ∧ RelV (.str p.1) a ∧ Vals [.str p.2] t from by cases rv with | cons h1 h2 => exact ⟨_, _, rfl, h1, h2⟩)
  obtain ⟨b, t3, rfl, r2, t4⟩ := (show ∃ a t, t1 = a :: t ∧ RelV (.str p.2) a ∧ Vals [] t from by cases t2 with | cons h1 h2 => exact ⟨_, _, rfl, h1, h2⟩)
  cases t4
  obtain ⟨u1, rfl⟩ := r1
  obtain ⟨u2, rfl⟩ := r2
  exact .tuple ho hc hd (.cons (as := []) (.str _ _) (.cons (as := []) (.str _ _) .nil))
def AtP (H : Hp) (q : Addr) (p : Str × Str) : Prop := H q = some (.tup [.str p.1, .str p.2])
theorem each_paired {α β : Type} {R : α → β → Prop} : ∀ {l : List α} {m : List β}, PySem.W.EachIs R l m → Paired R l m
  | _, _, .nil => .nil
  | _, _, .cons h t => .cons h (each_paired t)
theorem each_of {H : Hp} : ∀ {kvs : List (List Key × V)} {ks : List (List Key × Addr × Value)} {bs : List (Str × Str)}, Paired (fun (p : List Key × V) (q : List Key × Addr × Value) => p.1 = q.1 ∧ H q.2.1 = some (.tup (p.1.map kV)) ∧ RelV p.2 q.2.2) kvs ks →
    kvs.map (·.1) = bs.map pk → PySem.W.EachIs (fun v b => ∃ q, v = Value.ref q ∧ AtP H q b) (ks.map fun x => Value.ref x.2.1) bs
  | _, _, [], .nil, _ => .nil
  | _, _, _ :: _, .nil, h => by cases h
  | _, _, [], .cons _ _, h => by cases h
  | _, _, b :: bs, .cons h1 h2, h => by
    rw [List.map_cons, List.map_cons] at h
    obtain ⟨e1, e2⟩ := List.cons.inj h
    refine .cons ⟨_, rfl, ?_⟩ (each_of h2 e2)
    have h3 := h1.2.1
    rw [e1] at h3
    exact h3
theorem vals_of_each {H : Hp} : ∀ {vs : List Value} {bs : List (Str × Str)}, PySem.W.EachIs (fun v b => ∃ q, v = Value.ref q ∧ AtP H q b) vs bs → ∃ qs : List Addr, vs = qs.map Value.ref ∧ Vals (qs.map V.ref) vs ∧ Paired (AtP H) qs bs
  | _, _, .nil => ⟨[], rfl, .nil, .nil⟩
  | _, _, .cons ⟨q, e, h⟩ t => by
    obtain ⟨qs, e1, e2, e3⟩ := vals_of_each t
    exact ⟨q :: qs, by rw [e, e1]; rfl, by rw [e]; exact .cons rfl e2, .cons h e3⟩
section
variable {X : Cx}
theorem call_sortedDT (hcalm : X.calm = true) (hu : X.A.units + 64 < cLine) : CallR X (.builtin "sorted") (fun xs H Q => ∃ (a : Addr) (kvs : List (List Key × V)) (bs : List (Str × Str)), xs = [.ref a] ∧ Rd H a (.dT kvs) ∧ kvs.map (·.1) = bs.map pk ∧ bs.length ≤ 1000 ∧
    ∀ qs p, Paired (AtP H) qs (pSort bs) → H p = none → Q (.ref p) (upd H p (.lst (qs.map V.ref)))) := by
  intro pins s σ H xs us Q I r q
  obtain ⟨a, kvs, bs, ex, hd, hks, hz, q⟩ := q
  subst ex
  obtain ⟨u, eu, rx⟩ := vals1 r
  subst eu
  cases rx
  obtain ⟨z, hs, ks, pr, o, es, ep, ho, hx, hdt, he, hn⟩ := (show ObjOk X.prog X.w H s.heap a (.dT kvs) from hd.ok I.hok)
  have l1 : es.size = ks.length := size_of_entries he
  have l2 : kvs.length = ks.length := Paired.length pr
  have l3 : kvs.length = bs.length := by
    have e := congrArg List.length hks
    rwa [List.length_map, List.length_map] at e
  have h16 : es.size ≤ sizeLine := by rw [l1, ← l2, l3, sizeLine_eq]; omega
  refine Calls.call_function_entry PyProof.Rows.kind_sorted PyProof.Rows.plain_sorted PyProof.Rows.entry_sorted (PyProof.Rows.args_sorted1 _) ?_
  unfold Builtin.«sorted»
  refine wpAny_bind (m := checkCount "sorted" 1 1 _) (wpAny_pure ?_)
  refine wpAny_bind (PySem.W.kdu_collect (A := X.A.in1) (kdl_raw hs hx hdt) (I.ok.hd hcalm) ho h16 fun h' tk acc hk hacc => ?_)
  have ea : acc.toList = ks.map fun x => Value.ref x.2.1 := by
    have hl : acc.toList.length = ks.length := by rw [Array.length_toList, hacc.1]; exact l1
    apply List.ext_getElem?
    intro j
    rw [List.getElem?_map]
    cases hj : acc.toList[j]? with
    | none =>
      have h1 := List.getElem?_eq_none_iff.mp hj
      rw [List.getElem?_eq_none (by omega)]
      rfl
    | some v =>
      obtain ⟨en, hen, hv⟩ := hacc.2 j v (by rw [← Array.getElem?_toList]; exact hj)
      have qe := entry_at he j
      rw [hen] at qe
      cases hb : ks[j]? with
      | none =>
        rw [hb] at qe
        exact nomatch (show some en = none from qe)
      | some b =>
        rw [hb] at qe
        have e2 : en = entryOfKey (tupleKind (mixKind X.prog X.w)) b := Option.some.inj qe
        rw [hv, e2]
        rfl
  have e0 : PySem.W.EachIs (fun v b => ∃ q, v = Value.ref q ∧ AtP H q b) acc.toList bs := by rw [ea]; exact each_of pr hks
  have I1 : Inv X pins σ H { s with heap := h', toks := tk } := I.kept hk
  have hal : acc.toList.length = bs.length := e0.length
  refine wpAny_bind (wpAny_newList ?_ (by rw [hal, sizeLine_eq]; omega))
  have hoL : (h'.push (seqObj "list" acc.toList.toArray 0)).get? h'.objs.size = some (seqObj "list" acc.toList.toArray 0) := Heap.get?_push_size _ rfl
  show wpAny _ _ _ _ _ { s with heap := h'.push (seqObj "list" acc.toList.toArray 0), toks := tk }
  have k2 : ∀ b o, h'.get? b = some o → (h'.push (seqObj "list" acc.toList.toArray 0)).get? b = some o := fun b o e => Heap.get?_push_of_some _ e
  have hok2 : HOk X.prog X.w H (h'.push (seqObj "list" acc.toList.toArray 0)) := I1.hok.kept k2
  have er : PySem.W.EachIs (fun v b => ∃ as, Reads (h'.push (seqObj "list" acc.toList.toArray 0)) v (encP b) as ∧ h'.objs.size ∉ as) acc.toList bs := e0.mono fun v b ⟨q, e, h⟩ => ⟨[], by rw [e]; exact reads_pair hok2 h, by simp⟩
  refine wpAny_bind (wpAny_holding (PySem.W.list_sort_data (s := { s with heap := h'.push (seqObj "list" acc.toList.toArray 0), toks := tk }) (enc := encP) hoL e0 er (PySem.W.AllAlike.of encP_alike) (PySem.W.Sortable.tuples fun b => ⟨_, _, rfl⟩) (by rw [sizeLine_eq]; omega) (fun b _ => ?_) fun out hlen eo => ?_))
  · have := encP_depth b
    simp only [Around.in1_units]
    omega
  obtain ⟨qs, e1, e2, e3⟩ := vals_of_each eo
  obtain ⟨e', he'⟩ := PyProof.Rows.sortedHeap_at (vs := acc.toList) (out := out.toArray) hoL
  have hlen2 : (qs.map V.ref).length ≤ sizeLine := by
    rw [e2.length, hlen, sizeLine_eq]
    omega
  refine wpAny_pure ⟨_, rfl, .ref h'.objs.size, upd H h'.objs.size (.lst (qs.map V.ref)), I1.laid (t' := tk) (fun b u e => ?_) (Nat.le_refl _)
    (show ObjOk X.prog X.w _ _ _ (.lst (qs.map V.ref)) from ⟨hlen2, out, e', e2, he'⟩), rfl, q qs _ e3 (I1.hok.fresh (Nat.le_refl _))⟩
  have hb : b < h'.objs.size := Heap.lt_size e
  rw [PyProof.Rows.sortedHeap_old (Nat.ne_of_lt hb) (by rw [size_push']; exact Nat.lt_succ_of_lt hb)]
  exact Heap.get?_push_of_some _ e
/-! ### dict(pairs) where the keys are tuples, all unlike -/
theorem tupPairs_of {pins : List (Addr × Obj)} {σ : L2.St} {H : Hp} {s : Shared} (I : Inv X pins σ H s) : ∀ {ts : List Addr} {kvs : List (List Key × V)}, Paired (fun t kv => ∃ q, SqT X.K H t [.ref q, kv.2] ∧ H q = some (.tup (kv.1.map kV))) ts kvs →
    ∃ xs : List (List Key × Addr × Value), KT H kvs xs ∧ xs.length = ts.length ∧ ∀ (j : Nat) (x : List Key × Addr × Value), xs[j]? = some x → ∃ t, ts[j]? = some t ∧ IsTup s.heap t #[.ref x.2.1, x.2.2] ∧ H x.2.1 = some (.tup (x.1.map kV))
  | _, _, .nil => ⟨[], .nil, rfl, fun j q e => by simp at e⟩
  | _, _, .cons (a := t) (b := kv) h r => by
    obtain ⟨xs, r1, hl, hp⟩ := tupPairs_of I r
    obtain ⟨q, hq, hk⟩ := h
    obtain ⟨its, rv, ht, _⟩ := I.tuple hq
    obtain ⟨u, y, ei, ru, ry⟩ := vals2 rv
    subst ei
    obtain rfl : u = Value.ref q := ru
    refine ⟨(kv.1, q, y) :: xs, .cons ⟨rfl, hk, ry⟩ r1, by rw [List.length_cons, List.length_cons, hl], fun j x e => ?_⟩
    cases j with
    | zero =>
      obtain rfl : (kv.1, q, y) = x := Option.some.inj e
      exact ⟨t, rfl, ht, hk⟩
    | succ j =>
      obtain ⟨t', e1, e2⟩ := hp j x (by simpa using e)
      exact ⟨t', by simpa using e1, e2⟩
theorem stored_snoc : ∀ (ps acc : List (List Key × Addr × Value)), ((acc ++ ps).map (·.1)).Nodup → PySem.storedAllH acc ps = acc ++ ps
  | [], acc, _ => by simp [PySem.storedAllH]
  | p :: r, acc, h => by
    have e : PySem.storedH acc p.1 p.2.1 p.2.2 = acc ++ [p] := by
      refine PySem.storedH_new ?_ _ _
      have nm : p.1 ∉ acc.map (·.1) := by
        rw [List.map_append, List.map_cons] at h
        intro m
        exact (List.nodup_append.mp h).2.2 _ m _ List.mem_cons_self rfl
      unfold PySem.atKey
      rw [List.find?_eq_none.mpr]
      · rfl
      · intro x hx e
        exact nm (List.mem_map.mpr ⟨x, hx, of_decide_eq_true e⟩)
    have h2 : ((acc ++ [p] ++ r).map (·.1)).Nodup := by simpa using h
    have e2 := stored_snoc r (acc ++ [p]) h2
    show PySem.storedAllH (PySem.storedH acc p.1 p.2.1 p.2.2) r = _
    rw [e, e2]
    simp
theorem keys_eq {H : Hp} : ∀ {kvs : List (List Key × V)} {xs : List (List Key × Addr × Value)}, KT H kvs xs → kvs.map (·.1) = xs.map (·.1)
  | _, _, .nil => rfl
  | _, _, .cons h t => by rw [List.map_cons, List.map_cons, h.1, keys_eq t]
theorem call_dictPT (hcalm : X.calm = true) (hu : X.A.units + 64 < cLine) : CallR X (.type "dict") (fun xs H Q => ∃ (a : Addr) (ts : List Addr) (kvs : List (List Key × V)), xs = [.ref a] ∧ SqL X.K H a (ts.map V.ref) ∧ Paired (fun t kv => ∃ q, SqT X.K H t [.ref q, kv.2] ∧ H q = some (.tup (kv.1.map kV))) ts kvs ∧
    (kvs.map (·.1)).Nodup ∧ ∀ p, H p = none → Q (.ref p) (upd H p (.dT kvs))) := by
  intro pins s σ H xs us Q I r q
  obtain ⟨a, ts, kvs, ex, hq, hp, nd, q⟩ := q
  subst ex
  obtain ⟨u, eu, rx⟩ := vals1 r
  subst eu
  cases rx
  obtain ⟨its, rv, pl, hz⟩ := I.list hq
  have ei := refs_at rv
  subst ei
  rw [List.length_map] at hz
  obtain ⟨ps, kt, hl, hpr⟩ := tupPairs_of I hp
  obtain ⟨o, n, ho, hc, hd, hdat⟩ := pl
  have len2 : (ps.map fun x => (Value.ref x.2.1, x.2.2)).length = ts.length := by rw [List.length_map, hl]
  have P := PairArg.list (prog := X.prog) (w := X.w) a (ts.map Value.ref).toArray (fun j => ts.getD j 0) (ps.map fun x => (Value.ref x.2.1, x.2.2))
  refine call_dict_pairsH (knd := tupleKind (mixKind X.prog X.w)) (ps := ps) P (I.ok.hd hcalm) (by show _ + 1 < cLine; simp only [Around.in1_units]; omega) ⟨⟨o, n, ho, hc, hd, hdat⟩, by simp [hl], fun j k v e => ?_⟩ ⟨by simp, fun i k v e => ?_⟩ (fun h' hk x hx => ?_) (by rw [len2]; exact hz) fun h' tk hd' hk => ?_
  · rw [List.getElem?_map] at e
    obtain ⟨x, hx, e⟩ := Option.map_eq_some_iff.mp e
    obtain ⟨t, e1, e2, e3⟩ := hpr j x hx
    cases e
    have g : ts.getD j 0 = t := by rw [List.getD_eq_getElem?_getD, e1]; rfl
    exact ⟨by simp [e1], .inl (by show IsTup s.heap (ts.getD j 0) _; rw [g]; exact e2)⟩
  · have e : (ps.map fun x => (Value.ref x.2.1, x.2.2))[i]? = some (k, v) := e
    rw [List.getElem?_map] at e
    obtain ⟨x, hx, e⟩ := Option.map_eq_some_iff.mp e
    cases e
    exact ⟨x.1, x.2.1, hx, rfl⟩
  · obtain ⟨j, hj⟩ := List.mem_iff_getElem?.mp hx
    obtain ⟨t, e1, e2, e3⟩ := hpr j x hj
    have k0 := key_of (P := X.prog) (w := X.w) I.hok e3
    obtain ⟨o', items, n', g1, g2⟩ := k0
    exact ⟨o', items, n', hk _ _ (Nat.ne_of_lt (Heap.lt_size g1)) (by simp) g1, g2⟩
  · have hm : (s.heap.objs.size == sysModules) = false := beq_eq_false_iff_ne.mpr (Nat.ne_of_gt I.big)
    have nd2 : (ps.map (·.1)).Nodup := by rw [← keys_eq kt]; exact nd
    rw [stored_snoc ps [] (by simpa using nd2)] at hd'
    obtain ⟨o', es, ep, g1, g2, g3, g4, g5, g6⟩ := hd'
    have hlen : kvs.length ≤ sizeLine := by rw [Paired.length kt, hl]; exact hz
    have keep : ∀ b o, s.heap.get? b = some o → h'.get? b = some o := fun b o e => hk b o (by simp) e
    refine ⟨.ref s.heap.objs.size, upd H s.heap.objs.size (.dT kvs), I.laid (t' := tk) keep (Nat.le_refl _) (show ObjOk X.prog X.w _ _ _ (.dT kvs) from ⟨hlen, hm, ps, kt.keeps fun b ys e => ?_, o', es, ep, g1, g2, g3, g4, g6⟩), rfl, q _ (I.hok.fresh (Nat.le_refl _))⟩
    first
      | exact e
      | (rw [upd_ne (ne_of_none e (I.hok.fresh (Nat.le_refl _)))]; exact e)
end
end Sr

set_option Elab.async false
set_option linter.all false
set_option maxRecDepth 100000
set_option maxHeartbeats 4000000
namespace Sr
open PySem PySem.Spec PyProof.Rows L2
/-! ### several except clauses, each with a name for the error -/
abbrev Su := Addr → Value → Option Addr → TS
/-- a clause: the class, the slot of the name, what the suite does -/
abbrev Clause := Value × Nat × Su
/-- the ends of a suite: the name goes -/
def gone (i : Nat) (D : Ends) : Ends where
  nx := fun σ H => D.nx (σ.set i none) H
  rt := D.rt
  bk := fun σ H => D.bk (σ.set i none) H
  ct := fun σ H => D.ct (σ.set i none) H
def wNamed (K : PySem.W.Frag) (Wout : WX) (D : Ends) : List Clause → WX
  | [] => Wout
  | k :: r => fun cls d σ H => ∃ hit, PySem.W.exmOne K cls k.1 = some hit ∧
      (if hit = true then ∀ a, H a = none → k.2.2 a cls d (gone k.2.1 D) (σ.set k.2.1 (some (.ref a))) H else wNamed K Wout D r cls d σ H)
structure ClauseOk (X : Cx) (h : ExceptHandler) (k : Clause) : Prop where
  is_ : ∃ (x n : Str) (b₀ : Stmt) (rest : List Stmt) (p q : Pos), h = .ExceptHandler (some (.Name x p)) (some n) (b₀ :: rest) q ∧ Names X x k.1 ∧ X.N[k.2.1]? = some n ∧ X.env.kindOf n = some .local ∧
    ∀ (a : Addr) (oe : Obj) (cls : Value) (d : Option Addr) (pn : List (Addr × Obj)), Zc cls d oe → (∃ vs, oe.data = .fields vs) → PSs (X.suite a ((a, oe) :: pn)) (b₀ :: rest) (k.2.2 a cls d)
/-- an error has been caught: what stood stays, the error flies no more -/
def Fell (X : Cx) (pins : List (Addr × Obj)) (σ : L2.St) (H : Hp) (B : Heap) (a : Addr) (cls : Value) (d : Option Addr) (t : Shared) : Prop :=
  ∃ sI : Shared, Inv X pins σ H sI ∧ (∀ b o, sI.heap.get? b = some o → b ∉ frs X.stack → B.get? b = some o) ∧ sI.heap.UpToSlots t.heap ∧
    HandSPX.FlyingZ B (X.env :: X.outer) a (Zc cls d) t.heap ∧ H a = none ∧ t.os = sI.os ∧ AllBare t.gens
section
variable {X : Cx} {pins : List (Addr × Obj)} {σ : L2.St} {H : Hp} {B : Heap} {a : Addr} {cls : Value} {d : Option Addr} {t : Shared}
theorem Fell.inv (f : Fell X pins σ H B a cls d t) : Inv X pins σ H t := by
  obtain ⟨sI, I, nb, up, fl, _, os, ag⟩ := f
  exact I.landed nb fl.1 up os ag
theorem Fell.again (f : Fell X pins σ H B a cls d t) {h' : Heap} (fl' : HandSPX.FlyingZ B (X.env :: X.outer) a (Zc cls d) h') (up' : t.heap.UpToSlots h') : Fell X pins σ H B a cls d { t with heap := h' } := by
  obtain ⟨sI, I, nb, up, _, na, os, ag⟩ := f
  exact ⟨sI, I, nb, up.trans up', fl', na, os, ag⟩
theorem Fell.stands (f : Fell X pins σ H B a cls d t) (hf : X.env.frame = some X.env.locals) :
    ∃ oe, t.heap.get? a = some oe ∧ Zc cls d oe ∧ (∃ vs, oe.data = .fields vs) ∧ Inv (X.suite a ((a, oe) :: (X.pn ++ pins))) [] σ H t := by
  have J := f.inv
  obtain ⟨sI, I, nb, up, fl, na, os, ag⟩ := f
  obtain ⟨oe, vs, e, z, dd⟩ := fl.there
  have out : a ∉ frs (X.env :: X.outer) := fun m => by
    obtain ⟨_, o2, e2, nf⟩ := fl.2.2.1.mem m
    rw [e] at e2
    cases e2
    exact nf vs dd
  have o1 : a ≠ X.env.locals := fun z => out (List.mem_filterMap.mpr ⟨_, List.mem_cons_self, z ▸ hf⟩)
  have o2 : a ∉ X.fs := fun m => by
    obtain ⟨v, mv, ev⟩ := List.mem_filterMap.mp m
    exact out (List.mem_filterMap.mpr ⟨v, List.mem_cons_of_mem _ mv, ev⟩)
  exact ⟨oe, e, z, ⟨vs, dd⟩, J.suite e dd na o1 o2⟩
/-- no clause fits: the error flies on -/
theorem Fell.on (f : Fell X pins σ H B a cls d t) (hs : X.stack = X.env :: X.outer) (hf : X.env.frame = some X.env.locals) {Wout : WX} {D : Ends} (tk : Takes X Wout) (w : Wout cls d σ H) :
    wpAny (model X.prog X.w) X.A (handleBy (.ref a) X.env []) (SP X pins D) X.xe t := by
  obtain ⟨sI, I, nb, up, fl, na, os, ag⟩ := f
  obtain ⟨_, _, _, oe, vs, T, oT, ts, e, z, dd, v1, _⟩ := id fl
  have leaves : wpAny (model X.prog X.w) X.A (setFlight (.ref a) X.env.frame) (fun _ u => wpAny (model X.prog X.w) X.A (throw (.ref a) : Sem Flow) (SP X pins D) X.xe u) X.xe t := by
    rw [hf]
    exact HandSPX.setFlight_upZ fl fun h' held up' => wpAny_throw (tk _ _ ⟨a, B, sI, pins, σ, H, cls, d, rfl, I, nb, up.trans up', .inr (.inr (hs ▸ held)), na, os, ag, w⟩)
  refine wpAny_handleBy_nil ?_
  unfold PySem.passOn
  refine wpAny_bind (wpAny_field e dd v1 ?_)
  have no : ¬ ((Value.ref T == Value.none) = true) := by simp
  rw [if_neg no]
  first
    | exact wpAny_bind leaves
    | exact wpAny_bind (wpAny_pure (wpAny_bind leaves))
theorem Fell.cls_ (f : Fell X pins σ H B a cls d t) (hf : X.env.frame = some X.env.locals) {x : Str} {c : Value} {np : Pos} (hc : Names X x c) {Q : Value → Shared → Prop} {E : Value → Shared → Prop} (q : Q c t) :
    wpAny (model X.prog X.w) (X.A.mark (some (.ref a))) (eval (.Name x np) X.env) Q E t := by
  obtain ⟨oe, _, _, _, S⟩ := f.stands hf
  obtain ⟨g, nd, c1 | ⟨c1, c2, c3⟩⟩ := hc
  · exact ld_glob (X := X.suite a _) S g c1 q nd
  · exact ld_blt (X := X.suite a _) S g c1 c2 q c3 nd
theorem Fell.go {Wout : WX} {D : Ends} (hs : X.stack = X.env :: X.outer) (hf : X.env.frame = some X.env.locals) (hN : X.N.Nodup) (tk : Takes X Wout) : ∀ {hds : List ExceptHandler} {l : List Clause}, Paired (ClauseOk X) hds l → ∀ {t : Shared}, Fell X pins σ H B a cls d t →
    wNamed X.K Wout D l cls d σ H → wpAny (model X.prog X.w) X.A (handleBy (.ref a) X.env hds) (SP X pins D) X.xe t
  | _, _, .nil, _, f, w => f.on hs hf tk w
  | _, _, .cons hk r, t, f, w => by
    obtain ⟨x, n, b₀, rest, p, p', rfl, hc, hi, hl, body⟩ := hk.is_
    obtain ⟨hit, e1, w⟩ := w
    obtain ⟨oe, e, z, _, _⟩ := f.stands hf
    have looks : PySem.W.Looks (model X.prog X.w) t.heap (typeOf (.ref a)) cls := fun _ _ _ _ k q => wpAny_typeOf_ref (k _ _ e) (by rw [z.1]; exact q)
    have fits := PySem.W.exm_one (M := model X.prog X.w) f.inv.kIn looks e1
    refine wpAny_handleBy_cons (codeAny_handlers_test (f.cls_ hf hc (fits.here ?_))) fun q => by cases q
    cases hit with
    | false => exact Fell.go hs hf hN tk r f w
    | true =>
      refine codeAny_handlers_suite_as (HandSPX.lands_againZ (by obtain ⟨_, _, _, _, fl, _⟩ := f; exact fl) fun h' fl' up' => ?_)
      have f' := f.again fl' up'
      obtain ⟨oe2, _, z2, dd2, S⟩ := f'.stands hf
      have na : H a = none := by obtain ⟨_, _, _, _, _, na, _⟩ := f; exact na
      refine store_ok (X := X.suite a _) (v := .ref a) S hN hi (.inl hl) rfl (fun s5 S5 => ?_) (.inr hl)
      refine wpAny_mono ((body a oe2 cls d _ z2 dd2).run [] s5 _ H (gone _ D) S5 (w a na)) (fun fl s6 sp => ?_) fun _ _ z => z.elim
      have off : ∀ {σ6 : L2.St} {H6 : Hp} {Q : Shared → Prop}, Inv (X.suite a ((a, oe2) :: (X.pn ++ pins))) [] σ6 H6 s6 → (∀ s7, Inv X pins (σ6.set _ none) H6 s7 → Q s7) →
          wpAny (model X.prog X.w) X.A (do bindName X.env n .none; unbindBehindTheSuite X.env n p') (fun _ s7 => Q s7) X.xe s6 := fun S6 hq => gone_ok (S6.unsuite f.inv.ok) hN hi hl hq
      cases fl with
      | ret u =>
        obtain ⟨v6, _, _, S6, r6, q6⟩ := sp
        exact off S6 fun _ J => ⟨v6, _, _, J, r6, q6⟩
      | next => exact sp.elim fun _ y => y.elim fun _ y => off y.1 fun _ J => ⟨_, _, J, y.2⟩
      | brk => exact sp.elim fun _ y => y.elim fun _ y => off y.1 fun _ J => ⟨_, _, J, y.2⟩
      | cont => exact sp.elim fun _ y => y.elim fun _ y => off y.1 fun _ J => ⟨_, _, J, y.2⟩
end
/-- try: body, except x as n: .. except y as m: .. -/
theorem ps_try_named {X : Cx} {body : List Stmt} {h₀ : ExceptHandler} {hds : List ExceptHandler} {l : List Clause} {pos : Pos} {tb : WX → TS} {Wout : WX} (hs : X.stack = X.env :: X.outer) (hf : X.env.frame = some X.env.locals) (hN : X.N.Nodup) (tk : Takes X Wout)
    (hb : ∀ (W : WX) (pn : List (Addr × Obj)) (xe : Value → Shared → Prop), Takes (X.tr pn xe) W → PassesOwn (model X.prog X.w) X.A X.env xe → PSs (X.tr pn xe) body (tb W)) (hk : Paired (ClauseOk X) (h₀ :: hds) l) :
    PS X (.Try body (h₀ :: hds) [] [] pos) (fun D σ H => tb (wNamed X.K Wout D l) D σ H) := by
  refine ⟨fun pins s σ H D I h => wpAny_Try_except ?_⟩
  let xt : Value → Shared → Prop := fun e s₁ => wpAny (model X.prog X.w) X.A (noteFrame e X.env) (fun _ s₂ => wpAny (model X.prog X.w) X.A (setFlight e none)
    (fun _ s₃ => wpAny (model X.prog X.w) X.A (handleBy e X.env (h₀ :: hds)) (SP X pins D) X.xe s₃) X.xe s₂) X.xe s₁
  have takes : Takes (X.tr (X.pn ++ pins) xt) (wNamed X.K Wout D l) := fun u s' y => by
    obtain ⟨a, B, sI, pins', σ', H', cls, d, rfl, J', nb, up, sky, na, os, ag, w⟩ := y
    have hfr : X.A.frames = some (X.env :: X.outer) := I.ok.frames.trans (congrArg some hs)
    exact Sky.land Zc.steady hfr hf (hs ▸ sky) fun h3 fl3 up3 => Fell.go hs hf hN tk hk ⟨sI, J'.ofTry I.ok, nb, up.trans up3, fl3, na, os, ag⟩ w
  refine wpAny_mono ((hb _ _ xt takes PassesOwn.looking).run [] s σ H D (I.toTry _) h) (fun f s1 sp => ?_) fun _ _ he => he
  cases f with
  | ret u =>
    obtain ⟨v, _, _, J, r, q⟩ := sp
    exact ⟨v, _, _, J.ofTry I.ok, r, q⟩
  | next => exact sp.elim fun _ y => y.elim fun _ y => wpAny_execs_nil ⟨_, _, y.1.ofTry I.ok, y.2⟩
  | brk => exact sp.elim fun _ y => y.elim fun _ y => ⟨_, _, y.1.ofTry I.ok, y.2⟩
  | cont => exact sp.elim fun _ y => y.elim fun _ y => ⟨_, _, y.1.ofTry I.ok, y.2⟩
end Sr

set_option Elab.async false
set_option linter.all false
set_option maxRecDepth 100000
set_option maxHeartbeats 4000000
namespace Sr
open PySem PySem.Spec PyProof.Rows L2
/-! ### own errors below ValueError, at any depth of classes, with an own __init__ -/
def errSl (sl : Array (Option Value)) : Bool := match sl.toList with
  | [_, _, _, _, some (.builtin n), _] => decide (n = "ValueError.__new__")
  | _ => false
def errCl (C : Addr) (k : ClassData) : Bool := match k.mro with
  | .ref c :: r => decide (c = C) && (PySem.HandSPX.refsVE r && (k.hasDict && !k.hasDel))
  | _ => false
def errB (K : PySem.W.Frag) (C : Addr) : Bool := match K.lookup C with
  | some ⟨.type t, _, .cls k, sl⟩ => decide (t = "type") && (errCl C k && errSl sl)
  | _ => false
theorem errSl_ok {sl : Array (Option Value)} (h : errSl sl = true) : ∃ k0 k1 k2 k3 k5, sl = #[k0, k1, k2, k3, some (.builtin "ValueError.__new__"), k5] := by
  obtain ⟨l⟩ := sl
  unfold errSl at h
  match l, h with
  | [k0, k1, k2, k3, some (.builtin n), k5], h =>
    obtain rfl : n = "ValueError.__new__" := of_decide_eq_true h
    exact ⟨k0, k1, k2, k3, k5, rfl⟩
theorem errCl_ok {C : Addr} {k : ClassData} (h : errCl C k = true) : ∃ bm, k.mro = .ref C :: bm ∧ PySem.HandSPX.refsVE bm = true ∧ k.hasDict = true ∧ k.hasDel = false := by
  unfold errCl at h
  cases e : k.mro with
  | nil => rw [e] at h; cases h
  | cons c r =>
    rw [e] at h
    cases c with
    | ref c =>
      have h' : (decide (c = C) && (PySem.HandSPX.refsVE r && (k.hasDict && !k.hasDel))) = true := h
      obtain ⟨a1, a2⟩ := Bool.and_eq_true_iff.mp h'
      obtain ⟨a2, a3⟩ := Bool.and_eq_true_iff.mp a2
      obtain ⟨a3, a4⟩ := Bool.and_eq_true_iff.mp a3
      obtain rfl : c = C := of_decide_eq_true a1
      exact ⟨r, rfl, a2, a3, by simpa using a4⟩
    | _ => cases h
theorem errB_ok {K : PySem.W.Frag} {C : Addr} (h : errB K C = true) : ∃ nm q N bs bm sn sub ab col dd k0 k1 k2 k3 k5,
    K.lookup C = some (excClassObj nm q C N bs bm true sn sub ab col dd k0 k1 k2 k3 k5 "ValueError.__new__") ∧ PySem.HandSPX.refsVE bm = true := by
  unfold errB at h
  cases e : K.lookup C with
  | none => rw [e] at h; cases h
  | some o =>
    rw [e] at h
    obtain ⟨oc, od, dt, sl⟩ := o
    cases oc with
    | type t =>
      cases dt with
      | cls k =>
        have h' : (decide (t = "type") && (errCl C k && errSl sl)) = true := h
        obtain ⟨h1, h2⟩ := Bool.and_eq_true_iff.mp h'
        obtain ⟨h4, h5⟩ := Bool.and_eq_true_iff.mp h2
        obtain ⟨bm, m1, m2, m3, m4⟩ := errCl_ok h4
        obtain rfl : t = "type" := of_decide_eq_true h1
        obtain ⟨k0, k1, k2, k3, k5, rfl⟩ := errSl_ok h5
        obtain ⟨nm, bs, mro, N, q, hd, sn, sub, ab, col, del⟩ := k
        obtain rfl : mro = .ref C :: bm := m1
        obtain rfl : hd = true := m3
        obtain rfl : del = false := m4
        exact ⟨nm, q, N, bs, bm, sn, sub, ab, col, od, k0, k1, k2, k3, k5, rfl, m2⟩
      | _ => cases h
    | _ => cases h
/-- all that an own error's class must be, as one look -/
def errAll (K : PySem.W.Frag) (C f : Addr) (at_ : Str) : Bool := errB K C && (decide (PySem.W.findIn K (.ref C) "__setattr__" = some (some (.builtin "object.__setattr__"))) && (decide (PySem.W.subIn K (.ref C) (.type "BaseException") = some true) &&
  (decide (PySem.W.typeIn K (.ref C) = some (.type "type")) && (PySem.W.keepIn K (.ref C) && (decide (PySem.W.findIn K (.ref C) "__init__" = some (some (.ref f))) && (decide (PySem.W.typeIn K (.ref f) = some (.type "function")) &&
  (decide (PySem.W.findIn K (.ref C) at_ = some none) && xfB K C)))))))
structure Err (K : PySem.W.Frag) (C f : Addr) (at_ : Str) : Prop where
  oex : OexC K C
  init : PySem.W.findIn K (.ref C) "__init__" = some (some (.ref f))
  fn : PySem.W.typeIn K (.ref f) = some (.type "function")
  no : PySem.W.findIn K (.ref C) at_ = some none
  xf : XfC K C
theorem errAll_ok {K : PySem.W.Frag} {C f : Addr} {at_ : Str} (h : errAll K C f at_ = true) : Err K C f at_ := by
  obtain ⟨h1, h⟩ := Bool.and_eq_true_iff.mp h
  obtain ⟨h2, h⟩ := Bool.and_eq_true_iff.mp h
  obtain ⟨h3, h⟩ := Bool.and_eq_true_iff.mp h
  obtain ⟨h4, h⟩ := Bool.and_eq_true_iff.mp h
  obtain ⟨h5, h⟩ := Bool.and_eq_true_iff.mp h
  obtain ⟨h6, h⟩ := Bool.and_eq_true_iff.mp h
  obtain ⟨h7, h⟩ := Bool.and_eq_true_iff.mp h
  obtain ⟨h8, h9⟩ := Bool.and_eq_true_iff.mp h
  exact ⟨⟨errB_ok h1, of_decide_eq_true h2, of_decide_eq_true h3, of_decide_eq_true h4, h5⟩, of_decide_eq_true h6, of_decide_eq_true h7, of_decide_eq_true h8, xfB_ok h9⟩
/-- __init__(self, v): self.at_ = v -/
def spErr (K : PySem.W.Frag) (C : Addr) (at_ : Str) : Sp := fun vs H Q _ => ∃ a v, vs = [.ref a, v] ∧ H a = some (exo a C none) ∧ ∀ dx, H dx = none → dx ≠ a → Q .non (upd (upd H dx (exd dx [(at_, v)])) a (exo a C (some dx)))
/-- C(v) raised: the dict of the error stands -/
theorem err_at {K : PySem.W.Frag} {C : Addr} {at_ : Str} {v : V} {H1 : Hp} {Q : XK} (q : ∀ dx, H1 dx = none → Q (.ref C) (some dx) (upd H1 dx (.xd [(at_, v)]))) : [v].length ≤ 1000 ∧ ∀ a, H1 a = none → spErr K C at_ (.ref a :: ([v] ++ [])) (upd H1 a (exo a C none))
    (fun u H2 => u = .non ∧ ∃ (d : Addr) (fs : List (Str × V)), H2 a = some (exo a C (some d)) ∧ H2 d = some (exd d fs) ∧ H1 d = none ∧ Q (.ref C) (some d) (upd (del H2 a) d (.xd fs))) (fun _ _ _ => False) := by
  refine ⟨by simp, fun a ha => ⟨a, v, rfl, upd_same, fun dx hdx nd => ?_⟩⟩
  have h1 : H1 dx = none := (upd_ne nd).symm.trans hdx
  refine ⟨rfl, dx, [(at_, v)], upd_same, (upd_ne nd).trans upd_same, h1, ?_⟩
  have e : upd (del (upd (upd (upd H1 a (exo a C none)) dx (exd dx [(at_, v)])) a (exo a C (some dx))) a) dx (.xd [(at_, v)]) = upd H1 dx (.xd [(at_, v)]) := by
    funext b
    by_cases c : b = dx
    · rw [c, upd_same, upd_same]
    · rw [upd_ne c, upd_ne c]
      by_cases c2 : b = a
      · rw [c2, del_same, ha]
      · rw [del_ne c2, upd_ne c2, upd_ne c, upd_ne c2]
  rw [e]
  exact q dx h1
theorem pmk_err {X : Cx} {k k' : Nat} {C f : Addr} {at_ x : Str} {ps : List Str} {e : Expr} {ta : TA} {p pos : Pos} (E : Err X.K C f at_) (M : CalM X.prog X.w X.K X.mg X.base CX0 k f ps (spErr X.K C at_)) (hr : Room k' X.A) (hk : k + 1 ≤ k') (hg : Gl X x) (hm : X.mg x = some (.ref C)) (ha : PA X [e] ta)
    (hdb : (x == ("__debug__" : Str)) = false := by decide) (he : starEach [e] X.env = (false, eval e X.env) :: starEach [] X.env := by rfl) (hpl : (backTo pos (starEach [] X.env)).any (·.1) = false := by rfl) :
    PMk X (.Call (.Name x p) [e] [] pos) (tMkO C (spErr X.K C at_) [] ta) := by
  obtain ⟨fd, F, _, hb⟩ := M.ex
  exact pmk_oex (CX := CX0) E.oex E.init E.fn F (hr.mono hk) hb .nil (fun _ _ _ _ _ _ _ h => h.elim) hg hm ha hdb he hpl
/-- an own error that may be raised: its class, its __init__, its name -/
structure ErrAt (P : Program) (w : World) (K : PySem.W.Frag) (mg : Str → Option Value) (base : Heap) (x at_ p : Str) : Prop where
  e : Err K (He.ga K x) (He.fAd K (x, some "__init__")) at_
  m : CalM P w K mg base CX0 1 (He.fAd K (x, some "__init__")) ["self", p] (spErr K (He.ga K x) at_)
  g : mg x = some (.ref (He.ga K x))
theorem ErrAt.mk_ {X : Cx} {k : Nat} {x at_ q : Str} {e : Expr} {ta : TA} {p pos : Pos} (R : ErrAt X.prog X.w X.K X.mg X.base x at_ q) (hr : Room k X.A) (hk : 2 ≤ k) (hg : Gl X x) (ha : PA X [e] ta)
    (hdb : (x == ("__debug__" : Str)) = false := by decide) (he : starEach [e] X.env = (false, eval e X.env) :: starEach [] X.env := by rfl) (hpl : (backTo pos (starEach [] X.env)).any (·.1) = false := by rfl) :
    PMk X (.Call (.Name x p) [e] [] pos) (tMkO (He.ga X.K x) (spErr X.K (He.ga X.K x) at_) [] ta) := pmk_err R.e R.m hr hk hg R.g ha hdb he hpl
/-- a method that errors may leave -/
theorem DfnM.calE {P : Program} {w : World} {K : PySem.W.Frag} {mg : Str → Option Value} {base : Heap} {c m qual : Str} {st : Stmt} {N ps : List Str} {k : Nat} {sp : Sp} (D : DfnM K c m qual st) (S : FnScope N ps (defScope st))
    (hb : ∀ (kV doc pm : Value) (an : Option Addr) (cdv ct : Value) (us : List Value), us.length = ps.length → bindArgs (PySem.W.fnOf m qual (defArgs st) (defBody st) (defScope st) .none kV doc pm an cdv ct) ⟨us, []⟩ = pure (ps.zip us))
    (len : ∀ vs H Q E, sp vs H Q E → vs.length = ps.length)
    (body : ∀ (cdv : Value) (A : Around) (outer : List Env) (s : Shared) (H : Hp) (vs : List V) (Q : VK) (E : XK), Room k (A.deeper (envOfC qual (defScope st) s.heap.objs.size (He.fAd K (c, some m)) cdv)) → sp vs H Q E →
      ∃ t, PSs (cxOf (L2.CX P w) P w K mg base N qual (defScope st) (He.fAd K (c, some m)) cdv A outer s H E) (defBody st) t ∧ t { nx := fun _ H' => Q .non H', rt := Q } (start N vs) H) :
    CalM P w K mg base (L2.CX P w) (k + 1) (He.fAd K (c, some m)) ps sp := by
  obtain ⟨fd, F⟩ := D.fn
  exact ⟨fd, F.ok S len body, F.kp, F.bindsN hb⟩
theorem op_notHas {X : Cx} {k k' : Nat} {C f : Addr} {ps : List Str} {sp : Sp} (M : CalM X.prog X.w X.K X.mg X.base CX0 k f ps sp) (hr : Room k' X.A) (hk : k ≤ k') (hs : Has X.K C f)
    (hm : ∀ x y H Q Q' E, (∀ v H', Q v H' → Q' v H') → sp [x, y] H Q E → sp [x, y] H Q' E) : OpR X (compareOp .NotIn) (rInOwn C sp E0 true) := by
  obtain ⟨fd, F, _, hb⟩ := M.ex
  intro pins s σ H x y v u Q I rx ry h
  obtain ⟨a, dx, fs, e, ha, hsp⟩ := h
  show wpAny _ _ (do return Value.bool (!(← contains u v))) _ _ _
  refine wpAny_bind (own_in F (hr.mono hk) hs hb pass0 (Q := fun b s' => wpAny (model X.prog X.w) X.A (pure (Value.bool (!b))) (EP X pins σ Q) X.xe s') I rx ry ⟨a, dx, fs, e, ha, hm _ _ _ _ _ _ (fun z H' hz => ?_) hsp⟩)
  obtain ⟨b, rfl, hq⟩ := hz
  exact ⟨b, rfl, fun s' I' => wpAny_pure ⟨.bl (!b), H', I', rfl, hq⟩⟩
end Sr

set_option Elab.async false
set_option linter.all false
set_option maxRecDepth 100000
set_option maxHeartbeats 4000000
namespace Sr
open PySem PySem.Spec PyProof.Rows L2
/-! ### defs that errors may leave -/
structure CalE (P : Program) (w : World) (K : PySem.W.Frag) (mg : Str → Option Value) (base : Heap) (k : Nat) (x : Str) (ps : List Str) (sp : Sp) : Prop where
  ex : ∃ (f : Addr) (fd : FuncData), FnOk P w K mg base (L2.CX P w) k f fd ps sp ∧ mg x = some (.ref f) ∧ PySem.W.keepIn K (.ref f) = true ∧ Binds K fd ps []
theorem pe_calE {X : Cx} {k k' : Nat} {x : Str} {ps : List Str} {sp : Sp} {E : XK} {p pos : Pos} {e : Expr} {es : List Expr} {t : TA} (C : CalE X.prog X.w X.K X.mg X.base k x ps sp) (hr : Room k' X.A) (hk : k ≤ k') (hg : Gl X x) (hx : Passes (L2.CX X.prog X.w) X E) (ha : PA X (e :: es) t)
    (hdb : (x == ("__debug__" : Str)) = false := by decide) (he : starEach (e :: es) X.env = (false, eval e X.env) :: starEach es X.env := by rfl) (hpl : (backTo pos (starEach es X.env)).any (·.1) = false := by rfl) :
    PE X (.Call (.Name x p) (e :: es) [] pos) (tCall sp [] E t) := by
  obtain ⟨f, fd, F, hm, hkp, hb⟩ := C.ex
  exact pe_call F (hr.mono hk) hg hm hkp hb .nil hx ha hdb he hpl
theorem Dfn.calE {P : Program} {w : World} {K : PySem.W.Frag} {mg : Str → Option Value} {base : Heap} {x : Str} {st : Stmt} {N ps : List Str} {k : Nat} {sp : Sp} (D : Dfn K mg x st) (S : FnScope N ps (defScope st))
    (hb : ∀ (kV doc pm : Value) (an : Option Addr) (cdv ct : Value) (us : List Value), us.length = ps.length → bindArgs (PySem.W.fnOf x x (defArgs st) (defBody st) (defScope st) .none kV doc pm an cdv ct) ⟨us, []⟩ = pure (ps.zip us))
    (len : ∀ vs H Q E, sp vs H Q E → vs.length = ps.length)
    (body : ∀ (cdv : Value) (A : Around) (outer : List Env) (s : Shared) (H : Hp) (vs : List V) (Q : VK) (E : XK), Room k (A.deeper (envOfC x (defScope st) s.heap.objs.size (He.ga K x) cdv)) → sp vs H Q E →
      ∃ t, PSs (cxOf (L2.CX P w) P w K mg base N x (defScope st) (He.ga K x) cdv A outer s H E) (defBody st) t ∧ t { nx := fun _ H' => Q .non H', rt := Q } (start N vs) H) :
    CalE P w K mg base (k + 1) x ps sp := by
  obtain ⟨fd, F⟩ := D.fn
  exact ⟨_, fd, F.ok S len body, D.at_, F.kp, F.bindsN hb⟩
/-- where the callee's contract lets no error out -/
theorem passes_never {X : Cx} : Passes (L2.CX X.prog X.w) X E0 := fun _ _ _ _ _ _ _ c => by
  obtain ⟨_, _, _, _, _, _, _, _, _, _, _, _, h⟩ := c
  exact h.elim
/-- within a def that errors may leave -/
theorem passes_def {X : Cx} {E : XK} {E₁ : Value → Shared → Prop} (hs : X.stack = X.env :: X.outer) (hf : X.env.frame = some X.env.locals) (hex : X.ex = [])
    (hx : X.xe = fun e s' => wpAny (model X.prog X.w) X.A (leaving X.env e) (fun _ s'' => L2.CX X.prog X.w X.outer X.H_0 X.s_0 E e s'') E₁ s') : Passes (L2.CX X.prog X.w) X E :=
  passes_call (takes_of hs hf hex hx) fun _ _ _ _ h => h
end Sr

set_option Elab.async false
set_option linter.all false
set_option maxRecDepth 100000
set_option maxHeartbeats 4000000
namespace Sr
open PySem PySem.Spec PyProof.Rows L2
open Sem (wp)
/-! ### enumerate(tuple) -/
theorem meets_enumerate_newT {v : Value} {o : Obj} {H : Heap → Prop} (B : Begins v o H) :
    Meets (Builtin.«enumerate.__new__» ⟨[.type "enumerate", v], []⟩) (fun _ R s => H s.heap ∧
      R (.ok (.ret (.ref (s.heap.push o).objs.size))) { s with heap := (s.heap.push o).push { cls := .type "enumerate", data := .fields #[.none, .bool false, .ref s.heap.objs.size, rawInt 0, .none, .none] } }) :=
  .of_wp fun prog w A R s h => by
    obtain ⟨hp, g, d, tk, os⟩ := s; obtain ⟨h1, h⟩ := h
    have hsub := sub_enumerate
    have q1 : ∀ {A' : Around} {E : Value → Shared → Prop} {Q : Value → Shared → Prop}, Q (.ref hp.objs.size) ⟨hp.push o, g, d, tk, os⟩ → wpAny (model prog w) A' (pyIter v) Q E ⟨hp, g, d, tk, os⟩ :=
      fun q => B.iter prog w _ _ ⟨hp, g, d, tk, os⟩ _ h1 q
    wp_walk using q1
    refine wpAny_stack_any fun st => wpAny_pure ?_
    split
    · rename_i c _ _ _ _ _
      cases (c == Value.type "enumerate")
      · wp_walk using q1
        exact ⟨_, rfl, h⟩
      · wp_walk using q1
        exact ⟨_, rfl, h⟩
    · wp_walk using q1
      exact ⟨_, rfl, h⟩
section
variable {prog : Program} {w : World} {A : Around} {E : Value → Shared → Prop} {s : Shared}
theorem enumT_begins {v : Value} {o : Obj} {H : Heap → Prop} {Q : Value → Shared → Prop} (B : Begins v o H) (h1 : H s.heap)
    (h : ∀ h', IsEnum h' (s.heap.objs.size + 1) s.heap.objs.size 0 .none → h'.get? s.heap.objs.size = some o → h'.objs.size = s.heap.objs.size + 2 →
      (∀ b o, s.heap.get? b = some o → h'.get? b = some o) → Q (.ref (s.heap.objs.size + 1)) { s with heap := h' }) :
    wpAny (model prog w) A (call (.type "enumerate") [v]) Q E s := by
  refine callType_new PySem.F.called_enumerate (by decide) (PySem.F.typeCall_enumerate_1 _) (PySem.F.newCall_enumerate_1 _) (fun obj => PySem.F.args_object_init_2 obj _) PySem.F.entry_enumerate_new
    (meets_enumerate_newT B) ⟨h1, ?_⟩
  have hz : (s.heap.push o).objs.size = s.heap.objs.size + 1 := Heap.size_push ..
  show _ ∧ _
  rw [hz]
  have he : IsEnum ((s.heap.push o).push { cls := .type "enumerate", data := .fields #[.none, .bool false, .ref s.heap.objs.size, rawInt 0, .none, .none] }) (s.heap.objs.size + 1) s.heap.objs.size 0 .none := by
    have := Heap.get?_push_size (s.heap.push o) (o := { cls := .type "enumerate", data := .fields #[.none, .bool false, .ref s.heap.objs.size, rawInt 0, .none, .none] }) rfl
    rw [hz] at this; exact this
  refine ⟨⟨_, he, rfl⟩, h _ he (Heap.get?_push_of_some _ (Heap.get?_push_size _ B.free)) (by rw [Heap.size_push, hz]) fun b o x => Heap.get?_push_of_some _ (Heap.get?_push_of_some _ x)⟩
end
theorem enum_endT {prog : Program} {w : World} {A : Around} {E : Value → Shared → Prop} {s : Shared} {e it t : Addr} {j : Nat} {items : Array Value} {i : Int} {old : Value} {Q : Option Value → Shared → Prop} (hh : A.in1.handled = none)
    (he : IsEnum s.heap e it i old) (hit : s.heap.IsTupleIter it t j) (ht : s.heap.IsTuple t items) (hx : items[j]? = none)
    (hQ : ∀ h', Heap.ExtBut it s.heap h' → Q none { s with heap := h' }) : wpAny (model prog w) A (pyNext (.ref e)) Q E s := by
  have hT : s.TypeIs (.ref e) "enumerate" := ⟨_, he, rfl⟩
  unfold pyNext
  refine wpAny_bind (wpAny_attempt (wpAny_callSpecial?_slot (name := Str.ofString "__next__") hT PySem.F.slot_enumerate_next
    (wpAny_call_entry PySem.F.slot_enumerate_next hT PySem.F.entry_enumerate_next ?_ (PySem.F.args_enumerate_next_1 _))))
  show wpAny _ _ (field (.ref e) 2 >>= _) _ _ _
  refine wpAny_bind (wpAny_field he rfl (x := .ref it) rfl ?_)
  refine wpAny_bind (wpAny_nextOf_tuple_end hh hit ht hx fun h' x he' hx' => ?_)
  obtain ⟨o, ho, hc⟩ := hx'
  refine wpAny_bind (wpAny_isInstance (T := "StopIteration") (b := true) ⟨o, ho, hc⟩ isSubtype_stop ?_)
  exact wpAny_pure (hQ _ he')
/-- the tuple at a, each item in a new pair -/
def Itet (K : PySem.W.Frag) (a : Addr) : It :=
  ⟨fun i H => ∃ (xs : List V) (x : V), SqT K H a xs ∧ xs[i]? = some x, fun i H v H' => ∃ T x, v = .ref T ∧ H T = none ∧ H' = upd H T (.tup [.int (i : Nat), x]) ∧ ∀ xs, SqT K H a xs → xs[i]? = some x, fun i H => ∃ xs : List V, SqT K H a xs ∧ xs.length ≤ i⟩
theorem turn_enumT {P : Program} {w : World} {K : PySem.W.Frag} {elts : List Expr} {kk : Nat} {tpos : Pos} (a e it : Addr) :
    Turn P w K (.Tuple elts kk tpos) (Itet K a) [e, it] e (fun i h => (∃ old, IsEnum h e it ((i : Nat) : Int) old) ∧ h.IsTupleIter it a i ∧ e ≠ it) where
  mem := by simp
  obj := fun i h st b hb => by
    obtain ⟨⟨old, he⟩, ⟨o, ho, hc, hd⟩, _⟩ := st
    have e' : b = e ∨ b = it := by simpa using hb
    rcases e' with z | z
    · rw [z]; exact ⟨_, he, fun v q => nomatch q⟩
    · rw [z]; exact ⟨o, ho, fun v q => by rw [hd] at q; cases q⟩
  keep := fun i h h' st k => let ⟨⟨old, he⟩, hi, hne⟩ := st; ⟨⟨old, k e (by simp) _ he⟩, hi.at fun o q => k it (by simp) o q, hne⟩
  item := by
    intro X hP hw hK hc i pins s σ H E I hf st hg
    subst hP hw hK
    obtain ⟨⟨old, he⟩, hit, hne⟩ := st
    obtain ⟨xs, x, hq, hx⟩ := hg
    obtain ⟨its, rv, p, hz⟩ := I.tuple hq
    obtain ⟨u, hu, ru⟩ := rv.get hx
    have hel : e < s.heap.objs.size := Heap.lt_size he
    have hil : it < s.heap.objs.size := by obtain ⟨_, q, _⟩ := hit; exact Heap.lt_size q
    have hai : a ≠ it := fun z => by
      obtain ⟨o1, g1, g2, _⟩ := p
      obtain ⟨o2, g3, g4, _⟩ := hit
      rw [z, g3] at g1
      cases g1
      rw [g2] at g4
      injection g4 with g4
      exact absurd g4 (by decide)
    have hea : e ≠ a := fun z => by
      obtain ⟨o1, g1, g2, _⟩ := p
      have he2 : s.heap.get? a = _ := z ▸ he
      rw [he2] at g1
      cases g1
      injection g2 with g2
      exact absurd g2 (by decide)
    have D := Draws.tuple (prog := X.prog) (w := X.w) (A := X.A.in1) (I.ok.hd hc) it a hai its.toArray
    have hlt : i < its.toArray.size := by
      have := (List.getElem?_eq_some_iff.mp hu).1
      simpa using this
    refine wpAny_pyNext_enum_itemC D he ⟨hit, p⟩ hlt hne (by simp [hne, hea]) fun y h' tk hP ho hst' hT hsz hk => ?_
    have ey : y = u := by
      have hP : its.toArray[i]? = some y := hP
      rw [List.getElem?_toArray, hu] at hP
      exact (Option.some.inj hP).symm
    subst ey
    refine ⟨_, rfl, wpAny_letOwnedTupleGo_enum (s := { s with heap := h', toks := tk + 1 }) ho fun h'' he' sb => ?_⟩
    have hT2 : h''.get? s.heap.objs.size = some { cls := .type "tuple", data := .seq #[.int i tk, y] } := (sb.2 _ (Nat.ne_of_gt hel)).trans hT
    have new : ObjOk X.prog X.w (upd H s.heap.objs.size (.tup [.int (i : Nat), x])) h'' s.heap.objs.size (.tup [.int (i : Nat), x]) :=
      ⟨by show 2 ≤ sizeLine; decide, [.int i tk, y], .cons ⟨_, rfl⟩ (.cons ru .nil), ⟨_, hT2, rfl, _, rfl⟩⟩
    have I1 : L2.Inv X pins σ (upd H s.heap.objs.size (.tup [.int (i : Nat), x])) { s with heap := h'', toks := tk + 1 } :=
      I.turnedNew (ch := [e, it]) (fun b ob hb q => (sb.2 b (fun z => hb (by simp [z]))).trans (hk b ob (fun z => hb (by simp [z])) (fun z => hb (by simp [z])) q)) hf (Nat.le_refl _) new
    refine ⟨.ref s.heap.objs.size, _, I1, rfl, ⟨_, x, rfl, I.hok.fresh (Nat.le_refl _), rfl, fun ys hy => by rw [I.tuple_inj hy hq]; exact hx⟩, ⟨⟨y, ?_⟩, hst'.1.at fun o q => (sb.2 it (Ne.symm hne)).trans q, hne⟩, fun b hb => ?_⟩
    · have e1 : ((i + 1 : Nat) : Int) = (i : Int) + 1 := by omega
      rw [e1]; exact he'
    · have hb' : b < s.heap.objs.size := by
        have e' : b = e ∨ b = it := by simpa using hb
        rcases e' with z | z
        · rw [z]; exact hel
        · rw [z]; exact hil
      rw [upd_ne (Nat.ne_of_lt hb')]
      exact (hf b hb).1
  done := by
    intro X hP hw hK hc i pins s σ H E I hf st hg
    subst hP hw hK
    obtain ⟨⟨old, he⟩, hit, hne⟩ := st
    obtain ⟨xs, hq, hx⟩ := hg
    obtain ⟨its, rv, p, hz⟩ := I.tuple hq
    obtain ⟨f0, f1, f2, f3, f4, f5⟩ := hf it (by simp)
    have hl := rv.length
    refine enum_endT (I.ok.hd hc) he hit (show s.heap.IsTuple a its.toArray from p) (by simp; omega) fun h' eb => ⟨rfl, I.turned (t' := s.toks) (fun b o hb q => eb b o hb q) f0 f1 f3 f4 f5⟩
  self := fun A i s Q E st h => let ⟨⟨_, he⟩, _⟩ := st; wpAny_pyIter_enum he h
def iEnumT (K : PySem.W.Frag) (ta : TA) : TI := fun σ H R => ta σ H fun vs H1 => ∃ a xs, vs = [.ref a] ∧ SqT K H1 a xs ∧ R (Itet K a) H1
theorem pi_enumT {X : Cx} {e : Expr} {ta : TA} {p pos tpos : Pos} {elts : List Expr} {kk : Nat} (hg : Gl X "enumerate") (hm : X.mg "enumerate" = none) (ha : PA X [e] ta) (hs : starEach [e] X.env = [(false, eval e X.env)] := by rfl) :
    PI X (.Tuple elts kk tpos) (.Call (.Name "enumerate" p) [e] [] pos) (iEnumT X.K ta) := by
  refine ⟨fun pins s σ H R I h => ?_⟩
  refine Call_ (ld_blt I hg hm boot_enumerate (PyProof.Rows.callWith_type1 (thn (ha.run pos pins s σ H _ I h) fun us s1 ⟨vs, H1, I1, r1, q1⟩ => ?_) hs rfl))
  obtain ⟨a, xs, ex, hq, q⟩ := q1
  subst ex
  cases r1 with
  | cons r rr =>
    cases rr
    cases r
    obtain ⟨its, rv, p', hz⟩ := I1.tuple hq
    refine enumT_begins (begins_tuple a its.toArray) (show s1.heap.IsTuple a its.toArray from p') fun h' he hit hsz hk => wpAny_pyIter_enum he ?_
    have I2 : L2.Inv X pins σ H1 { s1 with heap := h' } := I1.kept (t' := s1.toks) hk
    refine ⟨s1.heap.objs.size + 1, [s1.heap.objs.size + 1, s1.heap.objs.size], _, _, H1, rfl, I2, turn_enumT a (s1.heap.objs.size + 1) s1.heap.objs.size, ⟨⟨.none, he⟩, ⟨_, hit, rfl, rfl⟩, Nat.succ_ne_self _⟩, fun b hb => ?_, q⟩
    have e' : b = s1.heap.objs.size + 1 ∨ b = s1.heap.objs.size := by simpa using hb
    have hle : s1.heap.objs.size ≤ b := by
      rcases e' with z | z
      · rw [z]; exact Nat.le_add_right _ _
      · rw [z]; exact Nat.le_refl _
    exact I1.fpOk hle (I1.hok.fresh hle)
theorem walk_enumT {K : PySem.W.Frag} {a : Addr} {xs : List V} : Walk (Itet K a) xs.length (fun H => SqT K H a xs) (YPair (fun i => some (.int (i : Nat))) (fun i => xs[i]?)) := by
  refine ⟨fun i _ hi q => ⟨xs, xs[i], q, by simp [hi]⟩, fun _ q => ⟨xs, q, Nat.le_refl _⟩, fun i H v H' _ q y => ?_⟩
  obtain ⟨T, x, h1, h2, h3, h4⟩ := y
  exact ⟨T, .int (i : Nat), x, h1, h2, h3, rfl, h4 xs q⟩
end Sr

set_option Elab.async false
set_option linter.all false
set_option maxRecDepth 100000
set_option maxHeartbeats 4000000
namespace Sr
open PySem PySem.Spec PyProof.Rows L2 LamX
/-! ### a def that calls what it got within a try, and tells what is told or refused -/
/-- try: return (s1, a()) / except CS as e: return (s2, e.at_) -/
def TTried (CS : Addr) (at_ : Str) (s1 s2 : Str) : (XK → Hp → VK → Prop) → Hp → VK → Prop := fun tl H Q =>
  tl (fun cls d H' => cls = .ref CS ∧ ∃ e v, d = some e ∧ H' e = some (.xd [(at_, v)]) ∧ ∀ p, H' p = none → Q (.ref p) (upd H' p (.tup [.str s2, v]))) H
    (fun v H' => [V.str s1, v].length ≤ sizeLine ∧ ∀ p, H' p = none → Q (.ref p) (upd H' p (.tup [.str s1, v])))
theorem lineN {n : Nat} (h : n ≤ 1000 := by decide) : n ≤ sizeLine := Nat.le_of_lt (sz h)
theorem three_line : (3 : Nat) ≤ sizeLine := by rw [sizeLine_eq]; decide
theorem rd_mono {H H' : Hp} {a : Addr} {o : HO} (e : Same H H') (h : Rd H a o) : Rd H' a o := h.elim (fun h => .inl (e _ _ h)) fun ⟨u, h⟩ => .inr ⟨u, e _ _ h⟩
theorem sql_mono {K : PySem.W.Frag} {H H' : Hp} {a : Addr} {xs : List V} (e : Same H H') (h : SqL K H a xs) : SqL K H' a xs := h.elim (fun h => .inl (rd_mono e h)) .inr
theorem sqt_mono {K : PySem.W.Frag} {H H' : Hp} {a : Addr} {xs : List V} (e : Same H H') (h : SqT K H a xs) : SqT K H' a xs := h.elim (fun h => .inl (rd_mono e h)) .inr
theorem sq_mono {K : PySem.W.Frag} {H H' : Hp} {a : Addr} {xs : List V} (e : Same H H') (h : SqL K H a xs ∨ SqT K H a xs) : SqL K H' a xs ∨ SqT K H' a xs := h.elim (fun h => .inl (sql_mono e h)) fun h => .inr (sqt_mono e h)
/-- a body whose slots are as many as its names -/
theorem pss_len {X : Cx} {sts : List Stmt} {t : TS} {n : Nat} (h : PSs X sts t) (hn : X.N.length = n := by rfl) : PSs X sts (fun D σ H => σ.length = n → t D σ H) :=
  ⟨fun pins s σ H D I q => h.run pins s σ H D I (q (I.len.trans hn))⟩
/-! ### a def called with a lambda -/
theorem pe_lam {X : Cx} (qn : Str) {x a : Str} {st : Stmt} {Ng : List Str} {TT : (XK → Hp → VK → Prop) → Hp → VK → Prop} {k : Nat} {params : Arguments} {body : Expr} {scope : Scope} {t : XK → TE} {c P : Addr} {p lpos pos : Pos} (D : Dfn X.K X.mg x st) (Sg : FnScope Ng [a] (defScope st))
    (hb : ∀ (kV doc pm : Value) (an : Option Addr) (cdv ct : Value) (us : List Value), us.length = [a].length → bindArgs (PySem.W.fnOf x x (defArgs st) (defBody st) (defScope st) .none kV doc pm an cdv ct) ⟨us, []⟩ = pure ([a].zip us))
    (hG : ∀ cdv : Value, GivesTo X Ng x (defScope st) (He.ga X.K x) cdv (defBody st) a (X.env.qual ++ "<lambda>") TT) (TB : TabB X.base X.mg c P) (hcode : X.env.code = .ref c) (hr : Room (k + 2) X.A)
    (hbody : ∀ (A : Around) (outer : List Env) (s : Shared) (H : Hp) (E : XK) (f c' : Addr), Room k (A.deeper (lamEnv X scope s.heap.objs.size f c')) → PE (lamCx X A outer s H E scope f c') body (t E))
    (hg : Gl X x) (L : LamS X.env.scope scope) (hbind : ∀ (q : Str) (cl : List (Str × Addr)) (pm cv ctv : Value), bindArgs (PySem.W.kla_fn "<lambda>" q params body scope cl pm cv ctv) ⟨[], []⟩ = pure [])
    (hqn : X.env.qual = qn := by rfl) (hdef : defaultsOf params X.env = ([], []) := by rfl) (hNg : Ng[0]? = some a := by rfl) (hva : Vis (defScope st) a := by first | exact Or.inl rfl | exact Or.inr (Or.inl rfl))
    (hdb : (x == ("__debug__" : Str)) = false := by decide) (hd : (a == ("__debug__" : Str)) = false := by decide) (hcd : (a == ("__classdict__" : Str)) = false := by decide) :
    PE X (.Call (.Name x p) [.Lambda params body scope lpos] [] pos) (tLam [(P, qn ++ "<lambda>")] TT t) := by
  subst hqn
  obtain ⟨fd, F⟩ := D.fn
  have hB := F.bindsN hb
  obtain ⟨oc, od, dV, kV, doc, pm, an, cdv, ct, osl, rfl, lk, hcg, _, _⟩ := F.ex
  exact pe_lamcall hg D.at_ F.kp lk hcg hB Sg hNg hva (hG cdv) TB hcode List.mem_cons_self (fun p hp _ => by rw [List.mem_singleton.mp hp]) hr L hdef hbind hbody hdb hd hcd
/-- a def of the top, with its code object known -/
theorem fun_ok {P : Program} {w : World} {K : PySem.W.Frag} {mg : Str → Option Value} {base : Heap} {CX : CXT} {x : Str} {st : Stmt} {N ps : List Str} {k : Nat} {sp : Sp} {fd : FuncData} (F : FunD K x x (defArgs st) (defBody st) (defScope st) [] [] (He.ga K x) fd) (S : FnScope N ps (defScope st)) (len : ∀ vs H Q E, sp vs H Q E → vs.length = ps.length)
    (hbody : ∀ (A : Around) (outer : List Env) (s : Shared) (H : Hp) (vs : List V) (Q : VK) (E : XK), Room k (A.deeper (envOfC x (defScope st) s.heap.objs.size (He.ga K x) (.ref (He.codeOf K (x, none))))) → sp vs H Q E →
      ∃ t, PSs (cxOf CX P w K mg base N x (defScope st) (He.ga K x) (.ref (He.codeOf K (x, none))) A outer s H E) (defBody st) t ∧ t { nx := fun _ H' => Q .non H', rt := Q } (L2.start N vs) H) : FnOk P w K mg base CX (k + 1) (He.ga K x) fd ps sp := by
  obtain ⟨oc, od, dV, kV, doc, pm, an, cdv, ct, osl, rfl, lk, hcd, _, _⟩ := F.ex
  obtain ⟨c, rfl⟩ := He.codeIn_ref hcd
  have e : He.codeOf K (x, none) = c := He.codeOf_eq (p := (x, none)) lk rfl
  rw [e] at hbody
  exact fn_of lk hcd S len hbody
end Sr

set_option Elab.async false
set_option linter.all false
set_option maxRecDepth 100000
set_option maxHeartbeats 4000000
namespace Sr
open PySem PySem.Spec PyProof.Rows L2
/-! ### a list or a tuple, whichever it is -/
def SqAny (K : PySem.W.Frag) (H : Hp) (a : Addr) (xs : List V) : Prop := SqL K H a xs ∨ SqT K H a xs
theorem PG.or {X : Cx} {e : Expr} {t u : TG} (h : PG X e t) (k : PG X e u) : PG X e (fun v σ H Q => t v σ H Q ∨ u v σ H Q) :=
  ⟨fun pins s σ H v w Q I r q => q.elim (h.run pins s σ H v w Q I r) (k.run pins s σ H v w Q I r)⟩
def gSeq (K : PySem.W.Frag) (n : Nat) (t : TGs) : TG := fun v σ H Q => ∃ a xs, v = .ref a ∧ SqAny K H a xs ∧ xs.length = n ∧ t xs σ H Q
theorem pg_seq {X : Cx} {pos : Pos} {es : List Expr} {k : Nat} {t : TGs} {n : Nat} (hc : X.calm = true) (h : PGs X es t)
    (hn : (assignEach es X.env).length = n := by rfl) (hst : (assignEach es X.env).findIdx? (·.1) = none := by rfl) : PG X (.Tuple es k pos) (gSeq X.K n t) := by
  refine ⟨fun pins s σ H v u Q I r hw => ?_⟩
  obtain ⟨a, xs, e1, hq, hl, hw⟩ := hw
  rcases hq with hq | hq
  · exact (pg_unl (pos := pos) (k := k) hc h hn hst).run pins s σ H v u Q I r ⟨a, xs, e1, hq, hl, hw⟩
  · exact (pg_tup (pos := pos) (k := k) hc h hn hst).run pins s σ H v u Q I r ⟨a, xs, e1, hq, hl, hw⟩
def SeqIt (K : PySem.W.Frag) (H1 : Hp) (a : Addr) (R : It → Hp → Prop) : Prop := ((∃ xs, SqL K H1 a xs) ∧ R (Itl K a) H1) ∨ ((∃ xs, SqT K H1 a xs) ∧ R (Itt K a) H1)
def SeqItE (K : PySem.W.Frag) (H1 : Hp) (a : Addr) (R : It → Hp → Prop) : Prop := ((∃ xs, SqL K H1 a xs) ∧ R (Ite K a) H1) ∨ ((∃ xs, SqT K H1 a xs) ∧ R (Itet K a) H1)
def iSeq (K : PySem.W.Frag) (tl : TE) : TI := fun σ H R => tl σ H fun x H1 => ∃ a, x = .ref a ∧ SeqIt K H1 a R
/-- an iterator just laid down, at the next place, stands for its walk -/
theorem pie_new {X : Cx} {pins : List (Addr × Obj)} {σ : L2.St} {tg : Expr} {R : It → Hp → Prop} {s : Shared} {H : Hp} {J : It} {tn : Nat → Heap → Prop} {o : Obj} {n : Addr} (I : L2.Inv X pins σ H s) (hn : n = s.heap.objs.size) (T : Turn X.prog X.w X.K tg J [n] n tn)
    (h0 : tn 0 (s.heap.push o)) (q : R J H) : PIE X pins σ tg R (.ref n) { s with heap := s.heap.push o } := by
  have keep : L2.Inv X pins σ H { s with heap := s.heap.push o } := I.kept (t' := s.toks) fun _ _ e => Heap.get?_push_of_some _ e
  have fresh : FpOk X pins H n := I.fpOk (Nat.le_of_eq hn.symm) (I.hok.fresh (Nat.le_of_eq hn.symm))
  exact ⟨n, [n], tn, J, H, rfl, keep, T, h0, fun b hb => (List.mem_singleton.mp hb) ▸ fresh, q⟩
theorem pi_seq {X : Cx} {tg l : Expr} {tl : TE} (hl : PE X l tl) : PI X tg l (iSeq X.K tl) := by
  refine ⟨fun pins s σ H R I h => thn (hl.run pins s σ H _ I h) ?_⟩
  rintro v s1 ⟨_, H1, I1, r1, a, rfl, q | q⟩ <;> cases r1 <;> obtain ⟨⟨xs, hq⟩, q⟩ := q
  · obtain ⟨its, _, p, _⟩ := I1.list hq
    exact wpAny_pyIter_list p.isList (pie_new I1 rfl (turn_list a _) ⟨_, Heap.get?_push_size _ rfl, rfl, rfl⟩ q)
  · obtain ⟨its, _, p, _⟩ := I1.tuple hq
    exact wpAny_pyIter_tuple (items := its.toArray) p (pie_new I1 rfl (turn_tuple a _) ⟨_, Heap.get?_push_size _ rfl, rfl, rfl⟩ q)
def iEnumS (K : PySem.W.Frag) (ta : TA) : TI := fun σ H R => ta σ H fun vs H1 => ∃ a, vs = [.ref a] ∧ SeqItE K H1 a R
/-- the same, of two things laid down, the upper one of which is asked -/
theorem pie_two {X : Cx} {pins : List (Addr × Obj)} {σ : L2.St} {tg : Expr} {R : It → Hp → Prop} {s : Shared} {h' : Heap} {H : Hp} {J : It} {tn : Nat → Heap → Prop} {n : Nat} (I : L2.Inv X pins σ H s) (hn : n = s.heap.objs.size) (hk : ∀ b o, s.heap.get? b = some o → h'.get? b = some o)
    (T : Turn X.prog X.w X.K tg J [n + 1, n] (n + 1) tn) (h0 : tn 0 h') (q : R J H) : PIE X pins σ tg R (.ref (n + 1)) { s with heap := h' } := by
  have fresh : ∀ b, n ≤ b → FpOk X pins H b := fun b hb => I.fpOk (hn ▸ hb) (I.hok.fresh (hn ▸ hb))
  refine ⟨n + 1, [n + 1, n], tn, J, H, rfl, I.kept (t' := s.toks) hk, T, h0, ?_, q⟩
  simp only [List.forall_mem_cons, List.not_mem_nil, false_implies, implies_true, and_true]
  exact ⟨fresh _ (Nat.le_succ _), fresh _ (Nat.le_refl _)⟩
theorem pi_enumS {X : Cx} {e : Expr} {ta : TA} {p pos tpos : Pos} {elts : List Expr} {kk : Nat} (hg : Gl X "enumerate") (hm : X.mg "enumerate" = none) (ha : PA X [e] ta) (hs : starEach [e] X.env = [(false, eval e X.env)] := by rfl) :
    PI X (.Tuple elts kk tpos) (.Call (.Name "enumerate" p) [e] [] pos) (iEnumS X.K ta) := by
  refine ⟨fun pins s σ H R I h => Call_ (ld_blt I hg hm boot_enumerate (PyProof.Rows.callWith_type1 (thn (ha.run pos pins s σ H _ I h) ?_) hs rfl))⟩
  rintro us s1 ⟨_, H1, I1, r1, a, rfl, q⟩
  cases r1 with
  | cons r rr =>
    cases rr
    cases r
    rcases q with ⟨⟨xs, hq⟩, q⟩ | ⟨⟨xs, hq⟩, q⟩
    · obtain ⟨its, _, p', _⟩ := I1.list hq
      exact call_enumerate_list p'.isList fun h' he hit _ hk => wpAny_pyIter_enum he (pie_two I1 rfl hk (turn_enum a _ _) ⟨⟨.none, he⟩, hit, Nat.succ_ne_self _⟩ q)
    · obtain ⟨its, _, p', _⟩ := I1.tuple hq
      exact enumT_begins (begins_tuple a its.toArray) p' fun h' he hit _ hk => wpAny_pyIter_enum he (pie_two I1 rfl hk (turn_enumT a _ _) ⟨⟨.none, he⟩, ⟨_, hit, rfl, rfl⟩, Nat.succ_ne_self _⟩ q)
/-- the object of a list or a tuple -/
def seqO (xs : List V) (o : HO) : Prop := o = .lst xs ∨ o = .tup xs
theorem seqO.any {K : PySem.W.Frag} {H : Hp} {a : Addr} {xs : List V} {o : HO} (h : seqO xs o) (e : H a = some o) : SqAny K H a xs := by
  rcases h with rfl | rfl
  · exact .inl (SqL.of e)
  · exact .inr (SqT.of e)
/-- a walk over it, as one walk -/
theorem seq_walk {K : PySem.W.Frag} {a : Addr} {xs : List V} {o : HO} (h : seqO xs o) : ∃ J, Walk J xs.length (fun H => H a = some o) (YAt xs) ∧
    ∀ (H : Hp) (R : It → Hp → Prop), H a = some o → R J H → SeqIt K H a R := by
  rcases h with rfl | rfl
  · exact ⟨Itl K a, walk_list.mono (fun H e => SqL.of e) fun _ _ _ _ _ _ y => y, fun H R e r => .inl ⟨⟨_, SqL.of e⟩, r⟩⟩
  · exact ⟨Itt K a, walk_tup.mono (fun H e => SqT.of e) fun _ _ _ _ _ _ y => y, fun H R e r => .inr ⟨⟨_, SqT.of e⟩, r⟩⟩
theorem seq_walkE {K : PySem.W.Frag} {a : Addr} {xs : List V} {o : HO} (h : seqO xs o) : ∃ J, Walk J xs.length (fun H => H a = some o) (YPair (fun i => some (.int (i : Nat))) (fun i => xs[i]?)) ∧
    ∀ (H : Hp) (R : It → Hp → Prop), H a = some o → R J H → SeqItE K H a R := by
  rcases h with rfl | rfl
  · exact ⟨Ite K a, walk_enum.mono (fun H e => SqL.of e) fun _ _ _ _ _ _ y => y, fun H R e r => .inl ⟨⟨_, SqL.of e⟩, r⟩⟩
  · exact ⟨Itet K a, walk_enumT.mono (fun H e => SqT.of e) fun _ _ _ _ _ _ y => y, fun H R e r => .inr ⟨⟨_, SqT.of e⟩, r⟩⟩
/-- what stands for a list or a tuple -/
def seqOfD : Dt → Option (List Dt)
  | .lst l => some l
  | .tup l => some l
  | _ => none
theorem Is.seq {H : Hp} {v : V} {d : Dt} {l : List Dt} (h : Is H v d) (e : seqOfD d = some l) : ∃ a xs o, v = .ref a ∧ H a = some o ∧ seqO xs o ∧ IsA H xs l ∧ xs.length ≤ 60 := by
  cases h with
  | lst h r z => cases e; exact ⟨_, _, _, rfl, h, .inl rfl, r, z⟩
  | tup h r z => cases e; exact ⟨_, _, _, rfl, h, .inr rfl, r, z⟩
  | _ => cases e
end Sr

set_option Elab.async false
set_option linter.all false
set_option maxRecDepth 100000
set_option maxHeartbeats 4000000
namespace Sr
open PySem PySem.Spec PyProof.Rows L2
/-! ### data as plain data, for == -/
mutual
def toP : Dt → PyData
  | .non => .none
  | .bl b => .bool b
  | .int i => .int i
  | .str s => .str s
  | .lst l => .list (toPs l)
  | .tup l => .tuple (toPs l)
  | .dic => .none
def toPs : List Dt → List PyData
  | [] => []
  | d :: r => toP d :: toPs r
end
mutual
/-- without dicts -/
def plainD : Dt → Bool
  | .lst l => plainDs l
  | .tup l => plainDs l
  | .dic => false
  | _ => true
def plainDs : List Dt → Bool
  | [] => true
  | d :: r => plainD d && plainDs r
end
theorem toPs_map : ∀ l : List Dt, toPs l = l.map toP
  | [] => rfl
  | d :: r => by
    show toP d :: toPs r = toP d :: r.map toP
    rw [toPs_map r]
theorem plainDs_all : ∀ {l : List Dt}, (∀ d ∈ l, plainD d = true) → plainDs l = true
  | [], _ => rfl
  | d :: r, h => by
    unfold plainDs
    rw [h d List.mem_cons_self, plainDs_all fun x m => h x (List.mem_cons_of_mem _ m)]
    rfl
mutual
theorem dp_of {K : PySem.W.Frag} {H : Hp} : ∀ {v : V} {d : Dt}, Is H v d → plainD d = true → Dp K H v (toP d)
  | _, _, .non, _ => .non
  | _, _, .bl b, _ => .bl b
  | _, _, .int i, _ => .int i
  | _, _, .str s h, _ => .str s
  | _, _, .lst h r z, p => .lst (SqL.of h) (dp_ofs r p)
  | _, _, .tup h r z, p => .tup (SqT.of h) (dp_ofs r p)
  | _, _, .dic h, p => by cases p
theorem dp_ofs {K : PySem.W.Frag} {H : Hp} : ∀ {vs : List V} {ds : List Dt}, IsA H vs ds → plainDs ds = true → DpAll K H vs (toPs ds)
  | _, _, .nil, _ => .nil
  | _, _, .cons h r, p => .cons (dp_of h (Bool.and_eq_true_iff.mp p).1) (dp_ofs r (Bool.and_eq_true_iff.mp p).2)
end
/-- a last thing that is otherwise -/
theorem eqvAll_last {x y : PyData} (h : PyData.eqv x y = false) : ∀ l : List PyData, PyData.eqvAll (l ++ [x]) (l ++ [y]) = false
  | [] => by
    show (PyData.eqv x y && true) = false
    rw [h]
    rfl
  | d :: r => by
    show (PyData.eqv d d && PyData.eqvAll (r ++ [x]) (r ++ [y])) = false
    rw [eqvAll_last h r, Bool.and_false]
theorem eqvAll_more {x : PyData} : ∀ l : List PyData, PyData.eqvAll (l ++ [x]) l = false
  | [] => rfl
  | d :: r => by
    show (PyData.eqv d d && PyData.eqvAll (r ++ [x]) r) = false
    rw [eqvAll_more r, Bool.and_false]
/-- data that may be compared, n deep -/
structure Lay (n : Nat) (d : Dt) : Prop where
  pl : plainD d = true
  cl : PyData.canLay0 (toP d) = true
  dp : PyData.depth (toP d) ≤ n
theorem lays {n : Nat} : ∀ {l : List Dt}, (∀ d ∈ l, Lay n d) → plainDs l = true ∧ PyData.canLayAll0 (toPs l) = true ∧ PyData.depthAll (toPs l) ≤ n
  | [], _ => ⟨rfl, rfl, Nat.zero_le _⟩
  | d :: r, h => by
    have h1 := h d List.mem_cons_self
    obtain ⟨a, b, c⟩ := lays fun x m => h x (List.mem_cons_of_mem _ m)
    refine ⟨?_, ?_, ?_⟩
    · show (plainD d && plainDs r) = true
      rw [h1.pl, a]
      rfl
    · show (PyData.canLay0 (toP d) && PyData.canLayAll0 (toPs r)) = true
      rw [h1.cl, b]
      rfl
    · show max (PyData.depth (toP d)) (PyData.depthAll (toPs r)) ≤ n
      have := h1.dp
      omega
theorem Lay.tup {n : Nat} {l : List Dt} (h : ∀ d ∈ l, Lay n d) : Lay (n + 1) (.tup l) := by
  obtain ⟨a, b, c⟩ := lays h
  exact ⟨a, b, Nat.succ_le_succ c⟩
theorem Lay.lst {n : Nat} {l : List Dt} (h : ∀ d ∈ l, Lay n d) : Lay (n + 1) (.lst l) := by
  obtain ⟨a, b, c⟩ := lays h
  exact ⟨a, b, Nat.succ_le_succ c⟩
theorem Lay.int {n : Nat} {i : Int} : Lay n (.int i) := ⟨rfl, rfl, Nat.zero_le _⟩
theorem Lay.str {n : Nat} {s : Str} (h : PyData.canLay0 (.str s) = true) : Lay n (.str s) := ⟨rfl, h, Nat.zero_le _⟩
theorem lay_shaped {n : Nat} {l : List Dt} (h : ∀ d ∈ l, Lay n d) (hn : n + 1 ≤ 64) : plainDs l = true ∧ SeqAt.shaped (.list (toPs l)) = true := by
  obtain ⟨a, b, c⟩ := lays h
  refine ⟨a, ?_⟩
  show (PyData.canLayAll0 (toPs l) && decide (PyData.depthAll (toPs l) + 1 ≤ 64)) = true
  rw [b, decide_eq_true (by omega)]
  rfl
end Sr

set_option Elab.async false
set_option linter.all false
set_option maxRecDepth 100000
set_option maxHeartbeats 4000000
namespace Sr
open PySem PySem.Spec PyProof.Rows L2
/-! ### x in a tuple, by what they stand for; two rules for one operation -/
def rInDT (K : PySem.W.Frag) : R2 := fun x y H Q => ∃ d ds, Dp K H x d ∧ Dp K H y (.tuple ds) ∧ SeqAt.shaped d = true ∧ PyData.canLayAll0 ds = true ∧ Q (.bl (ds.any fun z => PyData.eqv z d)) H
theorem op_inDT {X : Cx} (hu : X.A.units + 65 < cLine) : OpR X (compareOp .In) (rInDT X.K) := by
  intro pins s σ H x y v u Q I rx ry h
  obtain ⟨d, ds, hd, he, sd, se, q⟩ := h
  obtain ⟨as, r1⟩ := Dp.reads I d x v hd rx
  obtain ⟨bs, r2⟩ := Dp.reads I (.tuple ds) y u he ry
  exact SeqAt.in_tuple_reads r2 r1 se (SeqAt.canLay_of_shaped sd) (room_in_shaped sd hu) ⟨.bl _, H, I, rfl, q⟩
theorem op_or {X : Cx} {op : Value → Value → Sem Value} {r r' : R2} (h : OpR X op r) (h' : OpR X op r') : OpR X op (fun x y H Q => r x y H Q ∨ r' x y H Q) := by
  intro pins s σ H x y v u Q I rx ry z
  rcases z with z | z
  · exact h pins s σ H x y v u Q I rx ry z
  · exact h' pins s σ H x y v u Q I rx ry z
theorem u65 {k : Nat} {A : Around} (r : Room k A) : A.units + 65 < cLine := by have := r.un; omega
end Sr

set_option Elab.async false
set_option linter.all false
set_option maxRecDepth 100000
set_option maxHeartbeats 4000000
namespace K28
open PySem PySem.Spec PyProof.Rows L2 Sr
def top (i : Nat) : Stmt := PySem.Challenge.pw_seatroads_k28_known_when.main.body.getD i (.Pass ⟨0, 0, 0, 0⟩)
def signs : Str := "abcdefghijklmnopqrstuvwxyz0123456789"
/-- what the top leaves besides defs -/
structure Txt (K : PySem.W.Frag) (mg : Str → Option Value) : Prop where
  len : mg "len" = none
  isinstance : mg "isinstance" = none
  all : mg "all" = none
  range : mg "range" = none
  sorted : mg "sorted" = none
  list : mg "list" = none
  tuple : mg "tuple" = none
  min : mg "min" = none
  int : mg "int" = none
  str : mg "str" = none
  bool : mg "bool" = none
  dict : mg "dict" = none
  zip : mg "zip" = none
  enumerate : mg "enumerate" = none
  gSigns : ∃ t, mg "SIGNS" = some (.str signs t)
  gLongest : ∃ t, mg "LONGEST" = some (.int 8 t)
  gTill : ∃ t, mg "TILL" = some (.str "the-till" t)
  max : mg "max" = none
  sum : mg "sum" = none
  set : mg "set" = none
  gGreatest : ∃ t, mg "GREATEST" = some (.int 1000000 t)
  gPool : ∃ t, mg "POOL" = some (.str "the-pool" t)
theorem Txt.e_SIGNS {X : Cx} {p : Pos} (T : Txt X.K X.mg) (h : Gl X "SIGNS" := by rfl) : PE X (.Name "SIGNS" p) (tC (.str signs)) := by
  obtain ⟨t, e⟩ := T.gSigns
  exact pe_glob h e ⟨t, rfl⟩
theorem Txt.e_LONGEST {X : Cx} {p : Pos} (T : Txt X.K X.mg) (h : Gl X "LONGEST" := by rfl) : PE X (.Name "LONGEST" p) (tC (.int 8)) := by
  obtain ⟨t, e⟩ := T.gLongest
  exact pe_glob h e ⟨t, rfl⟩
theorem Txt.e_TILL {X : Cx} {p : Pos} (T : Txt X.K X.mg) (h : Gl X "TILL" := by rfl) : PE X (.Name "TILL" p) (tC (.str "the-till")) := by
  obtain ⟨t, e⟩ := T.gTill
  exact pe_glob h e ⟨t, rfl⟩
theorem Txt.e_POOL {X : Cx} {p : Pos} (T : Txt X.K X.mg) (h : Gl X "POOL" := by rfl) : PE X (.Name "POOL" p) (tC (.str "the-pool")) := by
  obtain ⟨t, e⟩ := T.gPool
  exact pe_glob h e ⟨t, rfl⟩
theorem Txt.e_GREATEST {X : Cx} {p : Pos} (T : Txt X.K X.mg) (h : Gl X "GREATEST" := by rfl) : PE X (.Name "GREATEST" p) (tC (.int 1000000)) := by
  obtain ⟨t, e⟩ := T.gGreatest
  exact pe_glob h e ⟨t, rfl⟩
/-! ### what the defs tell -/
def nameOk : Dt → Bool
  | .str s => (decide (1 ≤ s.length) && decide (s.length ≤ 8)) && s.cps.toList.all fun c => decide (c ∈ signs.cps.toList)
  | _ => false
def flatD (d : Dt) : Prop := isSeq d = false ∧ d ≠ .dic
def valD : Dt → V
  | .bl b => .bl b
  | .int i => .int i
  | .str s => .str s
  | _ => .non
theorem flat_val {H : Hp} {v : V} {d : Dt} (h : Is H v d) (f : flatD d) : v = valD d ∧ flatV (valD d) = true := by
  cases h with
  | lst => cases f.1
  | tup => cases f.1
  | dic => exact absurd rfl f.2
  | _ => exact ⟨rfl, rfl⟩
def offices : List V := [.str "the-till", .str "the-pool"]
def accOk (d : Dt) : Bool := nameOk d || inV (valD d) offices
def isInteger (d : Dt) : Bool := isInt d && !isBl d
def seqOf : Dt → Option (List Dt)
  | .lst l => some l
  | .tup l => some l
  | _ => none
def rowL : List Dt → Bool
  | [a, b, c] => accOk a && (nameOk b && isInteger c)
  | _ => false
def rowOk (d : Dt) : Bool := match seqOf d with
  | some l => rowL l
  | none => false
def rowFlat (d : Dt) : Prop := ∀ l, seqOf d = some l → ∀ x ∈ l, flatD x
def firstBad : List Dt → Nat → Option Nat
  | [], _ => none
  | x :: r, i => if rowOk x = true then firstBad r (i + 1) else some i
def badAt (d : Dt) : Option Nat := match seqOf d with
  | none => some 0
  | some l => firstBad l 0
/-- of one datum: told a Bool, what stood stays -/
def spB (f : Dt → Bool) : Sp := fun vs H Q _ => ∃ v d, vs = [v] ∧ Is H v d ∧ ∀ H', Same H H' → Q (.bl (f d)) H'
theorem spB_len {f : Dt → Bool} (vs : List V) (H : Hp) (Q : VK) (E : XK) (h : spB f vs H Q E) : vs.length = 1 := by
  obtain ⟨v, d, rfl, _⟩ := h
  rfl
/-- the same, of a datum with a property -/
def spBP (p : Dt → Prop) (f : Dt → Bool) : Sp := fun vs H Q _ => ∃ v d, vs = [v] ∧ Is H v d ∧ p d ∧ ∀ H', Same H H' → Q (.bl (f d)) H'
theorem spBP_len {p : Dt → Prop} {f : Dt → Bool} (vs : List V) (H : Hp) (Q : VK) (E : XK) (h : spBP p f vs H Q E) : vs.length = 1 := by
  obtain ⟨v, d, rfl, _⟩ := h
  rfl
abbrev one {α : Type} {l : List α} (h : l.length = 1) : ∃ x, l = [x] := List.length_eq_one_iff.mp h
section
variable {P : Program} {w : World} {K : PySem.W.Frag} {mg : Str → Option Value} {base : Heap}
abbrev s_is_list : Stmt := top 6
theorem sc_is_list : FnScope ["thing"] ["thing"] (defScope s_is_list) := ⟨rfl, rfl, rfl, by decide +kernel, rfl, by decide +kernel, by decide +kernel⟩
theorem c_is_list (T : Txt K mg) (D : Dfn K mg "is_list" s_is_list) : Cal P w K mg base 1 "is_list" ["thing"] (spB isSeq) := by
  refine D.cal sc_is_list (fun _ _ _ _ _ _ us hl => match us, hl with | [_], _ => rfl) spB_len fun cdv A outer s H vs Q E hr h => ?_
  obtain ⟨v, d, rfl, hv, q⟩ := h
  refine ⟨_, (pss_one (ps_ret (pe_callB (id := "isinstance") call_isiT (by rfl) T.isinstance (by decide +kernel) (pa_cons (pv 0) (pa_cons (pe_tup (pa_cons (pe_tyv (n := "list") (by rfl) T.list (by decide +kernel)) (pa_cons (pe_tyv (n := "tuple") (by rfl) T.tuple (by decide +kernel)) pa_nil))) pa_nil))))), ?_⟩
  refine ⟨_, rfl, two_line, fun p hp => ⟨v, p, [.ty "list", .ty "tuple"], .type (tyN d), [.type "list", .type "tuple"], _, rfl, upd_same, cls_two _ _, (hv.mono (Same.up hp)).ty, kit_seq K d, q _ (Same.up hp)⟩⟩
abbrev s_is_integer : Stmt := top 5
theorem sc_is_integer : FnScope ["thing"] ["thing"] (defScope s_is_integer) := ⟨rfl, rfl, rfl, by decide +kernel, rfl, by decide +kernel, by decide +kernel⟩
theorem c_is_integer (T : Txt K mg) (D : Dfn K mg "is_integer" s_is_integer) : Cal P w K mg base 1 "is_integer" ["thing"] (spB isInteger) := by
  refine D.cal sc_is_integer (fun _ _ _ _ _ _ us hl => match us, hl with | [_], _ => rfl) spB_len fun cdv A outer s H vs Q E hr h => ?_
  obtain ⟨v, d, rfl, hv, q⟩ := h
  refine ⟨_, (pss_one (ps_ret (pe_and (pe_callB (id := "isinstance") call_isi (by rfl) T.isinstance (by decide +kernel) (pa_cons (pv 0) (pa_cons (pe_tyv (n := "int") (by rfl) T.int (by decide +kernel)) pa_nil))) (pe_one (pe_not (pe_callB (id := "isinstance") call_isi (by rfl) T.isinstance (by decide +kernel) (pa_cons (pv 0) (pa_cons (pe_tyv (n := "bool") (by rfl) T.bool (by decide +kernel)) pa_nil)))))))), ?_⟩
  refine ⟨_, rfl, v, _, _, _, _, rfl, .ty _, hv.ty, kit_int K d, _, rfl, ?_⟩
  have e : isInteger d = if isInt d = true then !isBl d else false := by
    unfold isInteger
    cases isInt d <;> rfl
  cases c : isInt d with
  | true =>
    rw [c, if_pos rfl] at e
    exact iteT ⟨_, rfl, v, _, _, _, _, rfl, .ty _, hv.ty, kit_bool K d, _, rfl, by rw [← e]; exact q _ (Same.refl H)⟩
  | false =>
    rw [c] at e
    exact iteF (by rw [show (false : Bool) = isInteger d from e.symm]; exact q _ (Same.refl H))
abbrev s_is_name : Stmt := top 7
theorem sc_is_name : FnScope ["thing", "sign"] ["thing"] (defScope s_is_name) := ⟨rfl, rfl, rfl, by decide +kernel, rfl, by decide +kernel, by decide +kernel⟩
theorem c_is_name (T : Txt K mg) (D : Dfn K mg "is_name" s_is_name) : Cal P w K mg base 1 "is_name" ["thing"] (spB nameOk) := by
  refine D.cal sc_is_name (fun _ _ _ _ _ _ us hl => match us, hl with | [_], _ => rfl) spB_len fun cdv A outer s H vs Q E hr h => ?_
  obtain ⟨v, d, rfl, hv, q⟩ := h
  refine ⟨_, (pss_cons (ps_if (PW.pt (pw_or (pt_not (pt_val (pe_callB (id := "isinstance") call_isi (by rfl) T.isinstance (by decide +kernel) (pa_cons (pv 0) (pa_cons (pe_tyv (n := "str") (by rfl) T.str (by decide +kernel)) pa_nil))))) (pw_or1 (pt_not (pt_chain op_le op_le pe_int (pe_callB (id := "len") call_len_str (by rfl) T.len (by decide +kernel) (pa_cons (pv 0) pa_nil)) (T.e_LONGEST (by rfl))))))) (pss_one (ps_ret pe_bl)) pss_nil)
      (pss_one (ps_ret (pe_callB (id := "all") (cr_all rfl) (by rfl) T.all (by decide +kernel) (pa_cons (pe_lc (own := [("sign", 1)]) (g := gName 1) (tt := tYes) rfl sc_is_name.nd (pi_str (pv 0)) (blkOk_by (N := ["thing", "sign"]) (sc := defScope s_is_name) (by decide +kernel)) (fun _ _ _ _ _ => (pg_name (i := 1) sc_is_name.nd rfl (by first | exact Or.inl rfl | exact Or.inr rfl))) (fun _ _ _ _ _ => pts_nil) (fun _ _ _ _ _ => (pe_cmpR op_in_sign (pv 1) (T.e_SIGNS (by rfl)) (by rfl)))) pa_nil))))), ?_⟩
  refine ⟨_, rfl, v, _, _, _, _, rfl, .ty _, hv.ty, kit_str K d, _, rfl, ?_⟩
  cases hv with
  | str z hz =>
    refine iteF ?_
    refine ⟨_, rfl, z, rfl, Nat.le_of_lt (sz hz), _, _, rfl, rfl, _, rfl, ?_⟩
    have hS : z.cps.toList.length = z.cps.size := Array.length_toList
    have key : ∀ b : Bool, nameOk (.str z) = b → ∀ H', Same H H' → Q (.bl b) H' := fun b e => e ▸ q
    by_cases h1 : (1 : Int) ≤ (z.length : Int)
    · rw [decide_eq_true h1]
      refine iteT ⟨_, _, rfl, rfl, _, rfl, ?_⟩
      by_cases h2 : (z.length : Int) ≤ 8
      · rw [decide_eq_true h2]
        refine iteF ?_
        refine ⟨_, rfl, z, rfl, fun D hD => lc_pure walk_str (At := fun i x => ∃ c, z.cps[i]? = some c ∧ x = .str ⟨#[c]⟩) (fun _ _ _ _ y => y) ((z.cps.toList.map fun c => decide (c ∈ signs.cps.toList)).map V.bl)
          (by rw [List.length_map, List.length_map, hS]) (sz (m := 1000) hz) hD (fun _ _ => trivial) (fun i x y H1 Q hi hx hy s1 k => ?_) (fun H' s' h' => all_of h' ?_)⟩
        · obtain ⟨c, hc, rfl⟩ := hx
          refine ⟨_, rfl, c, signs, rfl, rfl, ?_⟩
          rw [List.getElem?_map, List.getElem?_map, Array.getElem?_toList, hc] at hy
          obtain rfl : V.bl (decide (c ∈ signs.cps.toList)) = y := Option.some.inj hy
          exact k _ (Same.refl _)
        · refine key _ ?_ H' s'
          show ((decide (1 ≤ z.length) && decide (z.length ≤ 8)) && _) = _
          rw [decide_eq_true (by omega), decide_eq_true (by omega), List.all_map]
          rfl
      · rw [decide_eq_false h2]
        refine iteT (key _ ?_ _ (Same.refl H))
        show ((decide (1 ≤ z.length) && decide (z.length ≤ 8)) && _) = _
        rw [decide_eq_false (show ¬ z.length ≤ 8 by omega), Bool.and_false, Bool.false_and]
    · rw [decide_eq_false h1]
      refine iteF ⟨_, rfl, iteT (key _ ?_ _ (Same.refl H))⟩
      show ((decide (1 ≤ z.length) && decide (z.length ≤ 8)) && _) = _
      rw [decide_eq_false (show ¬ 1 ≤ z.length by omega), Bool.false_and, Bool.false_and]
  | _ => exact iteT (q _ (Same.refl H))
abbrev s_is_time : Stmt := top 8
theorem sc_is_time : FnScope ["thing"] ["thing"] (defScope s_is_time) := ⟨rfl, rfl, rfl, by decide +kernel, rfl, by decide +kernel, by decide +kernel⟩
def timeOk : Dt → Bool
  | .int i => decide (0 ≤ i) && decide (i ≤ 1000000)
  | _ => false
theorem c_is_time (T : Txt K mg) (D : Dfn K mg "is_time" s_is_time) (C_is_integer : Cal P w K mg base 1 "is_integer" ["thing"] (spB isInteger)) : Cal P w K mg base 2 "is_time" ["thing"] (spB timeOk) := by
  refine D.cal sc_is_time (fun _ _ _ _ _ _ us hl => match us, hl with | [_], _ => rfl) spB_len fun cdv A outer s H vs Q E hr h => ?_
  obtain ⟨v, d, rfl, hv, q⟩ := h
  refine ⟨_, (pss_one (ps_ret (pe_and (pe_cal C_is_integer hr (by first | decide | omega) (by rfl) (pa_cons (pv 0) pa_nil)) (pe_one (pe_chain op_le op_le pe_int (pv 0) (T.e_GREATEST (by rfl))))))), ?_⟩
  refine ⟨_, rfl, v, d, rfl, hv, fun H1 s1 => ⟨_, rfl, ?_⟩⟩
  have q1 : ∀ b, timeOk d = b → ∀ H', Same H1 H' → Q (.bl b) H' := fun b e H' s' => e ▸ q H' (s1.trans s')
  cases hv with
  | int i =>
    refine iteT ⟨_, rfl, _, _, rfl, rfl, _, rfl, ?_⟩
    by_cases h1 : (0 : Int) ≤ i
    · rw [decide_eq_true h1]
      refine iteT ⟨_, _, rfl, rfl, q1 _ ?_ _ (Same.refl _)⟩
      show (decide (0 ≤ i) && _) = _
      rw [decide_eq_true h1, Bool.true_and]
    · rw [decide_eq_false h1]
      refine iteF (q1 _ ?_ _ (Same.refl _))
      show (decide (0 ≤ i) && _) = _
      rw [decide_eq_false h1, Bool.false_and]
  | _ => exact iteF (q1 _ rfl _ (Same.refl _))
/-! ### the office -/
/-- x is an office whose kinds are ks -/
abbrev s_is_account : Stmt := top 22
theorem sc_is_account : FnScope ["thing"] ["thing"] (defScope s_is_account) := ⟨rfl, rfl, rfl, by decide +kernel, rfl, by decide +kernel, by decide +kernel⟩
/-- what may be asked whether it is an account: what is flat, or a tuple of plain data -/
def accP (d : Dt) : Prop := flatD d ∨ ∃ l, d = .tup l ∧ plainD d = true ∧ SeqAt.shaped (toP d) = true
theorem c_is_account (T : Txt K mg) (D : Dfn K mg "is_account" s_is_account) (C_is_name : Cal P w K mg base 1 "is_name" ["thing"] (spB nameOk)) : Cal P w K mg base 2 "is_account" ["thing"] (spBP accP accOk) := by
  refine D.cal sc_is_account (fun _ _ _ _ _ _ us hl => match us, hl with | [_], _ => rfl) spBP_len fun cdv A outer s H vs Q E hr h => ?_
  obtain ⟨v, d, rfl, hv, hf, q⟩ := h
  refine ⟨_, (pss_one (ps_ret (pe_or (pe_cal C_is_name hr (by first | decide | omega) (by rfl) (pa_cons (pv 0) pa_nil)) (pe_one (pe_cmpR (op_or op_in_seq (op_inDT (u65 hr))) (pv 0) (pe_tup (pa_cons (T.e_TILL (by rfl)) (pa_cons (T.e_POOL (by rfl)) pa_nil))) (by rfl)))))), ?_⟩
  refine ⟨_, rfl, v, d, rfl, hv, fun H1 s1 => ⟨_, rfl, ?_⟩⟩
  rcases hf with hf | ⟨l, e, pl, sh⟩
  rotate_left
  · have c : nameOk d = false := by rw [e]; rfl
    have ea : accOk d = false := by rw [e]; rfl
    rw [c]
    rw [ea] at q
    refine iteF ⟨_, rfl, two_line, fun p hp => .inr ⟨toP d, [.str "the-till", .str "the-pool"], dp_of (hv.mono (s1.trans (Same.up hp))) pl, .tup (SqT.of upd_same) (.cons (.str _) (.cons (.str _) .nil)), sh, by decide +kernel, ?_⟩⟩
    have z : ([PyData.str "the-till", .str "the-pool"].any fun z => PyData.eqv z (toP d)) = false := by rw [e]; rfl
    rw [z]
    exact q _ (s1.trans (Same.up hp))
  obtain ⟨rfl, fv⟩ := flat_val hv hf
  cases c : nameOk d with
  | true =>
    have e : accOk d = true := by unfold accOk; rw [c]; rfl
    rw [e] at q
    exact iteT (q _ s1)
  | false =>
    have e : accOk d = inV (valD d) offices := by unfold accOk; rw [c]; rfl
    rw [e] at q
    exact iteF ⟨_, rfl, two_line, fun p hp => .inl ⟨p, offices, rfl, .inr (SqT.of upd_same), fv, by decide +kernel, q _ (s1.trans (Same.up hp))⟩⟩
abbrev s__is_row : Stmt := top 24
theorem sc__is_row : FnScope ["thing"] ["thing"] (defScope s__is_row) := ⟨rfl, rfl, rfl, by decide +kernel, rfl, by decide +kernel, by decide +kernel⟩
theorem c__is_row (T : Txt K mg) (D : Dfn K mg "_is_row" s__is_row) (C_is_list : Cal P w K mg base 1 "is_list" ["thing"] (spB isSeq)) (C_is_account : Cal P w K mg base 2 "is_account" ["thing"] (spBP accP accOk))
    (C_is_name : Cal P w K mg base 1 "is_name" ["thing"] (spB nameOk)) (C_is_integer : Cal P w K mg base 1 "is_integer" ["thing"] (spB isInteger)) : Cal P w K mg base 3 "_is_row" ["thing"] (spBP rowFlat rowOk) := by
  refine D.cal sc__is_row (fun _ _ _ _ _ _ us hl => match us, hl with | [_], _ => rfl) spBP_len fun cdv A outer s H vs Q E hr h => ?_
  obtain ⟨v, d, rfl, hv, hf, q⟩ := h
  refine ⟨_, (pss_one (ps_ret (pe_and (pe_cal C_is_list hr (by first | decide | omega) (by rfl) (pa_cons (pv 0) pa_nil)) (pe_and (pe_cmpR op_eq (pe_callB (id := "len") call_len_seq (by rfl) T.len (by decide +kernel) (pa_cons (pv 0) pa_nil)) pe_int (nomark _)) (pe_and (pe_cal C_is_account hr (by first | decide | omega) (by rfl) (pa_cons (pe_ix ix_seq (pv 0) pe_int (fun _ _ => rfl)) pa_nil)) (pe_and (pe_cal C_is_name hr (by first | decide | omega) (by rfl) (pa_cons (pe_ix ix_seq (pv 0) pe_int (fun _ _ => rfl)) pa_nil)) (pe_one (pe_cal C_is_integer hr (by first | decide | omega) (by rfl) (pa_cons (pe_ix ix_seq (pv 0) pe_int (fun _ _ => rfl)) pa_nil))))))))), ?_⟩
  refine ⟨_, rfl, v, d, rfl, hv, fun H1 s1 => ⟨_, rfl, ?_⟩⟩
  have no : isSeq d = false → rowOk d = false := fun e => by cases d <;> first | rfl | cases e
  cases hq : isSeq d with
  | false =>
    rw [no hq] at q
    exact iteF (q _ s1)
  | true =>
    obtain ⟨a, xs, ds, rfl, hs, ia, zz, hds⟩ : ∃ a xs ds, v = .ref a ∧ (SqL K H1 a xs ∨ SqT K H1 a xs) ∧ IsA H1 xs ds ∧ xs.length ≤ 60 ∧ seqOf d = some ds := by
      cases hv with
      | lst h r z => exact ⟨_, _, _, rfl, .inl (SqL.of (s1 _ _ h)), r.mono s1, z, rfl⟩
      | tup h r z => exact ⟨_, _, _, rfl, .inr (SqT.of (s1 _ _ h)), r.mono s1, z, rfl⟩
      | _ => cases hq
    refine iteT ⟨_, rfl, a, xs, rfl, hs, rfl, _, rfl, ?_⟩
    have qv : rowOk d = rowL ds := by
      unfold rowOk
      rw [hds]
    have hl := ia.len
    by_cases h3 : xs.length = 3
    · obtain ⟨x, y, z, rfl⟩ : ∃ x y z, xs = [x, y, z] := by
        match xs, h3 with
        | [x, y, z], _ => exact ⟨x, y, z, rfl⟩
      cases ia with
      | cons i1 r1 => cases r1 with
        | cons i2 r2 => cases r2 with
          | cons i3 r3 => cases r3 with
            | nil =>
              rename_i d1 d2 d3
              have qv2 : rowOk d = (accOk d1 && (nameOk d2 && isInteger d3)) := qv
              have f1 : flatD d1 := hf _ hds _ List.mem_cons_self
              have up : ∀ {H2 : Hp}, Same H1 H2 → (SqL K H2 a [x, y, z] ∨ SqT K H2 a [x, y, z]) := fun s2 => sq_mono s2 hs
              have ixq : ∀ {H2 : Hp} (s2 : Same H1 H2) (n : Int) (u : V) (R : VK), atI [x, y, z] n = some u → R u H2 → (rIx K) (.ref a) (.int n) H2 R := fun s2 n u R e r => by
                rcases up s2 with h | h
                · exact .inl ⟨a, _, _, _, rfl, rfl, h, e, r⟩
                · exact .inr (.inl ⟨a, _, _, _, rfl, rfl, h, e, r⟩)
              refine iteT ⟨_, rfl, ixq (Same.refl _) 0 x _ rfl ⟨x, d1, rfl, i1, .inl f1, fun H2 s2 => ⟨_, rfl, ?_⟩⟩⟩
              cases c1 : accOk d1 with
              | false =>
                rw [qv2, c1] at q
                exact iteF (q _ (s1.trans s2))
              | true =>
                refine iteT ⟨_, rfl, ixq s2 1 y _ rfl ⟨y, d2, rfl, i2.mono s2, fun H3 s3 => ⟨_, rfl, ?_⟩⟩⟩
                cases c2 : nameOk d2 with
                | false =>
                  rw [qv2, c1, c2] at q
                  exact iteF (q _ (s1.trans (s2.trans s3)))
                | true =>
                  rw [qv2, c1, c2] at q
                  exact iteT ⟨_, rfl, ixq (s2.trans s3) 2 z _ rfl ⟨z, d3, rfl, i3.mono (s2.trans s3), fun H4 s4 => q _ (s1.trans (s2.trans (s3.trans s4)))⟩⟩
    · have nn : rowOk d = false := by
        rw [qv]
        match ds, hl with
        | [], _ => rfl
        | [_], _ => rfl
        | [_, _], _ => rfl
        | [_, _, _], hl => exact absurd hl h3
        | _ :: _ :: _ :: _ :: _, _ => rfl
      rw [nn] at q
      rw [decide_eq_false (by intro z; injection z with z; omega)]
      exact iteF (q _ s1)
end
end K28

set_option Elab.async false
set_option linter.all false
set_option maxRecDepth 100000
set_option maxHeartbeats 4000000
namespace K28
open PySem PySem.Spec PyProof.Rows L2 Sr
/-- rows, each with flat items, looked at: the first that is none is told -/
def spChk (K : PySem.W.Frag) : Sp := fun vs H Q E => ∃ v d, vs = [v] ∧ Is H v d ∧ (∀ l, seqOf d = some l → ∀ x ∈ l, rowFlat x) ∧ (badAt d = none → ∀ H', Same H H' → Q .non H') ∧
  ∀ i, badAt d = some i → ∀ H' e, Same H H' → H' e = none → E (.ref (He.ga K "BadRow")) (some e) (upd H' e (.xd [("index", .int (i : Nat))]))
theorem firstBad_drop {l : List Dt} {i : Nat} {x : Dt} (h : l[i]? = some x) : firstBad (l.drop i) i = if rowOk x = true then firstBad (l.drop (i + 1)) (i + 1) else some i := by
  have hi := (List.getElem?_eq_some_iff.mp h).1
  have e : l.drop i = x :: l.drop (i + 1) := by
    rw [List.drop_eq_getElem_cons hi]
    congr 1
    exact (List.getElem?_eq_some_iff.mp h).2
  rw [e]
  rfl
section
variable {P : Program} {w : World} {K : PySem.W.Frag} {mg : Str → Option Value} {base : Heap}
abbrev s_BadRow___init__ : Stmt := inClass (top 12) 0
theorem sc_BadRow___init__ : FnScope ["self", "index"] ["self", "index"] (defScope s_BadRow___init__) := ⟨rfl, rfl, rfl, by decide +kernel, rfl, by decide +kernel, by decide +kernel⟩
theorem m_BadRow (E : Err K (He.ga K "BadRow") (He.fAd K ("BadRow", some "__init__")) "index") (D : DfnM K "BadRow" "__init__" "BadRow.__init__" s_BadRow___init__) :
    CalM P w K mg base CX0 1 (He.fAd K ("BadRow", some "__init__")) ["self", "index"] (spErr K (He.ga K "BadRow") "index") := by
  refine D.cal sc_BadRow___init__ (fun _ _ _ _ _ _ us hl => match us, hl with | [_, _], _ => rfl) (fun vs H Q E' h => ?_) fun cdv A outer s H vs Q E' hr h => ?_
  · obtain ⟨a, v, rfl, _⟩ := h
    rfl
  obtain ⟨a, v, rfl, ha, q⟩ := h
  refine ⟨_, (pss_one (ps_ost (pv 0) (pv 1))), ?_⟩
  exact ⟨_, rfl, _, rfl, a, _, rfl, E.oex, E.no, .inl ⟨ha, q⟩⟩
abbrev s__check_rows : Stmt := top 25
theorem sc__check_rows : FnScope ["rows", "index", "row"] ["rows"] (defScope s__check_rows) := ⟨rfl, rfl, rfl, by decide +kernel, rfl, by decide +kernel, by decide +kernel⟩
theorem c__check_rows (T : Txt K mg) (R : ErrAt P w K mg base "BadRow" "index" "index") (D : Dfn K mg "_check_rows" s__check_rows) (C_is_list : Cal P w K mg base 1 "is_list" ["thing"] (spB isSeq)) (C_is_row : Cal P w K mg base 3 "_is_row" ["thing"] (spBP rowFlat rowOk)) :
    CalE P w K mg base 4 "_check_rows" ["rows"] (spChk K) := by
  refine D.calE sc__check_rows (fun _ _ _ _ _ _ us hl => match us, hl with | [_], _ => rfl) (fun vs H Q E h => ?_) fun cdv A outer s H vs Q E hr h => ?_
  · obtain ⟨v, d, rfl, _⟩ := h
    rfl
  obtain ⟨v, d, rfl, hv, hf, q1, q2⟩ := h
  have key : ∀ (l : List Dt) (xs : List V) (H1 : Hp), seqOf d = some l → Same H H1 → IsA H1 xs l → ∀ (i : Nat) (x : V), xs[i]? = some x → ∃ dx, l[i]? = some dx ∧ Is H1 x dx ∧ rowFlat dx := fun l xs H1 e s1 ia i x hx => by
    obtain ⟨dx, e1, i1⟩ := ia.get hx
    exact ⟨dx, e1, i1, hf l e dx (List.mem_of_getElem? e1)⟩
  have hv0 := hv
  cases hv with
  | lst hv rv zv =>
    rename_i a xs l
    refine ⟨_, (pss_cons (ps_if (pt_not (pt_val (pe_cal C_is_list hr (by first | decide | omega) (by rfl) (pa_cons (pv 0) pa_nil)))) (pss_one (ps_raise rfl (takes_of rfl rfl rfl rfl) (R.mk_ hr (by decide) (by rfl) (pa_cons pe_int pa_nil)))) pss_nil)
      (pss_one (ps_for (L2.passes_of rfl) rfl (pi_enum (by rfl) T.enumerate (pa_cons (pv 0) pa_nil)) (pg_tup rfl (pgs_cons (pg_name (i := 1) sc__check_rows.nd rfl (by first | exact Or.inl rfl | exact Or.inr rfl)) (pgs_cons (pg_name (i := 2) sc__check_rows.nd rfl (by first | exact Or.inl rfl | exact Or.inr rfl)) pgs_nil)))
      (pss_one (ps_if (pt_not (pt_val (pe_cal C_is_row hr (by first | decide | omega) (by rfl) (pa_cons (pv 2) pa_nil)))) (pss_one (ps_raise rfl (takes_of rfl rfl rfl rfl) (R.mk_ hr (by decide) (by rfl) (pa_cons (pv 1) pa_nil)))) pss_nil))))), ?_⟩
    refine ⟨_, rfl, _, _, rfl, .lst hv rv zv, fun H1 s1 => ⟨_, rfl, iteF ?_⟩⟩
    refine ⟨_, rfl, a, xs, rfl, SqL.of (s1 _ _ hv), for_it walk_enum (fun i σ H' => (∃ u v, σ = [some (.ref a), u, v]) ∧ Same H H' ∧ badAt (.lst l) = firstBad (l.drop i) i) ⟨⟨_, _, rfl⟩, s1, rfl⟩ (fun i σ H' hi p => SqL.of (p.2.1 _ _ hv)) ?_ ?_⟩
    · rintro i u σ H2 H3 hi ⟨⟨u1, v1, rfl⟩, s2, eb⟩ ⟨T', x, y, rfl, hT, rfl, hx, hy⟩
      obtain rfl : V.int (i : Nat) = x := Option.some.inj hx
      obtain ⟨dy, e1, i1, f1⟩ := key l xs H2 rfl s2 (rv.mono s2) i y hy
      have s3 : Same H2 _ := Same.up (o := .tup [.int (i : Nat), y]) hT
      refine ⟨T', _, rfl, SqT.of upd_same, rfl, _, _, rfl, _, _, rfl, rfl, ?_⟩
      refine ⟨_, rfl, y, dy, rfl, i1.mono s3, f1, fun H4 s4 => ⟨_, rfl, ?_⟩⟩
      rw [firstBad_drop e1] at eb
      cases c : rowOk dy with
      | true =>
        rw [c, if_pos rfl] at eb
        exact iteF ⟨⟨_, _, rfl⟩, s2.trans (s3.trans s4), eb⟩
      | false =>
        rw [c, if_neg (by simp)] at eb
        exact iteT ⟨_, rfl, err_at fun e he => q2 i eb _ e (s2.trans (s3.trans s4)) he⟩
    · rintro σ H2 ⟨⟨u1, v1, rfl⟩, s2, eb⟩
      have e0 : l.drop xs.length = [] := by rw [rv.len]; exact List.drop_length
      rw [e0] at eb
      exact q1 eb _ s2
  | tup hv rv zv =>
    rename_i a xs l
    refine ⟨_, (pss_cons (ps_if (pt_not (pt_val (pe_cal C_is_list hr (by first | decide | omega) (by rfl) (pa_cons (pv 0) pa_nil)))) (pss_one (ps_raise rfl (takes_of rfl rfl rfl rfl) (R.mk_ hr (by decide) (by rfl) (pa_cons pe_int pa_nil)))) pss_nil)
      (pss_one (ps_for (L2.passes_of rfl) rfl (pi_enumT (by rfl) T.enumerate (pa_cons (pv 0) pa_nil)) (pg_tup rfl (pgs_cons (pg_name (i := 1) sc__check_rows.nd rfl (by first | exact Or.inl rfl | exact Or.inr rfl)) (pgs_cons (pg_name (i := 2) sc__check_rows.nd rfl (by first | exact Or.inl rfl | exact Or.inr rfl)) pgs_nil)))
      (pss_one (ps_if (pt_not (pt_val (pe_cal C_is_row hr (by first | decide | omega) (by rfl) (pa_cons (pv 2) pa_nil)))) (pss_one (ps_raise rfl (takes_of rfl rfl rfl rfl) (R.mk_ hr (by decide) (by rfl) (pa_cons (pv 1) pa_nil)))) pss_nil))))), ?_⟩
    refine ⟨_, rfl, _, _, rfl, .tup hv rv zv, fun H1 s1 => ⟨_, rfl, iteF ?_⟩⟩
    refine ⟨_, rfl, a, xs, rfl, SqT.of (s1 _ _ hv), for_it walk_enumT (fun i σ H' => (∃ u v, σ = [some (.ref a), u, v]) ∧ Same H H' ∧ badAt (.tup l) = firstBad (l.drop i) i) ⟨⟨_, _, rfl⟩, s1, rfl⟩ (fun i σ H' hi p => SqT.of (p.2.1 _ _ hv)) ?_ ?_⟩
    · rintro i u σ H2 H3 hi ⟨⟨u1, v1, rfl⟩, s2, eb⟩ ⟨T', x, y, rfl, hT, rfl, hx, hy⟩
      obtain rfl : V.int (i : Nat) = x := Option.some.inj hx
      obtain ⟨dy, e1, i1, f1⟩ := key l xs H2 rfl s2 (rv.mono s2) i y hy
      have s3 : Same H2 _ := Same.up (o := .tup [.int (i : Nat), y]) hT
      refine ⟨T', _, rfl, SqT.of upd_same, rfl, _, _, rfl, _, _, rfl, rfl, ?_⟩
      refine ⟨_, rfl, y, dy, rfl, i1.mono s3, f1, fun H4 s4 => ⟨_, rfl, ?_⟩⟩
      rw [firstBad_drop e1] at eb
      cases c : rowOk dy with
      | true =>
        rw [c, if_pos rfl] at eb
        exact iteF ⟨⟨_, _, rfl⟩, s2.trans (s3.trans s4), eb⟩
      | false =>
        rw [c, if_neg (by simp)] at eb
        exact iteT ⟨_, rfl, err_at fun e he => q2 i eb _ e (s2.trans (s3.trans s4)) he⟩
    · rintro σ H2 ⟨⟨u1, v1, rfl⟩, s2, eb⟩
      have e0 : l.drop xs.length = [] := by rw [rv.len]; exact List.drop_length
      rw [e0] at eb
      exact q1 eb _ s2
  | _ =>
    refine ⟨_, (pss_cons (ps_if (pt_not (pt_val (pe_cal C_is_list hr (by first | decide | omega) (by rfl) (pa_cons (pv 0) pa_nil)))) (pss_one (ps_raise rfl (takes_of rfl rfl rfl rfl) (R.mk_ hr (by decide) (by rfl) (pa_cons pe_int pa_nil)))) pss_nil)
      (pss_one (ps_for (L2.passes_of rfl) rfl (pi_enum (by rfl) T.enumerate (pa_cons (pv 0) pa_nil)) (pg_tup rfl (pgs_cons (pg_name (i := 1) sc__check_rows.nd rfl (by first | exact Or.inl rfl | exact Or.inr rfl)) (pgs_cons (pg_name (i := 2) sc__check_rows.nd rfl (by first | exact Or.inl rfl | exact Or.inr rfl)) pgs_nil)))
      (pss_one (ps_if (pt_not (pt_val (pe_cal C_is_row hr (by first | decide | omega) (by rfl) (pa_cons (pv 2) pa_nil)))) (pss_one (ps_raise rfl (takes_of rfl rfl rfl rfl) (R.mk_ hr (by decide) (by rfl) (pa_cons (pv 1) pa_nil)))) pss_nil))))), ?_⟩
    refine ⟨_, rfl, _, _, rfl, hv0, fun H1 s1 => ⟨_, rfl, ?_⟩⟩
    refine iteT ?_
    exact err_at fun e he => q2 0 rfl _ e s1 he
end
end K28

set_option Elab.async false
set_option linter.all false
set_option maxRecDepth 100000
set_option maxHeartbeats 4000000
namespace Sr
open PySem PySem.Spec PyProof.Rows L2
theorem Paired.snoc {α β : Type} {F : α → β → Prop} {a : α} {b : β} (h : F a b) : ∀ {l : List α} {m : List β}, Paired F l m → Paired F (l ++ [a]) (m ++ [b])
  | _, _, .nil => .cons h .nil
  | _, _, .cons h1 t => .cons h1 (Paired.snoc h t)
theorem Paired.imp' {α β : Type} {F G : α → β → Prop} (f : ∀ a b, F a b → G a b) : ∀ {l : List α} {m : List β}, Paired F l m → Paired G l m
  | _, _, .nil => .nil
  | _, _, .cons h t => .cons (f _ _ h) (Paired.imp' f t)
/-- a comprehension over items, some of which are kept, each kept one a new thing; nothing that stood is changed -/
theorem lc_genD {α : Type} {J : It} {n : Nat} {G : Hp → Prop} {Y : Nat → Hp → V → Hp → Prop} {At : Nat → Hp → V → Prop} (w : Walk J n G Y) (hy : ∀ i H x H', Y i H x H' → H' = H ∧ At i H x) {g : TG} {tt : TT} {te : TE} {vs : List Nat} {σ : L2.St} {H : Hp} {D : Addr} {Qd : Hp → Prop}
    (items : List α) (keep : α → Bool) (hn : items.length = n) (hz : n < sizeLine) (hD : H D = none) (hG : ∀ H', Same H H' → G H') (Rel : Hp → α → V → Prop) (mono : ∀ H1 H2 a y, Same H1 H2 → Rel H1 a y → Rel H2 a y) (lay : ∀ H1 a y c c', H1 D = some (.lst c) → Rel H1 a y → Rel (upd H1 D (.lst c')) a y)
    (turn : ∀ (i : Nat) (x : V) (a : α) (H1 : Hp) (A : V → Hp → Prop) (B : Hp → Prop), i < n → At i H1 x → items[i]? = some a → H1 D ≠ none → Same H H1 → (keep a = true → ∀ y H2, Same H1 H2 → Rel H2 a y → A y H2) → (keep a = false → ∀ H2, Same H1 H2 → B H2) →
      g x (wipe σ vs) H1 fun σ2 H2 => wipe σ2 vs = wipe σ vs ∧ tt σ2 H2 fun b H3 => if b = true then te σ2 H3 A else B H3)
    (fin : ∀ H' acc, Same H H' → H' D = some (.lst acc) → Paired (fun y a => Rel H' a y) acc (items.filter keep) → Qd H') :
    ∃ W : Nat → Nat → Hp → Prop, (∃ m, W 0 m (upd H D (.lst []))) ∧ ∀ i m H, W i m H →
      (J.stop i H ∧ Qd H) ∨ (J.go i H ∧ ∃ Nx : Hp → Prop, (∀ H', Nx H' → ∃ m', m' < m ∧ W (i + 1) m' H') ∧ ∀ x H', J.yld i H x H' → g x (wipe σ vs) H' fun σ2 H2 => wipe σ2 vs = wipe σ vs ∧ tt σ2 H2 fun b H3 =>
        if b = true then te σ2 H3 fun y H4 => ∃ acc, H4 D = some (.lst acc) ∧ acc.length < sizeLine ∧ Nx (upd H4 D (.lst (acc ++ [y]))) else Nx H3) := by
  have below : ∀ {H1 H2 : Hp} {o : HO}, Same H H1 → Same H1 H2 → Same H (upd H2 D o) := fun {H1 H2 o} a b c u e => by
    rw [upd_ne (ne_of_none e hD)]
    exact b _ _ (a _ _ e)
  refine lc_it w (fun i H' => Same H H' ∧ ∃ acc, H' D = some (.lst acc) ∧ Paired (fun y a => Rel H' a y) acc ((items.take i).filter keep)) ⟨Same.up hD, [], upd_same, by simp; exact .nil⟩ (fun i H' _ p => hG H' p.1) (fun i x H1 H2 hi p y => ?_) fun H' p => ?_
  · obtain ⟨rfl, hx⟩ := hy _ _ _ _ y
    obtain ⟨s1, acc, hd, pr⟩ := p
    have hi' : i < items.length := by omega
    have tk : items.take (i + 1) = items.take i ++ [items[i]] := by rw [List.take_add_one, List.getElem?_eq_getElem hi']; rfl
    have hl : acc.length < sizeLine := by
      have h1 := Paired.length pr
      have h2 := List.length_filter_le keep (items.take i)
      rw [List.length_take] at h2
      omega
    refine turn i x items[i] H2 _ _ hi hx (List.getElem?_eq_getElem hi') (by rw [hd]; simp) s1 (fun hk y H3 s3 r => ?_) fun hk H3 s3 => ?_
    · refine ⟨acc, s3 _ _ hd, hl, below s1 s3, _, upd_same, ?_⟩
      rw [tk, List.filter_append, List.filter_cons, if_pos hk]
      have r1 : Rel (upd H3 D (.lst (acc ++ [y]))) items[i] y := lay _ _ _ _ _ (s3 _ _ hd) r
      have pr1 : Paired (fun z a => Rel (upd H3 D (.lst (acc ++ [y]))) a z) acc ((items.take i).filter keep) := Paired.imp' (fun y a h => lay _ a y _ _ (s3 _ _ hd) (mono _ _ a y s3 h)) pr
      exact Paired.snoc (F := fun z a => Rel (upd H3 D (.lst (acc ++ [y]))) a z) r1 pr1
    · refine ⟨s1.trans s3, acc, s3 _ _ hd, ?_⟩
      rw [tk, List.filter_append, List.filter_cons, if_neg (by rw [hk]; simp)]
      simp only [List.filter_nil, List.append_nil]
      exact Paired.imp' (fun y a h => mono _ _ _ _ s3 h) pr
  · obtain ⟨s1, acc, hd, pr⟩ := p
    rw [← hn, List.take_length] at pr
    exact fin H' acc s1 hd pr
/-- a comprehension over items, some of which are kept, each kept one a new thing; nothing that stood is changed -/
theorem lc_gen {α : Type} {J : It} {n : Nat} {G : Hp → Prop} {Y : Nat → Hp → V → Hp → Prop} {At : Nat → Hp → V → Prop} (w : Walk J n G Y) (hy : ∀ i H x H', Y i H x H' → H' = H ∧ At i H x) {g : TG} {tt : TT} {te : TE} {vs : List Nat} {σ : L2.St} {H : Hp} {D : Addr} {Qd : Hp → Prop}
    (items : List α) (keep : α → Bool) (hn : items.length = n) (hz : n < sizeLine) (hD : H D = none) (hG : ∀ H', Same H H' → G H') (Rel : Hp → α → V → Prop) (mono : ∀ H1 H2 a y, Same H1 H2 → Rel H1 a y → Rel H2 a y) (lay : ∀ H1 a y c c', H1 D = some (.lst c) → Rel H1 a y → Rel (upd H1 D (.lst c')) a y)
    (turn : ∀ (i : Nat) (x : V) (a : α) (H1 : Hp) (A : V → Hp → Prop) (B : Hp → Prop), i < n → At i H1 x → items[i]? = some a → Same H H1 → (keep a = true → ∀ y H2, Same H1 H2 → Rel H2 a y → A y H2) → (keep a = false → ∀ H2, Same H1 H2 → B H2) →
      g x (wipe σ vs) H1 fun σ2 H2 => wipe σ2 vs = wipe σ vs ∧ tt σ2 H2 fun b H3 => if b = true then te σ2 H3 A else B H3)
    (fin : ∀ H' acc, Same H H' → H' D = some (.lst acc) → Paired (fun y a => Rel H' a y) acc (items.filter keep) → Qd H') :
    ∃ W : Nat → Nat → Hp → Prop, (∃ m, W 0 m (upd H D (.lst []))) ∧ ∀ i m H, W i m H →
      (J.stop i H ∧ Qd H) ∨ (J.go i H ∧ ∃ Nx : Hp → Prop, (∀ H', Nx H' → ∃ m', m' < m ∧ W (i + 1) m' H') ∧ ∀ x H', J.yld i H x H' → g x (wipe σ vs) H' fun σ2 H2 => wipe σ2 vs = wipe σ vs ∧ tt σ2 H2 fun b H3 =>
        if b = true then te σ2 H3 fun y H4 => ∃ acc, H4 D = some (.lst acc) ∧ acc.length < sizeLine ∧ Nx (upd H4 D (.lst (acc ++ [y]))) else Nx H3) :=
  lc_genD w hy items keep hn hz hD hG Rel mono lay (fun i x a H1 A B hi hx ha _ s1 => turn i x a H1 A B hi hx ha s1) fin
end Sr

set_option Elab.async false
set_option linter.all false
set_option maxRecDepth 100000
set_option maxHeartbeats 4000000
namespace Sr
open PySem PySem.Spec PyProof.Rows L2
/-! ### dicts of sums -/
def intOf : Option V → Int
  | some (.int i) => i
  | _ => 0
section
variable {κ : Type} [DecidableEq κ]
def bump (kvs : List (κ × V)) (k : κ) (n : Int) : List (κ × V) := putK kvs k (.int (intOf (valV kvs k) + n))
structure Ints (P : κ → Prop) (kvs : List (κ × V)) : Prop where
  ent : ∀ e ∈ kvs, P e.1 ∧ ∃ n, e.2 = .int n
  nd : (kvs.map (·.1)).Nodup
theorem Ints.nil {P : κ → Prop} : Ints P ([] : List (κ × V)) := ⟨fun _ m => absurd m (by simp), List.nodup_nil⟩
theorem Ints.bump {P : κ → Prop} {kvs : List (κ × V)} {k : κ} {n : Int} (h : Ints P kvs) (hk : P k) : Ints P (Sr.bump kvs k n) := by
  unfold Sr.bump putK
  split
  · refine ⟨fun e m => ?_, ?_⟩
    · obtain ⟨e0, m0, rfl⟩ := List.mem_map.mp m
      split
      · exact ⟨(h.ent _ m0).1, _, rfl⟩
      · exact h.ent _ m0
    · rw [List.map_map]
      have e : (kvs.map ((fun x : κ × V => x.1) ∘ fun kv => if kv.1 = k then (kv.1, V.int (intOf (valV kvs k) + n)) else kv)) = kvs.map (·.1) := by
        refine List.map_congr_left fun kv _ => ?_
        show (if kv.1 = k then (kv.1, V.int (intOf (valV kvs k) + n)) else kv).1 = kv.1
        split <;> rfl
      rw [e]
      exact h.nd
  · rename_i no
    refine ⟨fun e m => ?_, ?_⟩
    · rcases List.mem_append.mp m with m | m
      · exact h.ent _ m
      · rw [List.mem_singleton.mp m]
        exact ⟨hk, _, rfl⟩
    · rw [List.map_append]
      refine List.nodup_append.mpr ⟨h.nd, by simp, fun a ha b hb e => no ?_⟩
      have hb' : b = k := by simpa using hb
      obtain ⟨kv, m, e2⟩ := List.mem_map.mp ha
      exact List.any_eq_true.mpr ⟨kv, m, decide_eq_true (e2.trans (e.trans hb'))⟩
theorem bump_len {kvs : List (κ × V)} {k : κ} {n : Int} : (Sr.bump kvs k n).length ≤ kvs.length + 1 := length_putK _ _ _
theorem val_of {kvs : List (κ × V)} : (kvs.map (·.1)).Nodup → ∀ {e : κ × V}, e ∈ kvs → valV kvs e.1 = some e.2 := by
  induction kvs with
  | nil => intro _ e m; cases m
  | cons p r ih =>
    intro nd e m
    rw [List.map_cons] at nd
    obtain ⟨n1, n2⟩ := List.nodup_cons.mp nd
    rcases List.mem_cons.mp m with rfl | m
    · exact valV_pos rfl
    · rw [valV_neg (fun z => n1 (by rw [z]; exact List.mem_map.mpr ⟨e, m, rfl⟩))]
      exact ih n2 m
theorem val_mem {kvs : List (κ × V)} {k : κ} {v : V} (h : valV kvs k = some v) : (k, v) ∈ kvs := by
  unfold valV at h
  obtain ⟨e, h1, h2⟩ := Option.map_eq_some_iff.mp h
  have h3 := List.find?_some h1
  have h4 : e.1 = k := of_decide_eq_true h3
  have m := List.mem_of_find?_eq_some h1
  rw [← h4, ← h2]
  exact m
/-- d.get(k, 0) -/
theorem Ints.get {P : κ → Prop} {kvs : List (κ × V)} (h : Ints P kvs) (k : κ) : (valV kvs k).getD (.int 0) = .int (intOf (valV kvs k)) := by
  cases e : valV kvs k with
  | none => rfl
  | some v =>
    obtain ⟨_, n, en⟩ := h.ent _ (val_mem e)
    have en : v = .int n := en
    subst en
    rfl
theorem Ints.at_ {P : κ → Prop} {kvs : List (κ × V)} (h : Ints P kvs) {k : κ} (m : k ∈ kvs.map (·.1)) : valV kvs k = some (.int (intOf (valV kvs k))) := by
  obtain ⟨e, m2, rfl⟩ := List.mem_map.mp m
  obtain ⟨_, n, en⟩ := h.ent _ m2
  rw [val_of h.nd m2, en]
  rfl
/-- sums of rows, each at its key -/
def sums {α : Type} (key : α → κ) (am : α → Int) (rows : List α) : List (κ × V) := rows.foldl (fun kvs r => bump kvs (key r) (am r)) []
theorem sums_snoc {α : Type} (key : α → κ) (am : α → Int) (rows : List α) (r : α) : sums key am (rows ++ [r]) = bump (sums key am rows) (key r) (am r) := by
  unfold sums
  rw [List.foldl_append]
  rfl
theorem sums_len {α : Type} (key : α → κ) (am : α → Int) : ∀ (rows : List α) (kvs : List (κ × V)), (rows.foldl (fun kvs r => bump kvs (key r) (am r)) kvs).length ≤ kvs.length + rows.length
  | [], _ => Nat.le_refl _
  | r :: t, kvs => by
    have h1 := sums_len key am t (bump kvs (key r) (am r))
    have h2 := bump_len (kvs := kvs) (k := key r) (n := am r)
    simp only [List.foldl_cons, List.length_cons]
    omega
theorem sums_ints {α : Type} {P : κ → Prop} (key : α → κ) (am : α → Int) : ∀ (rows : List α) (kvs : List (κ × V)), Ints P kvs → (∀ r ∈ rows, P (key r)) → Ints P (rows.foldl (fun kvs r => bump kvs (key r) (am r)) kvs)
  | [], _, h, _ => h
  | r :: t, kvs, h, hp => sums_ints key am t _ (h.bump (hp r List.mem_cons_self)) fun x m => hp x (List.mem_cons_of_mem _ m)
end
/-! ### what is told of sums with pairs of texts for keys -/
def small (p : Str × Str) : Prop := p.1.length ≤ 1000 ∧ p.2.length ≤ 1000
def isPk (k : List Key) : Prop := ∃ p, k = pk p ∧ small p
def unpk : List Key → Str × Str
  | [.inr a, .inr b] => (a, b)
  | _ => ("", "")
theorem unpk_pk (p : Str × Str) : unpk (pk p) = p := rfl
theorem pk_inj {p q : Str × Str} (h : pk p = pk q) : p = q := by rw [← unpk_pk p, ← unpk_pk q, h]
def keysOf (kvs : List (List Key × V)) : List (Str × Str) := kvs.map fun e => unpk e.1
theorem keysOf_eq {kvs : List (List Key × V)} (h : Ints isPk kvs) : kvs.map (·.1) = (keysOf kvs).map pk := by
  unfold keysOf
  rw [List.map_map]
  refine List.map_congr_left fun e m => ?_
  obtain ⟨⟨p, e1, _⟩, _⟩ := h.ent e m
  show e.1 = pk (unpk e.1)
  rw [e1, unpk_pk]
theorem keysOf_small {kvs : List (List Key × V)} (h : Ints isPk kvs) : ∀ p ∈ keysOf kvs, small p := fun p m => by
  obtain ⟨e, m2, rfl⟩ := List.mem_map.mp m
  obtain ⟨⟨q, e1, sm⟩, _⟩ := h.ent e m2
  rw [e1]
  exact sm
theorem keysOf_nodup {kvs : List (List Key × V)} (h : Ints isPk kvs) : (keysOf kvs).Nodup := by
  have nd := h.nd
  rw [keysOf_eq h] at nd
  exact List.Pairwise.imp (fun {a b} ne e => ne (by rw [e])) (List.pairwise_map.mp nd)
def amt (kvs : List (List Key × V)) (p : Str × Str) : Int := intOf (valV kvs (pk p))
def kept (kvs : List (List Key × V)) : List (Str × Str) := (pSort (keysOf kvs)).filter fun p => decide (amt kvs p ≠ 0)
def rowTd (p : Str × Str) (n : Int) : Dt := .tup [.str p.1, .str p.2, .int n]
def toldOf (kvs : List (List Key × V)) : List Dt := (kept kvs).map fun p => rowTd p (amt kvs p)
/-- what is told stands in the heap -/
theorem isA_told {H : Hp} {f : Str × Str → Int} : ∀ {acc : List V} {ks : List (Str × Str)}, Paired (fun y k => ∃ q, y = V.ref q ∧ H q = some (.tup [.str k.1, .str k.2, .int (f k)])) acc ks → (∀ k ∈ ks, small k) → IsA H acc (ks.map fun p => rowTd p (f p))
  | _, _, .nil, _ => .nil
  | _, _, .cons (b := k) ⟨q, e, h⟩ t, sm => by
    rw [e]
    have h1 := sm k List.mem_cons_self
    exact .cons (.tup h (.cons (.str _ h1.1) (.cons (.str _ h1.2) (.cons (.int _) .nil))) (show (3 : Nat) ≤ 60 by decide)) (isA_told t fun x m => sm x (List.mem_cons_of_mem _ m))
theorem kept_mem {kvs : List (List Key × V)} {p : Str × Str} (m : p ∈ kept kvs) : p ∈ keysOf kvs := (pSort_perm _).mem_iff.mp (List.mem_filter.mp m).1
theorem kept_nodup {kvs : List (List Key × V)} (h : Ints isPk kvs) : (kept kvs).Nodup := ((pSort_perm _).nodup_iff.mpr (keysOf_nodup h)).filter _
theorem kept_len {kvs : List (List Key × V)} : (kept kvs).length ≤ kvs.length := by
  refine Nat.le_trans (List.length_filter_le _ _) ?_
  rw [(pSort_perm _).length_eq]
  unfold keysOf
  rw [List.length_map]
  exact Nat.le_refl _
end Sr

set_option Elab.async false
set_option linter.all false
set_option maxRecDepth 100000
set_option maxHeartbeats 4000000
namespace K28
open PySem PySem.Spec PyProof.Rows L2 Sr
abbrev Rw := (Str × Str) × Int
def rowLd (r : Rw) : Dt := .lst [.str r.1.1, .str r.1.2, .int r.2]
def sumT (rs : List Rw) : List (List Key × V) := sums (fun r : Rw => pk r.1) (·.2) rs
def sumS (rs : List Rw) : List (Key × V) := sums (fun r : Rw => Sum.inr r.1.2) (·.2) rs
theorem sumT_len (rs : List Rw) : (sumT rs).length ≤ rs.length := by
  have h := sums_len (fun r : Rw => pk r.1) (·.2) rs []
  simp only [List.length_nil, Nat.zero_add] at h
  exact h
theorem sumS_len (rs : List Rw) : (sumS rs).length ≤ rs.length := by
  have h := sums_len (fun r : Rw => (Sum.inr r.1.2 : Key)) (·.2) rs []
  simp only [List.length_nil, Nat.zero_add] at h
  exact h
def rowC (r : Rw) : List Dt := [.str r.1.1, .str r.1.2, .int r.2]
def rowOf (d : Dt) : Rw := match seqOf d with
  | some [.str a, .str b, .int n] => ((a, b), n)
  | _ => (("", ""), 0)
def rowsOf (d : Dt) : List Rw := ((seqOf d).getD []).map rowOf
theorem name_str {d : Dt} (h : nameOk d = true) : ∃ s, d = .str s := by
  cases d with
  | str s => exact ⟨s, rfl⟩
  | _ => cases h
theorem acc_str {d : Dt} (f : flatD d) (h : accOk d = true) : ∃ s, d = .str s := by
  cases d with
  | str s => exact ⟨s, rfl⟩
  | lst => cases f.1
  | tup => cases f.1
  | dic => exact absurd rfl f.2
  | _ => cases h
theorem int_int {d : Dt} (h : isInteger d = true) : ∃ n, d = .int n := by
  cases d with
  | int n => exact ⟨n, rfl⟩
  | _ => cases h
theorem row_of {d : Dt} (f : rowFlat d) (h : rowOk d = true) : seqOf d = some (rowC (rowOf d)) := by
  unfold rowOk at h
  cases e : seqOf d with
  | none => rw [e] at h; cases h
  | some l =>
    rw [e] at h
    match l, e, h with
    | [x, y, z], e, h =>
      have h : (accOk x && (nameOk y && isInteger z)) = true := h
      rw [Bool.and_eq_true, Bool.and_eq_true] at h
      obtain ⟨s, rfl⟩ := acc_str (f _ e _ List.mem_cons_self) h.1
      obtain ⟨t, rfl⟩ := name_str h.2.1
      obtain ⟨n, rfl⟩ := int_int h.2.2
      unfold rowOf
      rw [e]
      rfl
theorem all_rows : ∀ {l : List Dt} {i : Nat}, firstBad l i = none → ∀ x ∈ l, rowOk x = true
  | [], _, _, _, m => nomatch m
  | y :: r, i, h, x, m => by
    unfold firstBad at h
    by_cases c : rowOk y = true
    · rw [if_pos c] at h
      rcases List.mem_cons.mp m with rfl | m
      · exact c
      · exact all_rows h x m
    · rw [if_neg c] at h
      cases h
theorem row_at {H : Hp} {v : V} {d : Dt} {r : Rw} (h : Is H v d) (e : seqOf d = some (rowC r)) : ∃ a o, v = .ref a ∧ H a = some o ∧ seqO [.str r.1.1, .str r.1.2, .int r.2] o ∧ small r.1 := by
  obtain ⟨a, xs, o, rfl, ho, so, ia, _⟩ := h.seq e
  cases ia with
  | cons i1 t => cases t with
    | cons i2 t => cases t with
      | cons i3 t => cases t with
        | nil => cases i1 with
          | str s h1 => cases i2 with
            | str s2 h2 => cases i3 with
              | int i => exact ⟨a, o, rfl, ho, so, h1, h2⟩
def spTold (K : PySem.W.Frag) : Sp := fun vs H Q E => ∃ v d, vs = [v] ∧ Is H v d ∧ (∀ l, seqOf d = some l → ∀ x ∈ l, rowFlat x) ∧
  (badAt d = none → ∀ H' l, Same H H' → H l = none → H' l ≠ none → Is H' (.ref l) (.lst (toldOf (sumT (rowsOf d)))) → Q (.ref l) H') ∧
  ∀ i, badAt d = some i → ∀ H' e, Same H H' → H' e = none → E (.ref (He.ga K "BadRow")) (some e) (upd H' e (.xd [("index", .int (i : Nat))]))
section
variable {P : Program} {w : World} {K : PySem.W.Frag} {mg : Str → Option Value} {base : Heap}
abbrev s_told_rows : Stmt := top 20
theorem sc_told_rows : FnScope ["rows", "sums", "account", "thing", "amount"] ["rows"] (defScope s_told_rows) := ⟨rfl, rfl, rfl, by decide +kernel, rfl, by decide +kernel, by decide +kernel⟩
theorem c_told_rows (T : Txt K mg) (D : Dfn K mg "told_rows" s_told_rows) (C_check_rows : CalE P w K mg base 4 "_check_rows" ["rows"] (spChk K)) :
    CalE P w K mg base 5 "told_rows" ["rows"] (spTold K) := by
  refine D.calE sc_told_rows (fun _ _ _ _ _ _ us hl => match us, hl with | [_], _ => rfl) (fun vs H Q E h => ?_) fun cdv A outer s H vs Q E hr h => ?_
  · obtain ⟨v, d, rfl, _⟩ := h
    rfl
  obtain ⟨v, d, rfl, hv, hf, q1, q2⟩ := h
  refine ⟨_, (pss_cons (ps_expr (pe_calE C_check_rows hr (by first | decide | omega) (by rfl) (passes_def rfl rfl rfl rfl) (pa_cons (pv 0) pa_nil)))
      (pss_cons (ps_set (i := 1) sc_told_rows.nd rfl (by first | exact Or.inl rfl | exact Or.inr rfl) pe_dnewT)
      (pss_cons (ps_for (L2.passes_of rfl) rfl (pi_seq (pv 0)) (pg_seq rfl (pgs_cons (pg_name (i := 2) sc_told_rows.nd rfl (by first | exact Or.inl rfl | exact Or.inr rfl)) (pgs_cons (pg_name (i := 3) sc_told_rows.nd rfl (by first | exact Or.inl rfl | exact Or.inr rfl)) (pgs_cons (pg_name (i := 4) sc_told_rows.nd rfl (by first | exact Or.inl rfl | exact Or.inr rfl)) pgs_nil))))
      (pss_one (ps_dput (hu_of hr) (pv 1) (pe_tup (pa_cons (pv 2) (pa_cons (pv 3) pa_nil))) (pe_op op_add (pe_dget2 (hu_of hr) (pv 1) (pe_tup (pa_cons (pv 2) (pa_cons (pv 3) pa_nil))) pe_int ⟨rfl, by rfl, rfl, rfl⟩) (pv 4)) rfl)))
      (pss_one (ps_ret (pe_lc (own := [("account", 2), ("thing", 3)]) (g := gTup K 2 (gCons (gName 2) (gCons (gName 3) gNil))) rfl sc_told_rows.nd (pi_list (pe_callB (id := "sorted") (call_sortedDT rfl hr.units) (by rfl) T.sorted (by decide +kernel) (pa_cons (pv 1) pa_nil))) (blkOk_by (N := ["rows", "sums", "account", "thing", "amount"]) (sc := defScope s_told_rows) (by decide +kernel)) (fun _ _ _ _ _ => (pg_tup rfl (pgs_cons (pg_name (i := 2) sc_told_rows.nd rfl (by first | exact Or.inl rfl | exact Or.inr rfl)) (pgs_cons (pg_name (i := 3) sc_told_rows.nd rfl (by first | exact Or.inl rfl | exact Or.inr rfl)) pgs_nil)))) (fun _ _ _ _ _ => (pts_one (pt_cmpR op_ne (pe_dget (hu_of hr) (pv 1) (pe_tup (pa_cons (pv 2) (pa_cons (pv 3) pa_nil))) (fun _ _ => rfl)) pe_int (nomark _)))) (fun _ _ _ _ _ => (pe_tup (pa_cons (pv 2) (pa_cons (pv 3) (pa_cons (pe_dget (hu_of hr) (pv 1) (pe_tup (pa_cons (pv 2) (pa_cons (pv 3) pa_nil))) (fun _ _ => rfl)) pa_nil))))))))))), ?_⟩
  refine ⟨_, rfl, v, d, rfl, hv, hf, fun hb H1 s1 => ?_, fun i e H' a s ha => q2 i e H' a s ha⟩
  have q3 := q1 hb
  obtain ⟨l, hsl⟩ : ∃ l, seqOf d = some l := by
    unfold badAt at hb
    cases c : seqOf d with
    | none => rw [c] at hb; cases hb
    | some l => exact ⟨l, rfl⟩
  have hok : ∀ x ∈ l, rowOk x = true := all_rows (i := 0) (by unfold badAt at hb; rw [hsl] at hb; exact hb)
  have hrow : ∀ x ∈ l, seqOf x = some (rowC (rowOf x)) := fun x m => row_of (hf l hsl x m) (hok x m)
  obtain ⟨a, xs, o, rfl, hv, so, rv, zv⟩ := hv.seq hsl
  obtain ⟨J, wJ, put⟩ := seq_walk (K := K) (a := a) so
  obtain ⟨rs, hrs⟩ : ∃ rs, rs = rowsOf d := ⟨_, rfl⟩
  have hrs2 : rs = l.map rowOf := by rw [hrs]; unfold rowsOf; rw [hsl]; rfl
  rw [← hrs] at q3
  intro S hS
  have hl : xs.length = rs.length := rv.len.trans (by rw [hrs2, List.length_map])
  have sS : Same H _ := s1.trans (Same.up (o := .dT []) hS)
  have nSa : S ≠ a := fun z => by rw [z, s1 _ _ hv] at hS; cases hS
  have sm : ∀ r ∈ rs, small r.1 := fun r m => by
    obtain ⟨i, hi⟩ := List.mem_iff_getElem?.mp m
    have hi2 : i < xs.length := by rw [hl]; exact (List.getElem?_eq_some_iff.mp hi).1
    obtain ⟨d, e1, i1⟩ := rv.get (List.getElem?_eq_getElem hi2)
    rw [hrs2, List.getElem?_map, e1] at hi
    obtain rfl : rowOf d = r := Option.some.inj hi
    obtain ⟨_, _, _, _, _, h⟩ := row_at i1 (hrow d (List.mem_of_getElem? e1))
    exact h
  refine ⟨_, rfl, a, rfl, put _ _ (sS _ _ hv) (for_it wJ (fun i σ H' => (∃ u v w, σ = [some (.ref a), some (.ref S), u, v, w]) ∧ Same H1 H' ∧ H' S = some (.dT (sumT (rs.take i)))) ⟨⟨_, _, _, rfl⟩, Same.up hS, by simp [sumT, sums, upd_same]⟩ (fun i σ H' hi p => p.2.1 _ _ (s1 _ _ hv)) ?_ ?_)⟩
  · rintro i x σ H2 H3 hi ⟨⟨u1, v1, w1, rfl⟩, s2, hd⟩ ⟨rfl, hx⟩
    have hi2 : i < rs.length := by omega
    obtain ⟨r, hr2⟩ : ∃ r, rs[i]? = some r := ⟨_, List.getElem?_eq_getElem hi2⟩
    obtain ⟨dd, e1, i1⟩ := rv.get hx
    have hr3 := hr2
    rw [hrs2, List.getElem?_map, e1] at hr3
    obtain rfl : rowOf dd = r := Option.some.inj hr3
    obtain ⟨r, hrr⟩ : ∃ r, r = rowOf dd := ⟨_, rfl⟩
    rw [← hrr] at hr2
    obtain ⟨b, ob, rfl, hb3, sb3, sm1⟩ := row_at (i1.mono (s1.trans s2)) (r := r) (by rw [hrr]; exact hrow dd (List.mem_of_getElem? e1))
    have I0 : Ints isPk (sumT (rs.take i)) := sums_ints _ _ _ _ Ints.nil fun r m => ⟨r.1, rfl, sm r (List.mem_of_mem_take m)⟩
    have tk : rs.take (i + 1) = rs.take i ++ [r] := by rw [List.take_add_one, hr2]; rfl
    refine ⟨b, _, rfl, sb3.any hb3, rfl, _, _, rfl, _, _, rfl, _, _, rfl, rfl, ?_⟩
    refine ⟨_, rfl, S, rfl, .inr ⟨_, .inl hd⟩, _, rfl, _, rfl, two_line, fun p hp => ⟨_, DGet.t (k := pk r.1) ((Same.up hp) _ _ hd) upd_same, _, rfl, ?_⟩⟩
    rw [I0.get]
    refine ⟨_, _, rfl, rfl, _, rfl, _, rfl, _, rfl, two_line, fun p2 hp2 => ?_⟩
    have s4 := (Same.up (o := .tup [.str r.1.1, .str r.1.2]) hp).trans (Same.up (o := .tup [.str r.1.1, .str r.1.2]) hp2)
    refine ⟨S, _, rfl, DPut.t (k := pk r.1) (s4 _ _ hd) upd_same (sz (m := 60) ?_), ⟨_, _, _, rfl⟩, ?_, ?_⟩
    · have := sumT_len (rs.take i)
      rw [List.length_take] at this
      omega
    · intro b o e
      have nb : b ≠ S := fun z => by rw [z, hS] at e; cases e
      rw [upd_ne nb]
      exact s4 _ _ (s2 _ _ e)
    · rw [upd_same, tk]
      unfold sumT
      rw [sums_snoc]
      rfl
  · rintro σ H2 ⟨⟨u1, v1, w1, rfl⟩, s2, hd⟩
    have hd : H2 S = some (.dT (sumT rs)) := by rw [hd, hl, List.take_length]
    have I0 : Ints isPk (sumT rs) := sums_ints _ _ _ _ Ints.nil fun r m => ⟨r.1, rfl, sm r m⟩
    have kl : (keysOf (sumT rs)).length ≤ 60 := by
      have := sumT_len rs
      unfold keysOf
      rw [List.length_map]
      omega
    refine ⟨_, rfl, S, _, _, rfl, .inl hd, keysOf_eq I0, by omega, fun qs p hq hp => ?_⟩
    have sp := Same.up (o := .lst (qs.map V.ref)) hp
    have ql : qs.length = (pSort (keysOf (sumT rs))).length := Paired.length hq
    have kl2 : (pSort (keysOf (sumT rs))).length ≤ 60 := by rw [(pSort_perm _).length_eq]; exact kl
    refine ⟨p, rfl, ⟨_, SqL.of upd_same⟩, fun D hD => lc_gen walk_list walk_at (pSort (keysOf (sumT rs))) (fun k => decide (amt (sumT rs) k ≠ 0)) (by rw [List.length_map, ql]) (sz (m := 60) (by rw [List.length_map, ql]; exact kl2)) hD (fun H' s' => SqL.of (s' _ _ upd_same))
      (fun H' k y => ∃ q, y = .ref q ∧ H' q = some (.tup [.str k.1, .str k.2, .int (amt (sumT rs) k)])) (fun _ _ _ _ e ⟨q, e1, e2⟩ => ⟨q, e1, e _ _ e2⟩) (fun _ _ _ _ _ e ⟨q, e1, e2⟩ => ⟨q, e1, by rw [upd_ne (ne_of e2 e (by intro z; cases z))]; exact e2⟩) (fun i x k H3 A B hi hx hk s3 kA kB => ?_) (fun H3 acc s3 h3 pr => ?_)⟩
    · rw [List.getElem?_map] at hx
      obtain ⟨q, hq1, rfl⟩ := Option.map_eq_some_iff.mp hx
      have hk2 : k ∈ keysOf (sumT rs) := (pSort_perm _).mem_iff.mp (List.mem_of_getElem? hk)
      have hq2 : AtP H2 q k := Paired.at2 hq hq1 hk
      have s4 := sp.trans s3
      have v0 : valV (sumT rs) (pk k) = some (.int (amt (sumT rs) k)) := I0.at_ (by rw [keysOf_eq I0]; exact List.mem_map.mpr ⟨k, hk2, rfl⟩)
      refine ⟨q, _, rfl, SqT.of (s4 _ _ hq2), rfl, _, _, rfl, _, _, rfl, rfl, rfl, ?_⟩
      refine ⟨_, rfl, _, rfl, _, rfl, two_line, fun t ht => ⟨S, _, rfl, v0 ▸ DGet.t (k := pk k) (Same.up ht _ _ (s4 _ _ hd)) upd_same, rfl, _, rfl, ?_⟩⟩
      have s5 := Same.up (o := .tup [.str k.1, .str k.2]) ht
      have cc : (!decide (V.int (amt (sumT rs) k) = V.int 0)) = decide (amt (sumT rs) k ≠ 0) := by
        by_cases c : amt (sumT rs) k = 0 <;> simp [c]
      cases c : decide (amt (sumT rs) k ≠ 0) with
      | false =>
        rw [cc, c]
        exact iteF (kB c _ s5)
      | true =>
        rw [cc, c]
        refine iteT ?_
        refine ⟨_, rfl, _, rfl, _, rfl, _, rfl, _, rfl, two_line, fun t2 ht2 => ⟨S, _, rfl, v0 ▸ DGet.t (k := pk k) (Same.up ht2 _ _ (s5 _ _ (s4 _ _ hd))) upd_same, three_line, fun t3 ht3 => ?_⟩⟩
        exact kA c _ _ (s5.trans ((Same.up ht2).trans (Same.up ht3))) ⟨t3, rfl, upd_same⟩
    · refine q3 H3 D (s1.trans (s2.trans (sp.trans s3))) ?_ (by rw [h3]; simp) (.lst h3 ?_ ?_)
      · exact (s1.trans (s2.trans sp)).free hD
      · exact isA_told pr fun k m => keysOf_small I0 k (kept_mem m)
      · have h1 : acc.length = (kept (sumT rs)).length := Paired.length pr
        have h2 := kept_len (kvs := sumT rs)
        have h3 := sumT_len rs
        omega
end
end K28

set_option Elab.async false
set_option linter.all false
set_option maxRecDepth 100000
set_option maxHeartbeats 4000000
namespace K28
open PySem PySem.Spec PyProof.Rows L2 Sr
def bal (kvs : List (Key × V)) : Bool := (kvs.map fun e => decide (e.2 = V.int 0)).all id
def spBal (K : PySem.W.Frag) : Sp := fun vs H Q E => ∃ v d, vs = [v] ∧ Is H v d ∧ (∀ l, seqOf d = some l → ∀ x ∈ l, rowFlat x) ∧
  (badAt d = none → ∀ H', Same H H' → Q (.bl (bal (sumS (rowsOf d)))) H') ∧
  ∀ i, badAt d = some i → ∀ H' e, Same H H' → H' e = none → E (.ref (He.ga K "BadRow")) (some e) (upd H' e (.xd [("index", .int (i : Nat))]))
def isStrKey (k : Key) : Prop := ∃ s : Str, k = Sum.inr s
section
variable {P : Program} {w : World} {K : PySem.W.Frag} {mg : Str → Option Value} {base : Heap}
abbrev s_is_balanced : Stmt := top 21
theorem sc_is_balanced : FnScope ["rows", "sums", "_", "thing", "amount", "total"] ["rows"] (defScope s_is_balanced) := ⟨rfl, rfl, rfl, by decide +kernel, rfl, by decide +kernel, by decide +kernel⟩
theorem c_is_balanced (T : Txt K mg) (D : Dfn K mg "is_balanced" s_is_balanced) (C_check_rows : CalE P w K mg base 4 "_check_rows" ["rows"] (spChk K)) :
    CalE P w K mg base 5 "is_balanced" ["rows"] (spBal K) := by
  refine D.calE sc_is_balanced (fun _ _ _ _ _ _ us hl => match us, hl with | [_], _ => rfl) (fun vs H Q E h => ?_) fun cdv A outer s H vs Q E hr h => ?_
  · obtain ⟨v, d, rfl, _⟩ := h
    rfl
  obtain ⟨v, d, rfl, hv, hf, q1, q2⟩ := h
  refine ⟨_, (pss_cons (ps_expr (pe_calE C_check_rows hr (by first | decide | omega) (by rfl) (passes_def rfl rfl rfl rfl) (pa_cons (pv 0) pa_nil)))
      (pss_cons (ps_set (i := 1) sc_is_balanced.nd rfl (by first | exact Or.inl rfl | exact Or.inr rfl) pe_dnewK)
      (pss_cons (ps_for (L2.passes_of rfl) rfl (pi_seq (pv 0)) (pg_seq rfl (pgs_cons (pg_name (i := 2) sc_is_balanced.nd rfl (by first | exact Or.inl rfl | exact Or.inr rfl)) (pgs_cons (pg_name (i := 3) sc_is_balanced.nd rfl (by first | exact Or.inl rfl | exact Or.inr rfl)) (pgs_cons (pg_name (i := 4) sc_is_balanced.nd rfl (by first | exact Or.inl rfl | exact Or.inr rfl)) pgs_nil))))
      (pss_one (ps_dput (hu_of hr) (pv 1) (pv 3) (pe_op op_add (pe_dget2 (hu_of hr) (pv 1) (pv 3) pe_int ⟨rfl, by rfl, rfl, rfl⟩) (pv 4)) rfl)))
      (pss_one (ps_ret (pe_callB (id := "all") (cr_all rfl) (by rfl) T.all (by decide +kernel) (pa_cons (pe_lock (pe_lc (own := [("total", 5)]) (g := gName 5) (tt := tYes) rfl sc_is_balanced.nd (pi_values (pv 1)) (blkOk_by (N := ["rows", "sums", "_", "thing", "amount", "total"]) (sc := defScope s_is_balanced) (by decide +kernel)) (fun _ _ _ _ _ => (pg_name (i := 5) sc_is_balanced.nd rfl (by first | exact Or.inl rfl | exact Or.inr rfl))) (fun _ _ _ _ _ => pts_nil) (fun _ _ _ _ _ => (pe_cmpR op_eq (pv 5) pe_int (nomark _))))) pa_nil))))))), ?_⟩
  refine ⟨_, rfl, v, d, rfl, hv, hf, fun hb H1 s1 => ?_, fun i e H' a s ha => q2 i e H' a s ha⟩
  have q3 := q1 hb
  obtain ⟨l, hsl⟩ : ∃ l, seqOf d = some l := by
    unfold badAt at hb
    cases c : seqOf d with
    | none => rw [c] at hb; cases hb
    | some l => exact ⟨l, rfl⟩
  have hok : ∀ x ∈ l, rowOk x = true := all_rows (i := 0) (by unfold badAt at hb; rw [hsl] at hb; exact hb)
  have hrow : ∀ x ∈ l, seqOf x = some (rowC (rowOf x)) := fun x m => row_of (hf l hsl x m) (hok x m)
  obtain ⟨a, xs, o, rfl, hv, so, rv, zv⟩ := hv.seq hsl
  obtain ⟨J, wJ, put⟩ := seq_walk (K := K) (a := a) so
  obtain ⟨rs, hrs⟩ : ∃ rs, rs = rowsOf d := ⟨_, rfl⟩
  have hrs2 : rs = l.map rowOf := by rw [hrs]; unfold rowsOf; rw [hsl]; rfl
  rw [← hrs] at q3
  intro S hS
  have hl : xs.length = rs.length := rv.len.trans (by rw [hrs2, List.length_map])
  have sS : Same H _ := s1.trans (Same.up (o := .dK []) hS)
  refine ⟨_, rfl, a, rfl, put _ _ (sS _ _ hv) (for_it wJ (fun i σ H' => (∃ u v w z, σ = [some (.ref a), some (.ref S), u, v, w, z]) ∧ Same H1 H' ∧ H' S = some (.dK (sumS (rs.take i)))) ⟨⟨_, _, _, _, rfl⟩, Same.up hS, by simp [sumS, sums, upd_same]⟩ (fun i σ H' hi p => p.2.1 _ _ (s1 _ _ hv)) ?_ ?_)⟩
  · rintro i x σ H2 H3 hi ⟨⟨u1, v1, w1, z1, rfl⟩, s2, hd⟩ ⟨rfl, hx⟩
    have hi2 : i < rs.length := by omega
    obtain ⟨r, hr2⟩ : ∃ r, rs[i]? = some r := ⟨_, List.getElem?_eq_getElem hi2⟩
    obtain ⟨dd, e1, i1⟩ := rv.get hx
    have hr3 := hr2
    rw [hrs2, List.getElem?_map, e1] at hr3
    obtain rfl : rowOf dd = r := Option.some.inj hr3
    obtain ⟨r, hrr⟩ : ∃ r, r = rowOf dd := ⟨_, rfl⟩
    rw [← hrr] at hr2
    obtain ⟨b, ob, rfl, hb3, sb3, sm1⟩ := row_at (i1.mono (s1.trans s2)) (r := r) (by rw [hrr]; exact hrow dd (List.mem_of_getElem? e1))
    have I0 : Ints isStrKey (sumS (rs.take i)) := sums_ints _ _ _ _ Ints.nil fun r m => ⟨_, rfl⟩
    have tk : rs.take (i + 1) = rs.take i ++ [r] := by rw [List.take_add_one, hr2]; rfl
    refine ⟨b, _, rfl, sb3.any hb3, rfl, _, _, rfl, _, _, rfl, _, _, rfl, rfl, ?_⟩
    refine ⟨_, rfl, S, rfl, .inl ⟨_, .inl hd⟩, _, rfl, _, DGet.k (k := Sum.inr r.1.2) hd, _, rfl, ?_⟩
    rw [I0.get]
    refine ⟨_, _, rfl, rfl, _, rfl, _, rfl, S, _, rfl, DPut.k (k := Sum.inr r.1.2) hd (sz (m := 60) ?_), ⟨_, _, _, _, rfl⟩, ?_, ?_⟩
    · have := sumS_len (rs.take i)
      rw [List.length_take] at this
      omega
    · intro b o e
      have nb : b ≠ S := fun z => by rw [z, hS] at e; cases e
      rw [upd_ne nb]
      exact s2 _ _ e
    · rw [upd_same, tk]
      unfold sumS
      rw [sums_snoc]
      rfl
  · rintro σ H2 ⟨⟨u1, v1, w1, z1, rfl⟩, s2, hd⟩
    have hd : H2 S = some (.dK (sumS rs)) := by rw [hd, hl, List.take_length]
    have I0 : Ints isStrKey (sumS rs) := sums_ints _ _ _ _ Ints.nil fun r m => ⟨_, rfl⟩
    have kl := sumS_len rs
    refine ⟨S, _, hd, trivial, fun od => ?_⟩
    have kn : (sumS rs).length ≤ 60 := by omega
    refine ⟨_, rfl, S, od, _, rfl, upd_same, fun D hD => lc_pure walk_values (At := fun i x => ∃ k, (sumS rs)[i]? = some (k, x)) (fun _ _ _ _ y => y) (((sumS rs).map fun e => decide (e.2 = V.int 0)).map V.bl) (by simp) (sz kn) hD (fun H3 s3 => s3 _ _ upd_same) (fun i x y H3 R hi hx hy s3 k => ?_) (fun H3 s3 h3 => ?_)⟩
    · obtain ⟨kk, hk⟩ := hx
      obtain ⟨n, en⟩ := (I0.ent _ (List.mem_of_getElem? hk)).2
      have en : x = .int n := en
      subst en
      rw [List.getElem?_map, List.getElem?_map, hk] at hy
      obtain rfl : V.bl (decide (V.int n = V.int 0)) = y := Option.some.inj hy
      exact ⟨_, rfl, rfl, k _ (Same.refl _)⟩
    · have nD : D ≠ S := fun z => by rw [z, upd_same] at hD; cases hD
      refine ⟨s3 _ _ upd_same, all_of (by rw [upd_ne nD]; exact h3) (q3 _ fun b o e => ?_)⟩
      have e1 := s1 _ _ e
      have nb : b ≠ S := fun z => by rw [z, hS] at e1; cases e1
      rw [upd_ne nb]
      refine s3 _ _ ?_
      rw [upd_ne nb]
      exact s2 _ _ e1
end
end K28

set_option Elab.async false
set_option linter.all false
set_option maxRecDepth 100000
set_option maxHeartbeats 4000000
namespace K28
open PySem PySem.Spec PyProof.Rows L2 Sr
def rowsOk (d : Dt) : Bool := match seqOf d with
  | some l => l.all rowOk
  | none => false
def rowsFlat (d : Dt) : Prop := ∀ l, seqOf d = some l → ∀ x ∈ l, rowFlat x
section
variable {P : Program} {w : World} {K : PySem.W.Frag} {mg : Str → Option Value} {base : Heap}
abbrev s_is_rows : Stmt := top 23
theorem sc_is_rows : FnScope ["thing", "row"] ["thing"] (defScope s_is_rows) := ⟨rfl, rfl, rfl, by decide +kernel, rfl, by decide +kernel, by decide +kernel⟩
theorem c_is_rows (T : Txt K mg) (D : Dfn K mg "is_rows" s_is_rows) (C_is_list : Cal P w K mg base 1 "is_list" ["thing"] (spB isSeq)) (C_is_row : Cal P w K mg base 3 "_is_row" ["thing"] (spBP rowFlat rowOk)) :
    Cal P w K mg base 4 "is_rows" ["thing"] (spBP rowsFlat rowsOk) := by
  refine D.cal sc_is_rows (fun _ _ _ _ _ _ us hl => match us, hl with | [_], _ => rfl) spBP_len fun cdv A outer s H vs Q E hr h => ?_
  obtain ⟨v, d, rfl, hv, hf, q⟩ := h
  refine ⟨_, (pss_one (ps_ret (pe_and (pe_cal C_is_list hr (by first | decide | omega) (by rfl) (pa_cons (pv 0) pa_nil)) (pe_one (pe_callB (id := "all") (cr_all rfl) (by rfl) T.all (by decide +kernel) (pa_cons (pe_lc (own := [("row", 1)]) (g := gName 1) (tt := tYes) rfl sc_is_rows.nd (pi_seq (pv 0)) (blkOk_by (N := ["thing", "row"]) (sc := defScope s_is_rows) (by decide +kernel)) (fun _ _ _ _ _ => (pg_name (i := 1) sc_is_rows.nd rfl (by first | exact Or.inl rfl | exact Or.inr rfl))) (fun _ _ _ _ _ => pts_nil) (fun _ _ _ _ _ => (pe_cal C_is_row hr (by first | decide | omega) (by rfl) (pa_cons (pv 1) pa_nil)))) pa_nil)))))), ?_⟩
  refine ⟨_, rfl, v, d, rfl, hv, fun H1 s1 => ⟨_, rfl, ?_⟩⟩
  cases hq : seqOf d with
  | none =>
    have e1 : isSeq d = false := by cases d <;> first | rfl | cases hq
    have e2 : rowsOk d = false := by unfold rowsOk; rw [hq]
    rw [e1]
    rw [e2] at q
    exact iteF (q _ s1)
  | some l =>
    have e1 : isSeq d = true := by cases d <;> first | rfl | cases hq
    have e2 : rowsOk d = l.all rowOk := by unfold rowsOk; rw [hq]
    obtain ⟨a, xs, o, rfl, ho, so, ia, zz⟩ := (hv.mono s1).seq hq
    obtain ⟨J, wJ, put⟩ := seq_walk (K := K) (a := a) so
    rw [e1]
    refine iteT ⟨_, rfl, a, rfl, put _ _ ho (fun D hD => lc_pure wJ (At := fun i x => xs[i]? = some x) (fun _ _ _ _ y => y) ((l.map rowOk).map V.bl) (by rw [List.length_map, List.length_map, ia.len]) (sz zz) hD (fun H3 s3 => s3 _ _ ho) (fun i x y H3 R hi hx hy s3 k => ?_) (fun H3 s3 h3 => all_of h3 ?_))⟩
    · obtain ⟨dx, e3, i3⟩ := ia.get hx
      rw [List.getElem?_map, List.getElem?_map, e3] at hy
      obtain rfl : V.bl (rowOk dx) = y := Option.some.inj hy
      exact ⟨_, rfl, x, dx, rfl, i3.mono s3, hf l hq dx (List.mem_of_getElem? e3), fun H4 s4 => k _ s4⟩
    · rw [e2] at q
      rw [List.all_map]
      exact q _ (s1.trans s3)
theorem ixS {H : Hp} {a : Addr} {xs : List V} {n : Int} {u : V} {R : VK} (h : SqAny K H a xs) (e : atI xs n = some u) (r : R u H) : (rIx K) (.ref a) (.int n) H R := by
  rcases h with h | h
  · exact .inl ⟨a, _, _, _, rfl, rfl, h, e, r⟩
  · exact .inr (.inl ⟨a, _, _, _, rfl, rfl, h, e, r⟩)
def isS (s : Str) : Dt → Bool
  | .str t => decide (V.str t = V.str s)
  | _ => false
def restOk : List Dt → Bool
  | [x] => rowsOk x && bal (sumS (rowsOf x))
  | _ => false
def deedL : List Dt → Bool
  | k :: a :: b :: r => timeOk a && (timeOk b && (if isS "close" k = true then r.isEmpty else isS "entry" k && restOk r))
  | _ => false
theorem at_nat {xs : List V} {i : Nat} {u : V} (h : xs[i]? = some u) : atI xs (i : Int) = some u := by
  have hl := (List.getElem?_eq_some_iff.mp h).1
  unfold atI ixN
  simp [hl]
  exact (List.getElem?_eq_some_iff.mp h).2
def deedOk (d : Dt) : Bool := match seqOf d with
  | some l => deedL l
  | none => false
def deedFlat (d : Dt) : Prop := ∀ l, seqOf d = some l → (∀ x, l[0]? = some x → ∃ s, x = .str s) ∧ ∀ x, l[3]? = some x → rowsFlat x
theorem bad_none {l : List Dt} : ∀ {i : Nat}, l.all rowOk = true → firstBad l i = none := by
  induction l with
  | nil => intro i h; rfl
  | cons x r ih =>
    intro i h
    rw [List.all_cons, Bool.and_eq_true] at h
    unfold firstBad
    rw [if_pos h.1]
    exact ih h.2
theorem badAt_none {d : Dt} (h : rowsOk d = true) : badAt d = none := by
  unfold rowsOk at h
  unfold badAt
  cases e : seqOf d with
  | none => rw [e] at h; cases h
  | some l => rw [e] at h; exact bad_none h
abbrev s__is_deed : Stmt := top 28
theorem sc__is_deed : FnScope ["thing"] ["thing"] (defScope s__is_deed) := ⟨rfl, rfl, rfl, by decide +kernel, rfl, by decide +kernel, by decide +kernel⟩
theorem c__is_deed (T : Txt K mg) (D : Dfn K mg "_is_deed" s__is_deed) (C_is_list : Cal P w K mg base 1 "is_list" ["thing"] (spB isSeq)) (C_is_time : Cal P w K mg base 2 "is_time" ["thing"] (spB timeOk))
    (C_is_rows : Cal P w K mg base 4 "is_rows" ["thing"] (spBP rowsFlat rowsOk)) (C_is_balanced : CalE P w K mg base 5 "is_balanced" ["rows"] (spBal K)) :
    Cal P w K mg base 6 "_is_deed" ["thing"] (spBP deedFlat deedOk) := by
  refine D.cal sc__is_deed (fun _ _ _ _ _ _ us hl => match us, hl with | [_], _ => rfl) spBP_len fun cdv A outer s H vs Q E hr h => ?_
  obtain ⟨v, d, rfl, hv, hf, q⟩ := h
  refine ⟨_, (pss_cons (ps_if (PW.pt (pw_or (pt_not (pt_val (pe_cal C_is_list hr (by first | decide | omega) (by rfl) (pa_cons (pv 0) pa_nil)))) (pw_or (pt_cmpR op_lt (pe_callB (id := "len") call_len_seq (by rfl) T.len (by decide +kernel) (pa_cons (pv 0) pa_nil)) pe_int (nomark _)) (pw_or (pt_not (pt_val (pe_cal C_is_time hr (by first | decide | omega) (by rfl) (pa_cons (pe_ix ix_seq (pv 0) pe_int (fun _ _ => rfl)) pa_nil)))) (pw_or1 (pt_not (pt_val (pe_cal C_is_time hr (by first | decide | omega) (by rfl) (pa_cons (pe_ix ix_seq (pv 0) pe_int (fun _ _ => rfl)) pa_nil))))))))) (pss_one (ps_ret pe_bl)) pss_nil)
      (pss_cons (ps_if (pt_cmpR op_eq (pe_ix ix_seq (pv 0) pe_int (fun _ _ => rfl)) pe_str (nomark _)) (pss_one (ps_ret (pe_cmpR op_eq (pe_callB (id := "len") call_len_seq (by rfl) T.len (by decide +kernel) (pa_cons (pv 0) pa_nil)) pe_int (nomark _)))) pss_nil)
      (pss_one (ps_ret (pe_and (pe_cmpR op_eq (pe_ix ix_seq (pv 0) pe_int (fun _ _ => rfl)) pe_str (nomark _)) (pe_and (pe_cmpR op_eq (pe_callB (id := "len") call_len_seq (by rfl) T.len (by decide +kernel) (pa_cons (pv 0) pa_nil)) pe_int (nomark _)) (pe_and (pe_cal C_is_rows hr (by first | decide | omega) (by rfl) (pa_cons (pe_ix ix_seq (pv 0) pe_int (fun _ _ => rfl)) pa_nil)) (pe_one (pe_calE C_is_balanced hr (by first | decide | omega) (by rfl) passes_never (pa_cons (pe_ix ix_seq (pv 0) pe_int (fun _ _ => rfl)) pa_nil)))))))))), ?_⟩
  refine ⟨_, rfl, v, d, rfl, hv, fun H1 s1 => ⟨_, rfl, ?_⟩⟩
  cases hq : seqOf d with
  | none =>
    have e1 : isSeq d = false := by cases d <;> first | rfl | cases hq
    have e2 : deedOk d = false := by unfold deedOk; rw [hq]
    rw [e1]
    rw [e2] at q
    exact iteT (iteT (q _ s1))
  | some l =>
    have e1 : isSeq d = true := by cases d <;> first | rfl | cases hq
    have e2 : deedOk d = deedL l := by unfold deedOk; rw [hq]
    obtain ⟨a, xs, o, rfl, ho, so, ia, zz⟩ := (hv.mono s1).seq hq
    rw [e1]
    rw [e2] at q
    obtain ⟨f0, f3⟩ := hf l hq
    refine iteF ⟨_, rfl, a, xs, rfl, so.any ho, _, _, rfl, rfl, _, rfl, ?_⟩
    have hl := ia.len
    match xs, l, ia, hl with
    | [], [], _, _ => exact iteT (iteT (q _ s1))
    | [_], [_], _, _ => exact iteT (iteT (q _ s1))
    | [_, _], [_, _], _, _ => exact iteT (iteT (q _ s1))
    | x0 :: x1 :: x2 :: xr, d0 :: d1 :: d2 :: dr, ia, hl =>
      cases ia with
      | cons i0 r0 => cases r0 with
        | cons i1 r1 => cases r1 with
          | cons i2 r2 =>
            obtain ⟨z, rfl⟩ := f0 d0 rfl
            cases i0 with
            | str _ hz =>
            have up : ∀ {H2 : Hp}, Same H1 H2 → SqAny K H2 a (V.str z :: x1 :: x2 :: xr) := fun s2 => so.any (s2 _ _ ho)
            have e3 : decide (((V.str z :: x1 :: x2 :: xr).length : Int) < 3) = false := decide_eq_false (by simp only [List.length_cons]; omega)
            rw [e3]
            refine iteF ⟨_, rfl, ixS (up (Same.refl _)) (u := x1) (at_nat (i := 1) rfl) ⟨x1, d1, rfl, i1, fun H2 s2 => ⟨_, rfl, ?_⟩⟩⟩
            have e4 : deedL (.str z :: d1 :: d2 :: dr) = (timeOk d1 && (timeOk d2 && (if isS "close" (.str z) = true then dr.isEmpty else isS "entry" (.str z) && restOk dr))) := rfl
            rw [e4] at q
            cases c1 : timeOk d1 with
            | false =>
              rw [c1] at q
              exact iteT (iteT (q _ (s1.trans s2)))
            | true =>
            rw [c1, Bool.true_and] at q
            refine iteF ⟨_, rfl, ixS (up s2) (u := x2) (at_nat (i := 2) rfl) ⟨x2, d2, rfl, i2.mono s2, fun H3 s3 => ⟨_, rfl, ?_⟩⟩⟩
            cases c2 : timeOk d2 with
            | false =>
              rw [c2] at q
              exact iteT (q _ (s1.trans (s2.trans s3)))
            | true =>
            rw [c2, Bool.true_and] at q
            have s13 := s2.trans s3
            refine iteF ?_
            have s0 := s1.trans s13
            refine ⟨_, rfl, ixS (up s13) (u := V.str z) (at_nat (i := 0) rfl) ⟨rfl, _, rfl, ?_⟩⟩
            have lz : isS "close" (.str z) = decide (V.str z = V.str "close") := rfl
            have le : isS "entry" (.str z) = decide (V.str z = V.str "entry") := rfl
            cases c3 : decide (V.str z = V.str "close") with
            | true =>
              rw [lz, c3, if_pos rfl] at q
              refine iteT ⟨_, rfl, a, _, rfl, up s13, rfl, ?_⟩
              have e5 : decide (V.int ((V.str z :: x1 :: x2 :: xr).length : Nat) = V.int 3) = dr.isEmpty := by
                have h3 : xr.length = dr.length := r2.len
                cases dr with
                | nil => cases xr with
                  | nil => rfl
                  | cons _ _ => cases h3
                | cons _ _ => cases xr with
                  | nil => cases h3
                  | cons _ _ => exact decide_eq_false (by intro y; injection y with y; simp only [List.length_cons] at y; omega)
              rw [e5]
              exact q _ s0
            | false =>
              rw [lz, c3, if_neg (by simp), le] at q
              refine iteF ⟨_, rfl, ixS (up s13) (u := V.str z) (at_nat (i := 0) rfl) ⟨rfl, _, rfl, ?_⟩⟩
              cases c4 : decide (V.str z = V.str "entry") with
              | false =>
                rw [c4, Bool.false_and] at q
                exact iteF (q _ s0)
              | true =>
                rw [c4, Bool.true_and] at q
                refine iteT ⟨_, rfl, a, _, rfl, up s13, rfl, _, rfl, ?_⟩
                have e5 : decide (V.int ((V.str z :: x1 :: x2 :: xr).length : Nat) = V.int 4) = decide (dr.length = 1) := by
                  have h3 : xr.length = dr.length := r2.len
                  by_cases c : dr.length = 1
                  · rw [decide_eq_true c]
                    exact decide_eq_true (by simp only [List.length_cons]; rw [h3, c]; rfl)
                  · rw [decide_eq_false c]
                    exact decide_eq_false (by intro y; injection y with y; simp only [List.length_cons] at y; omega)
                rw [e5]
                match dr, xr, r2, q, f3, e5 with
                | [], [], _, q, _, _ => exact iteF (q _ s0)
                | _ :: _ :: _, _ :: _ :: _, _, q, _, _ => exact iteF (q _ s0)
                | [d3], [x3], .cons i3 .nil, q, f3, _ =>
                  have q : ∀ H', Same H H' → Q (.bl (rowsOk d3 && bal (sumS (rowsOf d3)))) H' := q
                  refine iteT ⟨_, rfl, ixS (up s13) (u := x3) (at_nat (i := 3) rfl) ⟨x3, d3, rfl, i3.mono s13, f3 d3 rfl, fun H4 s4 => ⟨_, rfl, ?_⟩⟩⟩
                  cases c5 : rowsOk d3 with
                  | false =>
                    rw [c5, Bool.false_and] at q
                    exact iteF (q _ (s0.trans s4))
                  | true =>
                    rw [c5, Bool.true_and] at q
                    have hb := badAt_none c5
                    refine iteT ⟨_, rfl, ixS (up (s13.trans s4)) (u := x3) (at_nat (i := 3) rfl) ⟨x3, d3, rfl, i3.mono (s13.trans s4), f3 d3 rfl, fun _ H5 s5 => q _ ((s0.trans s4).trans s5), fun i e => ?_⟩⟩
                    rw [hb] at e
                    cases e
end
end K28

set_option Elab.async false
set_option linter.all false
set_option maxRecDepth 100000
set_option maxHeartbeats 4000000
namespace K28
open PySem PySem.Spec PyProof.Rows L2 Sr RZ
theorem _root_.Sr.DrawsAt.up {H H' : Hp} {a : Addr} (d : DrawsAt H a) (e : Same H H') : DrawsAt H' a := by
  obtain ⟨o, h, x⟩ := d
  exact ⟨o, e _ _ h, x⟩
theorem draw_step {M H M' H' : Hp} {a : Addr} {o : HO} (g : Grow [a] M H M' H') (Ma' : M' a = none) (ho : DrawsO o) : Grow [a] M H M' (upd H' a o) ∧ DrawsAt (upd H' a o) a :=
  ⟨g.trans (Grow.chg g.sub Ma' (by simp)), ⟨o, upd_same, ho⟩⟩
def spSource (K : PySem.W.Frag) : Sp := fun vs H Q _ => ∃ (s : Addr) (t : Int) (ns : List Int), vs = [.ref s, .int t] ∧ SqL K H s (ns.map V.int) ∧ 0 ≤ t ∧ ∀ p o, H p = none → DrawsO o → Q (.ref p) (upd H p o)
def spDraw : Sp := fun vs H Q _ => ∃ (a : Addr) (m : Int), vs = [.ref a, .int m] ∧ DrawsAt H a ∧ 1 ≤ m ∧ m < 1073741824 ∧ ∀ r o, 0 ≤ r → r < m → DrawsO o → Q (.int r) (upd H a o)
def spPick (K : PySem.W.Frag) : Sp := fun vs H Q _ => ∃ (a l : Addr) (xs : List V), vs = [.ref a, .ref l] ∧ DrawsAt H a ∧ l ≠ a ∧ (SqL K H l xs ∨ SqT K H l xs) ∧ 1 ≤ xs.length ∧ xs.length < 1073741824 ∧ ∀ (i : Nat) v o, xs[i]? = some v → DrawsO o → Q v (upd H a o)
/-- two that stand for one datum are the same -/
def spDeep (n : Nat) : Sp := fun vs H Q _ => ∃ (v u : V) (d : Dt), vs = [v, u] ∧ Is H v d ∧ Is H u d ∧ Dep n d ∧ ∀ H', Same H H' → Q (.bl true) H'
section
variable {P : Program} {w : World} {K : PySem.W.Frag} {mg : Str → Option Value} {base : Heap}
abbrev s__law_source : Stmt := top 36
theorem sc__law_source : FnScope ["script", "place", "cell"] ["script", "place"] (defScope s__law_source) := ⟨rfl, rfl, rfl, by decide +kernel, rfl, by decide +kernel, by decide +kernel⟩
theorem c__law_source (T : Txt K mg) (D : Dfn K mg "_law_source" s__law_source) : Cal P w K mg base 1 "_law_source" ["script", "place"] (spSource K) := by
  refine D.cal sc__law_source (fun _ _ _ _ _ _ us hl => match us, hl with | [_, _], _ => rfl) (fun vs H Q E h => ?_) fun cdv A outer s H vs Q E hr h => ?_
  · obtain ⟨s, t, ns, rfl, _⟩ := h
    rfl
  obtain ⟨sc, t, ns, rfl, hS, h0, q⟩ := h
  refine ⟨_, (pss_cons (ps_set (i := 2) sc__law_source.nd rfl (by first | exact Or.inl rfl | exact Or.inr rfl) (pe_ifExp (pt_cmpR op_lt (pv 1) (pe_callB (id := "len") call_len_seq (by rfl) T.len (by decide +kernel) (pa_cons (pv 0) pa_nil)) (nomark _)) (pe_ix ix_list (pv 0) (pv 1) (fun _ _ => rfl)) (pe_op op_add (pe_op op_mul pe_int (pv 1)) pe_int)))
      (pss_one (ps_ret (pe_lst (pa_cons (pe_ifExp (pt_cmpR op_ge (pv 2) (pe_op op_pow pe_int pe_int) (nomark _)) (pv 2) pe_int) (pa_cons (pe_op op_mod (pe_callTy (T := "int") call_int1 (by rfl) T.int (by decide +kernel) (pa_cons (pv 2) pa_nil)) pe_int) (pa_cons pe_int pa_nil))))))), ?_⟩
  refine ⟨_, rfl, _, rfl, sc, _, rfl, .inl hS, _, _, rfl, rfl, _, rfl, ?_⟩
  by_cases h : t < ((ns.map V.int).length : Int)
  · rw [decide_eq_true h]
    have hlt : t.toNat < ns.length := by rw [List.length_map] at h; omega
    refine iteT ⟨_, rfl, _, rfl, sc, _, _, .int ns[t.toNat], rfl, rfl, hS, atI_of (j := t.toNat) (by omega) (by rw [List.getElem?_map, List.getElem?_eq_getElem hlt]; rfl), ?_⟩
    refine ⟨_, rfl, _, _, rfl, rfl, ⟨by decide, by decide, by decide⟩, _, _, rfl, rfl, _, rfl, ?_⟩
    refine iteB ?_ ?_
    · exact ⟨_, rfl, _, rfl, .inl ⟨_, rfl, _, _, rfl, rfl, (by show (0 : Int) < 2147483629; decide), three_line, fun p hp => q p _ hp ⟨_, _, _, rfl⟩⟩⟩
    · exact ⟨_, rfl, .inl ⟨_, rfl, _, _, rfl, rfl, (by show (0 : Int) < 2147483629; decide), three_line, fun p hp => q p _ hp ⟨_, _, _, rfl⟩⟩⟩
  · rw [decide_eq_false h]
    refine iteF ⟨_, rfl, _, _, rfl, rfl, .inl ⟨by decide, by decide⟩, _, _, rfl, rfl, ?_⟩
    refine ⟨_, rfl, _, _, rfl, rfl, ⟨by decide, by decide, by decide⟩, _, _, rfl, rfl, _, rfl, ?_⟩
    refine iteB ?_ ?_
    · exact ⟨_, rfl, _, rfl, .inl ⟨_, rfl, _, _, rfl, rfl, (by show (0 : Int) < 2147483629; decide), three_line, fun p hp => q p _ hp ⟨_, _, _, rfl⟩⟩⟩
    · exact ⟨_, rfl, .inl ⟨_, rfl, _, _, rfl, rfl, (by show (0 : Int) < 2147483629; decide), three_line, fun p hp => q p _ hp ⟨_, _, _, rfl⟩⟩⟩
abbrev s__law_draw : Stmt := top 37
theorem sc__law_draw : FnScope ["draws", "many", "found"] ["draws", "many"] (defScope s__law_draw) := ⟨rfl, rfl, rfl, by decide +kernel, rfl, by decide +kernel, by decide +kernel⟩
theorem c__law_draw (T : Txt K mg) (D : Dfn K mg "_law_draw" s__law_draw) : Cal P w K mg base 1 "_law_draw" ["draws", "many"] spDraw := by
  refine D.cal sc__law_draw (fun _ _ _ _ _ _ us hl => match us, hl with | [_, _], _ => rfl) (fun vs H Q E h => ?_) fun cdv A outer s H vs Q E hr h => ?_
  · obtain ⟨a, m, rfl, _⟩ := h
    rfl
  obtain ⟨a, m, rfl, ⟨o, ho, x, y, z, rfl⟩, h1, h2, q⟩ := h
  refine ⟨_, (pss_cons (ps_if (pt_cmpR op_gt (pe_ix ix_list (pv 0) pe_int (fun _ _ => rfl)) pe_int (nomark _)) (pss_cons (ps_set (i := 2) sc__law_draw.nd rfl (by first | exact Or.inl rfl | exact Or.inr rfl) (pe_op op_mod (pe_callTy (T := "int") call_int1 (by rfl) T.int (by decide +kernel) (pa_cons (pe_ix ix_list (pv 0) pe_int (fun _ _ => rfl)) pa_nil)) (pv 1)))
      (pss_cons (ps_asg (pe_op op_fdiv (pe_ix ix_list (pv 0) pe_int (fun _ _ => rfl)) (pv 1)) (pg_sub (pv 0) pe_int set_list))
      (pss_one (ps_ret (pv 2))))) pss_nil)
      (pss_cons (ps_asg (pe_op op_add (pe_ix ix_list (pv 0) pe_int (fun _ _ => rfl)) pe_int) (pg_sub (pv 0) pe_int set_list))
      (pss_cons (ps_asg (pe_op op_mod (pe_callTy (T := "int") call_int1 (by rfl) T.int (by decide +kernel) (pa_cons (pe_op op_add (pe_op op_add (pe_op op_mul (pe_ix ix_list (pv 0) pe_int (fun _ _ => rfl)) pe_int) (pe_op op_mul (pe_ix ix_list (pv 0) pe_int (fun _ _ => rfl)) pe_int)) pe_int) pa_nil)) pe_int) (pg_sub (pv 0) pe_int set_list))
      (pss_one (ps_ret (pe_op op_mod (pe_callTy (T := "int") call_int1 (by rfl) T.int (by decide +kernel) (pa_cons (pe_op op_add (pe_op op_fdiv (pe_ix ix_list (pv 0) pe_int (fun _ _ => rfl)) pe_int) (pe_ix ix_list (pv 0) pe_int (fun _ _ => rfl))) pa_nil)) (pv 1))))))), ?_⟩
  have c : ∀ (X Y Z : Int), (V.int X :: V.int Y :: V.int Z :: []).length = 3 := fun _ _ _ => rfl
  refine ⟨_, rfl, a, _, _, _, rfl, rfl, SqL.of ho, rfl, _, _, rfl, rfl, _, rfl, ?_⟩
  refine iteB ?_ ?_
  rotate_left
  · refine ⟨_, rfl, a, _, _, _, rfl, rfl, SqL.of ho, rfl, _, _, rfl, rfl, _, rfl, a, _, _, 2, rfl, rfl, ho, rfl, ?_⟩
    refine ⟨_, rfl, a, _, _, _, rfl, rfl, SqL.of upd_same, rfl, _, _, rfl, rfl, .inr ⟨by decide, by decide⟩, ?_⟩
    refine ⟨_, rfl, a, _, _, _, rfl, rfl, SqL.of upd_same, rfl, _, _, rfl, rfl, .inr ⟨by decide, by decide⟩, _, _, rfl, rfl, _, _, rfl, rfl, .inl ⟨_, rfl, _, _, rfl, rfl, (by show (0 : Int) < 2147483629; decide), ?_⟩⟩
    refine ⟨_, rfl, a, _, _, 1, rfl, rfl, upd_same, rfl, ?_⟩
    rw [upd_upd]
    refine ⟨_, rfl, a, _, _, _, rfl, rfl, SqL.of upd_same, rfl, _, _, rfl, rfl, ⟨by decide, by decide⟩, _, rfl, a, _, _, _, rfl, rfl, SqL.of upd_same, rfl, _, _, rfl, rfl, .inl ⟨_, rfl, _, rfl, _, _, rfl, rfl, (show (0 : Int) < m by omega), ?_⟩⟩
    exact q _ _ (Int.emod_nonneg _ (by omega)) (Int.emod_lt_of_pos _ (by omega)) ⟨_, _, _, rfl⟩
  · refine ⟨_, rfl, a, _, _, _, rfl, rfl, SqL.of ho, rfl, .inl ⟨_, rfl, _, rfl, _, _, rfl, rfl, (show (0 : Int) < m by omega), ?_⟩⟩
    refine ⟨_, rfl, a, _, _, _, rfl, rfl, SqL.of ho, rfl, _, rfl, _, _, rfl, rfl, ⟨by omega, h2⟩, _, rfl, a, _, _, 0, rfl, rfl, ho, rfl, _, rfl, ?_⟩
    exact q _ _ (Int.emod_nonneg _ (by omega)) (Int.emod_lt_of_pos _ (by omega)) ⟨_, _, _, rfl⟩
abbrev s__law_pick : Stmt := top 38
theorem sc__law_pick : FnScope ["draws", "xs"] ["draws", "xs"] (defScope s__law_pick) := ⟨rfl, rfl, rfl, by decide +kernel, rfl, by decide +kernel, by decide +kernel⟩
theorem c__law_pick (T : Txt K mg) (D : Dfn K mg "_law_pick" s__law_pick) (C_law_draw : Cal P w K mg base 1 "_law_draw" ["draws", "many"] spDraw) : Cal P w K mg base 2 "_law_pick" ["draws", "xs"] (spPick K) := by
  refine D.cal sc__law_pick (fun _ _ _ _ _ _ us hl => match us, hl with | [_, _], _ => rfl) (fun vs H Q E h => ?_) fun cdv A outer s H vs Q E hr h => ?_
  · obtain ⟨a, l, xs, rfl, _⟩ := h
    rfl
  obtain ⟨a, l, xs, rfl, hd, hn, hx, l1, l2, q⟩ := h
  refine ⟨_, (pss_one (ps_ret (pe_ix ix_seq (pv 1) (pe_cal C_law_draw hr (by first | decide | omega) (by rfl) (pa_cons (pv 0) (pa_cons (pe_callB (id := "len") call_len_seq (by rfl) T.len (by decide +kernel) (pa_cons (pv 1) pa_nil)) pa_nil))) (fun _ _ => rfl)))), ?_⟩
  refine ⟨_, rfl, _, rfl, _, rfl, l, xs, rfl, hx, a, _, rfl, hd, by omega, by omega, fun r o r0 r1 ho => ?_⟩
  have hlt : r.toNat < xs.length := by omega
  have e : atI xs r = some xs[r.toNat] := atI_of (j := r.toNat) (by omega) (List.getElem?_eq_getElem hlt)
  rcases seq_upd (o := o) hn hx with h | h
  · exact .inl ⟨l, xs, r, _, rfl, rfl, h, e, q r.toNat _ o (List.getElem?_eq_getElem hlt) ho⟩
  · exact .inr (.inl ⟨l, xs, r, _, rfl, rfl, h, e, q r.toNat _ o (List.getElem?_eq_getElem hlt) ho⟩)
abbrev s__law_same : Stmt := top 39
theorem sc__law_same : FnScope ["found", "due", "left", "right"] ["found", "due"] (defScope s__law_same) := ⟨rfl, rfl, rfl, by decide +kernel, rfl, by decide +kernel, by decide +kernel⟩
theorem c__law_same_deep (T : Txt K mg) (D : Dfn K mg "_law_same" s__law_same) : ∀ n : Nat, Cal P w K mg base (n + 1) "_law_same" ["found", "due"] (spDeep n) := by
  intro n
  induction n with
  | zero =>
    refine D.cal sc__law_same (fun _ _ _ _ _ _ us hl => match us, hl with | [_, _], _ => rfl) (fun vs H Q E h => ?_) fun cdv A outer s H vs Q E hr h => ?_
    · obtain ⟨v, u, d, rfl, _⟩ := h
      rfl
    obtain ⟨v, u, d, rfl, iv, iu, dp, q⟩ := h
    have hq : isSeq d = false := by cases dp <;> rfl
    refine ⟨_, (pss_cons (ps_if (pt_val (pe_callB (id := "isinstance") call_isiT (by rfl) T.isinstance (by decide +kernel) (pa_cons (pv 1) (pa_cons (pe_tup (pa_cons (pe_tyv (n := "list") (by rfl) T.list (by decide +kernel)) (pa_cons (pe_tyv (n := "tuple") (by rfl) T.tuple (by decide +kernel)) pa_nil))) pa_nil)))) pss_never pss_nil)
      (pss_cons (ps_if (pt_val (pe_callB (id := "isinstance") call_isiT (by rfl) T.isinstance (by decide +kernel) (pa_cons (pv 1) (pa_cons (pe_tup (pa_cons (pe_tyv (n := "bool") (by rfl) T.bool (by decide +kernel)) (pa_cons (pe_tyv (n := "int") (by rfl) T.int (by decide +kernel)) pa_nil))) pa_nil)))) (pss_one (ps_ret (pe_and (pe_callB (id := "isinstance") call_isi (by rfl) T.isinstance (by decide +kernel) (pa_cons (pv 0) (pa_cons (pe_tyv (n := "int") (by rfl) T.int (by decide +kernel)) pa_nil))) (pe_and (pe_cmpR op_eq (pe_callB (id := "isinstance") call_isi (by rfl) T.isinstance (by decide +kernel) (pa_cons (pv 0) (pa_cons (pe_tyv (n := "bool") (by rfl) T.bool (by decide +kernel)) pa_nil))) (pe_callB (id := "isinstance") call_isi (by rfl) T.isinstance (by decide +kernel) (pa_cons (pv 1) (pa_cons (pe_tyv (n := "bool") (by rfl) T.bool (by decide +kernel)) pa_nil))) (nomark _)) (pe_one (pe_cmpR op_eq (pv 0) (pv 1) (nomark _))))))) pss_nil)
      (pss_one (ps_ret (pe_and (pe_not (pe_callB (id := "isinstance") call_isiT (by rfl) T.isinstance (by decide +kernel) (pa_cons (pv 0) (pa_cons (pe_tup (pa_cons (pe_tyv (n := "bool") (by rfl) T.bool (by decide +kernel)) (pa_cons (pe_tyv (n := "int") (by rfl) T.int (by decide +kernel)) (pa_cons (pe_tyv (n := "list") (by rfl) T.list (by decide +kernel)) (pa_cons (pe_tyv (n := "tuple") (by rfl) T.tuple (by decide +kernel)) pa_nil))))) pa_nil)))) (pe_one (pe_cmpR op_eq (pv 0) (pv 1) (nomark _)))))))), ?_⟩
    refine ⟨_, rfl, two_line, fun p hp => ⟨_, p, [.ty "list", .ty "tuple"], _, _, _, rfl, upd_same, cls_two _ _, (iu.mono (Same.up hp)).ty, kit_seq K d, _, rfl, ?_⟩⟩
    rw [hq]
    have s1 : Same H _ := Same.up (o := .tup [.ty "list", .ty "tuple"]) hp
    refine iteF ⟨_, rfl, two_line, fun p2 hp2 => ⟨_, p2, [.ty "bool", .ty "int"], _, _, _, rfl, upd_same, cls_two _ _, ((iu.mono s1).mono (Same.up hp2)).ty, kit_ints K d, _, rfl, ?_⟩⟩
    have s2 := s1.trans (Same.up (o := .tup [.ty "bool", .ty "int"]) hp2)
    have iv2 := iv.mono s2
    have iu2 := iu.mono s2
    cases hi : isInt d with
    | true =>
      refine iteT ⟨_, rfl, _, _, _, _, _, rfl, .ty _, iv2.ty, kit_int K d, _, rfl, ?_⟩
      rw [hi]
      refine iteT ⟨_, rfl, _, _, _, _, _, rfl, .ty _, iv2.ty, kit_bool K d, _, rfl, _, _, _, _, _, rfl, .ty _, iu2.ty, kit_bool K d, rfl, _, rfl, ?_⟩
      rw [decide_eq_true rfl]
      refine iteT ⟨_, rfl, _, rfl, ?_⟩
      obtain ⟨rfl, sc⟩ := flat_eq dp hq iv iu
      refine ⟨sc, ?_⟩
      rw [decide_eq_true rfl]
      exact q _ s2
    | false =>
      refine iteF ⟨_, rfl, lineN, fun p3 hp3 => ⟨_, p3, [.ty "bool", .ty "int", .ty "list", .ty "tuple"], _, _, _, rfl, upd_same, cls_four _ _ _ _, (iv2.mono (Same.up hp3)).ty, kit_four K d, _, rfl, ?_⟩⟩
      have s3 := s2.trans (Same.up (o := .tup [.ty "bool", .ty "int", .ty "list", .ty "tuple"]) hp3)
      rw [hi, hq]
      refine ⟨_, rfl, iteT ⟨_, rfl, _, rfl, ?_⟩⟩
      obtain ⟨rfl, sc⟩ := flat_eq dp hq iv iu
      refine ⟨sc, ?_⟩
      rw [decide_eq_true rfl]
      exact q _ s3
  | succ n ih =>
    refine D.cal sc__law_same (fun _ _ _ _ _ _ us hl => match us, hl with | [_, _], _ => rfl) (fun vs H Q E h => ?_) fun cdv A outer s H vs Q E hr h => ?_
    · obtain ⟨v, u, d, rfl, _⟩ := h
      rfl
    obtain ⟨v, u, d, rfl, iv, iu, dp, q⟩ := h
    cases hq : isSeq d with
    | false =>
      refine ⟨_, (pss_cons (ps_if (pt_val (pe_callB (id := "isinstance") call_isiT (by rfl) T.isinstance (by decide +kernel) (pa_cons (pv 1) (pa_cons (pe_tup (pa_cons (pe_tyv (n := "list") (by rfl) T.list (by decide +kernel)) (pa_cons (pe_tyv (n := "tuple") (by rfl) T.tuple (by decide +kernel)) pa_nil))) pa_nil)))) pss_never pss_nil)
      (pss_cons (ps_if (pt_val (pe_callB (id := "isinstance") call_isiT (by rfl) T.isinstance (by decide +kernel) (pa_cons (pv 1) (pa_cons (pe_tup (pa_cons (pe_tyv (n := "bool") (by rfl) T.bool (by decide +kernel)) (pa_cons (pe_tyv (n := "int") (by rfl) T.int (by decide +kernel)) pa_nil))) pa_nil)))) (pss_one (ps_ret (pe_and (pe_callB (id := "isinstance") call_isi (by rfl) T.isinstance (by decide +kernel) (pa_cons (pv 0) (pa_cons (pe_tyv (n := "int") (by rfl) T.int (by decide +kernel)) pa_nil))) (pe_and (pe_cmpR op_eq (pe_callB (id := "isinstance") call_isi (by rfl) T.isinstance (by decide +kernel) (pa_cons (pv 0) (pa_cons (pe_tyv (n := "bool") (by rfl) T.bool (by decide +kernel)) pa_nil))) (pe_callB (id := "isinstance") call_isi (by rfl) T.isinstance (by decide +kernel) (pa_cons (pv 1) (pa_cons (pe_tyv (n := "bool") (by rfl) T.bool (by decide +kernel)) pa_nil))) (nomark _)) (pe_one (pe_cmpR op_eq (pv 0) (pv 1) (nomark _))))))) pss_nil)
      (pss_one (ps_ret (pe_and (pe_not (pe_callB (id := "isinstance") call_isiT (by rfl) T.isinstance (by decide +kernel) (pa_cons (pv 0) (pa_cons (pe_tup (pa_cons (pe_tyv (n := "bool") (by rfl) T.bool (by decide +kernel)) (pa_cons (pe_tyv (n := "int") (by rfl) T.int (by decide +kernel)) (pa_cons (pe_tyv (n := "list") (by rfl) T.list (by decide +kernel)) (pa_cons (pe_tyv (n := "tuple") (by rfl) T.tuple (by decide +kernel)) pa_nil))))) pa_nil)))) (pe_one (pe_cmpR op_eq (pv 0) (pv 1) (nomark _)))))))), ?_⟩
      refine ⟨_, rfl, two_line, fun p hp => ⟨_, p, [.ty "list", .ty "tuple"], _, _, _, rfl, upd_same, cls_two _ _, (iu.mono (Same.up hp)).ty, kit_seq K d, _, rfl, ?_⟩⟩
      rw [hq]
      have s1 : Same H _ := Same.up (o := .tup [.ty "list", .ty "tuple"]) hp
      refine iteF ⟨_, rfl, two_line, fun p2 hp2 => ⟨_, p2, [.ty "bool", .ty "int"], _, _, _, rfl, upd_same, cls_two _ _, ((iu.mono s1).mono (Same.up hp2)).ty, kit_ints K d, _, rfl, ?_⟩⟩
      have s2 := s1.trans (Same.up (o := .tup [.ty "bool", .ty "int"]) hp2)
      have iv2 := iv.mono s2
      have iu2 := iu.mono s2
      cases hi : isInt d with
      | true =>
        refine iteT ⟨_, rfl, _, _, _, _, _, rfl, .ty _, iv2.ty, kit_int K d, _, rfl, ?_⟩
        rw [hi]
        refine iteT ⟨_, rfl, _, _, _, _, _, rfl, .ty _, iv2.ty, kit_bool K d, _, rfl, _, _, _, _, _, rfl, .ty _, iu2.ty, kit_bool K d, rfl, _, rfl, ?_⟩
        rw [decide_eq_true rfl]
        refine iteT ⟨_, rfl, _, rfl, ?_⟩
        obtain ⟨rfl, sc⟩ := flat_eq dp hq iv iu
        refine ⟨sc, ?_⟩
        rw [decide_eq_true rfl]
        exact q _ s2
      | false =>
        refine iteF ⟨_, rfl, lineN, fun p3 hp3 => ⟨_, p3, [.ty "bool", .ty "int", .ty "list", .ty "tuple"], _, _, _, rfl, upd_same, cls_four _ _ _ _, (iv2.mono (Same.up hp3)).ty, kit_four K d, _, rfl, ?_⟩⟩
        have s3 := s2.trans (Same.up (o := .tup [.ty "bool", .ty "int", .ty "list", .ty "tuple"]) hp3)
        rw [hi, hq]
        refine ⟨_, rfl, iteT ⟨_, rfl, _, rfl, ?_⟩⟩
        obtain ⟨rfl, sc⟩ := flat_eq dp hq iv iu
        refine ⟨sc, ?_⟩
        rw [decide_eq_true rfl]
        exact q _ s3
    | true =>
      have C_law_same := ih
      refine ⟨_, (pss_cons (ps_if (pt_val (pe_callB (id := "isinstance") call_isiT (by rfl) T.isinstance (by decide +kernel) (pa_cons (pv 1) (pa_cons (pe_tup (pa_cons (pe_tyv (n := "list") (by rfl) T.list (by decide +kernel)) (pa_cons (pe_tyv (n := "tuple") (by rfl) T.tuple (by decide +kernel)) pa_nil))) pa_nil)))) (pss_cons (ps_if (PW.pt (pw_or (pt_cmpR op_ne (pe_callB (id := "isinstance") call_isi (by rfl) T.isinstance (by decide +kernel) (pa_cons (pv 0) (pa_cons (pe_tyv (n := "list") (by rfl) T.list (by decide +kernel)) pa_nil))) (pe_callB (id := "isinstance") call_isi (by rfl) T.isinstance (by decide +kernel) (pa_cons (pv 1) (pa_cons (pe_tyv (n := "list") (by rfl) T.list (by decide +kernel)) pa_nil))) (nomark _)) (pw_or1 (pt_cmpR op_ne (pe_callB (id := "isinstance") call_isi (by rfl) T.isinstance (by decide +kernel) (pa_cons (pv 0) (pa_cons (pe_tyv (n := "tuple") (by rfl) T.tuple (by decide +kernel)) pa_nil))) (pe_callB (id := "isinstance") call_isi (by rfl) T.isinstance (by decide +kernel) (pa_cons (pv 1) (pa_cons (pe_tyv (n := "tuple") (by rfl) T.tuple (by decide +kernel)) pa_nil))) (nomark _))))) (pss_one (ps_ret pe_bl)) pss_nil)
      (pss_one (ps_ret (pe_and (pe_cmpR op_eq (pe_callB (id := "len") call_len_seq (by rfl) T.len (by decide +kernel) (pa_cons (pv 0) pa_nil)) (pe_callB (id := "len") call_len_seq (by rfl) T.len (by decide +kernel) (pa_cons (pv 1) pa_nil)) (nomark _)) (pe_one (pe_callB (id := "all") (cr_all rfl) (by rfl) T.all (by decide +kernel) (pa_cons (pe_lc (own := [("left", 2), ("right", 3)]) (g := gTup K 2 (gCons (gName 2) (gCons (gName 3) gNil))) (tt := tYes) rfl sc__law_same.nd (pi_zipA (by rfl) T.zip (pa_cons (pv 0) (pa_cons (pv 1) pa_nil))) (blkOk_by (N := ["found", "due", "left", "right"]) (sc := defScope s__law_same) (by decide +kernel)) (fun _ _ _ _ _ => (pg_tup rfl (pgs_cons (pg_name (i := 2) sc__law_same.nd rfl (by first | exact Or.inl rfl | exact Or.inr rfl)) (pgs_cons (pg_name (i := 3) sc__law_same.nd rfl (by first | exact Or.inl rfl | exact Or.inr rfl)) pgs_nil)))) (fun _ _ _ _ _ => pts_nil) (fun _ _ _ _ _ => (pe_cal C_law_same hr (by first | decide | omega) (by rfl) (pa_cons (pv 2) (pa_cons (pv 3) pa_nil))))) pa_nil))))))) pss_nil)
      (pss_cons (ps_if (pt_val (pe_callB (id := "isinstance") call_isiT (by rfl) T.isinstance (by decide +kernel) (pa_cons (pv 1) (pa_cons (pe_tup (pa_cons (pe_tyv (n := "bool") (by rfl) T.bool (by decide +kernel)) (pa_cons (pe_tyv (n := "int") (by rfl) T.int (by decide +kernel)) pa_nil))) pa_nil)))) (pss_one (ps_ret (pe_and (pe_callB (id := "isinstance") call_isi (by rfl) T.isinstance (by decide +kernel) (pa_cons (pv 0) (pa_cons (pe_tyv (n := "int") (by rfl) T.int (by decide +kernel)) pa_nil))) (pe_and (pe_cmpR op_eq (pe_callB (id := "isinstance") call_isi (by rfl) T.isinstance (by decide +kernel) (pa_cons (pv 0) (pa_cons (pe_tyv (n := "bool") (by rfl) T.bool (by decide +kernel)) pa_nil))) (pe_callB (id := "isinstance") call_isi (by rfl) T.isinstance (by decide +kernel) (pa_cons (pv 1) (pa_cons (pe_tyv (n := "bool") (by rfl) T.bool (by decide +kernel)) pa_nil))) (nomark _)) (pe_one (pe_cmpR op_eq (pv 0) (pv 1) (nomark _))))))) pss_nil)
      pss_never)), ?_⟩
      cases iv with
      | lst hv rv zv =>
        cases iu with
        | lst hu ru zu =>
        rename_i a xs l b ys
        refine ⟨_, rfl, two_line, fun p hp => ⟨_, p, [.ty "list", .ty "tuple"], _, _, _, rfl, upd_same, cls_two _ _, ((Is.lst hu ru zu).mono (Same.up hp)).ty, kit_seq K _, _, rfl, iteT ?_⟩⟩
        have s1 : Same H _ := Same.up (o := .tup [.ty "list", .ty "tuple"]) hp
        have iv1 := (Is.lst hv rv zv).mono s1
        have iu1 := (Is.lst hu ru zu).mono s1
        refine ⟨_, rfl, _, _, _, _, _, rfl, .ty _, iv1.ty, kit_list K _, _, rfl, _, _, _, _, _, rfl, .ty _, iu1.ty, kit_list K _, rfl, _, rfl, ?_⟩
        rw [decide_eq_true rfl]
        refine iteF ⟨_, rfl, _, _, _, _, _, rfl, .ty _, iv1.ty, kit_tuple K _, _, rfl, _, _, _, _, _, rfl, .ty _, iu1.ty, kit_tuple K _, rfl, _, rfl, ?_⟩
        rw [decide_eq_true rfl]
        refine iteF ⟨_, rfl, a, xs, rfl, .inl (SqL.of (s1 _ _ hv)), _, rfl, b, ys, rfl, .inl (SqL.of (s1 _ _ hu)), rfl, _, rfl, ?_⟩
        have el : xs.length = ys.length := rv.len.trans ru.len.symm
        rw [el, decide_eq_true rfl]
        refine iteT ⟨_, rfl, _, rfl, a, b, xs, ys, rfl, .inl ⟨SqL.of (s1 _ _ hv), SqL.of (s1 _ _ hu), fun D hD =>
          lc_pairs (walk_zip (n := xs.length) (by omega)) (by decide) ((l.map fun _ => true).map V.bl) (by rw [List.length_map, List.length_map, rv.len]) (sz zv) hD (fun H2 s2 => ⟨SqL.of (s2 _ _ (s1 _ _ hv)), SqL.of (s2 _ _ (s1 _ _ hu))⟩)
            (fun k x y z H2 R hk hx hy hz s2 kk => ?_) (fun H2 s2 h2 => ⟨D, l.map fun _ => true, rfl, SqL.of h2, ?_⟩)⟩⟩
        · obtain ⟨d1, e1, i1⟩ := rv.get hx
          obtain ⟨d2, e2, i2⟩ := ru.get hy
          rw [e1] at e2
          cases e2
          rw [List.getElem?_map, List.getElem?_map, e1] at hz
          obtain rfl : V.bl true = z := Option.some.inj hz
          have dd : Dep n d1 := by
            cases dp with
            | lst _ _ h => exact h _ (List.mem_of_getElem? e1)
          exact ⟨_, rfl, _, rfl, x, y, d1, rfl, i1.mono (s1.trans s2), i2.mono (s1.trans s2), dd, kk⟩
        · rw [show (l.map fun _ => true).all id = true from by rw [List.all_map]; exact List.all_eq_true.mpr fun _ _ => rfl]
          exact q _ (s1.trans s2)
      | tup hv rv zv =>
        cases iu with
        | tup hu ru zu =>
        rename_i a xs l b ys
        refine ⟨_, rfl, two_line, fun p hp => ⟨_, p, [.ty "list", .ty "tuple"], _, _, _, rfl, upd_same, cls_two _ _, ((Is.tup hu ru zu).mono (Same.up hp)).ty, kit_seq K _, _, rfl, iteT ?_⟩⟩
        have s1 : Same H _ := Same.up (o := .tup [.ty "list", .ty "tuple"]) hp
        have iv1 := (Is.tup hv rv zv).mono s1
        have iu1 := (Is.tup hu ru zu).mono s1
        refine ⟨_, rfl, _, _, _, _, _, rfl, .ty _, iv1.ty, kit_list K _, _, rfl, _, _, _, _, _, rfl, .ty _, iu1.ty, kit_list K _, rfl, _, rfl, ?_⟩
        rw [decide_eq_true rfl]
        refine iteF ⟨_, rfl, _, _, _, _, _, rfl, .ty _, iv1.ty, kit_tuple K _, _, rfl, _, _, _, _, _, rfl, .ty _, iu1.ty, kit_tuple K _, rfl, _, rfl, ?_⟩
        rw [decide_eq_true rfl]
        refine iteF ⟨_, rfl, a, xs, rfl, .inr (SqT.of (s1 _ _ hv)), _, rfl, b, ys, rfl, .inr (SqT.of (s1 _ _ hu)), rfl, _, rfl, ?_⟩
        have el : xs.length = ys.length := rv.len.trans ru.len.symm
        rw [el, decide_eq_true rfl]
        refine iteT ⟨_, rfl, _, rfl, a, b, xs, ys, rfl, .inr ⟨SqT.of (s1 _ _ hv), SqT.of (s1 _ _ hu), fun D hD =>
          lc_pairs (walk_zipT (n := xs.length) (by omega)) (by decide) ((l.map fun _ => true).map V.bl) (by rw [List.length_map, List.length_map, rv.len]) (sz zv) hD (fun H2 s2 => ⟨SqT.of (s2 _ _ (s1 _ _ hv)), SqT.of (s2 _ _ (s1 _ _ hu))⟩)
            (fun k x y z H2 R hk hx hy hz s2 kk => ?_) (fun H2 s2 h2 => ⟨D, l.map fun _ => true, rfl, SqL.of h2, ?_⟩)⟩⟩
        · obtain ⟨d1, e1, i1⟩ := rv.get hx
          obtain ⟨d2, e2, i2⟩ := ru.get hy
          rw [e1] at e2
          cases e2
          rw [List.getElem?_map, List.getElem?_map, e1] at hz
          obtain rfl : V.bl true = z := Option.some.inj hz
          have dd : Dep n d1 := by
            cases dp with
            | tup _ _ h => exact h _ (List.mem_of_getElem? e1)
          exact ⟨_, rfl, _, rfl, x, y, d1, rfl, i1.mono (s1.trans s2), i2.mono (s1.trans s2), dd, kk⟩
        · rw [show (l.map fun _ => true).all id = true from by rw [List.all_map]; exact List.all_eq_true.mpr fun _ _ => rfl]
          exact q _ (s1.trans s2)
      | _ => cases hq
end
end K28

set_option Elab.async false
set_option linter.all false
set_option maxRecDepth 100000
set_option maxHeartbeats 4000000
namespace Sr
open PySem PySem.Spec PyProof.Rows L2 LamX
/-! ### all but the draws' list -/
def rm (H : Hp) (a : Addr) : Hp := fun b => if b = a then none else H b
theorem cut_if {S REST : TS} {D : Ends} {σ : L2.St} {H : Hp} (G : L2.St → Hp → Prop) (hr : ∀ σ2 H2, G σ2 H2 → REST D σ2 H2) (h : (∀ σ2 H2, G σ2 H2 → REST D σ2 H2) → tSeq S REST D σ H) : tSeq S REST D σ H := h hr
theorem rm_same {H : Hp} {a : Addr} : Same (rm H a) H := fun b o e => by
  unfold rm at e
  split at e
  · cases e
  · exact e
theorem rm_at {H : Hp} {a : Addr} : rm H a a = none := by unfold rm; rw [if_pos rfl]
theorem rm_ne {H : Hp} {a b : Addr} (h : b ≠ a) : rm H a b = H b := by unfold rm; rw [if_neg h]
theorem rm_new {H : Hp} {a : Addr} {o : HO} (h : H a = none) : Same H (rm (upd H a o) a) := fun b x e => by
  have n := ne_of_none e h
  rw [rm_ne n, upd_ne n]
  exact e
theorem rm_upd {H : Hp} {a : Addr} {o : HO} : rm (upd H a o) a = rm H a := by
  funext b
  by_cases c : b = a
  · rw [c, rm_at, rm_at]
  · rw [rm_ne c, rm_ne c, upd_ne c]
theorem Same.rm {H H' : Hp} {a : Addr} (s : Same H H') : Same (Sr.rm H a) (Sr.rm H' a) := fun b o e => by
  by_cases c : b = a
  · rw [c, rm_at] at e; cases e
  · rw [rm_ne c] at e ⊢; exact s _ _ e
theorem rm_free {H : Hp} {a p : Addr} (h : H p = none) : rm H a p = none := by
  by_cases c : p = a
  · rw [c, rm_at]
  · rw [rm_ne c, h]
/-- an object of one's own changes: what stood ahead of it stays -/
theorem Same.set {M H : Hp} {p : Addr} {o : HO} (s : Same M H) (h : M p = none) : Same M (upd H p o) := fun b u e => by
  rw [upd_ne (ne_of_none e h)]
  exact s _ _ e
mutual
theorem Is.ext {H H' : Hp} (e : ExtN H H') : ∀ {v : V} {d : Dt}, Is H v d → Is H' v d
  | _, _, .non => .non
  | _, _, .bl b => .bl b
  | _, _, .int i => .int i
  | _, _, .str s h => .str s h
  | _, _, .lst h r z => .lst (e _ _ h (fun _ q => by cases q)) (IsA.ext e r) z
  | _, _, .tup h r z => .tup (e _ _ h (fun _ q => by cases q)) (IsA.ext e r) z
  | _, _, .dic h => .dic (e _ _ h (fun _ q => by cases q))
theorem IsA.ext {H H' : Hp} (e : ExtN H H') : ∀ {vs : List V} {ds : List Dt}, IsA H vs ds → IsA H' vs ds
  | _, _, .nil => .nil
  | _, _, .cons h r => .cons (Is.ext e h) (IsA.ext e r)
end
/-- what data consist of -/
def dataO : HO → Prop
  | .lst _ => True
  | .tup _ => True
  | .dK _ => True
  | _ => False
mutual
theorem Is.keep {H H' : Hp} (e : ∀ b o, H b = some o → dataO o → H' b = some o) : ∀ {v : V} {d : Dt}, Is H v d → Is H' v d
  | _, _, .non => .non
  | _, _, .bl b => .bl b
  | _, _, .int i => .int i
  | _, _, .str s h => .str s h
  | _, _, .lst h r z => .lst (e _ _ h trivial) (IsA.keep e r) z
  | _, _, .tup h r z => .tup (e _ _ h trivial) (IsA.keep e r) z
  | _, _, .dic h => .dic (e _ _ h trivial)
theorem IsA.keep {H H' : Hp} (e : ∀ b o, H b = some o → dataO o → H' b = some o) : ∀ {vs : List V} {ds : List Dt}, IsA H vs ds → IsA H' vs ds
  | _, _, .nil => .nil
  | _, _, .cons h r => .cons (Is.keep e h) (IsA.keep e r)
end
/-- a frozen thing let go -/
theorem thaw {H : Hp} {p : Addr} {od : Obj} {u o : HO} (h : H p = some (.frz od u)) : ∀ b x, H b = some x → dataO x → (upd H p o) b = some x := fun b x e d => by
  rw [upd_ne fun z => ?_]
  · exact e
  · rw [z, h] at e
    cases e
    exact d.elim
/-- no list of three ints within -/
def three : List Dt → Bool
  | [.int _, .int _, .int _] => true
  | _ => false
mutual
def noD : Dt → Bool
  | .lst l => !three l && noDs l
  | .tup l => noDs l
  | _ => true
def noDs : List Dt → Bool
  | [] => true
  | d :: r => noD d && noDs r
end
theorem noDs_all : ∀ {l : List Dt}, (∀ d ∈ l, noD d = true) → noDs l = true
  | [], _ => rfl
  | d :: r, h => by
    unfold noDs
    rw [h d List.mem_cons_self, noDs_all fun x m => h x (List.mem_cons_of_mem _ m)]
    rfl
theorem ints_three {H : Hp} {x y z : Int} {ds : List Dt} (h : IsA H [.int x, .int y, .int z] ds) : three ds = true := by
  cases h with
  | cons h1 t => cases t with
    | cons h2 t => cases t with
      | cons h3 t => cases t with
        | nil => cases h1 with
          | int i => cases h2 with
            | int j => cases h3 with
              | int k => rfl
mutual
theorem Is.off {H : Hp} {a : Addr} (hd : DrawsAt H a) : ∀ {v : V} {d : Dt}, Is H v d → noD d = true → Is (rm H a) v d
  | _, _, .non, _ => .non
  | _, _, .bl b, _ => .bl b
  | _, _, .int i, _ => .int i
  | _, _, .str s h, _ => .str s h
  | _, _, .lst (a := b) (xs := xs) (ds := ds) h r z, n => by
    unfold noD at n
    obtain ⟨n1, n2⟩ := Bool.and_eq_true_iff.mp n
    have ne : b ≠ a := fun e => by
      obtain ⟨o, ho, x, y, w, rfl⟩ := hd
      rw [← e, h] at ho
      have e2 : xs = [.int x, .int y, .int w] := by injection ho with ho; injection ho
      rw [e2] at r
      rw [ints_three r] at n1
      cases n1
    exact .lst (by rw [rm_ne ne]; exact h) (IsA.off hd r n2) z
  | _, _, .tup (a := b) h r z, n => by
    unfold noD at n
    have ne : b ≠ a := fun e => by
      obtain ⟨o, ho, x, y, w, rfl⟩ := hd
      rw [← e, h] at ho
      injection ho with ho
      cases ho
    exact .tup (by rw [rm_ne ne]; exact h) (IsA.off hd r n) z
  | _, _, .dic (a := b) h, _ => by
    have ne : b ≠ a := fun e => by
      obtain ⟨o, ho, x, y, w, rfl⟩ := hd
      rw [← e, h] at ho
      injection ho with ho
      cases ho
    exact .dic (by rw [rm_ne ne]; exact h)
theorem IsA.off {H : Hp} {a : Addr} (hd : DrawsAt H a) : ∀ {vs : List V} {ds : List Dt}, IsA H vs ds → noDs ds = true → IsA (rm H a) vs ds
  | _, _, .nil, _ => .nil
  | _, _, .cons h r, n => by
    unfold noDs at n
    obtain ⟨n1, n2⟩ := Bool.and_eq_true_iff.mp n
    exact .cons (Is.off hd h n1) (IsA.off hd r n2)
end
theorem Tabs.off {T : List (Addr × Str)} {H : Hp} {a : Addr} (t : Tabs T H) (hd : DrawsAt H a) : Tabs T (rm H a) := fun p hp => by
  obtain ⟨o, ho, x, y, w, rfl⟩ := hd
  obtain ⟨ps, h1, h2, h3⟩ := t p hp
  have n1 : p.1 ≠ a := fun e => by rw [e, ho] at h1; injection h1 with h1; cases h1
  refine ⟨ps, by rw [rm_ne n1]; exact h1, h2, fun pos cv hc => ?_⟩
  obtain ⟨c, e1, e2⟩ := h3 pos cv hc
  have n2 : c ≠ a := fun e => by
    rw [e, ho] at e2
    injection e2 with e2
    unfold CodeO at e2
    cases e2
  exact ⟨c, e1, by rw [rm_ne n2]; exact e2⟩
theorem ExtN.set {M H : Hp} {p : Addr} {o : HO} (e : ExtN M H) (h : M p = none) : ExtN M (upd H p o) := fun b u q n => by
  rw [upd_ne (ne_of_none q h)]
  exact e _ _ q n
theorem ExtN.none {H H' : Hp} {p : Addr} (e : ExtN H H') (h : H' p = Option.none) (n : ∀ ps, H p ≠ some (.tbl ps)) : H p = Option.none := by
  cases q : H p with
  | none => rfl
  | some o =>
    have := e _ _ q (fun ps z => n ps (by rw [q, z]))
    rw [this] at h
    cases h
theorem sql_ext {K : PySem.W.Frag} {H H' : Hp} {a : Addr} {xs : List V} (e : ExtN H H') (h : SqL K H a xs) : SqL K H' a xs := by
  rcases h with (h | ⟨u, h⟩) | h
  · exact .inl (.inl (e _ _ h fun _ q => by cases q))
  · exact .inl (.inr ⟨u, e _ _ h fun _ q => by cases q⟩)
  · exact .inr h
/-- a list changes: the tables stay -/
theorem Tabs.set {T : List (Addr × Str)} {H : Hp} {f : Addr} {xs ys : List V} (t : Tabs T H) (hf : H f = some (.lst xs)) : Tabs T (upd H f (.lst ys)) := fun p hp => by
  obtain ⟨ps, h1, h2, h3⟩ := t p hp
  have n1 : p.1 ≠ f := fun e => by rw [e, hf] at h1; injection h1 with h1; cases h1
  refine ⟨ps, by rw [upd_ne n1]; exact h1, h2, fun pos cv hc => ?_⟩
  obtain ⟨c, e1, e2⟩ := h3 pos cv hc
  have n2 : c ≠ f := fun e => by
    rw [e, hf] at e2
    injection e2 with e2
    unfold CodeO at e2
    cases e2
  exact ⟨c, e1, by rw [upd_ne n2]; exact e2⟩
theorem cut_to (xs : List V) {k : Nat} (h : k ≤ xs.length) : cutV xs none (some (k : Int)) = xs.take k := by
  unfold cutV
  rw [HT.sIx_none, HT.sIx_nat, Nat.min_eq_left h, Nat.sub_zero, List.drop_zero]
theorem cut_from (xs : List V) {k : Nat} (h : k ≤ xs.length) : cutV xs (some (k : Int)) none = xs.drop k := by
  unfold cutV
  rw [HT.sIx_none, HT.sIx_nat, Nat.min_eq_left h, List.take_of_length_le (by rw [List.length_drop]; exact Nat.le_refl _)]
/-! ### what is settled, beside the draws' list at a -/
structure Dr (a : Addr) (M H : Hp) : Prop where
  d : DrawsAt H a
  s : Same M (rm H a)
section
variable {a p : Addr} {M H H' : Hp} {o : HO}
theorem Dr.ne (D : Dr a M H) {b : Addr} {x : HO} (e : M b = some x) : b ≠ a := fun z => by
  have h := D.s _ _ e
  rw [z, rm_at] at h
  cases h
theorem Dr.get (D : Dr a M H) {b : Addr} {x : HO} (e : M b = some x) : H b = some x := rm_same _ _ (D.s _ _ e)
theorem Dr.up (D : Dr a M H) : Same M H := fun _ _ e => D.get e
theorem Dr.free (D : Dr a M H) {b : Addr} (h : H b = none) : M b = none := by
  cases q : M b with
  | none => rfl
  | some x => rw [D.get q] at h; cases h
theorem Dr.grow (D : Dr a M H) (s : Same H H') : Dr a M H' := ⟨by
  obtain ⟨o, e, x⟩ := D.d
  exact ⟨o, s _ _ e, x⟩, D.s.trans (Same.rm s)⟩
theorem Dr.lay (D : Dr a M H) (hp : H p = none) : Dr a (upd M p o) (upd H p o) ∧ Same M (upd M p o) := by
  have np : p ≠ a := fun z => D.d.some (by rw [← z]; exact hp)
  refine ⟨⟨(D.grow (Same.up hp)).d, fun b x e => ?_⟩, Same.up (D.free hp)⟩
  by_cases c : b = p
  · rw [c, upd_same] at e
    rw [c, rm_ne np, upd_same]
    exact e
  · rw [upd_ne c] at e
    have h := D.s _ _ e
    have nb : b ≠ a := D.ne e
    rw [rm_ne nb] at h ⊢
    rw [upd_ne c]
    exact h
theorem Dr.pick (D : Dr a M H) (ho : DrawsO o) : Dr a M (upd H a o) := ⟨⟨o, upd_same, ho⟩, by rw [rm_upd]; exact D.s⟩
end
end Sr

set_option Elab.async false
set_option linter.all false
set_option maxRecDepth 100000
set_option maxHeartbeats 4000000
namespace K28
open PySem PySem.Spec PyProof.Rows L2 Sr LamX
def accs : List Str := ["ann", "bob", "the-till", "the-pool", "zz"]
def thgs : List Str := ["coin", "seat", "x"]
def rowTr (r : Rw) : Dt := rowTd r.1 r.2
def good (r : Rw) : Prop := r.1.1 ∈ accs ∧ r.1.2 ∈ thgs
theorem accs_ok : ∀ s ∈ accs, s.length ≤ 1000 ∧ accOk (.str s) = true := by decide +kernel
theorem thgs_ok : ∀ s ∈ thgs, s.length ≤ 1000 ∧ nameOk (.str s) = true := by decide +kernel
theorem good_small {r : Rw} (h : good r) : small r.1 := ⟨(accs_ok _ h.1).1, (thgs_ok _ h.2).1⟩
theorem row_is {H : Hp} {t : Addr} {r : Rw} (h : H t = some (.tup [.str r.1.1, .str r.1.2, .int r.2])) (g : good r) : Is H (.ref t) (rowTr r) :=
  .tup h (.cons (.str _ (good_small g).1) (.cons (.str _ (good_small g).2) (.cons (.int _) .nil))) (show (3 : Nat) ≤ 60 by decide)
def amounts : List V := [.int 0, .int 1, .int (-1), .int 5, .int (10 ^ 15 - 1), .int (1 - 10 ^ 15)]
def spSome : Sp := fun vs H Q _ => ∃ (a : Addr) (m : Nat), vs = [.ref a, .int (m : Nat)] ∧ m ≤ 8 ∧ DrawsAt H a ∧ ∀ (l : Addr) (H' : Hp) (rs : List Rw), DrawsAt H' a → Same (rm H a) (rm H' a) → Is (rm H' a) (.ref l) (.lst (rs.map rowTr)) → rs.length ≤ m → (∀ r ∈ rs, good r) → Q (.ref l) H'
theorem snd_rm {H : Hp} {a f : Addr} {o : HO} : rm (rm (upd H f o) a) f = rm (rm H a) f := by
  funext b
  by_cases c : b = f
  · rw [c, rm_at, rm_at]
  · rw [rm_ne c, rm_ne c]
    by_cases c2 : b = a
    · rw [c2, rm_at, rm_at]
    · rw [rm_ne c2, rm_ne c2, upd_ne c]
section
variable {P : Program} {w : World} {K : PySem.W.Frag} {mg : Str → Option Value} {base : Heap}
abbrev s__law_some_rows : Stmt := top 40
theorem sc__law_some_rows : FnScope ["draws", "many", "found", "k", "accounts", "things", "amount"] ["draws", "many"] (defScope s__law_some_rows) := ⟨rfl, rfl, rfl, by decide +kernel, rfl, by decide +kernel, by decide +kernel⟩
theorem c__law_some_rows (T : Txt K mg) (D : Dfn K mg "_law_some_rows" s__law_some_rows) (C_law_draw : Cal P w K mg base 1 "_law_draw" ["draws", "many"] spDraw) (C_law_pick : Cal P w K mg base 2 "_law_pick" ["draws", "xs"] (spPick K)) :
    Cal P w K mg base 3 "_law_some_rows" ["draws", "many"] spSome := by
  refine D.cal sc__law_some_rows (fun _ _ _ _ _ _ us hl => match us, hl with | [_, _], _ => rfl) (fun vs H Q E h => ?_) fun cdv A outer s H vs Q E hr h => ?_
  · obtain ⟨a, m, rfl, _⟩ := h
    rfl
  obtain ⟨a, many, rfl, hmany, hd, q⟩ := h
  refine ⟨_, (pss_cons (ps_par (i := 4) (j := 5) (by rfl) sc__law_some_rows.nd rfl rfl (by decide) rfl rfl (pa_cons (pe_lst (pa_cons pe_str (pa_cons pe_str (pa_cons pe_str (pa_cons pe_str (pa_cons pe_str pa_nil)))))) (pa_cons (pe_lst (pa_cons pe_str (pa_cons pe_str (pa_cons pe_str pa_nil)))) pa_nil)) (by rfl))
      (pss_cons (ps_set (i := 2) sc__law_some_rows.nd rfl (by first | exact Or.inl rfl | exact Or.inr rfl) (pe_lst pa_nil))
      (pss_cons (ps_for PassesOwn.never rfl (pi_range1 (by rfl) T.range (pa_cons (pe_cal C_law_draw hr (by first | decide | omega) (by rfl) (pa_cons (pv 0) (pa_cons (pe_op op_add (pv 1) pe_int) pa_nil))) pa_nil)) (pg_name (i := 3) sc__law_some_rows.nd rfl (by first | exact Or.inl rfl | exact Or.inr rfl))
      (pss_cons (ps_set (i := 6) sc__law_some_rows.nd rfl (by first | exact Or.inl rfl | exact Or.inr rfl) (pe_cal C_law_pick hr (by first | decide | omega) (by rfl) (pa_cons (pv 0) (pa_cons (pe_lst (pa_cons pe_int (pa_cons pe_int (pa_cons (pe_un un_neg pe_int) (pa_cons pe_int (pa_cons (pe_op op_sub (pe_op op_pow pe_int pe_int) pe_int) (pa_cons (pe_op op_sub pe_int (pe_op op_pow pe_int pe_int)) pa_nil))))))) pa_nil))))
      (pss_one (ps_expr (pe_bm PySem.F.plainAttrs_list PySem.F.slot_list_append PySem.F.type_list_append mt_append (pv 2) (pa_cons (pe_tup (pa_cons (pe_cal C_law_pick hr (by first | decide | omega) (by rfl) (pa_cons (pv 0) (pa_cons (pv 4) pa_nil))) (pa_cons (pe_cal C_law_pick hr (by first | decide | omega) (by rfl) (pa_cons (pv 0) (pa_cons (pv 5) pa_nil))) (pa_cons (pv 6) pa_nil)))) pa_nil))))))
      (pss_one (ps_ret (pv 2)))))), ?_⟩
  refine ⟨lineN, fun pa hpa => ⟨lineN, fun pt hpt => ⟨_, _, rfl, lineN, fun f hf => ?_⟩⟩⟩
  have s1 := (Same.up (o := .lst (accs.map V.str)) hpa).trans (Same.up (o := .lst (thgs.map V.str)) hpt)
  have s2 := s1.trans (Same.up (o := .lst []) hf)
  have npa : pa ≠ a := fun z => hd.some (by rw [← z]; exact hpa)
  have npt : pt ≠ a := fun z => (hd.up (Same.up hpa)).some (by rw [← z]; exact hpt)
  have nfa : f ≠ a := fun z => (hd.up s1).some (by rw [← z]; exact hf)
  have Hf : H f = none := s1.free hf
  have nfp : f ≠ pa := fun z => by
    have h := Same.up (o := .lst (thgs.map V.str)) hpt pa (.lst (accs.map V.str)) upd_same
    have hf' : (upd (upd H pa (.lst (accs.map V.str))) pt (.lst (thgs.map V.str))) f = none := hf
    rw [z] at hf'
    exact absurd (h.symm.trans hf') (by simp)
  have nft : f ≠ pt := fun z => by
    have hf' : (upd (upd H pa (.lst (accs.map V.str))) pt (.lst (thgs.map V.str))) f = none := hf
    rw [z, upd_same] at hf'
    cases hf'
  refine ⟨_, rfl, _, rfl, _, _, rfl, rfl, a, _, rfl, hd.up s2, by omega, by omega, fun r o r0 r1 ho => ⟨_, rfl, by omega, by omega, ?_⟩⟩
  refine for_range (fun i σ H' => (∃ k u, σ = [some (.ref a), some (.int (many : Nat)), some (.ref f), k, some (.ref pa), some (.ref pt), u]) ∧ DrawsAt H' a ∧ Same (rm H a) (rm H' a) ∧ H' pa = some (.lst (accs.map V.str)) ∧ H' pt = some (.lst (thgs.map V.str)) ∧
    ∃ (xs : List V) (rs : List Rw), H' f = some (.lst xs) ∧ IsA (rm (rm H' a) f) xs (rs.map rowTr) ∧ rs.length = i ∧ ∀ r ∈ rs, good r) ⟨⟨_, _, rfl⟩, ?_, ?_, ?_, ?_, ?_⟩ ?_ ?_
  · exact ⟨o, upd_same, ho⟩
  · rw [rm_upd]
    exact Same.rm s2
  · rw [upd_ne npa]
    exact Same.up hf _ _ (Same.up hpt _ _ upd_same)
  · rw [upd_ne npt]
    exact Same.up hf _ _ upd_same
  · exact ⟨[], [], by rw [upd_ne nfa]; exact upd_same, .nil, rfl, fun r m => by cases m⟩
  · rintro i σ H1 hi ⟨⟨k, u, rfl⟩, hd1, sr, ha1, ht1, xs, rs, hf1, ia, hl, hg⟩
    refine ⟨_, rfl, _, rfl, _, _, rfl, rfl, ⟨by decide, by decide, by decide⟩, _, _, rfl, rfl, _, _, rfl, rfl, ⟨by decide, by decide, by decide⟩, _, _, rfl, rfl, lineN, fun p hp => ⟨a, p, _, rfl, hd1.up (Same.up hp), fun z => hd1.some (by rw [← z]; exact hp), .inl (SqL.of upd_same), by simp, by simp, fun j v o1 hv ho1 => ?_⟩⟩
    obtain ⟨n, rfl⟩ : ∃ n, v = .int n := by
      have m := List.mem_of_getElem? hv
      simp only [List.mem_cons, List.not_mem_nil, or_false] at m
      rcases m with rfl | rfl | rfl | rfl | rfl | rfl <;> exact ⟨_, rfl⟩
    have sp := Same.up (o := .lst [.int 0, .int 1, .int (-1), .int 5, .int (10 ^ 15 - 1), .int (1 - 10 ^ 15)]) hp
    have fa : ∀ {b : Addr} {u : HO}, b ≠ a → H1 b = some u → ∀ o', (upd (upd H1 p o') a o1) b = some u := fun {b u} nb e o' => by
      rw [upd_ne nb, upd_ne (ne_of_none e hp)]
      exact e
    refine ⟨_, rfl, .inl ⟨rfl, _, SqL.of (fa nfa hf1 _)⟩, _, rfl, _, rfl, a, pa, _, rfl, ⟨o1, upd_same, ho1⟩, npa, .inl (SqL.of (fa npa ha1 _)), by decide, by decide, fun j2 v2 o2 hv2 ho2 => ?_⟩
    refine ⟨_, rfl, _, rfl, a, pt, _, rfl, ⟨o2, upd_same, ho2⟩, npt, .inl (SqL.of (by rw [upd_ne npt]; exact fa npt ht1 _)), by decide, by decide, fun j3 v3 o3 hv3 ho3 => ?_⟩
    rw [upd_upd, upd_upd]
    rw [List.getElem?_map] at hv2 hv3
    obtain ⟨s2', m2, rfl⟩ := Option.map_eq_some_iff.mp hv2
    obtain ⟨s3', m3, rfl⟩ := Option.map_eq_some_iff.mp hv3
    have fb : ∀ {b : Addr} {u : HO}, b ≠ a → H1 b = some u → ∀ o', (upd (upd H1 p o') a o3) b = some u := fun {b u} nb e o' => by
      rw [upd_ne nb, upd_ne (ne_of_none e hp)]
      exact e
    refine ⟨_, rfl, three_line, fun t ht => ⟨f, xs, _, rfl, rfl, Same.up ht _ _ (fb nfa hf1 _), ?_, ?_⟩⟩
    · have := ia.len
      rw [List.length_map] at this
      exact sz (m := 60) (by omega)
    have nta : a ≠ t := fun z => by rw [← z, upd_same] at ht; cases ht
    have ntf : f ≠ t := fun z => by rw [← z, fb nfa hf1] at ht; cases ht
    have st : ∀ {b : Addr} {u : HO}, b ≠ a → b ≠ f → H1 b = some u → (upd (upd (upd (upd H1 p (.lst [.int 0, .int 1, .int (-1), .int 5, .int (10 ^ 15 - 1), .int (1 - 10 ^ 15)])) a o3) t (.tup [.str s2', .str s3', .int n])) f (.lst (xs ++ [.ref t]))) b = some u := fun {b u} n1 n2 e => by
      rw [upd_ne n2]
      exact Same.up ht _ _ (fb n1 e _)
    have g : good ((s2', s3'), n) := ⟨List.mem_of_getElem? m2, List.mem_of_getElem? m3⟩
    refine ⟨⟨_, _, rfl⟩, ⟨o3, by rw [upd_ne nfa.symm, upd_ne nta, upd_same], ho3⟩, fun b u e => ?_, st npa nfp.symm ha1, st npt nft.symm ht1, _, rs ++ [((s2', s3'), n)], upd_same, ?_, by rw [List.length_append, hl]; rfl, ?_⟩
    · have nb : b ≠ a := fun z => by rw [z, rm_at] at e; cases e
      have nbf : b ≠ f := fun z => by rw [z, rm_free Hf] at e; cases e
      have e2 := sr _ _ e
      rw [rm_ne nb] at e2 ⊢
      exact st nb nbf e2
    · rw [List.map_append]
      refine IsA.app (ia.mono fun b u e => ?_) (.cons (row_is ?_ g) .nil)
      · have nbf : b ≠ f := fun z => by rw [z, rm_at] at e; cases e
        rw [rm_ne nbf] at e ⊢
        have nb : b ≠ a := fun z => by rw [z, rm_at] at e; cases e
        rw [rm_ne nb] at e ⊢
        exact st nb nbf e
      · rw [rm_ne ntf.symm, rm_ne nta.symm, upd_ne ntf.symm]
        exact upd_same
    · intro r m
      rcases List.mem_append.mp m with m | m
      · exact hg r m
      · rw [List.mem_singleton.mp m]
        exact g
  · rintro σ H1 ⟨⟨k, u, rfl⟩, hd1, sr, ha1, ht1, xs, rs, hf1, ia, hl, hg⟩
    have zl : xs.length ≤ 60 := by
      have := ia.len
      rw [List.length_map] at this
      omega
    exact ⟨_, rfl, q f H1 rs hd1 sr (.lst (by rw [rm_ne nfa]; exact hf1) (ia.mono rm_same) zl) (by omega) hg⟩
end
end K28

set_option Elab.async false
set_option linter.all false
set_option maxRecDepth 100000
set_option maxHeartbeats 4000000
namespace K28
open PySem PySem.Spec PyProof.Rows L2 Sr LamX
theorem row_tr {H : Hp} {v : V} {r : Rw} (h : Is H v (rowTr r)) : ∃ a, v = .ref a ∧ H a = some (.tup [.str r.1.1, .str r.1.2, .int r.2]) ∧ small r.1 := by
  cases h with
  | tup h ia z =>
    cases ia with
    | cons i1 t => cases t with
      | cons i2 t => cases t with
        | cons i3 t => cases t with
          | nil => cases i1 with
            | str s h1 => cases i2 with
              | str s2 h2 => cases i3 with
                | int i => exact ⟨_, rfl, h, h1, h2⟩
theorem rows_at {H : Hp} {v : V} {rs : List Rw} (h : Is H v (.lst (rs.map rowTr))) : ∃ a xs, v = .ref a ∧ H a = some (.lst xs) ∧ IsA H xs (rs.map rowTr) ∧ xs.length = rs.length ∧ rs.length ≤ 60 ∧ ∀ r ∈ rs, small r.1 := by
  cases h with
  | lst h ia z =>
    have hl := ia.len
    rw [List.length_map] at hl
    refine ⟨_, _, rfl, h, ia, hl, by omega, fun r m => ?_⟩
    obtain ⟨i, hi⟩ := List.mem_iff_getElem?.mp m
    have hi2 : i < _ := hl ▸ (List.getElem?_eq_some_iff.mp hi).1
    obtain ⟨d, e1, i1⟩ := ia.get (List.getElem?_eq_getElem hi2)
    rw [List.getElem?_map, hi] at e1
    obtain rfl : rowTr r = d := Option.some.inj e1
    obtain ⟨_, _, _, h⟩ := row_tr i1
    exact h
theorem rows_in {H : Hp} {v : V} {d : Dt} {rs : List Rw} (h : Is H v d) (e : seqOf d = some (rs.map rowTr)) : ∃ a xs o, v = .ref a ∧ H a = some o ∧ seqO xs o ∧ IsA H xs (rs.map rowTr) ∧ xs.length = rs.length ∧ rs.length ≤ 60 ∧ ∀ r ∈ rs, small r.1 := by
  obtain ⟨a, xs, o, rfl, ho, so, ia, z⟩ := h.seq e
  have hl := ia.len
  rw [List.length_map] at hl
  refine ⟨a, xs, o, rfl, ho, so, ia, hl, by omega, fun r m => ?_⟩
  obtain ⟨i, hi⟩ := List.mem_iff_getElem?.mp m
  have hi2 : i < _ := hl ▸ (List.getElem?_eq_some_iff.mp hi).1
  obtain ⟨d, e1, i1⟩ := ia.get (List.getElem?_eq_getElem hi2)
  rw [List.getElem?_map, hi] at e1
  obtain rfl : rowTr r = d := Option.some.inj e1
  obtain ⟨_, _, _, h⟩ := row_tr i1
  exact h
theorem row_get {H : Hp} {xs : List V} {rs : List Rw} {i : Nat} {x : V} (ia : IsA H xs (rs.map rowTr)) (hx : xs[i]? = some x) : ∃ r a, rs[i]? = some r ∧ x = .ref a ∧ H a = some (.tup [.str r.1.1, .str r.1.2, .int r.2]) := by
  obtain ⟨d, e1, i1⟩ := ia.get hx
  rw [List.getElem?_map] at e1
  obtain ⟨r, hr, rfl⟩ := Option.map_eq_some_iff.mp e1
  obtain ⟨a, e, h, _⟩ := row_tr i1
  exact ⟨r, a, hr, e, h⟩
def tk (kvs : List (List Key × V)) : List (List Key × V) := (kept kvs).map fun p => (pk p, V.int (amt kvs p))
theorem tk_keys (kvs : List (List Key × V)) : (tk kvs).map (·.1) = (kept kvs).map pk := by
  unfold tk
  rw [List.map_map]
  rfl
theorem tk_nodup {kvs : List (List Key × V)} (h : Ints isPk kvs) : ((tk kvs).map (·.1)).Nodup := by
  rw [tk_keys]
  exact List.pairwise_map.mpr (List.Pairwise.imp (fun {a b} ne e => ne (pk_inj e)) (kept_nodup h))
theorem sumT_ints {rs : List Rw} (h : ∀ r ∈ rs, small r.1) : Ints isPk (sumT rs) := sums_ints _ _ _ _ Ints.nil fun r m => ⟨r.1, rfl, h r m⟩
def isStrKey' (k : Key) : Prop := ∃ s : Str, k = Sum.inr s
theorem sumS_ints (rs : List Rw) : Ints isStrKey (sumS rs) := sums_ints _ _ _ _ Ints.nil fun r m => ⟨_, rfl⟩
theorem sumT_snoc {rs : List Rw} {i : Nat} {r : Rw} (h : rs[i]? = some r) : sumT (rs.take (i + 1)) = bump (sumT (rs.take i)) (pk r.1) r.2 := by
  rw [show rs.take (i + 1) = rs.take i ++ [r] by rw [List.take_add_one, h]; rfl]
  unfold sumT
  rw [sums_snoc]
theorem sumS_snoc {rs : List Rw} {i : Nat} {r : Rw} (h : rs[i]? = some r) : sumS (rs.take (i + 1)) = bump (sumS (rs.take i)) (Sum.inr r.1.2) r.2 := by
  rw [show rs.take (i + 1) = rs.take i ++ [r] by rw [List.take_add_one, h]; rfl]
  unfold sumS
  rw [sums_snoc]
theorem small_take {rs : List Rw} {i : Nat} (h : ∀ r ∈ rs, small r.1) : ∀ r ∈ rs.take i, small r.1 := fun r m => h r (List.mem_of_mem_take m)
theorem take_len {α : Type} (rs : List α) (i : Nat) : (rs.take i).length ≤ rs.length := by rw [List.length_take]; omega
theorem pairs_tk {K : PySem.W.Frag} {H : Hp} {f : Str × Str → Int} : ∀ {acc : List V} {ks : List (Str × Str)}, Paired (fun y k => ∃ t q, y = V.ref t ∧ H t = some (.tup [.ref q, .int (f k)]) ∧ H q = some (.tup [.str k.1, .str k.2])) acc ks →
    ∃ ts : List Addr, acc = ts.map V.ref ∧ Paired (fun t kv => ∃ q, SqT K H t [.ref q, kv.2] ∧ H q = some (.tup (kv.1.map kV))) ts (ks.map fun p => (pk p, V.int (f p)))
  | _, _, .nil => ⟨[], rfl, .nil⟩
  | _, _, .cons ⟨t, q, e, h1, h2⟩ r => by
    obtain ⟨ts, e1, p1⟩ := pairs_tk r
    exact ⟨t :: ts, by rw [e, e1]; rfl, .cons ⟨q, SqT.of h1, h2⟩ p1⟩
def spSums : Sp := fun vs H Q _ => ∃ (v : V) (d : Dt) (rs : List Rw), vs = [v] ∧ Is H v d ∧ seqOf d = some (rs.map rowTr) ∧ ∀ H' p, Same H H' → H p = none → H' p = some (.dT (tk (sumT rs))) → Q (.ref p) H'
section
variable {P : Program} {w : World} {K : PySem.W.Frag} {mg : Str → Option Value} {base : Heap}
abbrev s__law_sums : Stmt := top 41
theorem sc__law_sums : FnScope ["rows", "found", "account", "thing", "amount", "key"] ["rows"] (defScope s__law_sums) := ⟨rfl, rfl, rfl, by decide +kernel, rfl, by decide +kernel, by decide +kernel⟩
theorem c__law_sums (T : Txt K mg) (D : Dfn K mg "_law_sums" s__law_sums) : Cal P w K mg base 1 "_law_sums" ["rows"] spSums := by
  refine D.cal sc__law_sums (fun _ _ _ _ _ _ us hl => match us, hl with | [_], _ => rfl) (fun vs H Q E h => ?_) fun cdv A outer s H vs Q E hr h => ?_
  · obtain ⟨v, d, rs, rfl, _⟩ := h
    rfl
  obtain ⟨v, d, rs, rfl, hv, hsd, q⟩ := h
  obtain ⟨a, xs, o, rfl, hv, so, rv, hl, zl, sm⟩ := rows_in hv hsd
  obtain ⟨J, wJ, put⟩ := seq_walk (K := K) (a := a) so
  refine ⟨_, (pss_cons (ps_set (i := 1) sc__law_sums.nd rfl (by first | exact Or.inl rfl | exact Or.inr rfl) pe_dnewT)
      (pss_cons (ps_for PassesOwn.never rfl (pi_seq (pv 0)) (pg_tup rfl (pgs_cons (pg_name (i := 2) sc__law_sums.nd rfl (by first | exact Or.inl rfl | exact Or.inr rfl)) (pgs_cons (pg_name (i := 3) sc__law_sums.nd rfl (by first | exact Or.inl rfl | exact Or.inr rfl)) (pgs_cons (pg_name (i := 4) sc__law_sums.nd rfl (by first | exact Or.inl rfl | exact Or.inr rfl)) pgs_nil))))
      (pss_one (ps_dput (hu_of hr) (pv 1) (pe_tup (pa_cons (pv 2) (pa_cons (pv 3) pa_nil))) (pe_op op_add (pe_dget2 (hu_of hr) (pv 1) (pe_tup (pa_cons (pv 2) (pa_cons (pv 3) pa_nil))) pe_int ⟨rfl, by rfl, rfl, rfl⟩) (pv 4)) rfl)))
      (pss_one (ps_ret (pe_callTy (T := "dict") (call_dictPT rfl hr.units) (by rfl) T.dict (by decide +kernel) (pa_cons (pe_lc (own := [("key", 5)]) (g := gName 5) rfl sc__law_sums.nd (pi_list (pe_callB (id := "sorted") (call_sortedDT rfl hr.units) (by rfl) T.sorted (by decide +kernel) (pa_cons (pv 1) pa_nil))) (blkOk_by (N := ["rows", "found", "account", "thing", "amount", "key"]) (sc := defScope s__law_sums) (by decide +kernel)) (fun _ _ _ _ _ => (pg_name (i := 5) sc__law_sums.nd rfl (by first | exact Or.inl rfl | exact Or.inr rfl))) (fun _ _ _ _ _ => (pts_one (pt_cmpR op_ne (pe_dget (hu_of hr) (pv 1) (pv 5) (fun _ _ => rfl)) pe_int (nomark _)))) (fun _ _ _ _ _ => (pe_tup (pa_cons (pv 5) (pa_cons (pe_dget (hu_of hr) (pv 1) (pv 5) (fun _ _ => rfl)) pa_nil))))) pa_nil)))))), ?_⟩
  intro S hS
  have sS : Same H _ := Same.up (o := .dT []) hS
  refine ⟨_, rfl, a, rfl, put _ _ (sS _ _ hv) (for_it wJ (fun i σ H' => (∃ u v w x, σ = [some (.ref a), some (.ref S), u, v, w, x]) ∧ Same H H' ∧ H' S = some (.dT (sumT (rs.take i)))) ⟨⟨_, _, _, _, rfl⟩, sS, by simp [sumT, sums, upd_same]⟩ (fun i σ H' hi p => p.2.1 _ _ hv) ?_ ?_)⟩
  · rintro i x σ H2 H3 hi ⟨⟨u1, v1, w1, x1, rfl⟩, s2, hd⟩ ⟨rfl, hx⟩
    obtain ⟨r, b, hr2, rfl, hb3⟩ := row_get (rv.mono s2) hx
    have I0 := sumT_ints (small_take (i := i) sm)
    refine ⟨b, _, rfl, SqT.of hb3, rfl, _, _, rfl, _, _, rfl, _, _, rfl, rfl, ?_⟩
    refine ⟨_, rfl, S, rfl, .inr ⟨_, .inl hd⟩, _, rfl, _, rfl, two_line, fun p hp => ⟨_, DGet.t (k := pk r.1) ((Same.up hp) _ _ hd) upd_same, _, rfl, ?_⟩⟩
    rw [I0.get]
    refine ⟨_, _, rfl, rfl, _, rfl, _, rfl, _, rfl, two_line, fun p2 hp2 => ?_⟩
    have s4 := (Same.up (o := .tup [.str r.1.1, .str r.1.2]) hp).trans (Same.up (o := .tup [.str r.1.1, .str r.1.2]) hp2)
    refine ⟨S, _, rfl, DPut.t (k := pk r.1) (s4 _ _ hd) upd_same (sz (m := 60) ?_), ⟨_, _, _, _, rfl⟩, Same.set (s2.trans s4) hS, ?_⟩
    · have := sumT_len (rs.take i)
      have := take_len rs i
      omega
    · rw [upd_same, sumT_snoc hr2]
      rfl
  · rintro σ H2 ⟨⟨u1, v1, w1, x1, rfl⟩, s2, hd⟩
    have hd : H2 S = some (.dT (sumT rs)) := by rw [hd, hl, List.take_length]
    have I0 := sumT_ints sm
    have kl : (keysOf (sumT rs)).length ≤ 60 := by
      have := sumT_len rs
      unfold keysOf
      rw [List.length_map]
      omega
    refine ⟨_, rfl, S, _, _, rfl, .inl hd, keysOf_eq I0, by omega, fun qs p hq hp => ?_⟩
    have sp := Same.up (o := .lst (qs.map V.ref)) hp
    have ql : qs.length = (pSort (keysOf (sumT rs))).length := Paired.length hq
    have kl2 : (pSort (keysOf (sumT rs))).length ≤ 60 := by rw [(pSort_perm _).length_eq]; exact kl
    refine ⟨p, rfl, ⟨_, SqL.of upd_same⟩, fun D hD => lc_gen walk_list walk_at (pSort (keysOf (sumT rs))) (fun k => decide (amt (sumT rs) k ≠ 0)) (by rw [List.length_map, ql]) (sz (m := 60) (by rw [List.length_map, ql]; exact kl2)) hD (fun H' s' => SqL.of (s' _ _ upd_same))
      (fun H' k y => ∃ t q, y = .ref t ∧ H' t = some (.tup [.ref q, .int (amt (sumT rs) k)]) ∧ H' q = some (.tup [.str k.1, .str k.2])) (fun _ _ _ _ e ⟨t, q, e1, e2, e3⟩ => ⟨t, q, e1, e _ _ e2, e _ _ e3⟩) (fun _ _ _ _ _ e ⟨t, q, e1, e2, e3⟩ => ⟨t, q, e1, by rw [upd_ne (ne_of e2 e (by intro z; cases z))]; exact e2, by rw [upd_ne (ne_of e3 e (by intro z; cases z))]; exact e3⟩) (fun i x k H3 A B hi hx hk s3 kA kB => ?_) (fun H3 acc s3 h3 pr => ?_)⟩
    · rw [List.getElem?_map] at hx
      obtain ⟨q, hq1, rfl⟩ := Option.map_eq_some_iff.mp hx
      have hk2 : k ∈ keysOf (sumT rs) := (pSort_perm _).mem_iff.mp (List.mem_of_getElem? hk)
      have hq2 : AtP H2 q k := Paired.at2 hq hq1 hk
      have s4 := sp.trans s3
      have v0 : valV (sumT rs) (pk k) = some (.int (amt (sumT rs) k)) := I0.at_ (by rw [keysOf_eq I0]; exact List.mem_map.mpr ⟨k, hk2, rfl⟩)
      refine ⟨rfl, ?_⟩
      refine ⟨_, rfl, _, rfl, S, _, rfl, v0 ▸ DGet.t (k := pk k) (s4 _ _ hd) (s4 _ _ hq2), rfl, _, rfl, ?_⟩
      have cc : (!decide (V.int (amt (sumT rs) k) = V.int 0)) = decide (amt (sumT rs) k ≠ 0) := by
        by_cases c : amt (sumT rs) k = 0 <;> simp [c]
      cases c : decide (amt (sumT rs) k ≠ 0) with
      | false =>
        rw [cc, c]
        exact iteF (kB c _ (Same.refl _))
      | true =>
        rw [cc, c]
        refine iteT ?_
        refine ⟨_, rfl, _, rfl, _, rfl, S, _, rfl, v0 ▸ DGet.t (k := pk k) (s4 _ _ hd) (s4 _ _ hq2), two_line, fun t3 ht3 => ?_⟩
        exact kA c _ _ (Same.up ht3) ⟨t3, q, rfl, upd_same, Same.up ht3 _ _ (s4 _ _ hq2)⟩
    · obtain ⟨ts, rfl, pts⟩ := pairs_tk (K := K) pr
      have sH := s2.trans (sp.trans s3)
      exact ⟨D, ts, _, rfl, SqL.of h3, pts, tk_nodup I0, fun p2 hp2 => q _ p2 (sH.trans (Same.up hp2)) (sH.free hp2) upd_same⟩
abbrev s__law_told : Stmt := top 42
theorem sc__law_told : FnScope ["rows", "sums", "key"] ["rows"] (defScope s__law_told) := ⟨rfl, rfl, rfl, by decide +kernel, rfl, by decide +kernel, by decide +kernel⟩
def spLTold : Sp := fun vs H Q _ => ∃ (v : V) (d : Dt) (rs : List Rw), vs = [v] ∧ Is H v d ∧ seqOf d = some (rs.map rowTr) ∧ ∀ H' p, Same H H' → H p = none → Is H' (.ref p) (.lst (toldOf (sumT rs))) → Q (.ref p) H'
theorem c__law_told (T : Txt K mg) (D : Dfn K mg "_law_told" s__law_told) (C_law_sums : Cal P w K mg base 1 "_law_sums" ["rows"] spSums) : Cal P w K mg base 2 "_law_told" ["rows"] spLTold := by
  refine D.cal sc__law_told (fun _ _ _ _ _ _ us hl => match us, hl with | [_], _ => rfl) (fun vs H Q E h => ?_) fun cdv A outer s H vs Q E hr h => ?_
  · obtain ⟨v, d, rs, rfl, _⟩ := h
    rfl
  obtain ⟨v, d, rs, rfl, hv, hsd, q⟩ := h
  have hv0 := hv
  obtain ⟨a, xs, o, rfl, hv, so, rv, hl, zl, sm⟩ := rows_in hv hsd
  refine ⟨_, (pss_cons (ps_set (i := 1) sc__law_told.nd rfl (by first | exact Or.inl rfl | exact Or.inr rfl) (pe_cal C_law_sums hr (by first | decide | omega) (by rfl) (pa_cons (pv 0) pa_nil)))
      (pss_one (ps_ret (pe_lock (pe_lc (own := [("key", 2)]) (g := gName 2) (tt := tYes) rfl sc__law_told.nd (pi_keys (pv 1)) (blkOk_by (N := ["rows", "sums", "key"]) (sc := defScope s__law_told) (by decide +kernel)) (fun _ _ _ _ _ => (pg_name (i := 2) sc__law_told.nd rfl (by first | exact Or.inl rfl | exact Or.inr rfl))) (fun _ _ _ _ _ => pts_nil) (fun _ _ _ _ _ => (pe_tup (pa_cons (pe_ix (ix_tupK K rfl) (pv 2) pe_int (fun _ _ => rfl)) (pa_cons (pe_ix (ix_tupK K rfl) (pv 2) pe_int (fun _ _ => rfl)) (pa_cons (pe_dget (hu_of hr) (pv 1) (pv 2) (fun _ _ => rfl)) pa_nil)))))))))), ?_⟩
  have I0 := sumT_ints sm
  have kl : (kept (sumT rs)).length ≤ 60 := by
    have h1 := kept_len (kvs := sumT rs)
    have h2 := sumT_len rs
    omega
  refine ⟨_, rfl, _, d, rs, rfl, hv0, hsd, fun H1 p s1 hp h1 => ?_⟩
  refine ⟨p, _, h1, trivial, fun od => ?_⟩
  refine ⟨_, rfl, p, od, rfl, .inr ⟨_, upd_same, fun D hD => lc_gen walk_keysT (At := fun i H x => ∃ k v q, (tk (sumT rs))[i]? = some (k, v) ∧ x = .ref q ∧ H q = some (.tup (k.map kV))) (fun i H x H' y => y) (kept (sumT rs)) (fun _ => true) (by unfold tk; rw [List.length_map]) (sz (m := 60) (by unfold tk; rw [List.length_map]; exact kl)) hD (fun H' s' => s' _ _ upd_same)
    (fun H' k y => ∃ q, y = .ref q ∧ H' q = some (.tup [.str k.1, .str k.2, .int (amt (sumT rs) k)])) (fun _ _ _ _ e ⟨q, e1, e2⟩ => ⟨q, e1, e _ _ e2⟩) (fun _ _ _ _ _ e ⟨q, e1, e2⟩ => ⟨q, e1, by rw [upd_ne (ne_of e2 e (by intro z; cases z))]; exact e2⟩) (fun i x k H3 A B hi hx hk s3 kA kB => ?_) (fun H3 acc s3 h3 pr => ?_)⟩⟩
  · obtain ⟨kk, v, t, e1, rfl, ht⟩ := hx
    have e2 : (tk (sumT rs))[i]? = some (pk k, V.int (amt (sumT rs) k)) := by unfold tk; rw [List.getElem?_map, hk]; rfl
    rw [e2] at e1
    obtain ⟨rfl, rfl⟩ := Prod.mk.inj (Option.some.inj e1)
    have v0 : valV (tk (sumT rs)) (pk k) = some (.int (amt (sumT rs) k)) := val_of (tk_nodup I0) (List.mem_of_getElem? e2)
    have ht : H3 t = some (.tup [.str k.1, .str k.2]) := ht
    refine ⟨rfl, ?_⟩
    unfold tYes
    simp only [if_true]
    refine ⟨_, rfl, t, _, _, _, rfl, rfl, SqT.of ht, rfl, _, rfl, t, _, _, _, rfl, rfl, SqT.of ht, rfl, _, rfl, _, rfl, p, _, rfl, .inr ⟨_, pk k, t, .inr ⟨od, s3 _ _ upd_same⟩, rfl, ht, v0.symm⟩, three_line, fun t3 ht3 => ?_⟩
    exact kA rfl _ _ (Same.up ht3) ⟨t3, rfl, upd_same⟩
  · have nD : D ≠ p := fun z => by rw [z, upd_same] at hD; cases hD
    have fz : (kept (sumT rs)).filter (fun _ => true) = kept (sumT rs) := List.filter_eq_self.mpr fun _ _ => rfl
    rw [fz] at pr
    have al : acc.length ≤ 60 := by rw [Paired.length pr]; exact kl
    have sR : Same H (upd H3 p (.dT (tk (sumT rs)))) := fun b o e => by
      have e1 := s1 _ _ e
      have nb : b ≠ p := fun z => by rw [z, hp] at e; cases e
      rw [upd_ne nb]
      refine s3 _ _ ?_
      rw [upd_ne nb]
      exact e1
    refine ⟨s3 _ _ upd_same, q _ D sR ?_ (.lst (by rw [upd_ne nD]; exact h3) (IsA.keep (thaw (s3 _ _ upd_same)) (isA_told pr fun k m => keysOf_small I0 k (kept_mem m))) al)⟩
    · have h := hD
      rw [upd_ne nD] at h
      exact s1.free h
end
end K28

set_option Elab.async false
set_option linter.all false
set_option maxRecDepth 100000
set_option maxHeartbeats 4000000
namespace Sr
open PySem PySem.Spec PyProof.Rows L2
/-! ### dict comprehensions whose keys are tuples -/
/-- one entry, under a tuple's key -/
theorem put_dT {X : Cx} {pins : List (Addr × Obj)} {σ : L2.St} {H : Hp} {s : Shared} {E : Value → Shared → Prop} {D b : Addr} {kvs : List (List Key × V)} {k : List Key} {v : V} {r : Value} {Q : Unit → Shared → Prop} (hu : X.A.units + 1 < cLine)
    (I : L2.Inv X pins σ H s) (hD : H D = some (.dT kvs)) (hz : kvs.length < sizeLine) (eb : H b = some (.tup (k.map kV))) (rv : L2.RelV v r) (h : ∀ s', L2.Inv X pins σ (upd H D (.dT (putK kvs k v))) s' → Q () s') :
    wpAny (model X.prog X.w) X.A (dictSet D (.ref b) r) Q E s := by
  obtain ⟨z, hd, xs, rel, dd⟩ := dt_of I.hok hD
  have room : (tupleKind (mixKind X.prog X.w)).room X.A := show X.A.units < cLine by omega
  refine wpAny_dictSet_heap (hsz := (Paired.length rel) ▸ z) room (key_of I.hok eb) dd fun h' dd' same => h _ ?_
  obtain ⟨q, es, ep, hq, a2, a3, a4, _, a5⟩ := dd'
  have kept : KT (upd H D (.dT (putK kvs k v))) (putK kvs k v) (storedH xs k b r) := (rel.put k eb rv).keeps fun c ys ec => (upd_ne (ne_of ec hD (by intro z; cases z))).trans ec
  have small : (putK kvs k v).length ≤ sizeLine := Nat.le_trans (length_putK kvs k v) hz
  exact d_write I (by rw [hD]; trivial) same ⟨q, hq⟩ ⟨small, hd, _, kept, q, es, ep, hq, a2, a3, a4, a5⟩
/-- what one entry asks: a tuple as key, the dict as it stands, then on -/
def PutT (D : Addr) (y z : V) (H : Hp) (Nx : Hp → Prop) : Prop := ∃ kvs k b, y = .ref b ∧ H D = some (.dT kvs) ∧ H b = some (.tup (k.map kV)) ∧ kvs.length < sizeLine ∧ Nx (upd H D (.dT (putK kvs k z)))
/-- a walk's turns, each an entry or none -/
def DcW (J : It) (g : TG) (tt : TT) (tk tv : TE) (σ0 : L2.St) (vs : List Nat) (D : Addr) (q : Hp → Prop) (W : Nat → Nat → Hp → Prop) : Prop := ∀ i m H, W i m H →
  (J.stop i H ∧ q H) ∨ (J.go i H ∧ ∃ Nx : Hp → Prop, (∀ H', Nx H' → ∃ m', m' < m ∧ W (i + 1) m' H') ∧ ∀ x H', J.yld i H x H' → g x σ0 H' fun σ2 H2 => wipe σ2 vs = σ0 ∧ tt σ2 H2 fun b H3 =>
    if b = true then tk σ2 H3 fun y H4 => tv σ2 H4 fun z H5 => PutT D y z H5 Nx else Nx H3)
section
variable {B : Cx} {kx vx tg iter : Expr} {ifs : List Expr} {scope : Scope} {pos : Pos} {g : TG} {tt : TT} {tk tv : TE} {J : It} {fp : List Addr} {it D : Addr} {tn : Nat → Heap → Prop} {R : Result → Shared → Prop} {σ : L2.St} {vs : List Nat} {q : Hp → Prop} {W : Nat → Nat → Hp → Prop}
/-- the loop of the block B -/
theorem dcT_loop (hu : B.A.units + 1 < cLine) (hc : B.calm = true) (hx : B.xe = fun _ _ => False) (T : Turn B.prog B.w B.K tg J fp it tn) (pg : PG B tg g) (pt : PTs B ifs tt) (pk : PE B kx tk) (pv : PE B vx tv)
    (own : ∀ {σ' : L2.St} {H' : Hp} {s' : Shared}, L2.Inv B [] σ' H' s' → (∀ b ∈ fp, H' b = none) → ∀ b ∈ fp, FpOk B [] H' b) (w : DcW J g tt tk tv (wipe σ vs) vs D q W)
    (fin : ∀ s' H', L2.Inv B [] (wipe σ vs) H' s' → q H' → R (.ok .next) s') {m0 : Nat} {H0 : Hp} {s0 : Shared} (I0 : L2.Inv B [] (wipe σ vs) H0 s0) (t0 : tn 0 s0.heap) (n0 : ∀ b ∈ fp, H0 b = none) (w0 : W 0 m0 H0) :
    codeAny (model B.prog B.w) B.A (.compLoop (.DictComp kx vx [⟨tg, iter, ifs, 0⟩] scope pos) 0 (.ref it) (.ref D) B.env) R s0 := by
  let St (m : Nat) (s : Shared) : Prop := ∃ i H, L2.Inv B [] (wipe σ vs) H s ∧ tn i s.heap ∧ (∀ b ∈ fp, H b = none) ∧ W i m H
  refine compLoop_anyD St (fun m s hs => ?_) m0 ⟨0, H0, I0, t0, n0, w0⟩
  obtain ⟨i, H, I, t, n, wi⟩ := hs
  rcases w i m H wi with ⟨stop, hq⟩ | ⟨go, Nx, less, step⟩
  · refine thnF (T.done B rfl rfl rfl hc i [] s _ H (fun _ _ => False) I (own I n) t stop) ?_
    rintro _ s1 ⟨rfl, I1⟩
    exact fin s1 H I1 hq
  refine thnF (T.item B rfl rfl rfl hc i [] s _ H (fun _ _ => False) I (own I n) t go) ?_
  rintro _ s1 ⟨u, rfl, z1⟩
  refine thnF z1 ?_
  rintro _ s2 ⟨x, H2, I2, ru, y2, t2, n2⟩
  have live := T.obj _ _ t2
  have P2 := I2.pinned (own I2 n2) live
  have pgr := pg.run _ s2 _ H2 x u _ P2 ru (step x H2 y2)
  rw [hx] at pgr
  refine thnF pgr ?_
  rintro _ s3 ⟨σ3, H3, I3, back, z3⟩
  have ptr := pt.run _ s3 σ3 H3 _ I3 z3
  rw [hx] at ptr
  refine thnF ptr ?_
  rintro b s4 ⟨H4, I4, z4⟩
  -- the next turn begins
  have next : ∀ {s' : Shared} {H' : Hp}, L2.Inv B ([] ++ pinsAt fp s2.heap) σ3 H' s' → Nx H' → ∃ k, k < m ∧ St k s' := by
    intro s' H' I' nx
    obtain ⟨k, hk, wk⟩ := less H' nx
    have still : ∀ c ∈ fp, ∀ o, s2.heap.get? c = some o → s'.heap.get? c = some o ∧ H' c = none := fun c hc' o e =>
      have z := I'.pin (c, o) (List.mem_append_right _ (List.mem_append_right _ (mem_pinsAt hc' e)))
      ⟨z.1, z.2.1⟩
    refine ⟨k, hk, i + 1, H', ?_, T.keep _ _ _ t2 fun c hc' o e => (still c hc' o e).1, fun c hc' => ?_, wk⟩
    · refine (I'.unpinned (pins := [])).weak (by rw [← back, wipe_length]) fun j v e => ?_
      rw [← back] at e
      exact (wipe_some e).1
    · obtain ⟨o, e, _⟩ := live c hc'
      exact (still c hc' o e).2
  cases b with
  | false => exact next I4 z4
  | true =>
    have pkr := pk.run _ s4 σ3 H4 _ I4 z4
    rw [hx] at pkr
    refine thnF pkr ?_
    rintro _ s5 ⟨yk, H5, I5, rk, z5⟩
    have pvr := pv.run _ s5 σ3 H5 _ I5 z5
    rw [hx] at pvr
    refine thnF pvr ?_
    rintro _ s6 ⟨yv, H6, I6, rv, kvs, k, c, rfl, hD, hb, hz, nx⟩
    cases rk
    exact put_dT hu I6 hD hz hb rv fun s7 I7 => next I7 nx
end
section
variable {X : Cx}
/-- {k: v for target in iter if ..} with tuples as keys: D the new dict -/
def tDcT (wi : TI) (g : TG) (tt : TT) (tk tv : TE) (vs : List Nat) : TE := fun σ H Q => wi σ H fun J H1 => ∀ D, H1 D = none → ∃ W : Nat → Nat → Hp → Prop, (∃ m, W 0 m (upd H1 D (.dT []))) ∧ DcW J g tt tk tv (wipe σ vs) vs D (Q (.ref D)) W
abbrev Blk (X : Cx) (scope : Scope) {α : Type} (F : Cx → α → Prop) (a : α) : Prop := ∀ (s : Shared) (H : Hp) (C : Addr) (cl : List (Str × Addr)) (fp : List Addr), F (X.blk s H scope (compEnvC scope cl C X.env) fp) a
theorem pe_dcT {kx vx tg iter : Expr} {ifs : List Expr} {scope : Scope} {own : List (Str × Nat)} {pos : Pos} {wi : TI} {g : TG} {tt : TT} {tk tv : TE} (hu : X.A.units + 1 < cLine) (hc : X.calm = true) (hN : X.N.Nodup) (hi : PI X tg iter wi) (ok : BlkOk X.N X.env.scope scope own)
    (hg : Blk X scope (fun B => PG B tg) g) (ht : Blk X scope (fun B => PTs B ifs) tt) (hk : Blk X scope (fun B => PE B kx) tk) (hv : Blk X scope (fun B => PE B vx) tv) (hs : ∀ x, foldedSetIterable iter X.env x = pure x := by intro _; rfl) :
    PE X (.DictComp kx vx [⟨tg, iter, ifs, 0⟩] scope pos) (tDcT wi g tt tk tv (own.map (·.2))) := by
  refine ⟨fun pins s σ H Q I h => ?_⟩
  have cells : ∀ y ∈ scope.names, y.2 = .free → ∃ c, X.env.cells.lookup y.1 = some c := fun y hy e => I.ok.has _ (.imp id id (ok.free y hy e))
  rw [arm_eval_DictComp]
  refine wpAny_comprehension_free (use := none) rfl hs (closure_ok cells) ok.kind (fun y hy e => (ok.uniq y hy).trans (congrArg some e)) (thn (hi.run pins s σ H _ I h) fun xv s1 h1 => thn h1 ?_)
  rintro _ s2 ⟨it, fp, tn, J, H2, rfl, I2, T, t2, f2, q⟩
  refine wpAny_newObj_type (newEnv_comp ?_)
  have nD : H2 s2.heap.objs.size = none := I2.hok.fresh (Nat.le_refl _)
  obtain ⟨W, ⟨m0, w0⟩, w⟩ := q _ nD
  -- with the new dict
  have I3 : L2.Inv X pins σ (upd H2 s2.heap.objs.size (.dT [])) { s2 with heap := s2.heap.push { cls := .type "dict", data := .dict #[] } } := I2.laid (t' := s2.toks) (fun b o e => Heap.get?_push_of_some _ e) (Nat.le_refl _) (dt_empty s2.heap I2.big)
  have low : ∀ b ∈ fp, b < s2.heap.objs.size := fun b hb => (T.obj _ _ t2 b hb).elim fun o e => Heap.lt_size e.1
  have f3 : ∀ b ∈ fp, FpOk X pins (upd H2 s2.heap.objs.size (.dT [])) b ∧ b < (s2.heap.push { cls := .type "dict", data := .dict #[] }).objs.size := fun b hb =>
    ⟨⟨(upd_ne (Nat.ne_of_lt (low b hb))).trans (f2 b hb).1, (f2 b hb).2⟩, by rw [Heap.size_push]; exact Nat.lt_succ_of_lt (low b hb)⟩
  have I4 := block_start I3 ok hN f3
  have t4 : tn 0 (pushCells ((s2.heap.push { cls := .type "dict", data := .dict #[] }).push { cls := .type "dict", data := .dict #[] }) scope.names) :=
    T.keep _ _ _ t2 fun b _ o e => pushCells_keeps _ _ _ _ (Heap.get?_push_of_some _ (Heap.get?_push_of_some _ e))
  refine codeAny_compStart_dict ?_ (T.self X.A 0 _ _ _ t4 ?_) <;>
  · refine dcT_loop (B := X.blk _ _ scope _ fp) hu hc rfl T (hg _ _ _ _ _) (ht _ _ _ _ _) (hk _ _ _ _ _) (hv _ _ _ _ _) (fun {σ' H' s'} I' n b hb => ?_) w (fun s' H' I' hq => ?_) I4 t4 (fun b hb => (f3 b hb).1.1) w0
    · exact ⟨n b hb, (I'.ok.exf b hb).1, I'.ok.exfs b hb, .inl hb, (I'.ok.exf b hb).2, fun p hp => nomatch hp⟩
    · -- back in the def
      obtain ⟨m, hm, _⟩ := I'.loc
      have gone := I'.free
      have I5 : L2.Inv X pins σ H' s' := I3.call' (ch := fp) I'.os I'.base I'.hok I'.bare fun b hb => have f := (f3 b hb).1; ⟨f.2.2.2.1, f.2.1, f.2.2.2.2.1, f.2.2.2.2.2⟩
      have f5 : FpOk X pins H' (s2.heap.push { cls := .type "dict", data := .dict #[] }).objs.size := I3.fpOk (Nat.le_refl _) gone
      exact ⟨m, hm, fun h'' sb => ⟨.ref s2.heap.objs.size, H', I5.turned (t' := s'.toks) (fun b o hb e => (sb.2 b hb).trans e) f5.1 f5.2.1 f5.2.2.2.1 f5.2.2.2.2.1 f5.2.2.2.2.2, rfl, hq⟩⟩
end
/-- all entries of a walk that changes nothing else, keys all unlike -/
theorem dcT_pure {J : It} {n : Nat} {G : Hp → Prop} {Y : Nat → Hp → V → Hp → Prop} {At : Nat → V → Prop} (w : Walk J n G Y) (hy : ∀ i H x H', Y i H x H' → H' = H ∧ At i x) {g : TG} {tk tv : TE} {σ0 : L2.St} {vs : List Nat} {H : Hp} {D : Addr} {q : Hp → Prop}
    (kvs : List (List Key × V)) (hn : kvs.length = n) (hz : n < sizeLine) (nd : (kvs.map (·.1)).Nodup) (hD : H D = none) (hG : ∀ H', Same H H' → G H')
    (turn : ∀ (i : Nat) (x : V) (k : List Key) (v : V) (H1 : Hp) (R : V → V → Hp → Prop), i < n → At i x → kvs[i]? = some (k, v) → Same H H1 → (∀ H2 b, Same H1 H2 → H2 b = some (.tup (k.map kV)) → R (.ref b) v H2) →
      g x σ0 H1 fun σ2 H2 => wipe σ2 vs = σ0 ∧ tk σ2 H2 fun y H4 => tv σ2 H4 fun z H5 => R y z H5)
    (fin : ∀ H', Same H H' → H' D = some (.dT kvs) → q H') :
    ∃ W : Nat → Nat → Hp → Prop, (∃ m, W 0 m (upd H D (.dT []))) ∧ DcW J g tYes tk tv σ0 vs D q W := by
  refine ⟨fun i m H' => m = n - i ∧ i ≤ n ∧ Same H H' ∧ H' D = some (.dT (kvs.take i)), ⟨n, rfl, Nat.zero_le _, Same.up hD, by rw [upd_same]; rfl⟩, ?_⟩
  rintro i m H1 ⟨rfl, hi, s1, h1⟩
  by_cases lt : i < n
  · refine .inr ⟨w.goes i H1 lt (hG H1 s1), fun H' => Same H H' ∧ H' D = some (.dT (kvs.take (i + 1))), fun H' p => ⟨n - (i + 1), by omega, rfl, lt, p⟩, fun x H2 y => ?_⟩
    obtain ⟨rfl, ax⟩ := hy i H1 x H2 (w.yields i H1 x H2 lt (hG H1 s1) y)
    obtain ⟨⟨k, v⟩, e⟩ : ∃ kv, kvs[i]? = some kv := ⟨_, List.getElem?_eq_getElem (hn ▸ lt)⟩
    refine turn i x k v H2 (fun y z H5 => PutT D y z H5 _) lt ax e s1 fun H3 b s3 hb => ⟨_, k, b, rfl, s3 _ _ h1, hb, ?_, fun c o ec => ?_, ?_⟩
    · rw [List.length_take]
      omega
    · rw [upd_ne (ne_of_none ec hD)]
      exact s3 _ _ (s1 _ _ ec)
    · have split : kvs.take (i + 1) = kvs.take i ++ [(k, v)] := by rw [List.take_add_one, e]; rfl
      rw [upd_same, split]
      congr 2
      refine L2.putK_new _ (Option.eq_none_iff_forall_ne_some.mpr fun u eu => ?_)
      have m : k ∈ (kvs.take i).map (·.1) := List.mem_map.mpr ⟨_, val_mem eu, rfl⟩
      rw [← List.take_append_drop (i + 1) kvs, split, List.map_append, List.map_append] at nd
      have ap := (List.nodup_append.mp (List.nodup_append.mp nd).1).2.2
      exact ap _ m _ List.mem_cons_self rfl
  · obtain rfl : i = n := by omega
    refine .inl ⟨w.stops H1 (hG H1 s1), fin H1 s1 ?_⟩
    rw [h1, ← hn, List.take_length]
end Sr

set_option Elab.async false
set_option linter.all false
set_option maxRecDepth 100000
set_option maxHeartbeats 4000000
namespace K28
open PySem PySem.Spec PyProof.Rows L2 Sr
/-- the dict of what is told -/
def spSm (K : PySem.W.Frag) : Sp := fun vs H Q E => ∃ v d, vs = [v] ∧ Is H v d ∧ (∀ l, seqOf d = some l → ∀ x ∈ l, rowFlat x) ∧
  (badAt d = none → ∀ H' p, Same H H' → H p = none → H' p = some (.dT (tk (sumT (rowsOf d)))) → Q (.ref p) H') ∧
  ∀ i, badAt d = some i → ∀ H' e, Same H H' → H' e = none → E (.ref (He.ga K "BadRow")) (some e) (upd H' e (.xd [("index", .int (i : Nat))]))
theorem rows_ints {H : Hp} {v : V} {d : Dt} (hv : Is H v d) (hf : ∀ l, seqOf d = some l → ∀ x ∈ l, rowFlat x) (hb : badAt d = none) : Ints isPk (sumT (rowsOf d)) := by
  refine sumT_ints fun r m => ?_
  unfold badAt at hb
  cases hs : seqOf d with
  | none => rw [hs] at hb; cases hb
  | some l =>
    rw [hs] at hb
    obtain ⟨a, xs, o, rfl, ho, so, ia, zz⟩ := hv.seq hs
    have m : r ∈ l.map rowOf := by unfold rowsOf at m; rw [hs] at m; exact m
    obtain ⟨x, mx, rfl⟩ := List.mem_map.mp m
    obtain ⟨i, hi⟩ := List.mem_iff_getElem?.mp mx
    have hi2 : i < xs.length := by rw [ia.len]; exact (List.getElem?_eq_some_iff.mp hi).1
    obtain ⟨dd, e1, i1⟩ := ia.get (List.getElem?_eq_getElem hi2)
    rw [hi] at e1
    cases e1
    obtain ⟨_, _, _, _, _, h⟩ := row_at i1 (row_of (hf l hs x mx) (all_rows (i := 0) hb x mx))
    exact h
section
variable {P : Program} {w : World} {K : PySem.W.Frag} {mg : Str → Option Value} {base : Heap}
abbrev s__sums : Stmt := top 32
theorem sc__sums : FnScope ["rows", "account", "thing", "amount"] ["rows"] (defScope s__sums) := ⟨rfl, rfl, rfl, by decide +kernel, rfl, by decide +kernel, by decide +kernel⟩
theorem c__sums (T : Txt K mg) (D : Dfn K mg "_sums" s__sums) (C_told_rows : CalE P w K mg base 5 "told_rows" ["rows"] (spTold K)) :
    CalE P w K mg base 6 "_sums" ["rows"] (spSm K) := by
  refine D.calE sc__sums (fun _ _ _ _ _ _ us hl => match us, hl with | [_], _ => rfl) (fun vs H Q E h => ?_) fun cdv A outer s H vs Q E hr h => ?_
  · obtain ⟨v, d, rfl, _⟩ := h
    rfl
  obtain ⟨v, d, rfl, hv, hf, q1, q2⟩ := h
  refine ⟨_, (pss_one (ps_ret (pe_dcT (own := [("account", 1), ("thing", 2), ("amount", 3)]) (g := gTup K 3 (gCons (gName 1) (gCons (gName 2) (gCons (gName 3) gNil)))) (tt := tYes) (hu_of hr) rfl sc__sums.nd (pi_list (pe_calE C_told_rows hr (by first | decide | omega) (by rfl) (passes_def rfl rfl rfl rfl) (pa_cons (pv 0) pa_nil))) (blkOk_by (N := ["rows", "account", "thing", "amount"]) (sc := defScope s__sums) (by decide +kernel)) (fun _ _ _ _ _ => (pg_tup rfl (pgs_cons (pg_name (i := 1) sc__sums.nd rfl (by first | exact Or.inl rfl | exact Or.inr rfl)) (pgs_cons (pg_name (i := 2) sc__sums.nd rfl (by first | exact Or.inl rfl | exact Or.inr rfl)) (pgs_cons (pg_name (i := 3) sc__sums.nd rfl (by first | exact Or.inl rfl | exact Or.inr rfl)) pgs_nil))))) (fun _ _ _ _ _ => pts_nil) (fun _ _ _ _ _ => (pe_tup (pa_cons (pv 1) (pa_cons (pv 2) pa_nil)))) (fun _ _ _ _ _ => (pv 3))))), ?_⟩
  refine ⟨_, rfl, v, d, rfl, hv, hf, fun hb H1 l s1 hl hn ht => ?_, q2⟩
  have sm : ∀ p ∈ kept (sumT (rowsOf d)), small p := fun p m => keysOf_small (rows_ints hv hf hb) p (kept_mem m)
  cases ht with
  | lst ho ia zl =>
  rename_i xs
  have hlen : xs.length = (kept (sumT (rowsOf d))).length := ia.len.trans (by unfold toldOf; rw [List.length_map])
  refine ⟨l, rfl, ⟨xs, SqL.of ho⟩, fun D hD => dcT_pure walk_list (At := fun i x => xs[i]? = some x) (fun _ _ _ _ y => y) (tk (sumT (rowsOf d))) (by rw [hlen]; unfold tk; rw [List.length_map]) (sz zl) (tk_nodup (rows_ints hv hf hb)) hD (fun H' s' => SqL.of (s' _ _ ho))
    (fun i x k u H2 R hi hx hk s2 r => ?_) fun H' s' h' => q1 hb H' D (s1.trans s') (s1.free hD) h'⟩
  obtain ⟨dx, e1, i1⟩ := ia.get hx
  unfold toldOf at e1
  unfold tk at hk
  rw [List.getElem?_map] at e1 hk
  cases ek : (kept (sumT (rowsOf d)))[i]? with
  | none => rw [ek] at e1; cases e1
  | some p =>
    rw [ek] at e1 hk
    cases e1
    cases hk
    obtain ⟨t, rfl, h3, _⟩ := row_tr (r := (p, amt (sumT (rowsOf d)) p)) i1
    refine ⟨t, _, rfl, SqT.of (s2 _ _ h3), rfl, _, _, rfl, _, _, rfl, _, _, rfl, rfl, ?_⟩
    exact ⟨rfl, _, rfl, _, rfl, two_line, fun b hb2 => ⟨_, rfl, r _ b (Same.up hb2) upd_same⟩⟩
end
end K28

set_option Elab.async false
set_option linter.all false
set_option maxRecDepth 100000
set_option maxHeartbeats 4000000
namespace Sr
open PySem PySem.Spec PyProof.Rows L2
/-! ### the heap without some things of one's own -/
def off (S : List Addr) (H : Hp) : Hp := fun c => if c ∈ S then none else H c
theorem off_in {S : List Addr} {H : Hp} {c : Addr} (h : c ∈ S) : off S H c = none := if_pos h
theorem off_out {S : List Addr} {H : Hp} {c : Addr} (h : c ∉ S) : off S H c = H c := if_neg h
theorem off_le {S : List Addr} {H : Hp} : Same (off S H) H := fun c o e => by
  by_cases h : c ∈ S
  · rw [off_in h] at e; cases e
  · rwa [off_out h] at e
theorem Same.off {S : List Addr} {H H' : Hp} (s : Same H H') : Same (Sr.off S H) (Sr.off S H') := fun c o e => by
  by_cases h : c ∈ S
  · rw [off_in h] at e; cases e
  · rw [off_out h] at e ⊢; exact s _ _ e
theorem off_set {S : List Addr} {H : Hp} {c : Addr} {o : HO} (h : c ∈ S) : off S (upd H c o) = off S H := by
  funext b
  by_cases hb : b ∈ S
  · rw [off_in hb, off_in hb]
  · rw [off_out hb, off_out hb, upd_ne (by rintro rfl; exact hb h)]
theorem off_new {S : List Addr} {H : Hp} {p : Addr} (h : H p = none) : off S H p = none := by
  by_cases hp : p ∈ S
  · exact off_in hp
  · rw [off_out hp, h]
theorem Same.into {S : List Addr} {M H : Hp} (s : Same M H) (h : ∀ c ∈ S, M c = none) : Same M (Sr.off S H) := fun c o e => by
  have n : c ∉ S := fun m => by rw [h c m] at e; cases e
  rw [off_out n]
  exact s _ _ e
end Sr

set_option Elab.async false
set_option linter.all false
set_option maxRecDepth 100000
set_option maxHeartbeats 4000000
namespace K28
open PySem PySem.Spec PyProof.Rows L2 Sr
/-! ### what is told are rows again -/
theorem kept_from {rs : List Rw} {p : Str × Str} (m : p ∈ kept (sumT rs)) : ∃ r ∈ rs, r.1 = p := by
  have I : Ints (fun k => ∃ r ∈ rs, k = pk r.1) (sumT rs) := sums_ints _ _ _ _ Ints.nil fun r m => ⟨r, m, rfl⟩
  obtain ⟨e, me, rfl⟩ := List.mem_map.mp (kept_mem m)
  obtain ⟨⟨r, mr, er⟩, _⟩ := I.ent e me
  exact ⟨r, mr, by rw [er]; rfl⟩
theorem row_names {d : Dt} {l : List Dt} (hs : seqOf d = some l) (hf : rowsFlat d) (ho : rowsOk d = true) {r : Rw} (m : r ∈ rowsOf d) : accOk (.str r.1.1) = true ∧ nameOk (.str r.1.2) = true := by
  have m : r ∈ l.map rowOf := by unfold rowsOf at m; rw [hs] at m; exact m
  obtain ⟨x, mx, rfl⟩ := List.mem_map.mp m
  have hx : rowOk x = true := by
    unfold rowsOk at ho
    rw [hs] at ho
    exact List.all_eq_true.mp ho x mx
  have e := row_of (hf l hs x mx) hx
  unfold rowOk at hx
  rw [e] at hx
  have hx : (accOk (.str (rowOf x).1.1) && (nameOk (.str (rowOf x).1.2) && isInteger (.int (rowOf x).2))) = true := hx
  rw [Bool.and_eq_true, Bool.and_eq_true] at hx
  exact ⟨hx.1, hx.2.1⟩
theorem told_flat (kvs : List (List Key × V)) : rowsFlat (.tup (toldOf kvs)) := by
  intro l hs x m
  cases hs
  obtain ⟨p, _, rfl⟩ := List.mem_map.mp m
  intro l2 h2 y my
  cases h2
  simp only [List.mem_cons, List.not_mem_nil, or_false] at my
  rcases my with rfl | rfl | rfl <;> exact ⟨rfl, by intro z; cases z⟩
theorem told_ok {d : Dt} (hf : rowsFlat d) (ho : rowsOk d = true) : rowsOk (.tup (toldOf (sumT (rowsOf d)))) = true := by
  cases hs : seqOf d with
  | none => unfold rowsOk at ho; rw [hs] at ho; cases ho
  | some l =>
    show (toldOf (sumT (rowsOf d))).all rowOk = true
    refine List.all_eq_true.mpr fun x m => ?_
    obtain ⟨p, mp, rfl⟩ := List.mem_map.mp m
    obtain ⟨r, mr, rfl⟩ := kept_from mp
    obtain ⟨h1, h2⟩ := row_names hs hf ho mr
    show (accOk (.str r.1.1) && (nameOk (.str r.1.2) && isInteger (.int _))) = true
    rw [h1, h2]
    rfl
/-- told rows stand where tuples stand -/
theorem rows_keep {H H' : Hp} (e : ∀ c vs, H c = some (.tup vs) → H' c = some (.tup vs)) {f : Str × Str → Int} : ∀ {xs : List V} {ks : List (Str × Str)}, IsA H xs (ks.map fun p => rowTd p (f p)) → IsA H' xs (ks.map fun p => rowTd p (f p))
  | [], [], _ => .nil
  | _ :: _, k :: _, .cons h t => by
    refine .cons ?_ (rows_keep e t)
    obtain ⟨a, rfl, ha, sm⟩ := row_tr (r := (k, f k)) h
    exact .tup (e _ _ ha) (.cons (.str _ sm.1) (.cons (.str _ sm.2) (.cons (.int _) .nil))) (show (3 : Nat) ≤ 60 by decide)
/-! ### deeds, as data -/
def dInt (i : Nat) (d : Dt) : Int := match ((seqOf d).getD [])[i]? with
  | some (.int n) => n
  | _ => 0
def dIs (s : Str) (d : Dt) : Bool := match ((seqOf d).getD [])[0]? with
  | some x => isS s x
  | none => false
def dRows (d : Dt) : Dt := (((seqOf d).getD [])[3]?).getD .non
def clo (d : Dt) (c : Int) : Int := if dIs "close" d = true then dInt 2 d else c
/-- what is refused of it, behind what was written and closed -/
def deedBad (d : Dt) (w c : Int) : Bool := !deedOk d || (decide (dInt 1 d < w) || (dIs "close" d && decide (dInt 2 d ≤ c)))
def badD : List Dt → Int → Int → Nat → Option Nat
  | [], _, _, _ => none
  | d :: r, w, c, i => if deedBad d w c = true then some i else badD r (dInt 1 d) (clo d c) (i + 1)
def badDs (d : Dt) : Option Nat := match seqOf d with
  | none => some 0
  | some l => badD l 0 (-1) 0
/-- the rows of an entry as they are told -/
def toldR (d : Dt) : List Dt := toldOf (sumT (rowsOf (dRows d)))
def told1 (d : Dt) : Dt := if dIs "close" d = true then .tup [.str "close", .int (dInt 1 d), .int (dInt 2 d)] else .tup [.str "entry", .int (dInt 1 d), .int (dInt 2 d), .tup (toldR d)]
abbrev Ent := Int × Int × Int × List (List Key × V)
def entOf (d : Dt) (c : Int) : Ent := (dInt 1 d, dInt 2 d, if c + 1 > dInt 2 d then c + 1 else dInt 2 d, tk (sumT (rowsOf (.tup (toldR d)))))
def ents : List Dt → Int → List Ent
  | [], _ => []
  | d :: r, c => if dIs "close" d = true then ents r (clo d c) else entOf d c :: ents r (clo d c)
theorem time_int {d : Dt} (h : timeOk d = true) : ∃ n, d = .int n := by
  cases d with
  | int n => exact ⟨n, rfl⟩
  | _ => cases h
theorem deed_shape {d : Dt} (f : deedFlat d) (h : deedOk d = true) : ∃ z w v r, seqOf d = some (.str z :: .int w :: .int v :: r) ∧
    ((isS "close" (.str z) = true ∧ r = []) ∨ (isS "close" (.str z) = false ∧ ∃ rr, r = [rr] ∧ rowsOk rr = true ∧ rowsFlat rr)) := by
  unfold deedOk at h
  cases e : seqOf d with
  | none => rw [e] at h; cases h
  | some l =>
    rw [e] at h
    match l, e, h with
    | k :: a :: b :: r, e, h =>
      have h : (timeOk a && (timeOk b && (if isS "close" k = true then r.isEmpty else isS "entry" k && restOk r))) = true := h
      rw [Bool.and_eq_true, Bool.and_eq_true] at h
      obtain ⟨z, rfl⟩ := (f _ e).1 k rfl
      obtain ⟨n, rfl⟩ := time_int h.1
      obtain ⟨m, rfl⟩ := time_int h.2.1
      refine ⟨z, n, m, r, rfl, ?_⟩
      cases c : isS "close" (.str z) with
      | true =>
        have h2 := h.2.2
        rw [c, if_pos rfl] at h2
        exact .inl ⟨rfl, List.isEmpty_iff.mp h2⟩
      | false =>
        have h2 := h.2.2
        rw [c, if_neg (by simp), Bool.and_eq_true] at h2
        refine .inr ⟨rfl, ?_⟩
        match r, h2.2, e with
        | [x], h3, e =>
          have h3 : (rowsOk x && bal (sumS (rowsOf x))) = true := h3
          rw [Bool.and_eq_true] at h3
          exact ⟨x, rfl, h3.1, (f _ e).2 x rfl⟩
def EntAt (H : Hp) (y : V) (e : Ent) : Prop := ∃ t p, y = .ref t ∧ H t = some (.tup [.int e.1, .int e.2.1, .int e.2.2.1, .ref p]) ∧ H p = some (.dT e.2.2.2)
theorem EntAt.mono {H H' : Hp} {y : V} {e : Ent} (s : Same H H') (h : EntAt H y e) : EntAt H' y e := by
  obtain ⟨t, p, e1, h1, h2⟩ := h
  exact ⟨t, p, e1, s _ _ h1, s _ _ h2⟩
/-- a ledger being made, at x: M stands ahead of all -/
structure Led (K : PySem.W.Frag) (M H : Hp) (x dx a b : Addr) (ys zs : List V) (ds : List Dt) (es : List Ent) : Prop where
  le : Same M H
  mx : M x = none
  ma : M a = none
  mb : M b = none
  ab : a ≠ b
  xa : x ≠ a
  xb : x ≠ b
  ix : H x = some (.ins (He.ga K "Ledger") dx [("_deeds", .ref a), ("_entries", .ref b)])
  ia : H a = some (.lst ys)
  ib : H b = some (.lst zs)
  dy : IsA (off [x, a, b] H) ys ds
  ez : Paired (EntAt (off [x, a, b] H)) zs es
variable {K : PySem.W.Frag} {M H H' : Hp} {x dx a b : Addr} {ys zs : List V} {ds : List Dt} {es : List Ent}
theorem Led.up (L : Led K M H x dx a b ys zs ds es) (s : Same H H') : Led K M H' x dx a b ys zs ds es :=
  ⟨L.le.trans s, L.mx, L.ma, L.mb, L.ab, L.xa, L.xb, s _ _ L.ix, s _ _ L.ia, s _ _ L.ib, L.dy.mono (Same.off s), Paired.imp' (fun _ _ h => h.mono (Same.off s)) L.ez⟩
theorem Led.addD (L : Led K M H x dx a b ys zs ds es) {y : V} {d : Dt} (h : Is (off [x, a, b] H) y d) : Led K M (upd H a (.lst (ys ++ [y]))) x dx a b (ys ++ [y]) zs (ds ++ [d]) es := by
  have eo : off [x, a, b] (upd H a (.lst (ys ++ [y]))) = off [x, a, b] H := off_set (by simp)
  exact ⟨Same.set L.le L.ma, L.mx, L.ma, L.mb, L.ab, L.xa, L.xb, (upd_ne L.xa).trans L.ix, upd_same, (upd_ne L.ab.symm).trans L.ib, eo ▸ L.dy.app (.cons h .nil), eo ▸ L.ez⟩
theorem Led.addE (L : Led K M H x dx a b ys zs ds es) {z : V} {e : Ent} (h : EntAt (off [x, a, b] H) z e) : Led K M (upd H b (.lst (zs ++ [z]))) x dx a b ys (zs ++ [z]) ds (es ++ [e]) := by
  have eo : off [x, a, b] (upd H b (.lst (zs ++ [z]))) = off [x, a, b] H := off_set (by simp)
  exact ⟨Same.set L.le L.mb, L.mx, L.ma, L.mb, L.ab, L.xa, L.xb, (upd_ne L.xb).trans L.ix, (upd_ne L.ab).trans L.ia, upd_same, eo ▸ L.dy, eo ▸ Paired.snoc h L.ez⟩
theorem Led.new (L : Led K M H x dx a b ys zs ds es) {p : Addr} (h : H p = none) : p ∉ [x, a, b] := fun m => by
  simp only [List.mem_cons, List.not_mem_nil, or_false] at m
  rcases m with rfl | rfl | rfl
  · rw [L.ix] at h; cases h
  · rw [L.ia] at h; cases h
  · rw [L.ib] at h; cases h
/-- a new thing of data, laid beside it -/
theorem Led.lay (L : Led K M H x dx a b ys zs ds es) {p : Addr} {vs : List V} {l : List Dt} (h : H p = none) (i : IsA (off [x, a, b] H) vs l) (z : vs.length ≤ 60) : Is (off [x, a, b] (upd H p (.tup vs))) (.ref p) (.tup l) :=
  .tup ((off_out (L.new h)).trans upd_same) (i.mono (Same.off (Same.up h))) z
end K28

set_option Elab.async false
set_option linter.all false
set_option maxRecDepth 100000
set_option maxHeartbeats 4000000
namespace K28
open PySem PySem.Spec PyProof.Rows L2 Sr
/-- what the head tells of the class -/
structure LgF (K : PySem.W.Frag) : Prop where
  cl : Cls K (He.ga K "Ledger")
  nD : NoAttr K (He.ga K "Ledger") "_deeds"
  nE : NoAttr K (He.ga K "Ledger") "_entries"
/-- the deeds of d stand in x -/
def LedAt (K : PySem.W.Frag) (H : Hp) (x : Addr) (ds : List Dt) (es : List Ent) : Prop := ∃ dx a b zs, H x = some (.ins (He.ga K "Ledger") dx [("_deeds", .ref a), ("_entries", .ref b)]) ∧ Is H (.ref a) (.lst ds) ∧ H b = some (.lst zs) ∧ Paired (EntAt H) zs es
def deedsFlat (d : Dt) : Prop := ∀ l, seqOf d = some l → ∀ e ∈ l, deedFlat e
def spLed (K : PySem.W.Frag) : Sp := fun vs H Q E => ∃ M x dx v d, vs = [.ref x, v] ∧ Same M H ∧ M x = none ∧ Is M v d ∧ deedsFlat d ∧ H x = some (.ins (He.ga K "Ledger") dx []) ∧
  (badDs d = none → ∀ H', Same M H' → LedAt K H' x (((seqOf d).getD []).map told1) (ents ((seqOf d).getD []) (-1)) → Q .non H') ∧
  ∀ i, badDs d = some i → ∀ H' e, Same M H' → H' e = none → E (.ref (He.ga K "BadDeed")) (some e) (upd H' e (.xd [("index", .int (i : Nat))]))
section
variable {P : Program} {w : World} {K : PySem.W.Frag} {mg : Str → Option Value} {base : Heap}
abbrev s_BadDeed___init__ : Stmt := inClass (top 13) 0
theorem sc_BadDeed___init__ : FnScope ["self", "index"] ["self", "index"] (defScope s_BadDeed___init__) := ⟨rfl, rfl, rfl, by decide +kernel, rfl, by decide +kernel, by decide +kernel⟩
theorem m_BadDeed (E : Err K (He.ga K "BadDeed") (He.fAd K ("BadDeed", some "__init__")) "index") (D : DfnM K "BadDeed" "__init__" "BadDeed.__init__" s_BadDeed___init__) :
    CalM P w K mg base CX0 1 (He.fAd K ("BadDeed", some "__init__")) ["self", "index"] (spErr K (He.ga K "BadDeed") "index") := by
  refine D.cal sc_BadDeed___init__ (fun _ _ _ _ _ _ us hl => match us, hl with | [_, _], _ => rfl) (fun vs H Q E' h => ?_) fun cdv A outer s H vs Q E' hr h => ?_
  · obtain ⟨a, v, rfl, _⟩ := h
    rfl
  obtain ⟨a, v, rfl, ha, q⟩ := h
  refine ⟨_, (pss_one (ps_ost (pv 0) (pv 1))), ?_⟩
  exact ⟨_, rfl, _, rfl, a, _, rfl, E.oex, E.no, .inl ⟨ha, q⟩⟩
abbrev s_Ledger___init__ : Stmt := inClass (top 27) 0
theorem sc_Ledger___init__ : FnScope ["self", "deeds", "written", "closed", "index", "deed", "valid", "rows"] ["self", "deeds"] (defScope s_Ledger___init__) := ⟨rfl, rfl, rfl, by decide +kernel, rfl, by decide +kernel, by decide +kernel⟩
theorem b_Ledger___init__ (T : Txt K mg) (F : LgF K) (R : ErrAt P w K mg base "BadDeed" "index" "index") (C_is_list : Cal P w K mg base 1 "is_list" ["thing"] (spB isSeq)) (C_is_deed : Cal P w K mg base 6 "_is_deed" ["thing"] (spBP deedFlat deedOk))
    (C_told_rows : CalE P w K mg base 5 "told_rows" ["rows"] (spTold K)) (C_sums : CalE P w K mg base 6 "_sums" ["rows"] (spSm K))
    (cdv : Value) (A : Around) (outer : List Env) (s : Shared) (H : Hp) (vs : List V) (Q : VK) (E : XK) (hr : Room 6 (A.deeper (envOfC "Ledger.__init__" (defScope s_Ledger___init__) s.heap.objs.size (He.fAd K ("Ledger", some "__init__")) cdv))) (h : spLed K vs H Q E) :
      ∃ t, PSs (cxOf (L2.CX P w) P w K mg base ["self", "deeds", "written", "closed", "index", "deed", "valid", "rows"] "Ledger.__init__" (defScope s_Ledger___init__) (He.fAd K ("Ledger", some "__init__")) cdv A outer s H E) (defBody s_Ledger___init__) t ∧ t { nx := fun _ H' => Q .non H', rt := Q } (start ["self", "deeds", "written", "closed", "index", "deed", "valid", "rows"] vs) H := by
  obtain ⟨M, x, dx, v, d, rfl, sM, mx, hv, hf, hx, q1, q2⟩ := h
  refine ⟨_, (pss_cons (ps_if (pt_not (pt_val (pe_cal C_is_list hr (by first | decide | omega) (by rfl) (pa_cons (pv 1) pa_nil)))) (pss_one (ps_raise rfl (takes_of rfl rfl rfl rfl) (R.mk_ hr (by decide) (by rfl) (pa_cons pe_int pa_nil)))) pss_nil)
      (pss_cons (ps_fld (pv 0) (pe_lst pa_nil) rfl)
      (pss_cons (ps_fld (pv 0) (pe_lst pa_nil) rfl)
      (pss_cons (ps_asg (pe_tup (pa_cons pe_int (pa_cons (pe_un un_neg pe_int) pa_nil))) (pg_tup rfl (pgs_cons (pg_name (i := 2) sc_Ledger___init__.nd rfl (by first | exact Or.inl rfl | exact Or.inr rfl)) (pgs_cons (pg_name (i := 3) sc_Ledger___init__.nd rfl (by first | exact Or.inl rfl | exact Or.inr rfl)) pgs_nil))))
      (pss_one (ps_for (L2.passes_of rfl) rfl (pi_enumS (by rfl) T.enumerate (pa_cons (pv 1) pa_nil)) (pg_tup rfl (pgs_cons (pg_name (i := 4) sc_Ledger___init__.nd rfl (by first | exact Or.inl rfl | exact Or.inr rfl)) (pgs_cons (pg_name (i := 5) sc_Ledger___init__.nd rfl (by first | exact Or.inl rfl | exact Or.inr rfl)) pgs_nil)))
      (pss_cons (ps_if (PW.pt (pw_or (pt_not (pt_val (pe_cal C_is_deed hr (by first | decide | omega) (by rfl) (pa_cons (pv 5) pa_nil)))) (pw_or (pt_cmpR op_lt (pe_ix ix_seq (pv 5) pe_int (fun _ _ => rfl)) (pv 2) (nomark _)) (pw_or1 (PW.pt (pw_and (pt_cmpR op_eq (pe_ix ix_seq (pv 5) pe_int (fun _ _ => rfl)) pe_str (nomark _)) (pw_and1 (pt_cmpR op_le (pe_ix ix_seq (pv 5) pe_int (fun _ _ => rfl)) (pv 3) (nomark _))))))))) (pss_one (ps_raise rfl (takes_of rfl rfl rfl rfl) (R.mk_ hr (by decide) (by rfl) (pa_cons (pv 4) pa_nil)))) pss_nil)
      (pss_cons (ps_par (i := 2) (j := 6) (by rfl) sc_Ledger___init__.nd rfl rfl (by decide) rfl rfl (pa_cons (pe_ix ix_seq (pv 5) pe_int (fun _ _ => rfl)) (pa_cons (pe_ix ix_seq (pv 5) pe_int (fun _ _ => rfl)) pa_nil)) (by rfl))
      (pss_one (ps_if (pt_cmpR op_eq (pe_ix ix_seq (pv 5) pe_int (fun _ _ => rfl)) pe_str (nomark _)) (pss_cons (ps_set (i := 3) sc_Ledger___init__.nd rfl (by first | exact Or.inl rfl | exact Or.inr rfl) (pv 6))
      (pss_one (ps_expr (pe_bm PySem.F.plainAttrs_list PySem.F.slot_list_append PySem.F.type_list_append mt_append (pe_fld (pv 0) rfl) (pa_cons (pe_tup (pa_cons pe_str (pa_cons (pv 2) (pa_cons (pv 6) pa_nil)))) pa_nil))))) (pss_cons (ps_set (i := 7) sc_Ledger___init__.nd rfl (by first | exact Or.inl rfl | exact Or.inr rfl) (pe_callTy (T := "tuple") call_tuple_of (by rfl) T.tuple (by decide +kernel) (pa_cons (pe_calE C_told_rows hr (by first | decide | omega) (by rfl) (passes_def rfl rfl rfl rfl) (pa_cons (pe_ix ix_seq (pv 5) pe_int (fun _ _ => rfl)) pa_nil)) pa_nil)))
      (pss_cons (ps_expr (pe_bm PySem.F.plainAttrs_list PySem.F.slot_list_append PySem.F.type_list_append mt_append (pe_fld (pv 0) rfl) (pa_cons (pe_tup (pa_cons pe_str (pa_cons (pv 2) (pa_cons (pv 6) (pa_cons (pv 7) pa_nil))))) pa_nil)))
      (pss_one (ps_expr (pe_bm PySem.F.plainAttrs_list PySem.F.slot_list_append PySem.F.type_list_append mt_append (pe_fld (pv 0) rfl) (pa_cons (pe_tup (pa_cons (pv 2) (pa_cons (pv 6) (pa_cons (pe_callB (id := "max") (call_max2 rfl) (by rfl) T.max (by decide +kernel) (pa_cons (pv 6) (pa_cons (pe_op op_add (pv 3) pe_int) pa_nil))) (pa_cons (pe_calE C_sums hr (by first | decide | omega) (by rfl) (passes_def rfl rfl rfl rfl) (pa_cons (pv 7) pa_nil)) pa_nil))))) pa_nil)))))))))))))))), ?_⟩
  refine ⟨_, rfl, v, d, rfl, hv.mono sM, fun H1 s1 => ⟨_, rfl, ?_⟩⟩
  cases hq : seqOf d with
  | none =>
    have e1 : isSeq d = false := by cases d <;> first | rfl | cases hq
    rw [e1]
    exact iteT (err_at fun e he => q2 0 (by unfold badDs; rw [hq]) _ e (sM.trans s1) he)
  | some l =>
    have e1 : isSeq d = true := by cases d <;> first | rfl | cases hq
    rw [e1]
    obtain ⟨va, xs, o, rfl, ho, so, ia, zz⟩ := hv.seq hq
    obtain ⟨J, wJ, put⟩ := seq_walkE (K := K) (a := va) so
    have eb : badDs d = badD l 0 (-1) 0 := by unfold badDs; rw [hq]
    rw [hq] at q1
    have hx1 := s1 _ _ hx
    have s01 := sM.trans s1
    refine iteF ⟨by rw [sizeLine_eq]; decide, fun a ha => ⟨_, rfl, x, _, dx, [], rfl, (upd_ne (ne_of_none hx1 ha)).trans hx1, F.cl, F.nD, by decide, ?_⟩⟩
    refine ⟨by rw [sizeLine_eq]; decide, fun b hb => ⟨_, rfl, x, _, dx, [("_deeds", .ref a)], rfl, (upd_ne (ne_of_none upd_same hb)).trans upd_same, F.cl, F.nE, by simp, ?_⟩⟩
    refine ⟨1, rfl, two_line, fun t ht => ⟨t, _, rfl, SqT.of upd_same, rfl, _, _, rfl, _, _, rfl, rfl, ?_⟩⟩
    have L0 : Led K M (upd (upd (upd (upd (upd H1 a (.lst [])) x (.ins (He.ga K "Ledger") dx (putF "_deeds" (.ref a) []))) b (.lst [])) x (.ins (He.ga K "Ledger") dx (putF "_entries" (.ref b) [("_deeds", .ref a)]))) t (.tup [.int 0, .int (-1)])) x dx a b [] [] [] [] := by
      have nxa : x ≠ a := fun e => by rw [← e, hx1] at ha; cases ha
      have nxb : x ≠ b := fun e => by rw [← e, upd_same] at hb; cases hb
      have nab : a ≠ b := fun e => by rw [← e, upd_ne nxa.symm, upd_same] at hb; cases hb
      have h1a : M a = none := s01.free ha
      have h2b : H1 b = none := by rw [upd_ne nxb.symm, upd_ne nab.symm] at hb; exact hb
      refine Led.up ⟨Same.set (Same.set (Same.set (Same.set s01 h1a) mx) (s01.free h2b)) mx, mx, h1a, s01.free h2b, nab, nxa, nxb, upd_same, ?_, ?_, .nil, .nil⟩ (Same.up ht)
      · rw [upd_ne nxa.symm, upd_ne nab, upd_ne nxa.symm, upd_same]
      · rw [upd_ne nxb.symm, upd_same]
    refine ⟨_, rfl, va, rfl, put _ _ (L0.le _ _ ho) (for_it wJ (fun i σ H' => ∃ w c u1 u2 u3 u4 ys zs es, σ = [some (.ref x), some (.ref va), some (.int w), some (.int c), u1, u2, u3, u4] ∧ Led K M H' x dx a b ys zs ((l.take i).map told1) es ∧
      badDs d = badD (l.drop i) w c i ∧ ents l (-1) = es ++ ents (l.drop i) c ∧ zs.length ≤ i) ⟨0, -1, _, _, _, _, [], [], [], rfl, L0, eb, rfl, Nat.le_refl _⟩ (fun i σ H' hi p => ?_) ?_ ?_)⟩
    · obtain ⟨_, _, _, _, _, _, _, _, _, _, L, _⟩ := p
      exact L.le _ _ ho
    · rintro i u σ H2 H3 hi ⟨w, c, u1, u2, u3, u4, ys, zs, es, rfl, L, eb, ee, zl⟩ ⟨T', p, y, rfl, hT, rfl, hp, hy⟩
      obtain rfl : V.int (i : Nat) = p := Option.some.inj hp
      obtain ⟨dy, ey, iy⟩ := ia.get hy
      have fy : deedFlat dy := hf l hq dy (List.mem_of_getElem? ey)
      have edrop : l.drop i = dy :: l.drop (i + 1) := by
        rw [List.drop_eq_getElem_cons (List.getElem?_eq_some_iff.mp ey).1, (List.getElem?_eq_some_iff.mp ey).2]
      have L3 := L.up (Same.up (o := .tup [.int (i : Nat), y]) hT)
      rw [edrop] at eb ee
      have ebc : badD (dy :: l.drop (i + 1)) w c i = if deedBad dy w c = true then some i else badD (l.drop (i + 1)) (dInt 1 dy) (clo dy c) (i + 1) := rfl
      rw [ebc] at eb
      refine ⟨T', _, rfl, SqT.of upd_same, rfl, _, _, rfl, _, _, rfl, rfl, ?_⟩
      refine ⟨_, rfl, y, dy, rfl, iy.mono L3.le, fy, fun H4 s4 => ⟨_, rfl, ?_⟩⟩
      have L4 := L3.up s4
      cases c1 : deedOk dy with
      | false =>
        rw [show deedBad dy w c = true by unfold deedBad; rw [c1]; rfl, if_pos rfl] at eb
        exact iteT (iteT ⟨_, rfl, err_at fun e he => q2 i eb _ e L4.le he⟩)
      | true =>
      obtain ⟨z, w', v', r, es', hcase⟩ := deed_shape fy c1
      have d1 : dInt 1 dy = w' := by unfold dInt; rw [es']; rfl
      have d2 : dInt 2 dy = v' := by unfold dInt; rw [es']; rfl
      have d0 : dIs "close" dy = isS "close" (.str z) := by unfold dIs; rw [es']; rfl
      obtain ⟨ya, yxs, yo, rfl, hyo, yso, iy2, yz⟩ := iy.seq es'
      cases iy2 with
      | cons i0 r0 => cases r0 with
        | cons i1 r1 => cases r1 with
          | cons i2 r2 =>
          rename_i xr
          cases i0 with
          | str _ hz =>
          cases i1 with
          | int =>
          cases i2 with
          | int =>
          have any : ∀ {H5 : Hp}, Same M H5 → SqAny K H5 ya (V.str z :: V.int w' :: V.int v' :: xr) := fun s => yso.any (s _ _ hyo)
          have eb2 : deedBad dy w c = (decide (w' < w) || (isS "close" (.str z) && decide (v' ≤ c))) := by unfold deedBad; rw [c1, d0, d1, d2]; rfl
          rw [eb2] at eb
          refine iteF ⟨_, rfl, ixS (any L4.le) (u := .int w') (at_nat (i := 1) rfl) ⟨_, rfl, _, _, rfl, rfl, _, rfl, ?_⟩⟩
          cases c2 : decide (w' < w) with
          | true =>
            rw [c2, Bool.true_or, if_pos rfl] at eb
            exact iteT (iteT ⟨_, rfl, err_at fun e he => q2 i eb _ e L4.le he⟩)
          | false =>
          rw [c2, Bool.false_or] at eb
          refine iteF ?_
          have etake : (l.take (i + 1)).map told1 = (l.take i).map told1 ++ [told1 dy] := by
            rw [List.take_add_one, ey, List.map_append]
            rfl
          have een : ents (dy :: l.drop (i + 1)) c = if dIs "close" dy = true then ents (l.drop (i + 1)) (clo dy c) else entOf dy c :: ents (l.drop (i + 1)) (clo dy c) := rfl
          rw [een] at ee
          refine ⟨_, rfl, ixS (any L4.le) (u := .str z) (at_nat (i := 0) rfl) ⟨rfl, _, rfl, ?_⟩⟩
          have yl : ys.length ≤ 60 := by
            have h1 := L.dy.len
            rw [List.length_map, List.length_take] at h1
            omega
          rcases hcase with ⟨c3, rfl⟩ | ⟨c3, rr, rfl, rok, rfl_⟩
          · have c3' : decide (V.str z = V.str "close") = true := c3
            have et1 : told1 dy = .tup [.str "close", .int w', .int v'] := by unfold told1; rw [d0, c3, if_pos rfl, d1, d2]
            have ec : clo dy c = v' := by unfold clo; rw [d0, c3, if_pos rfl, d2]
            rw [c3, Bool.true_and] at eb
            rw [d0, c3, if_pos rfl, ec] at ee
            rw [d1, ec] at eb
            rw [c3']
            refine iteT ⟨_, rfl, ixS (any L4.le) (u := .int v') (at_nat (i := 2) rfl) ⟨_, rfl, _, _, rfl, rfl, _, rfl, ?_⟩⟩
            cases c4 : decide (v' ≤ c) with
            | true =>
              rw [c4, if_pos rfl] at eb
              exact iteT ⟨_, rfl, err_at fun e he => q2 i eb _ e L4.le he⟩
            | false =>
            rw [c4, if_neg (by simp)] at eb
            refine iteF ?_
            refine ⟨_, rfl, ixS (any L4.le) (u := .int w') (at_nat (i := 1) rfl) ⟨_, rfl, ixS (any L4.le) (u := .int v') (at_nat (i := 2) rfl) ⟨_, _, rfl, ?_⟩⟩⟩
            refine ⟨_, rfl, ixS (any L4.le) (u := .str z) (at_nat (i := 0) rfl) ⟨rfl, _, rfl, ?_⟩⟩
            rw [c3']
            refine iteT ⟨_, rfl, ?_⟩
            refine ⟨_, rfl, x, _, dx, _, _, rfl, L4.ix, F.cl, F.nD, rfl, .inl ⟨rfl, _, SqL.of L4.ia⟩, _, rfl, _, rfl, three_line, fun t ht => ?_⟩
            have L5 := (L4.up (Same.up (o := .tup [.str "close", .int w', .int v']) ht)).addD (L4.lay ht (.cons (.str "close" (by decide)) (.cons (.int w') (.cons (.int v') .nil))) (show (3 : Nat) ≤ 60 by decide))
            refine ⟨a, ys, _, rfl, rfl, Same.up ht _ _ L4.ia, ?_, w', v', _, _, _, _, ys ++ [.ref t], zs, es, rfl, ?_, eb, ee, Nat.le_succ_of_le zl⟩
            · exact sz (m := 60) (by omega)
            · rw [etake, et1]
              exact L5
          · have c3' : decide (V.str z = V.str "close") = false := c3
            have et1 : told1 dy = .tup [.str "entry", .int w', .int v', .tup (toldR dy)] := by unfold told1; rw [d0, c3, if_neg (by simp), d1, d2]
            have ec : clo dy c = c := by unfold clo; rw [d0, c3, if_neg (by simp)]
            have edr : dRows dy = rr := by unfold dRows; rw [es']; rfl
            rw [c3, Bool.false_and, if_neg (by simp), d1, ec] at eb
            rw [d0, c3, if_neg (by simp), ec] at ee
            rw [c3']
            refine iteF (iteF ?_)
            refine ⟨_, rfl, ixS (any L4.le) (u := .int w') (at_nat (i := 1) rfl) ⟨_, rfl, ixS (any L4.le) (u := .int v') (at_nat (i := 2) rfl) ⟨_, _, rfl, ?_⟩⟩⟩
            refine ⟨_, rfl, ixS (any L4.le) (u := .str z) (at_nat (i := 0) rfl) ⟨rfl, _, rfl, ?_⟩⟩
            rw [c3']
            cases r2 with
            | cons i3 rn =>
            cases rn
            rename_i vr
            have hb := badAt_none rok
            refine iteF ⟨_, rfl, ixS (any L4.le) (u := vr) (at_nat (i := 3) rfl) ⟨vr, rr, rfl, i3.mono L4.le, rfl_, fun _ H5 l5 s5 hl5 hn5 it5 => ?_, fun i e => by rw [hb] at e; cases e⟩⟩
            cases it5 with
            | lst hl5' ia5 zl5 =>
            refine ⟨l5, _, rfl, .inl ⟨SqL.of hl5', fun t ht => ?_⟩⟩
            rename_i xs5
            have L5 := L4.up s5
            have keep5 : ∀ k vs, H5 k = some (.tup vs) → off [x, a, b] H5 k = some (.tup vs) := fun k vs e => by
              refine (off_out fun m => ?_).trans e
              simp only [List.mem_cons, List.not_mem_nil, or_false] at m
              rcases m with rfl | rfl | rfl
              · rw [L5.ix] at e; cases e
              · rw [L5.ia] at e; cases e
              · rw [L5.ib] at e; cases e
            have er : toldR dy = toldOf (sumT (rowsOf rr)) := by unfold toldR; rw [edr]
            have it : Is (off [x, a, b] (upd H5 t (.tup xs5))) (.ref t) (.tup (toldR dy)) := by
              rw [er]
              exact L5.lay ht (rows_keep keep5 ia5) zl5
            have L6 := L5.up (Same.up (o := .tup xs5) ht)
            refine ⟨_, rfl, x, _, dx, _, _, rfl, L6.ix, F.cl, F.nD, rfl, .inl ⟨rfl, _, SqL.of L6.ia⟩, _, rfl, _, rfl, _, rfl, Nat.le_of_lt (sz (show (4 : Nat) ≤ 60 by decide)), fun t2 ht2 => ?_⟩
            have L7 := (L6.up (Same.up (o := .tup [.str "entry", .int w', .int v', .ref t]) ht2)).addD (L6.lay ht2 (.cons (.str "entry" (by decide)) (.cons (.int w') (.cons (.int v') (.cons it .nil)))) (show (4 : Nat) ≤ 60 by decide))
            refine ⟨a, ys, _, rfl, rfl, Same.up ht2 _ _ L6.ia, sz (m := 60) (by omega), ?_⟩
            have it7 : Is (upd (upd (upd H5 t (.tup xs5)) t2 (.tup [.str "entry", .int w', .int v', .ref t])) a (.lst (ys ++ [.ref t2]))) (.ref t) (.tup (toldR dy)) := by
              have h := it.mono (Same.off (Same.up (o := .tup [.str "entry", .int w', .int v', .ref t]) ht2))
              rw [← off_set (S := [x, a, b]) (c := a) (o := .lst (ys ++ [.ref t2])) (by simp)] at h
              exact h.mono off_le
            have hok := told_ok rfl_ rok
            have hbt := badAt_none hok
            refine ⟨_, rfl, x, _, dx, _, _, rfl, L7.ix, F.cl, F.nE, rfl, .inl ⟨rfl, _, SqL.of L7.ib⟩, _, rfl, _, rfl, _, rfl, _, rfl, _, _, rfl, rfl, _, _, rfl, ?_⟩
            rw [← er] at hbt
            refine ⟨_, rfl, .ref t, .tup (toldR dy), rfl, it7, told_flat _, fun _ H8 p8 s8 hp8 hd8 => ?_, fun i e => by rw [hbt] at e; cases e⟩
            have L8 := L7.up s8
            refine ⟨Nat.le_of_lt (sz (show (4 : Nat) ≤ 60 by decide)), fun t3 ht3 => ⟨b, zs, _, rfl, rfl, Same.up ht3 _ _ L8.ib, sz (m := 60) (by omega), w', c, _, _, _, _, ys ++ [.ref t2], zs ++ [.ref t3], es ++ [entOf dy c], rfl, ?_, eb, ?_, ?_⟩⟩
            · rw [etake, et1]
              refine (L8.up (Same.up ht3)).addE ⟨t3, p8, rfl, ?_, ?_⟩
              · show Sr.off _ _ _ = some (.tup [.int (dInt 1 dy), .int (dInt 2 dy), .int (if c + 1 > dInt 2 dy then c + 1 else dInt 2 dy), .ref p8])
                rw [off_out (L8.new ht3), upd_same, d1, d2]
              · rw [off_out (L7.new hp8)]
                exact Same.up ht3 _ _ hd8
            · rw [ee, List.append_assoc]
              rfl
            · rw [List.length_append]
              exact Nat.succ_le_succ zl
    · rintro σ H2 ⟨w, c, u1, u2, u3, u4, ys, zs, es, rfl, L, eb, ee, zl⟩
      have e0 : l.drop xs.length = [] := by rw [ia.len]; exact List.drop_length
      have e2 : l.take xs.length = l := by rw [ia.len]; exact List.take_length
      rw [e0] at eb ee
      rw [e2] at L
      have yl : ys.length ≤ 60 := by
        have h1 := L.dy.len
        rw [List.length_map] at h1
        rw [h1, ← ia.len]
        exact zz
      refine q1 eb H2 L.le ⟨dx, a, b, zs, L.ix, .lst L.ia (L.dy.mono off_le) yl, L.ib, ?_⟩
      rw [show ents ((some l).getD []) (-1) = es from ee.trans (List.append_nil es)]
      exact Paired.imp' (fun _ _ h => h.mono off_le) L.ez
end
end K28

set_option Elab.async false
set_option linter.all false
set_option maxRecDepth 100000
set_option maxHeartbeats 4000000
namespace K28
open PySem PySem.Spec PyProof.Rows L2 Sr
theorem LedAt.mono {K : PySem.W.Frag} {H H' : Hp} {x : Addr} {ds : List Dt} {es : List Ent} (s : Same H H') (h : LedAt K H x ds es) : LedAt K H' x ds es := by
  obtain ⟨dx, a, b, zs, hx, ha, hb, hz⟩ := h
  exact ⟨dx, a, b, zs, s _ _ hx, ha.mono s, s _ _ hb, Paired.imp' (fun _ _ h => h.mono s) hz⟩
/-- of a ledger: told a new list, what stood stays -/
def spLd (K : PySem.W.Frag) (f : List Dt → List Ent → List Dt) : Sp := fun vs H Q _ => ∃ x ds es, vs = [.ref x] ∧ LedAt K H x ds es ∧ es.length ≤ 60 ∧ ∀ H' l, Same H H' → H l = none → Is H' (.ref l) (.lst (f ds es)) → Q (.ref l) H'
def bookedOf (es : List Ent) : List Dt := es.map fun e => .int e.2.2.1
theorem isA_ints {α : Type} {H : Hp} {f : α → Int} : ∀ {acc : List V} {es : List α}, Paired (fun y e => y = V.int (f e)) acc es → IsA H acc (es.map fun e => Dt.int (f e))
  | _, _, .nil => .nil
  | _, _, .cons h t => by
    rw [h]
    exact .cons (.int _) (isA_ints t)
section
variable {P : Program} {w : World} {K : PySem.W.Frag} {mg : Str → Option Value} {base : Heap}
abbrev s_Ledger_deeds : Stmt := inClass (top 27) 1
theorem sc_Ledger_deeds : FnScope ["self"] ["self"] (defScope s_Ledger_deeds) := ⟨rfl, rfl, rfl, by decide +kernel, rfl, by decide +kernel, by decide +kernel⟩
theorem m_deeds (T : Txt K mg) (F : LgF K) (D : DfnM K "Ledger" "deeds" "Ledger.deeds" s_Ledger_deeds) :
    CalM P w K mg base CX0 1 (He.fAd K ("Ledger", some "deeds")) ["self"] (spLd K fun ds _ => ds) := by
  refine D.cal sc_Ledger_deeds (fun _ _ _ _ _ _ us hl => match us, hl with | [_], _ => rfl) (fun vs H Q E' h => ?_) fun cdv A outer s H vs Q E' hr h => ?_
  · obtain ⟨x, ds, es, rfl, _⟩ := h
    rfl
  obtain ⟨x, ds, es, rfl, ⟨dx, a, b, zs, hx, ha, hb, hz⟩, el, q⟩ := h
  cases ha with
  | lst ha ia zl =>
  refine ⟨_, (pss_one (ps_ret (pe_callTy (T := "list") call_list_of (by rfl) T.list (by decide +kernel) (pa_cons (pe_fld (pv 0) rfl) pa_nil)))), ?_⟩
  exact ⟨_, rfl, x, _, dx, _, _, rfl, hx, F.cl, F.nD, rfl, a, _, rfl, .inl (SqL.of ha), fun l hl => q _ l (Same.up hl) hl (.lst upd_same (ia.mono (Same.up hl)) zl)⟩
abbrev s_Ledger_booked : Stmt := inClass (top 27) 3
theorem sc_Ledger_booked : FnScope ["self", "_", "booked"] ["self"] (defScope s_Ledger_booked) := ⟨rfl, rfl, rfl, by decide +kernel, rfl, by decide +kernel, by decide +kernel⟩
theorem m_booked (T : Txt K mg) (F : LgF K) (D : DfnM K "Ledger" "booked" "Ledger.booked" s_Ledger_booked) :
    CalM P w K mg base CX0 1 (He.fAd K ("Ledger", some "booked")) ["self"] (spLd K fun _ es => bookedOf es) := by
  refine D.cal sc_Ledger_booked (fun _ _ _ _ _ _ us hl => match us, hl with | [_], _ => rfl) (fun vs H Q E' h => ?_) fun cdv A outer s H vs Q E' hr h => ?_
  · obtain ⟨x, ds, es, rfl, _⟩ := h
    rfl
  obtain ⟨x, ds, es, rfl, ⟨dx, a, b, zs, hx, ha, hb, hz⟩, el, q⟩ := h
  refine ⟨_, (pss_one (ps_ret (pe_lc (own := [("_", 1), ("_", 1), ("booked", 2), ("_", 1)]) (g := gTup K 4 (gCons (gName 1) (gCons (gName 1) (gCons (gName 2) (gCons (gName 1) gNil))))) (tt := tYes) rfl sc_Ledger_booked.nd (pi_list (pe_fld (pv 0) rfl)) (blkOk_by (N := ["self", "_", "booked"]) (sc := defScope s_Ledger_booked) (by decide +kernel)) (fun _ _ _ _ _ => (pg_tup rfl (pgs_cons (pg_name (i := 1) sc_Ledger_booked.nd rfl (by first | exact Or.inl rfl | exact Or.inr rfl)) (pgs_cons (pg_name (i := 1) sc_Ledger_booked.nd rfl (by first | exact Or.inl rfl | exact Or.inr rfl)) (pgs_cons (pg_name (i := 2) sc_Ledger_booked.nd rfl (by first | exact Or.inl rfl | exact Or.inr rfl)) (pgs_cons (pg_name (i := 1) sc_Ledger_booked.nd rfl (by first | exact Or.inl rfl | exact Or.inr rfl)) pgs_nil)))))) (fun _ _ _ _ _ => pts_nil) (fun _ _ _ _ _ => (pv 2))))), ?_⟩
  have hl : zs.length = es.length := Paired.length hz
  refine ⟨_, rfl, x, _, dx, _, _, rfl, hx, F.cl, F.nE, rfl, b, rfl, ⟨zs, SqL.of hb⟩, fun D hD => lc_gen walk_list walk_at es (fun _ => true) hl.symm (sz (m := 60) (by omega)) hD (fun H' s' => SqL.of (s' _ _ hb)) (fun _ e y => y = .int e.2.2.1) (fun _ _ _ _ _ e => e) (fun _ _ _ _ _ _ e => e) (fun i u e H2 A B hi hu he s2 kA kB => ?_) (fun H2 acc s2 h2 pr => ?_)⟩
  · obtain ⟨t, p, rfl, h1, h2⟩ := Paired.at2 hz hu he
    refine ⟨t, _, rfl, SqT.of (s2 _ _ h1), rfl, _, _, rfl, _, _, rfl, _, _, rfl, _, _, rfl, rfl, rfl, ?_⟩
    exact ⟨_, rfl, kA rfl _ _ (Same.refl _) rfl⟩
  · rw [List.filter_eq_self.mpr fun _ _ => rfl] at pr
    refine q H2 D s2 hD (.lst h2 (isA_ints pr) ?_)
    rw [Paired.length pr]
    exact el
abbrev s_Ledger___len__ : Stmt := inClass (top 27) 13
theorem sc_Ledger___len__ : FnScope ["self"] ["self"] (defScope s_Ledger___len__) := ⟨rfl, rfl, rfl, by decide +kernel, rfl, by decide +kernel, by decide +kernel⟩
theorem m_len (T : Txt K mg) (F : LgF K) (D : DfnM K "Ledger" "__len__" "Ledger.__len__" s_Ledger___len__) :
    CalM P w K mg base CX0 1 (He.fAd K ("Ledger", some "__len__")) ["self"] (fun vs H Q _ => ∃ x ds es, vs = [.ref x] ∧ LedAt K H x ds es ∧ Q (.int (ds.length : Nat)) H) := by
  refine D.cal sc_Ledger___len__ (fun _ _ _ _ _ _ us hl => match us, hl with | [_], _ => rfl) (fun vs H Q E' h => ?_) fun cdv A outer s H vs Q E' hr h => ?_
  · obtain ⟨x, ds, es, rfl, _⟩ := h
    rfl
  obtain ⟨x, ds, es, rfl, ⟨dx, a, b, zs, hx, ha, hb, hz⟩, q⟩ := h
  cases ha with
  | lst ha ia zl =>
  refine ⟨_, (pss_one (ps_ret (pe_callB (id := "len") call_len_seq (by rfl) T.len (by decide +kernel) (pa_cons (pe_fld (pv 0) rfl) pa_nil)))), ?_⟩
  exact ⟨_, rfl, x, _, dx, _, _, rfl, hx, F.cl, F.nD, rfl, a, _, rfl, .inl (SqL.of ha), ia.len ▸ q⟩
end
end K28

set_option Elab.async false
set_option linter.all false
set_option maxRecDepth 100000
set_option maxHeartbeats 4000000
namespace K28
open PySem PySem.Spec PyProof.Rows L2 Sr
def spChkA (K : PySem.W.Frag) : Sp := fun vs H Q E => ∃ a t da dt, vs = [a, t] ∧ Is H a da ∧ accP da ∧ Is H t dt ∧ (accOk da = true → nameOk dt = true → ∀ H', Same H H' → Q .non H') ∧
  (accOk da = false → ∀ H' e, Same H H' → H' e = none → E (.ref (He.ga K "BadAccount")) (some e) (upd H' e (.xd [("account", a)]))) ∧
  (accOk da = true → nameOk dt = false → ∀ H' e, Same H H' → H' e = none → E (.ref (He.ga K "BadName")) (some e) (upd H' e (.xd [("thing", t)])))
/-- the first that is no time -/
def badTm : List Dt → Nat → Option Nat
  | [], _ => none
  | d :: r, i => if timeOk d = true then badTm r (i + 1) else some i
def spChkT (K : PySem.W.Frag) : Sp := fun vs H Q E => ∃ a xs ds, vs = [.ref a] ∧ H a = some (.lst xs) ∧ IsA H xs ds ∧ xs.length ≤ 60 ∧ (badTm ds 0 = none → ∀ H', Same H H' → Q .non H') ∧
  ∀ i v, badTm ds 0 = some i → xs[i]? = some v → ∀ H' e, Same H H' → H' e = none → E (.ref (He.ga K "BadTime")) (some e) (upd H' e (.xd [("time", v)]))
section
variable {P : Program} {w : World} {K : PySem.W.Frag} {mg : Str → Option Value} {base : Heap}
abbrev s_BadAccount___init__ : Stmt := inClass (top 14) 0
theorem sc_BadAccount___init__ : FnScope ["self", "account"] ["self", "account"] (defScope s_BadAccount___init__) := ⟨rfl, rfl, rfl, by decide +kernel, rfl, by decide +kernel, by decide +kernel⟩
theorem m_BadAccount (E : Err K (He.ga K "BadAccount") (He.fAd K ("BadAccount", some "__init__")) "account") (D : DfnM K "BadAccount" "__init__" "BadAccount.__init__" s_BadAccount___init__) :
    CalM P w K mg base CX0 1 (He.fAd K ("BadAccount", some "__init__")) ["self", "account"] (spErr K (He.ga K "BadAccount") "account") := by
  refine D.cal sc_BadAccount___init__ (fun _ _ _ _ _ _ us hl => match us, hl with | [_, _], _ => rfl) (fun vs H Q E' h => ?_) fun cdv A outer s H vs Q E' hr h => ?_
  · obtain ⟨a, v, rfl, _⟩ := h
    rfl
  obtain ⟨a, v, rfl, ha, q⟩ := h
  refine ⟨_, (pss_one (ps_ost (pv 0) (pv 1))), ?_⟩
  exact ⟨_, rfl, _, rfl, a, _, rfl, E.oex, E.no, .inl ⟨ha, q⟩⟩
abbrev s_BadName___init__ : Stmt := inClass (top 15) 0
theorem sc_BadName___init__ : FnScope ["self", "thing"] ["self", "thing"] (defScope s_BadName___init__) := ⟨rfl, rfl, rfl, by decide +kernel, rfl, by decide +kernel, by decide +kernel⟩
theorem m_BadName (E : Err K (He.ga K "BadName") (He.fAd K ("BadName", some "__init__")) "thing") (D : DfnM K "BadName" "__init__" "BadName.__init__" s_BadName___init__) :
    CalM P w K mg base CX0 1 (He.fAd K ("BadName", some "__init__")) ["self", "thing"] (spErr K (He.ga K "BadName") "thing") := by
  refine D.cal sc_BadName___init__ (fun _ _ _ _ _ _ us hl => match us, hl with | [_, _], _ => rfl) (fun vs H Q E' h => ?_) fun cdv A outer s H vs Q E' hr h => ?_
  · obtain ⟨a, v, rfl, _⟩ := h
    rfl
  obtain ⟨a, v, rfl, ha, q⟩ := h
  refine ⟨_, (pss_one (ps_ost (pv 0) (pv 1))), ?_⟩
  exact ⟨_, rfl, _, rfl, a, _, rfl, E.oex, E.no, .inl ⟨ha, q⟩⟩
abbrev s_BadTime___init__ : Stmt := inClass (top 11) 0
theorem sc_BadTime___init__ : FnScope ["self", "time"] ["self", "time"] (defScope s_BadTime___init__) := ⟨rfl, rfl, rfl, by decide +kernel, rfl, by decide +kernel, by decide +kernel⟩
theorem m_BadTime (E : Err K (He.ga K "BadTime") (He.fAd K ("BadTime", some "__init__")) "time") (D : DfnM K "BadTime" "__init__" "BadTime.__init__" s_BadTime___init__) :
    CalM P w K mg base CX0 1 (He.fAd K ("BadTime", some "__init__")) ["self", "time"] (spErr K (He.ga K "BadTime") "time") := by
  refine D.cal sc_BadTime___init__ (fun _ _ _ _ _ _ us hl => match us, hl with | [_, _], _ => rfl) (fun vs H Q E' h => ?_) fun cdv A outer s H vs Q E' hr h => ?_
  · obtain ⟨a, v, rfl, _⟩ := h
    rfl
  obtain ⟨a, v, rfl, ha, q⟩ := h
  refine ⟨_, (pss_one (ps_ost (pv 0) (pv 1))), ?_⟩
  exact ⟨_, rfl, _, rfl, a, _, rfl, E.oex, E.no, .inl ⟨ha, q⟩⟩
abbrev s__check_account : Stmt := top 29
theorem sc__check_account : FnScope ["account", "thing"] ["account", "thing"] (defScope s__check_account) := ⟨rfl, rfl, rfl, by decide +kernel, rfl, by decide +kernel, by decide +kernel⟩
theorem c__check_account (T : Txt K mg) (D : Dfn K mg "_check_account" s__check_account) (RA : ErrAt P w K mg base "BadAccount" "account" "account") (RN : ErrAt P w K mg base "BadName" "thing" "thing") (C_is_account : Cal P w K mg base 2 "is_account" ["thing"] (spBP accP accOk))
    (C_is_name : Cal P w K mg base 1 "is_name" ["thing"] (spB nameOk)) : CalE P w K mg base 3 "_check_account" ["account", "thing"] (spChkA K) := by
  refine D.calE sc__check_account (fun _ _ _ _ _ _ us hl => match us, hl with | [_, _], _ => rfl) (fun vs H Q E h => ?_) fun cdv A outer s H vs Q E hr h => ?_
  · obtain ⟨a, t, da, dt, rfl, _⟩ := h
    rfl
  obtain ⟨a, t, da, dt, rfl, ia, fa, it, q, e1, e2⟩ := h
  refine ⟨_, (pss_cons (ps_if (pt_not (pt_val (pe_cal C_is_account hr (by first | decide | omega) (by rfl) (pa_cons (pv 0) pa_nil)))) (pss_one (ps_raise rfl (takes_of rfl rfl rfl rfl) (RA.mk_ hr (by decide) (by rfl) (pa_cons (pv 0) pa_nil)))) pss_nil)
      (pss_one (ps_if (pt_not (pt_val (pe_cal C_is_name hr (by first | decide | omega) (by rfl) (pa_cons (pv 1) pa_nil)))) (pss_one (ps_raise rfl (takes_of rfl rfl rfl rfl) (RN.mk_ hr (by decide) (by rfl) (pa_cons (pv 1) pa_nil)))) pss_nil))), ?_⟩
  refine ⟨_, rfl, a, da, rfl, ia, fa, fun H1 s1 => ⟨_, rfl, ?_⟩⟩
  cases c1 : accOk da with
  | false => exact iteT ⟨_, rfl, err_at fun e he => e1 c1 _ e s1 he⟩
  | true =>
    refine iteF ⟨_, rfl, t, dt, rfl, it.mono s1, fun H2 s2 => ⟨_, rfl, ?_⟩⟩
    cases c2 : nameOk dt with
    | false => exact iteT ⟨_, rfl, err_at fun e he => e2 c1 c2 _ e (s1.trans s2) he⟩
    | true => exact iteF (q c1 c2 _ (s1.trans s2))
abbrev s__check_times : Stmt := top 30
theorem sc__check_times : FnScope ["times", "time"] ["times"] (defScope s__check_times) := ⟨rfl, rfl, rfl, by decide +kernel, rfl, by decide +kernel, by decide +kernel⟩
theorem c__check_times (T : Txt K mg) (D : Dfn K mg "_check_times" s__check_times) (RT : ErrAt P w K mg base "BadTime" "time" "time") (C_is_time : Cal P w K mg base 2 "is_time" ["thing"] (spB timeOk)) : CalE P w K mg base 3 "_check_times" ["times"] (spChkT K) := by
  refine D.calE sc__check_times (fun _ _ _ _ _ _ us hl => match us, hl with | [_], _ => rfl) (fun vs H Q E h => ?_) fun cdv A outer s H vs Q E hr h => ?_
  · obtain ⟨a, xs, ds, rfl, _⟩ := h
    rfl
  obtain ⟨a, xs, ds, rfl, ha, ia, zl, q, e1⟩ := h
  refine ⟨_, (pss_one (ps_for (L2.passes_of rfl) rfl (pi_list (pv 0)) (pg_name (i := 1) sc__check_times.nd rfl (by first | exact Or.inl rfl | exact Or.inr rfl))
      (pss_one (ps_if (pt_not (pt_val (pe_cal C_is_time hr (by first | decide | omega) (by rfl) (pa_cons (pv 1) pa_nil)))) (pss_one (ps_raise rfl (takes_of rfl rfl rfl rfl) (RT.mk_ hr (by decide) (by rfl) (pa_cons (pv 1) pa_nil)))) pss_nil)))), ?_⟩
  refine ⟨_, rfl, a, rfl, ⟨xs, SqL.of ha⟩, for_it walk_list (fun i σ H' => (∃ u, σ = [some (.ref a), u]) ∧ Same H H' ∧ badTm ds 0 = badTm (ds.drop i) i) ⟨⟨_, rfl⟩, Same.refl _, rfl⟩ (fun i σ H' hi p => SqL.of (p.2.1 _ _ ha)) ?_ ?_⟩
  · rintro i x σ H2 H3 hi ⟨⟨u, rfl⟩, s2, eb⟩ ⟨rfl, hx⟩
    obtain ⟨d, ed, id⟩ := ia.get hx
    have edrop : ds.drop i = d :: ds.drop (i + 1) := by
      rw [List.drop_eq_getElem_cons (List.getElem?_eq_some_iff.mp ed).1, (List.getElem?_eq_some_iff.mp ed).2]
    rw [edrop, show badTm (d :: ds.drop (i + 1)) i = if timeOk d = true then badTm (ds.drop (i + 1)) (i + 1) else some i from rfl] at eb
    refine ⟨_, rfl, x, d, rfl, id.mono s2, fun H4 s4 => ⟨_, rfl, ?_⟩⟩
    cases c : timeOk d with
    | false =>
      rw [c, if_neg (by simp)] at eb
      exact iteT ⟨_, rfl, err_at fun e he => e1 i x eb hx _ e (s2.trans s4) he⟩
    | true =>
      rw [c, if_pos rfl] at eb
      exact iteF ⟨⟨_, rfl⟩, s2.trans s4, eb⟩
  · rintro σ H2 ⟨⟨u, rfl⟩, s2, eb⟩
    have e0 : ds.drop xs.length = [] := by rw [ia.len]; exact List.drop_length
    rw [e0] at eb
    exact q eb _ s2
end
end K28

set_option Elab.async false
set_option linter.all false
set_option maxRecDepth 100000
set_option maxHeartbeats 4000000
namespace K28
open PySem PySem.Spec PyProof.Rows L2 Sr
def inB (k v : Int) (e : Ent) : Bool := decide (e.1 ≤ k) && decide (e.2.2.1 ≤ v)
def inT (k v : Int) (e : Ent) : Bool := decide (e.1 ≤ k) && decide (e.2.1 ≤ v)
/-- the sums of some entries, in a new list -/
def spPart (K : PySem.W.Frag) (f : Int → Int → Ent → Bool) : Sp := fun vs H Q _ => ∃ x k v ds es, vs = [.ref x, .int k, .int v] ∧ LedAt K H x ds es ∧ es.length ≤ 60 ∧
  ∀ H' l acc, Same H H' → H l = none → H' l = some (.lst acc) → Paired (fun y e => ∃ p, y = .ref p ∧ H' p = some (.dT e.2.2.2)) acc (es.filter (f k v)) → Q (.ref l) H'
section
variable {P : Program} {w : World} {K : PySem.W.Frag} {mg : Str → Option Value} {base : Heap}
abbrev s_Ledger__true : Stmt := inClass (top 27) 16
theorem sc_Ledger__true : FnScope ["self", "known", "valid", "written", "time", "_", "sums"] ["self", "known", "valid"] (defScope s_Ledger__true) := ⟨rfl, rfl, rfl, by decide +kernel, rfl, by decide +kernel, by decide +kernel⟩
theorem m_inT (T : Txt K mg) (F : LgF K) (D : DfnM K "Ledger" "_true" "Ledger._true" s_Ledger__true) :
    CalM P w K mg base CX0 1 (He.fAd K ("Ledger", some "_true")) ["self", "known", "valid"] (spPart K inT) := by
  refine D.cal sc_Ledger__true (fun _ _ _ _ _ _ us hl => match us, hl with | [_, _, _], _ => rfl) (fun vs H Q E' h => ?_) fun cdv A outer s H vs Q E' hr h => ?_
  · obtain ⟨x, k, v, ds, es, rfl, _⟩ := h
    rfl
  obtain ⟨x, k, v, ds, es, rfl, ⟨dx, a, b, zs, hx, ha, hb, hz⟩, el, q⟩ := h
  refine ⟨_, (pss_one (ps_ret (pe_lc (own := [("written", 3), ("time", 4), ("_", 5), ("sums", 6)]) (g := gTup K 4 (gCons (gName 3) (gCons (gName 4) (gCons (gName 5) (gCons (gName 6) gNil))))) rfl sc_Ledger__true.nd (pi_list (pe_fld (pv 0) rfl)) (blkOk_by (N := ["self", "known", "valid", "written", "time", "_", "sums"]) (sc := defScope s_Ledger__true) (by decide +kernel)) (fun _ _ _ _ _ => (pg_tup rfl (pgs_cons (pg_name (i := 3) sc_Ledger__true.nd rfl (by first | exact Or.inl rfl | exact Or.inr rfl)) (pgs_cons (pg_name (i := 4) sc_Ledger__true.nd rfl (by first | exact Or.inl rfl | exact Or.inr rfl)) (pgs_cons (pg_name (i := 5) sc_Ledger__true.nd rfl (by first | exact Or.inl rfl | exact Or.inr rfl)) (pgs_cons (pg_name (i := 6) sc_Ledger__true.nd rfl (by first | exact Or.inl rfl | exact Or.inr rfl)) pgs_nil)))))) (fun _ _ _ _ _ => (pts_one (PW.pt (pw_and (pt_cmpR op_le (pv 3) (pv 1) (nomark _)) (pw_and1 (pt_cmpR op_le (pv 4) (pv 2) (nomark _))))))) (fun _ _ _ _ _ => (pv 6))))), ?_⟩
  have hl : zs.length = es.length := Paired.length hz
  refine ⟨_, rfl, x, _, dx, _, _, rfl, hx, F.cl, F.nE, rfl, b, rfl, ⟨zs, SqL.of hb⟩, fun D hD => lc_gen walk_list walk_at es (inT k v) hl.symm (sz (m := 60) (by omega)) hD (fun H' s' => SqL.of (s' _ _ hb)) (fun H' e y => ∃ p, y = .ref p ∧ H' p = some (.dT e.2.2.2)) (fun _ _ _ _ e ⟨p, e1, e2⟩ => ⟨p, e1, e _ _ e2⟩)
    (fun _ _ _ _ _ e ⟨p, e1, e2⟩ => ⟨p, e1, (upd_ne (ne_of e2 e (by intro z; cases z))).trans e2⟩) (fun i u e H2 A B hi hu he s2 kA kB => ?_) (fun H2 acc s2 h2 pr => q H2 D acc s2 hD h2 pr)⟩
  obtain ⟨t, p, rfl, h1, h2⟩ := Paired.at2 hz hu he
  refine ⟨t, _, rfl, SqT.of (s2 _ _ h1), rfl, _, _, rfl, _, _, rfl, _, _, rfl, _, _, rfl, rfl, rfl, ?_⟩
  refine ⟨_, rfl, _, rfl, _, _, rfl, rfl, ?_⟩
  refine ⟨_, rfl, ?_⟩
  cases c1 : decide (e.1 ≤ k) with
  | false => exact iteF (iteF (kB (by unfold inT; rw [c1]; rfl) _ (Same.refl _)))
  | true =>
    refine iteT ⟨_, rfl, _, rfl, _, _, rfl, rfl, _, rfl, ?_⟩
    cases c2 : decide (e.2.1 ≤ v) with
    | false => exact iteF (kB (by unfold inT; rw [c1, c2]; rfl) _ (Same.refl _))
    | true => exact iteT ⟨_, rfl, kA (by unfold inT; rw [c1, c2]; rfl) _ _ (Same.refl _) ⟨p, rfl, s2 _ _ h2⟩⟩
end
end K28

set_option Elab.async false
set_option linter.all false
set_option maxRecDepth 100000
set_option maxHeartbeats 4000000
namespace K28
open PySem PySem.Spec PyProof.Rows L2 Sr
theorem mN_ {X : Cx} {k j : Nat} {C f : Addr} {ps : List Str} {sp : Sp} {m : Str} {o e : Expr} {es : List Expr} {ta : TE} {t : TA} {p apos : Pos} {pl : Sem Bool} (M : CalM X.prog X.w X.K X.mg X.base CX0 k f ps sp) (hr : Room j X.A) (hk : k ≤ j) (c : Cls X.K C) (hm : Meth X.K C m f) (he : PE X o ta) (ha : PA X (e :: es) t)
    (hst : starEach (e :: es) X.env = (false, eval e X.env) :: starEach es X.env := by rfl) (hpl : (backTo p (starEach es X.env)).any (·.1) = false := by rfl)
    (ht : eval (.Call (.Attribute o m apos) (e :: es) [] p) X.env = (do
      let ov ← eval o X.env
      standAt apos.atName
      let (f, first) ← holding [ov] (getMethod ov m pl)
      callWith p f first (backTo p (starEach (e :: es) X.env)) (backToKw p (keywordEach [] X.env))) := by rfl) : PE X (.Call (.Attribute o m apos) (e :: es) [] p) (tMeth C m sp [] E0 ta t) := by
  obtain ⟨fd, F, kp, hb⟩ := M.ex
  exact pe_meth he c hm F (hr.mono hk) hb .nil pass0 ha hst hpl ht
/-- what stands of an account and a thing in some entries -/
theorem acc_strP {d : Dt} (f : accP d) (h : accOk d = true) : ∃ s, d = .str s := by
  rcases f with f | ⟨l, rfl, _⟩
  · exact acc_str f h
  · cases (show accOk (.tup l) = false from rfl).symm.trans h
def sumEnt (p : Str × Str) (es : List Ent) : Int := (es.map fun e => intOf (valV e.2.2.2 (pk p))).sum
theorem two_times {dk dv : Dt} (h : badTm [dk, dv] 0 = none) : ∃ n m, dk = .int n ∧ dv = .int m := by
  unfold badTm at h
  cases c1 : timeOk dk with
  | false => rw [c1, if_neg (by simp)] at h; cases h
  | true =>
    rw [c1, if_pos rfl] at h
    unfold badTm at h
    cases c2 : timeOk dv with
    | false => rw [c2, if_neg (by simp)] at h; cases h
    | true =>
      obtain ⟨n, rfl⟩ := time_int c1
      obtain ⟨m, rfl⟩ := time_int c2
      exact ⟨n, m, rfl, rfl⟩
def spBal2 (K : PySem.W.Frag) (f : Int → Int → Ent → Bool) : Sp := fun vs H Q E => ∃ x a t k v ds es da dt dk dv, vs = [.ref x, a, t, k, v] ∧ LedAt K H x ds es ∧ es.length ≤ 60 ∧ (∀ e ∈ es, Ints isPk e.2.2.2) ∧ Is H a da ∧ accP da ∧ Is H t dt ∧ Is H k dk ∧ Is H v dv ∧
  (accOk da = true → nameOk dt = true → badTm [dk, dv] 0 = none → ∀ A B n m, da = .str A → dt = .str B → dk = .int n → dv = .int m → ∀ H', Same H H' → Q (.int (sumEnt (A, B) (es.filter (f n m)))) H') ∧
  (accOk da = false → ∀ H' e, Same H H' → H' e = none → E (.ref (He.ga K "BadAccount")) (some e) (upd H' e (.xd [("account", a)]))) ∧
  (accOk da = true → nameOk dt = false → ∀ H' e, Same H H' → H' e = none → E (.ref (He.ga K "BadName")) (some e) (upd H' e (.xd [("thing", t)]))) ∧
  (accOk da = true → nameOk dt = true → ∀ i u, badTm [dk, dv] 0 = some i → [k, v][i]? = some u → ∀ H' e, Same H H' → H' e = none → E (.ref (He.ga K "BadTime")) (some e) (upd H' e (.xd [("time", u)])))
section
variable {P : Program} {w : World} {K : PySem.W.Frag} {mg : Str → Option Value} {base : Heap}
abbrev s_Ledger_balance : Stmt := inClass (top 27) 4
theorem sc_Ledger_balance : FnScope ["self", "account", "thing", "known", "valid", "sums"] ["self", "account", "thing", "known", "valid"] (defScope s_Ledger_balance) := ⟨rfl, rfl, rfl, by decide +kernel, rfl, by decide +kernel, by decide +kernel⟩
theorem m_balance (T : Txt K mg) (F : LgF K) (D : DfnM K "Ledger" "balance" "Ledger.balance" s_Ledger_balance) (MB : CalM P w K mg base CX0 1 (He.fAd K ("Ledger", some "_true")) ["self", "known", "valid"] (spPart K inT)) (Mb : Meth K (He.ga K "Ledger") "_true" (He.fAd K ("Ledger", some "_true")))
    (C_check_account : CalE P w K mg base 3 "_check_account" ["account", "thing"] (spChkA K)) (C_check_times : CalE P w K mg base 3 "_check_times" ["times"] (spChkT K)) :
    CalM P w K mg base (L2.CX P w) 4 (He.fAd K ("Ledger", some "balance")) ["self", "account", "thing", "known", "valid"] (spBal2 K inT) := by
  refine D.calE sc_Ledger_balance (fun _ _ _ _ _ _ us hl => match us, hl with | [_, _, _, _, _], _ => rfl) (fun vs H Q E' h => ?_) fun cdv A outer s H vs Q E hr h => ?_
  · obtain ⟨x, a, t, k, v, ds, es, da, dt, dk, dv, rfl, _⟩ := h
    rfl
  obtain ⟨x, a, t, k, v, ds, es, da, dt, dk, dv, rfl, L, el, ei, ia, fa, it, ik, iv, q, e1, e2, e3⟩ := h
  refine ⟨_, (pss_cons (ps_expr (pe_calE C_check_account hr (by first | decide | omega) (by rfl) (passes_def rfl rfl rfl rfl) (pa_cons (pv 1) (pa_cons (pv 2) pa_nil))))
      (pss_cons (ps_expr (pe_calE C_check_times hr (by first | decide | omega) (by rfl) (passes_def rfl rfl rfl rfl) (pa_cons (pe_lst (pa_cons (pv 3) (pa_cons (pv 4) pa_nil))) pa_nil)))
      (pss_one (ps_ret (pe_callB (id := "sum") (cr_sum rfl) (by rfl) T.sum (by decide +kernel) (pa_cons (pe_lc (own := [("sums", 5)]) (g := gName 5) (tt := tYes) rfl sc_Ledger_balance.nd (pi_list (mN_ MB hr (by decide) F.cl Mb (pv 0) (pa_cons (pv 3) (pa_cons (pv 4) pa_nil)))) (blkOk_by (N := ["self", "account", "thing", "known", "valid", "sums"]) (sc := defScope s_Ledger_balance) (by decide +kernel)) (fun _ _ _ _ _ => (pg_name (i := 5) sc_Ledger_balance.nd rfl (by first | exact Or.inl rfl | exact Or.inr rfl))) (fun _ _ _ _ _ => pts_nil) (fun _ _ _ _ _ => (pe_dget2 (hu_of hr) (pv 5) (pe_tup (pa_cons (pv 1) (pa_cons (pv 2) pa_nil))) pe_int ⟨rfl, by rfl, rfl, rfl⟩))) pa_nil)))))), ?_⟩
  refine ⟨_, rfl, _, rfl, a, t, da, dt, rfl, ia, fa, it, fun ca ct H1 s1 => ?_, fun c H' e s he => e1 c H' e s he, fun c c2 H' e s he => e2 c c2 H' e s he⟩
  refine ⟨_, rfl, _, rfl, lineN (n := 2), fun p hp => ⟨p, [k, v], [dk, dv], rfl, upd_same, .cons (ik.mono (s1.trans (Same.up hp))) (.cons (iv.mono (s1.trans (Same.up hp))) .nil), (show (2 : Nat) ≤ 60 by decide), fun cb H2 s2 => ?_, fun i u hb hu H' e s he => e3 ca ct i u hb hu H' e (s1.trans ((Same.up hp).trans s)) he⟩⟩
  have s12 := s1.trans ((Same.up (o := .lst [k, v]) hp).trans s2)
  obtain ⟨n, m, rfl, rfl⟩ := two_times cb
  obtain ⟨A', rfl⟩ := acc_strP fa ca
  obtain ⟨B', rfl⟩ := name_str ct
  cases ik
  cases iv
  cases ia with
  | str _ za =>
  cases it with
  | str _ zt =>
  have L2 := L.mono s12
  have Lc := L2
  obtain ⟨dx, la, lb, zs, hx, _⟩ := Lc
  refine ⟨_, rfl, x, dx, _, rfl, hx, rfl, _, rfl, _, rfl, x, n, m, ds, es, rfl, L2, el, fun H3 l acc s3 hl hacc pr => ?_⟩
  have al : acc.length = (es.filter (inT n m)).length := Paired.length pr
  have fl := List.length_filter_le (inT n m) es
  refine ⟨l, rfl, ⟨acc, SqL.of hacc⟩, fun D hD => lc_pure walk_list (At := fun i x => acc[i]? = some x) (fun _ _ _ _ y => y) ((es.filter (inT n m)).map fun e => V.int (intOf (valV e.2.2.2 (pk (A', B'))))) (by rw [List.length_map, al]) (sz (m := 60) (by omega)) hD (fun H' s' => SqL.of (s' _ _ hacc)) (fun i u y H4 R hi hu hy s4 kk => ?_) (fun H4 s4 h4 => ?_)⟩
  · rw [List.getElem?_map] at hy
    obtain ⟨e, he, rfl⟩ := Option.map_eq_some_iff.mp hy
    obtain ⟨S, rfl, hS⟩ := Paired.at2 pr hu he
    have I0 := ei e (List.mem_filter.mp (List.mem_of_getElem? he)).1
    have hd := s4 _ _ hS
    refine ⟨_, rfl, S, rfl, .inr ⟨_, .inl hd⟩, _, rfl, _, rfl, two_line, fun p2 hp2 => ⟨_, DGet.t (k := pk (A', B')) ((Same.up hp2) _ _ hd) upd_same, ?_⟩⟩
    rw [I0.get]
    exact kk _ (Same.up hp2)
  · refine ⟨D, (es.filter (inT n m)).map fun e => intOf (valV e.2.2.2 (pk (A', B'))), rfl, SqL.of (by rw [h4, List.map_map]; rfl), ?_⟩
    exact q ca ct cb A' B' n m rfl rfl rfl rfl H4 (s12.trans (s3.trans s4))
end
end K28

set_option Elab.async false
set_option linter.all false
set_option maxRecDepth 100000
set_option maxHeartbeats 4000000
namespace Sr
open PySem PySem.Spec PyProof.Rows L2
/-! ### several things locked while an expression runs -/
def tLocks (t : TE) : List (Addr × HO) → TE
  | [] => t
  | p :: r => fun σ H Q => H p.1 = some p.2 ∧ Mut (some p.2) ∧ ∀ od, tLocks t r σ (upd H p.1 (.frz od p.2)) fun v H' => H' p.1 = some (.frz od p.2) ∧ Q v (upd H' p.1 p.2)
theorem pe_locks0 {X : Cx} {e : Expr} {t : TE} (h : PE X e t) : ∀ l, PE X e (tLocks t l)
  | [] => h
  | p :: r => ⟨fun pins s σ H Q I hw => (pe_lock (pe_locks0 h r)).run pins s σ H Q I ⟨p.1, p.2, hw.1, hw.2.1, hw.2.2⟩⟩
def tLocked (t : TE) : TE := fun σ H Q => ∃ l, tLocks t l σ H Q
theorem pe_locks {X : Cx} {e : Expr} {t : TE} (h : PE X e t) : PE X e (tLocked t) := ⟨fun pins s σ H Q I ⟨l, hw⟩ => (pe_locks0 h l).run pins s σ H Q I hw⟩
/-- all let go again -/
def unl : List (Addr × HO) → Hp → Hp
  | [], H => H
  | p :: r, H => upd (unl r H) p.1 p.2
theorem unl_out : ∀ {l : List (Addr × HO)} {H : Hp} {b : Addr}, b ∉ l.map (·.1) → unl l H b = H b
  | [], _, _, _ => rfl
  | p :: r, H, b, h => by
    have h1 : b ≠ p.1 := fun e => h (by rw [List.map_cons, e]; exact List.mem_cons_self)
    show upd (unl r H) p.1 p.2 b = H b
    rw [upd_ne h1]
    exact unl_out fun m => h (by rw [List.map_cons]; exact List.mem_cons_of_mem _ m)
theorem unl_in : ∀ {l : List (Addr × HO)} {H : Hp} {p : Addr × HO}, (l.map (·.1)).Nodup → p ∈ l → unl l H p.1 = some p.2
  | q :: r, H, p, nd, m => by
    rw [List.map_cons] at nd
    obtain ⟨n1, n2⟩ := List.nodup_cons.mp nd
    show upd (unl r H) q.1 q.2 p.1 = some p.2
    rcases List.mem_cons.mp m with rfl | m
    · exact upd_same
    · rw [upd_ne fun e => n1 (by rw [← e]; exact List.mem_map.mpr ⟨p, m, rfl⟩)]
      exact unl_in n2 m
structure Lkd (l : List (Addr × HO)) (H H2 : Hp) : Prop where
  on : ∀ p ∈ l, ∃ od, H2 p.1 = some (.frz od p.2)
  off : ∀ b, b ∉ l.map (·.1) → H2 b = H b
theorem locks_in {t : TE} : ∀ (l : List (Addr × HO)) {σ : L2.St} {H : Hp} {Q : VK}, (l.map (·.1)).Nodup → (∀ p ∈ l, H p.1 = some p.2 ∧ Mut (some p.2)) →
    (∀ (H2 : Hp) (R : VK), Lkd l H H2 → (∀ v H', (∀ p ∈ l, H' p.1 = H2 p.1) → Q v (unl l H') → R v H') → t σ H2 R) → tLocks t l σ H Q
  | [], σ, H, Q, _, _, h => h H Q ⟨fun p m => absurd m (by simp), fun b _ => rfl⟩ fun v H' _ q => q
  | d :: r, σ, H, Q, nd, hl, h => by
    rw [List.map_cons] at nd
    obtain ⟨n1, n2⟩ := List.nodup_cons.mp nd
    have ne : ∀ p ∈ r, p.1 ≠ d.1 := fun p m e => n1 (by rw [← e]; exact List.mem_map.mpr ⟨p, m, rfl⟩)
    refine ⟨(hl d List.mem_cons_self).1, (hl d List.mem_cons_self).2, fun od => locks_in r n2 (fun p m => ?_) fun H2 R k hR => ?_⟩
    · rw [upd_ne (ne p m)]
      exact hl p (List.mem_cons_of_mem _ m)
    · have hd : H2 d.1 = some (.frz od d.2) := (k.off d.1 n1).trans upd_same
      refine h H2 R ⟨fun p m => ?_, fun b hb => ?_⟩ fun v H' hp q => hR v H' (fun p m => hp p (List.mem_cons_of_mem _ m)) ⟨?_, q⟩
      · rcases List.mem_cons.mp m with rfl | m
        · exact ⟨od, hd⟩
        · exact k.on p m
      · rw [List.map_cons] at hb
        rw [k.off b fun m => hb (List.mem_cons_of_mem _ m), upd_ne fun e => hb (by rw [e]; exact List.mem_cons_self)]
      · rw [unl_out n1, hp d List.mem_cons_self]
        exact hd
end Sr

set_option Elab.async false
set_option linter.all false
set_option maxRecDepth 100000
set_option maxHeartbeats 4000000
namespace Sr
open PySem PySem.Spec PyProof.Rows L2
/-! ### sorted(set(xs)), xs a list of pairs of texts (TupSets's way through the table, for pairs of texts) -/
def pHash (P : Program) (w : World) (p : Str × Str) : Int := tupleKeyHash (mixKind P w) (pk p)
def PAt (P : Program) (w : World) (h : Heap) (p : Str × Str) (b : Addr) : Prop := IsTupleKey (mixKind P w) h (pk p) b
section
variable {P : Program} {w : World} {A : Around} {E : Value → Shared → Prop} {s : Shared}
theorem PAt.raw {h : Heap} {p : Str × Str} {b : Addr} (x : PAt P w h p b) : ∃ (o : Obj) (t1 t2 : Tok) (n : Nat), h.get? b = some o ∧ o.cls = .type "tuple" ∧ o.data = .seq #[.str p.1 t1, .str p.2 t2] n := by
  obtain ⟨o, its, n, ho, hc, hd, hi⟩ := x
  have z : ∃ t1 t2, its.toList = [Value.str p.1 t1, Value.str p.2 t2] := by
    generalize its.toList = l at hi
    cases hi with
    | cons h1 r => cases r with
      | cons h2 r =>
        cases r
        rcases keyIs_shape (show keyIs (Sum.inr p.1) _ = true from h1) with ⟨i, t, e, _⟩ | ⟨x1, t1, e1, rfl⟩
        · cases e
        rcases keyIs_shape (show keyIs (Sum.inr p.2) _ = true from h2) with ⟨i, t, e, _⟩ | ⟨x2, t2, e2, rfl⟩
        · cases e
        cases e1
        cases e2
        exact ⟨_, _, rfl⟩
  obtain ⟨t1, t2, e⟩ := z
  have e2 : its = #[.str p.1 t1, .str p.2 t2] := Array.toList_inj.mp e
  exact ⟨o, t1, t2, n, ho, hc, e2 ▸ hd⟩
theorem PAt.in_ {h h' : Heap} {p : Str × Str} {b : Addr} (x : PAt P w h p b) (k : ∀ o, h.get? b = some o → h'.get? b = some o) : PAt P w h' p b := by
  obtain ⟨o, its, n, ho, r⟩ := x
  exact ⟨o, its, n, k o ho, r⟩
theorem PAt.off {h h' : Heap} {p : Str × Str} {a b : Addr} {o : Obj} {es : Array (Int × Value)} {ep : Nat} {t : SetTable} (x : PAt P w h p b) (ha : h.get? a = some o) (hd : o.data = .set es ep t) (z : Heap.SameBut a h h') : PAt P w h' p b := by
  refine x.in_ fun u hu => (z.2 b fun e => ?_).trans hu
  obtain ⟨o2, _, _, _, h1, _, h3⟩ := x.raw
  subst e
  rw [ha] at h1
  cases h1
  rw [hd] at h3
  cases h3
theorem cls_text (n : Nat) (z : Str) (t : Tok) : ofAClassStatement n (.str z t) = pure false := by cases n <;> rfl
theorem cls_pair {p : Str × Str} {b : Addr} {Q : Bool → Shared → Prop} (x : PAt P w s.heap p b) (q : Q false s) : wpAny (model P w) A (ofAClassStatement 8 (.ref b)) Q E s := by
  obtain ⟨o, t1, t2, n, ho, hc, hd⟩ := x.raw
  unfold ofAClassStatement
  refine wpAny_bind (wpAny_typeOf (T := "tuple") ⟨o, ho, hc⟩ ?_)
  dsimp only
  simp only [show (("tuple" : String) == "tuple") = true from by decide, if_true]
  refine wpAny_bind (wpAny_pure ?_)
  simp only [Bool.not_true, Bool.false_eq_true, if_false]
  refine wpAny_bind (wpAny_seqItems ho hd ?_)
  dsimp only
  rw [← Array.forIn_toList]
  simp only [List.forIn_cons, List.forIn_nil, cls_text, pure_bind, Bool.false_eq_true, if_false]
  exact wpAny_pure q
theorem hash_pair {p : Str × Str} {b : Addr} {Q : Bool → Shared → Prop} (x : PAt P w s.heap p b) (q : Q false s) : wpAny (model P w) A (hashByValue 8 (.ref b)) Q E s := by
  have hT := x.typeIs
  obtain ⟨o, t1, t2, n, ho, hc, hd⟩ := x.raw
  unfold hashByValue
  refine wpAny_bind (wpAny_specialOf hT F.slot_tuple_hash.lookup ?_)
  show wpAny _ _ (seqItems? (.ref b) >>= _) _ _ s
  refine wpAny_bind (wpAny_seqItems ho hd ?_)
  rw [← Array.forIn_toList]
  simp only [Option.getD_some, List.forIn_cons, hashByValue, pure_bind, Bool.not_false, if_true]
  exact wpAny_pure q

/-- a search among pairs shows nothing of the table -/
theorem shy_pairs {p : Str × Str} {b : Addr} {Q : Bool → Shared → Prop} (x : PAt P w s.heap p b) (q : Q false s) : ∀ {ys : List Value}, (∀ y ∈ ys, ∃ p' c, y = Value.ref c ∧ PAt P w s.heap p' c) → wpAny (model P w) A (searchCouldBeSeen (.ref b) ys) Q E s := by
  intro ys hy
  unfold searchCouldBeSeen
  refine wpAny_bind (wpAny_forIn_list _ (fun rest r s' => (r.1 = none ∧ s' = s) ∧ ∀ y ∈ rest, ∃ p' c, y = Value.ref c ∧ PAt P w s.heap p' c) _ ?_ ?_ _ _ ⟨⟨rfl, rfl⟩, hy⟩)
  · rintro y rest r s' ⟨⟨hr, rfl⟩, all⟩
    have go : r.1 = none ∧ s' = s' := ⟨hr, rfl⟩
    have tail := fun z (hz : z ∈ rest) => all z (List.mem_cons_of_mem _ hz)
    obtain ⟨p', c, rfl, xc⟩ := all y List.mem_cons_self
    dsimp only
    split
    · exact wpAny_pure ⟨⟨rfl, rfl⟩, tail⟩
    · refine wpAny_bind (wpAny_eqIsQuiet_tuple x ?_)
      simp only [Bool.not_true, Bool.false_eq_true, if_false]
      refine wpAny_bind (wpAny_eqIsQuiet_tuple xc ?_)
      simp only [Bool.not_true, Bool.false_eq_true, if_false]
      refine wpAny_bind (cls_pair x ?_)
      simp only [Bool.false_eq_true, if_false]
      refine wpAny_bind (cls_pair xc ?_)
      simp only [Bool.false_eq_true, if_false]
      exact wpAny_pure ⟨⟨rfl, rfl⟩, tail⟩
  · rintro ⟨r1, r2⟩ s' ⟨⟨hr, rfl⟩, _⟩
    cases (show r1 = none from hr)
    exact wpAny_pure q
abbrev Pq := Addr × (Str × Str)
def pRow (P : Program) (w : World) (q : Pq) : Int × Value := (pHash P w q.2, .ref q.1)
/-- the set at a has the pairs L, in the order of its table -/
structure PSet (P : Program) (w : World) (h : Heap) (a : Addr) (L : List Pq) (es : Array (Int × Value)) (ep : Nat) (t : SetTable) : Prop where
  obj : ∃ o, h.get? a = some o ∧ o.ExactSet ∧ o.data = .set es ep t
  ent : es.toList = L.map (pRow P w)
  tab : TabOk t (L.map fun q => pHash P w q.2)
  one : (L.map (·.2)).Nodup
  tup : ∀ q ∈ L, PAt P w h q.2 q.1
  ord : w.params.followText "set-order" = true ∨ t.led = true
  gap : L.length * 5 < t.mask * 3
  few : L.length < 64
variable {a : Addr} {L : List Pq} {es : Array (Int × Value)} {ep : Nat} {t : SetTable}
theorem PSet.len (R : PSet P w s.heap a L es ep t) : es.size = L.length := by
  rw [← Array.length_toList, R.ent, List.length_map]
theorem PSet.places (R : PSet P w s.heap a L es ep t) : t.place.toList.length = L.length := by
  rw [Array.length_toList, R.tab.sz, List.length_map]
theorem fits_of {t : SetTable} {n : Nat} (h1 : t.place.size = n) (h2 : t.dummies = #[]) (h3 : n ≤ t.mask) : t.fits n = true := by
  simp [SetTable.fits, SetTable.fill, h1, h2, h3]
theorem PSet.fit (R : PSet P w s.heap a L es ep t) : t.fits es.size = true := by
  have h1 := R.places
  have h2 := R.len
  have h3 := R.gap
  rw [Array.length_toList] at h1
  exact fits_of (by omega) R.tab.dm (by omega)
theorem PSet.at_ (R : PSet P w s.heap a L es ep t) {i : Nat} {q : Pq} (h : L[i]? = some q) : es[i]? = some (pRow P w q) := by
  rw [← Array.getElem?_toList, R.ent, List.getElem?_map, h, Option.map_some]
theorem not_gave {m : SetTable} (h : MaskOk m.mask) : ¬ m.gaveWay = true := by
  unfold SetTable.gaveWay
  rw [mask_odd h]
  decide
abbrev stepAt (m : Nat) (h : Int) (c : Nat) : SetTable.Probe := nth m (runAt m (SetTable.bits h % (m + 1)) (SetTable.bits h)) c
theorem step_more (m : Nat) (h : Int) (c q : Nat) : nth m (stepAt m h c) q = stepAt m h (c + q) := (nth_add m c _ q).symm
theorem nth_dummy {m : Nat} : ∀ (n : Nat) (p : SetTable.Probe), p.dummy = none → (nth m p n).dummy = none
  | 0, _, h => h
  | n + 1, p, h => nth_dummy n _ (by unfold adv; split <;> exact h)
theorem opt_fst {es : Array (Int × Value)} {i : Nat} {x : Int × Value} (h : es[i]? = some x) : ((es[i]?.map (·.1)).getD 0) = x.1 := by rw [h]; rfl
theorem pRow_mk (x : Addr) (p : Str × Str) : pRow P w (x, p) = (pHash P w p, Value.ref x) := by unfold pRow; rfl
theorem pRow_fst (q : Pq) : (pRow P w q).1 = pHash P w q.2 := by unfold pRow; rfl
theorem PSet.hash (R : PSet P w s.heap a L es ep t) {i : Nat} {q : Pq} (hq : L[i]? = some q) : ((es[i]?.map (·.1)).getD 0) = pHash P w q.2 := (opt_fst (R.at_ hq)).trans (pRow_fst q)
/-- the search, from the c-th step of its way on -/
theorem seek (R : PSet P w s.heap a L es ep t) {x : Addr} {p : Str × Str} (hx : PAt P w s.heap p x) (hu : A.units < cLine) {K : Nat} (far : K < 10 * SetTable.turns t.mask)
    (fr : way t.mask (pHash P w p) K ∉ t.place.toList) (bsy : ∀ c, c < K → way t.mask (pHash P w p) c ∈ t.place.toList) {Q : SetFound → Shared → Prop}
    (yes : p ∈ L.map (·.2) → Q (.there none) s) (no : p ∉ L.map (·.2) → Q (.free (way t.mask (pHash P w p) K) false) s) :
    ∀ (f c : Nat) (st : Option SetTable.Probe), st.getD (t.probeStart (pHash P w p)) = stepAt t.mask (pHash P w p) c → c ≤ K → K < c + f →
      (∀ (i : Nat) (q : Pq), L[i]? = some q → q.2 = p → ∃ d, c ≤ d ∧ d < K ∧ t.place.toList[i]? = some (way t.mask (pHash P w p) d)) →
      wpAny (model P w) A (setSearchFrom a (.ref x) (pHash P w p) true f st) Q E s := by
  obtain ⟨o, ho, hex, hd⟩ := R.obj
  intro f
  induction f with
  | zero => intro c st _ h1 h2; omega
  | succ f ih =>
    intro c st hst hc hf here
    have wy : ∀ q, (nth t.mask (stepAt t.mask (pHash P w p) c) q).j = way t.mask (pHash P w p) (c + q) := fun q => congrArg SetTable.Probe.j (step_more _ _ c q)
    have hashes : ∀ (i : Nat) (q : Pq), L[i]? = some q → ((es[i]?.map (·.1)).getD 0) = pHash P w q.2 := fun i q hq => R.hash hq
    have spec := go_spec t R.tab.ris R.tab.dm (fun i => (es[i]?.map (·.1)).getD 0) (pHash P w p) (10 * SetTable.turns t.mask) (K - c) (stepAt t.mask (pHash P w p) c) (nth_dummy _ _ rfl) (by omega)
      (fun q hq => by rw [wy]; exact bsy _ (by omega)) (by rw [wy, show c + (K - c) = K by omega]; exact fr)
    rw [setSearchFrom_succ]
    refine wpAny_bind (wpAny_setState_of ho hd R.fit ?_)
    dsimp only
    refine wp_if_neg (not_gave R.tab.mok) ?_
    try refine wpAny_bind (wpAny_pure ?_)
    rcases spec with ⟨q, i, hq, hi, _, none_, hp⟩ | ⟨none_, hp⟩
    · have hp2 : t.probe (fun i => (es[i]?.map (·.1)).getD 0) (pHash P w p) (st.getD (t.probeStart (pHash P w p))) = some (.candidate (way t.mask (pHash P w p) (c + q)) i (stepAt t.mask (pHash P w p) (c + (q + 1)))) := by
        rw [hst, ← wy, ← step_more]
        exact hp
      rw [hp2]
      dsimp only
      rw [wy] at hi
      obtain ⟨hi2, _⟩ := List.getElem?_eq_some_iff.mp hi
      rw [R.places] at hi2
      have hL : L[i]? = some L[i] := List.getElem?_eq_getElem hi2
      generalize L[i] = u at hL
      have mu := List.mem_of_getElem? hL
      have live := slot_live R.tab.ris hi
      have onward : wpAny (model P w) A (searchRest a (.ref x) (pHash P w p) true f es t (way t.mask (pHash P w p) (c + q)) i (stepAt t.mask (pHash P w p) (c + (q + 1)))) Q E s := by
        unfold searchRest
        rw [R.at_ hL]
        dsimp only [pRow]
        refine wpAny_bind (wpAny_holding (wpAny_eqBool_tuple hu (R.tup u mu) hx ?_))
        refine wpAny_bind (wpAny_setState_of ho hd R.fit ?_)
        dsimp only
        by_cases e : u.2 = p
        · rw [decide_eq_true (show pk u.2 = pk p by rw [e])]
          refine wp_if_pos rfl (wpAny_pure (yes (List.mem_map.mpr ⟨u, mu, e⟩)))
        · have ne : ¬ pk u.2 = pk p := fun z => e (pk_inj z)
          rw [decide_eq_false ne]
          refine wp_if_neg (by decide) ?_
          try refine wpAny_bind (wpAny_pure ?_)
          rw [sameMem]
          dsimp only
          simp only [if_true, live, R.at_ hL, pRow]
          refine wpAny_bind (wpAny_isSame_ref_self (wpAny_bind (wpAny_pure ?_)))
          simp only [if_true]
          refine wp_if_neg (by decide) ?_
          refine ih (c + (q + 1)) _ rfl (by omega) (by omega) fun i2 u2 h2 e2 => ?_
          obtain ⟨d, d1, d2, d3⟩ := here i2 u2 h2 e2
          refine ⟨d, ?_, d2, d3⟩
          rcases Nat.lt_trichotomy d (c + q) with z | z | z
          · refine absurd ((hashes i2 u2 h2).trans (by rw [e2])) (none_ (d - c) i2 (by omega) ?_)
            rw [wy, show c + (d - c) = d by omega]
            exact d3
          · rw [z] at d3
            have l2 := slot_live R.tab.ris d3
            rw [live] at l2
            injection l2 with l2
            rw [← l2, hL] at h2
            cases h2
            exact absurd e2 e
          · omega
      by_cases hl : t.led = true
      · refine wp_if_neg (by rw [hl]; decide) ?_
        try refine wpAny_bind (wpAny_pure ?_)
        exact onward
      · refine wp_if_pos (by simpa using hl) ?_
        refine wpAny_bind (shy_pairs hx ?_ fun y hy => ?_)
        · refine wp_if_neg (by decide) ?_
          try refine wpAny_bind (wpAny_pure ?_)
          exact onward
        · obtain ⟨e, he, rfl⟩ := List.mem_map.mp hy
          have he2 : e ∈ es.toList := by
            have := (show e ∈ es ∧ e.1 = pHash P w p by simpa using he).1
            simpa using this
          rw [R.ent] at he2
          obtain ⟨u2, m2, rfl⟩ := List.mem_map.mp he2
          exact ⟨u2.2, u2.1, rfl, R.tup u2 m2⟩
    · have hp2 : t.probe (fun i => (es[i]?.map (·.1)).getD 0) (pHash P w p) (st.getD (t.probeStart (pHash P w p))) = some (.empty (way t.mask (pHash P w p) K) none) := by
        rw [hst, show way t.mask (pHash P w p) K = (nth t.mask (stepAt t.mask (pHash P w p) c) (K - c)).j by rw [wy, show c + (K - c) = K by omega]]
        exact hp
      rw [hp2]
      dsimp only
      refine wpAny_pure (no fun m => ?_)
      obtain ⟨u, mu, e⟩ := List.mem_map.mp m
      obtain ⟨i, hi⟩ := List.mem_iff_getElem?.mp mu
      obtain ⟨d, d1, d2, d3⟩ := here i u hi e
      refine none_ (d - c) i (by omega) ?_ ((hashes i u hi).trans (by rw [e]))
      rw [wy, show c + (d - c) = d by omega]
      exact d3
theorem seek_all (R : PSet P w s.heap a L es ep t) {x : Addr} {p : Str × Str} (hx : PAt P w s.heap p x) (hu : A.units < cLine) {Q : SetFound → Shared → Prop} (yes : p ∈ L.map (·.2) → Q (.there none) s)
    (no : ∀ K, p ∉ L.map (·.2) → way t.mask (pHash P w p) K ∉ t.place.toList → (∀ c, c < K → way t.mask (pHash P w p) c ∈ t.place.toList) → Q (.free (way t.mask (pHash P w p) K) false) s) :
    wpAny (model P w) A (setSearch a (.ref x) (pHash P w p) true) Q E s := by
  have g := R.gap
  obtain ⟨K, k1, k2, k3⟩ := R.tab.first (h := pHash P w p) (by rw [List.length_map]; omega)
  have small : 10 * SetTable.turns t.mask ≤ 1420 := by
    unfold SetTable.turns
    rcases R.tab.mok with e | e | e <;> omega
  unfold setSearch
  refine seek R hx hu k1 k2 k3 yes (fun n => no K n k2 k3) 100000 0 none rfl (Nat.zero_le _) (by omega) fun i q hq e => ?_
  have hi : (L.map fun q => pHash P w q.2)[i]? = some (pHash P w p) := by rw [List.getElem?_map, hq, ← e, Option.map_some]
  have lt : i < t.place.toList.length := by rw [R.places]; exact (List.getElem?_eq_some_iff.mp hq).1
  have hj := List.getElem?_eq_getElem lt
  obtain ⟨d, d1, d2⟩ := R.tab.before k2 hi hj
  exact ⟨d, Nat.zero_le _, d1, by rw [hj, d2]⟩
end
end Sr

set_option Elab.async false
set_option linter.all false
set_option maxRecDepth 100000
set_option maxHeartbeats 4000000
namespace Sr
open PySem PySem.Spec PyProof.Rows L2
section
variable {P : Program} {w : World} {A : Around} {E : Value → Shared → Prop} {s : Shared} {a : Addr} {L : List Pq} {es : Array (Int × Value)} {ep : Nat} {t : SetTable}
/-! ### the table laid anew -/
theorem fm_range {α : Type} : ∀ l : List α, (List.range l.length).filterMap (fun i => l[i]?) = l
  | [] => rfl
  | x :: l => by
    rw [List.length_cons, List.range_succ_eq_map, List.filterMap_cons]
    show x :: List.filterMap _ _ = _
    rw [List.filterMap_map]
    exact congrArg (x :: ·) (fm_range l)
theorem fm_some {α β : Type} {f : α → Option β} {g : α → β} : ∀ {l : List α}, (∀ x ∈ l, f x = some (g x)) → l.filterMap f = l.map g
  | [], _ => rfl
  | x :: l, h => by rw [List.filterMap_cons, h x List.mem_cons_self, List.map_cons, fm_some fun y m => h y (List.mem_cons_of_mem _ m)]
theorem order_fst {α : Type} {f : α → Int × Value} {es : Array (Int × Value)} {L : List α} (get : ∀ i : Nat, es[i]? = (L[i]?).map f) {o : List Nat} (within : ∀ i ∈ o, i < L.length) :
    (o.filterMap fun i => L[i]?).map (fun q => (f q).1) = o.map fun i => (es.map (·.1)).getD i 0 := by
  rw [List.map_filterMap]
  refine fm_some fun i m => ?_
  have lt := within i m
  have e5 : (es.map (·.1))[i]? = some (f L[i]).1 := by
    rw [Array.getElem?_map, get, List.getElem?_eq_getElem lt]
    rfl
  rw [List.getElem?_eq_getElem lt, Array.getD_eq_getD_getElem?, e5]
  rfl
theorem laid_anew {o : Obj} (ho : s.heap.get? a = some o) (hex : o.ExactSet) (hd : o.data = .set es ep t) (ent : es.toList = L.map (pRow P w)) (pl : t.place.size = es.size) (dm : t.dummies = #[]) (le : es.size ≤ t.mask)
    (one : (L.map (·.2)).Nodup) (tup : ∀ q ∈ L, PAt P w s.heap q.2 q.1) (ord : w.params.followText "set-order" = true ∨ t.led = true) (few : L.length < 64) {big M : Nat}
    (hw : SetTable.sizeAbove big - 1 = M) (mok : MaskOk M) (hw2 : SetTable.sizeAbove big ≤ 128) (gap : L.length * 5 < M * 3) {Q : Unit → Shared → Prop}
    (hQ : ∀ h' L' es' ep' t', Heap.SameBut a s.heap h' → PSet P w h' a L' es' ep' t' → L'.Perm L → Q () { s with heap := h' }) : wpAny (model P w) A (setRelay a big) Q E s := by
  have el : es.size = L.length := by rw [← Array.length_toList, ent, List.length_map]
  have get : ∀ i : Nat, es[i]? = (L[i]?).map (pRow P w) := fun i => by rw [← Array.getElem?_toList, ent, List.getElem?_map]
  obtain ⟨t2, order, e, perm, tab, em, eled, _, edm⟩ := relaid_ok t (hs := es.map (·.1)) (wanted := big) hw mok (by rw [Array.size_map]; omega)
  rw [Array.size_map, el] at perm
  have within : ∀ i ∈ order.toList, i < L.length := fun i m => List.mem_range.mp (perm.mem_iff.mp m)
  have r1 : (order.filterMap (es[·]?)).toList = (order.toList.filterMap fun i => L[i]?).map (pRow P w) := by
    rw [Array.toList_filterMap, List.map_filterMap]
    exact congrArg (fun f => List.filterMap f order.toList) (funext get)
  have r2 : (order.toList.filterMap fun i => L[i]?).Perm L := by
    have h := perm.filterMap (fun i => L[i]?)
    rwa [fm_range] at h
  have r3 := order_fst (f := pRow P w) get within
  simp only [pRow_fst] at r3
  rw [← r3] at tab
  have sz : (order.filterMap (es[·]?)).size = es.size := by rw [← Array.length_toList, r1, List.length_map, r2.length_eq, el]
  rw [setRelay_eq]
  refine wpAny_bind (wpAny_setState_of ho hd (fits_of pl dm le) ?_)
  dsimp only
  refine wp_if_neg (by rw [sizeLine_eq]; omega) ?_
  try refine wpAny_bind (wpAny_pure ?_)
  rw [e]
  dsimp only
  refine wpAny_bind ?_
  refine wp_if_neg (by rw [sz]; simp) ?_
  try refine wpAny_bind (wpAny_pure ?_)
  refine wpAny_pure ?_
  dsimp only
  refine wpAny_storeSet_of ho hd ?_ (by rw [sz, el, sizeLine_eq]; omega)
  have but : Heap.SameBut a s.heap (s.heap.update a (Obj.putSet (order.filterMap (es[·]?)) t2)) := Heap.SameBut.update ..
  exact hQ _ _ _ (ep + 1) t2 but ⟨⟨_, store_at ho hd, ⟨hex.1, hex.2.1, hex.2.2⟩, rfl⟩, r1, tab, (r2.map (·.2)).nodup_iff.mpr one, fun q m => (tup q (r2.mem_iff.mp m)).off ho hd but, by rw [eled]; exact ord, by rw [r2.length_eq, em]; exact gap, by rw [r2.length_eq]; exact few⟩ r2
/-- behind a put: the store, and the table laid anew where it is full -/
theorem stored {o : Obj} {L1 : List Pq} {es1 : Array (Int × Value)} {t1 : SetTable} (ho : s.heap.get? a = some o) (hex : o.ExactSet) (hd : o.data = .set es ep t) (el : es.size + 1 = L1.length) (ent : es1.toList = L1.map (pRow P w)) (tab : TabOk t1 (L1.map fun q => pHash P w q.2)) (one : (L1.map (·.2)).Nodup)
    (tup : ∀ q ∈ L1, PAt P w s.heap q.2 q.1) (ord : w.params.followText "set-order" = true ∨ t1.led = true) (few : L1.length < 64) (gap : (L1.length - 1) * 5 < t1.mask * 3) {Q : Bool → Shared → Prop}
    (hQ : ∀ h' L' es' ep' t', Heap.SameBut a s.heap h' → PSet P w h' a L' es' ep' t' → L'.Perm L1 → Q true { s with heap := h' }) :
    wpAny (model P w) A (do
      storeSet a es1 t1
      if !false && t1.tooFull then setRelay a (SetTable.grown (es.size + 1))
      return true) Q E s := by
  have el1 : es1.size = L1.length := by rw [← Array.length_toList, ent, List.length_map]
  refine wpAny_bind (wpAny_storeSet_of ho hd ?_ (by rw [el1, sizeLine_eq]; omega))
  have but : Heap.SameBut a s.heap (s.heap.update a (Obj.putSet es1 t1)) := Heap.SameBut.update ..
  have ho1 := store_at (es' := es1) (t' := t1) ho hd
  generalize s.heap.update a (Obj.putSet es1 t1) = h1 at but ho1 ⊢
  have tup1 : ∀ q ∈ L1, PAt P w h1 q.2 q.1 := fun q m => (tup q m).off ho hd but
  have pl1 : t1.place.size = L1.length := by rw [tab.sz, List.length_map]
  have fill : t1.tooFull = decide (L1.length * 5 ≥ t1.mask * 3) := by simp [SetTable.tooFull, SetTable.fill, tab.dm, pl1]
  rw [Bool.not_false, Bool.true_and, fill]
  by_cases full : L1.length * 5 ≥ t1.mask * 3
  · rw [decide_eq_true full]
    have which : (t1.mask = 7 ∧ L1.length = 5) ∨ (t1.mask = 31 ∧ L1.length = 19) := by
      rcases tab.mok with e | e | e <;> rw [e] at full gap <;> omega
    have go : ∀ M, SetTable.sizeAbove (SetTable.grown L1.length) - 1 = M → MaskOk M → SetTable.sizeAbove (SetTable.grown L1.length) ≤ 128 → L1.length * 5 < M * 3 →
        wpAny (model P w) A (setRelay a (SetTable.grown (es.size + 1))) (fun _ s' => wpAny (model P w) A (pure true) Q E s') E { s with heap := h1 } := fun M h1' h2' h3' h4' => by
      rw [el]
      exact laid_anew (s := { s with heap := h1 }) ho1 ⟨hex.1, hex.2.1, hex.2.2⟩ rfl ent (by rw [pl1, el1]) tab.dm (by rw [el1]; rcases which with ⟨e, e2⟩ | ⟨e, e2⟩ <;> omega) one tup1 ord few h1' h2' h3' h4' fun h2 L2 es2 ep2 t2 b2 R2 p2 => wpAny_pure (hQ h2 L2 es2 ep2 t2 (but.trans b2) R2 p2)
    have gone : wpAny (model P w) A (setRelay a (SetTable.grown (es.size + 1))) (fun _ s' => wpAny (model P w) A (pure true) Q E s') E { s with heap := h1 } := by
      rcases which with ⟨_, e2⟩ | ⟨_, e2⟩
      · exact go 31 (by rw [e2, size_20]) (.inr (.inl rfl)) (by rw [e2, size_20]; decide) (by omega)
      · exact go 127 (by rw [e2, size_76]) (.inr (.inr rfl)) (by rw [e2, size_76]; decide) (by omega)
    first
      | exact wp_if_pos rfl (wpAny_bind gone)
      | exact wpAny_bind (wp_if_pos rfl gone)
  · rw [decide_eq_false full]
    have fin : wpAny (model P w) A (pure true) Q E { s with heap := h1 } := wpAny_pure (hQ h1 L1 es1 (ep + 1) t1 but ⟨⟨_, ho1, ⟨hex.1, hex.2.1, hex.2.2⟩, rfl⟩, ent, tab, one, tup1, ord, by omega, few⟩ (List.Perm.refl _))
    first
      | exact wp_if_neg (by decide) fin
      | exact wpAny_bind (wp_if_neg (by decide) (wpAny_pure fin))
theorem mid_perm {α : Type} (L : List α) (p : Nat) (x : α) : (L.take p ++ x :: L.drop p).Perm (x :: L) := by
  have h : (L.take p ++ x :: L.drop p).Perm (x :: (L.take p ++ L.drop p)) := List.perm_middle
  rwa [List.take_append_drop] at h
/-- a pair put in -/
theorem put_in (R : PSet P w s.heap a L es ep t) {x : Addr} {p : Str × Str} (hx : PAt P w s.heap p x) (hu : A.units < cLine) (few : L.length + 1 < 64) {Q : Bool → Shared → Prop}
    (hQ : ∀ b h' L' es' ep' t', Heap.SameBut a s.heap h' → PSet P w h' a L' es' ep' t' → (p ∈ L.map (·.2) ∧ L' = L ∨ p ∉ L.map (·.2) ∧ L'.Perm ((x, p) :: L)) → Q b { s with heap := h' }) :
    wpAny (model P w) A (setAddHashed a (.ref x) (pHash P w p)) Q E s := by
  obtain ⟨o, ho, hex, hd⟩ := R.obj
  have el := R.len
  have gp := R.gap
  unfold setAddHashed
  refine wpAny_holding ?_
  rw [show (100000 : Nat) = 99999 + 1 from rfl, setAddHashedIn_succ]
  refine wpAny_bind (wpAny_setState_of ho hd R.fit ?_)
  dsimp only
  refine wp_if_neg (by simp [byScan, Value.scannable]) ?_
  try refine wpAny_bind (wpAny_pure ?_)
  refine wpAny_bind (seek_all R hx hu (fun m => ?_) fun K m k2 k3 => ?_)
  · dsimp only
    exact wpAny_pure (hQ false s.heap L es ep t (Heap.SameBut.refl a s.heap) R (.inl ⟨m, rfl⟩))
  · dsimp only
    refine wpAny_bind (wpAny_setState_of ho hd R.fit ?_)
    dsimp only
    obtain ⟨q1, q2, q3, q4, q5, q6, _, _, _⟩ := R.tab.put k2 k3
    generalize t.put (way t.mask (pHash P w p) K) = tp at q1 q3 q4 q5 q6 ⊢
    obtain ⟨t1, j⟩ := tp
    dsimp only at q1 q3 q4 q5 q6 ⊢
    rw [← q1] at q2 q3
    have pm := mid_perm L j (x, p)
    have tab1 : TabOk t1 ((L.take j ++ (x, p) :: L.drop j).map fun q => pHash P w q.2) := by
      rw [List.map_append, List.map_cons, List.map_take, List.map_drop]
      exact q3
    have ent1 : (SetTable.insertAt es j (pHash P w p, Value.ref x)).toList = (L.take j ++ (x, p) :: L.drop j).map (pRow P w) := by
      rw [SetTable.toList_insertAt, R.ent, List.map_append, List.map_cons, List.map_take, List.map_drop, pRow_mk]
    have one1 : ((L.take j ++ (x, p) :: L.drop j).map (·.2)).Nodup := by
      refine (pm.map (·.2)).nodup_iff.mpr ?_
      rw [List.map_cons]
      exact List.nodup_cons.mpr ⟨m, R.one⟩
    have len1 := pm.length_eq
    rw [List.length_cons] at len1
    have tup1 : ∀ q ∈ L.take j ++ (x, p) :: L.drop j, PAt P w s.heap q.2 q.1 := fun q mq => by
      rcases List.mem_cons.mp (pm.mem_iff.mp mq) with e | mq
      · rw [e]; exact hx
      · exact R.tup q mq
    have fin : ∀ t2 : SetTable, t2.place = t1.place → t2.dummies = t1.dummies → t2.mask = t1.mask → t2.led = t1.led → wpAny (model P w) A (do
        storeSet a (SetTable.insertAt es j (pHash P w p, Value.ref x)) t2
        if !false && t2.tooFull then setRelay a (SetTable.grown (es.size + 1))
        return true) Q E s := fun t2 e1 e2 e3 e4 => by
      refine stored ho hex hd (by omega) ent1 ⟨by rw [e1]; exact tab1.ris, by rw [e2]; exact tab1.dm, by rw [e1]; exact tab1.sz, by rw [e3]; exact tab1.mok, by rw [e1, e3]; exact tab1.bd, by rw [e1, e3]; exact tab1.reach⟩ one1 tup1 (by rw [e4, q5]; exact R.ord) (by omega) (by rw [e3, q4]; omega) fun h' L' es' ep' t' b R' p' => hQ true h' L' es' ep' t' b R' (.inr ⟨m, p'.trans pm⟩)
    by_cases hp : t1.plain = true
    · first
        | (refine wpAny_bind ?_; refine wp_if_pos hp ?_; refine hash_pair hx ?_)
        | refine wp_if_pos hp (wpAny_bind (hash_pair hx ?_))
      simp only [Bool.false_eq_true, if_false]
      exact fin _ rfl rfl rfl rfl
    · first
        | (refine wpAny_bind ?_; refine wp_if_neg hp ?_; refine wpAny_pure ?_)
        | refine wp_if_neg hp (wpAny_bind (wpAny_pure ?_))
        | refine wp_if_neg hp ?_
      simp only [if_true]
      exact fin _ rfl rfl rfl rfl
end
end Sr

set_option Elab.async false
set_option linter.all false
set_option maxRecDepth 100000
set_option maxHeartbeats 4000000
namespace Sr
open PySem PySem.Spec PyProof.Rows L2
/-! ### set(xs) of a list of pairs -/
/-- what a set has behind the first i of ks -/
structure HasP (ks : List Pq) (i : Nat) (L : List Pq) : Prop where
  old : ∀ q ∈ L, q ∈ ks.take i
  all : ∀ q ∈ ks.take i, q.2 ∈ L.map (·.2)
  few : L.length ≤ i
theorem HasP.next {ks L L' : List Pq} {i : Nat} {q : Pq} (g : HasP ks i L) (h : ks[i]? = some q) (c : q.2 ∈ L.map (·.2) ∧ L' = L ∨ q.2 ∉ L.map (·.2) ∧ L'.Perm (q :: L)) : HasP ks (i + 1) L' := by
  have et : ks.take (i + 1) = ks.take i ++ [q] := by rw [List.take_succ, h]; rfl
  rcases c with ⟨m, rfl⟩ | ⟨_, pm⟩
  · refine ⟨fun u mu => ?_, fun u mu => ?_, Nat.le_succ_of_le g.few⟩
    · rw [et]; exact List.mem_append_left _ (g.old u mu)
    · rw [et] at mu
      rcases List.mem_append.mp mu with z | z
      · exact g.all u z
      · rw [List.mem_singleton.mp z]; exact m
  · refine ⟨fun u mu => ?_, fun u mu => ?_, ?_⟩
    · rw [et]
      rcases List.mem_cons.mp (pm.mem_iff.mp mu) with z | z
      · rw [z]; exact List.mem_append_right _ List.mem_cons_self
      · exact List.mem_append_left _ (g.old u z)
    · rw [(pm.map (·.2)).mem_iff, List.map_cons]
      rw [et] at mu
      rcases List.mem_append.mp mu with z | z
      · exact List.mem_cons_of_mem _ (g.all u z)
      · rw [List.mem_singleton.mp z]; exact List.mem_cons_self
    · rw [pm.length_eq, List.length_cons]
      exact Nat.succ_le_succ g.few
theorem perm_lift {α β : Type} {f : α → β} {l k : List β} (h : l.Perm k) : ∀ m : List α, k = m.map f → ∃ m2 : List α, m2.Perm m ∧ l = m2.map f := by
  induction h with
  | nil =>
    intro m e
    cases m with
    | nil => exact ⟨[], .nil, rfl⟩
    | cons _ _ => cases e
  | cons x _ ih =>
    intro m e
    cases m with
    | nil => cases e
    | cons y m =>
      rw [List.map_cons] at e
      obtain ⟨e1, e2⟩ := List.cons.inj e
      obtain ⟨m', p, e3⟩ := ih m e2
      exact ⟨y :: m', p.cons y, by rw [List.map_cons, e1, e3]⟩
  | swap x y l =>
    intro m e
    cases m with
    | nil => cases e
    | cons a m => cases m with
      | nil => cases e
      | cons b m =>
        rw [List.map_cons, List.map_cons] at e
        obtain ⟨e1, e2⟩ := List.cons.inj e
        obtain ⟨e3, e4⟩ := List.cons.inj e2
        exact ⟨b :: a :: m, .swap _ _ _, by rw [List.map_cons, List.map_cons, e1, e3, e4]⟩
  | trans _ _ ih1 ih2 =>
    intro m e
    obtain ⟨m2, p2, e2⟩ := ih2 m e
    obtain ⟨m1, p1, e1⟩ := ih1 m2 e2
    exact ⟨m1, p1.trans p2, e1⟩
section
variable {P : Program} {w : World} {A : Around} {E : Value → Shared → Prop} {s : Shared}
theorem PSet.in_ {h h' : Heap} {a : Addr} {L : List Pq} {es : Array (Int × Value)} {ep : Nat} {t : SetTable} (R : PSet P w h a L es ep t) (ka : ∀ o, h.get? a = some o → h'.get? a = some o) (kt : ∀ q ∈ L, PAt P w h' q.2 q.1) : PSet P w h' a L es ep t := by
  obtain ⟨o, ho, r⟩ := R.obj
  exact ⟨⟨o, ka o ho, r⟩, R.ent, R.tab, R.one, kt, R.ord, R.gap, R.few⟩
abbrev fresh0 (w : World) : Obj := nset (!w.params.followText "set-order")
theorem PSet.new {h : Heap} {a : Addr} (ho : h.get? a = some (fresh0 w)) : PSet P w h a [] #[] 0 (.fresh 0 0 (!w.params.followText "set-order")) where
  obj := ⟨_, ho, ⟨rfl, rfl, rfl⟩, rfl⟩
  ent := rfl
  tab := ⟨List.Pairwise.nil, rfl, rfl, .inl rfl, fun x hx => (by cases hx), fun i h j hi => (by simp at hi)⟩
  one := List.nodup_nil
  tup := fun q m => (by cases m)
  ord := by
    show _ ∨ (!w.params.followText "set-order") = true
    cases w.params.followText "set-order" <;> simp
  gap := by show 0 * 5 < 7 * 3; decide
  few := by show 0 < 64; decide
theorem pairs_loop {I : Addr} {fp wr : List Addr} {G : Array GenState → Array GenState → Prop} {n : Nat} {Pv : Nat → Value → Prop} {Stt : Nat → Shared → Prop} {R : Result → Shared → Prop}
    (W : WalksS P w A.in1 I fp wr G n Pv Stt) (S : Addr) (hSf : S ∉ fp) (ks : List Pq) (hn : n = ks.length) (few : ks.length < 64) (hv : ∀ i v, Pv i v → ∃ q, ks[i]? = some q ∧ v = .ref q.1)
    (h0 : Heap) (hk : ∀ q ∈ ks, PAt P w h0 q.2 q.1) (hS0 : h0.get? S = none) (hw0 : ∀ b ∈ wr, h0.get? b = none) (hu : A.in1.units < cLine) (d : Nat) :
    ∀ (i : Nat) (s : Shared), n = i + d → Stt i s → (∀ b o, h0.get? b = some o → s.heap.get? b = some o) → (∃ L es ep t, PSet P w s.heap S L es ep t ∧ HasP ks i L) →
      (∀ s' L es ep t, Moved (S :: wr) G s s' → PSet P w s'.heap S L es ep t → HasP ks n L → (∀ b o, h0.get? b = some o → s'.heap.get? b = some o) → R (.ok (.ret .none)) s') →
      codeAny (model P w) A (.builtin "set.update.loop" ⟨[.ref S, .ref I], []⟩) R s := by
  have out : S ∉ wr := fun h => hSf (W.sub _ h)
  have more : ∀ b ∈ wr, b ∈ S :: wr := fun b h => List.mem_cons_of_mem _ h
  have stays : ∀ {s s' : Shared}, Moved wr G s s' → (∀ b o, h0.get? b = some o → s.heap.get? b = some o) → ∀ b o, h0.get? b = some o → s'.heap.get? b = some o := fun hm k b o e =>
    hm.heap b o (fun z => by rw [hw0 b z] at e; cases e) (k b o e)
  have sets : ∀ {s s' : Shared} {L es ep t i}, Moved wr G s s' → (∀ b o, h0.get? b = some o → s.heap.get? b = some o) → PSet P w s.heap S L es ep t → HasP ks i L → PSet P w s'.heap S L es ep t := fun hm k hS g =>
    hS.in_ (fun o e => hm.heap S o out e) fun q m => (hk q (List.mem_of_mem_take (g.old q m))).in_ fun o e => stays hm k _ o e
  induction d with
  | zero =>
    intro i s hd hs k ⟨L, es, ep, t, hS, g⟩ hR
    obtain rfl : n = i := hd
    refine codeAny_builtin PyProof.Rows.F.entry_set_update_loop ?_
    rw [Around.under_plainId PyProof.Rows.F.plain_set_update_loop _]
    show wpAny _ A.in1 (pyNext (.ref I) >>= _) _ _ s
    refine wpAny_bind (W.done s _ _ hs fun s' hm => ?_)
    show wpAny _ A.in1 (ret Value.none) _ _ s'
    exact wpAny_pure (hR s' L es ep t (hm.mono more) (sets hm k hS g) g (stays hm k))
  | succ d ih =>
    intro i s hd hs k ⟨L, es, ep, t, hS, g⟩ hR
    have lt : i < n := by omega
    refine codeAny_builtin PyProof.Rows.F.entry_set_update_loop ?_
    rw [Around.under_plainId PyProof.Rows.F.plain_set_update_loop _]
    show wpAny _ A.in1 (pyNext (.ref I) >>= _) _ _ s
    refine wpAny_bind (W.item i s _ _ lt hs fun v s' hP hs' hm => ?_)
    obtain ⟨q, hq, rfl⟩ := hv i v hP
    have k' := stays hm k
    have hS' := sets hm k hS g
    have hx : PAt P w s'.heap q.2 q.1 := (hk q (List.mem_of_getElem? hq)).in_ fun o e => k' _ o e
    show wpAny _ A.in1 (holding [Value.ref q.1] (setAdd S (.ref q.1)) >>= _) _ _ s'
    refine wpAny_bind (wpAny_holding ?_)
    unfold setAdd
    refine wpAny_holding (wpAny_bind (wpAny_pyHash_tuple hu hx ?_))
    refine put_in (s := { s' with toks := s'.toks + ((pk q.2).length + 1) }) hS' hx hu (by have := g.few; omega) fun b h' L' es' ep' t' hsb hS2 c => ?_
    have k2 : ∀ b o, h0.get? b = some o → h'.get? b = some o := fun b o e => (hsb.2 b fun z => by rw [z, hS0] at e; cases e).trans (k' b o e)
    refine wpAny_pure ⟨plainId_quiet PyProof.Rows.F.plain_set_update_loop _, ih (i + 1) _ (by omega) (W.frame _ s' _ _ hs' (Nat.le_add_right _ _) fun b hb o e => ?_) k2 ⟨L', es', ep', t', hS2, g.next hq c⟩ fun s2 L2 es2 ep2 t2 hm2 hS3 g2 k3 => ?_⟩
    · rw [hsb.2 b (fun h : b = S => hSf (by rw [← h]; exact hb))]
      exact e
    · refine hR s2 L2 es2 ep2 t2 (Moved.trans W.gtrans ((hm.mono more).then_heap (Nat.le_add_right _ _) fun b o hb e => ?_) hm2) hS3 g2 k3
      rw [hsb.2 b (fun h : b = S => hb (by rw [h]; exact List.mem_cons_self))]
      exact e
/-- what set(l) leaves -/
def PSetOut (P : Program) (w : World) (s : Shared) (ks : List Pq) (h' : Heap) : Prop :=
  ∃ L es ep t, PSet P w h' s.heap.objs.size L es ep t ∧ HasP ks ks.length L ∧ ∀ b o, s.heap.get? b = some o → h'.get? b = some o
theorem pairs_set {l : Addr} {items : Array Value} (ks : List Pq) {Q : Value → Shared → Prop} (hh : A.handled = none) (hl : s.heap.IsList l items) (hit : items.toList = ks.map fun q => Value.ref q.1) (hk : ∀ q ∈ ks, PAt P w s.heap q.2 q.1) (few : ks.length < 64) (hu : A.units + 8 < cLine)
    (h : ∀ (h' : Heap) (tk : Nat), PSetOut P w s ks h' → Q (.ref s.heap.objs.size) { s with heap := h', toks := tk }) :
    wpAny (model P w) A (call (.type "set") [.ref l]) Q E s := by
  have isz : items.size = ks.length := by rw [← Array.length_toList, hit, List.length_map]
  obtain ⟨ol, hol, hcl, nl, hdl⟩ := id hl
  have lt : l < s.heap.objs.size := Heap.lt_size hol
  obtain ⟨c, tl, hmro⟩ := PySem.F.called_set.mro
  have a1 := PySem.F.called_set.made
  have a2 := PySem.F.called_set.sub
  have a3 := PySem.F.called_set.notType
  have a4 := PySem.F.called_set.canCreate
  have a5 := PySem.F.typeCall_set_1 (.ref l)
  refine wpAny_call (codeAny_of_tree ?_)
  show wpAny _ _ (callAny (.type "set") _) _ _ _
  refine wpAny_pure ⟨Code.quiet_builtin _ (by decide +kernel), codeAny_builtin PySem.F.entry_type_call ?_⟩
  rw [Around.under_plain (weight_type_call_type "set" [.ref l] []) rfl]
  repeat (any_goals (first | assumption | wp_step))
  refine codeAny_mono (code_set_led1 (.ref l) (E := E) (Q₁ := fun obj t => obj = .ref s.heap.objs.size ∧ t = { s with heap := s.heap.push (fresh0 w) }) ⟨rfl, rfl⟩) fun r t hr => ?_
  cases r with
  | error e => exact hr
  | ok fl =>
    cases fl with
    | ret obj =>
      obtain ⟨rfl, rfl⟩ := hr
      have b1 : (s.heap.push (fresh0 w)).get? s.heap.objs.size = some (fresh0 w) := Heap.get?_push_size _ rfl
      have b2 : Shared.TypeIs { s with heap := s.heap.push (fresh0 w) } (.ref s.heap.objs.size) "set" := ⟨_, b1, rfl⟩
      have b3 := PySem.F.called_set.init.lookup
      have b4 := PySem.F.called_set.init.bind (.ref s.heap.objs.size)
      repeat (any_goals (first | assumption | wp_step))
      refine codeAny_mono (codeAny_call_builtin (R := wants (fun r t => r = .none ∧ ∃ h' tk, t = { s with heap := h', toks := tk } ∧ PSetOut P w s ks h') E) PySem.F.called_set.init.plain PySem.F.entry_set_init (check_set_init_1 b2 ?_)) fun r t hr => ?_
      · have c1 : Shared.TypeIs { s with heap := s.heap.push (fresh0 w) } (.ref l) "list" := ⟨ol, Heap.get?_push_of_some _ hol, hcl⟩
        have e1 := PySem.F.sub_list_set
        have e2 := PySem.F.sub_list_frozenset
        have e3 : (Value.type "list" == Value.type "dict") = false := by decide
        have il : (s.heap.push (fresh0 w)).IsList l items := hl.push _
        unfold Builtin.«set.__init__» noKeywords Builtin.Frozenset.updateFrom
        generalize hPI : pyIter = PI
        wp_walk
        subst hPI
        refine wpAny_pyIter_list il ?_
        have z1 : (s.heap.push (fresh0 w)).objs.size = s.heap.objs.size + 1 := Heap.size_push ..
        rw [z1]
        refine wpAny_bind (wpAny_runValue ?_)
        have nS : s.heap.objs.size ∉ [s.heap.objs.size + 1, l] := fun z => by
          rcases List.mem_cons.mp z with z | z
          · exact Nat.ne_of_lt (Nat.lt_succ_self _) z
          · exact Nat.ne_of_gt lt (List.mem_singleton.mp z)
        have ne : l ≠ s.heap.objs.size + 1 := Nat.ne_of_lt (Nat.lt_succ_of_lt lt)
        have free : ∀ b, s.heap.objs.size ≤ b → s.heap.get? b = none := fun b hb => by
          cases q : s.heap.get? b with
          | none => rfl
          | some o => exact absurd (Heap.lt_size q) (Nat.not_lt.mpr hb)
        have g2 : ((s.heap.push (fresh0 w)).push { cls := .type "list_iterator", data := .fields #[.ref l, .int 0 0] }).get? (s.heap.objs.size + 1) = some { cls := .type "list_iterator", data := .fields #[.ref l, .int 0 0] } := by
          have e := Heap.get?_push_size (s.heap.push (fresh0 w)) (o := { cls := .type "list_iterator", data := .fields #[.ref l, .int 0 0] }) rfl
          rwa [Heap.size_push] at e
        refine pairs_loop ((Walks.list (by simp [hh]) _ l ne items).toS) s.heap.objs.size nS ks isz few (fun i v hv => ?_) s.heap hk (free _ (Nat.le_refl _)) (fun b hb => free b (by rw [List.mem_singleton.mp hb]; omega)) (by simp only [Around.in1_units]; omega) items.size 0 _ (by omega)
          ⟨⟨_, g2, rfl, rfl⟩, il.push _⟩ (fun b o e => Heap.get?_push_of_some _ (Heap.get?_push_of_some _ e)) ⟨[], #[], 0, _, PSet.new (Heap.get?_push_of_some _ b1), ⟨fun q m => (by cases m), fun q m => (by simp at m), Nat.le_refl _⟩⟩ fun s' L es ep t hm hS g k => ?_
        · have e : items.toList[i]? = some v := by rw [Array.getElem?_toList]; exact hv
          rw [hit, List.getElem?_map] at e
          obtain ⟨q, h1, h2⟩ := Option.map_eq_some_iff.mp e
          exact ⟨q, h1, h2.symm⟩
        · obtain ⟨h', g', d', tk', os'⟩ := s'
          obtain rfl : g' = s.gens := hm.gens
          obtain rfl : d' = s.drawn := hm.drawn
          obtain rfl : os' = s.os := hm.os
          show wpAny _ _ _ _ _ _
          refine wpAny_pure ?_
          show wpAny _ _ (ret Value.none) _ _ _
          rw [isz] at g
          exact wpAny_pure ⟨rfl, h', tk', rfl, L, es, ep, t, hS, g, k⟩
      · cases r with
        | error e => exact hr
        | ok fl =>
          cases fl with
          | ret r =>
            obtain ⟨rfl, h', tk, rfl, o⟩ := hr
            repeat (any_goals (first | assumption | wp_step))
            exact h _ _ o
          | _ => exact hr.elim
    | _ => exact hr.elim
end
end Sr

set_option Elab.async false
set_option linter.all false
set_option maxRecDepth 100000
set_option maxHeartbeats 4000000
namespace Sr
open PySem PySem.Spec PyProof.Rows L2
/-! ### sorted(set(xs)) -/
theorem each_refs {H : Hp} : ∀ {L : List Pq}, (∀ q ∈ L, AtP H q.1 q.2) → PySem.W.EachIs (fun v b => ∃ q, v = Value.ref q ∧ AtP H q b) (L.map fun q => Value.ref q.1) (L.map (·.2))
  | [], _ => .nil
  | q :: L, h => .cons ⟨q.1, rfl, h q List.mem_cons_self⟩ (each_refs fun u m => h u (List.mem_cons_of_mem _ m))
theorem refs_of : ∀ {ks : List Pq} {us : List Value}, Vals (ks.map fun q => V.ref q.1) us → us = ks.map fun q => Value.ref q.1
  | [], _, .nil => rfl
  | q :: ks, _, .cons r t => by
    cases r
    rw [refs_of t, List.map_cons]
section
variable {X : Cx}
theorem pat_of {pins : List (Addr × Obj)} {σ : L2.St} {H : Hp} {s : Shared} (I : L2.Inv X pins σ H s) {q : Addr} {p : Str × Str} (h : AtP H q p) : PAt X.prog X.w s.heap p q := by
  have hs : SqT X.K H q ((pk p).map kV) := SqT.of h
  obtain ⟨its, r, ⟨o, ho, hc, n, hd⟩, _⟩ := I.tuple hs
  have e : ItemsAre (mixKind X.prog X.w) (pk p) its := by
    cases r with
    | cons r1 t => cases t with
      | cons r2 t => cases t with
        | nil => exact .cons (kV_is (k := Sum.inr p.1) r1) (.cons (kV_is (k := Sum.inr p.2) r2) .nil)
  exact ⟨o, its.toArray, n, ho, hc, hd, by simpa using e⟩
def tSortSet (K : PySem.W.Frag) (ta : TE) : TE := fun σ H Q => ta σ H fun x H1 => ∃ (l : Addr) (ks : List Pq), x = .ref l ∧ SqL K H1 l (ks.map fun q => V.ref q.1) ∧ (∀ q ∈ ks, AtP H1 q.1 q.2) ∧ ks.length < 64 ∧
  ∀ (bs : List (Str × Str)) qs p, bs.Nodup → bs.length ≤ ks.length → (∀ b, b ∈ bs ↔ b ∈ ks.map (·.2)) → Paired (AtP H1) qs (pSort bs) → H1 p = none → Q (.ref p) (upd H1 p (.lst (qs.map V.ref)))
theorem pe_sortSet {a : Expr} {ta : TE} {p p2 q pos : Pos} (hc : X.calm = true) (hu : X.A.units + 64 < cLine) (hg : Gl X "sorted") (hm : X.mg "sorted" = none) (hg2 : Gl X "set") (hm2 : X.mg "set" = none) (ha : PE X a ta)
    (na : starEach [a] X.env = (false, eval a X.env) :: starEach [] X.env := by rfl) : PE X (.Call (.Name "sorted" p) [.Call (.Name "set" p2) [a] [] q] [] pos) (tSortSet X.K ta) := by
  refine ⟨fun pins s σ H Q I h => ?_⟩
  refine Call_ (ld_blt (u := .builtin "sorted") I hg hm (by decide +kernel) ?_)
  refine PyProof.Rows.callWith_builtin1 (PyProof.Rows.args_cons ?_ rfl) rfl rfl
  refine Call_ (ld_blt (u := .type "set") I hg2 hm2 (by decide +kernel) ?_)
  refine PyProof.Rows.callWith_type1 (PyProof.Rows.args_cons (thn (ha.run pins s σ H _ I h) fun v s1 ⟨x, H1, I1, r1, q1⟩ => PyProof.Rows.args_nil ?_) na) na rfl
  obtain ⟨l, ks, rfl, hq, hk, few, q1⟩ := q1
  cases r1
  obtain ⟨its, r, pl, hz⟩ := I1.list hq
  have hit := refs_of r
  refine pairs_set (P := X.prog) (w := X.w) ks (I1.ok.hd hc) pl.isList (by simpa using hit) (fun q m => pat_of I1 (hk q m)) few (by omega) fun h' tk ⟨L, es, ep, t, R, g, keep⟩ => ?_
  refine PyProof.Rows.args_nil ?_
  have I2 : L2.Inv X pins σ H1 { s1 with heap := h', toks := tk } := I1.kept keep
  refine Calls.call_function_entry PyProof.Rows.kind_sorted PyProof.Rows.plain_sorted PyProof.Rows.entry_sorted (PyProof.Rows.args_sorted1 _) ?_
  unfold Builtin.«sorted»
  refine wpAny_bind (m := checkCount "sorted" 1 1 _) (wpAny_pure ?_)
  obtain ⟨o, ho, hex, hd⟩ := R.obj
  have Rf := R.few
  have Rl := PSet.len (s := { s1 with heap := h', toks := tk }) R
  refine wpAny_bind (collect_set (P := X.prog) (w := X.w) (A := X.A.in1) (I1.ok.hd hc) ⟨o, ho, hex.1, hd⟩ (PSet.fit (s := { s1 with heap := h', toks := tk }) R) (by unfold scanBound; omega) R.tab.ris R.ord fun s2 vs k2 hz2 g2 o2 pm => ?_)
  have hes : es.toList.map (·.2) = L.map fun q => Value.ref q.1 := by
    rw [R.ent, List.map_map]
    rfl
  rw [hes] at pm
  obtain ⟨L', pL, rfl⟩ := perm_lift pm L rfl
  have inks : ∀ q ∈ L', q ∈ ks := fun q m => List.mem_of_mem_take (g.old q (pL.mem_iff.mp m))
  have lL : L'.length < 64 := by rw [pL.length_eq]; exact Rf
  refine wpAny_bind (wpAny_newList ?_ (by rw [List.length_map, sizeLine_eq]; omega))
  have hoL : (s2.heap.push (seqObj "list" (L'.map fun q => Value.ref q.1).toArray 0)).get? s2.heap.objs.size = some (seqObj "list" (L'.map fun q => Value.ref q.1).toArray 0) := Heap.get?_push_size _ rfl
  have k3 : ∀ b o, h'.get? b = some o → (s2.heap.push (seqObj "list" (L'.map fun q => Value.ref q.1).toArray 0)).get? b = some o := fun b o e => Heap.get?_push_of_some _ (k2 b o e)
  have hok3 : HOk X.prog X.w H1 (s2.heap.push (seqObj "list" (L'.map fun q => Value.ref q.1).toArray 0)) := I2.hok.kept k3
  have e0 := each_refs fun q m => hk q (inks q m)
  have er : PySem.W.EachIs (fun v b => ∃ as, Reads (s2.heap.push (seqObj "list" (L'.map fun q => Value.ref q.1).toArray 0)) v (encP b) as ∧ s2.heap.objs.size ∉ as) (L'.map fun q => Value.ref q.1) (L'.map (·.2)) := e0.mono fun v b ⟨q, e, h⟩ => ⟨[], by rw [e]; exact reads_pair hok3 h, by simp⟩
  refine wpAny_bind (wpAny_holding (PySem.W.list_sort_data (s := { s2 with heap := s2.heap.push (seqObj "list" (L'.map fun q => Value.ref q.1).toArray 0) }) (enc := encP) hoL e0 er (PySem.W.AllAlike.of encP_alike) (PySem.W.Sortable.tuples fun b => ⟨_, _, rfl⟩) (by rw [List.length_map, sizeLine_eq]; omega) (fun b _ => ?_) fun out hlen eo => ?_))
  · have := encP_depth b
    simp only [Around.in1_units]
    omega
  obtain ⟨qs, e1, e2, e3⟩ := vals_of_each eo
  obtain ⟨e', he'⟩ := PyProof.Rows.sortedHeap_at (vs := L'.map fun q => Value.ref q.1) (out := out.toArray) hoL
  have hlen2 : (qs.map V.ref).length ≤ sizeLine := by
    rw [e2.length, hlen, List.length_map, sizeLine_eq]
    omega
  have kk : ∀ b o, h'.get? b = some o → (PyProof.Rows.sortedHeap (s2.heap.push (seqObj "list" (L'.map fun q => Value.ref q.1).toArray 0)) s2.heap.objs.size (L'.map fun q => Value.ref q.1) out.toArray).get? b = some o := fun b o e => by
    have hb : b < s2.heap.objs.size := Heap.lt_size (k2 b o e)
    rw [PyProof.Rows.sortedHeap_old (Nat.ne_of_lt hb) (by rw [size_push']; exact Nat.lt_succ_of_lt hb)]
    exact k3 b o e
  have hn : H1 s2.heap.objs.size = none := I2.hok.fresh hz2
  have J : L2.Inv X pins σ (upd H1 s2.heap.objs.size (.lst (qs.map V.ref))) { ({ s1 with heap := h', toks := tk } : Shared) with heap := PyProof.Rows.sortedHeap (s2.heap.push (seqObj "list" (L'.map fun q => Value.ref q.1).toArray 0)) s2.heap.objs.size (L'.map fun q => Value.ref q.1) out.toArray, gens := s2.gens, drawn := s2.drawn, toks := s2.toks } :=
    I2.call (ch := []) (Un.laid kk hz2 hn) (I2.hok.laid kk hz2 ⟨hlen2, out, e', e2, he'⟩) (by rw [g2]; exact I2.bare) (fun _ z => nomatch z)
  have es2 : s2 = { ({ s1 with heap := h', toks := tk } : Shared) with heap := s2.heap, gens := s2.gens, drawn := s2.drawn, toks := s2.toks } := by
    cases s2
    cases o2
    rfl
  refine wpAny_pure ⟨_, rfl, .ref s2.heap.objs.size, upd H1 s2.heap.objs.size (.lst (qs.map V.ref)), ?_, rfl, q1 (L'.map fun q : Pq => q.2) qs _ ((pL.map fun q : Pq => q.2).nodup_iff.mpr R.one) (by rw [List.length_map, pL.length_eq]; exact g.few) (fun b => ⟨fun m => ?_, fun m => ?_⟩) e3 hn⟩
  · rw [es2]
    exact J
  · obtain ⟨q, mq, e⟩ := List.mem_map.mp m
    exact List.mem_map.mpr ⟨q, inks q mq, e⟩
  · obtain ⟨q, mq, e⟩ := List.mem_map.mp m
    rw [(pL.map (·.2)).mem_iff, ← e]
    exact g.all q (by rw [List.take_length]; exact mq)
end
end Sr

set_option Elab.async false
set_option linter.all false
set_option maxRecDepth 100000
set_option maxHeartbeats 4000000
namespace K28
open PySem PySem.Spec PyProof.Rows L2 Sr
/-- the sums of several dicts of sums, as rows -/
def rowsE (kvs : List (List Key × V)) : List Rw := kvs.map fun e => (unpk e.1, intOf (some e.2))
def allRows (ds : List (List (List Key × V))) : List Rw := (ds.map rowsE).flatten
def RowAt (H : Hp) (y : V) (r : Rw) : Prop := ∃ t, y = .ref t ∧ H t = some (.tup [.str r.1.1, .str r.1.2, .int r.2])
theorem RowAt.mono {H H' : Hp} {y : V} {r : Rw} (s : Same H H') (h : RowAt H y r) : RowAt H' y r := by
  obtain ⟨t, e, ht⟩ := h
  exact ⟨t, e, s _ _ ht⟩
def DictAt (H : Hp) (y : V) (kvs : List (List Key × V)) : Prop := ∃ p, y = .ref p ∧ H p = some (.dT kvs)
theorem DictAt.mono {H H' : Hp} {y : V} {d : List (List Key × V)} (s : Same H H') (h : DictAt H y d) : DictAt H' y d := by
  obtain ⟨t, e, ht⟩ := h
  exact ⟨t, e, s _ _ ht⟩
/-- the places of these dicts, each once -/
theorem once {H : Hp} : ∀ {ys : List V} {ds : List (List (List Key × V))}, Paired (DictAt H) ys ds → ∃ l : List (Addr × HO), (l.map (·.1)).Nodup ∧ (∀ p ∈ l, H p.1 = some p.2 ∧ ∃ d, p.2 = .dT d) ∧ ∀ y ∈ ys, ∃ p ∈ l, y = .ref p.1
  | _, _, .nil => ⟨[], List.nodup_nil, fun p m => absurd m (by simp), fun y m => absurd m (by simp)⟩
  | _, _, .cons (a := y) (b := d) ⟨q, e, hq⟩ t => by
    obtain ⟨l, nd, h1, h2⟩ := once t
    by_cases c : q ∈ l.map (·.1)
    · refine ⟨l, nd, h1, fun z m => ?_⟩
      rcases List.mem_cons.mp m with rfl | m
      · obtain ⟨p, mp, ep⟩ := List.mem_map.mp c
        exact ⟨p, mp, by rw [e, ep]⟩
      · exact h2 z m
    · refine ⟨(q, .dT d) :: l, by rw [List.map_cons]; exact List.nodup_cons.mpr ⟨c, nd⟩, fun p m => ?_, fun z m => ?_⟩
      · rcases List.mem_cons.mp m with rfl | m
        · exact ⟨hq, _, rfl⟩
        · exact h1 p m
      · rcases List.mem_cons.mp m with rfl | m
        · exact ⟨_, List.mem_cons_self, e⟩
        · obtain ⟨p, mp, ep⟩ := h2 z m
          exact ⟨p, List.mem_cons_of_mem _ mp, ep⟩
theorem rowsE_at {kvs : List (List Key × V)} (I : Ints isPk kvs) {j : Nat} {k : List Key} {v : V} (h : kvs[j]? = some (k, v)) : ∃ p n, k = pk p ∧ v = .int n ∧ (rowsE kvs)[j]? = some (p, n) := by
  obtain ⟨⟨p, e1, _⟩, n, e2⟩ := I.ent _ (List.mem_of_getElem? h)
  have e1 : k = pk p := e1
  have e2 : v = .int n := e2
  refine ⟨p, n, e1, e2, ?_⟩
  unfold rowsE
  rw [List.getElem?_map, h, e1, e2]
  rfl
theorem yes_if {F G : Hp → Prop} {σ : L2.St} {H : Hp} (h : F H) : tYes σ H fun b H3 => if b = true then F H3 else G H3 := by
  unfold tYes
  show (if true = true then _ else _)
  rw [if_pos rfl]
  exact h
theorem take_at {α : Type} {l : List α} {i : Nat} {x : α} (h : l[i]? = some x) : l.take (i + 1) = l.take i ++ [x] := by
  rw [List.take_succ, h]
  rfl
/-- of some dicts of sums: the dict of what they add up to -/
def spAdded (K : PySem.W.Frag) : Sp := fun vs H Q _ => ∃ l ys ds, vs = [.ref l] ∧ H l = some (.lst ys) ∧ ys.length ≤ 60 ∧ Paired (DictAt H) ys ds ∧ (∀ d ∈ ds, Ints isPk d) ∧ (allRows ds).length ≤ 60 ∧ (∀ r ∈ allRows ds, rowOk (rowTr r) = true) ∧
  ∀ H' p, Same H H' → H p = none → H' p = some (.dT (tk (sumT (allRows ds)))) → Q (.ref p) H'
theorem isA_rowAt {H : Hp} : ∀ {acc : List V} {rs : List Rw}, Paired (RowAt H) acc rs → (∀ r ∈ rs, small r.1) → IsA H acc (rs.map rowTr)
  | _, _, .nil, _ => .nil
  | _, _, .cons (b := r) ⟨q, e, h⟩ t, sm => by
    rw [e]
    have h1 := sm r List.mem_cons_self
    exact .cons (.tup h (.cons (.str _ h1.1) (.cons (.str _ h1.2) (.cons (.int _) .nil))) (show (3 : Nat) ≤ 60 by decide)) (isA_rowAt t fun x m => sm x (List.mem_cons_of_mem _ m))
theorem rowTr_of (r : Rw) : rowOf (rowTr r) = r := rfl
theorem rowTr_flat (r : Rw) : rowFlat (rowTr r) := by
  intro l h x m
  cases h
  simp only [List.mem_cons, List.not_mem_nil, or_false] at m
  rcases m with rfl | rfl | rfl <;> exact ⟨rfl, by intro z; cases z⟩
theorem rowsOf_tr (rs : List Rw) : rowsOf (.lst (rs.map rowTr)) = rs := by
  show (rs.map rowTr).map rowOf = rs
  rw [List.map_map]
  exact (List.map_congr_left fun r _ => rowTr_of r).trans (List.map_id rs)
theorem bad_rows {rs : List Rw} (h : ∀ r ∈ rs, rowOk (rowTr r) = true) : badAt (.lst (rs.map rowTr)) = none := by
  refine badAt_none ?_
  show (rs.map rowTr).all rowOk = true
  refine List.all_eq_true.mpr fun x m => ?_
  obtain ⟨r, mr, rfl⟩ := List.mem_map.mp m
  exact h r mr
theorem allRows_small {ds : List (List (List Key × V))} (h : ∀ d ∈ ds, Ints isPk d) : ∀ r ∈ allRows ds, small r.1 := fun r m => by
  obtain ⟨l, ml, mr⟩ := List.mem_flatten.mp m
  obtain ⟨d, md, rfl⟩ := List.mem_map.mp ml
  obtain ⟨e, me, rfl⟩ := List.mem_map.mp mr
  obtain ⟨⟨p, e1, sm⟩, _⟩ := (h d md).ent e me
  show small (unpk e.1)
  rw [e1, unpk_pk]
  exact sm
section
variable {P : Program} {w : World} {K : PySem.W.Frag} {mg : Str → Option Value} {base : Heap}
abbrev s__added : Stmt := top 33
theorem sc__added : FnScope ["parts", "sums", "key"] ["parts"] (defScope s__added) := ⟨rfl, rfl, rfl, by decide +kernel, rfl, by decide +kernel, by decide +kernel⟩
theorem c__added (T : Txt K mg) (D : Dfn K mg "_added" s__added) (C_sums : CalE P w K mg base 6 "_sums" ["rows"] (spSm K)) :
    Cal P w K mg base 7 "_added" ["parts"] (spAdded K) := by
  refine D.cal sc__added (fun _ _ _ _ _ _ us hl => match us, hl with | [_], _ => rfl) (fun vs H Q E h => ?_) fun cdv A outer s H vs Q E hr h => ?_
  · obtain ⟨l, ys, ds, rfl, _⟩ := h
    rfl
  obtain ⟨l, ys, ds, rfl, hl, yl, pr, ii, al, ok, q⟩ := h
  refine ⟨_, (pss_one (ps_ret (pe_calE C_sums hr (by first | decide | omega) (by rfl) passes_never (pa_cons (pe_locks (pe_lc2 (own := [("sums", 1), ("key", 2)]) (vs1 := [2]) (g := gName 1) (tt := tYes) (g1 := gName 2) (tt1 := tYes) rfl sc__added.nd (pi_list (pv 0)) (blkOk_by (N := ["parts", "sums", "key"]) (sc := defScope s__added) (by decide +kernel)) (by decide) (fun _ _ _ _ _ => (pg_name (i := 1) sc__added.nd rfl (by first | exact Or.inl rfl | exact Or.inr rfl))) (fun _ _ _ _ _ => pts_nil) (fun _ _ _ _ _ => (pi_keys (pv 1))) (fun _ _ _ _ _ => (pg_name (i := 2) sc__added.nd rfl (by first | exact Or.inl rfl | exact Or.inr rfl))) (fun _ _ _ _ _ => pts_nil) (fun _ _ _ _ _ => (pe_tup (pa_cons (pe_ix (ix_tupK K rfl) (pv 2) pe_int (fun _ _ => rfl)) (pa_cons (pe_ix (ix_tupK K rfl) (pv 2) pe_int (fun _ _ => rfl)) (pa_cons (pe_dget (hu_of hr) (pv 1) (pv 2) (fun _ _ => rfl)) pa_nil))))))) pa_nil)))), ?_⟩
  obtain ⟨lk, nd, lk1, lk2⟩ := once pr
  have yn : ys.length = ds.length := Paired.length pr
  refine ⟨lk, locks_in lk nd (fun p m => ⟨(lk1 p m).1, by obtain ⟨_, d, e⟩ := lk1 p m; rw [e]; trivial⟩) fun H0 R kd hR => ?_⟩
  have notin : ∀ b, (∀ d, H b ≠ some (.dT d)) → b ∉ lk.map (·.1) := fun b hb m => by
    obtain ⟨p, mp, e⟩ := List.mem_map.mp m
    obtain ⟨h1, d, h2⟩ := lk1 p mp
    rw [e, h2] at h1
    exact hb d h1
  have hl0 : H0 l = some (.lst ys) := (kd.off l (notin l fun d e => by rw [hl] at e; cases e)).trans hl
  refine ⟨_, rfl, l, rfl, ⟨ys, SqL.of hl0⟩, fun B hB => ?_⟩
  let St (rs : List Rw) (H' : Hp) : Prop := Same H0 (off [B] H') ∧ ∃ acc, H' B = some (.lst acc) ∧ Paired (RowAt (off [B] H')) acc rs
  have St0 : ∀ {rs H'}, St rs H' → Same H0 H' := fun h b o e => off_le _ _ (h.1 _ _ e)
  refine ⟨fun i m H' => i + m = ys.length ∧ St (allRows (ds.take i)) H', ⟨ys.length, by omega, ?_, [], upd_same, .nil⟩, ?_⟩
  · rw [off_set (by simp)]
    exact Same.into (Same.refl _) fun c m => by rw [List.mem_singleton.mp m]; exact hB
  rintro i m H1 ⟨hi, s1⟩
  by_cases lt : i < ys.length
  · refine .inr ⟨walk_list.goes i H1 lt (SqL.of (St0 s1 _ _ hl0)), fun H' => St (allRows (ds.take (i + 1))) H', fun H' h' => ⟨m - 1, by omega, by omega, h'⟩, fun x H' y => ?_⟩
    obtain ⟨rfl, hx⟩ := walk_list.yields i H1 x H' lt (SqL.of (St0 s1 _ _ hl0)) y
    obtain ⟨d, hd⟩ : ∃ d, ds[i]? = some d := ⟨ds[i]'(by omega), List.getElem?_eq_getElem (by omega)⟩
    obtain ⟨p, ep, hp⟩ := Paired.at2 pr hx hd
    obtain ⟨pl, mpl, epl⟩ := lk2 x (List.mem_of_getElem? hx)
    have epp : pl.1 = p := by
      rw [ep] at epl
      injection epl with e
      exact e.symm
    obtain ⟨od, hod⟩ := kd.on pl mpl
    have h2 := (lk1 pl mpl).1
    rw [epp, hp] at h2
    have h3 : pl.2 = .dT d := (Option.some.inj h2).symm
    rw [epp, h3] at hod
    subst ep
    have I0 := ii d (List.mem_of_getElem? hd)
    have er : allRows (ds.take (i + 1)) = allRows (ds.take i) ++ rowsE d := by
      unfold allRows
      rw [take_at hd, List.map_append, List.flatten_append]
      simp
    refine ⟨rfl, ?_⟩
    refine yes_if ?_
    refine ⟨_, rfl, p, od, rfl, .inr ⟨d, St0 s1 _ _ hod, fun j k H' => j + k = d.length ∧ St (allRows (ds.take i) ++ (rowsE d).take j) H', ⟨d.length, by omega, ?_⟩, ?_⟩⟩
    · rw [List.take_zero, List.append_nil]
      exact s1
    · rintro j k H2 ⟨hj, s2⟩
      have hd2 := St0 s2 _ _ hod
      by_cases lj : j < d.length
      · refine .inr ⟨walk_keysT.goes j H2 lj hd2, fun H' => St (allRows (ds.take i) ++ (rowsE d).take (j + 1)) H', fun H' h' => ⟨k - 1, by omega, by omega, h'⟩, fun x H' y => ?_⟩
        obtain ⟨rfl, kk, v, qa, e1, rfl, hq⟩ := walk_keysT.yields j H2 x H' lj hd2 y
        obtain ⟨pp, n, rfl, rfl, e2⟩ := rowsE_at I0 e1
        obtain ⟨ss, acc, hacc, pacc⟩ := s2
        have al2 : acc.length ≤ 60 := by
          have h1 := Paired.length pacc
          have h2 : (allRows ds).length = ((ds.map rowsE).map List.length).sum := by unfold allRows; rw [List.length_flatten]
          have h3 : (allRows (ds.take i) ++ (rowsE d).take j) <+: allRows ds := by
            have h4 : allRows ds = (allRows (ds.take i) ++ rowsE d) ++ allRows (ds.drop (i + 1)) := by
              rw [← er]
              unfold allRows
              rw [← List.flatten_append, ← List.map_append, List.take_append_drop]
            rw [h4, List.append_assoc]
            refine List.prefix_append_right_inj _ |>.mpr ?_
            exact (List.take_prefix _ _).trans (List.prefix_append _ _)
          have h5 := h3.length_le
          omega
        have hq : H' qa = some (.tup [.str pp.1, .str pp.2]) := hq
        have v0 : some (V.int n) = valV d (pk pp) := (val_of I0.nd (List.mem_of_getElem? e1)).symm
        refine ⟨rfl, ?_⟩
        refine yes_if ?_
        refine ⟨_, rfl, qa, _, _, _, rfl, rfl, SqT.of hq, at_nat (i := 0) rfl, _, rfl, qa, _, _, _, rfl, rfl, SqT.of hq, at_nat (i := 1) rfl, _, rfl, _, rfl, p, _, rfl, .inr ⟨d, pk pp, qa, .inr ⟨od, hd2⟩, rfl, hq, v0⟩, three_line, fun t ht => ⟨acc, ?_, sz (m := 60) al2, ?_, acc ++ [.ref t], upd_same, ?_⟩⟩
        · exact Same.up ht _ _ hacc
        · rw [off_set (by simp)]
          exact ss.trans (Same.off (Same.up ht))
        · rw [take_at e2, ← List.append_assoc, off_set (by simp)]
          refine Paired.snoc ⟨t, rfl, ?_⟩ (Paired.imp' (fun _ _ h => h.mono (Same.off (Same.up ht))) pacc)
          rw [off_out (fun m => by rw [List.mem_singleton.mp m, hacc] at ht; cases ht)]
          exact upd_same
      · have ej : j = d.length := by omega
        refine .inl ⟨by rw [ej]; exact walk_keysT.stops H2 hd2, ?_⟩
        rw [er]
        have e3 : (rowsE d).take j = rowsE d := List.take_of_length_le (by unfold rowsE; rw [List.length_map]; omega)
        rw [e3] at s2
        exact s2
  · have ei : i = ys.length := by omega
    refine .inl ⟨by rw [ei]; exact walk_list.stops H1 (SqL.of (St0 s1 _ _ hl0)), ?_⟩
    rw [ei, yn, List.take_length] at s1
    obtain ⟨ss, acc, hacc, pacc⟩ := id s1
    have same0 := St0 s1
    have lock1 : ∀ p ∈ lk, H1 p.1 = H0 p.1 := fun p m => by
      obtain ⟨od, e⟩ := kd.on p m
      rw [e, same0 _ _ e]
    have out : ∀ b, (∀ od u, H1 b ≠ some (.frz od u)) → b ∉ lk.map (·.1) := fun b hb m => by
      obtain ⟨p, mp, e⟩ := List.mem_map.mp m
      obtain ⟨od, e2⟩ := kd.on p mp
      rw [← lock1 p mp, e] at e2
      exact hb _ _ e2
    have back : Same H (unl lk H1) := fun b o e => by
      by_cases c : b ∈ lk.map (·.1)
      · obtain ⟨p, mp, ep⟩ := List.mem_map.mp c
        have h1 := (lk1 p mp).1
        have h2 := unl_in (H := H1) nd mp
        rw [ep] at h1 h2
        rw [h2, ← h1, e]
      · rw [unl_out c]
        exact same0 _ _ ((kd.off b c).trans e)
    have rl : acc.length = (allRows ds).length := Paired.length pacc
    refine hR _ H1 lock1 ⟨.ref B, .lst ((allRows ds).map rowTr), rfl, .lst ((unl_out (out B fun od u e => by rw [hacc] at e; cases e)).trans hacc) (isA_rowAt (Paired.imp' (fun y r h => ?_) pacc) (allRows_small ii)) (by omega), fun l2 e x m => ?_, fun hb H2 p s2 hp hd => q H2 p (back.trans s2) (back.free hp) ?_, fun i e => ?_⟩
    · obtain ⟨t, e, ht⟩ := h
      have ht := off_le _ _ ht
      exact ⟨t, e, (unl_out (out t fun od u e => by rw [ht] at e; cases e)).trans ht⟩
    · cases e
      obtain ⟨r, _, rfl⟩ := List.mem_map.mp m
      exact rowTr_flat r
    · rw [rowsOf_tr] at hd
      exact hd
    · rw [bad_rows ok] at e
      cases e
end
end K28

set_option Elab.async false
set_option linter.all false
set_option maxRecDepth 100000
set_option maxHeartbeats 4000000
namespace Sr
open PySem PySem.Spec PyProof.Rows L2
section
variable {X : Cx}
/-- name = {k: v for ..} with tuples as keys, the name a local -/
theorem ps_setDcT {i : Nat} {y : Str} {py spos : Pos} {kx vx tg iter : Expr} {ifs : List Expr} {scope : Scope} {own : List (Str × Nat)} {pos : Pos} {wi : TI} {g : TG} {tt : TT} {tk tv : TE} (hu : X.A.units + 1 < cLine) (hc : X.calm = true) (hN : X.N.Nodup) (hy : X.N[i]? = some y) (hyl : X.env.scope.names.lookup y = some .local)
    (hsw : swapsWith (.DictComp kx vx [⟨tg, iter, ifs, 0⟩] scope pos) (some (.Name y py)) spos.line X.env = pure true) (hi : PI X tg iter wi) (ok : BlkOk X.N X.env.scope scope own)
    (hg : Blk X scope (fun B => PG B tg) g) (ht : Blk X scope (fun B => PTs B ifs) tt) (hk : Blk X scope (fun B => PE B kx) tk) (hv : Blk X scope (fun B => PE B vx) tv) (hs : ∀ x, foldedSetIterable iter X.env x = pure x := by intro _; rfl) :
    PS X (.Assign [.Name y py] (.DictComp kx vx [⟨tg, iter, ifs, 0⟩] scope pos) spos) (tAsg (tDcT wi g tt tk tv (own.map (·.2))) (gName i)) := by
  refine ⟨fun pins s σ H D I h => ?_⟩
  rw [exec_Assign_Name_used _ _ _ _ hsw]
  refine wpAny_bind (wpAny_standAt (wpAny_bind ?_))
  show wpAny _ X.A (do let _ ← comprehension (.DictComp kx vx [⟨tg, iter, ifs, 0⟩] scope pos) scope X.env (firstIterPos [⟨tg, iter, ifs, 0⟩] pos) newDict false (eval iter X.env) (some (assign (.Name y py) X.env))) _ _ s
  have h : tDcT wi g tt tk tv (own.map (·.2)) σ H (fun x H1 => gName i x σ H1 D.nx) := h
  have cells : ∀ y ∈ scope.names, y.2 = .free → ∃ c, X.env.cells.lookup y.1 = some c := fun y hy e => I.ok.has _ (.imp id id (ok.free y hy e))
  refine wpAny_bind (thn (wpAny_comprehension_free (Q := fun _ s' => SP X pins D .next s') rfl hs (closure_ok cells) ok.kind (fun y hy e => (ok.uniq y hy).trans (congrArg some e)) (thn (hi.run pins s σ H _ I h) fun xv s1 h1 => thn h1 ?_)) fun _ s' hq => wpAny_pure (wpAny_pure hq))
  rintro _ s2 ⟨it, fp, tn, J, H2, rfl, I2, T, t2, f2, q⟩
  refine wpAny_newObj_type (newEnv_comp ?_)
  have nD : H2 s2.heap.objs.size = none := I2.hok.fresh (Nat.le_refl _)
  obtain ⟨W, ⟨m0, w0⟩, w⟩ := q _ nD
  have I3 : L2.Inv X pins σ (upd H2 s2.heap.objs.size (.dT [])) { s2 with heap := s2.heap.push { cls := .type "dict", data := .dict #[] } } := I2.laid (t' := s2.toks) (fun b o e => Heap.get?_push_of_some _ e) (Nat.le_refl _) (dt_empty s2.heap I2.big)
  have low : ∀ b ∈ fp, b < s2.heap.objs.size := fun b hb => (T.obj _ _ t2 b hb).elim fun o e => Heap.lt_size e.1
  have f3 : ∀ b ∈ fp, FpOk X pins (upd H2 s2.heap.objs.size (.dT [])) b ∧ b < (s2.heap.push { cls := .type "dict", data := .dict #[] }).objs.size := fun b hb =>
    ⟨⟨(upd_ne (Nat.ne_of_lt (low b hb))).trans (f2 b hb).1, (f2 b hb).2⟩, by rw [Heap.size_push]; exact Nat.lt_succ_of_lt (low b hb)⟩
  have I4 := block_start I3 ok hN f3
  have t4 : tn 0 (pushCells ((s2.heap.push { cls := .type "dict", data := .dict #[] }).push { cls := .type "dict", data := .dict #[] }) scope.names) :=
    T.keep _ _ _ t2 fun b _ o e => pushCells_keeps _ _ _ _ (Heap.get?_push_of_some _ (Heap.get?_push_of_some _ e))
  refine codeAny_compStart_dict ?_ (T.self X.A 0 _ _ _ t4 ?_) <;>
  · refine dcT_loop (B := X.blk _ _ scope _ fp) hu hc rfl T (hg _ _ _ _ _) (ht _ _ _ _ _) (hk _ _ _ _ _) (hv _ _ _ _ _) (fun {σ' H' s'} I' n b hb => ?_) w (fun s' H' I' hq => ?_) I4 t4 (fun b hb => (f3 b hb).1.1) w0
    · exact ⟨n b hb, (I'.ok.exf b hb).1, I'.ok.exfs b hb, .inl hb, (I'.ok.exf b hb).2, fun p hp => nomatch hp⟩
    · obtain ⟨m, hm, _⟩ := I'.loc
      have gone := I'.free
      have I5 : L2.Inv X pins σ H' s' := I3.call' (ch := fp) I'.os I'.base I'.hok I'.bare fun b hb => have f := (f3 b hb).1; ⟨f.2.2.2.1, f.2.1, f.2.2.2.2.1, f.2.2.2.2.2⟩
      have f5 : FpOk X pins H' (s2.heap.push { cls := .type "dict", data := .dict #[] }).objs.size := I3.fpOk (Nat.le_refl _) gone
      show wpAny _ _ (assign (.Name y py) X.env (.ref s2.heap.objs.size)) _ _ _
      refine wpAny_assign_Name (store_ok2 (v := V.ref s2.heap.objs.size) I5 hN hy (.inl hyl) rfl (fun s6 I6 ⟨a, sb, ha⟩ => ?_) (.inr hyl))
      have ne : (s2.heap.push { cls := .type "dict", data := .dict #[] }).objs.size ≠ a := by
        rcases ha with z | z
        · rw [z]; exact f5.2.1
        · exact fun e => f5.2.2.2.2.1 y a z e.symm
      exact ⟨m, Heap.Ns.sameBut hm sb ne, fun h3 sb3 => ⟨_, H', I6.turned (t' := s6.toks) (fun b o hb e => (sb3.2 b hb).trans e) f5.1 f5.2.1 f5.2.2.2.1 f5.2.2.2.2.1 f5.2.2.2.2.2, hq⟩⟩
theorem sw_dict {kx vx : Expr} {gs : List Comprehension} {scope : Scope} {pos py : Pos} {y : Str} {l : Nat} {env : Env} (hk : env.scope.kind = .function) (hy : env.scope.names.lookup y = some .local) (hl : (py.line == pos.line) = true)
    (ha : (scope.names.any fun (n, k) => n == y && (k == .local || k == .cell)) = false) : swapsWith (.DictComp kx vx gs scope pos) (some (.Name y py)) l env = pure true := by
  have ky : env.kindOf y = some .local := hy
  have hb : env.blockKind = .function := by unfold Env.blockKind; rw [hk]; rfl
  unfold swapsWith
  simp only [hb, ky, ha, Expr.pos, hl]
  rfl
end
/-- those entries of a walk that pass a test, their values as they are -/
theorem dcT_filter {J : It} {n : Nat} {G : Hp → Prop} {Y : Nat → Hp → V → Hp → Prop} {At : Nat → Hp → V → Prop} (w : Walk J n G Y) (hy : ∀ i H x H', Y i H x H' → H' = H ∧ At i H x) {g : TG} {tt : TT} {tk tv : TE} {σ0 : L2.St} {vs : List Nat} {H : Hp} {D : Addr} {q : Hp → Prop}
    (kvs : List (List Key × V)) (p : List Key × V → Bool) (hn : kvs.length = n) (hz : n < sizeLine) (nd : (kvs.map (·.1)).Nodup) (hD : H D = none) (hG : ∀ H', Same H H' → G H')
    (turn : ∀ (i : Nat) (x : V) (k : List Key) (v : V) (H1 : Hp) (R : V → V → Hp → Prop) (N : Hp → Prop), i < n → At i H1 x → kvs[i]? = some (k, v) → Same H H1 → (p (k, v) = true → ∀ H2 b, Same H1 H2 → H2 b = some (.tup (k.map kV)) → R (.ref b) v H2) → (p (k, v) = false → ∀ H2, Same H1 H2 → N H2) →
      g x σ0 H1 fun σ2 H2 => wipe σ2 vs = σ0 ∧ tt σ2 H2 fun b H3 => if b = true then tk σ2 H3 fun y H4 => tv σ2 H4 fun z H5 => R y z H5 else N H3)
    (fin : ∀ H', Same H H' → H' D = some (.dT (kvs.filter p)) → q H') :
    ∃ W : Nat → Nat → Hp → Prop, (∃ m, W 0 m (upd H D (.dT []))) ∧ DcW J g tt tk tv σ0 vs D q W := by
  have ext : ∀ {i k v}, kvs[i]? = some (k, v) → kvs.take (i + 1) = kvs.take i ++ [(k, v)] := fun e => by rw [List.take_add_one, e]; rfl
  refine ⟨fun i m H' => m = n - i ∧ i ≤ n ∧ Same H H' ∧ H' D = some (.dT ((kvs.take i).filter p)), ⟨n, rfl, Nat.zero_le _, Same.up hD, by rw [upd_same]; rfl⟩, ?_⟩
  rintro i m H1 ⟨rfl, hi, s1, h1⟩
  by_cases lt : i < n
  · refine .inr ⟨w.goes i H1 lt (hG H1 s1), fun H' => Same H H' ∧ H' D = some (.dT ((kvs.take (i + 1)).filter p)), fun H' p' => ⟨n - (i + 1), by omega, rfl, lt, p'⟩, fun x H2 y => ?_⟩
    obtain ⟨rfl, ax⟩ := hy i H1 x H2 (w.yields i H1 x H2 lt (hG H1 s1) y)
    obtain ⟨⟨k, v⟩, e⟩ : ∃ kv, kvs[i]? = some kv := ⟨_, List.getElem?_eq_getElem (hn ▸ lt)⟩
    refine turn i x k v H2 (fun y z H5 => PutT D y z H5 _) (fun H' => Same H H' ∧ H' D = some (.dT ((kvs.take (i + 1)).filter p))) lt ax e s1 (fun pv H3 b s3 hb => ⟨_, k, b, rfl, s3 _ _ h1, hb, ?_, fun c o ec => ?_, ?_⟩) fun pv H3 s3 => ⟨s1.trans s3, ?_⟩
    · have h := List.length_filter_le p (kvs.take i)
      rw [List.length_take] at h
      omega
    · rw [upd_ne (ne_of_none ec hD)]
      exact s3 _ _ (s1 _ _ ec)
    · rw [upd_same, ext e, List.filter_append, List.filter_cons_of_pos pv, List.filter_nil]
      congr 2
      refine L2.putK_new _ (Option.eq_none_iff_forall_ne_some.mpr fun u eu => ?_)
      have m : k ∈ (kvs.take i).map (·.1) := List.mem_map.mpr ⟨_, (List.mem_filter.mp (val_mem eu)).1, rfl⟩
      rw [← List.take_append_drop (i + 1) kvs, ext e, List.map_append, List.map_append] at nd
      have ap := (List.nodup_append.mp (List.nodup_append.mp nd).1).2.2
      exact ap _ m _ List.mem_cons_self rfl
    · rw [ext e, List.filter_append, List.filter_cons_of_neg (by rw [pv]; simp), List.filter_nil, List.append_nil]
      exact s3 _ _ h1
  · obtain rfl : i = n := by omega
    refine .inl ⟨w.stops H1 (hG H1 s1), fin H1 s1 ?_⟩
    rw [h1, ← hn, List.take_length]
/-- all entries of a walk, their values as they come -/
theorem dcT_rel {J : It} {n : Nat} {G : Hp → Prop} {Y : Nat → Hp → V → Hp → Prop} {At : Nat → Hp → V → Prop} (w : Walk J n G Y) (hy : ∀ i H x H', Y i H x H' → H' = H ∧ At i H x) {g : TG} {tk tv : TE} {σ0 : L2.St} {vs : List Nat} {H : Hp} {D : Addr} {q : Hp → Prop}
    {α : Type} (L : List α) (key : α → List Key) (hn : L.length = n) (hz : n < sizeLine) (nd : (L.map key).Nodup) (hD : H D = none) (hG : ∀ H', Same H H' → G H') (Rv : Hp → V → α → Prop) (mono : ∀ H1 H2 v a, Same H1 H2 → Rv H1 v a → Rv H2 v a)
    (aside : ∀ H1 v a k k', H1 D = some (.dT k) → Rv H1 v a → Rv (upd H1 D (.dT k')) v a)
    (turn : ∀ (i : Nat) (x : V) (a : α) (H1 : Hp) (R : V → V → Hp → Prop), i < n → At i H1 x → L[i]? = some a → Same H H1 → (∀ H2 b v, Same H1 H2 → H2 b = some (.tup ((key a).map kV)) → Rv H2 v a → R (.ref b) v H2) →
      g x σ0 H1 fun σ2 H2 => wipe σ2 vs = σ0 ∧ tk σ2 H2 fun y H4 => tv σ2 H4 fun z H5 => R y z H5)
    (fin : ∀ H' kvs, Same H H' → H' D = some (.dT kvs) → Paired (fun e a => e.1 = key a ∧ Rv H' e.2 a) kvs L → q H') :
    ∃ W : Nat → Nat → Hp → Prop, (∃ m, W 0 m (upd H D (.dT []))) ∧ DcW J g tYes tk tv σ0 vs D q W := by
  have keys : ∀ {H1 : Hp} {l : List (List Key × V)} {m : List α}, Paired (fun e a => e.1 = key a ∧ Rv H1 e.2 a) l m → l.map (·.1) = m.map key := by
    intro H1 l m h
    induction h with
    | nil => rfl
    | cons h _ ih => rw [List.map_cons, List.map_cons, h.1, ih]
  refine ⟨fun i m H' => m = n - i ∧ i ≤ n ∧ Same H H' ∧ ∃ kvs, H' D = some (.dT kvs) ∧ Paired (fun e a => e.1 = key a ∧ Rv H' e.2 a) kvs (L.take i), ⟨n, rfl, Nat.zero_le _, Same.up hD, [], upd_same, .nil⟩, ?_⟩
  rintro i m H1 ⟨rfl, hi, s1, kvs, h1, pr⟩
  by_cases lt : i < n
  · refine .inr ⟨w.goes i H1 lt (hG H1 s1), fun H' => Same H H' ∧ ∃ kvs, H' D = some (.dT kvs) ∧ Paired (fun e a => e.1 = key a ∧ Rv H' e.2 a) kvs (L.take (i + 1)), fun H' p' => ⟨n - (i + 1), by omega, rfl, lt, p'⟩, fun x H2 y => ?_⟩
    obtain ⟨rfl, ax⟩ := hy i H1 x H2 (w.yields i H1 x H2 lt (hG H1 s1) y)
    obtain ⟨a, e⟩ : ∃ a, L[i]? = some a := ⟨_, List.getElem?_eq_getElem (hn ▸ lt)⟩
    have et : L.take (i + 1) = L.take i ++ [a] := by rw [List.take_add_one, e]; rfl
    refine turn i x a H2 (fun y z H5 => PutT D y z H5 _) lt ax e s1 fun H3 b v s3 hb rv => ⟨kvs, key a, b, rfl, s3 _ _ h1, hb, ?_, fun c o ec => ?_, kvs ++ [(key a, v)], ?_, ?_⟩
    · have h := Paired.length pr
      rw [List.length_take] at h
      omega
    · rw [upd_ne (ne_of_none ec hD)]
      exact s3 _ _ (s1 _ _ ec)
    · rw [upd_same]
      congr 2
      refine L2.putK_new _ (Option.eq_none_iff_forall_ne_some.mpr fun u eu => ?_)
      have m : key a ∈ (L.take i).map key := by
        rw [← keys pr]
        exact List.mem_map.mpr ⟨_, val_mem eu, rfl⟩
      rw [← List.take_append_drop (i + 1) L, et, List.map_append, List.map_append] at nd
      have ap := (List.nodup_append.mp (List.nodup_append.mp nd).1).2.2
      exact ap _ m _ List.mem_cons_self rfl
    · rw [et]
      exact Paired.snoc ⟨rfl, aside H3 v a kvs _ (s3 _ _ h1) rv⟩ (Paired.imp' (fun e a h => ⟨h.1, aside H3 _ _ kvs _ (s3 _ _ h1) (mono _ _ _ _ s3 h.2)⟩) pr)
  · obtain rfl : i = n := by omega
    rw [← hn, List.take_length] at pr
    exact .inl ⟨w.stops H1 (hG H1 s1), fin H1 kvs s1 h1 pr⟩
end Sr

set_option Elab.async false
set_option linter.all false
set_option maxRecDepth 100000
set_option maxHeartbeats 4000000
namespace K28
open PySem PySem.Spec PyProof.Rows L2 Sr
/-! ### what two dicts of sums differ in -/
def diffK (ka kb : List (List Key × V)) (L : List (Str × Str)) : List (Str × Str) := L.filter fun p => decide (amt ka p ≠ amt kb p)
def gapOf (ka kb : List (List Key × V)) (L : List (Str × Str)) : List (List Key × V) := (diffK ka kb L).map fun p => (pk p, V.int (amt kb p - amt ka p))
def PairAt (H : Hp) (ka kb : List (List Key × V)) (e : List Key × V) (p : Str × Str) : Prop := e.1 = pk p ∧ ∃ t, e.2 = .ref t ∧ H t = some (.tup [.int (amt ka p), .int (amt kb p)])
theorem PairAt.mono {H H' : Hp} {ka kb : List (List Key × V)} {e : List Key × V} {p : Str × Str} (s : Same H H') (h : PairAt H ka kb e p) : PairAt H' ka kb e p := by
  obtain ⟨h1, t, h2, h3⟩ := h
  exact ⟨h1, t, h2, s _ _ h3⟩
theorem filter_paired {α β : Type} {R : α → β → Prop} {p : α → Bool} {q : β → Bool} : ∀ {l : List α} {m : List β}, Paired R l m → (∀ a b, R a b → p a = q b) → Paired R (l.filter p) (m.filter q)
  | _, _, .nil, _ => .nil
  | _, _, .cons (a := a) (b := b) h t, e => by
    rw [List.filter_cons, List.filter_cons, e a b h]
    cases q b with
    | true => exact .cons h (filter_paired t e)
    | false => exact filter_paired t e
theorem paired_keys {H : Hp} {ka kb : List (List Key × V)} : ∀ {l : List (List Key × V)} {m : List (Str × Str)}, Paired (PairAt H ka kb) l m → l.map (·.1) = m.map pk
  | _, _, .nil => rfl
  | _, _, .cons h t => by rw [List.map_cons, List.map_cons, h.1, paired_keys t]
theorem pk_nodup {l : List (Str × Str)} (h : l.Nodup) : (l.map pk).Nodup := List.pairwise_map.mpr (List.Pairwise.imp (fun ne e => ne (pk_inj e)) h)
/-- the tuples of the keys, and the pairs of texts that they stand for -/
theorem keys_pq {H : Hp} : ∀ {kvs : List (List Key × V)} {bs : List Addr}, IsKeys H kvs bs → Ints isPk kvs → ∃ ks : List Pq, bs.map V.ref = ks.map (fun q => V.ref q.1) ∧ (∀ q ∈ ks, AtP H q.1 q.2) ∧ ks.map (·.2) = keysOf kvs
  | _, _, .nil, _ => ⟨[], rfl, fun q m => absurd m (by simp), rfl⟩
  | e :: kvs, b :: bs, .cons h t, I => by
    obtain ⟨ks, e1, e2, e3⟩ := keys_pq t ⟨fun x m => I.ent x (List.mem_cons_of_mem _ m), (List.nodup_cons.mp (by have := I.nd; rwa [List.map_cons] at this)).2⟩
    obtain ⟨⟨p, ep, _⟩, _⟩ := I.ent e List.mem_cons_self
    refine ⟨(b, p) :: ks, by rw [List.map_cons, List.map_cons, e1], fun q m => ?_, ?_⟩
    · rcases List.mem_cons.mp m with rfl | m
      · rw [ep] at h
        exact h
      · exact e2 q m
    · rw [List.map_cons, e3]
      show p :: keysOf kvs = unpk e.1 :: keysOf kvs
      rw [ep, unpk_pk]
/-- of two dicts of sums: the dict of the pairs in which they differ, keys as sorted from some order -/
def spUnl (K : PySem.W.Frag) : Sp := fun vs H Q _ => ∃ a b ka kb, vs = [.ref a, .ref b] ∧ H a = some (.dT ka) ∧ H b = some (.dT kb) ∧ Ints isPk ka ∧ Ints isPk kb ∧ ka.length + kb.length < 64 ∧
  ∀ H' d (bs : List (Str × Str)) kvs, Same H H' → H d = none → bs.Nodup → bs.length < 64 → (∀ p, p ∈ bs ↔ p ∈ keysOf ka ∨ p ∈ keysOf kb) → H' d = some (.dT kvs) → Paired (PairAt H' ka kb) kvs (diffK ka kb (pSort bs)) → Q (.ref d) H'
section
variable {P : Program} {w : World} {K : PySem.W.Frag} {mg : Str → Option Value} {base : Heap}
abbrev s__unlike : Stmt := top 34
theorem sc__unlike : FnScope ["before", "after", "keys", "pairs", "key"] ["before", "after"] (defScope s__unlike) := ⟨rfl, rfl, rfl, by decide +kernel, rfl, by decide +kernel, by decide +kernel⟩
theorem c__unlike (T : Txt K mg) (D : Dfn K mg "_unlike" s__unlike) : Cal P w K mg base 1 "_unlike" ["before", "after"] (spUnl K) := by
  refine D.cal sc__unlike (fun _ _ _ _ _ _ us hl => match us, hl with | [_, _], _ => rfl) (fun vs H Q E h => ?_) fun cdv A outer s H vs Q E hr h => ?_
  · obtain ⟨a, b, ka, kb, rfl, _⟩ := h
    rfl
  obtain ⟨a, b, ka, kb, rfl, ha, hb, Ia, Ib, zl, q⟩ := h
  refine ⟨_, (pss_cons (ps_set (i := 2) sc__unlike.nd rfl (by first | exact Or.inl rfl | exact Or.inr rfl) (pe_sortSet rfl hr.units (by rfl) T.sorted (by rfl) T.set (pe_op op_cat (pe_callTy (T := "list") (call_list_dT rfl) (by rfl) T.list (by decide +kernel) (pa_cons (pv 0) pa_nil)) (pe_callTy (T := "list") (call_list_dT rfl) (by rfl) T.list (by decide +kernel) (pa_cons (pv 1) pa_nil)))))
      (pss_cons (ps_set (i := 3) sc__unlike.nd rfl (by first | exact Or.inl rfl | exact Or.inr rfl) (pe_dcT (own := [("key", 4)]) (g := gName 4) (tt := tYes) (hu_of hr) rfl sc__unlike.nd (pi_list (pv 2)) (blkOk_by (N := ["before", "after", "keys", "pairs", "key"]) (sc := defScope s__unlike) (by decide +kernel)) (fun _ _ _ _ _ => (pg_name (i := 4) sc__unlike.nd rfl (by first | exact Or.inl rfl | exact Or.inr rfl))) (fun _ _ _ _ _ => pts_nil) (fun _ _ _ _ _ => (pv 4)) (fun _ _ _ _ _ => (pe_tup (pa_cons (pe_dget2 (hu_of hr) (pv 0) (pv 4) pe_int ⟨rfl, by rfl, rfl, rfl⟩) (pa_cons (pe_dget2 (hu_of hr) (pv 1) (pv 4) pe_int ⟨rfl, by rfl, rfl, rfl⟩) pa_nil))))))
      (pss_one (ps_ret (pe_lock (pe_dcT (own := [("key", 4)]) (g := gName 4) (hu_of hr) rfl sc__unlike.nd (pi_keys (pv 3)) (blkOk_by (N := ["before", "after", "keys", "pairs", "key"]) (sc := defScope s__unlike) (by decide +kernel)) (fun _ _ _ _ _ => (pg_name (i := 4) sc__unlike.nd rfl (by first | exact Or.inl rfl | exact Or.inr rfl))) (fun _ _ _ _ _ => (pts_one (pt_cmpR op_ne (pe_ix (ix_tupK K rfl) (pe_dget (hu_of hr) (pv 3) (pv 4) (fun _ _ => rfl)) pe_int (fun _ _ => rfl)) (pe_ix (ix_tupK K rfl) (pe_dget (hu_of hr) (pv 3) (pv 4) (fun _ _ => rfl)) pe_int (fun _ _ => rfl)) (nomark _)))) (fun _ _ _ _ _ => (pv 4)) (fun _ _ _ _ _ => (pe_dget (hu_of hr) (pv 3) (pv 4) (fun _ _ => rfl))))))))), ?_⟩
  refine ⟨_, rfl, a, ka, rfl, .inl ha, fun p1 bs1 hp1 k1 => ⟨_, rfl, b, kb, rfl, .inl (Same.up hp1 _ _ hb), fun p2 bs2 hp2 k2 => ?_⟩⟩
  obtain ⟨ks1, f1, g1, e1⟩ := keys_pq k1 Ia
  obtain ⟨ks2, f2, g2, e2⟩ := keys_pq k2 Ib
  have l1 : bs1.length = ka.length := (Paired.length k1).symm
  have l2 : bs2.length = kb.length := (Paired.length k2).symm
  have sA := Same.up (o := .lst (bs1.map V.ref)) hp1
  have sB := Same.up (o := .lst (bs2.map V.ref)) hp2
  have lk : (ks1 ++ ks2).length < 64 := by
    have h1 := congrArg List.length f1
    have h2 := congrArg List.length f2
    rw [List.length_map, List.length_map] at h1 h2
    rw [List.length_append]
    omega
  refine ⟨p1, p2, _, _, rfl, rfl, sB _ _ upd_same, upd_same, by rw [List.length_map, List.length_map, sizeLine_eq]; omega, fun p3 hp3 => ?_⟩
  have sC := Same.up (o := .lst (bs1.map V.ref ++ bs2.map V.ref)) hp3
  have s3 := sA.trans (sB.trans sC)
  refine ⟨p3, ks1 ++ ks2, rfl, SqL.of (by rw [List.map_append, ← f1, ← f2]; exact upd_same), fun x m => ?_, lk, fun bs qs p4 nd bl0 mem pr hp4 => ?_⟩
  · rcases List.mem_append.mp m with m | m
    · exact s3 _ _ (g1 x m)
    · exact (sB.trans sC) _ _ (g2 x m)
  have mem2 : ∀ p, p ∈ bs ↔ p ∈ keysOf ka ∨ p ∈ keysOf kb := fun p => by rw [mem p, List.map_append, e1, e2, List.mem_append]
  have sD := Same.up (o := .lst (qs.map V.ref)) hp4
  have s4 := s3.trans sD
  have ql : qs.length = (pSort bs).length := Paired.length pr
  have nds : (pSort bs).Nodup := (pSort_perm _).nodup_iff.mpr nd
  have bl : (pSort bs).length < 64 := by
    rw [(pSort_perm _).length_eq]
    omega
  refine ⟨_, rfl, p4, rfl, ⟨_, SqL.of upd_same⟩, fun B hB => dcT_rel walk_list (At := fun i H' x => (qs.map V.ref)[i]? = some x) (fun _ _ _ _ y => y) (pSort bs) pk (by rw [List.length_map, ql]) (by rw [List.length_map, ql, sizeLine_eq]; omega) (pk_nodup nds) hB (fun H' s' => SqL.of (s' _ _ upd_same))
    (fun H' v p => ∃ t, v = .ref t ∧ H' t = some (.tup [.int (amt ka p), .int (amt kb p)])) (fun _ _ _ _ s' ⟨t, e, h⟩ => ⟨t, e, s' _ _ h⟩) (fun _ _ _ _ _ hd ⟨t, e, h⟩ => ⟨t, e, (upd_ne (ne_of h hd (by intro z; cases z))).trans h⟩)
    (fun i x p H1 R hi hx hp s' kk => ?_) (fun H5 kvs s5 h5 pr5 => ?_)⟩
  · rw [List.getElem?_map] at hx
    obtain ⟨qa, h1, rfl⟩ := Option.map_eq_some_iff.mp hx
    have h2 : AtP _ qa p := Paired.at2 pr h1 hp
    have hq : H1 qa = some (.tup ((pk p).map kV)) := s' _ _ (sD _ _ h2)
    have ha1 := s' _ _ (s4 _ _ ha)
    have hb1 := s' _ _ (s4 _ _ hb)
    refine ⟨rfl, _, rfl, _, rfl, a, rfl, .inr ⟨_, .inl ha1⟩, _, rfl, _, DGet.t ha1 hq, _, rfl, b, rfl, .inr ⟨_, .inl hb1⟩, _, rfl, _, DGet.t hb1 hq, ?_⟩
    rw [Ia.get, Ib.get]
    exact ⟨two_line, fun t ht => kk _ _ _ (Same.up ht) (Same.up ht _ _ hq) ⟨t, rfl, upd_same⟩⟩
  · have s6 := s4.trans s5
    have n4 : H B = none := s4.free hB
    have kn : (kvs.map (·.1)).Nodup := by
      rw [paired_keys (ka := ka) (kb := kb) (H := H5) pr5]
      exact pk_nodup nds
    have kl : kvs.length = (pSort bs).length := Paired.length pr5
    refine ⟨B, .dT kvs, h5, trivial, fun od => ⟨_, rfl, B, od, rfl, .inr ⟨kvs, upd_same, fun B2 hB2 => ?_⟩⟩⟩
    refine dcT_filter walk_keysT (fun _ _ _ _ y => y) kvs (fun e => decide (amt ka (unpk e.1) ≠ amt kb (unpk e.1))) rfl (by rw [kl, sizeLine_eq]; omega) kn hB2 (fun H' s' => s' _ _ upd_same) (fun i x k v H1 R N hi hx hk s' kA kB => ?_) (fun H6 s7 h7 => ?_)
    · obtain ⟨k', v', qa, e1, rfl, hq⟩ := hx
      rw [hk] at e1
      cases e1
      obtain ⟨p, hp⟩ : ∃ p, (pSort bs)[i]? = some p := ⟨(pSort bs)[i]'(by omega), List.getElem?_eq_getElem (by omega)⟩
      obtain ⟨ek, t, ev, ht⟩ : PairAt H5 ka kb (k, v) p := Paired.at2 pr5 hk hp
      have ek : k = pk p := ek
      have ev : v = .ref t := ev
      subst ek
      subst ev
      have ht1 : H1 t = some (.tup [.int (amt ka p), .int (amt kb p)]) := s' _ _ ((upd_ne (ne_of ht h5 (by intro z; cases z))).trans ht)
      have hB1 := s' _ _ upd_same
      have v0 : some (V.ref t) = valV kvs (pk p) := (val_of kn (List.mem_of_getElem? hk)).symm
      have dg : DGet H1 B (.ref qa) (some (.ref t)) := .inr ⟨kvs, pk p, qa, .inr ⟨od, hB1⟩, rfl, hq, v0⟩
      refine ⟨rfl, _, rfl, _, rfl, B, _, rfl, dg, t, _, _, _, rfl, rfl, SqT.of ht1, at_nat (i := 0) rfl, _, rfl, _, rfl, B, _, rfl, dg, t, _, _, _, rfl, rfl, SqT.of ht1, at_nat (i := 1) rfl, rfl, _, rfl, ?_⟩
      have up : unpk (pk p, V.ref t).1 = p := unpk_pk p
      rw [up] at kA kB
      by_cases c : amt ka p = amt kb p
      · rw [show decide (V.int (amt ka p) = V.int (amt kb p)) = true by rw [c]; exact decide_eq_true rfl]
        exact iteF (kB (decide_eq_false (by simp [c])) _ (Same.refl _))
      · rw [show decide (V.int (amt ka p) = V.int (amt kb p)) = false from decide_eq_false (by intro z; injection z with z; exact c z)]
        refine iteT ⟨_, rfl, _, rfl, _, rfl, B, _, rfl, dg, ?_⟩
        exact kA (decide_eq_true c) _ _ (Same.refl _) hq
    · have nB : B2 ≠ B := fun e => by rw [e, upd_same] at hB2; cases hB2
      have same : Same H (upd H6 B (.dT kvs)) := fun c o e => by
        have ne : c ≠ B := ne_of_none e n4
        rw [upd_ne ne]
        exact s7 _ _ ((upd_ne ne).trans (s6 _ _ e))
      refine ⟨s7 _ _ upd_same, q _ B2 bs _ same (s6.free (by rw [upd_ne nB] at hB2; exact hB2)) nd (by omega) mem2 ((upd_ne nB).trans h7) (filter_paired (Paired.imp' (fun e p h => ?_) pr5) fun e p h => ?_)⟩
      · obtain ⟨h1, t, h2, h3⟩ := h
        refine ⟨h1, t, h2, (upd_ne fun e => ?_).trans (s7 _ _ ((upd_ne (ne_of h3 h5 (by intro z; cases z))).trans h3))⟩
        rw [e, h5] at h3
        cases h3
      · rw [h.1, unpk_pk]
end
end K28

set_option Elab.async false
set_option linter.all false
set_option maxRecDepth 100000
set_option maxHeartbeats 4000000
namespace K28
open PySem PySem.Spec PyProof.Rows L2 Sr
theorem mE_ {X : Cx} {k j : Nat} {C f : Addr} {ps : List Str} {sp : Sp} {m : Str} {o e : Expr} {es : List Expr} {ta : TE} {t : TA} {p apos : Pos} {pl : Sem Bool} {E : XK} (M : CalM X.prog X.w X.K X.mg X.base (L2.CX X.prog X.w) k f ps sp) (hr : Room j X.A) (hk : k ≤ j) (c : Cls X.K C) (hm : Meth X.K C m f) (hx : Passes (L2.CX X.prog X.w) X E) (he : PE X o ta) (ha : PA X (e :: es) t)
    (hst : starEach (e :: es) X.env = (false, eval e X.env) :: starEach es X.env := by rfl) (hpl : (backTo p (starEach es X.env)).any (·.1) = false := by rfl)
    (ht : eval (.Call (.Attribute o m apos) (e :: es) [] p) X.env = (do
      let ov ← eval o X.env
      standAt apos.atName
      let (f, first) ← holding [ov] (getMethod ov m pl)
      callWith p f first (backTo p (starEach (e :: es) X.env)) (backToKw p (keywordEach [] X.env))) := by rfl) : PE X (.Call (.Attribute o m apos) (e :: es) [] p) (tMeth C m sp [] E ta t) := by
  obtain ⟨fd, F, kp, hb⟩ := M.ex
  exact pe_meth he c hm F (hr.mono hk) hb .nil hx ha hst hpl ht
/-- the balances of some entries -/
def balOf (f : Int → Int → Ent → Bool) (n m : Int) (es : List Ent) : List (List Key × V) := tk (sumT (allRows ((es.filter (f n m)).map fun e : Ent => e.2.2.2)))
/-- entries whose rows are good and not too many -/
structure GoodEs (es : List Ent) : Prop where
  len : es.length ≤ 60
  sm : ∀ e ∈ es, Ints isPk e.2.2.2
  few : (allRows (es.map fun e : Ent => e.2.2.2)).length ≤ 60
  ok : ∀ r ∈ allRows (es.map fun e : Ent => e.2.2.2), rowOk (rowTr r) = true
theorem allRows_sub {es fs : List Ent} (h : fs.Sublist es) : (allRows (fs.map fun e : Ent => e.2.2.2)).Sublist (allRows (es.map fun e : Ent => e.2.2.2)) := by
  unfold allRows
  rw [List.map_map, List.map_map]
  induction h with
  | slnil => exact .slnil
  | cons a _ ih =>
    rw [List.map_cons, List.flatten_cons]
    exact ih.trans (List.sublist_append_right _ _)
  | cons_cons a _ ih =>
    rw [List.map_cons, List.map_cons, List.flatten_cons, List.flatten_cons]
    exact List.Sublist.append (List.Sublist.refl _) ih
theorem GoodEs.part {es : List Ent} (g : GoodEs es) (p : Ent → Bool) : GoodEs (es.filter p) := by
  have s : (es.filter p).Sublist es := List.filter_sublist
  have s2 := allRows_sub s
  exact ⟨Nat.le_trans s.length_le g.len, fun e m => g.sm e (s.subset m), Nat.le_trans s2.length_le g.few, fun r m => g.ok r (s2.subset m)⟩
theorem sumT_small {rs : List Rw} (h : ∀ r ∈ rs, small r.1) : Ints isPk (sumT rs) := sumT_ints h
theorem tk_ints {kvs : List (List Key × V)} (h : Ints isPk kvs) : Ints isPk (tk kvs) := by
  refine ⟨fun e m => ?_, tk_nodup h⟩
  obtain ⟨p, mp, rfl⟩ := List.mem_map.mp m
  exact ⟨⟨p, rfl, keysOf_small h p (kept_mem mp)⟩, _, rfl⟩
theorem GoodEs.bal {es : List Ent} (g : GoodEs es) (f : Int → Int → Ent → Bool) (n m : Int) : Ints isPk (balOf f n m es) :=
  tk_ints (sumT_ints fun r mr => allRows_small (fun d md => by obtain ⟨e, me, rfl⟩ := List.mem_map.mp md; exact (g.part (f n m)).sm e me) r mr)
theorem paired_map {H : Hp} : ∀ {acc : List V} {es : List Ent}, Paired (fun y e => ∃ p, y = .ref p ∧ H p = some (.dT e.2.2.2)) acc es → Paired (DictAt H) acc (es.map fun e : Ent => e.2.2.2)
  | _, _, .nil => .nil
  | _, _, .cons h t => .cons h (paired_map t)
def spBals (K : PySem.W.Frag) (f : Int → Int → Ent → Bool) : Sp := fun vs H Q E => ∃ x k v ds es dk dv, vs = [.ref x, k, v] ∧ LedAt K H x ds es ∧ GoodEs es ∧ Is H k dk ∧ Is H v dv ∧
  (badTm [dk, dv] 0 = none → ∀ n m, dk = .int n → dv = .int m → ∀ H' p, Same H H' → H p = none → H' p = some (.dT (balOf f n m es)) → Q (.ref p) H') ∧
  ∀ i u, badTm [dk, dv] 0 = some i → [k, v][i]? = some u → ∀ H' e, Same H H' → H' e = none → E (.ref (He.ga K "BadTime")) (some e) (upd H' e (.xd [("time", u)]))
section
variable {P : Program} {w : World} {K : PySem.W.Frag} {mg : Str → Option Value} {base : Heap}
abbrev s_Ledger_balances : Stmt := inClass (top 27) 6
theorem sc_Ledger_balances : FnScope ["self", "known", "valid"] ["self", "known", "valid"] (defScope s_Ledger_balances) := ⟨rfl, rfl, rfl, by decide +kernel, rfl, by decide +kernel, by decide +kernel⟩
theorem m_balances (T : Txt K mg) (F : LgF K) (D : DfnM K "Ledger" "balances" "Ledger.balances" s_Ledger_balances) (MB : CalM P w K mg base CX0 1 (He.fAd K ("Ledger", some "_true")) ["self", "known", "valid"] (spPart K inT)) (Mb : Meth K (He.ga K "Ledger") "_true" (He.fAd K ("Ledger", some "_true")))
    (C_check_times : CalE P w K mg base 3 "_check_times" ["times"] (spChkT K)) (C_added : Cal P w K mg base 7 "_added" ["parts"] (spAdded K)) :
    CalM P w K mg base (L2.CX P w) 8 (He.fAd K ("Ledger", some "balances")) ["self", "known", "valid"] (spBals K inT) := by
  refine D.calE sc_Ledger_balances (fun _ _ _ _ _ _ us hl => match us, hl with | [_, _, _], _ => rfl) (fun vs H Q E' h => ?_) fun cdv A outer s H vs Q E hr h => ?_
  · obtain ⟨x, k, v, ds, es, dk, dv, rfl, _⟩ := h
    rfl
  obtain ⟨x, k, v, ds, es, dk, dv, rfl, L, g, ik, iv, q, e3⟩ := h
  refine ⟨_, (pss_cons (ps_expr (pe_calE C_check_times hr (by first | decide | omega) (by rfl) (passes_def rfl rfl rfl rfl) (pa_cons (pe_lst (pa_cons (pv 1) (pa_cons (pv 2) pa_nil))) pa_nil)))
      (pss_one (ps_ret (pe_cal C_added hr (by first | decide | omega) (by rfl) (pa_cons (mN_ MB hr (by decide) F.cl Mb (pv 0) (pa_cons (pv 1) (pa_cons (pv 2) pa_nil))) pa_nil))))), ?_⟩
  refine ⟨_, rfl, _, rfl, lineN (n := 2), fun p hp => ⟨p, [k, v], [dk, dv], rfl, upd_same, .cons (ik.mono (Same.up hp)) (.cons (iv.mono (Same.up hp)) .nil), (show (2 : Nat) ≤ 60 by decide), fun cb H2 s2 => ?_, fun i u hb hu H' e s he => e3 i u hb hu H' e ((Same.up hp).trans s) he⟩⟩
  have s12 := (Same.up (o := .lst [k, v]) hp).trans s2
  obtain ⟨n, m, rfl, rfl⟩ := two_times cb
  cases ik
  cases iv
  have L2 := L.mono s12
  have Lc := L2
  obtain ⟨dx, la, lb, zs, hx, _⟩ := Lc
  have g2 := g.part (inT n m)
  refine ⟨_, rfl, x, dx, _, rfl, hx, rfl, _, rfl, _, rfl, x, n, m, ds, es, rfl, L2, g.len, fun H3 l acc s3 hl hacc pr => ?_⟩
  have al : acc.length = (es.filter (inT n m)).length := Paired.length pr
  refine ⟨l, acc, (es.filter (inT n m)).map (fun e : Ent => e.2.2.2), rfl, hacc, by have := g2.len; omega, paired_map pr, fun d md => ?_, g2.few, g2.ok, fun H4 p4 s4 hp4 hd4 => q cb n m rfl rfl H4 p4 (s12.trans (s3.trans s4)) (s12.free (s3.free hp4)) hd4⟩
  obtain ⟨e, me, rfl⟩ := List.mem_map.mp md
  exact g2.sm e me
end
end K28

set_option Elab.async false
set_option linter.all false
set_option maxRecDepth 100000
set_option maxHeartbeats 4000000
namespace K28
open PySem PySem.Spec PyProof.Rows L2 Sr
/-! ### the law's own balances -/
theorem sumT_app (rs : List Rw) (r : Rw) : sumT (rs ++ [r]) = bump (sumT rs) (pk r.1) r.2 := by
  unfold sumT
  rw [sums_snoc]
theorem unlock {H H' : Hp} {p : Addr} {u : HO} (s : Same (off [p] H) H') (h : H p = some u) : Same H (upd H' p u) := fun c o e => by
  by_cases n : c = p
  · rw [n] at e
    rw [n, upd_same, ← h, e]
  · rw [upd_ne n]
    exact s _ _ ((off_out (by simp [n])).trans e)
theorem lock {H : Hp} {p : Addr} {u : HO} : Same (off [p] H) (upd H p u) := fun c o e => by
  by_cases n : c = p
  · rw [off_in (by simp [n])] at e
    cases e
  · rw [off_out (by simp [n])] at e
    rw [upd_ne n]
    exact e
/-- the rows of what was booked till then -/
def rowsTo (f : Ent → Bool) (es : List Ent) : List Rw := allRows ((es.filter f).map fun e : Ent => e.2.2.2)
theorem rowsTo_yes {f : Ent → Bool} {es : List Ent} {e : Ent} (h : f e = true) : rowsTo f (es ++ [e]) = rowsTo f es ++ rowsE e.2.2.2 := by
  unfold rowsTo allRows
  rw [List.filter_append, List.filter_cons, if_pos h, List.map_append, List.map_append, List.flatten_append]
  simp
theorem rowsTo_no {f : Ent → Bool} {es : List Ent} {e : Ent} (h : f e = false) : rowsTo f (es ++ [e]) = rowsTo f es := by
  unfold rowsTo
  rw [List.filter_append, List.filter_cons, if_neg (by rw [h]; simp), List.filter_nil, List.append_nil]
theorem rowsTo_small {f : Ent → Bool} {es : List Ent} (h : ∀ e ∈ es, Ints isPk e.2.2.2) : ∀ r ∈ rowsTo f es, small r.1 := allRows_small fun d m => by
  obtain ⟨e, me, rfl⟩ := List.mem_map.mp m
  exact h e (List.mem_filter.mp me).1
theorem rowsTo_len {f : Ent → Bool} {es fs : List Ent} (h : es.Sublist fs) : (rowsTo f es).length ≤ (allRows (fs.map fun e : Ent => e.2.2.2)).length := by
  unfold rowsTo
  exact (allRows_sub ((List.filter_sublist).trans h)).length_le
theorem rowsE_small {kvs : List (List Key × V)} (I : Ints isPk kvs) : ∀ r ∈ rowsE kvs, small r.1 := fun r m => by
  obtain ⟨e, me, rfl⟩ := List.mem_map.mp m
  obtain ⟨⟨p, e1, sm⟩, _⟩ := I.ent e me
  show small (unpk e.1)
  rw [e1, unpk_pk]
  exact sm
theorem small_app {a b : List Rw} (h : ∀ r ∈ a, small r.1) (k : ∀ r ∈ b, small r.1) : ∀ r ∈ a ++ b, small r.1 := fun r m => (List.mem_append.mp m).elim (h r) (k r)
/-- of entries: the dict of what they add up to -/
def spLBal : Sp := fun vs H Q _ => ∃ (l : Addr) (ys : List V) (es : List Ent) (n m : Int) (wh : Nat) (g : Ent → Int) (f : Int → Int → Ent → Bool), vs = [.ref l, .int n, .int m, .int wh] ∧ H l = some (.lst ys) ∧ Paired (EntAt H) ys es ∧ GoodEs es ∧
  (∀ e x, ([V.int e.1, .int e.2.1, .int e.2.2.1, x] : List V)[wh]? = some (.int (g e))) ∧ (∀ e, f n m e = (decide (e.1 ≤ n) && decide (g e ≤ m))) ∧ ∀ H' p, Same H H' → H p = none → H' p = some (.dT (balOf f n m es)) → Q (.ref p) H'
section
variable {P : Program} {w : World} {K : PySem.W.Frag} {mg : Str → Option Value} {base : Heap}
abbrev s__law_balances : Stmt := top 46
theorem sc__law_balances : FnScope ["entries", "known", "valid", "which", "found", "entry", "key"] ["entries", "known", "valid", "which"] (defScope s__law_balances) := ⟨rfl, rfl, rfl, by decide +kernel, rfl, by decide +kernel, by decide +kernel⟩
theorem c__law_balances (T : Txt K mg) (D : Dfn K mg "_law_balances" s__law_balances) : Cal P w K mg base 1 "_law_balances" ["entries", "known", "valid", "which"] spLBal := by
  refine D.cal sc__law_balances (fun _ _ _ _ _ _ us hl => match us, hl with | [_, _, _, _], _ => rfl) (fun vs H Q E h => ?_) fun cdv A outer s H vs Q E hr h => ?_
  · obtain ⟨l, ys, es, n, m, wh, g, f, rfl, _⟩ := h
    rfl
  obtain ⟨l, ys, es, n, m, wh, g, f, rfl, hl, pr, good, hg, hf, q⟩ := h
  refine ⟨_, (pss_cons (ps_set (i := 4) sc__law_balances.nd rfl (by first | exact Or.inl rfl | exact Or.inr rfl) pe_dnewT)
      (pss_cons (ps_for PassesOwn.never rfl (pi_list (pv 0)) (pg_name (i := 5) sc__law_balances.nd rfl (by first | exact Or.inl rfl | exact Or.inr rfl))
      (pss_one (ps_if (PW.pt (pw_and (pt_cmpR op_le (pe_ix ix_tup (pv 5) pe_int (fun _ _ => rfl)) (pv 1) (nomark _)) (pw_and1 (pt_cmpR op_le (pe_ix ix_tup (pv 5) (pv 3) (fun _ _ => rfl)) (pv 2) (nomark _))))) (pss_one (ps_lock (ps_for PassesOwn.never rfl (pi_keys (pe_ix ix_tup (pv 5) pe_int (fun _ _ => rfl))) (pg_name (i := 6) sc__law_balances.nd rfl (by first | exact Or.inl rfl | exact Or.inr rfl))
      (pss_one (ps_dput (hu_of hr) (pv 4) (pv 6) (pe_op op_add (pe_dget2 (hu_of hr) (pv 4) (pv 6) pe_int ⟨rfl, by rfl, rfl, rfl⟩) (pe_dget (hu_of hr) (pe_ix ix_tup (pv 5) pe_int (fun _ _ => rfl)) (pv 6) (fun _ _ => rfl))) rfl))))) pss_nil)))
      (pss_one (ps_ret (pe_callTy (T := "dict") (call_dictPT rfl hr.units) (by rfl) T.dict (by decide +kernel) (pa_cons (pe_lc (own := [("key", 6)]) (g := gName 6) rfl sc__law_balances.nd (pi_list (pe_callB (id := "sorted") (call_sortedDT rfl hr.units) (by rfl) T.sorted (by decide +kernel) (pa_cons (pv 4) pa_nil))) (blkOk_by (N := ["entries", "known", "valid", "which", "found", "entry", "key"]) (sc := defScope s__law_balances) (by decide +kernel)) (fun _ _ _ _ _ => (pg_name (i := 6) sc__law_balances.nd rfl (by first | exact Or.inl rfl | exact Or.inr rfl))) (fun _ _ _ _ _ => (pts_one (pt_cmpR op_ne (pe_dget (hu_of hr) (pv 4) (pv 6) (fun _ _ => rfl)) pe_int (nomark _)))) (fun _ _ _ _ _ => (pe_tup (pa_cons (pv 6) (pa_cons (pe_dget (hu_of hr) (pv 4) (pv 6) (fun _ _ => rfl)) pa_nil))))) pa_nil)))))), ?_⟩
  have yl : ys.length = es.length := Paired.length pr
  intro S hS
  have sS : Same H _ := Same.up (o := .dT []) hS
  refine ⟨_, rfl, l, rfl, ⟨ys, SqL.of (sS _ _ hl)⟩, for_it walk_list (fun i σ H' => (∃ u v, σ = [some (.ref l), some (.int n), some (.int m), some (.int wh), some (.ref S), u, v]) ∧ Same H H' ∧ H' S = some (.dT (sumT (rowsTo (f n m) (es.take i))))) ⟨⟨_, _, rfl⟩, sS, by simp [rowsTo, allRows, sumT, sums, upd_same]⟩ (fun i σ H' hi p => SqL.of (p.2.1 _ _ hl)) ?_ ?_⟩
  · rintro i x σ H2 H3 hi ⟨⟨u1, v1, rfl⟩, s2, hd⟩ ⟨rfl, hx⟩
    obtain ⟨e, he⟩ : ∃ e, es[i]? = some e := ⟨es[i]'(by omega), List.getElem?_eq_getElem (by omega)⟩
    obtain ⟨t, p, rfl, ht0, hp0⟩ := Paired.at2 pr hx he
    have ht := s2 _ _ ht0
    have hp := s2 _ _ hp0
    have tk1 := take_at he
    have smT := rowsTo_small (f := f n m) (es := es.take i) fun e' m' => good.sm e' (List.mem_of_mem_take m')
    have fewT : (rowsTo (f n m) (es.take i)).length ≤ 60 := Nat.le_trans (rowsTo_len (List.take_sublist i es)) good.few
    have Ie := good.sm e (List.mem_of_getElem? he)
    refine ⟨_, rfl, t, _, _, _, rfl, rfl, SqT.of ht, at_nat (i := 0) rfl, _, rfl, _, _, rfl, rfl, _, rfl, ?_⟩
    cases c1 : decide (e.1 ≤ n) with
    | false =>
      refine iteF (iteF ⟨⟨_, _, rfl⟩, s2, ?_⟩)
      rw [tk1, rowsTo_no (by rw [hf, c1]; rfl)]
      exact hd
    | true =>
      refine iteT ⟨_, rfl, _, rfl, t, _, _, _, rfl, rfl, SqT.of ht, at_nat (i := wh) (hg e _), _, rfl, _, _, rfl, rfl, _, rfl, ?_⟩
      cases c2 : decide (g e ≤ m) with
      | false =>
        refine iteF ⟨⟨_, _, rfl⟩, s2, ?_⟩
        rw [tk1, rowsTo_no (by rw [hf, c1, c2]; rfl)]
        exact hd
      | true =>
        have fe : f n m e = true := by rw [hf, c1, c2]; rfl
        refine iteT ?_
        have nS : S ≠ p := fun z => by rw [z, hp0] at hS; cases hS
        have nt : t ≠ p := fun z => by rw [z, hp0] at ht0; cases ht0
        have smE := small_app smT (rowsE_small Ie)
        refine ⟨p, _, hp, trivial, fun od => ?_⟩
        have tat : ∀ {G : Hp}, Same (off [p] H) G → G t = some (.tup [.int e.1, .int e.2.1, .int e.2.2.1, .ref p]) := fun s => s _ _ ((off_out (by simp [nt])).trans ht0)
        have s20 : Same (off [p] H) (upd H3 p (.frz od (.dT e.2.2.2))) := (Same.off s2).trans lock
        have all : rowsTo (f n m) (es.take (i + 1)) = rowsTo (f n m) (es.take i) ++ rowsE e.2.2.2 := by rw [tk1, rowsTo_yes fe]
        have fewA : (rowsTo (f n m) (es.take i) ++ rowsE e.2.2.2).length ≤ 60 := by
          rw [← all]
          exact Nat.le_trans (rowsTo_len (List.take_sublist _ es)) good.few
        have el : (rowsE e.2.2.2).length = e.2.2.2.length := by unfold rowsE; rw [List.length_map]
        refine ⟨_, rfl, t, _, _, _, rfl, rfl, SqT.of (tat s20), at_nat (i := 3) rfl, p, od, rfl, .inr ⟨_, upd_same, for_it walk_keysT (fun j σ H' => (∃ v, σ = [some (.ref l), some (.int n), some (.int m), some (.int wh), some (.ref S), some (.ref t), v]) ∧ Same (off [p] H) H' ∧ H' p = some (.frz od (.dT e.2.2.2)) ∧ H' S = some (.dT (sumT (rowsTo (f n m) (es.take i) ++ (rowsE e.2.2.2).take j)))) ⟨⟨_, rfl⟩, s20, upd_same, ?_⟩ (fun j σ H' hj h => h.2.2.1) ?_ ?_⟩⟩
        · rw [List.take_zero, List.append_nil, upd_ne nS]
          exact hd
        · rintro j x σ H4 H5 hj ⟨⟨w1, rfl⟩, s4, h4, hd4⟩ ⟨rfl, kk, v, qa, e1, rfl, hq⟩
          obtain ⟨pp, n', rfl, rfl, e2⟩ := rowsE_at Ie e1
          have smJ : ∀ r ∈ rowsTo (f n m) (es.take i) ++ (rowsE e.2.2.2).take j, small r.1 := fun r mr => smE r ((List.mem_append.mp mr).elim (fun h => List.mem_append_left _ h) fun h => List.mem_append_right _ (List.mem_of_mem_take h))
          have I0 := sumT_ints smJ
          have v0 : valV e.2.2.2 (pk pp) = some (.int n') := val_of Ie.nd (List.mem_of_getElem? e1)
          refine ⟨_, rfl, S, rfl, .inr ⟨_, .inl hd4⟩, _, rfl, _, DGet.t (k := pk pp) hd4 hq, ?_⟩
          rw [I0.get]
          refine ⟨_, rfl, t, _, _, _, rfl, rfl, SqT.of (tat s4), at_nat (i := 3) rfl, _, rfl, p, _, rfl, .inr ⟨_, pk pp, qa, .inr ⟨od, h4⟩, rfl, hq, v0.symm⟩, _, _, rfl, rfl, ?_⟩
          refine ⟨_, rfl, _, rfl, S, _, rfl, DPut.t (k := pk pp) hd4 hq (sz (m := 60) ?_), ⟨_, rfl⟩, ?_, ?_, ?_⟩
          · have h1 := sumT_len (rowsTo (f n m) (es.take i) ++ (rowsE e.2.2.2).take j)
            have h2 := take_len (rowsE e.2.2.2) j
            rw [List.length_append] at h1 fewA
            omega
          · exact Same.set s4 ((off_out (by simp [nS])).trans hS)
          · rw [upd_ne nS.symm]
            exact h4
          · rw [upd_same, take_at e2, ← List.append_assoc, sumT_app]
            rfl
        · rintro σ H4 ⟨⟨w1, rfl⟩, s4, h4, hd4⟩
          refine ⟨h4, ⟨_, _, rfl⟩, unlock s4 hp0, ?_⟩
          rw [upd_ne nS, hd4, all, ← el, List.take_length]
  · rintro σ H2 ⟨⟨u1, v1, rfl⟩, s2, hd⟩
    have hd : H2 S = some (.dT (sumT (rowsTo (f n m) es))) := by rw [hd, yl, List.take_length]
    have sm := rowsTo_small (f := f n m) good.sm
    have few : (rowsTo (f n m) es).length ≤ 60 := Nat.le_trans (rowsTo_len (List.Sublist.refl _)) good.few
    have q : ∀ H' p, Same H H' → H p = none → H' p = some (.dT (tk (sumT (rowsTo (f n m) es)))) → Q (.ref p) H' := q
    clear hf
    generalize rowsTo (f n m) es = R at hd sm few q
    have I0 := sumT_ints sm
    have kl : (keysOf (sumT R)).length ≤ 60 := by
      have := sumT_len R
      unfold keysOf
      rw [List.length_map]
      omega
    refine ⟨_, rfl, S, _, _, rfl, .inl hd, keysOf_eq I0, by omega, fun qs p hq hp => ?_⟩
    have sp := Same.up (o := .lst (qs.map V.ref)) hp
    have ql : qs.length = (pSort (keysOf (sumT R))).length := Paired.length hq
    have kl2 : (pSort (keysOf (sumT R))).length ≤ 60 := by rw [(pSort_perm _).length_eq]; exact kl
    refine ⟨p, rfl, ⟨_, SqL.of upd_same⟩, fun D hD => lc_gen walk_list walk_at (pSort (keysOf (sumT R))) (fun k => decide (amt (sumT R) k ≠ 0)) (by rw [List.length_map, ql]) (sz (m := 60) (by rw [List.length_map, ql]; exact kl2)) hD (fun H' s' => SqL.of (s' _ _ upd_same))
      (fun H' k y => ∃ t q, y = .ref t ∧ H' t = some (.tup [.ref q, .int (amt (sumT R) k)]) ∧ H' q = some (.tup [.str k.1, .str k.2])) (fun _ _ _ _ e ⟨t, q, e1, e2, e3⟩ => ⟨t, q, e1, e _ _ e2, e _ _ e3⟩) (fun _ _ _ _ _ e ⟨t, q, e1, e2, e3⟩ => ⟨t, q, e1, by rw [upd_ne (ne_of e2 e (by intro z; cases z))]; exact e2, by rw [upd_ne (ne_of e3 e (by intro z; cases z))]; exact e3⟩) (fun i x k H3 A B hi hx hk s3 kA kB => ?_) (fun H3 acc s3 h3 pr => ?_)⟩
    · rw [List.getElem?_map] at hx
      obtain ⟨q, hq1, rfl⟩ := Option.map_eq_some_iff.mp hx
      have hk2 : k ∈ keysOf (sumT R) := (pSort_perm _).mem_iff.mp (List.mem_of_getElem? hk)
      have hq2 : AtP H2 q k := Paired.at2 hq hq1 hk
      have s4 := sp.trans s3
      have v0 : valV (sumT R) (pk k) = some (.int (amt (sumT R) k)) := I0.at_ (by rw [keysOf_eq I0]; exact List.mem_map.mpr ⟨k, hk2, rfl⟩)
      refine ⟨rfl, ?_⟩
      refine ⟨_, rfl, _, rfl, S, _, rfl, v0 ▸ DGet.t (k := pk k) (s4 _ _ hd) (s4 _ _ hq2), rfl, _, rfl, ?_⟩
      have cc : (!decide (V.int (amt (sumT R) k) = V.int 0)) = decide (amt (sumT R) k ≠ 0) := by
        by_cases c : amt (sumT R) k = 0 <;> simp [c]
      cases c : decide (amt (sumT R) k ≠ 0) with
      | false =>
        rw [cc, c]
        exact iteF (kB c _ (Same.refl _))
      | true =>
        rw [cc, c]
        refine iteT ?_
        refine ⟨_, rfl, _, rfl, _, rfl, S, _, rfl, v0 ▸ DGet.t (k := pk k) (s4 _ _ hd) (s4 _ _ hq2), two_line, fun t3 ht3 => ?_⟩
        exact kA c _ _ (Same.up ht3) ⟨t3, q, rfl, upd_same, Same.up ht3 _ _ (s4 _ _ hq2)⟩
    · obtain ⟨ts, rfl, pts⟩ := pairs_tk (K := K) pr
      have sH := s2.trans (sp.trans s3)
      exact ⟨D, ts, _, rfl, SqL.of h3, pts, tk_nodup I0, fun p2 hp2 => q _ p2 (sH.trans (Same.up hp2)) (sH.free hp2) upd_same⟩
end
end K28

set_option Elab.async false
set_option linter.all false
set_option maxRecDepth 100000
set_option maxHeartbeats 4000000
namespace K28
open PySem PySem.Spec PyProof.Rows L2 Sr LamX
abbrev s__law_tried : Stmt := top 47
theorem sc__law_tried : FnScope ["work", "e"] ["work"] (defScope s__law_tried) := ⟨rfl, rfl, rfl, by decide +kernel, rfl, by decide +kernel, by decide +kernel⟩
/-- what was tried: told, or the word of the error with what it holds -/
def TTr (CA CN CF CT : Addr) : (XK → Hp → VK → Prop) → Hp → VK → Prop := fun tl H Q =>
  tl (fun cls d H' => ∃ (C : Addr) (at_ w : Str) (e : Addr) (v : V), ((C = CA ∧ at_ = "account" ∧ w = "account") ∨ (C = CN ∧ at_ = "thing" ∧ w = "name") ∨ (C = CF ∧ at_ = "floor" ∧ w = "floor") ∨ (C = CT ∧ at_ = "time" ∧ w = "time")) ∧ cls = .ref C ∧ d = some e ∧ H' e = some (.xd [(at_, v)]) ∧ ∀ p, H' p = none → Q (.ref p) (upd H' p (.tup [.str w, v]))) H
    fun v H' => [V.str "told", v].length ≤ sizeLine ∧ ∀ p, H' p = none → Q (.ref p) (upd H' p (.tup [.str "told", v]))
theorem g_tried {X : Cx} {CA CN CF CT fA fN fF fT g : Addr} (hA : X.mg "BadAccount" = some (.ref CA)) (hN : X.mg "BadName" = some (.ref CN)) (hF : X.mg "BadFloor" = some (.ref CF)) (hT : X.mg "BadTime" = some (.ref CT)) (EA : Err X.K CA fA "account") (EN : Err X.K CN fN "thing") (EF : Err X.K CF fF "floor") (ET : Err X.K CT fT "time")
    (x11 : PySem.W.exmOne X.K (.ref CA) (.ref CA) = some true) (x22 : PySem.W.exmOne X.K (.ref CN) (.ref CN) = some true) (x33 : PySem.W.exmOne X.K (.ref CF) (.ref CF) = some true) (x44 : PySem.W.exmOne X.K (.ref CT) (.ref CT) = some true)
    (x21 : PySem.W.exmOne X.K (.ref CN) (.ref CA) = some false) (x31 : PySem.W.exmOne X.K (.ref CF) (.ref CA) = some false) (x32 : PySem.W.exmOne X.K (.ref CF) (.ref CN) = some false) (x41 : PySem.W.exmOne X.K (.ref CT) (.ref CA) = some false) (x42 : PySem.W.exmOne X.K (.ref CT) (.ref CN) = some false) (x43 : PySem.W.exmOne X.K (.ref CT) (.ref CF) = some false) (cdg : Value) (q : Str) :
    GivesTo X ["work", "e"] "_law_tried" (defScope s__law_tried) g cdg (defBody s__law_tried) "work" q (TTr CA CN CF CT) := by
  intro f c' s H Q tl act hc h
  refine ⟨_, pss_one (ps_try_named (X := (cxOf C8.CX0 X.prog X.w X.K X.mg X.base ["work", "e"] "_law_tried" (defScope s__law_tried) g cdg X.A X.stack s H C8.E0).nox)
      (tb := fun W D σ H => ∃ Ech : XK, (∀ cls d σ' H', Ech cls d H' → W cls d σ' H') ∧ σ[0]? = some (some (.ref f)) ∧ H c' = some (CodeO c' q) ∧ tl Ech H (fun v H' => [V.str "told", v].length ≤ sizeLine ∧ ∀ p, H' p = none → D.rt (.ref p) (upd H' p (.tup [.str "told", v]))))
      (l := [(.ref CA, 1, fun a cls d D σ H => σ.length = 2 → tRet (tTup (tCons (tC (.str "account")) (tCons (tXf a cls d CA "account" (tVar 1)) tNil))) D σ H),
        (.ref CN, 1, fun a cls d D σ H => σ.length = 2 → tRet (tTup (tCons (tC (.str "name")) (tCons (tXf a cls d CN "thing" (tVar 1)) tNil))) D σ H),
        (.ref CF, 1, fun a cls d D σ H => σ.length = 2 → tRet (tTup (tCons (tC (.str "floor")) (tCons (tXf a cls d CF "floor" (tVar 1)) tNil))) D σ H),
        (.ref CT, 1, fun a cls d D σ H => σ.length = 2 → tRet (tTup (tCons (tC (.str "time")) (tCons (tXf a cls d CT "time" (tVar 1)) tNil))) D σ H)]) rfl rfl sc__law_tried.nd takes0 (fun W pn xe tk _ => ?_) (.cons ⟨?_⟩ (.cons ⟨?_⟩ (.cons ⟨?_⟩ (.cons ⟨?_⟩ .nil))))), ?_⟩
  · refine ⟨fun pins s' σ H' D I h' => ?_⟩
    obtain ⟨Ech, hW, h1, h2, h3⟩ := h'
    have hp := act W pn xe Ech ⟨265, 24, 265, 28⟩ ⟨265, 24, 265, 30⟩ tk hW
    exact (pss_one (ps_ret (pe_tup (pa_cons pe_str (pa_cons hp pa_nil))))).run pins s' σ H' D I ⟨h1, h2, h3⟩
  · refine ⟨_, _, _, _, _, _, rfl, ⟨rfl, by decide, .inl hA⟩, rfl, rfl, fun a oe cls d pn hz hf => ?_⟩
    exact pss_len (pss_one (ps_ret (pe_tup (pa_cons pe_str (pa_cons (pe_xf EA.xf EA.no hz hf (pv 1)) pa_nil)))))
  · refine ⟨_, _, _, _, _, _, rfl, ⟨rfl, by decide, .inl hN⟩, rfl, rfl, fun a oe cls d pn hz hf => ?_⟩
    exact pss_len (pss_one (ps_ret (pe_tup (pa_cons pe_str (pa_cons (pe_xf EN.xf EN.no hz hf (pv 1)) pa_nil)))))
  · refine ⟨_, _, _, _, _, _, rfl, ⟨rfl, by decide, .inl hF⟩, rfl, rfl, fun a oe cls d pn hz hf => ?_⟩
    exact pss_len (pss_one (ps_ret (pe_tup (pa_cons pe_str (pa_cons (pe_xf EF.xf EF.no hz hf (pv 1)) pa_nil)))))
  · refine ⟨_, _, _, _, _, _, rfl, ⟨rfl, by decide, .inl hT⟩, rfl, rfl, fun a oe cls d pn hz hf => ?_⟩
    exact pss_len (pss_one (ps_ret (pe_tup (pa_cons pe_str (pa_cons (pe_xf ET.xf ET.no hz hf (pv 1)) pa_nil)))))
  · refine ⟨_, fun cls d σ' H' hE => ?_, rfl, hc, h⟩
    obtain ⟨C, at_, w, e, v, hC, rfl, rfl, he, hq⟩ := hE
    have h1 : ∀ {a : Addr}, (σ'.set 1 (some (V.ref a))).length = 2 → (σ'.set 1 (some (V.ref a)))[1]? = some (some (.ref a)) := fun {a} hl => by
      rw [List.length_set] at hl
      rw [List.getElem?_set_self (by omega)]
    rcases hC with ⟨rfl, rfl, rfl⟩ | ⟨rfl, rfl, rfl⟩ | ⟨rfl, rfl, rfl⟩ | ⟨rfl, rfl, rfl⟩
    · exact ⟨true, x11, iteT fun a ha hl => ⟨_, h1 hl, rfl, rfl, e, _, v, rfl, he, rfl, two_line, fun p hp => hq p hp⟩⟩
    · exact ⟨false, x21, iteF ⟨true, x22, iteT fun a ha hl => ⟨_, h1 hl, rfl, rfl, e, _, v, rfl, he, rfl, two_line, fun p hp => hq p hp⟩⟩⟩
    · exact ⟨false, x31, iteF ⟨false, x32, iteF ⟨true, x33, iteT fun a ha hl => ⟨_, h1 hl, rfl, rfl, e, _, v, rfl, he, rfl, two_line, fun p hp => hq p hp⟩⟩⟩⟩
    · exact ⟨false, x41, iteF ⟨false, x42, iteF ⟨false, x43, iteF ⟨true, x44, iteT fun a ha hl => ⟨_, h1 hl, rfl, rfl, e, _, v, rfl, he, rfl, two_line, fun p hp => hq p hp⟩⟩⟩⟩⟩
end K28

set_option Elab.async false
set_option linter.all false
set_option maxRecDepth 100000
set_option maxHeartbeats 4000000
namespace Sr
open PySem PySem.Spec PyProof.Rows L2 L2.DX
/-! ### list(d.items()), d a dict with tuples for keys -/
theorem items_list {P : Program} {w : World} {A : Around} {E : Value → Shared → Prop} {s : Shared} {Q : Value → Shared → Prop} {r d : Addr} {es : Array DictEntry} {ep : Nat} (hh : A.handled = none) (hv : s.heap.IsItemsView r d) (hm : DT.Raw s.heap d es ep) (hn : es.size ≤ sizeLine)
    (hQ : ∀ h' tk acc c as, (∀ b o, s.heap.get? b = some o → h'.get? b = some o) → h'.get? s.heap.objs.size = some { cls := .type "list", dict := none, data := .seq acc c, slots := #[] } → as.length = es.size → DT.Made es s.heap.objs.size h' as →
      acc.toList = as.map Value.ref → Q (.ref s.heap.objs.size) { s with heap := h', toks := tk }) :
    wpAny (model P w) A (call (.type "list") [.ref r]) Q E s := by
  refine callType_codes (Q₁ := fun obj t => obj = .ref s.heap.objs.size ∧ t = { s with heap := s.heap.push { cls := .type "list", data := .seq #[] } }) PySem.F.called_list (PySem.F.typeCall_list_1 _) PySem.F.entry_list_init (code_list_new _ ⟨rfl, rfl⟩) fun obj t ht => ?_
  obtain ⟨rfl, rfl⟩ := ht
  have hS : (s.heap.push { cls := .type "list", data := .seq #[] }).get? s.heap.objs.size = some { cls := .type "list", data := .seq #[] } := Heap.get?_push_size _ rfl
  have lr : r < s.heap.objs.size := let ⟨_, ho, _⟩ := hv; Heap.lt_size ho
  have ld := hm.lt
  refine ⟨⟨_, hS, rfl⟩, PySem.F.args_list_init_2 _ _, ?_⟩
  show wpAny _ _ (do let old ← Builtin.List.listItems (.ref s.heap.objs.size); Builtin.List.listUpdate (.ref s.heap.objs.size) (fun _ => #[]); letGo old.toList.reverse; Builtin.List.listExtendWith (.ref s.heap.objs.size) (.ref r) .none) _ _ _
  refine wpAny_bind ?_
  unfold Builtin.List.listItems
  refine wpAny_bind (wpAny_seqItems hS rfl (wpAny_pure ?_))
  show wpAny _ _ (updateSeq s.heap.objs.size (fun _ => #[]) >>= fun _ => letGo (#[] : Array Value).toList.reverse >>= fun _ => Builtin.List.listExtendWith (.ref s.heap.objs.size) (.ref r) .none) _ _ _
  refine wpAny_bind (wpAny_updateSeq hS rfl ?_)
  have hS2 := Heap.get?_update_self (Obj.mapSeq (fun _ => (#[] : Array Value))) hS rfl
  have kp : ∀ b o, s.heap.get? b = some o → ((s.heap.push { cls := .type "list", data := .seq #[] }).update s.heap.objs.size (Obj.mapSeq (fun _ => (#[] : Array Value)))).get? b = some o :=
    fun b o e => (Heap.get?_update_other _ _ (Nat.ne_of_gt (Heap.lt_size e))).trans (Heap.get?_push_of_some _ e)
  refine wpAny_bind (wpAny_letGo ?_)
  refine DT.extI (A := A.in1) (es := es) (ep := ep) hh (let ⟨o, ho, x⟩ := hv; ⟨o, kp r o ho, x⟩) (hm.at' fun o e => kp d o e) s.heap.objs.size (Nat.ne_of_gt lr) (Nat.ne_of_lt ld) .none _ hS2 (fun h' tk acc c as hk hS' hl hG hacc => ?_) hn
  exact ⟨rfl, hQ h' tk acc c as (fun b o e => hk b o (Nat.ne_of_lt (Heap.lt_size e)) (kp b o e)) hS' hl (hG.low (Nat.le_of_lt (Heap.lt_size hS2))) hacc⟩
theorem paired_by {α β : Type} {R : α → β → Prop} : ∀ {l : List α} {m : List β}, l.length = m.length → (∀ (j : Nat) (a : α) (b : β), l[j]? = some a → m[j]? = some b → R a b) → Paired R l m
  | [], [], _, _ => .nil
  | a :: l, b :: m, h, r => .cons (r 0 a b rfl rfl) (paired_by (by simpa using h) fun j x y hx hy => r (j + 1) x y (by simpa using hx) (by simpa using hy))
def ItemAt (H : Hp) (t : Addr) (kv : List Key × V) : Prop := ∃ q, H t = some (.tup [.ref q, kv.2]) ∧ H q = some (.tup (kv.1.map kV))
section
variable {X : Cx}
theorem call_list_itemsT (hc : X.calm = true) : CallR X (.type "list") (fun xs H Q => ∃ (p a : Addr) (kvs : List (List Key × V)), xs = [.ref p] ∧ H p = some (itemsO p a) ∧ H a = some (.dT kvs) ∧ kvs.length ≤ 1000 ∧
    ∀ H' l ts, Same H H' → H l = none → H' l = some (.lst (ts.map V.ref)) → Paired (ItemAt H') ts kvs → Q (.ref l) H') := by
  intro pins s σ H xs us Q I r h
  obtain ⟨p, a, kvs, rfl, hp, ha, zl, q⟩ := h
  obtain ⟨u, rfl, ru⟩ := r.one
  cases ru
  have view : s.heap.IsItemsView p a := (show ObjOk X.prog X.w H s.heap p (itemsO p a) from I.hok p _ hp).1
  obtain ⟨z, hd, xs', rel, o, es, ep, ho, hx, hdat, hes, his, hn⟩ := dt_of I.hok ha
  have l1 : kvs.length = xs'.length := Paired.length rel
  have l2 : es.size = xs'.length := size_of_entries hes
  refine items_list (P := X.prog) (w := X.w) (es := es) (ep := ep) (I.ok.hd hc) view ⟨o, ho, hx, hdat⟩ (by rw [sizeLine_eq]; omega) fun h' tk acc c as hk hS hl hG hacc => ?_
  have nd : as.Nodup := List.Pairwise.imp (fun h => Nat.ne_of_lt h) hG.rise
  have made : ∀ (j : Nat) (b : Addr), as[j]? = some b → ∃ (kv : List Key × V) (kq : Addr) (v : Value), kvs[j]? = some kv ∧ H kq = some (.tup (kv.1.map kV)) ∧ L2.RelV kv.2 v ∧ h'.get? b = some { cls := .type "tuple", data := .seq #[Value.ref kq, v] } := by
    intro j b hj
    obtain ⟨en, he, hg⟩ := hG.pairs j b hj
    rw [entry_at hes j] at he
    cases hxj : xs'[j]? with
    | none => rw [hxj] at he; cases he
    | some x =>
      rw [hxj] at he
      have een : entryOfKey (tupleKind (mixKind X.prog X.w)) x = en := Option.some.inj he
      obtain ⟨e0, he0, r1, r2, r3⟩ := pget rel hxj
      refine ⟨e0, x.2.1, x.2.2, he0, r2, r3, ?_⟩
      rw [hg, ← een]
      rfl
  have len : as.length = kvs.length := by omega
  have hn0 : H s.heap.objs.size = none := I.hok.fresh (Nat.le_refl _)
  have I1 : L2.Inv X pins σ (upd H s.heap.objs.size (.lst (as.map V.ref))) { s with heap := h', toks := tk } :=
    I.laid (t' := tk) hk (Nat.le_refl _) ⟨by rw [List.length_map, sizeLine_eq]; omega, acc.toList, c, by rw [hacc]; exact vals_refs as, by rw [Array.toArray_toList]; exact hS⟩
  obtain ⟨H2, I2, g2, t2⟩ := takeT (P := fun b vs => ∃ (j : Nat) (kv : List Key × V) (kq : Addr), as[j]? = some b ∧ kvs[j]? = some kv ∧ H kq = some (.tup (kv.1.map kV)) ∧ vs = [.ref kq, kv.2]) I as _ I1 nd fun b mb => by
    obtain ⟨j, hj⟩ := List.mem_iff_getElem?.mp mb
    obtain ⟨kv, kq, v, e1, e2, e3, e4⟩ := made j b hj
    have low := hG.above b mb
    refine ⟨Nat.le_of_lt low, ?_, [.ref kq, kv.2], ⟨j, kv, kq, hj, e1, e2, rfl⟩, fun H2 => ⟨by show 2 ≤ sizeLine; rw [sizeLine_eq]; omega, [.ref kq, v], .cons rfl (.cons e3 .nil), ⟨_, e4, rfl, _, rfl⟩⟩⟩
    rw [upd_ne (Nat.ne_of_gt low)]
    exact I.hok.fresh (Nat.le_of_lt low)
  have same : Same H H2 := fun b o e => g2 b o (by rw [upd_ne (ne_of_none e hn0)]; exact e)
  refine ⟨.ref s.heap.objs.size, H2, I2, rfl, q H2 _ as same hn0 (g2 _ _ upd_same) (paired_by len fun j b kv hj hkv => ?_)⟩
  obtain ⟨vs, ⟨j2, kv2, kq, e1, e2, e3, e4⟩, e5⟩ := t2 b (List.mem_of_getElem? hj)
  have ej : j2 = j := by
    obtain ⟨x1, y1⟩ := List.getElem?_eq_some_iff.mp e1
    obtain ⟨x2, y2⟩ := List.getElem?_eq_some_iff.mp hj
    rcases Nat.lt_trichotomy j2 j with c | c | c
    · have h := List.pairwise_iff_getElem.mp hG.rise j2 j x1 x2 c
      rw [y1, y2] at h
      exact absurd h (Nat.lt_irrefl _)
    · exact c
    · have h := List.pairwise_iff_getElem.mp hG.rise j j2 x2 x1 c
      rw [y1, y2] at h
      exact absurd h (Nat.lt_irrefl _)
  subst ej
  rw [e2] at hkv
  cases hkv
  rw [e4] at e5
  exact ⟨kq, e5, same _ _ e3⟩
end
end Sr

set_option Elab.async false
set_option linter.all false
set_option maxRecDepth 100000
set_option maxHeartbeats 4000000
namespace Sr
open PySem PySem.Spec PyProof.Rows L2
/-! ### d.clear(), the keys of d being tuples -/
def rDClearT : V → List V → Hp → VK → Prop := fun x vs H Q => ∃ (a : Addr) (kvs : List (List Key × V)), x = .ref a ∧ vs = [] ∧ H a = some (.dT kvs) ∧ Q .non (upd H a (.dT []))
theorem kt_len {H : Hp} {kvs : List (List Key × V)} {xs : List (List Key × Addr × Value)} (h : KT H kvs xs) : kvs.length = xs.length := by
  induction h with
  | nil => rfl
  | cons _ _ ih => simp [ih]
theorem mtd_clearT {X : Cx} : MtR X "dict.clear" rDClearT := by
  intro pins s σ H x vs v us Q I rx rv h
  obtain ⟨a, kvs, ex, ev, e, q⟩ := h
  subst ex
  subst ev
  obtain rfl : v = Value.ref a := rx
  have hus := rv.zero
  subst hus
  obtain ⟨z, hd, xs, rel, o, es, ep, h1, h2, h3, h4, h5, h6⟩ := dt_of I.hok e
  have hr : s.heap.DictRaw a es ep := ⟨o, h1, h2, h3⟩
  have hsz : es.size ≤ sizeLine := by
    have l1 : es.toList.length = xs.length := by rw [h4, List.length_map]
    have l2 := kt_len rel
    have l3 : es.size = es.toList.length := by simp
    rw [l3, l1, ← l2]
    exact z
  refine call_meetsIn PySem.F.slot_dict_clear hr.typeIs PySem.F.entry_dict_clear (PySem.F.args_dict_clear_1 _) (meets_dict_clear_raw a) ⟨es, ep, hr, hsz, fun h' hr' hs => ?_⟩
  obtain ⟨o', g1, g2, g3⟩ := hr'
  have new : ObjOk X.prog X.w (upd H a (.dT [])) h' a (.dT []) := ⟨Nat.zero_le _, hd, [], .nil, o', #[], ep + 1, g1, g2, g3, rfl, List.nodup_nil⟩
  exact ⟨.non, _, d_write (t' := s.toks) I (by rw [e]; exact True.intro) hs ⟨o', g1⟩ new, rfl, q⟩
section
variable {X : Cx} {o : Expr} {to : TE} {apos cpos : Pos}
theorem pe_dclearT (ho : PE X o to) (hbase : attributeBase o "clear" X.env (eval o X.env) = eval o X.env := by rfl) (hline : (apos.endLine == cpos.line) = true := by rfl) : PE X (.Call (.Attribute o "clear" apos) [] [] cpos) (tBM0 X.K "dict" rDClearT to) :=
  pe_bm0 PySem.F.plainAttrs_dict PySem.F.slot_dict_clear PySem.F.type_dict_clear mtd_clearT ho hbase hline
end
end Sr

set_option Elab.async false
set_option linter.all false
set_option maxRecDepth 100000
set_option maxHeartbeats 4000000
namespace K28
open PySem PySem.Spec PyProof.Rows L2 Sr LamX
def strOfK : Key → Str
  | .inr s => s
  | _ => ""
def till : Str := "the-till"
def extR (kvs : List (Key × V)) : List Rw := kvs.map fun e => ((till, strOfK e.1), 0 - intOf (some e.2))
def isThg (k : Key) : Prop := ∃ s ∈ thgs, k = Sum.inr s
theorem sumS_thg {rs : List Rw} (h : ∀ r ∈ rs, good r) : Ints isThg (sumS rs) := sums_ints _ _ _ _ Ints.nil fun r m => ⟨_, (h r m).2, rfl⟩
theorem extR_good {rs : List Rw} (h : ∀ r ∈ rs, good r) : ∀ r ∈ extR (sumS rs), good r := fun r m => by
  obtain ⟨e, m2, rfl⟩ := List.mem_map.mp m
  obtain ⟨⟨s, hs, e1⟩, _⟩ := (sumS_thg h).ent e m2
  refine ⟨by show till ∈ accs; decide, ?_⟩
  show strOfK e.1 ∈ thgs
  rw [e1]
  exact hs
theorem isA_rows {H : Hp} : ∀ {acc : List V} {rs : List Rw}, Paired (fun y r => ∃ t, y = V.ref t ∧ H t = some (.tup [.str r.1.1, .str r.1.2, .int r.2])) acc rs → (∀ r ∈ rs, good r) → IsA H acc (rs.map rowTr)
  | _, _, .nil, _ => .nil
  | _, _, .cons (b := r) ⟨t, e, h⟩ p, g => by
    rw [e]
    exact .cons (row_is h (g r List.mem_cons_self)) (isA_rows p fun x m => g x (List.mem_cons_of_mem _ m))
def spBald : Sp := fun vs H Q _ => ∃ (v : V) (rs : List Rw), vs = [v] ∧ Is H v (.lst (rs.map rowTr)) ∧ (∀ r ∈ rs, good r) ∧ rs.length ≤ 8 ∧ ∀ (H' : Hp) (p : Addr), Same H H' → H p = none → Is H' (.ref p) (.lst ((rs ++ extR (sumS rs)).map rowTr)) → (∀ r ∈ rs ++ extR (sumS rs), good r) → (rs ++ extR (sumS rs)).length ≤ 2 * rs.length → Q (.ref p) H'
section
variable {P : Program} {w : World} {K : PySem.W.Frag} {mg : Str → Option Value} {base : Heap}
abbrev s__law_balanced : Stmt := top 43
theorem sc__law_balanced : FnScope ["rows", "sums", "account", "thing", "amount"] ["rows"] (defScope s__law_balanced) := ⟨rfl, rfl, rfl, by decide +kernel, rfl, by decide +kernel, by decide +kernel⟩
theorem c__law_balanced (T : Txt K mg) (D : Dfn K mg "_law_balanced" s__law_balanced) : Cal P w K mg base 1 "_law_balanced" ["rows"] spBald := by
  refine D.cal sc__law_balanced (fun _ _ _ _ _ _ us hl => match us, hl with | [_], _ => rfl) (fun vs H Q E h => ?_) fun cdv A outer s H vs Q E hr h => ?_
  · obtain ⟨v, rs, rfl, _⟩ := h
    rfl
  obtain ⟨v, rs, rfl, hv, hg, l8, q⟩ := h
  obtain ⟨a, xs, rfl, hv, rv, hl, zl, sm⟩ := rows_at hv
  refine ⟨_, (pss_cons (ps_set (i := 1) sc__law_balanced.nd rfl (by first | exact Or.inl rfl | exact Or.inr rfl) pe_dnewK)
      (pss_cons (ps_for PassesOwn.never rfl (pi_list (pv 0)) (pg_tup rfl (pgs_cons (pg_name (i := 2) sc__law_balanced.nd rfl (by first | exact Or.inl rfl | exact Or.inr rfl)) (pgs_cons (pg_name (i := 3) sc__law_balanced.nd rfl (by first | exact Or.inl rfl | exact Or.inr rfl)) (pgs_cons (pg_name (i := 4) sc__law_balanced.nd rfl (by first | exact Or.inl rfl | exact Or.inr rfl)) pgs_nil))))
      (pss_one (ps_dput (hu_of hr) (pv 1) (pv 3) (pe_op op_add (pe_dget2 (hu_of hr) (pv 1) (pv 3) pe_int ⟨rfl, by rfl, rfl, rfl⟩) (pv 4)) rfl)))
      (pss_one (ps_ret (pe_op op_cat (pv 0) (pe_lock (pe_lc (own := [("thing", 3)]) (g := gName 3) (tt := tYes) rfl sc__law_balanced.nd (pi_keys (pv 1)) (blkOk_by (N := ["rows", "sums", "account", "thing", "amount"]) (sc := defScope s__law_balanced) (by decide +kernel)) (fun _ _ _ _ _ => (pg_name (i := 3) sc__law_balanced.nd rfl (by first | exact Or.inl rfl | exact Or.inr rfl))) (fun _ _ _ _ _ => pts_nil) (fun _ _ _ _ _ => (pe_tup (pa_cons pe_str (pa_cons (pv 3) (pa_cons (pe_op op_sub pe_int (pe_dget (hu_of hr) (pv 1) (pv 3) (fun _ _ => rfl))) pa_nil)))))))))))), ?_⟩
  intro S hS
  have sS : Same H _ := Same.up (o := .dK []) hS
  refine ⟨_, rfl, a, rfl, ⟨xs, SqL.of (sS _ _ hv)⟩, for_it walk_list (fun i σ H' => (∃ u v w, σ = [some (.ref a), some (.ref S), u, v, w]) ∧ Same H H' ∧ H' S = some (.dK (sumS (rs.take i)))) ⟨⟨_, _, _, rfl⟩, sS, by simp [sumS, sums, upd_same]⟩ (fun i σ H' hi p => SqL.of (p.2.1 _ _ hv)) ?_ ?_⟩
  · rintro i x σ H2 H3 hi ⟨⟨u1, v1, w1, rfl⟩, s2, hd⟩ ⟨rfl, hx⟩
    obtain ⟨r, b, hr2, rfl, hb3⟩ := row_get (rv.mono s2) hx
    have I0 := sumS_ints (rs.take i)
    refine ⟨b, _, rfl, SqT.of hb3, rfl, _, _, rfl, _, _, rfl, _, _, rfl, rfl, ?_⟩
    refine ⟨_, rfl, S, rfl, .inl ⟨_, .inl hd⟩, _, rfl, _, DGet.k (k := Sum.inr r.1.2) hd, _, rfl, ?_⟩
    rw [I0.get]
    refine ⟨_, _, rfl, rfl, _, rfl, _, rfl, S, _, rfl, DPut.k (k := Sum.inr r.1.2) hd (sz (m := 60) ?_), ⟨_, _, _, rfl⟩, Same.set s2 hS, ?_⟩
    · have := sumS_len (rs.take i)
      have := take_len rs i
      omega
    · rw [upd_same, sumS_snoc hr2]
      rfl
  · rintro σ H2 ⟨⟨u1, v1, w1, rfl⟩, s2, hd⟩
    have hd : H2 S = some (.dK (sumS rs)) := by rw [hd, hl, List.take_length]
    have I0 := sumS_thg hg
    have sl := sumS_len rs
    refine ⟨_, rfl, S, _, hd, trivial, fun od => ?_⟩
    have el : (extR (sumS rs)).length = (sumS rs).length := by unfold extR; rw [List.length_map]
    refine ⟨_, rfl, S, od, rfl, .inl ⟨_, upd_same, fun D hD => lc_gen walk_keys (At := fun i _ x => ∃ k v, (sumS rs)[i]? = some (k, v) ∧ x = kV k) (fun i H x H' y => y) (extR (sumS rs)) (fun _ => true) el (sz (m := 60) (by omega)) hD (fun H' s' => s' _ _ upd_same)
      (fun H' r y => ∃ t, y = .ref t ∧ H' t = some (.tup [.str r.1.1, .str r.1.2, .int r.2])) (fun _ _ _ _ e ⟨q, e1, e2⟩ => ⟨q, e1, e _ _ e2⟩) (fun _ _ _ _ _ e ⟨q, e1, e2⟩ => ⟨q, e1, by rw [upd_ne (ne_of e2 e (by intro z; cases z))]; exact e2⟩) (fun i x r H3 A B hi hx hk s3 kA kB => ?_) (fun H3 acc s3 h3 pr => ?_)⟩⟩
    · obtain ⟨k, v, e1, rfl⟩ := hx
      have m := List.mem_of_getElem? e1
      obtain ⟨⟨z, hz, ek⟩, n, en⟩ := I0.ent _ m
      have ek : k = Sum.inr z := ek
      have en : v = .int n := en
      subst ek en
      have v0 : valV (sumS rs) (Sum.inr z) = some (.int n) := val_of I0.nd m
      have hr : r = ((till, z), 0 - n) := by
        unfold extR at hk
        rw [List.getElem?_map, e1] at hk
        exact (Option.some.inj hk).symm
      subst hr
      refine ⟨rfl, ?_⟩
      unfold tYes
      simp only [if_true]
      refine ⟨_, rfl, _, rfl, _, rfl, S, _, rfl, .inl ⟨_, Sum.inr z, .inr ⟨od, s3 _ _ upd_same⟩, rfl, v0.symm⟩, _, _, rfl, rfl, three_line, fun t3 ht3 => ?_⟩
      exact kA rfl _ _ (Same.up ht3) ⟨t3, rfl, upd_same⟩
    · have nD : D ≠ S := fun z => by rw [z, upd_same] at hD; cases hD
      have nS : a ≠ S := fun z => by rw [z, hS] at hv; cases hv
      have fz : (extR (sumS rs)).filter (fun _ => true) = extR (sumS rs) := List.filter_eq_self.mpr fun _ _ => rfl
      rw [fz] at pr
      have al : acc.length = (sumS rs).length := by rw [Paired.length pr, el]
      have sR : Same H (upd H3 S (.dK (sumS rs))) := fun b o e => by
        have nb : b ≠ S := fun z => by rw [z, hS] at e; cases e
        rw [upd_ne nb]
        refine s3 _ _ ?_
        rw [upd_ne nb]
        exact s2 _ _ e
      refine ⟨s3 _ _ upd_same, a, D, xs, acc, rfl, rfl, sR _ _ hv, by rw [upd_ne nD]; exact h3, lineN (by omega), fun p hp => ?_⟩
      have sp := Same.up (o := .lst (xs ++ acc)) hp
      refine q _ p (sR.trans sp) (sR.free hp) (.lst upd_same ?_ (by rw [List.length_append]; omega)) (fun r m => ?_) (by rw [List.length_append]; omega)
      · rw [List.map_append]
        exact IsA.app (rv.mono (sR.trans sp)) ((IsA.keep (thaw (s3 _ _ upd_same)) (isA_rows pr (extR_good hg))).mono sp)
      · rcases List.mem_append.mp m with m | m
        · exact hg r m
        · exact extR_good hg r m
end
end K28

set_option Elab.async false
set_option linter.all false
set_option maxRecDepth 100000
set_option maxHeartbeats 4000000
namespace Sr
open PySem PySem.Spec PyProof.Rows L2
/-! ### what sums add up to -/
/-- what stands of k in rows -/
def tot {α κ : Type} [DecidableEq κ] (key : α → κ) (am : α → Int) (k : κ) : List α → Int
  | [] => 0
  | r :: t => (if key r = k then am r else 0) + tot key am k t
section
variable {α κ : Type} [DecidableEq κ] {key : α → κ} {am : α → Int}
theorem tot_app {k : κ} : ∀ {rs qs : List α}, tot key am k (rs ++ qs) = tot key am k rs + tot key am k qs
  | [], qs => (Int.zero_add _).symm
  | r :: t, qs => by
    show _ + tot key am k (t ++ qs) = _ + tot key am k t + _
    rw [tot_app, Int.add_assoc]
theorem val_bump {kvs : List (κ × V)} {j k : κ} {n : Int} : intOf (valV (bump kvs j n) k) = intOf (valV kvs k) + if j = k then n else 0 := by
  unfold bump
  rw [valV_put]
  by_cases e : k = j
  · rw [if_pos e, if_pos e.symm, e]
    rfl
  · rw [if_neg e, if_neg (fun z => e z.symm), Int.add_zero]
theorem sums_val (k : κ) : ∀ (rs : List α) (kvs : List (κ × V)), intOf (valV (rs.foldl (fun kvs r => bump kvs (key r) (am r)) kvs) k) = intOf (valV kvs k) + tot key am k rs
  | [], kvs => (Int.add_zero _).symm
  | r :: t, kvs => by
    show intOf (valV (t.foldl _ (bump kvs (key r) (am r))) k) = _ + (_ + tot key am k t)
    rw [sums_val k t, val_bump, Int.add_assoc]
/-- of all rows -/
theorem sums_tot (rs : List α) (k : κ) : intOf (valV (sums key am rs) k) = tot key am k rs := by
  have h := sums_val (key := key) (am := am) k rs []
  rw [show intOf (valV ([] : List (κ × V)) k) = 0 from rfl, Int.zero_add] at h
  exact h
theorem none_at {kvs : List (κ × V)} {k : κ} (h : valV kvs k = none) : ∀ e ∈ kvs, e.1 ≠ k := fun e m z => by
  unfold valV at h
  have := List.find?_eq_none.mp (Option.map_eq_none_iff.mp h) e m
  exact this (decide_eq_true z)
theorem has_iff {kvs : List (κ × V)} {k : κ} : k ∈ kvs.map (·.1) ↔ valV kvs k ≠ none := by
  constructor
  · intro h z
    obtain ⟨e, m, rfl⟩ := List.mem_map.mp h
    exact none_at z e m rfl
  · intro h
    obtain ⟨v, hv⟩ := Option.ne_none_iff_exists'.mp h
    exact List.mem_map.mpr ⟨_, val_mem hv, rfl⟩
theorem bump_has {kvs : List (κ × V)} {j k : κ} {n : Int} : valV (bump kvs j n) k ≠ none ↔ k = j ∨ valV kvs k ≠ none := by
  unfold bump
  rw [valV_put]
  split
  · next h => exact ⟨fun _ => .inl h, fun _ => by simp⟩
  · next h => exact ⟨.inr, fun z => z.resolve_left h⟩
/-- which keys stand in sums -/
theorem fold_has (k : κ) : ∀ (rs : List α) (kvs : List (κ × V)), valV (rs.foldl (fun kvs r => bump kvs (key r) (am r)) kvs) k ≠ none ↔ (∃ r ∈ rs, key r = k) ∨ valV kvs k ≠ none
  | [], kvs => ⟨.inr, fun h => h.resolve_left fun ⟨_, m, _⟩ => nomatch m⟩
  | q :: t, kvs => by
    show valV (t.foldl _ (bump kvs (key q) (am q))) k ≠ none ↔ _
    rw [fold_has k t, bump_has]
    constructor
    · rintro (⟨r, m, e⟩ | e | e)
      · exact .inl ⟨r, List.mem_cons_of_mem _ m, e⟩
      · exact .inl ⟨q, List.mem_cons_self, e.symm⟩
      · exact .inr e
    · rintro (⟨r, m, e⟩ | e)
      · rcases List.mem_cons.mp m with rfl | m
        · exact .inr (.inl e.symm)
        · exact .inl ⟨r, m, e⟩
      · exact .inr (.inr e)
theorem sums_has {rs : List α} {k : κ} : k ∈ (sums key am rs).map (·.1) ↔ ∃ r ∈ rs, key r = k := by
  rw [has_iff]
  have h := fold_has (key := key) (am := am) k rs []
  exact h.trans ⟨fun z => z.resolve_right (by simp [valV]), .inl⟩
end
/-- the sum of a function over keys -/
def sumOf {κ : Type} (f : κ → Int) : List κ → Int
  | [] => 0
  | k :: t => f k + sumOf f t
theorem sumOf_add {κ : Type} {f g : κ → Int} : ∀ {ks : List κ}, sumOf (fun k => f k + g k) ks = sumOf f ks + sumOf g ks
  | [] => rfl
  | k :: t => by
    show f k + g k + sumOf (fun k => f k + g k) t = (f k + sumOf f t) + (g k + sumOf g t)
    rw [sumOf_add]
    omega
theorem sumOf_zero {κ : Type} {f : κ → Int} : ∀ {ks : List κ}, (∀ k ∈ ks, f k = 0) → sumOf f ks = 0
  | [], _ => rfl
  | k :: t, h => by
    show f k + sumOf f t = 0
    rw [h k List.mem_cons_self, sumOf_zero fun j m => h j (List.mem_cons_of_mem _ m)]
    rfl
theorem sumOf_congr {κ : Type} {f g : κ → Int} : ∀ {ks : List κ}, (∀ k ∈ ks, f k = g k) → sumOf f ks = sumOf g ks
  | [], _ => rfl
  | k :: t, h => by
    show f k + sumOf f t = g k + sumOf g t
    rw [h k List.mem_cons_self, sumOf_congr fun j m => h j (List.mem_cons_of_mem _ m)]
/-- one key stands once -/
theorem sumOf_one {κ : Type} [DecidableEq κ] {j : κ} {n : Int} : ∀ {ks : List κ}, ks.Nodup → j ∈ ks → sumOf (fun k => if j = k then n else 0) ks = n
  | k :: t, nd, m => by
    have nd := List.nodup_cons.mp nd
    show (if j = k then n else 0) + sumOf _ t = n
    by_cases e : j = k
    · rw [if_pos e, sumOf_zero fun i mi => if_neg fun z => nd.1 (by rw [← e, z]; exact mi), Int.add_zero]
    · rw [if_neg e, sumOf_one nd.2 ((List.mem_cons.mp m).resolve_left e), Int.zero_add]
/-- what is dropped adds nothing -/
theorem sumOf_filter {κ : Type} {f : κ → Int} {p : κ → Bool} : ∀ {ks : List κ}, (∀ k ∈ ks, p k = false → f k = 0) → sumOf f (ks.filter p) = sumOf f ks
  | [], _ => rfl
  | k :: t, h => by
    have ih := sumOf_filter (f := f) (p := p) (ks := t) fun j m => h j (List.mem_cons_of_mem _ m)
    rw [List.filter_cons]
    cases c : p k with
    | true =>
      rw [if_pos rfl]
      show f k + sumOf f (t.filter p) = f k + sumOf f t
      rw [ih]
    | false =>
      rw [if_neg (by simp)]
      show sumOf f (t.filter p) = f k + sumOf f t
      rw [ih, h k List.mem_cons_self c, Int.zero_add]
section
variable {α κ μ : Type} [DecidableEq κ] [DecidableEq μ] {key : α → κ} {am : α → Int}
/-- rows told apart by a finer key add up to the same by a coarser one -/
theorem tot_fine {c : κ → μ} {m : μ} {ks : List κ} (nd : ks.Nodup) : ∀ {rs : List α}, (∀ r ∈ rs, key r ∈ ks) → sumOf (fun k => if c k = m then tot key am k rs else 0) ks = tot (fun r => c (key r)) am m rs
  | [], _ => sumOf_zero fun k _ => by simp only [tot, ite_self]
  | r :: t, h => by
    have ih := tot_fine (c := c) (m := m) nd (rs := t) fun q mq => h q (List.mem_cons_of_mem _ mq)
    show _ = (if c (key r) = m then am r else 0) + tot _ am m t
    rw [← ih]
    have e : sumOf (fun k => if key r = k then (if c (key r) = m then am r else 0) else 0) ks = if c (key r) = m then am r else 0 := sumOf_one nd (h r List.mem_cons_self)
    rw [← e, ← sumOf_add]
    refine sumOf_congr fun k _ => ?_
    show (if c k = m then (if key r = k then am r else 0) + tot key am k t else 0) = _
    by_cases z : key r = k
    · subst z
      by_cases y : c (key r) = m
      · simp [y]
      · simp [y]
    · simp [z]
theorem tot_keys {f : κ → Int} {c : κ → μ} {m : μ} : ∀ {ks : List κ}, tot c f m ks = sumOf (fun k => if c k = m then f k else 0) ks
  | [] => rfl
  | k :: t => by
    show _ + tot c f m t = _ + sumOf _ t
    rw [tot_keys]
end
end Sr

set_option Elab.async false
set_option linter.all false
set_option maxRecDepth 100000
set_option maxHeartbeats 4000000
namespace K28
open PySem PySem.Spec PyProof.Rows L2 Sr
/-! ### what balances -/
def totR (t : Str) (rs : List Rw) : Int := tot (fun r : Rw => r.1.2) (·.2) t rs
theorem tot_map {α β κ : Type} [DecidableEq κ] {key : β → κ} {am : β → Int} {g : α → β} {k : κ} : ∀ {l : List α}, tot key am k (l.map g) = tot (fun a => key (g a)) (fun a => am (g a)) k l
  | [] => rfl
  | a :: t => by
    show _ + tot key am k (t.map g) = _ + tot _ _ k t
    rw [tot_map]
theorem tot_inj {α κ μ : Type} [DecidableEq κ] [DecidableEq μ] {key : α → κ} {am : α → Int} {h : κ → μ} (inj : ∀ a b, h a = h b → a = b) {k : κ} : ∀ {l : List α}, tot (fun a => h (key a)) am (h k) l = tot key am k l
  | [] => rfl
  | a :: t => by
    show (if h (key a) = h k then am a else 0) + tot _ am (h k) t = (if key a = k then am a else 0) + tot key am k t
    rw [tot_inj inj]
    by_cases e : key a = k
    · rw [if_pos e, if_pos (congrArg h e)]
    · rw [if_neg e, if_neg fun z => e (inj _ _ z)]
theorem amt_tot (rs : List Rw) (p : Str × Str) : amt (sumT rs) p = tot (fun r : Rw => r.1) (·.2) p rs := by
  unfold amt sumT
  rw [sums_tot]
  exact tot_inj (h := pk) fun _ _ => pk_inj
theorem rows_told (kvs : List (List Key × V)) : rowsOf (.tup (toldOf kvs)) = (kept kvs).map fun p => (p, amt kvs p) := by
  show (toldOf kvs).map rowOf = _
  unfold toldOf
  rw [List.map_map]
  rfl
theorem told_tot {rs : List Rw} (I : Ints isPk (sumT rs)) (t : Str) : totR t (rowsOf (.tup (toldOf (sumT rs)))) = totR t rs := by
  unfold totR
  rw [rows_told, tot_map, tot_keys]
  have perm := pSort_perm (keysOf (sumT rs))
  unfold kept
  rw [sumOf_filter fun p _ c => by
    have z : amt (sumT rs) p = 0 := by simpa using c
    rw [z, ite_self]]
  have nd : (pSort (keysOf (sumT rs))).Nodup := perm.nodup_iff.mpr (keysOf_nodup I)
  have all : ∀ r ∈ rs, r.1 ∈ pSort (keysOf (sumT rs)) := fun r m => by
    refine perm.mem_iff.mpr ?_
    have h : pk r.1 ∈ (sumT rs).map (·.1) := sums_has.mpr ⟨r, m, rfl⟩
    rw [keysOf_eq I] at h
    obtain ⟨p, mp, e⟩ := List.mem_map.mp h
    rw [← pk_inj e]
    exact mp
  have h := tot_fine (key := fun r : Rw => r.1) (am := (·.2)) (c := fun p : Str × Str => p.2) (m := t) nd all
  rw [← h]
  exact sumOf_congr fun p _ => by rw [amt_tot]
theorem bal_iff {rs : List Rw} : bal (sumS rs) = true ↔ ∀ t, totR t rs = 0 := by
  have I := sumS_ints rs
  have val : ∀ t : Str, intOf (valV (sumS rs) (Sum.inr t)) = totR t rs := fun t => by
    unfold sumS totR
    rw [sums_tot]
    exact tot_inj (h := (Sum.inr : Str → Key)) fun _ _ e => by injection e
  unfold bal
  rw [List.all_map, List.all_eq_true]
  constructor
  · intro h t
    rw [← val]
    cases e : valV (sumS rs) (Sum.inr t) with
    | none => rfl
    | some v =>
      have h2 := h _ (val_mem e)
      have h2 : decide (v = V.int 0) = true := h2
      rw [of_decide_eq_true h2]
      rfl
  · intro h e m
    obtain ⟨⟨t, et⟩, n, en⟩ := I.ent e m
    have hv := val_of I.nd m
    have h0 := h t
    rw [← val, ← et, hv, en] at h0
    have h0 : n = 0 := h0
    show decide (e.2 = V.int 0) = true
    rw [en, h0]
    rfl
theorem val_totR (rs : List Rw) (t : Str) : intOf (valV (sumS rs) (Sum.inr t)) = totR t rs := by
  unfold sumS totR
  rw [sums_tot]
  exact tot_inj (h := (Sum.inr : Str → Key)) fun _ _ e => by injection e
theorem tot_congr {α κ : Type} [DecidableEq κ] {key : α → κ} {f g : α → Int} {k : κ} : ∀ {l : List α}, (∀ a ∈ l, f a = g a) → tot key f k l = tot key g k l
  | [], _ => rfl
  | a :: t, h => by
    show (if key a = k then f a else 0) + tot key f k t = (if key a = k then g a else 0) + tot key g k t
    rw [h a List.mem_cons_self, tot_congr fun b m => h b (List.mem_cons_of_mem _ m)]
theorem bal_ext (rs : List Rw) (t : Str) : totR t (rs ++ extR (sumS rs)) = 0 := by
  have I := sumS_ints rs
  have ent : ∀ e ∈ sumS rs, ∃ u, e.1 = Sum.inr u ∧ intOf (some e.2) = totR u rs := fun e m => by
    obtain ⟨⟨u, eu⟩, n, en⟩ := I.ent e m
    have hv := val_of I.nd m
    rw [eu] at hv
    exact ⟨u, eu, by rw [← val_totR, hv]⟩
  have h1 : totR t (extR (sumS rs)) = tot (fun k : Str => k) (fun k => 0 - totR k rs) t ((sumS rs).map fun e => strOfK e.1) := by
    unfold totR extR
    rw [tot_map, tot_map]
    refine tot_congr fun e m => ?_
    obtain ⟨u, eu, hu⟩ := ent e m
    show 0 - intOf (some e.2) = 0 - totR (strOfK e.1) rs
    rw [hu, eu]
    rfl
  have nd : ((sumS rs).map fun e => strOfK e.1).Nodup := by
    have h := List.pairwise_map.mp I.nd
    refine List.pairwise_map.mpr (List.Pairwise.imp_of_mem (fun {a b} ma mb ne z => ne ?_) h)
    obtain ⟨u, eu, _⟩ := ent a ma
    obtain ⟨w, ew, _⟩ := ent b mb
    rw [eu, ew] at z ⊢
    exact congrArg Sum.inr z
  have h2 : tot (fun k : Str => k) (fun k => 0 - totR k rs) t ((sumS rs).map fun e => strOfK e.1) = 0 - totR t rs := by
    rw [tot_keys]
    have e : sumOf (fun k => if k = t then 0 - totR k rs else 0) ((sumS rs).map fun e => strOfK e.1) = sumOf (fun k => if t = k then 0 - totR t rs else 0) ((sumS rs).map fun e => strOfK e.1) := sumOf_congr fun k _ => by
      by_cases z : k = t
      · rw [z]
      · rw [if_neg z, if_neg fun y => z y.symm]
    rw [e]
    by_cases m : t ∈ (sumS rs).map fun e => strOfK e.1
    · exact sumOf_one nd m
    · rw [sumOf_zero (f := fun k => if t = k then 0 - totR t rs else 0) fun k mk => if_neg fun (z : t = k) => m (by rw [z]; exact mk)]
      have z : totR t rs = 0 := by
        rw [← val_totR]
        cases hv : valV (sumS rs) (Sum.inr t) with
        | none => rfl
        | some v => exact absurd (List.mem_map.mpr ⟨_, val_mem hv, rfl⟩) m
      rw [z]
      rfl
  show tot _ _ t (rs ++ _) = 0
  rw [tot_app]
  show totR t rs + totR t (extR (sumS rs)) = 0
  rw [h1, h2]
  omega
/-! ### told twice is told once -/
theorem pSort_sorted (l : List (Str × Str)) : (pSort l).Pairwise (fun a b => PySem.W.dataLe false encP a b = true) :=
  PySem.W.sort_pairwise (PySem.W.sortLe_total _ false _) l
theorem pSort_kept (kvs : List (List Key × V)) : pSort (kept kvs) = kept kvs := by
  unfold kept
  exact List.mergeSort_of_pairwise (List.Pairwise.filter _ (pSort_sorted _))
theorem fold_keys {α κ : Type} [DecidableEq κ] {key : α → κ} {am : α → Int} : ∀ (rs : List α) (kvs : List (κ × V)), (kvs.map (·.1) ++ rs.map key).Nodup → (rs.foldl (fun kvs r => bump kvs (key r) (am r)) kvs).map (·.1) = kvs.map (·.1) ++ rs.map key
  | [], kvs, _ => (List.append_nil _).symm
  | r :: t, kvs, nd => by
    have no : valV kvs (key r) = none := by
      refine Option.eq_none_iff_forall_ne_some.mpr fun v hv => ?_
      exact (List.nodup_append.mp nd).2.2 _ (List.mem_map.mpr ⟨_, val_mem hv, rfl⟩) _ (by rw [List.map_cons]; exact List.mem_cons_self) rfl
    have eb : (bump kvs (key r) (am r)).map (·.1) = kvs.map (·.1) ++ [key r] := by
      unfold Sr.bump
      rw [L2.putK_new _ no, List.map_append]
      rfl
    show (t.foldl _ (bump kvs (key r) (am r))).map (·.1) = _
    rw [fold_keys t _ (by rw [eb, List.append_assoc]; exact nd), eb, List.append_assoc]
    rfl
theorem told_keys {rs : List Rw} (I : Ints isPk (sumT rs)) : keysOf (sumT (rowsOf (.tup (toldOf (sumT rs))))) = kept (sumT rs) := by
  have nd := kept_nodup I
  have h : (sumT (rowsOf (.tup (toldOf (sumT rs))))).map (·.1) = (kept (sumT rs)).map pk := by
    rw [rows_told]
    unfold sumT sums
    rw [fold_keys]
    · rw [List.map_map]
      rfl
    · show (List.map _ (List.map _ _)).Nodup
      rw [List.map_map]
      exact List.pairwise_map.mpr (List.Pairwise.imp (fun {a b} ne e => ne (pk_inj e)) nd)
  have e0 : keysOf (sumT (rowsOf (.tup (toldOf (sumT rs))))) = ((sumT (rowsOf (.tup (toldOf (sumT rs))))).map (·.1)).map unpk := by unfold keysOf; rw [List.map_map]; rfl
  rw [e0, h, List.map_map]
  exact (List.map_congr_left fun p _ => unpk_pk p).trans (List.map_id _)
theorem told_amt {rs : List Rw} (I : Ints isPk (sumT rs)) : ∀ p ∈ kept (sumT rs), amt (sumT (rowsOf (.tup (toldOf (sumT rs))))) p = amt (sumT rs) p := fun p m => by
  rw [amt_tot, rows_told, tot_map, tot_keys]
  have e : sumOf (fun k => if k = p then amt (sumT rs) k else 0) (kept (sumT rs)) = sumOf (fun k => if p = k then amt (sumT rs) p else 0) (kept (sumT rs)) := sumOf_congr fun k _ => by
    by_cases z : k = p
    · rw [z]
    · rw [if_neg z, if_neg fun y => z y.symm]
  rw [e]
  exact sumOf_one (kept_nodup I) m
theorem told_kept {rs : List Rw} (I : Ints isPk (sumT rs)) : kept (sumT (rowsOf (.tup (toldOf (sumT rs))))) = kept (sumT rs) := by
  have e1 : kept (sumT (rowsOf (.tup (toldOf (sumT rs))))) = (pSort (keysOf (sumT (rowsOf (.tup (toldOf (sumT rs))))))).filter fun p => decide (amt (sumT (rowsOf (.tup (toldOf (sumT rs))))) p ≠ 0) := rfl
  rw [e1, told_keys I, pSort_kept]
  refine List.filter_eq_self.mpr fun p m => ?_
  rw [told_amt I p m]
  exact (List.mem_filter.mp m).2
theorem told_twice {rs : List Rw} (I : Ints isPk (sumT rs)) : toldOf (sumT (rowsOf (.tup (toldOf (sumT rs))))) = toldOf (sumT rs) := by
  have e2 : toldOf (sumT (rowsOf (.tup (toldOf (sumT rs))))) = (kept (sumT (rowsOf (.tup (toldOf (sumT rs)))))).map fun p => rowTd p (amt (sumT (rowsOf (.tup (toldOf (sumT rs))))) p) := rfl
  rw [e2, told_kept I]
  exact List.map_congr_left fun p m => by rw [told_amt I p m]
theorem tk_told {rs : List Rw} (I : Ints isPk (sumT rs)) : tk (sumT (rowsOf (.tup (toldOf (sumT rs))))) = tk (sumT rs) := by
  have e2 : tk (sumT (rowsOf (.tup (toldOf (sumT rs))))) = (kept (sumT (rowsOf (.tup (toldOf (sumT rs)))))).map fun p => (pk p, V.int (amt (sumT (rowsOf (.tup (toldOf (sumT rs))))) p)) := rfl
  rw [e2, told_kept I]
  exact List.map_congr_left fun p m => by rw [told_amt I p m]
end K28

set_option Elab.async false
set_option linter.all false
set_option maxRecDepth 100000
set_option maxHeartbeats 4000000
namespace K28
open PySem PySem.Spec PyProof.Rows L2 Sr LamX
def mkClose (w v : Int) : Dt := .tup [.str "close", .int w, .int v]
def mkEntry (w v : Int) (l : List Dt) : Dt := .tup [.str "entry", .int w, .int v, .tup l]
/-- drawn deeds, the last known time and the last closed one -/
inductive GoodDs : List Dt → Int → Int → Prop
  | nil : GoodDs [] 0 (-1)
  | close {ds : List Dt} {w c w' v : Int} : GoodDs ds w c → w ≤ w' → w' ≤ w + 2 → c < v → v ≤ c + 3 → GoodDs (ds ++ [mkClose w' v]) w' v
  | entry {ds : List Dt} {w c w' v : Int} {rs : List Rw} : GoodDs ds w c → w ≤ w' → w' ≤ w + 2 → 0 ≤ v → v ≤ 8 → (∀ r ∈ rs, good r) → (∀ t, totR t rs = 0) → rs.length ≤ 6 → GoodDs (ds ++ [mkEntry w' v (toldOf (sumT rs))]) w' c
def spDs : Sp := fun vs H Q _ => ∃ (a : Addr) (m : Nat), vs = [.ref a, .int (m : Nat)] ∧ m ≤ 20 ∧ DrawsAt H a ∧ ∀ (l : Addr) (H' : Hp) (ds : List Dt) (w c : Int), DrawsAt H' a → Same (rm H a) (rm H' a) → Is (rm H' a) (.ref l) (.lst ds) → ds.length ≤ m → GoodDs ds w c → Q (.ref l) H'
/-- the draws at a, one's own list at f, M ahead of both -/
structure Dw (M H : Hp) (a f : Addr) (xs : List V) (ds : List Dt) : Prop where
  d : DrawsAt H a
  s : Same M (off [a, f] H)
  hf : H f = some (.lst xs)
  fa : f ≠ a
  mf : M f = none
  ia : IsA (off [a, f] H) xs ds
theorem Dw.of {M H H' : Hp} {a f : Addr} {xs : List V} {ds : List Dt} (W : Dw M H a f xs ds) (d : DrawsAt H' a) (s : Same (rm H a) (rm H' a)) : Dw M H' a f xs ds := by
  have at_ : ∀ {c : Addr} {o : HO}, c ≠ a → H c = some o → H' c = some o := fun {c o} n e => by
    have h := s c o (by rw [rm_ne n]; exact e)
    rw [rm_ne n] at h
    exact h
  have so : Same (off [a, f] H) (off [a, f] H') := fun c o e => by
    have n : c ∉ [a, f] := fun m => by rw [off_in m] at e; cases e
    rw [off_out n] at e ⊢
    exact at_ (fun z => n (by rw [z]; simp)) e
  exact ⟨d, W.s.trans so, at_ W.fa W.hf, W.fa, W.mf, W.ia.mono so⟩
theorem Dw.draw {M H : Hp} {a f : Addr} {xs : List V} {ds : List Dt} (W : Dw M H a f xs ds) {o : HO} (ho : DrawsO o) : Dw M (upd H a o) a f xs ds :=
  W.of ⟨o, upd_same, ho⟩ (by rw [rm_upd]; exact Same.refl _)
theorem Dw.up {M H H' : Hp} {a f : Addr} {xs : List V} {ds : List Dt} (W : Dw M H a f xs ds) (s : Same H H') : Dw M H' a f xs ds := W.of (W.d.up s) (Same.rm s)
theorem Dw.app {M H : Hp} {a f : Addr} {xs : List V} {ds : List Dt} (W : Dw M H a f xs ds) {y : V} {d : Dt} (h : Is (off [a, f] H) y d) : Dw M (upd H f (.lst (xs ++ [y]))) a f (xs ++ [y]) (ds ++ [d]) := by
  have e : off [a, f] (upd H f (.lst (xs ++ [y]))) = off [a, f] H := off_set (by simp)
  obtain ⟨o, ho, hh⟩ := W.d
  exact ⟨⟨o, (upd_ne W.fa.symm).trans ho, hh⟩, e ▸ W.s, upd_same, W.fa, W.mf, e ▸ W.ia.app (.cons h .nil)⟩
theorem Dw.new {M H : Hp} {a f p : Addr} {xs : List V} {ds : List Dt} (W : Dw M H a f xs ds) (h : H p = none) : p ∉ [a, f] := fun m => by
  simp only [List.mem_cons, List.not_mem_nil, or_false] at m
  rcases m with rfl | rfl
  · exact W.d.some h
  · rw [W.hf] at h; cases h
theorem Dw.lay {M H : Hp} {a f p : Addr} {xs vs : List V} {ds l : List Dt} (W : Dw M H a f xs ds) (h : H p = none) (i : IsA (off [a, f] H) vs l) (z : vs.length ≤ 60) : Is (off [a, f] (upd H p (.tup vs))) (.ref p) (.tup l) :=
  .tup ((off_out (W.new h)).trans upd_same) (i.mono (Same.off (Same.up h))) z
/-- what tuples stand, stand beside the draws and the list -/
theorem Dw.tup {M H : Hp} {a f : Addr} {xs : List V} {ds : List Dt} (W : Dw M H a f xs ds) (c : Addr) (vs : List V) (e : H c = some (.tup vs)) : off [a, f] H c = some (.tup vs) := by
  refine (off_out fun m => ?_).trans e
  simp only [List.mem_cons, List.not_mem_nil, or_false] at m
  rcases m with rfl | rfl
  · obtain ⟨o, ho, hh⟩ := W.d
    rw [ho] at e
    cases e
    obtain ⟨_, _, _, z⟩ := hh
    cases z
  · rw [W.hf] at e; cases e
section
variable {P : Program} {w : World} {K : PySem.W.Frag} {mg : Str → Option Value} {base : Heap}
abbrev s__law_some_deeds : Stmt := top 44
theorem sc__law_some_deeds : FnScope ["draws", "many", "k", "found", "known", "closed", "rows"] ["draws", "many"] (defScope s__law_some_deeds) := ⟨rfl, rfl, rfl, by decide +kernel, rfl, by decide +kernel, by decide +kernel⟩
theorem c__law_some_deeds (T : Txt K mg) (D : Dfn K mg "_law_some_deeds" s__law_some_deeds) (C_law_draw : Cal P w K mg base 1 "_law_draw" ["draws", "many"] spDraw) (C_law_some_rows : Cal P w K mg base 3 "_law_some_rows" ["draws", "many"] spSome)
    (C_law_balanced : Cal P w K mg base 1 "_law_balanced" ["rows"] spBald) (C_law_told : Cal P w K mg base 2 "_law_told" ["rows"] spLTold) :
    Cal P w K mg base 4 "_law_some_deeds" ["draws", "many"] spDs := by
  refine D.cal sc__law_some_deeds (fun _ _ _ _ _ _ us hl => match us, hl with | [_, _], _ => rfl) (fun vs H Q E h => ?_) fun cdv A outer s H vs Q E hr h => ?_
  · obtain ⟨a, m, rfl, _⟩ := h
    rfl
  obtain ⟨a, many, rfl, hmany, hd, q⟩ := h
  refine ⟨_, (pss_cons (ps_par3 (i := 3) (j := 4) (l := 5) (by rfl) sc__law_some_deeds.nd rfl rfl rfl (by decide) (by decide) (by decide) rfl rfl rfl (pa_cons (pe_lst pa_nil) (pa_cons pe_int (pa_cons (pe_un un_neg pe_int) pa_nil))) (by rfl))
      (pss_cons (ps_for PassesOwn.never rfl (pi_range1 (by rfl) T.range (pa_cons (pe_cal C_law_draw hr (by first | decide | omega) (by rfl) (pa_cons (pv 0) (pa_cons (pe_op op_add (pv 1) pe_int) pa_nil))) pa_nil)) (pg_name (i := 2) sc__law_some_deeds.nd rfl (by first | exact Or.inl rfl | exact Or.inr rfl))
      (pss_cons (ps_set (i := 4) sc__law_some_deeds.nd rfl (by first | exact Or.inl rfl | exact Or.inr rfl) (pe_op op_add (pv 4) (pe_cal C_law_draw hr (by first | decide | omega) (by rfl) (pa_cons (pv 0) (pa_cons pe_int pa_nil)))))
      (pss_one (ps_if (pt_cmpR op_eq (pe_cal C_law_draw hr (by first | decide | omega) (by rfl) (pa_cons (pv 0) (pa_cons pe_int pa_nil))) pe_int (nomark _)) (pss_cons (ps_set (i := 5) sc__law_some_deeds.nd rfl (by first | exact Or.inl rfl | exact Or.inr rfl) (pe_op op_add (pe_op op_add (pv 5) pe_int) (pe_cal C_law_draw hr (by first | decide | omega) (by rfl) (pa_cons (pv 0) (pa_cons pe_int pa_nil)))))
      (pss_one (ps_expr (pe_bm PySem.F.plainAttrs_list PySem.F.slot_list_append PySem.F.type_list_append mt_append (pv 3) (pa_cons (pe_tup (pa_cons pe_str (pa_cons (pv 4) (pa_cons (pv 5) pa_nil)))) pa_nil))))) (pss_cons (ps_set (i := 6) sc__law_some_deeds.nd rfl (by first | exact Or.inl rfl | exact Or.inr rfl) (pe_cal C_law_told hr (by first | decide | omega) (by rfl) (pa_cons (pe_cal C_law_balanced hr (by first | decide | omega) (by rfl) (pa_cons (pe_cal C_law_some_rows hr (by first | decide | omega) (by rfl) (pa_cons (pv 0) (pa_cons pe_int pa_nil))) pa_nil)) pa_nil)))
      (pss_one (ps_expr (pe_bm PySem.F.plainAttrs_list PySem.F.slot_list_append PySem.F.type_list_append mt_append (pv 3) (pa_cons (pe_tup (pa_cons pe_str (pa_cons (pv 4) (pa_cons (pe_cal C_law_draw hr (by first | decide | omega) (by rfl) (pa_cons (pv 0) (pa_cons pe_int pa_nil))) (pa_cons (pe_callTy (T := "tuple") call_tuple_of (by rfl) T.tuple (by decide +kernel) (pa_cons (pv 6) pa_nil)) pa_nil))))) pa_nil)))))))))
      (pss_one (ps_ret (pv 3))))), ?_⟩
  refine ⟨lineN, fun f hf => ⟨1, rfl, _, _, _, rfl, ?_⟩⟩
  have nfa : f ≠ a := fun z => hd.some (by rw [← z]; exact hf)
  have W0 : Dw (rm H a) (upd H f (.lst [])) a f [] [] := by
    refine ⟨hd.up (Same.up hf), ?_, upd_same, nfa, rm_free hf, .nil⟩
    rw [off_set (by simp)]
    intro c o e
    have n1 : c ≠ a := fun z => by rw [z, rm_at] at e; cases e
    have n2 : c ≠ f := fun z => by rw [z, rm_free hf] at e; cases e
    rw [rm_ne n1] at e
    rw [off_out (by simp [n1, n2])]
    exact e
  refine ⟨_, rfl, _, rfl, _, _, rfl, rfl, a, _, rfl, W0.d, by omega, by omega, fun r o r0 r1 ho => ⟨_, rfl, by omega, by omega, ?_⟩⟩
  refine for_range (fun i σ H' => ∃ k w c u xs ds, σ = [some (.ref a), some (.int (many : Nat)), k, some (.ref f), some (.int w), some (.int c), u] ∧ Dw (rm H a) H' a f xs ds ∧ ds.length = i ∧ GoodDs ds w c) ⟨_, 0, -1, _, [], [], rfl, W0.draw ho, rfl, .nil⟩ ?_ ?_
  · rintro i σ H1 hi ⟨k, w, c, u, xs, ds, rfl, W, dl, G⟩
    have xl : xs.length ≤ 60 := by
      have := W.ia.len
      omega
    refine ⟨_, rfl, _, rfl, a, _, rfl, W.d, by decide, by decide, fun r1 o1 p1 b1 h1 => ⟨_, _, rfl, rfl, ?_⟩⟩
    have W1 := W.draw h1
    refine ⟨_, rfl, a, _, rfl, W1.d, by decide, by decide, fun r2 o2 p2 b2 h2 => ⟨rfl, _, rfl, ?_⟩⟩
    have W2 := W1.draw h2
    by_cases c2 : r2 = 0
    · rw [show decide (V.int r2 = V.int 0) = true by rw [c2]; rfl]
      refine iteT ⟨_, rfl, _, _, rfl, rfl, _, rfl, a, _, rfl, W2.d, by decide, by decide, fun r3 o3 p3 b3 h3 => ⟨_, _, rfl, rfl, ?_⟩⟩
      have W3 := W2.draw h3
      refine ⟨_, rfl, .inl ⟨rfl, _, SqL.of W3.hf⟩, _, rfl, _, rfl, three_line, fun t ht => ⟨f, xs, _, rfl, rfl, Same.up ht _ _ W3.hf, sz (m := 60) xl, _, w + r1, c + 1 + r3, _, xs ++ [.ref t], ds ++ [mkClose (w + r1) (c + 1 + r3)], rfl, ?_, ?_, G.close (by omega) (by omega) (by omega) (by omega)⟩⟩
      · exact (W3.up (Same.up ht)).app (W3.lay ht (.cons (.str "close" (by decide)) (.cons (.int _) (.cons (.int _) .nil))) (show (3 : Nat) ≤ 60 by decide))
      · rw [List.length_append, dl]
        rfl
    · rw [show decide (V.int r2 = V.int 0) = false from decide_eq_false (by intro z; injection z with z; exact c2 z)]
      refine iteF ⟨_, rfl, a, 3, rfl, by decide, W2.d, fun l3 H3 rs d3 s3 i3 l8 g => ⟨_, rs, rfl, i3.mono rm_same, g, (by omega), fun H4 p4 s4 hp4 i4 g4 l16 => ⟨_, _, _, rfl, i4, rfl, fun H5 p5 s5 hp5 i5 => ?_⟩⟩⟩
      have W5 := ((W2.of d3 s3).up s4).up s5
      have W4 := (W2.of d3 s3).up s4
      cases i5 with
      | lst hl5 ia5 zl5 =>
      rename_i xs5
      have n5 : p5 ≠ a := fun z => W4.d.some (by rw [← z]; exact hp5)
      refine ⟨_, rfl, .inl ⟨rfl, _, SqL.of W5.hf⟩, _, rfl, _, rfl, a, _, rfl, W5.d, by decide, by decide, fun r6 o6 p6 b6 h6 => ⟨_, rfl, p5, _, rfl, .inl ⟨SqL.of ((upd_ne n5).trans hl5), fun t ht => ⟨lineN (n := 4), fun t2 ht2 => ?_⟩⟩⟩⟩
      have W6 := W5.draw h6
      have eo : off [a, f] (upd H5 a o6) = off [a, f] H5 := off_set (by simp)
      have it := W6.lay ht (eo ▸ rows_keep W5.tup ia5) zl5
      have W7 := W6.up (Same.up (o := .tup xs5) ht)
      refine ⟨f, xs, _, rfl, rfl, Same.up ht2 _ _ W7.hf, sz (m := 60) xl, _, w + r1, c, _, xs ++ [.ref t2], ds ++ [mkEntry (w + r1) r6 (toldOf (sumT (rs ++ extR (sumS rs))))], rfl, ?_, ?_, G.entry (by omega) (by omega) p6 (by omega) g4 (bal_ext rs) (by omega)⟩
      · exact (W7.up (Same.up ht2)).app (W7.lay ht2 (.cons (.str "entry" (by decide)) (.cons (.int _) (.cons (.int _) (.cons it .nil)))) (show (4 : Nat) ≤ 60 by decide))
      · rw [List.length_append, dl]
        rfl
  · rintro σ H1 ⟨k, w, c, u, xs, ds, rfl, W, dl, G⟩
    have xl : xs.length ≤ 60 := by
      have := W.ia.len
      omega
    refine ⟨_, rfl, q f H1 ds w c W.d ?_ (.lst (by rw [rm_ne nfa]; exact W.hf) (W.ia.mono ?_) xl) (by omega) G⟩
    · intro b o e
      have n1 : b ≠ a := fun z => by rw [z, rm_at] at e; cases e
      rw [rm_ne n1]
      exact off_le _ _ (W.s _ _ e)
    · intro b o e
      have n1 : b ∉ [a, f] := fun m => by rw [off_in m] at e; cases e
      rw [off_out n1] at e
      rw [rm_ne (fun z => n1 (by rw [z]; simp))]
      exact e
end
end K28

set_option Elab.async false
set_option linter.all false
set_option maxRecDepth 100000
set_option maxHeartbeats 4000000
namespace K28
open PySem PySem.Spec PyProof.Rows L2 Sr
theorem isS_eq (s t : Str) : isS s (.str t) = decide (V.str t = V.str s) := rfl
theorem is_close : isS "close" (.str "close") = true := by rw [isS_eq]; exact decide_eq_true rfl
theorem is_entry : isS "entry" (.str "entry") = true := by rw [isS_eq]; exact decide_eq_true rfl
theorem not_close : isS "close" (.str "entry") = false := by
  rw [isS_eq]
  exact decide_eq_false (by intro z; injection z with z; exact absurd z (by decide))
theorem time_ok {n : Int} (h : 0 ≤ n) (h2 : n ≤ 1000000) : timeOk (.int n) = true := by
  show (decide (0 ≤ n) && decide (n ≤ 1000000)) = true
  rw [decide_eq_true h, decide_eq_true h2]
  rfl
theorem good_ints {rs : List Rw} (g : ∀ r ∈ rs, good r) : Ints isPk (sumT rs) := sumT_ints fun r m => good_small (g r m)
theorem good_told {rs : List Rw} (g : ∀ r ∈ rs, good r) : rowsOk (.tup (toldOf (sumT rs))) = true := by
  show (toldOf (sumT rs)).all rowOk = true
  refine List.all_eq_true.mpr fun x m => ?_
  obtain ⟨p, mp, rfl⟩ := List.mem_map.mp m
  obtain ⟨r, mr, rfl⟩ := kept_from mp
  have gr := g r mr
  show (accOk (.str r.1.1) && (nameOk (.str r.1.2) && isInteger (.int _))) = true
  rw [(accs_ok _ gr.1).2, (thgs_ok _ gr.2).2]
  rfl
theorem good_bal {rs : List Rw} (g : ∀ r ∈ rs, good r) (b : ∀ t, totR t rs = 0) : bal (sumS (rowsOf (.tup (toldOf (sumT rs))))) = true :=
  bal_iff.mpr fun t => (told_tot (good_ints g) t).trans (b t)
theorem close_ok {w v : Int} (w0 : 0 ≤ w) (w1 : w ≤ 1000000) (v0 : 0 ≤ v) (v1 : v ≤ 1000000) : deedOk (mkClose w v) = true := by
  show (timeOk (.int w) && (timeOk (.int v) && (if isS "close" (.str "close") = true then List.isEmpty [] else _))) = true
  rw [time_ok w0 w1, time_ok v0 v1, is_close]
  rfl
theorem entry_ok {w v : Int} {l : List Dt} (w0 : 0 ≤ w) (w1 : w ≤ 1000000) (v0 : 0 ≤ v) (v1 : v ≤ 1000000) (ro : rowsOk (.tup l) = true) (rb : bal (sumS (rowsOf (.tup l))) = true) : deedOk (mkEntry w v l) = true := by
  show (timeOk (.int w) && (timeOk (.int v) && (if isS "close" (.str "entry") = true then _ else isS "entry" (.str "entry") && (rowsOk (.tup l) && bal (sumS (rowsOf (.tup l))))))) = true
  rw [time_ok w0 w1, time_ok v0 v1, not_close, is_entry, ro, rb]
  rfl
theorem close_clo {w v c : Int} : clo (mkClose w v) c = v := by
  show (if isS "close" (.str "close") = true then v else c) = v
  rw [is_close, if_pos rfl]
theorem entry_clo {w v c : Int} {l : List Dt} : clo (mkEntry w v l) c = c := by
  show (if isS "close" (.str "entry") = true then v else c) = c
  rw [not_close, if_neg (by simp)]
theorem close_told {w v : Int} : told1 (mkClose w v) = mkClose w v := by
  show (if isS "close" (.str "close") = true then _ else _) = _
  rw [is_close, if_pos rfl]
  rfl
theorem entry_told {w v : Int} {rs : List Rw} (I : Ints isPk (sumT rs)) : told1 (mkEntry w v (toldOf (sumT rs))) = mkEntry w v (toldOf (sumT rs)) := by
  show (if isS "close" (.str "entry") = true then _ else Dt.tup [.str "entry", .int w, .int v, .tup (toldOf (sumT (rowsOf (.tup (toldOf (sumT rs))))))]) = _
  rw [not_close, if_neg (by simp), told_twice I]
  rfl
theorem close_bad {w v w0 c : Int} (o : deedOk (mkClose w v) = true) (h1 : w0 ≤ w) (h2 : c < v) : deedBad (mkClose w v) w0 c = false := by
  show (!deedOk (mkClose w v) || (decide (w < w0) || (isS "close" (.str "close") && decide (v ≤ c)))) = false
  rw [o, is_close, decide_eq_false (by omega), decide_eq_false (by omega)]
  rfl
theorem entry_bad {w v w0 c : Int} {l : List Dt} (o : deedOk (mkEntry w v l) = true) (h1 : w0 ≤ w) : deedBad (mkEntry w v l) w0 c = false := by
  show (!deedOk (mkEntry w v l) || (decide (w < w0) || (isS "close" (.str "entry") && decide (v ≤ c)))) = false
  rw [o, not_close, decide_eq_false (by omega)]
  rfl
theorem GoodDs.bound {ds : List Dt} {w c : Int} (G : GoodDs ds w c) : 0 ≤ w ∧ w ≤ 2 * (ds.length : Nat) ∧ -1 ≤ c ∧ c ≤ 3 * (ds.length : Nat) := by
  induction G with
  | nil => exact ⟨by decide, by decide, by decide, by decide⟩
  | close _ _ _ _ _ ih => rw [List.length_append]; simp only [List.length_cons, List.length_nil]; omega
  | entry _ _ _ _ _ _ _ _ ih => rw [List.length_append]; simp only [List.length_cons, List.length_nil]; omega
/-- behind drawn deeds one goes on -/
theorem GoodDs.go {ds : List Dt} {w c : Int} (G : GoodDs ds w c) : ds.length ≤ 1000 → ∀ rest, badD (ds ++ rest) 0 (-1) 0 = badD rest w c ds.length := by
  induction G with
  | nil => intro _ rest; rfl
  | @close ds w c w' v G h1 h2 h3 h4 ih =>
    intro hl rest
    rw [List.length_append] at hl ⊢
    simp only [List.length_cons, List.length_nil] at hl ⊢
    have bd := G.bound
    have ok : deedOk (mkClose w' v) = true := close_ok (by omega) (by omega) (by omega) (by omega)
    rw [List.append_assoc, ih (by omega)]
    show (if deedBad (mkClose w' v) w c = true then _ else badD rest w' (clo (mkClose w' v) c) (ds.length + 1)) = _
    rw [close_bad ok h1 h3, close_clo]
    rfl
  | @entry ds w c w' v rs G h1 h2 h3 h4 g b z6 ih =>
    intro hl rest
    rw [List.length_append] at hl ⊢
    simp only [List.length_cons, List.length_nil] at hl ⊢
    have bd := G.bound
    have ok := entry_ok (w := w') (v := v) (by omega) (by omega) (by omega) (by omega) (good_told g) (good_bal g b)
    rw [List.append_assoc, ih (by omega)]
    show (if deedBad (mkEntry w' v _) w c = true then _ else badD rest w' (clo (mkEntry w' v _) c) (ds.length + 1)) = _
    rw [entry_bad ok h1, entry_clo]
    rfl
theorem close_flat {w v : Int} : deedFlat (mkClose w v) := by
  intro l e
  cases e
  exact ⟨fun x h => ⟨_, (Option.some.inj h).symm⟩, fun x h => nomatch h⟩
theorem entry_flat {w v : Int} {l : List Dt} (h : rowsFlat (.tup l)) : deedFlat (mkEntry w v l) := by
  intro l2 e
  cases e
  exact ⟨fun x h => ⟨_, (Option.some.inj h).symm⟩, fun x hx => by cases hx; exact h⟩
theorem GoodDs.all {p : Dt → Prop} (hc : ∀ w v, p (mkClose w v)) (he : ∀ w v rs, (∀ r ∈ rs, good r) → p (mkEntry w v (toldOf (sumT rs)))) {ds : List Dt} {w c : Int} (G : GoodDs ds w c) : ∀ d ∈ ds, p d := by
  induction G with
  | nil => intro d m; cases m
  | close _ _ _ _ _ ih => intro d m; rcases List.mem_append.mp m with m | m; exact ih d m; rw [List.mem_singleton.mp m]; exact hc _ _
  | entry _ _ _ _ _ g _ _ ih => intro d m; rcases List.mem_append.mp m with m | m; exact ih d m; rw [List.mem_singleton.mp m]; exact he _ _ _ g
theorem GoodDs.all6 {p : Dt → Prop} (hc : ∀ w v, p (mkClose w v)) (he : ∀ w v rs, (∀ r ∈ rs, good r) → rs.length ≤ 6 → p (mkEntry w v (toldOf (sumT rs)))) {ds : List Dt} {w c : Int} (G : GoodDs ds w c) : ∀ d ∈ ds, p d := by
  induction G with
  | nil => intro d m; cases m
  | close _ _ _ _ _ ih => intro d m; rcases List.mem_append.mp m with m | m; exact ih d m; rw [List.mem_singleton.mp m]; exact hc _ _
  | entry _ _ _ _ _ g _ z6 ih => intro d m; rcases List.mem_append.mp m with m | m; exact ih d m; rw [List.mem_singleton.mp m]; exact he _ _ _ g z6
theorem GoodDs.flat {ds : List Dt} {w c : Int} (G : GoodDs ds w c) : ∀ d ∈ ds, deedFlat d := G.all (fun _ _ => close_flat) fun _ _ _ _ => entry_flat (told_flat _)
theorem GoodDs.told {ds : List Dt} {w c : Int} (G : GoodDs ds w c) : ds.map told1 = ds :=
  (List.map_congr_left (G.all (fun _ _ => close_told) fun _ _ _ g => entry_told (good_ints g))).trans (List.map_id ds)
end K28

set_option Elab.async false
set_option linter.all false
set_option maxRecDepth 100000
set_option maxHeartbeats 4000000
namespace K28
open PySem PySem.Spec PyProof.Rows L2 Sr
/-! ### the last known and the last closed time of drawn deeds -/
def closes (ds : List Dt) : List Int := (ds.filter (dIs "close")).map (dInt 2)
theorem dIs_close {w v : Int} : dIs "close" (mkClose w v) = true := is_close
theorem dIs_entry {w v : Int} {l : List Dt} : dIs "close" (mkEntry w v l) = false := not_close
theorem closes_app {ds : List Dt} {d : Dt} : closes (ds ++ [d]) = closes ds ++ (if dIs "close" d = true then [dInt 2 d] else []) := by
  unfold closes
  rw [List.filter_append, List.map_append]
  congr 1
  cases c : dIs "close" d with
  | true => simp [List.filter, c]
  | false => simp [List.filter, c]
theorem GoodDs.closed {ds : List Dt} {w c : Int} (G : GoodDs ds w c) : c ∈ -1 :: closes ds ∧ ∀ y ∈ -1 :: closes ds, y ≤ c := by
  induction G with
  | nil => exact ⟨List.mem_cons_self, fun y m => by simp [closes] at m; omega⟩
  | @close ds w c w' v G h1 h2 h3 h4 ih =>
    have e : closes (ds ++ [mkClose w' v]) = closes ds ++ [v] := by
      rw [closes_app, dIs_close, if_pos rfl]
      rfl
    rw [e]
    refine ⟨List.mem_cons_of_mem _ (List.mem_append_right _ List.mem_cons_self), fun y m => ?_⟩
    rw [← List.cons_append] at m
    rcases List.mem_append.mp m with m | m
    · have := ih.2 y m
      omega
    · rw [List.mem_singleton.mp m]
      exact Int.le_refl _
  | @entry ds w c w' v rs G h1 h2 h3 h4 g b z6 ih =>
    have e : closes (ds ++ [mkEntry w' v (toldOf (sumT rs))]) = closes ds := by
      rw [closes_app, dIs_entry, if_neg (by simp), List.append_nil]
    rw [e]
    exact ih
theorem GoodDs.known {ds : List Dt} {w c : Int} (G : GoodDs ds w c) : (ds = [] ∧ w = 0) ∨ ∃ d, ds.getLast? = some d ∧ dInt 1 d = w := by
  cases G with
  | nil => exact .inl ⟨rfl, rfl⟩
  | close => exact .inr ⟨_, List.getLast?_concat, rfl⟩
  | entry => exact .inr ⟨_, List.getLast?_concat, rfl⟩
/-- the deeds that are none behind drawn ones: what makes a deed bad -/
theorem bad_of {d : Dt} {w c : Int} (h : deedOk d = false ∨ dInt 1 d < w ∨ (dIs "close" d = true ∧ dInt 2 d ≤ c)) : deedBad d w c = true := by
  unfold deedBad
  rcases h with h | h | ⟨h1, h2⟩
  · rw [h]; rfl
  · rw [decide_eq_true h, Bool.true_or, Bool.or_true]
  · rw [h1, decide_eq_true h2]
    simp
/-- such a deed is told by its number -/
theorem GoodDs.odd {ds : List Dt} {w c : Int} (G : GoodDs ds w c) (hl : ds.length ≤ 1000) {d : Dt} (h : deedBad d w c = true) (rest : List Dt) : badD (ds ++ d :: rest) 0 (-1) 0 = some ds.length := by
  rw [G.go hl]
  show (if deedBad d w c = true then some ds.length else _) = some ds.length
  rw [if_pos h]
/-! ### drawn deeds may be compared -/
theorem accs_lay : ∀ s ∈ accs, PyData.canLay0 (.str s) = true := by decide +kernel
theorem thgs_lay : ∀ s ∈ thgs, PyData.canLay0 (.str s) = true := by decide +kernel
theorem close_lay : PyData.canLay0 (.str "close") = true := by decide +kernel
theorem entry_lay : PyData.canLay0 (.str "entry") = true := by decide +kernel
theorem row_lay {rs : List Rw} (g : ∀ r ∈ rs, good r) : ∀ d ∈ toldOf (sumT rs), Lay 1 d := fun d m => by
  obtain ⟨p, mp, rfl⟩ := List.mem_map.mp m
  obtain ⟨r, mr, rfl⟩ := kept_from mp
  have gr := g r mr
  refine Lay.tup fun e me => ?_
  simp only [List.mem_cons, List.not_mem_nil, or_false] at me
  rcases me with rfl | rfl | rfl
  · exact .str (accs_lay _ gr.1)
  · exact .str (thgs_lay _ gr.2)
  · exact .int
theorem lay_close {w v : Int} : Lay 3 (mkClose w v) := Lay.tup fun e me => by
  simp only [List.mem_cons, List.not_mem_nil, or_false] at me
  rcases me with rfl | rfl | rfl
  · exact .str close_lay
  · exact .int
  · exact .int
theorem lay_entry {w v : Int} {rs : List Rw} (g : ∀ r ∈ rs, good r) : Lay 3 (mkEntry w v (toldOf (sumT rs))) := Lay.tup fun e me => by
  simp only [List.mem_cons, List.not_mem_nil, or_false] at me
  rcases me with rfl | rfl | rfl | rfl
  · exact .str entry_lay
  · exact .int
  · exact .int
  · exact Lay.tup (row_lay g)
theorem GoodDs.lay {ds : List Dt} {w c : Int} (G : GoodDs ds w c) : ∀ d ∈ ds, Lay 3 d := G.all (fun _ _ => lay_close) fun _ _ _ g => lay_entry g
end K28

set_option Elab.async false
set_option linter.all false
set_option maxRecDepth 100000
set_option maxHeartbeats 4000000
namespace K28
open PySem PySem.Spec PyProof.Rows L2 Sr LamX
/-! ### sorting says one thing of what are the same pairs -/
theorem str_ext {a b : Str} (h : a.cps.toList = b.cps.toList) : a = b := by
  cases a
  cases b
  exact congrArg Str.mk (Array.toList_inj.mp h)
theorem lt_text (a b : Str) : PySem.W.dataLt (.str a) (.str b) = decide (a.cps.toList < b.cps.toList) := PySem.W.dataLt_str a b
theorem eqv_text (a b : Str) : PyData.eqv (.str a) (.str b) = decide (a = b) := by
  show (a == b) = decide (a = b)
  by_cases h : a = b
  · rw [h, decide_eq_true rfl]
    simp
  · rw [decide_eq_false h]
    simpa using h
theorem pLe_anti {p q : Str × Str} (h1 : PySem.W.dataLe false encP p q = true) (h2 : PySem.W.dataLe false encP q p = true) : p = q := by
  have e1 : (!PySem.W.dataLt (encP q) (encP p)) = true := h1
  have e2 : (!PySem.W.dataLt (encP p) (encP q)) = true := h2
  unfold encP at e1 e2
  rw [PySem.W.dataLt_pair (by simp [PySem.W.alike]) (by simp [PySem.W.alike]), eqv_text, eqv_text, lt_text, lt_text] at e1 e2
  have anti : ∀ {a b : Str}, ¬ a.cps.toList < b.cps.toList → ¬ b.cps.toList < a.cps.toList → a = b := fun {a b} n1 n2 => str_ext (List.le_antisymm (List.not_lt.mp n2) (List.not_lt.mp n1))
  obtain ⟨a, b⟩ := p
  obtain ⟨c, d⟩ := q
  simp only [decide_eq_true_eq, Bool.not_eq_true'] at e1 e2
  by_cases ha : a = c
  · subst ha
    rw [if_pos rfl] at e1 e2
    by_cases hb : b = d
    · rw [hb]
    · rw [if_neg (fun z => hb z.symm)] at e1
      rw [if_neg hb] at e2
      exact absurd (anti (of_decide_eq_false e2) (of_decide_eq_false e1)) hb
  · rw [if_neg (fun z => ha z.symm)] at e1
    rw [if_neg ha] at e2
    exact absurd (anti (of_decide_eq_false e2) (of_decide_eq_false e1)) ha
theorem pSort_eq {l m : List (Str × Str)} (h : l.Perm m) : pSort l = pSort m :=
  List.Perm.eq_of_pairwise (le := fun a b => PySem.W.dataLe false encP a b = true) (fun _ _ _ _ h1 h2 => pLe_anti h1 h2) (pSort_sorted l) (pSort_sorted m) ((pSort_perm l).trans (h.trans (pSort_perm m).symm))
theorem same_perm {l m : List (Str × Str)} (hl : l.Nodup) (hm : m.Nodup) (h : ∀ p, p ∈ l ↔ p ∈ m) : l.Perm m := (List.perm_ext_iff_of_nodup hl hm).mpr h
/-! ### the pairs of a dict of sums, as data -/
def itemsD (rs : List Rw) : List Dt := rs.map fun r => .tup [.tup [.str r.1.1, .str r.1.2], .int r.2]
theorem item_is {H : Hp} {t : Addr} {kv : List Key × V} {p : Str × Str} {n : Int} (h : ItemAt H t kv) (e1 : kv.1 = pk p) (e2 : kv.2 = .int n) (sm : small p) : Is H (.ref t) (.tup [.tup [.str p.1, .str p.2], .int n]) := by
  obtain ⟨q, h1, h2⟩ := h
  rw [e2] at h1
  rw [e1] at h2
  have h2 : H q = some (.tup [.str p.1, .str p.2]) := h2
  exact .tup h1 (.cons (.tup h2 (.cons (.str _ sm.1) (.cons (.str _ sm.2) .nil)) (show (2 : Nat) ≤ 60 by decide)) (.cons (.int _) .nil)) (show (2 : Nat) ≤ 60 by decide)
theorem items_all {H : Hp} : ∀ {ts : List Addr} {kvs : List (List Key × V)}, Paired (ItemAt H) ts kvs → (∀ e ∈ kvs, (∃ p, e.1 = pk p ∧ small p) ∧ ∃ n, e.2 = V.int n) → IsA H (ts.map V.ref) (itemsD (rowsE kvs))
  | _, _, .nil, _ => .nil
  | _, _, .cons (b := b) h t, all => by
    obtain ⟨⟨p, e1, sm⟩, n, e2⟩ := all b List.mem_cons_self
    have ih := items_all t fun e m => all e (List.mem_cons_of_mem _ m)
    refine .cons ?_ ih
    have g := item_is h e1 e2 sm
    show Is H _ (Dt.tup [.tup [.str (unpk b.1).1, .str (unpk b.1).2], .int (intOf (some b.2))])
    rw [e1, e2, unpk_pk]
    exact g
theorem items_is {H : Hp} {ts : List Addr} {kvs : List (List Key × V)} (I : Ints isPk kvs) (h : Paired (ItemAt H) ts kvs) : IsA H (ts.map V.ref) (itemsD (rowsE kvs)) := items_all h fun e m => by
  obtain ⟨⟨p, e1, sm⟩, n, e2⟩ := I.ent e m
  exact ⟨⟨p, e1, sm⟩, n, e2⟩
theorem dep_item (n : Nat) (r : Rw) : Dep (n + 3) (.tup [.tup [.str r.1.1, .str r.1.2], .int r.2]) := .tup (n + 2) _ fun d m => by
  simp only [List.mem_cons, List.not_mem_nil, or_false] at m
  rcases m with rfl | rfl
  · refine .tup (n + 1) _ fun d m => ?_
    simp only [List.mem_cons, List.not_mem_nil, or_false] at m
    rcases m with rfl | rfl <;> exact .str _ _
  · exact .int _ _
theorem dep_items (n : Nat) (rs : List Rw) : Dep (n + 4) (.lst (itemsD rs)) := .lst (n + 3) _ fun d m => by
  obtain ⟨r, _, rfl⟩ := List.mem_map.mp m
  exact dep_item n r
theorem dep_both (a b : List Rw) : Dep 5 (.lst [.lst (itemsD a), .lst (itemsD b)]) := .lst 4 _ fun d m => by
  simp only [List.mem_cons, List.not_mem_nil, or_false] at m
  rcases m with rfl | rfl <;> exact dep_items 0 _
theorem items_len (kvs : List (List Key × V)) : (itemsD (rowsE kvs)).length = kvs.length := by
  unfold itemsD rowsE
  rw [List.length_map, List.length_map]
end K28

set_option Elab.async false
set_option linter.all false
set_option maxRecDepth 100000
set_option maxHeartbeats 4000000
namespace K28
open PySem PySem.Spec PyProof.Rows L2 Sr LamX
/-! ### what drawn deeds enter -/
def kvOf (d : Dt) : List (List Key × V) := tk (sumT (rowsOf (.tup (toldR d))))
theorem ents_kv : ∀ {ds : List Dt} {c : Int} {e : Ent}, e ∈ ents ds c → ∃ d ∈ ds, dIs "close" d = false ∧ e.2.2.2 = kvOf d
  | d :: r, c, e, m => by
    have m : e ∈ (if dIs "close" d = true then ents r (clo d c) else entOf d c :: ents r (clo d c)) := m
    cases h : dIs "close" d with
    | true =>
      rw [if_pos h] at m
      obtain ⟨d', md, x⟩ := ents_kv m
      exact ⟨d', List.mem_cons_of_mem _ md, x⟩
    | false =>
      rw [if_neg (by rw [h]; simp)] at m
      rcases List.mem_cons.mp m with rfl | m
      · exact ⟨d, List.mem_cons_self, h, rfl⟩
      · obtain ⟨d', md, x⟩ := ents_kv m
        exact ⟨d', List.mem_cons_of_mem _ md, x⟩
theorem ents_len : ∀ {ds : List Dt} {c : Int}, (ents ds c).length ≤ ds.length
  | [], _ => Nat.le_refl _
  | d :: r, c => by
    have ih := ents_len (ds := r) (c := clo d c)
    show (if dIs "close" d = true then ents r (clo d c) else entOf d c :: ents r (clo d c)).length ≤ r.length + 1
    split
    · omega
    · rw [List.length_cons]; omega
theorem flat_len {n : Nat} : ∀ {L : List (List (List Key × V))}, (∀ l ∈ L, l.length ≤ n) → (allRows L).length ≤ n * L.length
  | [], _ => by simp [allRows]
  | l :: r, h => by
    have ih := flat_len (L := r) fun x m => h x (List.mem_cons_of_mem _ m)
    have h1 := h l List.mem_cons_self
    have e : allRows (l :: r) = rowsE l ++ allRows r := by simp [allRows]
    have el : (rowsE l).length = l.length := by unfold rowsE; rw [List.length_map]
    rw [e, List.length_append, el, List.length_cons, Nat.mul_add, Nat.mul_one]
    omega
/-- an entry of a drawn deed -/
structure KvGood (kvs : List (List Key × V)) : Prop where
  sm : Ints isPk kvs
  few : kvs.length ≤ 6
  ok : ∀ r ∈ rowsE kvs, rowOk (rowTr r) = true
theorem kv_good {rs : List Rw} (g : ∀ r ∈ rs, good r) (z : rs.length ≤ 6) : KvGood (tk (sumT rs)) := by
  have I := good_ints g
  refine ⟨tk_ints I, ?_, fun r m => ?_⟩
  · have h1 := kept_len (kvs := sumT rs)
    have h2 := sumT_len rs
    have h3 : (tk (sumT rs)).length = (kept (sumT rs)).length := by unfold tk; rw [List.length_map]
    omega
  · obtain ⟨e, me, rfl⟩ := List.mem_map.mp m
    obtain ⟨p, mp, rfl⟩ := List.mem_map.mp me
    obtain ⟨r, mr, rfl⟩ := kept_from mp
    have gr := g r mr
    show (accOk (.str (unpk (pk r.1)).1) && (nameOk (.str (unpk (pk r.1)).2) && isInteger (.int _))) = true
    rw [unpk_pk, (accs_ok _ gr.1).2, (thgs_ok _ gr.2).2]
    rfl
theorem kv_entry {w v : Int} {rs : List Rw} (g : ∀ r ∈ rs, good r) : kvOf (mkEntry w v (toldOf (sumT rs))) = tk (sumT rs) := by
  have I := good_ints g
  show tk (sumT (rowsOf (.tup (toldOf (sumT (rowsOf (.tup (toldOf (sumT rs)))))))) ) = _
  rw [told_twice I, tk_told I]
theorem GoodDs.kv {ds : List Dt} {w c : Int} (G : GoodDs ds w c) : ∀ d ∈ ds, dIs "close" d = false → KvGood (kvOf d) :=
  G.all6 (p := fun d => dIs "close" d = false → KvGood (kvOf d)) (fun w v h => by rw [dIs_close] at h; cases h) fun w v rs g z _ => by rw [kv_entry g]; exact kv_good g z
theorem GoodDs.ents {ds : List Dt} {w c : Int} (G : GoodDs ds w c) (dl : ds.length ≤ 10) : GoodEs (K28.ents ds (-1)) := by
  have el := ents_len (ds := ds) (c := -1)
  have all : ∀ e ∈ K28.ents ds (-1), KvGood e.2.2.2 := fun e m => by
    obtain ⟨d, md, h, e2⟩ := ents_kv m
    rw [e2]
    exact G.kv d md h
  refine ⟨by omega, fun e m => (all e m).sm, ?_, fun r m => ?_⟩
  · have h := flat_len (n := 6) (L := (K28.ents ds (-1)).map fun e : Ent => e.2.2.2) fun l m => by
      obtain ⟨e, me, rfl⟩ := List.mem_map.mp m
      exact (all e me).few
    rw [List.length_map] at h
    omega
  · obtain ⟨l, ml, mr⟩ := List.mem_flatten.mp m
    obtain ⟨kvs, mk, rfl⟩ := List.mem_map.mp ml
    obtain ⟨e, me, rfl⟩ := List.mem_map.mp mk
    exact (all e me).ok r mr
end K28

set_option Elab.async false
set_option linter.all false
set_option maxRecDepth 100000
set_option maxHeartbeats 4000000
namespace K28
open PySem PySem.Spec PyProof.Rows L2 Sr LamX
/-! ### few keys -/
theorem nodup_sub {α : Type} [DecidableEq α] : ∀ (l l' : List α), l.Nodup → (∀ a ∈ l, a ∈ l') → l.length ≤ l'.length
  | [], _, _, _ => Nat.zero_le _
  | a :: l, l', nd, h => by
    have n := List.nodup_cons.mp nd
    have ma := h a List.mem_cons_self
    have ih := nodup_sub l (l'.erase a) n.2 fun b mb => (List.mem_erase_of_ne (fun z => n.1 (by rw [← z]; exact mb))).mpr (h b (List.mem_cons_of_mem _ mb))
    have le := List.length_erase_of_mem ma
    have pos : 0 < l'.length := List.length_pos_of_mem ma
    rw [List.length_cons]
    omega
def all15 : List (Str × Str) := accs.flatMap fun a => thgs.map fun t => (a, t)
theorem good_15 {r : Rw} (g : good r) : r.1 ∈ all15 := List.mem_flatMap.mpr ⟨r.1.1, g.1, List.mem_map.mpr ⟨r.1.2, g.2, rfl⟩⟩
/-- entries of drawn deeds: few rows, all of them good -/
structure DrawnEs (es : List Ent) : Prop where
  g : GoodEs es
  all : ∀ r ∈ allRows (es.map fun e : Ent => e.2.2.2), good r
theorem rows_good {f : Ent → Bool} {es : List Ent} (D : DrawnEs es) : ∀ r ∈ rowsTo f es, good r := fun r m => D.all r ((allRows_sub (List.filter_sublist (p := f))).subset m)
theorem bal_ints {f : Int → Int → Ent → Bool} {n m : Int} {es : List Ent} (D : DrawnEs es) : Ints isPk (balOf f n m es) := tk_ints (good_ints (rows_good (f := f n m) D))
theorem bal_len {f : Int → Int → Ent → Bool} {n m : Int} {es : List Ent} (D : DrawnEs es) : (balOf f n m es).length ≤ 15 := by
  have g := rows_good (f := f n m) D
  have h : (kept (sumT (rowsTo (f n m) es))).length ≤ all15.length := nodup_sub _ _ (kept_nodup (good_ints g)) fun p mp => by
    obtain ⟨r, mr, rfl⟩ := kept_from mp
    exact good_15 (g r mr)
  have e : (balOf f n m es).length = (kept (sumT (rowsTo (f n m) es))).length := by
    show (tk (sumT (rowsTo (f n m) es))).length = _
    unfold tk
    rw [List.length_map]
  rw [e]
  exact h
theorem kvrow_good {rs : List Rw} (g : ∀ r ∈ rs, good r) : ∀ r ∈ rowsE (tk (sumT rs)), good r := fun r m => by
  obtain ⟨e, me, rfl⟩ := List.mem_map.mp m
  obtain ⟨p, mp, rfl⟩ := List.mem_map.mp me
  obtain ⟨r, mr, rfl⟩ := kept_from mp
  have gr := g r mr
  show (unpk (pk r.1)).1 ∈ accs ∧ (unpk (pk r.1)).2 ∈ thgs
  rw [unpk_pk]
  exact gr
theorem GoodDs.drawn {ds : List Dt} {w c : Int} (G : GoodDs ds w c) (dl : ds.length ≤ 10) : DrawnEs (K28.ents ds (-1)) := by
  refine ⟨G.ents dl, fun r m => ?_⟩
  obtain ⟨l, ml, mr⟩ := List.mem_flatten.mp m
  obtain ⟨kvs, mk, rfl⟩ := List.mem_map.mp ml
  obtain ⟨e, me, rfl⟩ := List.mem_map.mp mk
  obtain ⟨d, md, h, e2⟩ := ents_kv me
  rw [e2] at mr
  exact G.all6 (p := fun d => dIs "close" d = false → ∀ r ∈ rowsE (kvOf d), good r) (fun w v h => by rw [dIs_close] at h; cases h) (fun w v rs g z _ => by rw [kv_entry g]; exact kvrow_good g) d md h r mr
theorem tm_ok {n m : Int} (n0 : 0 ≤ n) (n1 : n ≤ 1000000) (m0 : 0 ≤ m) (m1 : m ≤ 1000000) : badTm [.int n, .int m] 0 = none := by
  simp [badTm, time_ok n0 n1, time_ok m0 m1]
theorem is_list_items {H : Hp} {l : Addr} {ts : List Addr} {kvs : List (List Key × V)} (I : Ints isPk kvs) (hl : H l = some (.lst (ts.map V.ref))) (pr : Paired (ItemAt H) ts kvs) (z : kvs.length ≤ 60) : Is H (.ref l) (.lst (itemsD (rowsE kvs))) :=
  .lst hl (items_is I pr) (by rw [List.length_map, Paired.length pr]; exact z)
/-! ### the gap -/
theorem gap_rows (kb kt : List (List Key × V)) (L : List (Str × Str)) : rowsE (gapOf kb kt L) = (L.filter fun p => decide (amt kt p - amt kb p ≠ 0)).map fun p => (p, amt kt p - amt kb p) := by
  unfold rowsE gapOf diffK
  rw [List.map_map]
  have e : (fun p : Str × Str => decide (amt kb p ≠ amt kt p)) = fun p => decide (amt kt p - amt kb p ≠ 0) := by
    funext p
    congr 1
    exact propext ⟨fun h z => h (by omega), fun h z => h (by omega)⟩
  rw [e]
  refine List.map_congr_left fun p _ => ?_
  show (unpk (pk p), intOf (some (V.int _))) = _
  rw [unpk_pk]
  rfl
theorem gap_ints {kb kt : List (List Key × V)} {bs : List (Str × Str)} (IB : Ints isPk kb) (IT : Ints isPk kt) (nd : bs.Nodup) (mem : ∀ q, q ∈ bs ↔ q ∈ keysOf kb ∨ q ∈ keysOf kt) : Ints isPk (gapOf kb kt (pSort bs)) := by
  refine ⟨fun e m => ?_, ?_⟩
  · obtain ⟨p, mp, rfl⟩ := List.mem_map.mp m
    have mb : p ∈ bs := (pSort_perm _).mem_iff.mp (List.mem_filter.mp mp).1
    refine ⟨⟨p, rfl, ?_⟩, _, rfl⟩
    rcases (mem p).mp mb with h | h
    · exact keysOf_small IB p h
    · exact keysOf_small IT p h
  · unfold gapOf
    rw [List.map_map]
    exact pk_nodup (((pSort_perm _).nodup_iff.mpr nd).filter _)
theorem gap_len {kb kt : List (List Key × V)} {L : List (Str × Str)} : (gapOf kb kt L).length ≤ L.length := by
  unfold gapOf diffK
  rw [List.length_map]
  exact List.length_filter_le _ _
theorem isA_items {H : Hp} {f : Str × Str → Int} : ∀ {acc : List V} {ks : List (Str × Str)}, Paired (fun y k => ∃ t q, y = V.ref t ∧ H t = some (.tup [.ref q, .int (f k)]) ∧ H q = some (.tup [.str k.1, .str k.2])) acc ks → (∀ k ∈ ks, small k) → IsA H acc (itemsD (ks.map fun k => (k, f k)))
  | _, _, .nil, _ => .nil
  | _, _, .cons (b := k) ⟨t, q, e, h1, h2⟩ r, sm => by
    rw [e]
    have s := sm k List.mem_cons_self
    exact .cons (.tup h1 (.cons (.tup h2 (.cons (.str _ s.1) (.cons (.str _ s.2) .nil)) (show (2 : Nat) ≤ 60 by decide)) (.cons (.int _) .nil)) (show (2 : Nat) ≤ 60 by decide)) (isA_items r fun x m => sm x (List.mem_cons_of_mem _ m))
theorem bs_len {ka kb : List (List Key × V)} {bs : List (Str × Str)} (la : ka.length ≤ 15) (lb : kb.length ≤ 15) (nd : bs.Nodup) (mem : ∀ q, q ∈ bs ↔ q ∈ keysOf ka ∨ q ∈ keysOf kb) : bs.length ≤ 30 := by
  have h := nodup_sub bs (keysOf ka ++ keysOf kb) nd fun q m => List.mem_append.mpr ((mem q).mp m)
  rw [List.length_append] at h
  unfold keysOf at h
  rw [List.length_map, List.length_map] at h
  omega
end K28

set_option Elab.async false
set_option linter.all false
set_option maxRecDepth 100000
set_option maxHeartbeats 4000000
namespace K28
open PySem PySem.Spec PyProof.Rows L2 Sr
/-- the class's __init__, whose last parameter has an object for default -/
structure DfnI (K : PySem.W.Frag) (T0 : Addr) : Prop where
  fn : ∃ fd, FunD K "__init__" "Ledger.__init__" (defArgs s_Ledger___init__) (defBody s_Ledger___init__) (defScope s_Ledger___init__) [.ref T0] [] (He.fAd K ("Ledger", some "__init__")) fd
section
variable {P : Program} {w : World} {K : PySem.W.Frag} {mg : Str → Option Value} {base : Heap}
structure MkL (P : Program) (w : World) (K : PySem.W.Frag) (mg : Str → Option Value) (base : Heap) (T0 : Addr) : Prop where
  ex : ∃ fd, FnOk P w K mg base (L2.CX P w) 7 (He.fAd K ("Ledger", some "__init__")) fd ["self", "deeds"] (spLed K) ∧ Binds K fd ["self", "deeds"] [] ∧ ∃ ds, Vals [V.ref T0] ds ∧ Binds K fd ["self", "deeds"] ds
  mk_ : Mk K (He.ga K "Ledger") (He.fAd K ("Ledger", some "__init__"))
  nm : mg "Ledger" = some (.ref (He.ga K "Ledger"))
theorem mkL {T0 : Addr} (D : DfnI K T0) (M : Mk K (He.ga K "Ledger") (He.fAd K ("Ledger", some "__init__"))) (nm : mg "Ledger" = some (.ref (He.ga K "Ledger"))) (T : Txt K mg) (F : LgF K) (R : ErrAt P w K mg base "BadDeed" "index" "index")
    (C_is_list : Cal P w K mg base 1 "is_list" ["thing"] (spB isSeq)) (C_is_deed : Cal P w K mg base 6 "_is_deed" ["thing"] (spBP deedFlat deedOk))
    (C_told_rows : CalE P w K mg base 5 "told_rows" ["rows"] (spTold K)) (C_sums : CalE P w K mg base 6 "_sums" ["rows"] (spSm K)) : MkL P w K mg base T0 := by
  obtain ⟨fd, F0⟩ := D.fn
  refine ⟨⟨fd, F0.ok sc_Ledger___init__ (fun vs H Q E h => ?_) (fun cdv A outer s H vs Q E hr h => b_Ledger___init__ T F R C_is_list C_is_deed C_told_rows C_sums cdv A outer s H vs Q E hr h), ?_, ?_⟩, M, nm⟩
  · obtain ⟨M, x, dx, v, d, rfl, _⟩ := h
    rfl
  · obtain ⟨ds, hv, hb⟩ := F0.binds1 (ps := ["self", "deeds"]) 2 1 (by simp) rfl fun T kV doc pm an cdv ct us its hu hi => by
      match us, its, hu, hi with
      | [_, _], [_], _, _ => exact ⟨_, rfl, rfl⟩
    cases hv
    exact hb
  · exact F0.binds1 (ps := ["self", "deeds"]) 1 0 (by simp) rfl fun T kV doc pm an cdv ct us its hu hi => by
      match us, its, hu, hi with
      | [_], [_], _, _ => exact ⟨_, rfl, rfl⟩
theorem MkL.pe {X : Cx} {T0 : Addr} {j : Nat} {E : XK} {p pos : Pos} {e : Expr} {es : List Expr} {t : TA} (c : MkL X.prog X.w X.K X.mg X.base T0) (hr : Room j X.A) (hk : 8 ≤ j) (hg : Gl X "Ledger") (hx : Passes (L2.CX X.prog X.w) X E) (ha : PA X (e :: es) t)
    (he : starEach (e :: es) X.env = (false, eval e X.env) :: starEach es X.env := by rfl) (hpl : (backTo pos (starEach es X.env)).any (·.1) = false := by rfl) :
    PE X (.Call (.Name "Ledger" p) (e :: es) [] pos) (tMake (He.ga X.K "Ledger") (spLed X.K) [] E t) := by
  obtain ⟨fd, F, hb, _⟩ := c.ex
  exact pe_make c.mk_ F (hr.mono hk) hg c.nm hb .nil hx ha (by decide) he hpl
/-- the ledger with one deed more, or the error -/
def spMore (K : PySem.W.Frag) : Sp := fun vs H Q E => ∃ x v ds es d, vs = [.ref x, v] ∧ LedAt K H x ds es ∧ (∀ e ∈ ds, deedFlat e) ∧ ds.length ≤ 50 ∧ Is H v d ∧ deedFlat d ∧
  (badD (ds ++ [d]) 0 (-1) 0 = none → ∀ H' y, Same H H' → H y = none → LedAt K H' y ((ds ++ [d]).map told1) (ents (ds ++ [d]) (-1)) → Q (.ref y) H') ∧
  ∀ i, badD (ds ++ [d]) 0 (-1) 0 = some i → ∀ H' e, Same H H' → H' e = none → E (.ref (He.ga K "BadDeed")) (some e) (upd H' e (.xd [("index", .int (i : Nat))]))
abbrev s_Ledger_more : Stmt := inClass (top 27) 2
theorem sc_Ledger_more : FnScope ["self", "deed"] ["self", "deed"] (defScope s_Ledger_more) := ⟨rfl, rfl, rfl, by decide +kernel, rfl, by decide +kernel, by decide +kernel⟩
theorem m_more {T0 : Addr} (T : Txt K mg) (F : LgF K) (Mk0 : MkL P w K mg base T0) (D : DfnM K "Ledger" "more" "Ledger.more" s_Ledger_more) :
    CalM P w K mg base (L2.CX P w) 9 (He.fAd K ("Ledger", some "more")) ["self", "deed"] (spMore K) := by
  refine D.calE sc_Ledger_more (fun _ _ _ _ _ _ us hl => match us, hl with | [_, _], _ => rfl) (fun vs H Q E' h => ?_) fun cdv A outer s H vs Q E hr h => ?_
  · obtain ⟨x, v, ds, es, d, rfl, _⟩ := h
    rfl
  obtain ⟨x, v, ds, es, d, rfl, ⟨dx, a, b, zs, hx, ha, hb, hz⟩, hf, hl, hv, fd, q1, q2⟩ := h
  cases ha with
  | lst ha ia zl =>
  rename_i ys
  refine ⟨_, (pss_one (ps_ret (MkL.pe Mk0 hr (by decide) (by rfl) (passes_def rfl rfl rfl rfl) (pa_cons (pe_op op_cat (pe_fld (pv 0) rfl) (pe_lst (pa_cons (pv 1) pa_nil))) pa_nil)))), ?_⟩
  have hlen := ia.len
  refine ⟨_, rfl, x, _, dx, _, _, rfl, hx, F.cl, F.nD, rfl, _, rfl, lineN (n := 1), fun l hl0 => ⟨a, l, ys, [v], rfl, rfl, Same.up hl0 _ _ ha, upd_same, lineN (show ys.length + 1 ≤ 1000 by omega), fun p hp y dy hy hdy ne => ?_⟩⟩
  have s1 := (Same.up (o := .lst [v]) hl0).trans (Same.up (o := .lst (ys ++ [v])) hp)
  have ny : ∀ {b : Addr} {u : HO}, (upd (upd H l (.lst [v])) p (.lst (ys ++ [v]))) b = some u → (upd (upd (upd (upd H l (.lst [v])) p (.lst (ys ++ [v]))) dy (.own y)) y (.ins (He.ga K "Ledger") dy [])) b = some u := fun {b u} e => by
    rw [upd_ne (ne_of_none e hy), upd_ne (ne_of_none e hdy)]
    exact e
  refine ⟨_, y, dy, .ref p, .lst (ds ++ [d]), rfl, fun b u e => ny e, hy, .lst upd_same ((ia.mono s1).app (.cons (hv.mono s1) .nil)) (by rw [List.length_append]; simp only [List.length_cons, List.length_nil]; omega), ?_, upd_same, ?_, ?_⟩
  · intro l2 e2 e3 m
    cases e2
    rcases List.mem_append.mp m with m | m
    · exact hf _ m
    · rw [List.mem_singleton.mp m]
      exact fd
  · intro hb2 H' s2 L
    exact ⟨rfl, q1 hb2 H' y (s1.trans s2) (s1.free hy) L⟩
  · intro i hi H' e s2 he
    exact q2 i hi H' e (s1.trans s2) he
end
end K28

set_option Elab.async false
set_option linter.all false
set_option maxRecDepth 100000
set_option maxHeartbeats 4000000
namespace Sr
open PySem PySem.Spec PyProof.Rows L2
/-! ### set(xs) of a list of ints, sorted -/
section
variable {P : Program} {w : World} {A : Around} {E : Value → Shared → Prop} {s : Shared}
def ISetOut (w : World) (s : Shared) (ns : List Int) (h' : Heap) : Prop := ∃ n, SetR w h' s.heap.objs.size (fun j => decide (j ∈ ns)) n ∧ n ≤ ns.length ∧ ∀ b o, s.heap.get? b = some o → h'.get? b = some o
set_option maxHeartbeats 8000000 in
theorem ints_set {l : Addr} {items : Array Value} (ns : List Int) {Q : Value → Shared → Prop} (hh : A.handled = none) (hl : s.heap.IsList l items) (hit : PyProof.Rows.IntsAre items.toList ns) (few : ns.length < 64)
    (h : ∀ (h' : Heap) (tk : Nat), ISetOut w s ns h' → Q (.ref s.heap.objs.size) { s with heap := h', toks := tk }) :
    wpAny (model P w) A (call (.type "set") [.ref l]) Q E s := by
  have isz : items.size = ns.length := by
    have z := PyProof.Rows.IntsAre.length hit
    rwa [Array.length_toList] at z
  obtain ⟨ol, hol, hcl, nl, hdl⟩ := id hl
  have lt : l < s.heap.objs.size := Heap.lt_size hol
  obtain ⟨c, tl, hmro⟩ := PySem.F.called_set.mro
  have a1 := PySem.F.called_set.made
  have a2 := PySem.F.called_set.sub
  have a3 := PySem.F.called_set.notType
  have a4 := PySem.F.called_set.canCreate
  have a5 := PySem.F.typeCall_set_1 (.ref l)
  refine wpAny_call (codeAny_of_tree ?_)
  show wpAny _ _ (callAny (.type "set") _) _ _ _
  refine wpAny_pure ⟨Code.quiet_builtin _ (by decide +kernel), codeAny_builtin PySem.F.entry_type_call ?_⟩
  rw [Around.under_plain (weight_type_call_type "set" [.ref l] []) rfl]
  repeat (any_goals (first | assumption | wp_step))
  refine codeAny_mono (code_set_led1 (.ref l) (E := E) (Q₁ := fun obj t => obj = .ref s.heap.objs.size ∧ t = { s with heap := s.heap.push (fresh0 w) }) ⟨rfl, rfl⟩) fun r t hr => ?_
  cases r with
  | error e => exact hr
  | ok fl =>
    cases fl with
    | ret obj =>
      obtain ⟨rfl, rfl⟩ := hr
      have b1 : (s.heap.push (fresh0 w)).get? s.heap.objs.size = some (fresh0 w) := Heap.get?_push_size _ rfl
      have b2 : Shared.TypeIs { s with heap := s.heap.push (fresh0 w) } (.ref s.heap.objs.size) "set" := ⟨_, b1, rfl⟩
      have b3 := PySem.F.called_set.init.lookup
      have b4 := PySem.F.called_set.init.bind (.ref s.heap.objs.size)
      repeat (any_goals (first | assumption | wp_step))
      refine codeAny_mono (codeAny_call_builtin (R := wants (fun r t => r = .none ∧ ∃ h' tk, t = { s with heap := h', toks := tk } ∧ ISetOut w s ns h') E) PySem.F.called_set.init.plain PySem.F.entry_set_init (check_set_init_1 b2 ?_)) fun r t hr => ?_
      · have c1 : Shared.TypeIs { s with heap := s.heap.push (fresh0 w) } (.ref l) "list" := ⟨ol, Heap.get?_push_of_some _ hol, hcl⟩
        have e1 := PySem.F.sub_list_set
        have e2 := PySem.F.sub_list_frozenset
        have e3 : (Value.type "list" == Value.type "dict") = false := by decide
        have il : (s.heap.push (fresh0 w)).IsList l items := hl.push _
        unfold Builtin.«set.__init__» noKeywords Builtin.Frozenset.updateFrom
        generalize hPI : pyIter = PI
        wp_walk
        subst hPI
        refine wpAny_pyIter_list il ?_
        have z1 : (s.heap.push (fresh0 w)).objs.size = s.heap.objs.size + 1 := Heap.size_push ..
        rw [z1]
        refine wpAny_bind (wpAny_runValue ?_)
        have nS : s.heap.objs.size ∉ [s.heap.objs.size + 1, l] := fun z => by
          rcases List.mem_cons.mp z with z | z
          · exact Nat.ne_of_lt (Nat.lt_succ_self _) z
          · exact Nat.ne_of_gt lt (List.mem_singleton.mp z)
        have ne : l ≠ s.heap.objs.size + 1 := Nat.ne_of_lt (Nat.lt_succ_of_lt lt)
        have free : ∀ b, s.heap.objs.size ≤ b → s.heap.get? b = none := fun b hb => by
          cases q : s.heap.get? b with
          | none => rfl
          | some o => exact absurd (Heap.lt_size q) (Nat.not_lt.mpr hb)
        have g2 : ((s.heap.push (fresh0 w)).push { cls := .type "list_iterator", data := .fields #[.ref l, .int 0 0] }).get? (s.heap.objs.size + 1) = some { cls := .type "list_iterator", data := .fields #[.ref l, .int 0 0] } := by
          have e := Heap.get?_push_size (s.heap.push (fresh0 w)) (o := { cls := .type "list_iterator", data := .fields #[.ref l, .int 0 0] }) rfl
          rwa [Heap.size_push] at e
        refine set_update_ints ((Walks.list (by simp [hh]) _ l ne items).toS) s.heap.objs.size nS ns isz (by unfold scanBound; omega) (fun i v hv => ?_) (items.size - 0) 0 _ rfl (Nat.zero_le _)
          ⟨⟨_, g2, rfl, rfl⟩, il.push _⟩ ⟨0, Nat.le_refl 0, setR_new_at (Heap.get?_push_of_some _ b1)⟩ fun s' c hm hc hS => ?_
        · have lt' : i < ns.length := by rw [← isz]; exact (Array.getElem?_eq_some_iff.mp hv).1
          obtain ⟨t, e⟩ := PyProof.Rows.IntsAre.int_at hit i v (by rw [Array.getElem?_toList]; exact hv)
          refine ⟨ns[i], t, List.getElem?_eq_getElem lt', ?_⟩
          rw [e, List.getD_eq_getElem?_getD, List.getElem?_eq_getElem lt'] <;> rfl
        · obtain ⟨h', g', d', tk', os'⟩ := s'
          obtain rfl : g' = s.gens := hm.gens
          obtain rfl : d' = s.drawn := hm.drawn
          obtain rfl : os' = s.os := hm.os
          show wpAny _ _ _ _ _ _
          refine wpAny_pure ?_
          show wpAny _ _ (ret Value.none) _ _ _
          rw [isz] at hc
          refine wpAny_pure ⟨rfl, h', tk', rfl, c, hS, hc, fun b o e => ?_⟩
          have lb : b < s.heap.objs.size := Heap.lt_size e
          refine hm.heap b o (fun z => ?_) (Heap.get?_push_of_some _ (Heap.get?_push_of_some _ e))
          simp only [List.mem_cons, List.not_mem_nil, or_false] at z
          rcases z with z | z
          · exact Nat.ne_of_lt lb z
          · exact Nat.ne_of_lt (Nat.lt_succ_of_lt lb) z
      · cases r with
        | error e => exact hr
        | ok fl =>
          cases fl with
          | ret r =>
            obtain ⟨rfl, h', tk, rfl, o⟩ := hr
            repeat (any_goals (first | assumption | wp_step))
            exact h _ _ o
          | _ => exact hr.elim
    | _ => exact hr.elim
end
section
variable {X : Cx}
def rSetI (K : PySem.W.Frag) (w : World) : List V → Hp → VK → Prop := fun xs H Q => ∃ (l : Addr) (ns : List Int), xs = [.ref l] ∧ SqL K H l (ns.map V.int) ∧ ns.length < 64 ∧ ∀ p n, H p = none → n ≤ ns.length → Q (.ref p) (upd H p (SetO w p (fun j => decide (j ∈ ns)) n))
theorem cr_setI (hc : X.calm = true) : CallR X (.type "set") (rSetI X.K X.w) := by
  intro pins s σ H xs us Q I r h
  obtain ⟨l, ns, rfl, hq, few, q⟩ := h
  rw [Vals.ref1 r]
  obtain ⟨its, rv, pl, hz⟩ := I.list hq
  refine ints_set ns (I.ok.hd hc) pl.isList (by simpa using ints_of_vals rv) few fun h' tk ⟨n, R, hn, keep⟩ => ?_
  exact ⟨.ref _, upd H s.heap.objs.size (SetO X.w s.heap.objs.size (fun j => decide (j ∈ ns)) n), I.laid (t' := tk) keep (Nat.le_refl _) (setO_new R), rfl, q _ n (I.hok.fresh (Nat.le_refl _)) hn⟩
end
/-- ints that rise are told by what is among them -/
theorem rise_uniq : ∀ {l m : List Int}, l.Pairwise (· < ·) → m.Pairwise (· < ·) → (∀ k, k ∈ l ↔ k ∈ m) → l = m
  | [], [], _, _, _ => rfl
  | [], b :: m, _, _, h => absurd ((h b).mpr List.mem_cons_self) List.not_mem_nil
  | a :: l, [], _, _, h => absurd ((h a).mp List.mem_cons_self) List.not_mem_nil
  | a :: l, b :: m, p, q, h => by
    have p' := List.pairwise_cons.mp p
    have q' := List.pairwise_cons.mp q
    have e : a = b := by
      rcases List.mem_cons.mp ((h a).mp List.mem_cons_self) with e | e
      · exact e
      · rcases List.mem_cons.mp ((h b).mpr List.mem_cons_self) with f | f
        · exact f.symm
        · have h1 := q'.1 a e
          have h2 := p'.1 b f
          omega
    subst e
    rw [rise_uniq p'.2 q'.2 fun k => ⟨fun m1 => ?_, fun m1 => ?_⟩]
    · rcases List.mem_cons.mp ((h k).mp (List.mem_cons_of_mem _ m1)) with f | f
      · have := p'.1 k m1
        omega
      · exact f
    · rcases List.mem_cons.mp ((h k).mpr (List.mem_cons_of_mem _ m1)) with f | f
      · have := q'.1 k m1
        omega
      · exact f
end Sr

set_option Elab.async false
set_option linter.all false
set_option maxRecDepth 100000
set_option maxHeartbeats 4000000
namespace K28
open PySem PySem.Spec PyProof.Rows L2 Sr
def floorOk (d : Dt) : Bool := match d with
  | .int i => decide (i ≤ 0)
  | _ => false
def spChkF (K : PySem.W.Frag) : Sp := fun vs H Q E => ∃ f df, vs = [f] ∧ Is H f df ∧ (floorOk df = true → ∀ H', Same H H' → Q .non H') ∧
  (floorOk df = false → ∀ H' e, Same H H' → H' e = none → E (.ref (He.ga K "BadFloor")) (some e) (upd H' e (.xd [("floor", f)])))
/-- the times that are among some, rising -/
structure Rise (ns : List Int) (l : List Int) : Prop where
  up : ns.Pairwise (· < ·)
  mem : ∀ k, k ∈ ns ↔ k ∈ l
  len : ns.length ≤ l.length
def spTimes (K : PySem.W.Frag) : Sp := fun vs H Q _ => ∃ x ds es, vs = [.ref x] ∧ LedAt K H x ds es ∧ es.length ≤ 60 ∧ ∀ H' l ns, Same H H' → H l = none → H' l = some (.lst (ns.map V.int)) → Rise ns (es.map (·.1)) → Q (.ref l) H'
section
variable {P : Program} {w : World} {K : PySem.W.Frag} {mg : Str → Option Value} {base : Heap}
abbrev s_BadFloor___init__ : Stmt := inClass (top 16) 0
theorem sc_BadFloor___init__ : FnScope ["self", "floor"] ["self", "floor"] (defScope s_BadFloor___init__) := ⟨rfl, rfl, rfl, by decide +kernel, rfl, by decide +kernel, by decide +kernel⟩
theorem m_BadFloor (E : Err K (He.ga K "BadFloor") (He.fAd K ("BadFloor", some "__init__")) "floor") (D : DfnM K "BadFloor" "__init__" "BadFloor.__init__" s_BadFloor___init__) :
    CalM P w K mg base CX0 1 (He.fAd K ("BadFloor", some "__init__")) ["self", "floor"] (spErr K (He.ga K "BadFloor") "floor") := by
  refine D.cal sc_BadFloor___init__ (fun _ _ _ _ _ _ us hl => match us, hl with | [_, _], _ => rfl) (fun vs H Q E' h => ?_) fun cdv A outer s H vs Q E' hr h => ?_
  · obtain ⟨a, v, rfl, _⟩ := h
    rfl
  obtain ⟨a, v, rfl, ha, q⟩ := h
  refine ⟨_, (pss_one (ps_ost (pv 0) (pv 1))), ?_⟩
  exact ⟨_, rfl, _, rfl, a, _, rfl, E.oex, E.no, .inl ⟨ha, q⟩⟩
abbrev s__check_floor : Stmt := top 31
theorem sc__check_floor : FnScope ["floor"] ["floor"] (defScope s__check_floor) := ⟨rfl, rfl, rfl, by decide +kernel, rfl, by decide +kernel, by decide +kernel⟩
theorem c__check_floor (T : Txt K mg) (D : Dfn K mg "_check_floor" s__check_floor) (RF : ErrAt P w K mg base "BadFloor" "floor" "floor") (C_is_integer : Cal P w K mg base 1 "is_integer" ["thing"] (spB isInteger)) :
    CalE P w K mg base 3 "_check_floor" ["floor"] (spChkF K) := by
  refine D.calE sc__check_floor (fun _ _ _ _ _ _ us hl => match us, hl with | [_], _ => rfl) (fun vs H Q E h => ?_) fun cdv A outer s H vs Q E hr h => ?_
  · obtain ⟨f, df, rfl, _⟩ := h
    rfl
  obtain ⟨f, df, rfl, hi, q, e1⟩ := h
  refine ⟨_, (pss_one (ps_if (PW.pt (pw_or (pt_not (pt_val (pe_cal C_is_integer hr (by first | decide | omega) (by rfl) (pa_cons (pv 0) pa_nil)))) (pw_or1 (pt_cmpR op_gt (pv 0) pe_int (nomark _))))) (pss_one (ps_raise rfl (takes_of rfl rfl rfl rfl) (RF.mk_ hr (by decide) (by rfl) (pa_cons (pv 0) pa_nil)))) pss_nil)), ?_⟩
  refine ⟨_, rfl, f, df, rfl, hi, fun H1 s1 => ⟨_, rfl, ?_⟩⟩
  have bad : floorOk df = false → ∀ e, H1 e = none → E (.ref (He.ga K "BadFloor")) (some e) (upd H1 e (.xd [("floor", f)])) := fun c e he => e1 c _ e s1 he
  cases hi with
  | int i =>
    refine iteF ⟨_, rfl, _, _, rfl, rfl, _, rfl, ?_⟩
    by_cases c : i ≤ 0
    · rw [show decide (i > 0) = false from decide_eq_false (by omega)]
      exact iteF (q (decide_eq_true c) _ s1)
    · rw [show decide (i > 0) = true from decide_eq_true (by omega)]
      exact iteT ⟨_, rfl, err_at fun e he => bad (decide_eq_false c) e he⟩
  | _ => exact iteT (iteT ⟨_, rfl, err_at fun e he => bad rfl e he⟩)
abbrev s_Ledger__known_times : Stmt := inClass (top 27) 15
theorem sc_Ledger__known_times : FnScope ["self", "entry"] ["self"] (defScope s_Ledger__known_times) := ⟨rfl, rfl, rfl, by decide +kernel, rfl, by decide +kernel, by decide +kernel⟩
theorem m_known_times (T : Txt K mg) (F : LgF K) (D : DfnM K "Ledger" "_known_times" "Ledger._known_times" s_Ledger__known_times) :
    CalM P w K mg base CX0 1 (He.fAd K ("Ledger", some "_known_times")) ["self"] (spTimes K) := by
  refine D.cal sc_Ledger__known_times (fun _ _ _ _ _ _ us hl => match us, hl with | [_], _ => rfl) (fun vs H Q E' h => ?_) fun cdv A outer s H vs Q E' hr h => ?_
  · obtain ⟨x, ds, es, rfl, _⟩ := h
    rfl
  obtain ⟨x, ds, es, rfl, ⟨dx, a, b, zs, hx, ha, hb, hz⟩, el, q⟩ := h
  refine ⟨_, (pss_one (ps_ret (pe_callB (id := "sorted") (cr_sortedSet rfl) (by rfl) T.sorted (by decide +kernel) (pa_cons (pe_callTy (T := "set") (cr_setI rfl) (by rfl) T.set (by decide +kernel) (pa_cons (pe_lc (own := [("entry", 1)]) (g := gName 1) (tt := tYes) rfl sc_Ledger__known_times.nd (pi_list (pe_fld (pv 0) rfl)) (blkOk_by (N := ["self", "entry"]) (sc := defScope s_Ledger__known_times) (by decide +kernel)) (fun _ _ _ _ _ => (pg_name (i := 1) sc_Ledger__known_times.nd rfl (by first | exact Or.inl rfl | exact Or.inr rfl))) (fun _ _ _ _ _ => pts_nil) (fun _ _ _ _ _ => (pe_ix (ix_tupK K rfl) (pv 1) pe_int (fun _ _ => rfl)))) pa_nil)) pa_nil)))), ?_⟩
  have hl : zs.length = es.length := Paired.length hz
  refine ⟨_, rfl, x, _, dx, _, _, rfl, hx, F.cl, F.nE, rfl, b, rfl, ⟨zs, SqL.of hb⟩, fun D hD => lc_pure walk_list (At := fun i x => zs[i]? = some x) (fun _ _ _ _ y => y) (es.map fun e => V.int e.1) (by rw [List.length_map, hl]) (sz (m := 60) (by omega)) hD (fun H' s' => SqL.of (s' _ _ hb)) (fun i u y H2 R hi hu hy s2 kk => ?_) (fun H2 s2 h2 => ?_)⟩
  · rw [List.getElem?_map] at hy
    obtain ⟨e, he, rfl⟩ := Option.map_eq_some_iff.mp hy
    obtain ⟨t, p, rfl, h1, h2⟩ := Paired.at2 hz hu he
    exact ⟨_, rfl, t, _, _, _, rfl, rfl, SqT.of (s2 _ _ h1), at_nat (i := 0) rfl, kk _ (Same.refl _)⟩
  · refine ⟨D, es.map (·.1), rfl, SqL.of (by rw [h2, List.map_map]; rfl), by rw [List.length_map]; omega, fun p n hp hn => ?_⟩
    have s3 := Same.up (o := SetO w p (fun j => decide (j ∈ es.map (·.1))) n) hp
    refine ⟨p, _, n, rfl, upd_same, by rw [List.length_map] at hn; omega, fun ns p' up mem len hp' => ?_⟩
    exact q _ p' ns (s2.trans (s3.trans (Same.up hp'))) ((s2.trans s3).free hp') upd_same ⟨up, fun k => (mem k).trans decide_eq_true_iff, by rw [len]; exact hn⟩
end
end K28

set_option Elab.async false
set_option linter.all false
set_option maxRecDepth 100000
set_option maxHeartbeats 4000000
namespace K28
open PySem PySem.Spec PyProof.Rows L2 Sr
theorem m0_ {X : Cx} {k j : Nat} {C f : Addr} {ps : List Str} {sp : Sp} {m : Str} {o : Expr} {ta : TE} {p apos : Pos} {pl : Sem Bool} (M : CalM X.prog X.w X.K X.mg X.base CX0 k f ps sp) (hr : Room j X.A) (hk : k ≤ j) (c : Cls X.K C) (hm : Meth X.K C m f) (he : PE X o ta)
    (ht : eval (.Call (.Attribute o m apos) [] [] p) X.env = (do
      let ov ← eval o X.env
      standAt apos.atName
      let (f, first) ← holding [ov] (getMethod ov m pl)
      callWith p f first (backTo p (starEach [] X.env)) (backToKw p (keywordEach [] X.env))) := by rfl) : PE X (.Call (.Attribute o m apos) [] [] p) (tMeth C m sp [] E0 ta tNil) := by
  obtain ⟨fd, F, kp, hb⟩ := M.ex
  exact pe_meth0 he c hm F (hr.mono hk) hb .nil pass0 ht
/-- an error of the class C is raised, that holds v -/
abbrev Throws (K : PySem.W.Frag) (E : XK) (H : Hp) (C at_ : Str) (v : V) : Prop := ∀ H' e, Same H H' → H' e = none → E (.ref (He.ga K C)) (some e) (upd H' e (.xd [(at_, v)]))
theorem one_bad {d : Dt} {i : Nat} (h : badTm [d] 0 = some i) : timeOk d = false ∧ i = 0 := by
  unfold badTm at h
  cases c : timeOk d with
  | false =>
    rw [c, if_neg (by simp)] at h
    exact ⟨rfl, (Option.some.inj h).symm⟩
  | true =>
    rw [c, if_pos rfl] at h
    cases h
theorem one_ok {d : Dt} (h : badTm [d] 0 = none) : timeOk d = true := by
  unfold badTm at h
  cases c : timeOk d with
  | false =>
    rw [c, if_neg (by simp)] at h
    cases h
  | true => rfl
def Times (es : List Ent) : Prop := ∀ e ∈ es, timeOk (.int e.1) = true ∧ timeOk (.int e.2.1) = true
theorem Times.no {es : List Ent} (t : Times es) {k m : Int} {i : Nat} (h : k ∈ es.map (·.1)) (hm : timeOk (.int m) = true) (c : badTm [.int k, .int m] 0 = some i) : False := by
  obtain ⟨e, me, rfl⟩ := List.mem_map.mp h
  simp [badTm, (t e me).1, hm] at c
theorem Times.no2 {es : List Ent} (t : Times es) {k m : Int} {i : Nat} (h : m ∈ es.map (·.2.1)) (hk : timeOk (.int k) = true) (c : badTm [.int k, .int m] 0 = some i) : False := by
  obtain ⟨e, me, rfl⟩ := List.mem_map.mp h
  simp [badTm, (t e me).2, hk] at c
/-- the steps that f goes over some times -/
def stepsOf (f : Int → Int) : List Int → Int → List (Int × Int)
  | [], _ => []
  | k :: r, b => if f k = b then stepsOf f r (f k) else (k, f k) :: stepsOf f r (f k)
def stepsD (l : List (Int × Int)) : Dt := .lst (l.map fun p => .tup [.int p.1, .int p.2])
theorem steps_is {H : Hp} : ∀ {acc : List V} {l : List (Int × Int)}, Paired (fun y (p : Int × Int) => ∃ q, y = V.ref q ∧ H q = some (.tup [.int p.1, .int p.2])) acc l → IsA H acc (l.map fun p => Dt.tup [.int p.1, .int p.2])
  | _, _, .nil => .nil
  | _, _, .cons ⟨q, e, h⟩ r => by
    rw [e]
    exact .cons (.tup h (.cons (.int _) (.cons (.int _) .nil)) (show (2 : Nat) ≤ 60 by decide)) (steps_is r)
/-- what stands of an account and a thing, known so and valid so -/
def stood (es : List Ent) (p : Str × Str) (k m : Int) : Int := sumEnt p (es.filter (inT k m))
def spSteps (K : PySem.W.Frag) : Sp := fun vs H Q E => ∃ x a t v ds es da dt dv, vs = [.ref x, a, t, v] ∧ LedAt K H x ds es ∧ es.length ≤ 60 ∧ (∀ e ∈ es, Ints isPk e.2.2.2) ∧ Times es ∧ Is H a da ∧ accP da ∧ Is H t dt ∧ Is H v dv ∧
  (accOk da = true → nameOk dt = true → timeOk dv = true → ∀ A B m ns, da = .str A → dt = .str B → dv = .int m → Rise ns (es.map (·.1)) → ∀ H' l, Same H H' → H l = none → Is H' (.ref l) (stepsD (stepsOf (fun k => stood es (A, B) k m) ns 0)) → Q (.ref l) H') ∧
  (accOk da = false → Throws K E H "BadAccount" "account" a) ∧ (accOk da = true → nameOk dt = false → Throws K E H "BadName" "thing" t) ∧ (accOk da = true → nameOk dt = true → timeOk dv = false → Throws K E H "BadTime" "time" v)
section
variable {P : Program} {w : World} {K : PySem.W.Frag} {mg : Str → Option Value} {base : Heap}
abbrev s_Ledger_known_steps : Stmt := inClass (top 27) 9
theorem sc_Ledger_known_steps : FnScope ["self", "account", "thing", "valid", "steps", "before", "known", "amount"] ["self", "account", "thing", "valid"] (defScope s_Ledger_known_steps) := ⟨rfl, rfl, rfl, by decide +kernel, rfl, by decide +kernel, by decide +kernel⟩
theorem m_known_steps (T : Txt K mg) (F : LgF K) (D : DfnM K "Ledger" "known_steps" "Ledger.known_steps" s_Ledger_known_steps) (MK : CalM P w K mg base CX0 1 (He.fAd K ("Ledger", some "_known_times")) ["self"] (spTimes K)) (Nk : Meth K (He.ga K "Ledger") "_known_times" (He.fAd K ("Ledger", some "_known_times")))
    (MB : CalM P w K mg base (L2.CX P w) 4 (He.fAd K ("Ledger", some "balance")) ["self", "account", "thing", "known", "valid"] (spBal2 K inT)) (Nb : Meth K (He.ga K "Ledger") "balance" (He.fAd K ("Ledger", some "balance")))
    (C_check_account : CalE P w K mg base 3 "_check_account" ["account", "thing"] (spChkA K)) (C_check_times : CalE P w K mg base 3 "_check_times" ["times"] (spChkT K)) :
    CalM P w K mg base (L2.CX P w) 6 (He.fAd K ("Ledger", some "known_steps")) ["self", "account", "thing", "valid"] (spSteps K) := by
  refine D.calE sc_Ledger_known_steps (fun _ _ _ _ _ _ us hl => match us, hl with | [_, _, _, _], _ => rfl) (fun vs H Q E' h => ?_) fun cdv A outer s H vs Q E hr h => ?_
  · obtain ⟨x, a, t, v, ds, es, da, dt, dv, rfl, _⟩ := h
    rfl
  obtain ⟨x, a, t, v, ds, es, da, dt, dv, rfl, L, el, ei, tm, ia, fa, it, iv, q, e1, e2, e3⟩ := h
  refine ⟨_, (pss_cons (ps_expr (pe_calE C_check_account hr (by first | decide | omega) (by rfl) (passes_def rfl rfl rfl rfl) (pa_cons (pv 1) (pa_cons (pv 2) pa_nil))))
      (pss_cons (ps_expr (pe_calE C_check_times hr (by first | decide | omega) (by rfl) (passes_def rfl rfl rfl rfl) (pa_cons (pe_lst (pa_cons (pv 3) pa_nil)) pa_nil)))
      (pss_cons (ps_set (i := 4) sc_Ledger_known_steps.nd rfl (by first | exact Or.inl rfl | exact Or.inr rfl) (pe_lst pa_nil))
      (pss_cons (ps_set (i := 5) sc_Ledger_known_steps.nd rfl (by first | exact Or.inl rfl | exact Or.inr rfl) pe_int)
      (pss_cons (ps_for (L2.passes_of rfl) rfl (pi_list (m0_ MK hr (by decide) F.cl Nk (pv 0))) (pg_name (i := 6) sc_Ledger_known_steps.nd rfl (by first | exact Or.inl rfl | exact Or.inr rfl))
      (pss_cons (ps_set (i := 7) sc_Ledger_known_steps.nd rfl (by first | exact Or.inl rfl | exact Or.inr rfl) (mE_ MB hr (by decide) F.cl Nb (passes_def rfl rfl rfl rfl) (pv 0) (pa_cons (pv 1) (pa_cons (pv 2) (pa_cons (pv 6) (pa_cons (pv 3) pa_nil))))))
      (pss_cons (ps_if (pt_cmpR op_ne (pv 7) (pv 5) (nomark _)) (pss_one (ps_expr (pe_bm PySem.F.plainAttrs_list PySem.F.slot_list_append PySem.F.type_list_append mt_append (pv 4) (pa_cons (pe_tup (pa_cons (pv 6) (pa_cons (pv 7) pa_nil))) pa_nil)))) pss_nil)
      (pss_one (ps_set (i := 5) sc_Ledger_known_steps.nd rfl (by first | exact Or.inl rfl | exact Or.inr rfl) (pv 7))))))
      (pss_one (ps_ret (pv 4)))))))), ?_⟩
  refine ⟨_, rfl, _, rfl, a, t, da, dt, rfl, ia, fa, it, fun ca ct H1 s1 => ?_, fun c H' e s he => e1 c H' e s he, fun c c2 H' e s he => e2 c c2 H' e s he⟩
  refine ⟨_, rfl, lineN (n := 1), fun p hp => ⟨p, [v], [dv], rfl, upd_same, .cons (iv.mono (s1.trans (Same.up hp))) .nil, (show (1 : Nat) ≤ 60 by decide), fun cb H2 s2 => ?_, fun i u hb hu H' e s he => ?_⟩⟩
  rotate_left
  · obtain ⟨c3, rfl⟩ := one_bad hb
    cases hu
    exact e3 ca ct c3 H' e (s1.trans ((Same.up hp).trans s)) he
  have c3 := one_ok cb
  obtain ⟨m, rfl⟩ := time_int c3
  obtain ⟨A', rfl⟩ := acc_strP fa ca
  obtain ⟨B', rfl⟩ := name_str ct
  cases iv
  cases ia with
  | str _ za =>
  cases it with
  | str _ zt =>
  have s12 := s1.trans ((Same.up (o := .lst [V.int m]) hp).trans s2)
  refine ⟨lineN (n := 0), fun S hS => ?_⟩
  have s3 := s12.trans (Same.up (o := .lst []) hS)
  have L3 := L.mono s3
  have Lc := L3
  obtain ⟨dx, la, lb, zs, hx, _⟩ := Lc
  refine ⟨_, rfl, x, dx, _, rfl, hx, rfl, x, ds, es, rfl, L3, el, fun H3 l ns s4 hln hl R => ?_⟩
  have nlS : l ≠ S := fun z => by rw [z, upd_same] at hln; cases hln
  have HS : H S = none := s12.free hS
  refine ⟨l, rfl, ⟨_, SqL.of hl⟩, for_it walk_list (fun i σ H' => ∃ b u6 u7 acc done, σ = [some (.ref x), some (.str A'), some (.str B'), some (.int m), some (.ref S), some (.int b), u6, u7] ∧ Same H H' ∧ H' l = some (.lst (ns.map V.int)) ∧ H' S = some (.lst acc) ∧ acc.length ≤ i ∧ Paired (fun y (p : Int × Int) => ∃ q, y = V.ref q ∧ H' q = some (.tup [.int p.1, .int p.2])) acc done ∧ stepsOf (fun k => stood es (A', B') k m) ns 0 = done ++ stepsOf (fun k => stood es (A', B') k m) (ns.drop i) b)
    ⟨0, _, _, [], [], rfl, s3.trans s4, hl, s4 _ _ upd_same, Nat.zero_le _, .nil, rfl⟩ (fun i σ H' hi ⟨_, _, _, _, _, _, _, h, _⟩ => SqL.of h) ?_ ?_⟩
  · rintro i y σ H4 H5 hi ⟨b, u6, u7, acc, done, rfl, s5, hl5, hS5, al, pr, eq⟩ ⟨rfl, hy⟩
    rw [List.getElem?_map] at hy
    obtain ⟨k, hk, rfl⟩ := Option.map_eq_some_iff.mp hy
    have mk := (R.mem k).mp (List.mem_of_getElem? hk)
    have L5 := L.mono s5
    have Lc := L5
    obtain ⟨dx5, _, _, _, hx5, _⟩ := Lc
    refine ⟨_, rfl, x, dx5, _, rfl, hx5, rfl, _, rfl, _, rfl, _, rfl, _, rfl, x, _, _, _, _, ds, es, .str A', .str B', .int k, .int m, rfl, L5, el, ei, .str _ za, fa, .str _ zt, .int _, .int _, fun _ _ _ A1 B1 n1 m1 eA eB en em H6 s6 => ?_, fun c => ?_, fun _ c => ?_, fun _ _ j u c => (tm.no mk c3 c).elim⟩
    rotate_left
    · rw [ca] at c; cases c
    · rw [ct] at c; cases c
    cases eA
    cases eB
    cases en
    cases em
    have ed : ns.drop i = k :: ns.drop (i + 1) := by rw [List.drop_eq_getElem_cons (List.getElem?_eq_some_iff.mp hk).1, (List.getElem?_eq_some_iff.mp hk).2]
    rw [ed] at eq
    refine ⟨_, rfl, _, rfl, rfl, _, rfl, ?_⟩
    have keep6 : ∀ {q : Addr} {p : Int × Int}, H5 q = some (.tup [.int p.1, .int p.2]) → H6 q = some (.tup [.int p.1, .int p.2]) := fun h => s6 _ _ h
    by_cases c : stood es (A', B') k m = b
    · have c' : sumEnt (A', B') (es.filter (inT k m)) = b := c
      rw [show (!decide (V.int (sumEnt (A', B') (es.filter (inT k m))) = V.int b)) = false by rw [c']; simp]
      refine iteF ⟨_, rfl, stood es (A', B') k m, _, _, acc, done, rfl, s5.trans s6, s6 _ _ hl5, s6 _ _ hS5, by omega, Paired.imp' (fun y p ⟨q, h1, h2⟩ => ⟨q, h1, keep6 h2⟩) pr, ?_⟩
      rw [eq]
      show done ++ (if stood es (A', B') k m = b then _ else _) = _
      rw [if_pos c]
    · rw [show (!decide (V.int (sumEnt (A', B') (es.filter (inT k m))) = V.int b)) = true by rw [decide_eq_false (fun z => by injection z with z; exact c z)]; rfl]
      have hS6 := s6 _ _ hS5
      refine iteT ⟨_, rfl, .inl ⟨rfl, _, SqL.of hS6⟩, _, rfl, _, rfl, two_line, fun t ht => ?_⟩
      have st := Same.up (o := .tup [.int k, .int (sumEnt (A', B') (es.filter (inT k m)))]) ht
      have hS7 := st _ _ hS6
      have keep : ∀ {q : Addr} {us : List V}, upd H6 t (.tup [.int k, .int (sumEnt (A', B') (es.filter (inT k m)))]) q = some (.tup us) → upd (upd H6 t (.tup [.int k, .int (sumEnt (A', B') (es.filter (inT k m)))])) S (.lst (acc ++ [.ref t])) q = some (.tup us) := fun h => (upd_ne (ne_of h hS7 (by intro z; cases z))).trans h
      refine ⟨S, acc, _, rfl, rfl, hS7, sz (m := 60) (by have := (List.getElem?_eq_some_iff.mp hk).1; have := R.len; rw [List.length_map] at this; omega), _, rfl, stood es (A', B') k m, _, _, acc ++ [.ref t], done ++ [(k, stood es (A', B') k m)], rfl, Same.set (s5.trans (s6.trans st)) HS, (upd_ne nlS).trans ((s6.trans st) _ _ hl5), upd_same, by rw [List.length_append]; show acc.length + 1 ≤ i + 1; omega, ?_, ?_⟩
      · exact Paired.snoc (F := fun y (p : Int × Int) => ∃ q, y = V.ref q ∧ (upd (upd H6 t (.tup [.int k, .int (sumEnt (A', B') (es.filter (inT k m)))])) S (.lst (acc ++ [.ref t]))) q = some (.tup [.int p.1, .int p.2])) ⟨t, rfl, keep upd_same⟩ (Paired.imp' (fun y p ⟨q, h1, h2⟩ => ⟨q, h1, keep (st _ _ (keep6 h2))⟩) pr)
      · rw [eq, List.append_assoc]
        show done ++ (if stood es (A', B') k m = b then _ else _) = _
        rw [if_neg c]
        rfl
  · rintro σ H4 ⟨b, u6, u7, acc, done, rfl, s5, hl5, hS5, al, pr, eq⟩
    have el' : ns.drop (ns.map V.int).length = [] := by rw [List.length_map]; exact List.drop_length
    rw [el'] at eq
    have eq : stepsOf (fun k => stood es (A', B') k m) ns 0 = done ++ [] := eq
    rw [List.append_nil] at eq
    refine ⟨_, rfl, q ca ct c3 A' B' m ns rfl rfl rfl R H4 S s5 HS ?_⟩
    rw [eq]
    refine .lst hS5 (steps_is pr) ?_
    have := R.len
    rw [List.length_map] at this al
    omega
end
end K28

set_option Elab.async false
set_option linter.all false
set_option maxRecDepth 100000
set_option maxHeartbeats 4000000
namespace K28
open PySem PySem.Spec PyProof.Rows L2 Sr
/-- the ints among some, rising -/
def risen : List Int → List Int
  | [] => []
  | a :: r => (risen r).filter (fun b => decide (b < a)) ++ a :: (risen r).filter fun b => decide (a < b)
theorem risen_mem : ∀ (l : List Int) (k : Int), k ∈ risen l ↔ k ∈ l
  | [], k => Iff.rfl
  | a :: r, k => by
    have ih := risen_mem r k
    show k ∈ (risen r).filter _ ++ a :: (risen r).filter _ ↔ _
    rw [List.mem_append, List.mem_cons, List.mem_cons, List.mem_filter, List.mem_filter, ih]
    simp only [decide_eq_true_eq]
    constructor
    · rintro (⟨h, _⟩ | h | ⟨h, _⟩)
      · exact .inr h
      · exact .inl h
      · exact .inr h
    · rintro (h | h)
      · exact .inr (.inl h)
      · rcases Int.lt_trichotomy k a with c | c | c
        · exact .inl ⟨h, c⟩
        · exact .inr (.inl c)
        · exact .inr (.inr ⟨h, c⟩)
theorem risen_up : ∀ l : List Int, (risen l).Pairwise (· < ·)
  | [] => .nil
  | a :: r => by
    have ih := risen_up r
    show ((risen r).filter _ ++ a :: (risen r).filter _).Pairwise (· < ·)
    refine List.pairwise_append.mpr ⟨ih.filter _, List.pairwise_cons.mpr ⟨fun b m => of_decide_eq_true (List.mem_filter.mp m).2, ih.filter _⟩, fun b mb c mc => ?_⟩
    have h1 : b < a := of_decide_eq_true (List.mem_filter.mp mb).2
    rcases List.mem_cons.mp mc with e | mc
    · rw [e]; exact h1
    · have h2 : a < c := of_decide_eq_true (List.mem_filter.mp mc).2
      omega
theorem Rise.eq {ns l : List Int} (R : Rise ns l) : ns = risen l := rise_uniq R.up (risen_up l) fun k => (R.mem k).trans (risen_mem l k).symm
/-! ### the first time below a floor -/
def vV : Option Int → V
  | none => .non
  | some k => .int k
def below (es : List Ent) (p : Str × Str) (fl n : Int) : Option Int := (risen (es.map (·.2.1))).find? fun m => decide (stood es p n m < fl)
def spBelow (K : PySem.W.Frag) : Sp := fun vs H Q E => ∃ x a t f k ds es da dt df dk, vs = [.ref x, a, t, f, k] ∧ LedAt K H x ds es ∧ es.length ≤ 60 ∧ (∀ e ∈ es, Ints isPk e.2.2.2) ∧ Times es ∧ Is H a da ∧ accP da ∧ Is H t dt ∧ Is H f df ∧ Is H k dk ∧
  (accOk da = true → nameOk dt = true → floorOk df = true → timeOk dk = true → ∀ A B fl n, da = .str A → dt = .str B → df = .int fl → dk = .int n → ∀ H', Same H H' → Q (vV (below es (A, B) fl n)) H') ∧
  (accOk da = false → Throws K E H "BadAccount" "account" a) ∧ (accOk da = true → nameOk dt = false → Throws K E H "BadName" "thing" t) ∧ (accOk da = true → nameOk dt = true → floorOk df = false → Throws K E H "BadFloor" "floor" f) ∧
  (accOk da = true → nameOk dt = true → floorOk df = true → timeOk dk = false → Throws K E H "BadTime" "time" k)
def seen (es : List Ent) (p : Str × Str) (fl : Int) : Option (Int × Int) := (risen (es.map (·.1))).findSome? fun k => (below es p fl k).map fun m => (k, m)
def seenD : Option (Int × Int) → Dt
  | none => .non
  | some p => .tup [.int p.1, .int p.2]
def spSeen (K : PySem.W.Frag) : Sp := fun vs H Q E => ∃ x a t f ds es da dt df, vs = [.ref x, a, t, f] ∧ LedAt K H x ds es ∧ es.length ≤ 60 ∧ (∀ e ∈ es, Ints isPk e.2.2.2) ∧ Times es ∧ Is H a da ∧ accP da ∧ Is H t dt ∧ Is H f df ∧
  (accOk da = true → nameOk dt = true → floorOk df = true → ∀ A B fl, da = .str A → dt = .str B → df = .int fl → ∀ H' y, Same H H' → Is H' y (seenD (seen es (A, B) fl)) → Q y H') ∧
  (accOk da = false → Throws K E H "BadAccount" "account" a) ∧ (accOk da = true → nameOk dt = false → Throws K E H "BadName" "thing" t) ∧ (accOk da = true → nameOk dt = true → floorOk df = false → Throws K E H "BadFloor" "floor" f)
theorem floor_int {d : Dt} (h : floorOk d = true) : ∃ n, d = .int n := by
  cases d with
  | int n => exact ⟨n, rfl⟩
  | _ => cases h
section
variable {P : Program} {w : World} {K : PySem.W.Frag} {mg : Str → Option Value} {base : Heap}
abbrev s_Ledger_first_below : Stmt := inClass (top 27) 11
theorem sc_Ledger_first_below : FnScope ["self", "account", "thing", "floor", "known", "valid", "entry"] ["self", "account", "thing", "floor", "known"] (defScope s_Ledger_first_below) := ⟨rfl, rfl, rfl, by decide +kernel, rfl, by decide +kernel, by decide +kernel⟩
theorem m_first_below (T : Txt K mg) (F : LgF K) (D : DfnM K "Ledger" "first_below" "Ledger.first_below" s_Ledger_first_below)
    (MB : CalM P w K mg base (L2.CX P w) 4 (He.fAd K ("Ledger", some "balance")) ["self", "account", "thing", "known", "valid"] (spBal2 K inT)) (Nb : Meth K (He.ga K "Ledger") "balance" (He.fAd K ("Ledger", some "balance")))
    (C_check_account : CalE P w K mg base 3 "_check_account" ["account", "thing"] (spChkA K)) (C_check_times : CalE P w K mg base 3 "_check_times" ["times"] (spChkT K)) (C_check_floor : CalE P w K mg base 3 "_check_floor" ["floor"] (spChkF K)) :
    CalM P w K mg base (L2.CX P w) 6 (He.fAd K ("Ledger", some "first_below")) ["self", "account", "thing", "floor", "known"] (spBelow K) := by
  refine D.calE sc_Ledger_first_below (fun _ _ _ _ _ _ us hl => match us, hl with | [_, _, _, _, _], _ => rfl) (fun vs H Q E' h => ?_) fun cdv A outer s H vs Q E hr h => ?_
  · obtain ⟨x, a, t, f, k, ds, es, da, dt, df, dk, rfl, _⟩ := h
    rfl
  obtain ⟨x, a, t, f, k, ds, es, da, dt, df, dk, rfl, L, el, ei, tm, ia, fa, it, iF, ik, q, e1, e2, e3, e4⟩ := h
  refine ⟨_, (pss_cons (ps_expr (pe_calE C_check_account hr (by first | decide | omega) (by rfl) (passes_def rfl rfl rfl rfl) (pa_cons (pv 1) (pa_cons (pv 2) pa_nil))))
      (pss_cons (ps_expr (pe_calE C_check_floor hr (by first | decide | omega) (by rfl) (passes_def rfl rfl rfl rfl) (pa_cons (pv 3) pa_nil)))
      (pss_cons (ps_expr (pe_calE C_check_times hr (by first | decide | omega) (by rfl) (passes_def rfl rfl rfl rfl) (pa_cons (pe_lst (pa_cons (pv 4) pa_nil)) pa_nil)))
      (pss_cons (ps_for (L2.passes_of rfl) rfl (pi_list (pe_callB (id := "sorted") (cr_sortedSet rfl) (by rfl) T.sorted (by decide +kernel) (pa_cons (pe_callTy (T := "set") (cr_setI rfl) (by rfl) T.set (by decide +kernel) (pa_cons (pe_lc (own := [("entry", 6)]) (g := gName 6) (tt := tYes) rfl sc_Ledger_first_below.nd (pi_list (pe_fld (pv 0) rfl)) (blkOk_by (N := ["self", "account", "thing", "floor", "known", "valid", "entry"]) (sc := defScope s_Ledger_first_below) (by decide +kernel)) (fun _ _ _ _ _ => (pg_name (i := 6) sc_Ledger_first_below.nd rfl (by first | exact Or.inl rfl | exact Or.inr rfl))) (fun _ _ _ _ _ => pts_nil) (fun _ _ _ _ _ => (pe_ix (ix_tupK K rfl) (pv 6) pe_int (fun _ _ => rfl)))) pa_nil)) pa_nil))) (pg_name (i := 5) sc_Ledger_first_below.nd rfl (by first | exact Or.inl rfl | exact Or.inr rfl))
      (pss_one (ps_if (pt_cmpR op_lt (mE_ MB hr (by decide) F.cl Nb (passes_def rfl rfl rfl rfl) (pv 0) (pa_cons (pv 1) (pa_cons (pv 2) (pa_cons (pv 4) (pa_cons (pv 5) pa_nil))))) (pv 3) (nomark _)) (pss_one (ps_ret (pv 5))) pss_nil)))
      (pss_one (ps_ret pe_non)))))), ?_⟩
  refine ⟨_, rfl, _, rfl, a, t, da, dt, rfl, ia, fa, it, fun ca ct H1 s1 => ?_, fun c H' e s he => e1 c H' e s he, fun c c2 H' e s he => e2 c c2 H' e s he⟩
  refine ⟨_, rfl, f, df, rfl, iF.mono s1, fun cf H2 s2 => ?_, fun c H' e s he => e3 ca ct c H' e (s1.trans s) he⟩
  have s12 := s1.trans s2
  refine ⟨_, rfl, lineN (n := 1), fun p hp => ⟨p, [k], [dk], rfl, upd_same, .cons (ik.mono (s12.trans (Same.up hp))) .nil, (show (1 : Nat) ≤ 60 by decide), fun cb H3 s3 => ?_, fun i u hb hu H' e s he => ?_⟩⟩
  rotate_left
  · obtain ⟨c3, rfl⟩ := one_bad hb
    cases hu
    exact e4 ca ct cf c3 H' e (s12.trans ((Same.up hp).trans s)) he
  have ck := one_ok cb
  obtain ⟨n, rfl⟩ := time_int ck
  obtain ⟨fl, rfl⟩ := floor_int cf
  obtain ⟨A', rfl⟩ := acc_strP fa ca
  obtain ⟨B', rfl⟩ := name_str ct
  cases ik
  cases iF
  cases ia with
  | str _ za =>
  cases it with
  | str _ zt =>
  have s13 := s12.trans ((Same.up (o := .lst [V.int n]) hp).trans s3)
  have L3 := L.mono s13
  obtain ⟨dx, la, lb, zs, hx, hla, hb, hz⟩ := L3
  have hl : zs.length = es.length := Paired.length hz
  refine ⟨_, rfl, x, _, dx, _, _, rfl, hx, F.cl, F.nE, rfl, lb, rfl, ⟨zs, SqL.of hb⟩, fun D hD => lc_pure walk_list (At := fun i x => zs[i]? = some x) (fun _ _ _ _ y => y) (es.map fun e => V.int e.2.1) (by rw [List.length_map, hl]) (sz (m := 60) (by omega)) hD (fun H' s' => SqL.of (s' _ _ hb)) (fun i u y H2 R hi hu hy s2 kk => ?_) (fun H4 s4 h4 => ?_)⟩
  · rw [List.getElem?_map] at hy
    obtain ⟨e, he, rfl⟩ := Option.map_eq_some_iff.mp hy
    obtain ⟨t, p, rfl, h1, h2⟩ := Paired.at2 hz hu he
    exact ⟨_, rfl, t, _, _, _, rfl, rfl, SqT.of (s2 _ _ h1), at_nat (i := 1) rfl, kk _ (Same.refl _)⟩
  refine ⟨D, es.map (·.2.1), rfl, SqL.of (by rw [h4, List.map_map]; rfl), by rw [List.length_map]; omega, fun p c hp hn => ?_⟩
  have s5 := Same.up (o := SetO w p (fun j => decide (j ∈ es.map (·.2.1))) c) hp
  refine ⟨p, _, c, rfl, upd_same, by rw [List.length_map] at hn; omega, fun ns p' up mem len hp' => ?_⟩
  have R : Rise ns (es.map (·.2.1)) := ⟨up, fun k => (mem k).trans decide_eq_true_iff, by rw [len]; exact hn⟩
  have s6 := s13.trans (s4.trans (s5.trans (Same.up (o := .lst (ns.map V.int)) hp')))
  have q' := q ca ct cf ck A' B' fl n rfl rfl rfl rfl
  have bel : below es (A', B') fl n = ns.find? fun m => decide (stood es (A', B') n m < fl) := by
    unfold below
    rw [← R.eq]
  rw [bel] at q'
  refine ⟨p', rfl, ⟨_, SqL.of upd_same⟩, for_it walk_list (fun i σ H' => ∃ u5, σ = [some (.ref x), some (.str A'), some (.str B'), some (.int fl), some (.int n), u5, none] ∧ Same H H' ∧ H' p' = some (.lst (ns.map V.int)) ∧ (ns.find? fun m => decide (stood es (A', B') n m < fl)) = (ns.drop i).find? fun m => decide (stood es (A', B') n m < fl)) ⟨_, rfl, s6, upd_same, rfl⟩ (fun i σ H' hi ⟨_, _, _, h, _⟩ => SqL.of h) ?_ ?_⟩
  · rintro i y σ H5 H6 hi ⟨u5, rfl, s7, hp7, eq⟩ ⟨rfl, hy⟩
    rw [List.getElem?_map] at hy
    obtain ⟨k, hk, rfl⟩ := Option.map_eq_some_iff.mp hy
    have mk := (R.mem k).mp (List.mem_of_getElem? hk)
    have L5 := L.mono s7
    have Lc := L5
    obtain ⟨dx5, _, _, _, hx5, _⟩ := Lc
    refine ⟨_, rfl, x, dx5, _, rfl, hx5, rfl, _, rfl, _, rfl, _, rfl, _, rfl, x, _, _, _, _, ds, es, .str A', .str B', .int n, .int k, rfl, L5, el, ei, .str _ za, fa, .str _ zt, .int _, .int _, fun _ _ _ A1 B1 n1 m1 eA eB en em H8 s8 => ?_, fun c => ?_, fun _ c => ?_, fun _ _ j u c => (tm.no2 mk ck c).elim⟩
    rotate_left
    · rw [ca] at c; cases c
    · rw [ct] at c; cases c
    cases eA
    cases eB
    cases en
    cases em
    have ed : ns.drop i = k :: ns.drop (i + 1) := by rw [List.drop_eq_getElem_cons (List.getElem?_eq_some_iff.mp hk).1, (List.getElem?_eq_some_iff.mp hk).2]
    rw [ed] at eq
    refine ⟨_, rfl, _, _, rfl, rfl, _, rfl, ?_⟩
    by_cases c : stood es (A', B') n k < fl
    · rw [show decide (sumEnt (A', B') (es.filter (inT n k)) < fl) = true from decide_eq_true c]
      rw [List.find?_cons_of_pos (p := fun m => decide (stood es (A', B') n m < fl)) (decide_eq_true c)] at eq
      have q2 := q' H8 (s7.trans s8)
      rw [eq] at q2
      exact iteT ⟨_, rfl, q2⟩
    · rw [show decide (sumEnt (A', B') (es.filter (inT n k)) < fl) = false from decide_eq_false c]
      rw [List.find?_cons_of_neg (p := fun m => decide (stood es (A', B') n m < fl)) (by rw [decide_eq_false c]; simp)] at eq
      exact iteF ⟨_, rfl, s7.trans s8, s8 _ _ hp7, eq⟩
  · rintro σ H5 ⟨u5, rfl, s7, hp7, eq⟩
    have el' : ns.drop (ns.map V.int).length = [] := by rw [List.length_map]; exact List.drop_length
    rw [el'] at eq
    have q2 := q' H5 s7
    rw [eq] at q2
    exact q2
abbrev s_Ledger_seen_below : Stmt := inClass (top 27) 12
theorem sc_Ledger_seen_below : FnScope ["self", "account", "thing", "floor", "known", "valid"] ["self", "account", "thing", "floor"] (defScope s_Ledger_seen_below) := ⟨rfl, rfl, rfl, by decide +kernel, rfl, by decide +kernel, by decide +kernel⟩
theorem m_seen_below (T : Txt K mg) (F : LgF K) (D : DfnM K "Ledger" "seen_below" "Ledger.seen_below" s_Ledger_seen_below) (MK : CalM P w K mg base CX0 1 (He.fAd K ("Ledger", some "_known_times")) ["self"] (spTimes K)) (Nk : Meth K (He.ga K "Ledger") "_known_times" (He.fAd K ("Ledger", some "_known_times")))
    (MF : CalM P w K mg base (L2.CX P w) 6 (He.fAd K ("Ledger", some "first_below")) ["self", "account", "thing", "floor", "known"] (spBelow K)) (Nf : Meth K (He.ga K "Ledger") "first_below" (He.fAd K ("Ledger", some "first_below")))
    (C_check_account : CalE P w K mg base 3 "_check_account" ["account", "thing"] (spChkA K)) (C_check_floor : CalE P w K mg base 3 "_check_floor" ["floor"] (spChkF K)) :
    CalM P w K mg base (L2.CX P w) 7 (He.fAd K ("Ledger", some "seen_below")) ["self", "account", "thing", "floor"] (spSeen K) := by
  refine D.calE sc_Ledger_seen_below (fun _ _ _ _ _ _ us hl => match us, hl with | [_, _, _, _], _ => rfl) (fun vs H Q E' h => ?_) fun cdv A outer s H vs Q E hr h => ?_
  · obtain ⟨x, a, t, f, ds, es, da, dt, df, rfl, _⟩ := h
    rfl
  obtain ⟨x, a, t, f, ds, es, da, dt, df, rfl, L, el, ei, tm, ia, fa, it, iF, q, e1, e2, e3⟩ := h
  refine ⟨_, (pss_cons (ps_expr (pe_calE C_check_account hr (by first | decide | omega) (by rfl) (passes_def rfl rfl rfl rfl) (pa_cons (pv 1) (pa_cons (pv 2) pa_nil))))
      (pss_cons (ps_expr (pe_calE C_check_floor hr (by first | decide | omega) (by rfl) (passes_def rfl rfl rfl rfl) (pa_cons (pv 3) pa_nil)))
      (pss_cons (ps_for (L2.passes_of rfl) rfl (pi_list (m0_ MK hr (by decide) F.cl Nk (pv 0))) (pg_name (i := 4) sc_Ledger_seen_below.nd rfl (by first | exact Or.inl rfl | exact Or.inr rfl))
      (pss_cons (ps_set (i := 5) sc_Ledger_seen_below.nd rfl (by first | exact Or.inl rfl | exact Or.inr rfl) (mE_ MF hr (by decide) F.cl Nf (passes_def rfl rfl rfl rfl) (pv 0) (pa_cons (pv 1) (pa_cons (pv 2) (pa_cons (pv 3) (pa_cons (pv 4) pa_nil))))))
      (pss_one (ps_if (pt_cmpR op_notN (pv 5) pe_non (nomark _)) (pss_one (ps_ret (pe_tup (pa_cons (pv 4) (pa_cons (pv 5) pa_nil))))) pss_nil))))
      (pss_one (ps_ret pe_non))))), ?_⟩
  refine ⟨_, rfl, _, rfl, a, t, da, dt, rfl, ia, fa, it, fun ca ct H1 s1 => ?_, fun c H' e s he => e1 c H' e s he, fun c c2 H' e s he => e2 c c2 H' e s he⟩
  refine ⟨_, rfl, f, df, rfl, iF.mono s1, fun cf H2 s2 => ?_, fun c H' e s he => e3 ca ct c H' e (s1.trans s) he⟩
  have s12 := s1.trans s2
  obtain ⟨fl, rfl⟩ := floor_int cf
  obtain ⟨A', rfl⟩ := acc_strP fa ca
  obtain ⟨B', rfl⟩ := name_str ct
  cases iF
  cases ia with
  | str _ za =>
  cases it with
  | str _ zt =>
  have L3 := L.mono s12
  have Lc := L3
  obtain ⟨dx, la, lb, zs, hx, _⟩ := Lc
  refine ⟨_, rfl, x, dx, _, rfl, hx, rfl, x, ds, es, rfl, L3, el, fun H3 l ns s4 hln hl R => ?_⟩
  have q' := q ca ct cf A' B' fl rfl rfl rfl
  have bel : seen es (A', B') fl = ns.findSome? fun k => (below es (A', B') fl k).map fun m => (k, m) := by
    unfold seen
    rw [← R.eq]
  rw [bel] at q'
  refine ⟨l, rfl, ⟨_, SqL.of hl⟩, for_it walk_list (fun i σ H' => ∃ u4 u5, σ = [some (.ref x), some (.str A'), some (.str B'), some (.int fl), u4, u5] ∧ Same H H' ∧ H' l = some (.lst (ns.map V.int)) ∧ (ns.findSome? fun k => (below es (A', B') fl k).map fun m => (k, m)) = (ns.drop i).findSome? fun k => (below es (A', B') fl k).map fun m => (k, m)) ⟨_, _, rfl, s12.trans s4, hl, rfl⟩ (fun i σ H' hi ⟨_, _, _, _, h, _⟩ => SqL.of h) ?_ ?_⟩
  · rintro i y σ H5 H6 hi ⟨u4, u5, rfl, s7, hp7, eq⟩ ⟨rfl, hy⟩
    rw [List.getElem?_map] at hy
    obtain ⟨k, hk, rfl⟩ := Option.map_eq_some_iff.mp hy
    have mk := (R.mem k).mp (List.mem_of_getElem? hk)
    have ck : timeOk (.int k) = true := by
      obtain ⟨e, me, rfl⟩ := List.mem_map.mp mk
      exact (tm e me).1
    have L5 := L.mono s7
    have Lc := L5
    obtain ⟨dx5, _, _, _, hx5, _⟩ := Lc
    refine ⟨_, rfl, x, dx5, _, rfl, hx5, rfl, _, rfl, _, rfl, _, rfl, _, rfl, x, _, _, _, _, ds, es, .str A', .str B', .int fl, .int k, rfl, L5, el, ei, tm, .str _ za, fa, .str _ zt, .int _, .int _, fun _ _ _ _ A1 B1 f1 n1 eA eB ef en H8 s8 => ?_, fun c => ?_, fun _ c => ?_, fun _ _ c => ?_, fun _ _ _ c => ?_⟩
    rotate_left
    · rw [ca] at c; cases c
    · rw [ct] at c; cases c
    · rw [cf] at c; cases c
    · rw [ck] at c; cases c
    cases eA
    cases eB
    cases ef
    cases en
    have ed : ns.drop i = k :: ns.drop (i + 1) := by rw [List.drop_eq_getElem_cons (List.getElem?_eq_some_iff.mp hk).1, (List.getElem?_eq_some_iff.mp hk).2]
    rw [ed] at eq
    refine ⟨_, rfl, rfl, _, rfl, ?_⟩
    cases hb : below es (A', B') fl k with
    | none =>
      rw [List.findSome?_cons, hb] at eq
      exact iteF ⟨_, _, rfl, s7.trans s8, s8 _ _ hp7, eq⟩
    | some m =>
      rw [List.findSome?_cons, hb] at eq
      refine iteT ⟨_, rfl, _, rfl, two_line, fun t ht => ?_⟩
      have st := Same.up (o := .tup [.int k, .int m]) ht
      have q2 := q' _ (.ref t) (s7.trans (s8.trans st))
      rw [eq] at q2
      exact q2 (.tup upd_same (.cons (.int _) (.cons (.int _) .nil)) (show (2 : Nat) ≤ 60 by decide))
  · rintro σ H5 ⟨u4, u5, rfl, s7, hp7, eq⟩
    have el' : ns.drop (ns.map V.int).length = [] := by rw [List.length_map]; exact List.drop_length
    rw [el'] at eq
    have q2 := q' H5 .non s7
    rw [eq] at q2
    exact q2 .non
end
end K28

set_option Elab.async false
set_option linter.all false
set_option maxRecDepth 100000
set_option maxHeartbeats 4000000
namespace K28
open PySem PySem.Spec PyProof.Rows L2 Sr
theorem three_times {a b c : Dt} (h : badTm [a, b, c] 0 = none) : timeOk a = true ∧ timeOk b = true ∧ timeOk c = true := by
  cases h1 : timeOk a with
  | false => simp [badTm, h1] at h
  | true => cases h2 : timeOk b with
    | false => simp [badTm, h1, h2] at h
    | true => cases h3 : timeOk c with
      | false => simp [badTm, h1, h2, h3] at h
      | true => exact ⟨rfl, rfl, rfl⟩
theorem two_no {a b : Dt} {i : Nat} (ha : timeOk a = true) (hb : timeOk b = true) (c : badTm [a, b] 0 = some i) : False := by simp [badTm, ha, hb] at c
def spRes (K : PySem.W.Frag) : Sp := fun vs H Q E => ∃ x o t v ds es d1 d2 dv, vs = [.ref x, o, t, v] ∧ LedAt K H x ds es ∧ GoodEs es ∧ (∀ n m, (balOf inT n m es).length ≤ 15) ∧ Is H o d1 ∧ Is H t d2 ∧ Is H v dv ∧
  (badTm [d1, d2, dv] 0 = none → ∀ n1 n2 m, d1 = .int n1 → d2 = .int n2 → dv = .int m → ∀ H' d (bs : List (Str × Str)) kvs, Same H H' → H d = none → bs.Nodup → bs.length < 64 → (∀ p, p ∈ bs ↔ p ∈ keysOf (balOf inT n1 m es) ∨ p ∈ keysOf (balOf inT n2 m es)) → H' d = some (.dT kvs) →
    Paired (PairAt H' (balOf inT n1 m es) (balOf inT n2 m es)) kvs (diffK (balOf inT n1 m es) (balOf inT n2 m es) (pSort bs)) → Q (.ref d) H') ∧
  ∀ i u, badTm [d1, d2, dv] 0 = some i → [o, t, v][i]? = some u → Throws K E H "BadTime" "time" u
section
variable {P : Program} {w : World} {K : PySem.W.Frag} {mg : Str → Option Value} {base : Heap}
abbrev s_Ledger_restated : Stmt := inClass (top 27) 10
theorem sc_Ledger_restated : FnScope ["self", "one", "other", "valid"] ["self", "one", "other", "valid"] (defScope s_Ledger_restated) := ⟨rfl, rfl, rfl, by decide +kernel, rfl, by decide +kernel, by decide +kernel⟩
theorem m_restated (T : Txt K mg) (F : LgF K) (D : DfnM K "Ledger" "restated" "Ledger.restated" s_Ledger_restated)
    (MB : CalM P w K mg base (L2.CX P w) 8 (He.fAd K ("Ledger", some "balances")) ["self", "known", "valid"] (spBals K inT)) (Nb : Meth K (He.ga K "Ledger") "balances" (He.fAd K ("Ledger", some "balances")))
    (C_check_times : CalE P w K mg base 3 "_check_times" ["times"] (spChkT K)) (C_unlike : Cal P w K mg base 1 "_unlike" ["before", "after"] (spUnl K)) :
    CalM P w K mg base (L2.CX P w) 9 (He.fAd K ("Ledger", some "restated")) ["self", "one", "other", "valid"] (spRes K) := by
  refine D.calE sc_Ledger_restated (fun _ _ _ _ _ _ us hl => match us, hl with | [_, _, _, _], _ => rfl) (fun vs H Q E' h => ?_) fun cdv A outer s H vs Q E hr h => ?_
  · obtain ⟨x, o, t, v, ds, es, d1, d2, dv, rfl, _⟩ := h
    rfl
  obtain ⟨x, o, t, v, ds, es, d1, d2, dv, rfl, L, g, few, i1, i2, iv, q, e1⟩ := h
  refine ⟨_, (pss_cons (ps_expr (pe_calE C_check_times hr (by first | decide | omega) (by rfl) (passes_def rfl rfl rfl rfl) (pa_cons (pe_lst (pa_cons (pv 1) (pa_cons (pv 2) (pa_cons (pv 3) pa_nil)))) pa_nil)))
      (pss_one (ps_ret (pe_cal C_unlike hr (by first | decide | omega) (by rfl) (pa_cons (mE_ MB hr (by decide) F.cl Nb (passes_def rfl rfl rfl rfl) (pv 0) (pa_cons (pv 1) (pa_cons (pv 3) pa_nil))) (pa_cons (mE_ MB hr (by decide) F.cl Nb (passes_def rfl rfl rfl rfl) (pv 0) (pa_cons (pv 2) (pa_cons (pv 3) pa_nil))) pa_nil)))))), ?_⟩
  refine ⟨_, rfl, _, rfl, _, rfl, lineN (n := 3), fun p hp => ⟨p, [o, t, v], [d1, d2, dv], rfl, upd_same, .cons (i1.mono (Same.up hp)) (.cons (i2.mono (Same.up hp)) (.cons (iv.mono (Same.up hp)) .nil)), (show (3 : Nat) ≤ 60 by decide), fun cb H2 s2 => ?_, fun i u hb hu H' e s he => e1 i u hb hu H' e ((Same.up hp).trans s) he⟩⟩
  have s12 := (Same.up (o := .lst [o, t, v]) hp).trans s2
  obtain ⟨c1, c2, c3⟩ := three_times cb
  obtain ⟨n1, rfl⟩ := time_int c1
  obtain ⟨n2, rfl⟩ := time_int c2
  obtain ⟨m, rfl⟩ := time_int c3
  cases i1
  cases i2
  cases iv
  have L2 := L.mono s12
  have Lc := L2
  obtain ⟨dx, _, _, _, hx, _⟩ := Lc
  refine ⟨_, rfl, x, dx, _, rfl, hx, rfl, _, rfl, _, rfl, x, _, _, ds, es, .int n1, .int m, rfl, L2, g, .int _, .int _, fun _ k1 m1 ek em H3 p3 s3 hp3 hd3 => ?_, fun i u c => (two_no c1 c3 c).elim⟩
  cases ek
  cases em
  have L3 := L2.mono s3
  have Lc := L3
  obtain ⟨dx3, _, _, _, hx3, _⟩ := Lc
  refine ⟨_, rfl, x, dx3, _, rfl, hx3, rfl, _, rfl, _, rfl, x, _, _, ds, es, .int n2, .int m, rfl, L3, g, .int _, .int _, fun _ k2 m2 ek em H4 p4 s4 hp4 hd4 => ?_, fun i u c => (two_no c2 c3 c).elim⟩
  cases ek
  cases em
  have f1 := few n1 m
  have f2 := few n2 m
  exact ⟨p3, p4, _, _, rfl, s4 _ _ hd3, hd4, g.bal inT n1 m, g.bal inT n2 m, by omega, fun H5 d bs kvs s5 hd nd lt mem hk pr => q cb n1 n2 m rfl rfl rfl H5 d bs kvs (s12.trans (s3.trans (s4.trans s5))) (s12.free (s3.free (s4.free hd))) nd lt mem hk pr⟩
end
end K28

set_option Elab.async false
set_option linter.all false
set_option maxRecDepth 100000
set_option maxHeartbeats 4000000
namespace K28
open PySem PySem.Spec PyProof.Rows L2 Sr LamX
/-! ### one key's balance -/
theorem amt_out {kvs : List (List Key × V)} {p : Str × Str} (h : pk p ∉ kvs.map (·.1)) : amt kvs p = 0 := by
  have e : valV kvs (pk p) = none := by
    unfold valV
    rw [List.find?_eq_none.mpr fun kv m z => h (List.mem_map.mpr ⟨kv, m, of_decide_eq_true z⟩)]
    rfl
  unfold amt
  rw [e]
  rfl
theorem tot_row {p : Str × Str} : ∀ {kvs : List (List Key × V)}, (∀ e ∈ kvs, ∃ q n, e = (pk q, V.int n)) → (kvs.map (·.1)).Nodup → tot (fun r : Rw => r.1) (·.2) p (rowsE kvs) = amt kvs p
  | [], _, _ => rfl
  | e :: r, h, nd => by
    obtain ⟨q, n, rfl⟩ := h e List.mem_cons_self
    rw [List.map_cons] at nd
    have n2 := List.nodup_cons.mp nd
    have ih := tot_row (p := p) (kvs := r) (fun x m => h x (List.mem_cons_of_mem _ m)) n2.2
    show (if (unpk (pk q)) = p then n else 0) + tot (fun r : Rw => r.1) (·.2) p (rowsE r) = intOf (((((pk q, V.int n) :: r).find? fun kv => decide (kv.1 = pk p))).map (·.2))
    rw [unpk_pk, ih]
    by_cases c : q = p
    · subst c
      rw [if_pos rfl, amt_out n2.1, List.find?_cons_of_pos (by simp)]
      show n + 0 = n
      omega
    · rw [if_neg c, List.find?_cons_of_neg (by simp; exact fun z => c (pk_inj z))]
      show 0 + amt r p = amt r p
      omega
theorem ints_rows {kvs : List (List Key × V)} (I : Ints isPk kvs) : ∀ e ∈ kvs, ∃ q n, e = (pk q, V.int n) := fun e m => by
  obtain ⟨⟨q, e1, _⟩, n, e2⟩ := I.ent e m
  obtain ⟨a, b⟩ := e
  exact ⟨q, n, by rw [show a = pk q from e1, show b = V.int n from e2]⟩
theorem sum_ent {p : Str × Str} : ∀ {es : List Ent}, (∀ e ∈ es, Ints isPk e.2.2.2) → sumEnt p es = tot (fun r : Rw => r.1) (·.2) p (allRows (es.map fun e : Ent => e.2.2.2))
  | [], _ => rfl
  | e :: r, h => by
    have ih := sum_ent (p := p) (es := r) fun x m => h x (List.mem_cons_of_mem _ m)
    have I := h e List.mem_cons_self
    have e1 : allRows ((e :: r).map fun e : Ent => e.2.2.2) = rowsE e.2.2.2 ++ allRows (r.map fun e : Ent => e.2.2.2) := by simp [allRows]
    rw [e1, tot_app, tot_row (ints_rows I) I.nd, ← ih]
    unfold sumEnt
    rw [List.map_cons, List.sum_cons]
    rfl
theorem amt_tk {kvs : List (List Key × V)} (I : Ints isPk kvs) (p : Str × Str) : amt (tk kvs) p = amt kvs p := by
  by_cases c : p ∈ kept kvs
  · have v := val_of (tk_nodup I) (List.mem_map.mpr ⟨p, c, rfl⟩ : (pk p, V.int (amt kvs p)) ∈ tk kvs)
    have v : valV (tk kvs) (pk p) = some (V.int (amt kvs p)) := v
    show intOf (valV (tk kvs) (pk p)) = _
    rw [v]
    rfl
  · have o : pk p ∉ (tk kvs).map (·.1) := fun m => by
      rw [tk_keys] at m
      obtain ⟨q, mq, e⟩ := List.mem_map.mp m
      exact c (pk_inj e ▸ mq)
    rw [amt_out o]
    by_cases k : p ∈ keysOf kvs
    · by_cases z : amt kvs p = 0
      · exact z.symm
      · exact absurd (List.mem_filter.mpr ⟨(pSort_perm _).mem_iff.mpr k, decide_eq_true z⟩) c
    · refine (amt_out fun m => k ?_).symm
      obtain ⟨e, me, ee⟩ := List.mem_map.mp m
      refine List.mem_map.mpr ⟨e, me, ?_⟩
      rw [ee, unpk_pk]
theorem bal_at {f : Int → Int → Ent → Bool} {n m : Int} {es : List Ent} (D : DrawnEs es) (p : Str × Str) : sumEnt p (es.filter (f n m)) = amt (balOf f n m es) p := by
  have g := rows_good (f := f n m) D
  have e : amt (balOf f n m es) p = amt (sumT (rowsTo (f n m) es)) p := amt_tk (good_ints g) p
  rw [e, amt_tot, sum_ent fun e m => D.g.sm e (List.mem_filter.mp m).1]
  rfl
/-! ### balances may be compared -/
theorem lay_item {r : Rw} (g : good r) : Lay 2 (.tup [.tup [.str r.1.1, .str r.1.2], .int r.2]) := Lay.tup fun e me => by
  simp only [List.mem_cons, List.not_mem_nil, or_false] at me
  rcases me with rfl | rfl
  · refine Lay.tup fun e me => ?_
    simp only [List.mem_cons, List.not_mem_nil, or_false] at me
    rcases me with rfl | rfl
    · exact .str (accs_lay _ g.1)
    · exact .str (thgs_lay _ g.2)
  · exact .int
theorem lay_items {f : Int → Int → Ent → Bool} {n m : Int} {es : List Ent} (D : DrawnEs es) : Lay 3 (.lst (itemsD (rowsE (balOf f n m es)))) := Lay.lst fun e me => by
  obtain ⟨r, mr, rfl⟩ := List.mem_map.mp me
  exact lay_item (kvrow_good (rows_good (f := f n m) D) r mr)
theorem lay_both {n m : Int} {es : List Ent} (D : DrawnEs es) : ∀ d ∈ [Dt.lst (itemsD (rowsE (balOf inT n m es))), .lst (itemsD (rowsE (balOf inB n m es)))], Lay 3 d := fun d md => by
  simp only [List.mem_cons, List.not_mem_nil, or_false] at md
  rcases md with rfl | rfl
  · exact lay_items D
  · exact lay_items D
theorem both_eqv {n m : Int} {es : List Ent} (D : DrawnEs es) : PyData.eqv (toP (.lst [Dt.lst (itemsD (rowsE (balOf inT n m es))), .lst (itemsD (rowsE (balOf inB n m es)))])) (toP (.lst [Dt.lst (itemsD (rowsE (balOf inT n m es))), .lst (itemsD (rowsE (balOf inB n m es)))])) = true :=
  SeqAt.eqv_refl (.list _) (lays (lay_both (n := n) (m := m) D)).2.1
end K28

set_option Elab.async false
set_option linter.all false
set_option maxRecDepth 100000
set_option maxHeartbeats 4000000
namespace K28
open PySem PySem.Spec PyProof.Rows L2 Sr
def spLSteps : Sp := fun vs H Q _ => ∃ le kt A B m ys es, vs = [.ref le, .ref kt, .int m] ∧ H le = some (.lst ys) ∧ Paired (EntAt H) ys es ∧ H kt = some (.tup [.str A, .str B]) ∧ DrawnEs es ∧
  ∀ H' l, Same H H' → Is H' (.ref l) (stepsD (stepsOf (fun k => stood es (A, B) k m) (risen (es.map (·.1))) 0)) → Q (.ref l) H'
def spLBelow : Sp := fun vs H Q _ => ∃ le kt A B fl n ys es, vs = [.ref le, .ref kt, .int fl, .int n] ∧ H le = some (.lst ys) ∧ Paired (EntAt H) ys es ∧ H kt = some (.tup [.str A, .str B]) ∧ DrawnEs es ∧ ∀ H', Same H H' → Q (vV (below es (A, B) fl n)) H'
def spLSeen : Sp := fun vs H Q _ => ∃ le kt A B fl ys es, vs = [.ref le, .ref kt, .int fl] ∧ H le = some (.lst ys) ∧ Paired (EntAt H) ys es ∧ H kt = some (.tup [.str A, .str B]) ∧ DrawnEs es ∧ ∀ H' y, Same H H' → Is H' y (seenD (seen es (A, B) fl)) → Q y H'
section
variable {P : Program} {w : World} {K : PySem.W.Frag} {mg : Str → Option Value} {base : Heap}
abbrev s__law_steps : Stmt := top 48
theorem sc__law_steps : FnScope ["entries", "key", "valid", "known", "found", "last", "amount", "entry"] ["entries", "key", "valid"] (defScope s__law_steps) := ⟨rfl, rfl, rfl, by decide +kernel, rfl, by decide +kernel, by decide +kernel⟩
theorem c__law_steps (T : Txt K mg) (D : Dfn K mg "_law_steps" s__law_steps) (C_law_balances : Cal P w K mg base 1 "_law_balances" ["entries", "known", "valid", "which"] spLBal) : Cal P w K mg base 2 "_law_steps" ["entries", "key", "valid"] spLSteps := by
  refine D.cal sc__law_steps (fun _ _ _ _ _ _ us hl => match us, hl with | [_, _, _], _ => rfl) (fun vs H Q E h => ?_) fun cdv A outer s H vs Q E hr h => ?_
  · obtain ⟨le, kt, A, B, m, ys, es, rfl, _⟩ := h
    rfl
  obtain ⟨le, kt, A', B', m, ys, es, rfl, hle, pr, hkt, DE, q⟩ := h
  have hl : ys.length = es.length := Paired.length pr
  have el := DE.g.len
  refine ⟨_, (pss_cons (ps_par (i := 4) (j := 5) (by rfl) sc__law_steps.nd rfl rfl (by decide) rfl rfl (pa_cons (pe_lst pa_nil) (pa_cons pe_int pa_nil)) (by rfl))
      (pss_cons (ps_for PassesOwn.never rfl (pi_list (pe_callB (id := "sorted") (cr_sortedSet rfl) (by rfl) T.sorted (by decide +kernel) (pa_cons (pe_callTy (T := "set") (cr_setI rfl) (by rfl) T.set (by decide +kernel) (pa_cons (pe_lc (own := [("entry", 7)]) (g := gName 7) (tt := tYes) rfl sc__law_steps.nd (pi_list (pv 0)) (blkOk_by (N := ["entries", "key", "valid", "known", "found", "last", "amount", "entry"]) (sc := defScope s__law_steps) (by decide +kernel)) (fun _ _ _ _ _ => (pg_name (i := 7) sc__law_steps.nd rfl (by first | exact Or.inl rfl | exact Or.inr rfl))) (fun _ _ _ _ _ => pts_nil) (fun _ _ _ _ _ => (pe_ix (ix_tupK K rfl) (pv 7) pe_int (fun _ _ => rfl)))) pa_nil)) pa_nil))) (pg_name (i := 3) sc__law_steps.nd rfl (by first | exact Or.inl rfl | exact Or.inr rfl))
      (pss_cons (ps_set (i := 6) sc__law_steps.nd rfl (by first | exact Or.inl rfl | exact Or.inr rfl) (pe_dget2 (hu_of hr) (pe_cal C_law_balances hr (by first | decide | omega) (by rfl) (pa_cons (pv 0) (pa_cons (pv 3) (pa_cons (pv 2) (pa_cons pe_int pa_nil))))) (pv 1) pe_int ⟨rfl, by rfl, rfl, rfl⟩))
      (pss_cons (ps_if (pt_cmpR op_ne (pv 6) (pv 5) (nomark _)) (pss_one (ps_expr (pe_bm PySem.F.plainAttrs_list PySem.F.slot_list_append PySem.F.type_list_append mt_append (pv 4) (pa_cons (pe_tup (pa_cons (pv 3) (pa_cons (pv 6) pa_nil))) pa_nil)))) pss_nil)
      (pss_one (ps_set (i := 5) sc__law_steps.nd rfl (by first | exact Or.inl rfl | exact Or.inr rfl) (pv 6))))))
      (pss_one (ps_ret (pv 4))))), ?_⟩
  refine ⟨lineN (n := 0), fun S hS => ⟨_, _, rfl, ?_⟩⟩
  have s1 := Same.up (o := .lst []) hS
  refine ⟨_, rfl, le, rfl, ⟨ys, SqL.of (s1 _ _ hle)⟩, fun D hD => lc_pure walk_list (At := fun i x => ys[i]? = some x) (fun _ _ _ _ y => y) (es.map fun e => V.int e.1) (by rw [List.length_map, hl]) (sz (m := 60) (by omega)) hD (fun H' s' => SqL.of (s' _ _ (s1 _ _ hle))) (fun i u y H2 R hi hu hy s2 kk => ?_) (fun H4 s4 h4 => ?_)⟩
  · rw [List.getElem?_map] at hy
    obtain ⟨e, he, rfl⟩ := Option.map_eq_some_iff.mp hy
    obtain ⟨t, p, rfl, h1, h2⟩ := Paired.at2 pr hu he
    exact ⟨_, rfl, t, _, _, _, rfl, rfl, SqT.of ((s1.trans s2) _ _ h1), at_nat (i := 0) rfl, kk _ (Same.refl _)⟩
  refine ⟨D, es.map (·.1), rfl, SqL.of (by rw [h4, List.map_map]; rfl), by rw [List.length_map]; omega, fun p c hp hn => ?_⟩
  have s5 := Same.up (o := SetO w p (fun j => decide (j ∈ es.map (·.1))) c) hp
  refine ⟨p, _, c, rfl, upd_same, by rw [List.length_map] at hn; omega, fun ns l up mem len hl' => ?_⟩
  have R : Rise ns (es.map (·.1)) := ⟨up, fun k => (mem k).trans decide_eq_true_iff, by rw [len]; exact hn⟩
  rw [← R.eq] at q
  have s45 := s4.trans s5
  have s3 := s1.trans (s45.trans (Same.up (o := .lst (ns.map V.int)) hl'))
  have nlS : l ≠ S := fun z => by
    have e := s45 _ _ (upd_same (H := H) (a := S) (o := .lst []))
    have h2 : (upd H4 p (SetO w p (fun j => decide (j ∈ es.map (·.1))) c)) l = none := hl'
    rw [z, e] at h2
    cases h2
  have HS : H S = none := hS
  refine ⟨l, rfl, ⟨_, SqL.of upd_same⟩, for_it walk_list (fun i σ H' => ∃ b u3 u6 acc done, σ = [some (.ref le), some (.ref kt), some (.int m), u3, some (.ref S), some (.int b), u6, none] ∧ Same H H' ∧ H' l = some (.lst (ns.map V.int)) ∧ H' S = some (.lst acc) ∧ acc.length ≤ i ∧ Paired (fun y (p : Int × Int) => ∃ q, y = V.ref q ∧ H' q = some (.tup [.int p.1, .int p.2])) acc done ∧ stepsOf (fun k => stood es (A', B') k m) ns 0 = done ++ stepsOf (fun k => stood es (A', B') k m) (ns.drop i) b)
    ⟨0, _, _, [], [], rfl, s3, upd_same, (upd_ne nlS.symm).trans (s45 _ _ upd_same), Nat.zero_le _, .nil, rfl⟩ (fun i σ H' hi ⟨_, _, _, _, _, _, _, h, _⟩ => SqL.of h) ?_ ?_⟩
  · rintro i y σ H4 H5 hi ⟨b, u3, u6, acc, done, rfl, s5, hl5, hS5, al, pr5, eq⟩ ⟨rfl, hy⟩
    rw [List.getElem?_map] at hy
    obtain ⟨k, hk, rfl⟩ := Option.map_eq_some_iff.mp hy
    refine ⟨_, rfl, _, rfl, _, rfl, le, ys, es, k, m, 1, (fun e => e.2.1), inT, rfl, s5 _ _ hle, Paired.imp' (fun _ _ h => h.mono s5) pr, DE.g, fun e x => rfl, fun e => rfl, fun H6 d s6 hd h6 => ?_⟩
    have I6 : Ints isPk (balOf inT k m es) := bal_ints DE
    refine ⟨d, rfl, .inr ⟨_, .inl h6⟩, _, rfl, _, DGet.t (k := pk (A', B')) h6 ((s5.trans s6) _ _ hkt), ?_⟩
    rw [I6.get]
    have est : intOf (valV (balOf inT k m es) (pk (A', B'))) = stood es (A', B') k m := (bal_at DE (A', B')).symm
    rw [est]
    have ed : ns.drop i = k :: ns.drop (i + 1) := by rw [List.drop_eq_getElem_cons (List.getElem?_eq_some_iff.mp hk).1, (List.getElem?_eq_some_iff.mp hk).2]
    rw [ed] at eq
    have keep6 : ∀ {q : Addr} {p : Int × Int}, H5 q = some (.tup [.int p.1, .int p.2]) → H6 q = some (.tup [.int p.1, .int p.2]) := fun h => s6 _ _ h
    refine ⟨_, rfl, _, rfl, rfl, _, rfl, ?_⟩
    by_cases c : stood es (A', B') k m = b
    · rw [show (!decide (V.int (stood es (A', B') k m) = V.int b)) = false by rw [c]; simp]
      refine iteF ⟨_, rfl, stood es (A', B') k m, _, _, acc, done, rfl, s5.trans s6, s6 _ _ hl5, s6 _ _ hS5, by omega, Paired.imp' (fun y p ⟨q, h1, h2⟩ => ⟨q, h1, keep6 h2⟩) pr5, ?_⟩
      rw [eq]
      show done ++ (if stood es (A', B') k m = b then _ else _) = _
      rw [if_pos c]
    · rw [show (!decide (V.int (stood es (A', B') k m) = V.int b)) = true by rw [decide_eq_false (fun z => by injection z with z; exact c z)]; rfl]
      have hS6 := s6 _ _ hS5
      refine iteT ⟨_, rfl, .inl ⟨rfl, _, SqL.of hS6⟩, _, rfl, _, rfl, two_line, fun t ht => ?_⟩
      have st := Same.up (o := .tup [.int k, .int (stood es (A', B') k m)]) ht
      have hS7 := st _ _ hS6
      have keep : ∀ {q : Addr} {us : List V}, upd H6 t (.tup [.int k, .int (stood es (A', B') k m)]) q = some (.tup us) → upd (upd H6 t (.tup [.int k, .int (stood es (A', B') k m)])) S (.lst (acc ++ [.ref t])) q = some (.tup us) := fun h => (upd_ne (ne_of h hS7 (by intro z; cases z))).trans h
      refine ⟨S, acc, _, rfl, rfl, hS7, sz (m := 60) (by have := (List.getElem?_eq_some_iff.mp hk).1; have := R.len; rw [List.length_map] at this; omega), _, rfl, stood es (A', B') k m, _, _, acc ++ [.ref t], done ++ [(k, stood es (A', B') k m)], rfl, Same.set (s5.trans (s6.trans st)) HS, (upd_ne nlS).trans ((s6.trans st) _ _ hl5), upd_same, by rw [List.length_append]; show acc.length + 1 ≤ i + 1; omega, ?_, ?_⟩
      · exact Paired.snoc (F := fun y (p : Int × Int) => ∃ q, y = V.ref q ∧ (upd (upd H6 t (.tup [.int k, .int (stood es (A', B') k m)])) S (.lst (acc ++ [.ref t]))) q = some (.tup [.int p.1, .int p.2])) ⟨t, rfl, keep upd_same⟩ (Paired.imp' (fun y p ⟨q, h1, h2⟩ => ⟨q, h1, keep (st _ _ (keep6 h2))⟩) pr5)
      · rw [eq, List.append_assoc]
        show done ++ (if stood es (A', B') k m = b then _ else _) = _
        rw [if_neg c]
        rfl
  · rintro σ H4 ⟨b, u3, u6, acc, done, rfl, s5, hl5, hS5, al, pr5, eq⟩
    have el' : ns.drop (ns.map V.int).length = [] := by rw [List.length_map]; exact List.drop_length
    rw [el'] at eq
    have eq : stepsOf (fun k => stood es (A', B') k m) ns 0 = done ++ [] := eq
    rw [List.append_nil] at eq
    refine ⟨_, rfl, q H4 S s5 ?_⟩
    rw [eq]
    refine .lst hS5 (steps_is pr5) ?_
    have := R.len
    rw [List.length_map] at this al
    omega
abbrev s__law_first_below : Stmt := top 49
theorem sc__law_first_below : FnScope ["entries", "key", "floor", "known", "valid", "entry"] ["entries", "key", "floor", "known"] (defScope s__law_first_below) := ⟨rfl, rfl, rfl, by decide +kernel, rfl, by decide +kernel, by decide +kernel⟩
theorem c__law_first_below (T : Txt K mg) (D : Dfn K mg "_law_first_below" s__law_first_below) (C_law_balances : Cal P w K mg base 1 "_law_balances" ["entries", "known", "valid", "which"] spLBal) : Cal P w K mg base 2 "_law_first_below" ["entries", "key", "floor", "known"] spLBelow := by
  refine D.cal sc__law_first_below (fun _ _ _ _ _ _ us hl => match us, hl with | [_, _, _, _], _ => rfl) (fun vs H Q E h => ?_) fun cdv A outer s H vs Q E hr h => ?_
  · obtain ⟨le, kt, A, B, fl, n, ys, es, rfl, _⟩ := h
    rfl
  obtain ⟨le, kt, A', B', fl, n, ys, es, rfl, hle, pr, hkt, DE, q⟩ := h
  have hl : ys.length = es.length := Paired.length pr
  have el := DE.g.len
  refine ⟨_, (pss_cons (ps_for PassesOwn.never rfl (pi_list (pe_callB (id := "sorted") (cr_sortedSet rfl) (by rfl) T.sorted (by decide +kernel) (pa_cons (pe_callTy (T := "set") (cr_setI rfl) (by rfl) T.set (by decide +kernel) (pa_cons (pe_lc (own := [("entry", 5)]) (g := gName 5) (tt := tYes) rfl sc__law_first_below.nd (pi_list (pv 0)) (blkOk_by (N := ["entries", "key", "floor", "known", "valid", "entry"]) (sc := defScope s__law_first_below) (by decide +kernel)) (fun _ _ _ _ _ => (pg_name (i := 5) sc__law_first_below.nd rfl (by first | exact Or.inl rfl | exact Or.inr rfl))) (fun _ _ _ _ _ => pts_nil) (fun _ _ _ _ _ => (pe_ix (ix_tupK K rfl) (pv 5) pe_int (fun _ _ => rfl)))) pa_nil)) pa_nil))) (pg_name (i := 4) sc__law_first_below.nd rfl (by first | exact Or.inl rfl | exact Or.inr rfl))
      (pss_one (ps_if (pt_cmpR op_lt (pe_dget2 (hu_of hr) (pe_cal C_law_balances hr (by first | decide | omega) (by rfl) (pa_cons (pv 0) (pa_cons (pv 3) (pa_cons (pv 4) (pa_cons pe_int pa_nil))))) (pv 1) pe_int ⟨rfl, by rfl, rfl, rfl⟩) (pv 2) (nomark _)) (pss_one (ps_ret (pv 4))) pss_nil)))
      (pss_one (ps_ret pe_non))), ?_⟩
  refine ⟨_, rfl, le, rfl, ⟨ys, SqL.of hle⟩, fun D hD => lc_pure walk_list (At := fun i x => ys[i]? = some x) (fun _ _ _ _ y => y) (es.map fun e => V.int e.2.1) (by rw [List.length_map, hl]) (sz (m := 60) (by omega)) hD (fun H' s' => SqL.of (s' _ _ hle)) (fun i u y H2 R hi hu hy s2 kk => ?_) (fun H4 s4 h4 => ?_)⟩
  · rw [List.getElem?_map] at hy
    obtain ⟨e, he, rfl⟩ := Option.map_eq_some_iff.mp hy
    obtain ⟨t, p, rfl, h1, h2⟩ := Paired.at2 pr hu he
    exact ⟨_, rfl, t, _, _, _, rfl, rfl, SqT.of (s2 _ _ h1), at_nat (i := 1) rfl, kk _ (Same.refl _)⟩
  refine ⟨D, es.map (·.2.1), rfl, SqL.of (by rw [h4, List.map_map]; rfl), by rw [List.length_map]; omega, fun p c hp hn => ?_⟩
  have s5 := Same.up (o := SetO w p (fun j => decide (j ∈ es.map (·.2.1))) c) hp
  refine ⟨p, _, c, rfl, upd_same, by rw [List.length_map] at hn; omega, fun ns l up mem len hl' => ?_⟩
  have R : Rise ns (es.map (·.2.1)) := ⟨up, fun k => (mem k).trans decide_eq_true_iff, by rw [len]; exact hn⟩
  have s3 := s4.trans (s5.trans (Same.up (o := .lst (ns.map V.int)) hl'))
  have bel : below es (A', B') fl n = ns.find? fun m => decide (stood es (A', B') n m < fl) := by
    unfold below
    rw [← R.eq]
  rw [bel] at q
  refine ⟨l, rfl, ⟨_, SqL.of upd_same⟩, for_it walk_list (fun i σ H' => ∃ u4, σ = [some (.ref le), some (.ref kt), some (.int fl), some (.int n), u4, none] ∧ Same H H' ∧ H' l = some (.lst (ns.map V.int)) ∧ (ns.find? fun m => decide (stood es (A', B') n m < fl)) = (ns.drop i).find? fun m => decide (stood es (A', B') n m < fl)) ⟨_, rfl, s3, upd_same, rfl⟩ (fun i σ H' hi ⟨_, _, _, h, _⟩ => SqL.of h) ?_ ?_⟩
  · rintro i y σ H5 H6 hi ⟨u4, rfl, s7, hp7, eq⟩ ⟨rfl, hy⟩
    rw [List.getElem?_map] at hy
    obtain ⟨k, hk, rfl⟩ := Option.map_eq_some_iff.mp hy
    refine ⟨_, rfl, _, rfl, _, rfl, le, ys, es, n, k, 1, (fun e => e.2.1), inT, rfl, s7 _ _ hle, Paired.imp' (fun _ _ h => h.mono s7) pr, DE.g, fun e x => rfl, fun e => rfl, fun H8 d s8 hd h8 => ?_⟩
    have I8 : Ints isPk (balOf inT n k es) := bal_ints DE
    refine ⟨d, rfl, .inr ⟨_, .inl h8⟩, _, rfl, _, DGet.t (k := pk (A', B')) h8 ((s7.trans s8) _ _ hkt), ?_⟩
    rw [I8.get]
    have est : intOf (valV (balOf inT n k es) (pk (A', B'))) = stood es (A', B') n k := (bal_at DE (A', B')).symm
    rw [est]
    have ed : ns.drop i = k :: ns.drop (i + 1) := by rw [List.drop_eq_getElem_cons (List.getElem?_eq_some_iff.mp hk).1, (List.getElem?_eq_some_iff.mp hk).2]
    rw [ed] at eq
    refine ⟨_, rfl, _, _, rfl, rfl, _, rfl, ?_⟩
    by_cases c : stood es (A', B') n k < fl
    · rw [decide_eq_true c]
      rw [List.find?_cons_of_pos (p := fun m => decide (stood es (A', B') n m < fl)) (decide_eq_true c)] at eq
      have q2 := q H8 (s7.trans s8)
      rw [eq] at q2
      exact iteT ⟨_, rfl, q2⟩
    · rw [decide_eq_false c]
      rw [List.find?_cons_of_neg (p := fun m => decide (stood es (A', B') n m < fl)) (by rw [decide_eq_false c]; simp)] at eq
      exact iteF ⟨_, rfl, s7.trans s8, s8 _ _ hp7, eq⟩
  · rintro σ H5 ⟨u4, rfl, s7, hp7, eq⟩
    have el' : ns.drop (ns.map V.int).length = [] := by rw [List.length_map]; exact List.drop_length
    rw [el'] at eq
    have q2 := q H5 s7
    rw [eq] at q2
    exact q2
abbrev s__law_seen_below : Stmt := top 50
theorem sc__law_seen_below : FnScope ["entries", "key", "floor", "known", "valid", "entry"] ["entries", "key", "floor"] (defScope s__law_seen_below) := ⟨rfl, rfl, rfl, by decide +kernel, rfl, by decide +kernel, by decide +kernel⟩
theorem c__law_seen_below (T : Txt K mg) (D : Dfn K mg "_law_seen_below" s__law_seen_below) (C_law_first_below : Cal P w K mg base 2 "_law_first_below" ["entries", "key", "floor", "known"] spLBelow) : Cal P w K mg base 3 "_law_seen_below" ["entries", "key", "floor"] spLSeen := by
  refine D.cal sc__law_seen_below (fun _ _ _ _ _ _ us hl => match us, hl with | [_, _, _], _ => rfl) (fun vs H Q E h => ?_) fun cdv A outer s H vs Q E hr h => ?_
  · obtain ⟨le, kt, A, B, fl, ys, es, rfl, _⟩ := h
    rfl
  obtain ⟨le, kt, A', B', fl, ys, es, rfl, hle, pr, hkt, DE, q⟩ := h
  have hl : ys.length = es.length := Paired.length pr
  have el := DE.g.len
  refine ⟨_, (pss_cons (ps_for PassesOwn.never rfl (pi_list (pe_callB (id := "sorted") (cr_sortedSet rfl) (by rfl) T.sorted (by decide +kernel) (pa_cons (pe_callTy (T := "set") (cr_setI rfl) (by rfl) T.set (by decide +kernel) (pa_cons (pe_lc (own := [("entry", 5)]) (g := gName 5) (tt := tYes) rfl sc__law_seen_below.nd (pi_list (pv 0)) (blkOk_by (N := ["entries", "key", "floor", "known", "valid", "entry"]) (sc := defScope s__law_seen_below) (by decide +kernel)) (fun _ _ _ _ _ => (pg_name (i := 5) sc__law_seen_below.nd rfl (by first | exact Or.inl rfl | exact Or.inr rfl))) (fun _ _ _ _ _ => pts_nil) (fun _ _ _ _ _ => (pe_ix (ix_tupK K rfl) (pv 5) pe_int (fun _ _ => rfl)))) pa_nil)) pa_nil))) (pg_name (i := 3) sc__law_seen_below.nd rfl (by first | exact Or.inl rfl | exact Or.inr rfl))
      (pss_cons (ps_set (i := 4) sc__law_seen_below.nd rfl (by first | exact Or.inl rfl | exact Or.inr rfl) (pe_cal C_law_first_below hr (by first | decide | omega) (by rfl) (pa_cons (pv 0) (pa_cons (pv 1) (pa_cons (pv 2) (pa_cons (pv 3) pa_nil))))))
      (pss_one (ps_if (pt_cmpR op_notN (pv 4) pe_non (nomark _)) (pss_one (ps_ret (pe_tup (pa_cons (pv 3) (pa_cons (pv 4) pa_nil))))) pss_nil))))
      (pss_one (ps_ret pe_non))), ?_⟩
  refine ⟨_, rfl, le, rfl, ⟨ys, SqL.of hle⟩, fun D hD => lc_pure walk_list (At := fun i x => ys[i]? = some x) (fun _ _ _ _ y => y) (es.map fun e => V.int e.1) (by rw [List.length_map, hl]) (sz (m := 60) (by omega)) hD (fun H' s' => SqL.of (s' _ _ hle)) (fun i u y H2 R hi hu hy s2 kk => ?_) (fun H4 s4 h4 => ?_)⟩
  · rw [List.getElem?_map] at hy
    obtain ⟨e, he, rfl⟩ := Option.map_eq_some_iff.mp hy
    obtain ⟨t, p, rfl, h1, h2⟩ := Paired.at2 pr hu he
    exact ⟨_, rfl, t, _, _, _, rfl, rfl, SqT.of (s2 _ _ h1), at_nat (i := 0) rfl, kk _ (Same.refl _)⟩
  refine ⟨D, es.map (·.1), rfl, SqL.of (by rw [h4, List.map_map]; rfl), by rw [List.length_map]; omega, fun p c hp hn => ?_⟩
  have s5 := Same.up (o := SetO w p (fun j => decide (j ∈ es.map (·.1))) c) hp
  refine ⟨p, _, c, rfl, upd_same, by rw [List.length_map] at hn; omega, fun ns l up mem len hl' => ?_⟩
  have R : Rise ns (es.map (·.1)) := ⟨up, fun k => (mem k).trans decide_eq_true_iff, by rw [len]; exact hn⟩
  have s3 := s4.trans (s5.trans (Same.up (o := .lst (ns.map V.int)) hl'))
  have bel : seen es (A', B') fl = ns.findSome? fun k => (below es (A', B') fl k).map fun m => (k, m) := by
    unfold seen
    rw [← R.eq]
  rw [bel] at q
  refine ⟨l, rfl, ⟨_, SqL.of upd_same⟩, for_it walk_list (fun i σ H' => ∃ u3 u4, σ = [some (.ref le), some (.ref kt), some (.int fl), u3, u4, none] ∧ Same H H' ∧ H' l = some (.lst (ns.map V.int)) ∧ (ns.findSome? fun k => (below es (A', B') fl k).map fun m => (k, m)) = (ns.drop i).findSome? fun k => (below es (A', B') fl k).map fun m => (k, m)) ⟨_, _, rfl, s3, upd_same, rfl⟩ (fun i σ H' hi ⟨_, _, _, _, h, _⟩ => SqL.of h) ?_ ?_⟩
  · rintro i y σ H5 H6 hi ⟨u3, u4, rfl, s7, hp7, eq⟩ ⟨rfl, hy⟩
    rw [List.getElem?_map] at hy
    obtain ⟨k, hk, rfl⟩ := Option.map_eq_some_iff.mp hy
    refine ⟨_, rfl, _, rfl, _, rfl, _, rfl, le, kt, A', B', fl, k, ys, es, rfl, s7 _ _ hle, Paired.imp' (fun _ _ h => h.mono s7) pr, s7 _ _ hkt, DE, fun H8 s8 => ?_⟩
    have ed : ns.drop i = k :: ns.drop (i + 1) := by rw [List.drop_eq_getElem_cons (List.getElem?_eq_some_iff.mp hk).1, (List.getElem?_eq_some_iff.mp hk).2]
    rw [ed] at eq
    refine ⟨_, rfl, rfl, _, rfl, ?_⟩
    cases hb : below es (A', B') fl k with
    | none =>
      rw [List.findSome?_cons, hb] at eq
      exact iteF ⟨_, _, rfl, s7.trans s8, s8 _ _ hp7, eq⟩
    | some m =>
      rw [List.findSome?_cons, hb] at eq
      refine iteT ⟨_, rfl, _, rfl, two_line, fun t ht => ?_⟩
      have st := Same.up (o := .tup [.int k, .int m]) ht
      have q2 := q _ (.ref t) (s7.trans (s8.trans st))
      rw [eq] at q2
      exact q2 (.tup upd_same (.cons (.int _) (.cons (.int _) .nil)) (show (2 : Nat) ≤ 60 by decide))
  · rintro σ H5 ⟨u3, u4, rfl, s7, hp7, eq⟩
    have el' : ns.drop (ns.map V.int).length = [] := by rw [List.length_map]; exact List.drop_length
    rw [el'] at eq
    have q2 := q H5 .non s7
    rw [eq] at q2
    exact q2 .non
end
end K28

set_option Elab.async false
set_option linter.all false
set_option maxRecDepth 100000
set_option maxHeartbeats 4000000
namespace K28
open PySem PySem.Spec PyProof.Rows L2 Sr
/-- the keys of two dicts of sums, sorted -/
def uni (ka kb : List (List Key × V)) : List (Str × Str) := pSort (keysOf ka ++ (keysOf kb).filter fun p => decide (p ∉ keysOf ka))
theorem keys_nodup {ka : List (List Key × V)} (I : Ints isPk ka) : (keysOf ka).Nodup := by
  have nd := I.nd
  have e : ka.map (·.1) = (keysOf ka).map pk := by
    unfold keysOf
    rw [List.map_map]
    refine List.map_congr_left fun x m => ?_
    obtain ⟨⟨q, e1, _⟩, _⟩ := I.ent x m
    show x.1 = pk (unpk x.1)
    rw [e1, unpk_pk]
  rw [e] at nd
  exact (List.pairwise_map.mp nd).imp fun h e => h (congrArg pk e)
theorem uni_eq {ka kb : List (List Key × V)} {bs : List (Str × Str)} (IA : Ints isPk ka) (IB : Ints isPk kb) (nd : bs.Nodup) (mem : ∀ p, p ∈ bs ↔ p ∈ keysOf ka ∨ p ∈ keysOf kb) : pSort bs = uni ka kb := by
  refine pSort_eq (same_perm nd ?_ fun p => ?_)
  · refine List.nodup_append.mpr ⟨keys_nodup IA, (keys_nodup IB).filter _, fun a ma b mb e => ?_⟩
    have h := of_decide_eq_true (List.mem_filter.mp mb).2
    rw [← e] at h
    exact h ma
  · rw [mem p, List.mem_append, List.mem_filter, decide_eq_true_eq]
    by_cases c : p ∈ keysOf ka
    · simp [c]
    · simp [c]
def resD (ka kb : List (List Key × V)) : Dt := .lst ((diffK ka kb (uni ka kb)).map fun p => .tup [.tup [.str p.1, .str p.2], .tup [.int (amt ka p), .int (amt kb p)]])
def spLRes : Sp := fun vs H Q _ => ∃ le n1 n2 m ys es, vs = [.ref le, .int n1, .int n2, .int m] ∧ H le = some (.lst ys) ∧ Paired (EntAt H) ys es ∧ DrawnEs es ∧ ∀ H' l, Same H H' → Is H' (.ref l) (resD (balOf inT n1 m es) (balOf inT n2 m es)) → Q (.ref l) H'
theorem res_is {H : Hp} {ka kb : List (List Key × V)} : ∀ {acc : List V} {l : List (Str × Str)}, Paired (fun y (p : Str × Str) => ∃ t q r, y = V.ref t ∧ H t = some (.tup [.ref q, .ref r]) ∧ H q = some (.tup [.str p.1, .str p.2]) ∧ H r = some (.tup [.int (amt ka p), .int (amt kb p)])) acc l → (∀ p ∈ l, small p) →
    IsA H acc (l.map fun p => Dt.tup [.tup [.str p.1, .str p.2], .tup [.int (amt ka p), .int (amt kb p)]])
  | _, _, .nil, _ => .nil
  | _, _, .cons (b := b) ⟨t, q, r, e, h1, h2, h3⟩ z, sm => by
    rw [e]
    have s := sm b List.mem_cons_self
    exact .cons (.tup h1 (.cons (.tup h2 (.cons (.str _ s.1) (.cons (.str _ s.2) .nil)) (show (2 : Nat) ≤ 60 by decide)) (.cons (.tup h3 (.cons (.int _) (.cons (.int _) .nil)) (show (2 : Nat) ≤ 60 by decide)) .nil)) (show (2 : Nat) ≤ 60 by decide)) (res_is z fun p m => sm p (List.mem_cons_of_mem _ m))
section
variable {P : Program} {w : World} {K : PySem.W.Frag} {mg : Str → Option Value} {base : Heap}
abbrev s__law_restated : Stmt := top 51
theorem sc__law_restated : FnScope ["entries", "one", "other", "valid", "keys", "left", "right", "key"] ["entries", "one", "other", "valid"] (defScope s__law_restated) := ⟨rfl, rfl, rfl, by decide +kernel, rfl, by decide +kernel, by decide +kernel⟩
theorem c__law_restated (T : Txt K mg) (D : Dfn K mg "_law_restated" s__law_restated) (C_law_balances : Cal P w K mg base 1 "_law_balances" ["entries", "known", "valid", "which"] spLBal) : Cal P w K mg base 2 "_law_restated" ["entries", "one", "other", "valid"] spLRes := by
  refine D.cal sc__law_restated (fun _ _ _ _ _ _ us hl => match us, hl with | [_, _, _, _], _ => rfl) (fun vs H Q E h => ?_) fun cdv A outer s H vs Q E hr h => ?_
  · obtain ⟨le, n1, n2, m, ys, es, rfl, _⟩ := h
    rfl
  obtain ⟨le, n1, n2, m, ys, es, rfl, hle, pr, DE, q⟩ := h
  refine ⟨_, (pss_cons (ps_asg (pe_tup (pa_cons (pe_cal C_law_balances hr (by first | decide | omega) (by rfl) (pa_cons (pv 0) (pa_cons (pv 1) (pa_cons (pv 3) (pa_cons pe_int pa_nil))))) (pa_cons (pe_cal C_law_balances hr (by first | decide | omega) (by rfl) (pa_cons (pv 0) (pa_cons (pv 2) (pa_cons (pv 3) (pa_cons pe_int pa_nil))))) pa_nil))) (pg_tup rfl (pgs_cons (pg_name (i := 5) sc__law_restated.nd rfl (by first | exact Or.inl rfl | exact Or.inr rfl)) (pgs_cons (pg_name (i := 6) sc__law_restated.nd rfl (by first | exact Or.inl rfl | exact Or.inr rfl)) pgs_nil))))
      (pss_cons (ps_set (i := 4) sc__law_restated.nd rfl (by first | exact Or.inl rfl | exact Or.inr rfl) (pe_sortSet rfl hr.units (by rfl) T.sorted (by rfl) T.set (pe_op op_cat (pe_callTy (T := "list") (call_list_dT rfl) (by rfl) T.list (by decide +kernel) (pa_cons (pv 5) pa_nil)) (pe_callTy (T := "list") (call_list_dT rfl) (by rfl) T.list (by decide +kernel) (pa_cons (pv 6) pa_nil)))))
      (pss_one (ps_ret (pe_lc (own := [("key", 7)]) (g := gName 7) rfl sc__law_restated.nd (pi_list (pv 4)) (blkOk_by (N := ["entries", "one", "other", "valid", "keys", "left", "right", "key"]) (sc := defScope s__law_restated) (by decide +kernel)) (fun _ _ _ _ _ => (pg_name (i := 7) sc__law_restated.nd rfl (by first | exact Or.inl rfl | exact Or.inr rfl))) (fun _ _ _ _ _ => (pts_one (pt_cmpR op_ne (pe_dget2 (hu_of hr) (pv 5) (pv 7) pe_int ⟨rfl, by rfl, rfl, rfl⟩) (pe_dget2 (hu_of hr) (pv 6) (pv 7) pe_int ⟨rfl, by rfl, rfl, rfl⟩) (nomark _)))) (fun _ _ _ _ _ => (pe_tup (pa_cons (pv 7) (pa_cons (pe_tup (pa_cons (pe_dget2 (hu_of hr) (pv 5) (pv 7) pe_int ⟨rfl, by rfl, rfl, rfl⟩) (pa_cons (pe_dget2 (hu_of hr) (pv 6) (pv 7) pe_int ⟨rfl, by rfl, rfl, rfl⟩) pa_nil))) pa_nil))))))))), ?_⟩
  have IT : Ints isPk (balOf inT n1 m es) := bal_ints DE
  have IB : Ints isPk (balOf inT n2 m es) := bal_ints DE
  have lT : (balOf inT n1 m es).length ≤ 15 := bal_len DE
  have lB : (balOf inT n2 m es).length ≤ 15 := bal_len DE
  refine cut_if (fun σ H' => ∃ tr sh, σ = [some (.ref le), some (.int n1), some (.int n2), some (.int m), none, some (.ref tr), some (.ref sh), none] ∧ Same H H' ∧ H' tr = some (.dT (balOf inT n1 m es)) ∧ H' sh = some (.dT (balOf inT n2 m es))) ?_ fun rest => ?_
  rotate_left
  · refine ⟨_, rfl, _, rfl, _, rfl, le, ys, es, n1, m, 1, (fun e => e.2.1), inT, rfl, hle, pr, DE.g, fun e x => rfl, fun e => rfl, fun H1 tr s1 htr h1 => ?_⟩
    refine ⟨_, rfl, _, rfl, _, rfl, le, ys, es, n2, m, 1, (fun e => e.2.1), inT, rfl, s1 _ _ hle, Paired.imp' (fun _ _ h => h.mono s1) pr, DE.g, fun e x => rfl, fun e => rfl, fun H2 sh s2 hsh h2 => ⟨two_line, fun t ht => ?_⟩⟩
    have st := Same.up (o := .tup [.ref tr, .ref sh]) ht
    exact ⟨t, _, rfl, SqT.of upd_same, rfl, _, _, rfl, _, _, rfl, rfl, rest _ _ ⟨tr, sh, rfl, s1.trans (s2.trans st), (s2.trans st) _ _ h1, st _ _ h2⟩⟩
  rintro _ H1 ⟨tr, sh, rfl, s1, htr, hsh⟩
  try dsimp only
  refine ⟨_, rfl, tr, _, rfl, .inl htr, fun p1 bs1 hp1 k1 => ⟨_, rfl, sh, _, rfl, .inl (Same.up hp1 _ _ hsh), fun p2 bs2 hp2 k2 => ?_⟩⟩
  obtain ⟨ks1, f1, g1, e1⟩ := keys_pq k1 IT
  obtain ⟨ks2, f2, g2, e2⟩ := keys_pq k2 IB
  have l1 : bs1.length = (balOf inT n1 m es).length := (Paired.length k1).symm
  have l2 : bs2.length = (balOf inT n2 m es).length := (Paired.length k2).symm
  have sA := Same.up (o := .lst (bs1.map V.ref)) hp1
  have sB := Same.up (o := .lst (bs2.map V.ref)) hp2
  have lk : (ks1 ++ ks2).length < 64 := by
    have h1 := congrArg List.length f1
    have h2 := congrArg List.length f2
    rw [List.length_map, List.length_map] at h1 h2
    rw [List.length_append]
    omega
  refine ⟨p1, p2, _, _, rfl, rfl, sB _ _ upd_same, upd_same, by rw [List.length_map, List.length_map, sizeLine_eq]; omega, fun p3 hp3 => ?_⟩
  have sC := Same.up (o := .lst (bs1.map V.ref ++ bs2.map V.ref)) hp3
  have t3 := sA.trans (sB.trans sC)
  refine ⟨p3, ks1 ++ ks2, rfl, SqL.of (by rw [List.map_append, ← f1, ← f2]; exact upd_same), fun x mx => ?_, lk, fun bs qs p4 nd bl0 mem pr4 hp4 => ?_⟩
  · rcases List.mem_append.mp mx with mx | mx
    · exact t3 _ _ (g1 x mx)
    · exact (sB.trans sC) _ _ (g2 x mx)
  have mem2 : ∀ p, p ∈ bs ↔ p ∈ keysOf (balOf inT n1 m es) ∨ p ∈ keysOf (balOf inT n2 m es) := fun p => by rw [mem p, List.map_append, e1, e2, List.mem_append]
  have eu := uni_eq IT IB nd mem2
  have sD := Same.up (o := .lst (qs.map V.ref)) hp4
  have t4 := t3.trans sD
  have ql : qs.length = (pSort bs).length := Paired.length pr4
  have bl : (pSort bs).length < 64 := by
    rw [(pSort_perm _).length_eq]
    omega
  have bl30 := bs_len lT lB nd mem2
  have smb : ∀ p ∈ pSort bs, small p := fun p mp => by
    rcases (mem2 p).mp ((pSort_perm _).mem_iff.mp mp) with h | h
    · exact keysOf_small IT p h
    · exact keysOf_small IB p h
  refine ⟨_, rfl, p4, rfl, ⟨_, SqL.of upd_same⟩, fun B hB => lc_gen walk_list walk_at (pSort bs) (fun p => decide (amt (balOf inT n1 m es) p ≠ amt (balOf inT n2 m es) p)) (by rw [List.length_map, ql]) (by rw [List.length_map, ql, sizeLine_eq]; omega) hB (fun H' s' => SqL.of (s' _ _ upd_same))
    (fun H' p y => ∃ t q r, y = V.ref t ∧ H' t = some (.tup [.ref q, .ref r]) ∧ H' q = some (.tup [.str p.1, .str p.2]) ∧ H' r = some (.tup [.int (amt (balOf inT n1 m es) p), .int (amt (balOf inT n2 m es) p)])) (fun _ _ _ _ e ⟨t, q, r, e1, e2, e3, e4⟩ => ⟨t, q, r, e1, e _ _ e2, e _ _ e3, e _ _ e4⟩)
    (fun _ _ _ _ _ e ⟨t, q, r, e1, e2, e3, e4⟩ => ⟨t, q, r, e1, by rw [upd_ne (ne_of e2 e (by intro z; cases z))]; exact e2, by rw [upd_ne (ne_of e3 e (by intro z; cases z))]; exact e3, by rw [upd_ne (ne_of e4 e (by intro z; cases z))]; exact e4⟩) (fun j u p H5 A B' hj hu hp s5 kA kB => ?_) (fun H5 acc s5 h5 pr5 => ?_)⟩
  · rw [List.getElem?_map] at hu
    obtain ⟨qa, h1, rfl⟩ := Option.map_eq_some_iff.mp hu
    have h2 : AtP _ qa p := Paired.at2 pr4 h1 hp
    have hq : H5 qa = some (.tup ((pk p).map kV)) := s5 _ _ (sD _ _ h2)
    have ha1 := s5 _ _ (t4 _ _ htr)
    have hb1 := s5 _ _ (t4 _ _ hsh)
    refine ⟨rfl, ?_⟩
    refine ⟨_, rfl, tr, rfl, .inr ⟨_, .inl ha1⟩, _, rfl, _, DGet.t ha1 hq, _, rfl, sh, rfl, .inr ⟨_, .inl hb1⟩, _, rfl, _, DGet.t hb1 hq, ?_⟩
    rw [IT.get, IB.get]
    refine ⟨rfl, _, rfl, ?_⟩
    by_cases c : amt (balOf inT n1 m es) p = amt (balOf inT n2 m es) p
    · have c' : intOf (valV (balOf inT n1 m es) (pk p)) = intOf (valV (balOf inT n2 m es) (pk p)) := c
      rw [show (!decide (V.int (intOf (valV (balOf inT n1 m es) (pk p))) = V.int (intOf (valV (balOf inT n2 m es) (pk p))))) = false by rw [c']; simp]
      dsimp only
      rw [if_neg (by simp)]
      exact kB (decide_eq_false fun z => z c) _ (Same.refl _)
    · rw [show (!decide (V.int (intOf (valV (balOf inT n1 m es) (pk p))) = V.int (intOf (valV (balOf inT n2 m es) (pk p))))) = true by rw [decide_eq_false (fun z => by injection z with z; exact c z)]; rfl]
      dsimp only
      rw [if_pos rfl]
      refine ⟨_, rfl, _, rfl, tr, rfl, .inr ⟨_, .inl ha1⟩, _, rfl, _, DGet.t ha1 hq, _, rfl, sh, rfl, .inr ⟨_, .inl hb1⟩, _, rfl, _, DGet.t hb1 hq, ?_⟩
      rw [IT.get, IB.get]
      refine ⟨two_line, fun r hr => ⟨two_line, fun t ht => kA (decide_eq_true c) _ _ ((Same.up hr).trans (Same.up ht)) ⟨t, qa, r, rfl, upd_same, ((Same.up hr).trans (Same.up ht)) _ _ hq, Same.up ht _ _ upd_same⟩⟩⟩
  · refine q H5 B (s1.trans (t4.trans s5)) ?_
    unfold resD
    rw [← eu]
    have dl : (diffK (balOf inT n1 m es) (balOf inT n2 m es) (pSort bs)).length ≤ (pSort bs).length := List.length_filter_le _ _
    have al : acc.length = (diffK (balOf inT n1 m es) (balOf inT n2 m es) (pSort bs)).length := Paired.length pr5
    have pl := (pSort_perm bs).length_eq
    exact .lst h5 (res_is pr5 fun p mp => smb p (List.mem_filter.mp mp).1) (by omega)
end
end K28

set_option Elab.async false
set_option linter.all false
set_option maxRecDepth 100000
set_option maxHeartbeats 4000000
namespace K28
open PySem PySem.Spec PyProof.Rows L2 Sr LamX
mutual
/-- data of tuples alone -/
def tupsD : Dt → Bool
  | .tup l => tupsDs l
  | .lst _ => false
  | .dic => false
  | _ => true
def tupsDs : List Dt → Bool
  | [] => true
  | d :: r => tupsD d && tupsDs r
end
mutual
theorem tups_keep {H H' : Hp} (e : ∀ c vs, H c = some (.tup vs) → H' c = some (.tup vs)) : ∀ {v : V} {d : Dt}, Is H v d → tupsD d = true → Is H' v d
  | _, _, .non, _ => .non
  | _, _, .bl b, _ => .bl b
  | _, _, .int i, _ => .int i
  | _, _, .str s z, _ => .str s z
  | _, _, .tup h r z, t => .tup (e _ _ h) (tups_keeps e r (by unfold tupsD at t; exact t)) z
  | _, _, .lst h r z, t => by unfold tupsD at t; cases t
  | _, _, .dic h, t => by unfold tupsD at t; cases t
theorem tups_keeps {H H' : Hp} (e : ∀ c vs, H c = some (.tup vs) → H' c = some (.tup vs)) : ∀ {vs : List V} {ds : List Dt}, IsA H vs ds → tupsDs ds = true → IsA H' vs ds
  | _, _, .nil, _ => .nil
  | _, _, .cons h r, t => by
    unfold tupsDs at t
    have t := Bool.and_eq_true_iff.mp t
    exact .cons (tups_keep e h t.1) (tups_keeps e r t.2)
end
theorem rm_off {H : Hp} {a O : Addr} (hO : H O = none) : Same (rm H a) (off [a, O] H) := fun c o e => by
  have n1 : c ≠ a := fun z => by rw [z, rm_at] at e; cases e
  rw [rm_ne n1] at e
  have n2 : c ≠ O := fun z => by rw [z, hO] at e; cases e
  rw [off_out (by simp [n1, n2])]
  exact e
/-! ### what stands while what was refused is tried -/
theorem ExtN.rm {H H' : Hp} {a : Addr} (e : ExtN H H') : ExtN (Sr.rm H a) (Sr.rm H' a) := fun b u q n => by
  have nb : b ≠ a := fun z => by rw [z, rm_at] at q; cases q
  rw [rm_ne nb] at q ⊢
  exact e _ _ q n
theorem EntAt.ext {H H' : Hp} {y : V} {e : Ent} (x : ExtN H H') (h : EntAt H y e) : EntAt H' y e := by
  obtain ⟨t, p, e1, h1, h2⟩ := h
  exact ⟨t, p, e1, x _ _ h1 (fun _ z => by cases z), x _ _ h2 (fun _ z => by cases z)⟩
theorem LedAt.ext {K : PySem.W.Frag} {H H' : Hp} {x : Addr} {ds : List Dt} {es : List Ent} (e : ExtN H H') (h : LedAt K H x ds es) : LedAt K H' x ds es := by
  obtain ⟨dx, a, b, zs, hx, ha, hb, hz⟩ := h
  exact ⟨dx, a, b, zs, e _ _ hx (fun _ z => by cases z), ha.ext e, e _ _ hb (fun _ z => by cases z), Paired.imp' (fun _ _ h => h.ext e) hz⟩
theorem off_rm {H : Hp} {a O : Addr} : Same (off [a, O] H) (rm H a) := fun c o e => by
  have n : c ∉ [a, O] := fun m => by rw [off_in m] at e; cases e
  rw [off_out n] at e
  rw [rm_ne fun z => n (by rw [z]; simp)]
  exact e
theorem ext_set {M H : Hp} {p : Addr} {o : HO} (e : ExtN M H) (h : ∀ o, M p = some o → ∃ ps, o = .tbl ps) : ExtN M (upd H p o) := fun b u q n => by
  rw [upd_ne fun z => ?_]
  · exact e _ _ q n
  · rw [z] at q
    obtain ⟨ps, hp⟩ := h _ q
    exact n ps hp
end K28

set_option Elab.async false
set_option linter.all false
set_option maxRecDepth 100000
set_option maxHeartbeats 4000000
namespace K28
open PySem PySem.Spec PyProof.Rows L2 Sr LamX
/-- the entries as the law tells them -/
def lents : List Dt → Int → List Ent
  | [], _ => []
  | d :: r, c => if dIs "close" d = true then lents r (dInt 2 d) else (dInt 1 d, dInt 2 d, if dInt 2 d > c then dInt 2 d else c + 1, tk (sumT (rowsOf (dRows d)))) :: lents r c
def deedSh (d : Dt) : Prop := ∃ z w v r, seqOf d = some (.str z :: .int w :: .int v :: r) ∧
  ((isS "close" (.str z) = true ∧ r = []) ∨ (isS "close" (.str z) = false ∧ ∃ (x : Dt) (rs : List Rw), r = [x] ∧ seqOf x = some (rs.map rowTr)))
def spEnts : Sp := fun vs H Q _ => ∃ v d ds, vs = [v] ∧ Is H v d ∧ seqOf d = some ds ∧ (∀ e ∈ ds, deedSh e) ∧ ∀ H' l ys, Same H H' → H l = none → H' l = some (.lst ys) → Paired (EntAt H') ys (lents ds (-1)) → Q (.ref l) H'
/-- the law's entries are the program's -/
theorem lents_eq : ∀ {ds : List Dt} {c : Int}, (∀ d ∈ ds, Ints isPk (sumT (rowsOf (dRows d)))) → lents ds c = ents ds c
  | [], _, _ => rfl
  | d :: r, c, h => by
    have ih := fun c => lents_eq (ds := r) (c := c) fun e m => h e (List.mem_cons_of_mem _ m)
    show (if dIs "close" d = true then lents r (dInt 2 d) else _ :: lents r c) = if dIs "close" d = true then ents r (clo d c) else entOf d c :: ents r (clo d c)
    cases e : dIs "close" d with
    | true =>
      rw [if_pos rfl, if_pos rfl, ih]
      unfold clo
      rw [e, if_pos rfl]
    | false =>
      rw [if_neg (show ¬ (false = true) by simp), if_neg (show ¬ (false = true) by simp), ih]
      have ec : clo d c = c := by unfold clo; rw [e, if_neg (by simp)]
      have eo : entOf d c = (dInt 1 d, dInt 2 d, if c + 1 > dInt 2 d then c + 1 else dInt 2 d, tk (sumT (rowsOf (.tup (toldR d))))) := rfl
      have et : tk (sumT (rowsOf (.tup (toldR d)))) = tk (sumT (rowsOf (dRows d))) := tk_told (h d List.mem_cons_self)
      have eb : (if dInt 2 d > c then dInt 2 d else c + 1) = if c + 1 > dInt 2 d then c + 1 else dInt 2 d := by
        by_cases g : dInt 2 d > c
        · rw [if_pos g, if_neg (by omega)]
        · rw [if_neg g, if_pos (by omega)]
      rw [ec, eo, et, eb]
theorem close_sh {w v : Int} : deedSh (mkClose w v) := ⟨_, w, v, [], rfl, .inl ⟨is_close, rfl⟩⟩
theorem told_rows (kvs : List (List Key × V)) : toldOf kvs = ((kept kvs).map fun p => (p, amt kvs p)).map rowTr := by
  unfold toldOf
  rw [List.map_map]
  rfl
theorem entry_sh {w v : Int} {kvs : List (List Key × V)} : deedSh (mkEntry w v (toldOf kvs)) := ⟨_, w, v, [.tup (toldOf kvs)], rfl, .inr ⟨not_close, _, (kept kvs).map fun p => (p, amt kvs p), rfl, congrArg some (told_rows kvs)⟩⟩
theorem GoodDs.sh {ds : List Dt} {w c : Int} (G : GoodDs ds w c) : ∀ d ∈ ds, deedSh d := G.all (fun _ _ => close_sh) fun _ _ _ _ => entry_sh
theorem GoodDs.ints {ds : List Dt} {w c : Int} (G : GoodDs ds w c) : ∀ d ∈ ds, Ints isPk (sumT (rowsOf (dRows d))) := G.all (fun _ _ => Ints.nil) fun w v rs g => by
  show Ints isPk (sumT (rowsOf (.tup (toldOf (sumT rs)))))
  rw [rows_told]
  refine sumT_ints fun r m => ?_
  obtain ⟨p, mp, rfl⟩ := List.mem_map.mp m
  exact keysOf_small (good_ints g) p (kept_mem mp)
section
variable {P : Program} {w : World} {K : PySem.W.Frag} {mg : Str → Option Value} {base : Heap}
abbrev s__law_entries : Stmt := top 45
theorem sc__law_entries : FnScope ["deeds", "deed", "found", "closed", "booked"] ["deeds"] (defScope s__law_entries) := ⟨rfl, rfl, rfl, by decide +kernel, rfl, by decide +kernel, by decide +kernel⟩
theorem c__law_entries (T : Txt K mg) (D : Dfn K mg "_law_entries" s__law_entries) (C_law_sums : Cal P w K mg base 1 "_law_sums" ["rows"] spSums) :
    Cal P w K mg base 2 "_law_entries" ["deeds"] spEnts := by
  refine D.cal sc__law_entries (fun _ _ _ _ _ _ us hl => match us, hl with | [_], _ => rfl) (fun vs H Q E h => ?_) fun cdv A outer s H vs Q E hr h => ?_
  · obtain ⟨v, d, ds, rfl, _⟩ := h
    rfl
  obtain ⟨v, d, ds, rfl, hv, hsd, hsh, q⟩ := h
  obtain ⟨a, xs, o, rfl, ho, so, ia, zz⟩ := hv.seq hsd
  obtain ⟨J, wJ, put⟩ := seq_walk (K := K) (a := a) so
  refine ⟨_, (pss_cons (ps_par (i := 2) (j := 3) (by rfl) sc__law_entries.nd rfl rfl (by decide) rfl rfl (pa_cons (pe_lst pa_nil) (pa_cons (pe_un un_neg pe_int) pa_nil)) (by rfl))
      (pss_cons (ps_for PassesOwn.never rfl (pi_seq (pv 0)) (pg_name (i := 1) sc__law_entries.nd rfl (by first | exact Or.inl rfl | exact Or.inr rfl))
      (pss_one (ps_if (pt_cmpR op_eq (pe_ix ix_seq (pv 1) pe_int (fun _ _ => rfl)) pe_str (nomark _)) (pss_one (ps_set (i := 3) sc__law_entries.nd rfl (by first | exact Or.inl rfl | exact Or.inr rfl) (pe_ix ix_seq (pv 1) pe_int (fun _ _ => rfl)))) (pss_cons (ps_set (i := 4) sc__law_entries.nd rfl (by first | exact Or.inl rfl | exact Or.inr rfl) (pe_ifExp (pt_cmpR op_gt (pe_ix ix_seq (pv 1) pe_int (fun _ _ => rfl)) (pv 3) (nomark _)) (pe_ix ix_seq (pv 1) pe_int (fun _ _ => rfl)) (pe_op op_add (pv 3) pe_int)))
      (pss_one (ps_expr (pe_bm PySem.F.plainAttrs_list PySem.F.slot_list_append PySem.F.type_list_append mt_append (pv 2) (pa_cons (pe_tup (pa_cons (pe_ix ix_seq (pv 1) pe_int (fun _ _ => rfl)) (pa_cons (pe_ix ix_seq (pv 1) pe_int (fun _ _ => rfl)) (pa_cons (pv 4) (pa_cons (pe_cal C_law_sums hr (by first | decide | omega) (by rfl) (pa_cons (pe_ix ix_seq (pv 1) pe_int (fun _ _ => rfl)) pa_nil)) pa_nil))))) pa_nil))))))))
      (pss_one (ps_ret (pv 2))))), ?_⟩
  refine ⟨lineN, fun f hf => ⟨1, rfl, _, _, rfl, ?_⟩⟩
  refine ⟨_, rfl, a, rfl, put _ _ (Same.up hf _ _ ho) (for_it wJ (fun i σ H' => ∃ u c u4 ys es, σ = [some (.ref a), u, some (.ref f), some (.int c), u4] ∧ Same H (off [f] H') ∧ H' f = some (.lst ys) ∧ Paired (EntAt (off [f] H')) ys es ∧
    lents ds (-1) = es ++ lents (ds.drop i) c ∧ ys.length ≤ i) ⟨_, -1, _, [], [], rfl, ?_, upd_same, .nil, rfl, Nat.le_refl _⟩ (fun i σ H' hi p => ?_) ?_ ?_)⟩
  · rw [off_set (by simp)]
    exact Same.into (Same.refl _) fun c m => by rw [List.mem_singleton.mp m]; exact hf
  · obtain ⟨_, _, _, _, _, _, s', _⟩ := p
    exact off_le _ _ (s' _ _ ho)
  · rintro i x σ H2 H3 hi ⟨u, c, u4, ys, es, rfl, s2, hf2, pr, ee, yl⟩ ⟨rfl, hx⟩
    obtain ⟨dy, ey, iy⟩ := ia.get hx
    have le : Same H H3 := fun b o e => off_le _ _ (s2 b o e)
    have edrop : ds.drop i = dy :: ds.drop (i + 1) := by
      rw [List.drop_eq_getElem_cons (List.getElem?_eq_some_iff.mp ey).1, (List.getElem?_eq_some_iff.mp ey).2]
    obtain ⟨z, w', v', r, es', hcase⟩ := hsh dy (List.mem_of_getElem? ey)
    have d1 : dInt 1 dy = w' := by unfold dInt; rw [es']; rfl
    have d2 : dInt 2 dy = v' := by unfold dInt; rw [es']; rfl
    have d0 : dIs "close" dy = isS "close" (.str z) := by unfold dIs; rw [es']; rfl
    obtain ⟨ya, yxs, yo, rfl, hyo, yso, iy2, yz⟩ := iy.seq es'
    cases iy2 with
    | cons i0 r0 => cases r0 with
      | cons i1 r1 => cases r1 with
        | cons i2 r2 =>
        rename_i xr
        cases i0 with
        | str _ hz =>
        cases i1 with
        | int =>
        cases i2 with
        | int =>
        have any : ∀ {H5 : Hp}, Same H H5 → SqAny K H5 ya (V.str z :: V.int w' :: V.int v' :: xr) := fun s => yso.any (s _ _ hyo)
        have el : lents (dy :: ds.drop (i + 1)) c = if dIs "close" dy = true then lents (ds.drop (i + 1)) (dInt 2 dy) else (dInt 1 dy, dInt 2 dy, if dInt 2 dy > c then dInt 2 dy else c + 1, tk (sumT (rowsOf (dRows dy)))) :: lents (ds.drop (i + 1)) c := rfl
        rw [edrop, el, d0, d1, d2] at ee
        refine ⟨_, rfl, ixS (any le) (u := .str z) (at_nat (i := 0) rfl) ⟨rfl, _, rfl, ?_⟩⟩
        rcases hcase with ⟨c3, rfl⟩ | ⟨c3, rr, rs, rfl, hrs⟩
        · have c3' : decide (V.str z = V.str "close") = true := c3
          rw [c3'] 
          rw [c3, if_pos rfl] at ee
          exact iteT ⟨_, rfl, ixS (any le) (u := .int v') (at_nat (i := 2) rfl) ⟨_, v', _, ys, es, rfl, s2, hf2, pr, ee, Nat.le_succ_of_le yl⟩⟩
        · have c3' : decide (V.str z = V.str "close") = false := c3
          have edr : dRows dy = rr := by unfold dRows; rw [es']; rfl
          rw [c3']
          rw [c3, if_neg (by simp), edr] at ee
          cases r2 with
          | cons i3 rn =>
          cases rn
          rename_i vr
          have err : rowsOf rr = rs := by
            unfold rowsOf
            rw [hrs]
            show (rs.map rowTr).map rowOf = rs
            rw [List.map_map]
            exact (List.map_congr_left fun r _ => rfl).trans (List.map_id rs)
          rw [err] at ee
          refine iteF ⟨_, rfl, ixS (any le) (u := .int v') (at_nat (i := 2) rfl) ⟨_, rfl, _, _, rfl, rfl, _, rfl, ?_⟩⟩
          have nf : ∀ {H4 : Hp} {p : Addr}, Same H3 H4 → H4 p = none → p ∉ [f] := fun {H4 p} s4 hp m => by
            rw [List.mem_singleton.mp m, s4 _ _ hf2] at hp
            cases hp
          rcases Decidable.em (c < v') with c4 | c4
          · rw [decide_eq_true c4]
            rw [if_pos (show v' > c from c4)] at ee
            refine iteT ⟨_, rfl, ixS (any le) (u := .int v') (at_nat (i := 2) rfl) ?_⟩
            refine ⟨_, rfl, .inl ⟨rfl, _, SqL.of hf2⟩, _, rfl, ixS (any le) (u := .int w') (at_nat (i := 1) rfl) ⟨_, rfl, ixS (any le) (u := .int v') (at_nat (i := 2) rfl) ⟨_, rfl, _, rfl, ixS (any le) (u := vr) (at_nat (i := 3) rfl) ⟨vr, rr, rs, rfl, i3.mono le, hrs, fun H4 p s4 hp4 hd4 =>
              ⟨lineN (n := 4), fun t ht => ⟨f, ys, _, rfl, rfl, Same.up ht _ _ (s4 _ _ hf2), sz (m := 60) (by omega), _, c, _, ys ++ [.ref t], es ++ [(w', v', v', tk (sumT rs))], rfl, ?_, upd_same, ?_, ?_, ?_⟩⟩⟩⟩⟩⟩
            · rw [off_set (by simp)]
              exact s2.trans (Same.off (s4.trans (Same.up ht)))
            · rw [off_set (by simp)]
              refine Paired.snoc ⟨t, p, rfl, ?_, ?_⟩ (Paired.imp' (fun _ _ h => h.mono (Same.off (s4.trans (Same.up ht)))) pr)
              · rw [off_out (nf s4 ht)]
                exact upd_same
              · rw [off_out (nf (Same.refl _) hp4)]
                exact Same.up ht _ _ hd4
            · rw [ee, List.append_assoc]
              rfl
            · rw [List.length_append]
              exact Nat.succ_le_succ yl
          · rw [decide_eq_false c4]
            rw [if_neg (show ¬ v' > c from c4)] at ee
            refine iteF ⟨_, rfl, _, _, rfl, rfl, ?_⟩
            refine ⟨_, rfl, .inl ⟨rfl, _, SqL.of hf2⟩, _, rfl, ixS (any le) (u := .int w') (at_nat (i := 1) rfl) ⟨_, rfl, ixS (any le) (u := .int v') (at_nat (i := 2) rfl) ⟨_, rfl, _, rfl, ixS (any le) (u := vr) (at_nat (i := 3) rfl) ⟨vr, rr, rs, rfl, i3.mono le, hrs, fun H4 p s4 hp4 hd4 =>
              ⟨lineN (n := 4), fun t ht => ⟨f, ys, _, rfl, rfl, Same.up ht _ _ (s4 _ _ hf2), sz (m := 60) (by omega), _, c, _, ys ++ [.ref t], es ++ [(w', v', c + 1, tk (sumT rs))], rfl, ?_, upd_same, ?_, ?_, ?_⟩⟩⟩⟩⟩⟩
            · rw [off_set (by simp)]
              exact s2.trans (Same.off (s4.trans (Same.up ht)))
            · rw [off_set (by simp)]
              refine Paired.snoc ⟨t, p, rfl, ?_, ?_⟩ (Paired.imp' (fun _ _ h => h.mono (Same.off (s4.trans (Same.up ht)))) pr)
              · rw [off_out (nf s4 ht)]
                exact upd_same
              · rw [off_out (nf (Same.refl _) hp4)]
                exact Same.up ht _ _ hd4
            · rw [ee, List.append_assoc]
              rfl
            · rw [List.length_append]
              exact Nat.succ_le_succ yl
  · rintro σ H2 ⟨u, c, u4, ys, es, rfl, s2, hf2, pr, ee, yl⟩
    have e0 : ds.drop xs.length = [] := by rw [ia.len]; exact List.drop_length
    rw [e0] at ee
    refine ⟨_, rfl, q H2 f ys (fun b o e => off_le _ _ (s2 b o e)) hf hf2 ?_⟩
    rw [show lents ds (-1) = es from ee.trans (List.append_nil es)]
    exact Paired.imp' (fun _ _ h => h.mono off_le) pr
end
end K28

set_option Elab.async false
set_option linter.all false
set_option maxRecDepth 100000
set_option maxHeartbeats 4000000
namespace K28
open PySem PySem.Spec PyProof.Rows L2 Sr LamX
theorem tups_told (kvs : List (List Key × V)) : tupsDs (toldOf kvs) = true := by
  unfold toldOf
  generalize kept kvs = ks
  induction ks with
  | nil => rfl
  | cons k r ih =>
    show (tupsD (rowTd k _) && tupsDs (r.map _)) = true
    rw [ih]
    rfl
theorem isA_mem {H : Hp} {v : V} : ∀ {vs : List V} {ds : List Dt}, IsA H vs ds → v ∈ vs → ∃ d, d ∈ ds ∧ Is H v d
  | _, _, .nil, m => nomatch m
  | _, _, .cons (d := d) h1 h2, m => by
    rcases List.mem_cons.mp m with rfl | m
    · exact ⟨d, List.mem_cons_self, h1⟩
    · obtain ⟨e, me, he⟩ := isA_mem h2 m
      exact ⟨e, List.mem_cons_of_mem _ me, he⟩
theorem paired_mem {α β : Type} {F : α → β → Prop} {v : α} : ∀ {l : List α} {m : List β}, Paired F l m → v ∈ l → ∃ b, b ∈ m ∧ F v b
  | _, _, .nil, m => nomatch m
  | _, _, .cons (b := b) h1 h2, m => by
    rcases List.mem_cons.mp m with rfl | m
    · exact ⟨b, List.mem_cons_self, h1⟩
    · obtain ⟨e, me, he⟩ := paired_mem h2 m
      exact ⟨e, List.mem_cons_of_mem _ me, he⟩
/-- what is no tuple's reference within a list: the list is none of a ledger's -/
theorem LedAt.off_ {K : PySem.W.Frag} {H H' : Hp} {x p : Addr} {ds : List Dt} {es : List Ent} {vs : List V} {v : V} (h : LedAt K H x ds es) (tp : ∀ d ∈ ds, ∃ l, d = .tup l) (td : tupsDs ds = true) (hp : H p = some (.lst vs)) (mv : v ∈ vs) (nv : ∀ t us, v = .ref t → H t ≠ some (.tup us))
    (he : ∀ c u, c ≠ p → H c = some u → H' c = some u) : LedAt K H' x ds es := by
  obtain ⟨dx, a, b, zs, hx, ha, hb, hz⟩ := h
  cases ha with
  | lst ha ia zl =>
  rename_i ys
  have na : a ≠ p := fun z => by
    rw [z, hp] at ha
    injection ha with ha
    injection ha with ha
    subst ha
    obtain ⟨d, md, hd⟩ := isA_mem ia mv
    obtain ⟨l, rfl⟩ := tp d md
    cases hd with
    | tup ht _ _ => exact nv _ _ rfl ht
  have nb : b ≠ p := fun z => by
    rw [z, hp] at hb
    injection hb with hb
    injection hb with hb
    subst hb
    obtain ⟨e, me, t, q, e1, e2, e3⟩ := paired_mem hz mv
    exact nv _ _ e1 e2
  have ne : ∀ {c : Addr} {u : HO}, H c = some u → (∀ us, u ≠ .lst us) → H' c = some u := fun {c u} e n => he _ _ (fun z => by
    rw [z, hp] at e
    injection e with e
    exact n _ e.symm) e
  refine ⟨dx, a, b, zs, ne hx (fun _ z => by cases z), .lst (he _ _ na ha) (tups_keeps (fun c us e => ne e fun _ z => by cases z) ia td) zl, he _ _ nb hb, Paired.imp' (fun y e ⟨t, q, e1, e2, e3⟩ => ⟨t, q, e1, ne e2 (fun _ z => by cases z), ne e3 (fun _ z => by cases z)⟩) hz⟩
theorem LedAt.set {K : PySem.W.Frag} {H : Hp} {x p : Addr} {ds : List Dt} {es : List Ent} {vs : List V} {v : V} {o : HO} (h : LedAt K H x ds es) (tp : ∀ d ∈ ds, ∃ l, d = .tup l) (td : tupsDs ds = true) (hp : H p = some (.lst vs)) (mv : v ∈ vs) (nv : ∀ t us, v = .ref t → H t ≠ some (.tup us)) : LedAt K (upd H p o) x ds es :=
  h.off_ tp td hp mv nv fun c u n e => by rw [upd_ne n]; exact e
/-- beside the draws' list -/
theorem LedAt.rm {K : PySem.W.Frag} {H : Hp} {x a : Addr} {ds : List Dt} {es : List Ent} (h : LedAt K H x ds es) (tp : ∀ d ∈ ds, ∃ l, d = .tup l) (td : tupsDs ds = true) (hd : DrawsAt H a) : LedAt K (Sr.rm H a) x ds es := by
  obtain ⟨o, ho, i, j, k, rfl⟩ := hd
  exact h.off_ tp td ho (v := .int i) List.mem_cons_self (fun t us z => by cases z) fun c u n e => by rw [rm_ne n]; exact e
theorem GoodDs.tup {ds : List Dt} {w c : Int} (G : GoodDs ds w c) : ∀ d ∈ ds, ∃ l, d = .tup l := G.all (fun _ _ => ⟨_, rfl⟩) fun _ _ _ _ => ⟨_, rfl⟩
theorem tupsDs_all : ∀ {ds : List Dt}, (∀ d ∈ ds, tupsD d = true) → tupsDs ds = true
  | [], _ => by unfold tupsDs; rfl
  | d :: r, h => by
    unfold tupsDs
    rw [h d List.mem_cons_self, tupsDs_all fun e m => h e (List.mem_cons_of_mem _ m)]
    rfl
theorem GoodDs.tups {ds : List Dt} {w c : Int} (G : GoodDs ds w c) : tupsDs ds = true := tupsDs_all (G.all (fun _ _ => by
  unfold mkClose tupsD tupsDs tupsDs tupsDs tupsDs tupsD
  rfl) fun _ _ _ _ => by
  unfold mkEntry tupsD tupsDs tupsDs tupsDs tupsDs tupsDs
  unfold tupsD
  rw [tups_told]
  rfl)

theorem EntAt.rm {H : Hp} {y : V} {e : Ent} {a : Addr} (h : EntAt H y e) (hd : DrawsAt H a) : EntAt (Sr.rm H a) y e := by
  obtain ⟨t, q, e1, e2, e3⟩ := h
  have ne : ∀ {c : Addr} {u : HO}, H c = some u → (∀ us, u ≠ .lst us) → Sr.rm H a c = some u := fun {c u} e n => by
    rw [rm_ne fun z => ?_]
    · exact e
    · obtain ⟨o, ho, i, j, k, rfl⟩ := hd
      rw [z, ho] at e
      injection e with e
      exact n _ e.symm
  exact ⟨t, q, e1, ne e2 (fun _ z => by cases z), ne e3 (fun _ z => by cases z)⟩
end K28

set_option Elab.async false
set_option linter.all false
set_option maxRecDepth 100000
set_option maxHeartbeats 4000000
namespace Sr
open PySem PySem.Spec PyProof.Rows L2 LamX
/-- a lambda handed to a def, several tables about -/
theorem pe_lamT {X : Cx} (T : List (Addr × Str)) (qn : Str) {x a : Str} {st : Stmt} {Ng : List Str} {TT : (XK → Hp → VK → Prop) → Hp → VK → Prop} {k : Nat} {params : Arguments} {body : Expr} {scope : Scope} {t : XK → TE} {c P : Addr} {p lpos pos : Pos} (D : Dfn X.K X.mg x st) (Sg : FnScope Ng [a] (defScope st))
    (hb : ∀ (kV doc pm : Value) (an : Option Addr) (cdv ct : Value) (us : List Value), us.length = [a].length → bindArgs (PySem.W.fnOf x x (defArgs st) (defBody st) (defScope st) .none kV doc pm an cdv ct) ⟨us, []⟩ = pure ([a].zip us))
    (hmT : (P, qn ++ "<lambda>") ∈ T) (hu : ∀ p ∈ T, p.1 = P → p.2 = qn ++ "<lambda>")
    (hG : ∀ cdv : Value, GivesTo X Ng x (defScope st) (He.ga X.K x) cdv (defBody st) a (X.env.qual ++ "<lambda>") TT) (TB : TabB X.base X.mg c P) (hcode : X.env.code = .ref c) (hr : Room (k + 2) X.A)
    (hbody : ∀ (A : Around) (outer : List Env) (s : Shared) (H : Hp) (E : XK) (f c' : Addr), Room k (A.deeper (lamEnv X scope s.heap.objs.size f c')) → PE (lamCx X A outer s H E scope f c') body (t E))
    (hg : Gl X x) (L : LamS X.env.scope scope) (hbind : ∀ (q : Str) (cl : List (Str × Addr)) (pm cv ctv : Value), bindArgs (PySem.W.kla_fn "<lambda>" q params body scope cl pm cv ctv) ⟨[], []⟩ = pure [])
    (hqn : X.env.qual = qn := by rfl) (hdef : defaultsOf params X.env = ([], []) := by rfl) (hNg : Ng[0]? = some a := by rfl) (hva : Vis (defScope st) a := by first | exact Or.inl rfl | exact Or.inr (Or.inl rfl))
    (hdb : (x == ("__debug__" : Str)) = false := by decide) (hd : (a == ("__debug__" : Str)) = false := by decide) (hcd : (a == ("__classdict__" : Str)) = false := by decide) :
    PE X (.Call (.Name x p) [.Lambda params body scope lpos] [] pos) (tLam T TT t) := by
  subst hqn
  obtain ⟨fd, F⟩ := D.fn
  have hB := F.bindsN hb
  obtain ⟨oc, od, dV, kV, doc, pm, an, cdv, ct, osl, rfl, lk, hcg, _, _⟩ := F.ex
  exact pe_lamcall hg D.at_ F.kp lk hcg hB Sg hNg hva (hG cdv) TB hcode hmT hu hr L hdef hbind hbody hdb hd hcd
end Sr

set_option Elab.async false
set_option linter.all false
set_option maxRecDepth 100000
set_option maxHeartbeats 4000000
namespace K28
open PySem PySem.Spec PyProof.Rows L2 Sr LamX
/-! ### what is refused: the class, what it holds it under, the law's word, the thing itself -/
structure Rf where
  C : Str
  at_ : Str
  w : Str
  u : V
def rfA (a : V) : Rf := ⟨"BadAccount", "account", "account", a⟩
def rfN (a : V) : Rf := ⟨"BadName", "thing", "name", a⟩
def rfF (a : V) : Rf := ⟨"BadFloor", "floor", "floor", a⟩
def rfT (a : V) : Rf := ⟨"BadTime", "time", "time", a⟩
/-- the first that fails -/
def fails : List (Bool × Rf) → Option Rf
  | [] => none
  | (b, r) :: l => if b = true then fails l else some r
section
variable {K : PySem.W.Frag} {H : Hp} {Q : VK} {E : XK} {x : Addr} {a t v f o : V} {ds : List Dt} {es : List Ent} {da dt dv df do_ : Dt} {r : Rf}
theorem ref_steps (L : LedAt K H x ds es) (D : DrawnEs es) (tm : Times es) (ia : Is H a da) (pa : accP da) (it : Is H t dt) (iv : Is H v dv) (R : fails [(accOk da, rfA a), (nameOk dt, rfN t), (timeOk dv, rfT v)] = some r) (h : Throws K E H r.C r.at_ r.u) : spSteps K [.ref x, a, t, v] H Q E := by
  refine ⟨x, a, t, v, ds, es, da, dt, dv, rfl, L, D.g.len, D.g.sm, tm, ia, pa, it, iv, fun c1 c2 c3 => ?_, fun c1 => ?_, fun c1 c2 => ?_, fun c1 c2 c3 => ?_⟩
  · simp [fails, c1, c2, c3] at R
  · simp [fails, c1] at R
    subst R
    exact h
  · simp [fails, c1, c2] at R
    subst R
    exact h
  · simp [fails, c1, c2, c3] at R
    subst R
    exact h
theorem ref_below (L : LedAt K H x ds es) (D : DrawnEs es) (tm : Times es) (ia : Is H a da) (pa : accP da) (it : Is H t dt) (iF : Is H f df) (iv : Is H v dv) (R : fails [(accOk da, rfA a), (nameOk dt, rfN t), (floorOk df, rfF f), (timeOk dv, rfT v)] = some r) (h : Throws K E H r.C r.at_ r.u) : spBelow K [.ref x, a, t, f, v] H Q E := by
  refine ⟨x, a, t, f, v, ds, es, da, dt, df, dv, rfl, L, D.g.len, D.g.sm, tm, ia, pa, it, iF, iv, fun c1 c2 c3 c4 => ?_, fun c1 => ?_, fun c1 c2 => ?_, fun c1 c2 c3 => ?_, fun c1 c2 c3 c4 => ?_⟩
  · simp [fails, c1, c2, c3, c4] at R
  · simp [fails, c1] at R
    subst R
    exact h
  · simp [fails, c1, c2] at R
    subst R
    exact h
  · simp [fails, c1, c2, c3] at R
    subst R
    exact h
  · simp [fails, c1, c2, c3, c4] at R
    subst R
    exact h
theorem ref_seen (L : LedAt K H x ds es) (D : DrawnEs es) (tm : Times es) (ia : Is H a da) (pa : accP da) (it : Is H t dt) (iF : Is H f df) (R : fails [(accOk da, rfA a), (nameOk dt, rfN t), (floorOk df, rfF f)] = some r) (h : Throws K E H r.C r.at_ r.u) : spSeen K [.ref x, a, t, f] H Q E := by
  refine ⟨x, a, t, f, ds, es, da, dt, df, rfl, L, D.g.len, D.g.sm, tm, ia, pa, it, iF, fun c1 c2 c3 => ?_, fun c1 => ?_, fun c1 c2 => ?_, fun c1 c2 c3 => ?_⟩
  · simp [fails, c1, c2, c3] at R
  · simp [fails, c1] at R
    subst R
    exact h
  · simp [fails, c1, c2] at R
    subst R
    exact h
  · simp [fails, c1, c2, c3] at R
    subst R
    exact h
theorem ref_res (L : LedAt K H x ds es) (D : DrawnEs es) (i1 : Is H o do_) (i2 : Is H t dt) (iv : Is H v dv) (R : fails [(timeOk do_, rfT o), (timeOk dt, rfT t), (timeOk dv, rfT v)] = some r) (h : Throws K E H r.C r.at_ r.u) : spRes K [.ref x, o, t, v] H Q E := by
  refine ⟨x, o, t, v, ds, es, do_, dt, dv, rfl, L, D.g, fun n m => bal_len D, i1, i2, iv, fun c => ?_, fun i u c hu => ?_⟩
  · obtain ⟨c1, c2, c3⟩ := three_times c
    simp [fails, c1, c2, c3] at R
  · cases c1 : timeOk do_ with
    | false =>
      simp [badTm, c1] at c
      subst c
      simp [fails, c1] at R
      subst R
      cases hu
      exact h
    | true => cases c2 : timeOk dt with
      | false =>
        simp [badTm, c1, c2] at c
        subst c
        simp [fails, c1, c2] at R
        subst R
        cases hu
        exact h
      | true => cases c3 : timeOk dv with
        | false =>
          simp [badTm, c1, c2, c3] at c
          subst c
          simp [fails, c1, c2, c3] at R
          subst R
          cases hu
          exact h
        | true => simp [badTm, c1, c2, c3] at c
end
/-! ### the odd things -/
theorem atoms_get {L : List V} {L' : List Dt} (ia : ∀ H, IsA H L L') {i : Nat} {v : V} (h : L[i]? = some v) : ∃ d ∈ L', ∀ H, Is H v d := by
  obtain ⟨d, hd, _⟩ := (ia fun _ => none).get h
  refine ⟨d, List.mem_of_getElem? hd, fun H => ?_⟩
  obtain ⟨d', hd', hi⟩ := (ia H).get h
  rw [hd] at hd'
  cases hd'
  exact hi
def oddAD : List Dt := [.str "Ann", .non, .int 5, .str "the-bank"]
def oddND : List Dt := [.str "X", .non, .int 5, .str ""]
def oddFD : List Dt := [.int 1, .non, .str "0", .bl false, .int 1000000000]
def oddTD : List Dt := [.int (-1), .non, .str "1", .bl true, .int 1000001, .str "2", .int (-5)]
theorem oddA_ok : ∀ d ∈ oddAD, accOk d = false ∧ accP d := by
  intro d m
  simp only [oddAD, List.mem_cons, List.not_mem_nil, or_false] at m
  rcases m with rfl | rfl | rfl | rfl
  · exact ⟨by decide +kernel, .inl ⟨rfl, by intro z; cases z⟩⟩
  · exact ⟨by decide +kernel, .inl ⟨rfl, by intro z; cases z⟩⟩
  · exact ⟨by decide +kernel, .inl ⟨rfl, by intro z; cases z⟩⟩
  · exact ⟨by decide +kernel, .inl ⟨rfl, by intro z; cases z⟩⟩
theorem oddN_ok : ∀ d ∈ oddND, nameOk d = false := by
  intro d m
  simp only [oddND, List.mem_cons, List.not_mem_nil, or_false] at m
  rcases m with rfl | rfl | rfl | rfl <;> decide +kernel
theorem oddF_ok : ∀ d ∈ oddFD, floorOk d = false := by
  intro d m
  simp only [oddFD, List.mem_cons, List.not_mem_nil, or_false] at m
  rcases m with rfl | rfl | rfl | rfl | rfl <;> rfl
theorem oddT_ok : ∀ d ∈ oddTD, timeOk d = false := by
  intro d m
  simp only [oddTD, List.mem_cons, List.not_mem_nil, or_false] at m
  rcases m with rfl | rfl | rfl | rfl | rfl | rfl | rfl <;> rfl
def atomD : Dt → Bool
  | .lst _ => false
  | .tup _ => false
  | .dic => false
  | _ => true
theorem atom_dep {d : Dt} (h : atomD d = true) (n : Nat) : Dep n d := by
  cases d with
  | non => exact .non _
  | bl b => exact .bl _ _
  | int i => exact .int _ _
  | str s => exact .str _ _
  | _ => cases h
theorem odd_atoms : ∀ d, d ∈ oddAD ∨ d ∈ oddND ∨ d ∈ oddFD ∨ d ∈ oddTD → atomD d = true := by
  intro d m
  simp only [oddAD, oddND, oddFD, oddTD, List.mem_cons, List.not_mem_nil, or_false] at m
  rcases m with (rfl | rfl | rfl | rfl) | (rfl | rfl | rfl | rfl) | (rfl | rfl | rfl | rfl | rfl) | (rfl | rfl | rfl | rfl | rfl | rfl | rfl) <;> rfl
/-! ### the list of what was tried -/
abbrev Tr := Str × V × Dt
def ElAt (H : Hp) (y : V) (p : Tr) : Prop := ∃ q, y = V.ref q ∧ H q = some (.tup [.str p.1, p.2.1])
structure Fe (T : List (Addr × Str)) (M G : Hp) (a f : Addr) (vs : List V) (ps : List Tr) : Prop where
  d : DrawsAt G a
  e : ExtN M (rm G a)
  t : Tabs T G
  at_ : G f = some (.lst vs)
  fa : f ≠ a
  free : ∀ o, M f = some o → ∃ qs, o = .tbl qs
  els : Paired (ElAt G) vs ps
theorem draws_ext {G G1 : Hp} {a : Addr} (d : DrawsAt G a) (e : ExtN G G1) : DrawsAt G1 a := by
  obtain ⟨o, ho, i, j, k, rfl⟩ := d
  exact ⟨_, e _ _ ho (fun _ z => by cases z), i, j, k, rfl⟩
theorem draws_lst {G : Hp} {a q : Addr} {us : List V} (d : DrawsAt G a) (h : G q = some (.tup us)) : q ≠ a := fun z => by
  obtain ⟨o, ho, i, j, k, rfl⟩ := d
  rw [z, ho] at h
  cases h
theorem Fe.first {T : List (Addr × Str)} {M G G1 G2 : Hp} {a f p : Addr} {w : Str} {u : V} {d : Dt} (dr : DrawsAt G a) (e0 : ExtN M (rm G a)) (e : ExtN G G1) (t : Tabs T G1) (s : Same G1 G2) (hp : G2 p = some (.tup [.str w, u])) (hf : G2 f = none) : Fe T M (upd G2 f (.lst [.ref p])) a f [.ref p] [(w, u, d)] := by
  have d2 : DrawsAt G2 a := draws_ext (draws_ext dr e) (.of s)
  have nfa : f ≠ a := fun z => d2.some (by rw [← z]; exact hf)
  have e2 : ExtN M (rm G2 a) := e0.trans ((ExtN.rm e).trans (ExtN.rm (.of s)))
  have fr : ∀ o, M f = some o → ∃ qs, o = .tbl qs := fun o q => by
    cases o with
    | tbl qs => exact ⟨qs, rfl⟩
    | _ =>
      have h := e2 _ _ q (fun _ z => by cases z)
      rw [rm_ne nfa, hf] at h
      cases h
  have su := Same.up (o := .lst [.ref p]) hf
  exact ⟨d2.up su, e2.trans (ExtN.rm (.of su)), Tabs.ext (Tabs.ext t s) su, upd_same, nfa, fr, .cons ⟨p, rfl, su _ _ hp⟩ .nil⟩
theorem Fe.step {T : List (Addr × Str)} {M G G1 G2 : Hp} {a f p : Addr} {vs : List V} {ps : List Tr} {w : Str} {u : V} {d : Dt} (F : Fe T M G a f vs ps) (e : ExtN G G1) (t : Tabs T G1) (s : Same G1 G2) (hp : G2 p = some (.tup [.str w, u])) :
    G2 f = some (.lst vs) ∧ Fe T M (upd G2 f (.lst (vs ++ [.ref p]))) a f (vs ++ [.ref p]) (ps ++ [(w, u, d)]) := by
  have hf : G2 f = some (.lst vs) := s _ _ (e _ _ F.at_ fun _ z => by cases z)
  have d2 : DrawsAt G2 a := draws_ext (draws_ext F.d e) (.of s)
  have e2 : ExtN M (rm G2 a) := F.e.trans ((ExtN.rm e).trans (ExtN.rm (.of s)))
  have keep : ∀ {b : Addr} {xs : List V}, G2 b = some (.tup xs) → (upd G2 f (.lst (vs ++ [.ref p]))) b = some (.tup xs) := fun {b xs} h => by
    rw [upd_ne (ne_of h hf (by intro z; cases z))]
    exact h
  refine ⟨hf, ?_, ?_, Tabs.set (Tabs.ext t s) hf, upd_same, F.fa, F.free, ?_⟩
  · obtain ⟨o, ho, hh⟩ := d2
    exact ⟨o, (upd_ne F.fa.symm).trans ho, hh⟩
  · intro b o q n
    have h := e2 b o q n
    have nb : b ≠ a := fun z => by rw [z, rm_at] at h; cases h
    rw [rm_ne nb] at h ⊢
    rw [upd_ne fun z => ?_]
    · exact h
    · rw [z] at q
      obtain ⟨qs, hq⟩ := F.free _ q
      exact n qs hq
  · refine Paired.snoc (F := ElAt (upd G2 f (.lst (vs ++ [.ref p])))) ⟨p, rfl, keep hp⟩ (Paired.imp' (fun v q ⟨b, e1, e2⟩ => ⟨b, e1, keep (s _ _ (e _ _ e2 fun _ z => by cases z))⟩) F.els)
theorem Fe.grow {T : List (Addr × Str)} {M G G' : Hp} {a f : Addr} {vs : List V} {ps : List Tr} (F : Fe T M G a f vs ps) (s : Same G G') : Fe T M G' a f vs ps :=
  ⟨F.d.up s, F.e.trans (ExtN.rm (.of s)), Tabs.ext F.t s, s _ _ F.at_, F.fa, F.free, Paired.imp' (fun v q ⟨b, e1, e2⟩ => ⟨b, e1, s _ _ e2⟩) F.els⟩
theorem Fe.pick {T : List (Addr × Str)} {M G : Hp} {a f : Addr} {vs : List V} {ps : List Tr} {o : HO} (F : Fe T M G a f vs ps) (ho : DrawsO o) : Fe T M (upd G a o) a f vs ps := by
  have er : rm (upd G a o) a = rm G a := rm_upd
  refine ⟨⟨o, upd_same, ho⟩, er ▸ F.e, ?_, (upd_ne F.fa).trans F.at_, F.fa, F.free, Paired.imp' (fun v q ⟨b, e1, e2⟩ => ⟨b, e1, (upd_ne (draws_lst F.d e2)).trans e2⟩) F.els⟩
  have t2 := Tabs.off F.t F.d
  have sm : Same (rm G a) (upd G a o) := by
    rw [← er]
    exact rm_same
  exact Tabs.ext t2 sm
/-- what was tried, as data -/
def triedD (ps : List Tr) : Dt := .lst (ps.map fun p => .tup [.str p.1, p.2.2])
structure TrOk (ps : List Tr) : Prop where
  is : ∀ p ∈ ps, ∀ H, Is H p.2.1 p.2.2
  w : ∀ p ∈ ps, p.1.length ≤ 1000
  at_ : ∀ p ∈ ps, atomD p.2.2 = true
theorem tried_isA {H : Hp} : ∀ {vs : List V} {ps : List Tr}, Paired (ElAt H) vs ps → TrOk ps → IsA H vs (ps.map fun p => Dt.tup [.str p.1, p.2.2])
  | _, _, .nil, _ => .nil
  | _, _, .cons (b := b) ⟨q, e, h⟩ r, ok => by
    rw [e]
    exact .cons (.tup h (.cons (.str _ (ok.w b List.mem_cons_self)) (.cons (ok.is b List.mem_cons_self H) .nil)) (show (2 : Nat) ≤ 60 by decide)) (tried_isA r ⟨fun p m => ok.is p (List.mem_cons_of_mem _ m), fun p m => ok.w p (List.mem_cons_of_mem _ m), fun p m => ok.at_ p (List.mem_cons_of_mem _ m)⟩)
theorem tried_dep {ps : List Tr} (ok : TrOk ps) : Dep 5 (triedD ps) := .lst 4 _ fun d m => by
  obtain ⟨p, mp, rfl⟩ := List.mem_map.mp m
  refine .tup 3 _ fun e me => ?_
  simp only [List.mem_cons, List.not_mem_nil, or_false] at me
  rcases me with rfl | rfl
  · exact .str _ _
  · exact atom_dep (ok.at_ p mp) _
end K28

set_option Elab.async false
set_option linter.all false
set_option maxRecDepth 100000
set_option maxHeartbeats 4000000
namespace K28
open PySem PySem.Spec PyProof.Rows L2 L2.DX Sr LamX
abbrev Tb (P1 P2 : Addr) : List (Addr × Str) := [(P1, "_law_refused_right" ++ ".<locals>." ++ "<lambda>"), (P2, "_law_each_refused" ++ ".<locals>." ++ "<lambda>")]
/-- a def with lambdas as a Cal: its code object is known -/
theorem calT {P : Program} {w : World} {K : PySem.W.Frag} {mg : Str → Option Value} {base : Heap} {x : Str} {st : Stmt} {N ps : List Str} {k : Nat} {sp : Sp} (D : Dfn K mg x st) (S : FnScope N ps (defScope st))
    (hb : ∀ (kV doc pm : Value) (an : Option Addr) (cdv ct : Value) (us : List Value), us.length = ps.length → bindArgs (PySem.W.fnOf x x (defArgs st) (defBody st) (defScope st) .none kV doc pm an cdv ct) ⟨us, []⟩ = pure (ps.zip us))
    (len : ∀ vs H Q E, sp vs H Q E → vs.length = ps.length)
    (hbody : ∀ (A : Around) (outer : List Env) (s : Shared) (H : Hp) (vs : List V) (Q : VK) (E : XK), Room k (A.deeper (envOfC x (defScope st) s.heap.objs.size (He.ga K x) (.ref (He.codeOf K (x, none))))) → sp vs H Q E →
      ∃ t, PSs (cxOf CX0 P w K mg base N x (defScope st) (He.ga K x) (.ref (He.codeOf K (x, none))) A outer s H E) (defBody st) t ∧ t { nx := fun _ H' => Q .non H', rt := Q } (L2.start N vs) H) : Cal P w K mg base (k + 1) x ps sp := by
  obtain ⟨fd, F⟩ := D.fn
  exact ⟨He.ga K x, fd, fun_ok F S len hbody, D.at_, F.kp, F.bindsN hb⟩
/-- what the law draws to be refused -/
def spRef (K : PySem.W.Frag) (P1 P2 : Addr) : Sp := fun vs H Q _ => ∃ (a x : Addr) (ds : List Dt) (es : List Ent), vs = [.ref a, .ref x] ∧ DrawsAt H a ∧ LedAt K (rm H a) x ds es ∧ DrawnEs es ∧ Times es ∧ Tabs (Tb P1 P2) H ∧ ∀ H', DrawsAt H' a → ExtN (rm H a) (rm H' a) → Tabs (Tb P1 P2) H' → Q (.bl true) H'
theorem okA : accOk (.str "ann") = true ∧ accOk (.str "the-till") = true ∧ accOk (.str "the-pool") = true := by decide +kernel
theorem okN : nameOk (.str "coin") = true ∧ nameOk (.str "seat") = true := by decide +kernel
theorem okT : timeOk (.int 1) = true ∧ timeOk (.int 2) = true ∧ timeOk (.int 3) = true := by decide
theorem okF : floorOk (.int 0) = true := rfl
theorem other_sub : ∀ d ∈ [Dt.non, .str "2", .int (-5)], d ∈ oddTD := by
  intro d m
  simp only [List.mem_cons, List.not_mem_nil, or_false] at m
  rcases m with rfl | rfl | rfl <;> simp [oddTD]
theorem strP (s : Str) : accP (.str s) := .inl ⟨rfl, by intro z; cases z⟩
theorem el_same {H H' : Hp} {vs : List V} {ps : List Tr} (s : Same H H') (h : Paired (ElAt H) vs ps) : Paired (ElAt H') vs ps := Paired.imp' (fun v q ⟨b, e1, e2⟩ => ⟨b, e1, s _ _ e2⟩) h
theorem el_ext {H H' : Hp} {vs : List V} {ps : List Tr} (s : ExtN H H') (h : Paired (ElAt H) vs ps) : Paired (ElAt H') vs ps := Paired.imp' (fun v q ⟨b, e1, e2⟩ => ⟨b, e1, s _ _ e2 (fun _ z => by cases z)⟩) h
theorem el_upd {H : Hp} {f : Addr} {us us' vs : List V} {ps : List Tr} (hf : H f = some (.lst us)) (h : Paired (ElAt H) vs ps) : Paired (ElAt (upd H f (.lst us'))) vs ps := Paired.imp' (fun v q ⟨b, e1, e2⟩ => ⟨b, e1, (upd_ne (ne_of e2 hf (by intro z; cases z))).trans e2⟩) h
theorem paired_app {α β : Type} {F : α → β → Prop} : ∀ {l l' : List α} {m m' : List β}, Paired F l m → Paired F l' m' → Paired F (l ++ l') (m ++ m')
  | _, _, _, _, .nil, h => h
  | _, _, _, _, .cons a b, h => .cons a (paired_app b h)
theorem draws_no {G : Hp} {a q : Addr} {vs : List V} {ps : List Tr} (d : DrawsAt G a) (h : G q = some (.lst vs)) (pr : Paired (ElAt G) vs ps) (ne : ps ≠ []) : q ≠ a := fun z => by
  obtain ⟨o, ho, i, j, k, rfl⟩ := d
  rw [z, ho] at h
  cases h
  cases pr with
  | cons h _ =>
    obtain ⟨q, e, _⟩ := h
    cases e
section
variable {P : Program} {w : World} {K : PySem.W.Frag} {mg : Str → Option Value} {base : Heap}
abbrev s__law_refused_right : Stmt := top 53
theorem sc__law_refused_right : FnScope ["draws", "ledger", "found", "due", "other", "account", "thing", "floor", "time"] ["draws", "ledger"] (defScope s__law_refused_right) := ⟨rfl, rfl, rfl, by decide +kernel, rfl, by decide +kernel, by decide +kernel⟩
theorem c__law_refused_right {P1 P2 CA CN CF CT fA fN fF fT : Addr} (T : Txt K mg) (F : LgF K) (D : Dfn K mg "_law_refused_right" s__law_refused_right) (TB : TabB base mg (He.codeOf K ("_law_refused_right", none)) P1) (nP : P1 ≠ P2) (D_law_tried : Dfn K mg "_law_tried" s__law_tried)
    (hA : mg "BadAccount" = some (.ref CA)) (hN : mg "BadName" = some (.ref CN)) (hF : mg "BadFloor" = some (.ref CF)) (hT : mg "BadTime" = some (.ref CT)) (EA : Err K CA fA "account") (EN : Err K CN fN "thing") (EF : Err K CF fF "floor") (ET : Err K CT fT "time") (eA : CA = He.ga K "BadAccount") (eN : CN = He.ga K "BadName") (eF : CF = He.ga K "BadFloor") (eT : CT = He.ga K "BadTime")
    (x11 : PySem.W.exmOne K (.ref CA) (.ref CA) = some true) (x22 : PySem.W.exmOne K (.ref CN) (.ref CN) = some true) (x33 : PySem.W.exmOne K (.ref CF) (.ref CF) = some true) (x44 : PySem.W.exmOne K (.ref CT) (.ref CT) = some true)
    (x21 : PySem.W.exmOne K (.ref CN) (.ref CA) = some false) (x31 : PySem.W.exmOne K (.ref CF) (.ref CA) = some false) (x32 : PySem.W.exmOne K (.ref CF) (.ref CN) = some false) (x41 : PySem.W.exmOne K (.ref CT) (.ref CA) = some false) (x42 : PySem.W.exmOne K (.ref CT) (.ref CN) = some false) (x43 : PySem.W.exmOne K (.ref CT) (.ref CF) = some false)
    (C_law_pick : Cal P w K mg base 2 "_law_pick" ["draws", "xs"] (spPick K)) (C_law_same : Cal P w K mg base 6 "_law_same" ["found", "due"] (spDeep 5))
    (MSt : CalM P w K mg base (L2.CX P w) 6 (He.fAd K ("Ledger", some "known_steps")) ["self", "account", "thing", "valid"] (spSteps K)) (NSt : Meth K (He.ga K "Ledger") "known_steps" (He.fAd K ("Ledger", some "known_steps"))) (MFi : CalM P w K mg base (L2.CX P w) 6 (He.fAd K ("Ledger", some "first_below")) ["self", "account", "thing", "floor", "known"] (spBelow K)) (NFi : Meth K (He.ga K "Ledger") "first_below" (He.fAd K ("Ledger", some "first_below")))
    (MSe : CalM P w K mg base (L2.CX P w) 7 (He.fAd K ("Ledger", some "seen_below")) ["self", "account", "thing", "floor"] (spSeen K)) (NSe : Meth K (He.ga K "Ledger") "seen_below" (He.fAd K ("Ledger", some "seen_below"))) (MRe : CalM P w K mg base (L2.CX P w) 9 (He.fAd K ("Ledger", some "restated")) ["self", "one", "other", "valid"] (spRes K)) (NRe : Meth K (He.ga K "Ledger") "restated" (He.fAd K ("Ledger", some "restated"))) :
    Cal P w K mg base 12 "_law_refused_right" ["draws", "ledger"] (spRef K P1 P2) := by
  refine calT D sc__law_refused_right (fun _ _ _ _ _ _ us hl => match us, hl with | [_, _], _ => rfl) (fun vs H Q E h => ?_) fun A outer s H vs Q E hr h => ?_
  · obtain ⟨a, x, ds, es, rfl, _⟩ := h
    rfl
  obtain ⟨a, x, ds, es, rfl, hd, L, DE, tm, tab, q⟩ := h
  refine ⟨_, PSs.nox (pss_cons (ps_asg (pe_tup (pa_cons (pe_cal C_law_pick hr (by first | decide | omega) (by rfl) (pa_cons (pv 0) (pa_cons (pe_lst (pa_cons pe_str (pa_cons pe_non (pa_cons pe_int (pa_cons pe_str pa_nil))))) pa_nil))) (pa_cons (pe_cal C_law_pick hr (by first | decide | omega) (by rfl) (pa_cons (pv 0) (pa_cons (pe_lst (pa_cons pe_str (pa_cons pe_non (pa_cons pe_int (pa_cons pe_str pa_nil))))) pa_nil))) pa_nil))) (pg_tup rfl (pgs_cons (pg_name (i := 5) sc__law_refused_right.nd rfl (by first | exact Or.inl rfl | exact Or.inr rfl)) (pgs_cons (pg_name (i := 6) sc__law_refused_right.nd rfl (by first | exact Or.inl rfl | exact Or.inr rfl)) pgs_nil))))
      (pss_cons (ps_asg (pe_tup (pa_cons (pe_cal C_law_pick hr (by first | decide | omega) (by rfl) (pa_cons (pv 0) (pa_cons (pe_lst (pa_cons pe_int (pa_cons pe_non (pa_cons pe_str (pa_cons pe_bl (pa_cons (pe_op op_pow pe_int pe_int) pa_nil)))))) pa_nil))) (pa_cons (pe_cal C_law_pick hr (by first | decide | omega) (by rfl) (pa_cons (pv 0) (pa_cons (pe_lst (pa_cons (pe_un un_neg pe_int) (pa_cons pe_non (pa_cons pe_str (pa_cons pe_bl (pa_cons (pe_op op_add (pe_op op_pow pe_int pe_int) pe_int) pa_nil)))))) pa_nil))) pa_nil))) (pg_tup rfl (pgs_cons (pg_name (i := 7) sc__law_refused_right.nd rfl (by first | exact Or.inl rfl | exact Or.inr rfl)) (pgs_cons (pg_name (i := 8) sc__law_refused_right.nd rfl (by first | exact Or.inl rfl | exact Or.inr rfl)) pgs_nil))))
      (pss_cons (ps_set (i := 2) sc__law_refused_right.nd rfl (by first | exact Or.inl rfl | exact Or.inr rfl) (pe_lst (pa_cons (pe_lamT (Tb P1 P2) ("_law_refused_right" ++ ".<locals>.") D_law_tried sc__law_tried (fun _ _ _ _ _ _ us hl => match us, hl with | [_], _ => rfl) (.head _) (fun p hp e => by simp only [List.mem_cons, List.not_mem_nil, or_false] at hp; rcases hp with rfl | rfl; exact rfl; exact absurd e.symm nP) (fun cdv => g_tried hA hN hF hT EA EN EF ET x11 x22 x33 x44 x21 x31 x32 x41 x42 x43 cdv _) TB rfl hr (fun A outer s H E f c' hr => (mE_ MSt hr (by decide) F.cl NSt (passes_def rfl rfl rfl rfl) (pv 1) (pa_cons (pv 5) (pa_cons (pv 6) (pa_cons (pv 8) pa_nil))))) (by rfl) (lamS_by (by show lamSB (defScope s__law_refused_right) _ = true; decide +kernel)) (fun _ _ _ _ _ => rfl)) pa_nil)))
      (pss_cons (ps_expr (pe_bm PySem.F.plainAttrs_list PySem.F.slot_list_append PySem.F.type_list_append mt_append (pv 2) (pa_cons (pe_lamT (Tb P1 P2) ("_law_refused_right" ++ ".<locals>.") D_law_tried sc__law_tried (fun _ _ _ _ _ _ us hl => match us, hl with | [_], _ => rfl) (.head _) (fun p hp e => by simp only [List.mem_cons, List.not_mem_nil, or_false] at hp; rcases hp with rfl | rfl; exact rfl; exact absurd e.symm nP) (fun cdv => g_tried hA hN hF hT EA EN EF ET x11 x22 x33 x44 x21 x31 x32 x41 x42 x43 cdv _) TB rfl hr (fun A outer s H E f c' hr => (mE_ MFi hr (by decide) F.cl NFi (passes_def rfl rfl rfl rfl) (pv 1) (pa_cons (pv 5) (pa_cons (pv 6) (pa_cons (pv 7) (pa_cons (pv 8) pa_nil)))))) (by rfl) (lamS_by (by show lamSB (defScope s__law_refused_right) _ = true; decide +kernel)) (fun _ _ _ _ _ => rfl)) pa_nil)))
      (pss_cons (ps_expr (pe_bm PySem.F.plainAttrs_list PySem.F.slot_list_append PySem.F.type_list_append mt_append (pv 2) (pa_cons (pe_lamT (Tb P1 P2) ("_law_refused_right" ++ ".<locals>.") D_law_tried sc__law_tried (fun _ _ _ _ _ _ us hl => match us, hl with | [_], _ => rfl) (.head _) (fun p hp e => by simp only [List.mem_cons, List.not_mem_nil, or_false] at hp; rcases hp with rfl | rfl; exact rfl; exact absurd e.symm nP) (fun cdv => g_tried hA hN hF hT EA EN EF ET x11 x22 x33 x44 x21 x31 x32 x41 x42 x43 cdv _) TB rfl hr (fun A outer s H E f c' hr => (mE_ MSe hr (by decide) F.cl NSe (passes_def rfl rfl rfl rfl) (pv 1) (pa_cons pe_str (pa_cons (pv 6) (pa_cons (pv 7) pa_nil))))) (by rfl) (lamS_by (by show lamSB (defScope s__law_refused_right) _ = true; decide +kernel)) (fun _ _ _ _ _ => rfl)) pa_nil)))
      (pss_cons (ps_expr (pe_bm PySem.F.plainAttrs_list PySem.F.slot_list_append PySem.F.type_list_append mt_append (pv 2) (pa_cons (pe_lamT (Tb P1 P2) ("_law_refused_right" ++ ".<locals>.") D_law_tried sc__law_tried (fun _ _ _ _ _ _ us hl => match us, hl with | [_], _ => rfl) (.head _) (fun p hp e => by simp only [List.mem_cons, List.not_mem_nil, or_false] at hp; rcases hp with rfl | rfl; exact rfl; exact absurd e.symm nP) (fun cdv => g_tried hA hN hF hT EA EN EF ET x11 x22 x33 x44 x21 x31 x32 x41 x42 x43 cdv _) TB rfl hr (fun A outer s H E f c' hr => (mE_ MFi hr (by decide) F.cl NFi (passes_def rfl rfl rfl rfl) (pv 1) (pa_cons pe_str (pa_cons pe_str (pa_cons (pv 7) (pa_cons (pv 8) pa_nil)))))) (by rfl) (lamS_by (by show lamSB (defScope s__law_refused_right) _ = true; decide +kernel)) (fun _ _ _ _ _ => rfl)) pa_nil)))
      (pss_cons (ps_expr (pe_bm PySem.F.plainAttrs_list PySem.F.slot_list_append PySem.F.type_list_append mt_append (pv 2) (pa_cons (pe_lamT (Tb P1 P2) ("_law_refused_right" ++ ".<locals>.") D_law_tried sc__law_tried (fun _ _ _ _ _ _ us hl => match us, hl with | [_], _ => rfl) (.head _) (fun p hp e => by simp only [List.mem_cons, List.not_mem_nil, or_false] at hp; rcases hp with rfl | rfl; exact rfl; exact absurd e.symm nP) (fun cdv => g_tried hA hN hF hT EA EN EF ET x11 x22 x33 x44 x21 x31 x32 x41 x42 x43 cdv _) TB rfl hr (fun A outer s H E f c' hr => (mE_ MFi hr (by decide) F.cl NFi (passes_def rfl rfl rfl rfl) (pv 1) (pa_cons pe_str (pa_cons pe_str (pa_cons pe_int (pa_cons (pv 8) pa_nil)))))) (by rfl) (lamS_by (by show lamSB (defScope s__law_refused_right) _ = true; decide +kernel)) (fun _ _ _ _ _ => rfl)) pa_nil)))
      (pss_cons (ps_expr (pe_bm PySem.F.plainAttrs_list PySem.F.slot_list_append PySem.F.type_list_append mt_append (pv 2) (pa_cons (pe_lamT (Tb P1 P2) ("_law_refused_right" ++ ".<locals>.") D_law_tried sc__law_tried (fun _ _ _ _ _ _ us hl => match us, hl with | [_], _ => rfl) (.head _) (fun p hp e => by simp only [List.mem_cons, List.not_mem_nil, or_false] at hp; rcases hp with rfl | rfl; exact rfl; exact absurd e.symm nP) (fun cdv => g_tried hA hN hF hT EA EN EF ET x11 x22 x33 x44 x21 x31 x32 x41 x42 x43 cdv _) TB rfl hr (fun A outer s H E f c' hr => (mE_ MSt hr (by decide) F.cl NSt (passes_def rfl rfl rfl rfl) (pv 1) (pa_cons pe_str (pa_cons pe_str (pa_cons (pv 8) pa_nil))))) (by rfl) (lamS_by (by show lamSB (defScope s__law_refused_right) _ = true; decide +kernel)) (fun _ _ _ _ _ => rfl)) pa_nil)))
      (pss_cons (ps_expr (pe_bm PySem.F.plainAttrs_list PySem.F.slot_list_append PySem.F.type_list_append mt_append (pv 2) (pa_cons (pe_lamT (Tb P1 P2) ("_law_refused_right" ++ ".<locals>.") D_law_tried sc__law_tried (fun _ _ _ _ _ _ us hl => match us, hl with | [_], _ => rfl) (.head _) (fun p hp e => by simp only [List.mem_cons, List.not_mem_nil, or_false] at hp; rcases hp with rfl | rfl; exact rfl; exact absurd e.symm nP) (fun cdv => g_tried hA hN hF hT EA EN EF ET x11 x22 x33 x44 x21 x31 x32 x41 x42 x43 cdv _) TB rfl hr (fun A outer s H E f c' hr => (mE_ MSe hr (by decide) F.cl NSe (passes_def rfl rfl rfl rfl) (pv 1) (pa_cons pe_str (pa_cons pe_str (pa_cons (pv 7) pa_nil))))) (by rfl) (lamS_by (by show lamSB (defScope s__law_refused_right) _ = true; decide +kernel)) (fun _ _ _ _ _ => rfl)) pa_nil)))
      (pss_cons (ps_set (i := 3) sc__law_refused_right.nd rfl (by first | exact Or.inl rfl | exact Or.inr rfl) (pe_op op_cat (pe_op op_cat (pe_op op_cat (pe_op op_rep (pe_lst (pa_cons (pe_tup (pa_cons pe_str (pa_cons (pv 5) pa_nil))) pa_nil)) pe_int) (pe_lst (pa_cons (pe_tup (pa_cons pe_str (pa_cons (pv 6) pa_nil))) (pa_cons (pe_tup (pa_cons pe_str (pa_cons (pv 7) pa_nil))) pa_nil)))) (pe_op op_rep (pe_lst (pa_cons (pe_tup (pa_cons pe_str (pa_cons (pv 8) pa_nil))) pa_nil)) pe_int)) (pe_lst (pa_cons (pe_tup (pa_cons pe_str (pa_cons (pv 7) pa_nil))) pa_nil))))
      (pss_cons (ps_set (i := 4) sc__law_refused_right.nd rfl (by first | exact Or.inl rfl | exact Or.inr rfl) (pe_cal C_law_pick hr (by first | decide | omega) (by rfl) (pa_cons (pv 0) (pa_cons (pe_lst (pa_cons pe_non (pa_cons pe_str (pa_cons (pe_un un_neg pe_int) pa_nil)))) pa_nil))))
      (pss_cons (ps_expr (pe_bm PySem.F.plainAttrs_list PySem.F.slot_list_append PySem.F.type_list_append mt_append (pv 2) (pa_cons (pe_lamT (Tb P1 P2) ("_law_refused_right" ++ ".<locals>.") D_law_tried sc__law_tried (fun _ _ _ _ _ _ us hl => match us, hl with | [_], _ => rfl) (.head _) (fun p hp e => by simp only [List.mem_cons, List.not_mem_nil, or_false] at hp; rcases hp with rfl | rfl; exact rfl; exact absurd e.symm nP) (fun cdv => g_tried hA hN hF hT EA EN EF ET x11 x22 x33 x44 x21 x31 x32 x41 x42 x43 cdv _) TB rfl hr (fun A outer s H E f c' hr => (mE_ MRe hr (by decide) F.cl NRe (passes_def rfl rfl rfl rfl) (pv 1) (pa_cons (pv 8) (pa_cons (pv 4) (pa_cons pe_non pa_nil))))) (by rfl) (lamS_by (by show lamSB (defScope s__law_refused_right) _ = true; decide +kernel)) (fun _ _ _ _ _ => rfl)) pa_nil)))
      (pss_cons (ps_expr (pe_bm PySem.F.plainAttrs_list PySem.F.slot_list_append PySem.F.type_list_append mt_append (pv 2) (pa_cons (pe_lamT (Tb P1 P2) ("_law_refused_right" ++ ".<locals>.") D_law_tried sc__law_tried (fun _ _ _ _ _ _ us hl => match us, hl with | [_], _ => rfl) (.head _) (fun p hp e => by simp only [List.mem_cons, List.not_mem_nil, or_false] at hp; rcases hp with rfl | rfl; exact rfl; exact absurd e.symm nP) (fun cdv => g_tried hA hN hF hT EA EN EF ET x11 x22 x33 x44 x21 x31 x32 x41 x42 x43 cdv _) TB rfl hr (fun A outer s H E f c' hr => (mE_ MRe hr (by decide) F.cl NRe (passes_def rfl rfl rfl rfl) (pv 1) (pa_cons pe_int (pa_cons (pv 4) (pa_cons (pv 8) pa_nil))))) (by rfl) (lamS_by (by show lamSB (defScope s__law_refused_right) _ = true; decide +kernel)) (fun _ _ _ _ _ => rfl)) pa_nil)))
      (pss_cons (ps_expr (pe_bm PySem.F.plainAttrs_list PySem.F.slot_list_append PySem.F.type_list_append mt_append (pv 2) (pa_cons (pe_lamT (Tb P1 P2) ("_law_refused_right" ++ ".<locals>.") D_law_tried sc__law_tried (fun _ _ _ _ _ _ us hl => match us, hl with | [_], _ => rfl) (.head _) (fun p hp e => by simp only [List.mem_cons, List.not_mem_nil, or_false] at hp; rcases hp with rfl | rfl; exact rfl; exact absurd e.symm nP) (fun cdv => g_tried hA hN hF hT EA EN EF ET x11 x22 x33 x44 x21 x31 x32 x41 x42 x43 cdv _) TB rfl hr (fun A outer s H E f c' hr => (mE_ MRe hr (by decide) F.cl NRe (passes_def rfl rfl rfl rfl) (pv 1) (pa_cons pe_int (pa_cons pe_int (pa_cons (pv 8) pa_nil))))) (by rfl) (lamS_by (by show lamSB (defScope s__law_refused_right) _ = true; decide +kernel)) (fun _ _ _ _ _ => rfl)) pa_nil)))
      (pss_one (ps_ret (pe_cal C_law_same hr (by first | decide | omega) (by rfl) (pa_cons (pv 2) (pa_cons (pe_op op_cat (pv 3) (pe_lst (pa_cons (pe_tup (pa_cons pe_str (pa_cons (pv 8) pa_nil))) (pa_cons (pe_tup (pa_cons pe_str (pa_cons (pv 4) pa_nil))) (pa_cons (pe_tup (pa_cons pe_str (pa_cons (pv 8) pa_nil))) pa_nil))))) pa_nil))))))))))))))))))), ?_⟩

  refine cut_if (fun σ H' => ∃ va vt dva dvt, σ = [some (.ref a), some (.ref x), none, none, none, some va, some vt, none, none] ∧ DrawsAt H' a ∧ Same (rm H a) (rm H' a) ∧ dva ∈ oddAD ∧ dvt ∈ oddND ∧ (∀ G, Is G va dva) ∧ ∀ G, Is G vt dvt) ?_ fun rest => ?_
  rotate_left
  · refine ⟨_, rfl, lineN (n := 4), fun l1 hl1 => ?_⟩
    have s1 := Same.up (o := .lst [.str "Ann", .non, .int 5, .str "the-bank"]) hl1
    have dA := hd.up s1
    have n1 : l1 ≠ a := fun z => hd.some (by rw [← z]; exact hl1)
    refine ⟨a, l1, [.str "Ann", .non, .int 5, .str "the-bank"], rfl, dA, n1, .inl (SqL.of upd_same), (show 1 ≤ 4 by decide), (show 4 < 1073741824 by decide), fun k1 va o1 hv1 ho1 => ?_⟩
    obtain ⟨dva, m1, i1⟩ := atoms_get (L' := [.str "Ann", .non, .int 5, .str "the-bank"]) (fun G => .cons (.str _ (by decide)) (.cons (.non) (.cons (.int _) (.cons (.str _ (by decide)) .nil)))) hv1
    have dB : DrawsAt (upd (upd H l1 (.lst [.str "Ann", .non, .int 5, .str "the-bank"])) a o1) a := ⟨o1, upd_same, ho1⟩
    refine ⟨_, rfl, lineN (n := 4), fun l2 hl2 => ?_⟩
    have s2 := Same.up (o := .lst [.str "X", .non, .int 5, .str ""]) hl2
    have n2 : l2 ≠ a := fun z => dB.some (by rw [z] at hl2; exact hl2)
    refine ⟨a, l2, [.str "X", .non, .int 5, .str ""], rfl, dB.up s2, n2, .inl (SqL.of upd_same), (show 1 ≤ 4 by decide), (show 4 < 1073741824 by decide), fun k2 vt o2 hv2 ho2 => ?_⟩
    obtain ⟨dvt, m2, i2⟩ := atoms_get (L' := [.str "X", .non, .int 5, .str ""]) (fun G => .cons (.str _ (by decide)) (.cons (.non) (.cons (.int _) (.cons (.str _ (by decide)) .nil)))) hv2
    refine ⟨two_line, fun t ht => ?_⟩
    have st := Same.up (o := .tup [va, vt]) ht
    have dC : DrawsAt (upd (upd (upd (upd H l1 (.lst [.str "Ann", .non, .int 5, .str "the-bank"])) a o1) l2 (.lst [.str "X", .non, .int 5, .str ""])) a o2) a := ⟨o2, upd_same, ho2⟩
    refine ⟨t, _, rfl, SqT.of upd_same, rfl, _, _, rfl, _, _, rfl, rfl, rest _ _ ⟨va, vt, dva, dvt, rfl, dC.up st, ?_, m1, m2, i1, i2⟩⟩
    refine Same.trans (Same.trans (Same.rm s1) ?_) (Same.rm st)
    rw [rm_upd]
    refine Same.trans ?_ (Same.rm s2)
    rw [rm_upd]
    exact Same.refl _
  rintro _ H1 ⟨va, vt, dva, dvt, rfl, drH1, smH1, mva, mvt, iva, ivt⟩
  try dsimp only
  refine cut_if (fun σ H' => ∃ vf vm dvf dvm, σ = [some (.ref a), some (.ref x), none, none, none, some va, some vt, some vf, some vm] ∧ DrawsAt H' a ∧ Same (rm H1 a) (rm H' a) ∧ dvf ∈ oddFD ∧ dvm ∈ oddTD ∧ (∀ G, Is G vf dvf) ∧ ∀ G, Is G vm dvm) ?_ fun rest => ?_
  rotate_left
  · refine ⟨_, rfl, _, _, rfl, rfl, ⟨by decide, by decide, by decide⟩, lineN (n := 5), fun l1 hl1 => ?_⟩
    have s1 := Same.up (o := .lst [.int 1, .non, .str "0", .bl false, .int 1000000000]) hl1
    have dA := drH1.up s1
    have n1 : l1 ≠ a := fun z => drH1.some (by rw [← z]; exact hl1)
    refine ⟨a, l1, [.int 1, .non, .str "0", .bl false, .int 1000000000], rfl, dA, n1, .inl (SqL.of upd_same), (show 1 ≤ 5 by decide), (show 5 < 1073741824 by decide), fun k1 vf o1 hv1 ho1 => ?_⟩
    obtain ⟨dvf, m1, i1⟩ := atoms_get (L' := [.int 1, .non, .str "0", .bl false, .int 1000000000]) (fun G => .cons (.int _) (.cons (.non) (.cons (.str _ (by decide)) (.cons (.bl _) (.cons (.int _) .nil))))) hv1
    have dB : DrawsAt (upd (upd H1 l1 (.lst [.int 1, .non, .str "0", .bl false, .int 1000000000])) a o1) a := ⟨o1, upd_same, ho1⟩
    refine ⟨_, rfl, _, rfl, _, _, rfl, rfl, ⟨by decide, by decide, by decide⟩, _, _, rfl, rfl, lineN (n := 5), fun l2 hl2 => ?_⟩
    have s2 := Same.up (o := .lst [.int (-1), .non, .str "1", .bl true, .int 1000001]) hl2
    have n2 : l2 ≠ a := fun z => dB.some (by rw [z] at hl2; exact hl2)
    refine ⟨a, l2, [.int (-1), .non, .str "1", .bl true, .int 1000001], rfl, dB.up s2, n2, .inl (SqL.of upd_same), (show 1 ≤ 5 by decide), (show 5 < 1073741824 by decide), fun k2 vm o2 hv2 ho2 => ?_⟩
    obtain ⟨dvm, m2, i2⟩ := atoms_get (L' := [.int (-1), .non, .str "1", .bl true, .int 1000001]) (fun G => .cons (.int _) (.cons (.non) (.cons (.str _ (by decide)) (.cons (.bl _) (.cons (.int _) .nil))))) hv2
    refine ⟨two_line, fun t ht => ?_⟩
    have st := Same.up (o := .tup [vf, vm]) ht
    have dC : DrawsAt (upd (upd (upd (upd H1 l1 (.lst [.int 1, .non, .str "0", .bl false, .int 1000000000])) a o1) l2 (.lst [.int (-1), .non, .str "1", .bl true, .int 1000001])) a o2) a := ⟨o2, upd_same, ho2⟩
    refine ⟨t, _, rfl, SqT.of upd_same, rfl, _, _, rfl, _, _, rfl, rfl, rest _ _ ⟨vf, vm, dvf, dvm, rfl, dC.up st, ?_, m1, List.mem_append_left [Dt.str "2", .int (-5)] m2, i1, i2⟩⟩
    refine Same.trans (Same.trans (Same.rm s1) ?_) (Same.rm st)
    rw [rm_upd]
    refine Same.trans ?_ (Same.rm s2)
    rw [rm_upd]
    exact Same.refl _
  rintro _ H2 ⟨vf, vm, dvf, dvm, rfl, drH2, smH2, mvf, mvm, ivf, ivm⟩
  try dsimp only
  have ca := oddA_ok _ mva
  have cn := oddN_ok _ mvt
  have cf := oddF_ok _ mvf
  have ct := oddT_ok _ mvm
  have tabH2 : Tabs (Tb P1 P2) H2 := Tabs.ext (Tabs.off tab hd) ((smH1.trans smH2).trans rm_same)
  have sM := smH1.trans smH2
  have aA : atomD dva = true := odd_atoms _ (.inl mva)
  have aN : atomD dvt = true := odd_atoms _ (.inr (.inl mvt))
  have aF : atomD dvf = true := odd_atoms _ (.inr (.inr (.inl mvf)))
  have aT : atomD dvm = true := odd_atoms _ (.inr (.inr (.inr mvm)))
  have hcls : ∀ v : V, ((He.ga K (rfA v).C = CA ∧ (rfA v).at_ = "account" ∧ (rfA v).w = "account") ∧ (He.ga K (rfN v).C = CN ∧ (rfN v).at_ = "thing" ∧ (rfN v).w = "name")) ∧ (He.ga K (rfF v).C = CF ∧ (rfF v).at_ = "floor" ∧ (rfF v).w = "floor") ∧ (He.ga K (rfT v).C = CT ∧ (rfT v).at_ = "time" ∧ (rfT v).w = "time") := fun v => ⟨⟨⟨eA.symm, rfl, rfl⟩, eN.symm, rfl, rfl⟩, ⟨eF.symm, rfl, rfl⟩, eT.symm, rfl, rfl⟩
  -- 1
  try dsimp only
  refine cut_if (fun σ H' => ∃ f vs, σ = [some (.ref a), some (.ref x), some (.ref f), none, none, some va, some vt, some vf, some vm] ∧ Fe (Tb P1 P2) (rm H a) H' a f vs [("account", va, dva)]) ?_ fun rest => ?_
  rotate_left
  · refine ⟨tabH2, fun G2 e2 u2 => ?_⟩
    have L2 := (L.ext ((ExtN.of sM).trans (ExtN.rm e2))).mono rm_same
    have Lc := L2
    obtain ⟨dx, _, _, _, hx1, _⟩ := Lc
    refine ⟨_, rfl, x, dx, _, rfl, hx1, rfl, _, rfl, _, rfl, _, rfl, ?_⟩
    try delta tCons
    try delta tC
    try delta tNil
    dsimp only
    show spSteps K [V.ref x, va, vt, vm] G2 _ _
    refine ref_steps L2 DE tm (iva _) ca.2 (ivt _) (ivm _) (r := rfA va) (by simp [fails, ca.1, cn, cf, ct, okA.1, okA.2.1, okA.2.2, okN.1, okN.2, okT.1, okT.2.1, okT.2.2, okF]) ?_
    intro H' e s he
    refine ⟨_, _, _, e, _, .inl (hcls _).1.1, rfl, rfl, upd_same, fun p hp => ⟨lineN (n := 1), fun f hf => ?_⟩⟩
    exact rest _ _ ⟨f, _, rfl, Fe.first drH2 (ExtN.of sM) e2 u2 (s.trans ((Same.up he).trans (Same.up hp))) upd_same hf⟩
  rintro _ H1x ⟨f, vs1, rfl, F1⟩
  -- 2
  try dsimp only
  refine cut_if (fun σ H' => σ = [some (.ref a), some (.ref x), some (.ref f), none, none, some va, some vt, some vf, some vm] ∧ ∃ vs, Fe (Tb P1 P2) (rm H a) H' a f vs [("account", va, dva), ("account", va, dva)]) ?_ fun rest => ?_
  rotate_left
  · have zz : vs1.length = 1 := Paired.length F1.els
    refine ⟨_, rfl, .inl ⟨rfl, _, SqL.of F1.at_⟩, F1.t, fun G2 e2 u2 => ?_⟩
    have L2 := (L.ext (F1.e.trans (ExtN.rm e2))).mono rm_same
    have Lc := L2
    obtain ⟨dx, _, _, _, hx1, _⟩ := Lc
    refine ⟨_, rfl, x, dx, _, rfl, hx1, rfl, _, rfl, _, rfl, _, rfl, _, rfl, ?_⟩
    try delta tCons
    try delta tC
    try delta tNil
    dsimp only
    show spBelow K [V.ref x, va, vt, vf, vm] G2 _ _
    refine ref_below L2 DE tm (iva _) ca.2 (ivt _) (ivf _) (ivm _) (r := rfA va) (by simp [fails, ca.1, cn, cf, ct, okA.1, okA.2.1, okA.2.2, okN.1, okN.2, okT.1, okT.2.1, okT.2.2, okF]) ?_
    intro H' e s he
    refine ⟨_, _, _, e, _, .inl (hcls _).1.1, rfl, rfl, upd_same, fun p hp => ?_⟩
    obtain ⟨hf9, F9⟩ := F1.step (d := dva) e2 u2 (s.trans ((Same.up he).trans (Same.up hp))) upd_same
    exact ⟨f, _, _, rfl, rfl, hf9, sz (m := 60) (by omega), rest _ _ ⟨rfl, _, F9⟩⟩
  rintro _ H2x ⟨rfl, vs2, F2⟩
  -- 3
  try dsimp only
  refine cut_if (fun σ H' => σ = [some (.ref a), some (.ref x), some (.ref f), none, none, some va, some vt, some vf, some vm] ∧ ∃ vs, Fe (Tb P1 P2) (rm H a) H' a f vs [("account", va, dva), ("account", va, dva), ("name", vt, dvt)]) ?_ fun rest => ?_
  rotate_left
  · have zz : vs2.length = 2 := Paired.length F2.els
    refine ⟨_, rfl, .inl ⟨rfl, _, SqL.of F2.at_⟩, F2.t, fun G2 e2 u2 => ?_⟩
    have L2 := (L.ext (F2.e.trans (ExtN.rm e2))).mono rm_same
    have Lc := L2
    obtain ⟨dx, _, _, _, hx1, _⟩ := Lc
    refine ⟨_, rfl, x, dx, _, rfl, hx1, rfl, _, rfl, _, rfl, ?_⟩
    try delta tCons
    try delta tC
    try delta tNil
    dsimp only
    show spSeen K [V.ref x, .str "the-till", vt, vf] G2 _ _
    refine ref_seen L2 DE tm (.str _ (by decide)) (strP _) (ivt _) (ivf _) (r := rfN vt) (by simp [fails, ca.1, cn, cf, ct, okA.1, okA.2.1, okA.2.2, okN.1, okN.2, okT.1, okT.2.1, okT.2.2, okF]) ?_
    intro H' e s he
    refine ⟨_, _, _, e, _, .inr (.inl (hcls _).1.2), rfl, rfl, upd_same, fun p hp => ?_⟩
    obtain ⟨hf9, F9⟩ := F2.step (d := dvt) e2 u2 (s.trans ((Same.up he).trans (Same.up hp))) upd_same
    exact ⟨f, _, _, rfl, rfl, hf9, sz (m := 60) (by omega), rest _ _ ⟨rfl, _, F9⟩⟩
  rintro _ H3x ⟨rfl, vs3, F3⟩
  -- 4
  try dsimp only
  refine cut_if (fun σ H' => σ = [some (.ref a), some (.ref x), some (.ref f), none, none, some va, some vt, some vf, some vm] ∧ ∃ vs, Fe (Tb P1 P2) (rm H a) H' a f vs [("account", va, dva), ("account", va, dva), ("name", vt, dvt), ("floor", vf, dvf)]) ?_ fun rest => ?_
  rotate_left
  · have zz : vs3.length = 3 := Paired.length F3.els
    refine ⟨_, rfl, .inl ⟨rfl, _, SqL.of F3.at_⟩, F3.t, fun G2 e2 u2 => ?_⟩
    have L2 := (L.ext (F3.e.trans (ExtN.rm e2))).mono rm_same
    have Lc := L2
    obtain ⟨dx, _, _, _, hx1, _⟩ := Lc
    refine ⟨_, rfl, x, dx, _, rfl, hx1, rfl, _, rfl, _, rfl, ?_⟩
    try delta tCons
    try delta tC
    try delta tNil
    dsimp only
    show spBelow K [V.ref x, .str "ann", .str "coin", vf, vm] G2 _ _
    refine ref_below L2 DE tm (.str _ (by decide)) (strP _) (.str _ (by decide)) (ivf _) (ivm _) (r := rfF vf) (by simp [fails, ca.1, cn, cf, ct, okA.1, okA.2.1, okA.2.2, okN.1, okN.2, okT.1, okT.2.1, okT.2.2, okF]) ?_
    intro H' e s he
    refine ⟨_, _, _, e, _, .inr (.inr (.inl (hcls _).2.1)), rfl, rfl, upd_same, fun p hp => ?_⟩
    obtain ⟨hf9, F9⟩ := F3.step (d := dvf) e2 u2 (s.trans ((Same.up he).trans (Same.up hp))) upd_same
    exact ⟨f, _, _, rfl, rfl, hf9, sz (m := 60) (by omega), rest _ _ ⟨rfl, _, F9⟩⟩
  rintro _ H4x ⟨rfl, vs4, F4⟩
  -- 5
  try dsimp only
  refine cut_if (fun σ H' => σ = [some (.ref a), some (.ref x), some (.ref f), none, none, some va, some vt, some vf, some vm] ∧ ∃ vs, Fe (Tb P1 P2) (rm H a) H' a f vs [("account", va, dva), ("account", va, dva), ("name", vt, dvt), ("floor", vf, dvf), ("time", vm, dvm)]) ?_ fun rest => ?_
  rotate_left
  · have zz : vs4.length = 4 := Paired.length F4.els
    refine ⟨_, rfl, .inl ⟨rfl, _, SqL.of F4.at_⟩, F4.t, fun G2 e2 u2 => ?_⟩
    have L2 := (L.ext (F4.e.trans (ExtN.rm e2))).mono rm_same
    have Lc := L2
    obtain ⟨dx, _, _, _, hx1, _⟩ := Lc
    refine ⟨_, rfl, x, dx, _, rfl, hx1, rfl, _, rfl, ?_⟩
    try delta tCons
    try delta tC
    try delta tNil
    dsimp only
    show spBelow K [V.ref x, .str "ann", .str "coin", .int 0, vm] G2 _ _
    refine ref_below L2 DE tm (.str _ (by decide)) (strP _) (.str _ (by decide)) (.int _) (ivm _) (r := rfT vm) (by simp [fails, ca.1, cn, cf, ct, okA.1, okA.2.1, okA.2.2, okN.1, okN.2, okT.1, okT.2.1, okT.2.2, okF]) ?_
    intro H' e s he
    refine ⟨_, _, _, e, _, .inr (.inr (.inr (hcls _).2.2)), rfl, rfl, upd_same, fun p hp => ?_⟩
    obtain ⟨hf9, F9⟩ := F4.step (d := dvm) e2 u2 (s.trans ((Same.up he).trans (Same.up hp))) upd_same
    exact ⟨f, _, _, rfl, rfl, hf9, sz (m := 60) (by omega), rest _ _ ⟨rfl, _, F9⟩⟩
  rintro _ H5x ⟨rfl, vs5, F5⟩
  -- 6
  try dsimp only
  refine cut_if (fun σ H' => σ = [some (.ref a), some (.ref x), some (.ref f), none, none, some va, some vt, some vf, some vm] ∧ ∃ vs, Fe (Tb P1 P2) (rm H a) H' a f vs [("account", va, dva), ("account", va, dva), ("name", vt, dvt), ("floor", vf, dvf), ("time", vm, dvm), ("time", vm, dvm)]) ?_ fun rest => ?_
  rotate_left
  · have zz : vs5.length = 5 := Paired.length F5.els
    refine ⟨_, rfl, .inl ⟨rfl, _, SqL.of F5.at_⟩, F5.t, fun G2 e2 u2 => ?_⟩
    have L2 := (L.ext (F5.e.trans (ExtN.rm e2))).mono rm_same
    have Lc := L2
    obtain ⟨dx, _, _, _, hx1, _⟩ := Lc
    refine ⟨_, rfl, x, dx, _, rfl, hx1, rfl, _, rfl, ?_⟩
    try delta tCons
    try delta tC
    try delta tNil
    dsimp only
    show spSteps K [V.ref x, .str "ann", .str "coin", vm] G2 _ _
    refine ref_steps L2 DE tm (.str _ (by decide)) (strP _) (.str _ (by decide)) (ivm _) (r := rfT vm) (by simp [fails, ca.1, cn, cf, ct, okA.1, okA.2.1, okA.2.2, okN.1, okN.2, okT.1, okT.2.1, okT.2.2, okF]) ?_
    intro H' e s he
    refine ⟨_, _, _, e, _, .inr (.inr (.inr (hcls _).2.2)), rfl, rfl, upd_same, fun p hp => ?_⟩
    obtain ⟨hf9, F9⟩ := F5.step (d := dvm) e2 u2 (s.trans ((Same.up he).trans (Same.up hp))) upd_same
    exact ⟨f, _, _, rfl, rfl, hf9, sz (m := 60) (by omega), rest _ _ ⟨rfl, _, F9⟩⟩
  rintro _ H6x ⟨rfl, vs6, F6⟩
  -- 7
  try dsimp only
  refine cut_if (fun σ H' => σ = [some (.ref a), some (.ref x), some (.ref f), none, none, some va, some vt, some vf, some vm] ∧ ∃ vs, Fe (Tb P1 P2) (rm H a) H' a f vs [("account", va, dva), ("account", va, dva), ("name", vt, dvt), ("floor", vf, dvf), ("time", vm, dvm), ("time", vm, dvm), ("floor", vf, dvf)]) ?_ fun rest => ?_
  rotate_left
  · have zz : vs6.length = 6 := Paired.length F6.els
    refine ⟨_, rfl, .inl ⟨rfl, _, SqL.of F6.at_⟩, F6.t, fun G2 e2 u2 => ?_⟩
    have L2 := (L.ext (F6.e.trans (ExtN.rm e2))).mono rm_same
    have Lc := L2
    obtain ⟨dx, _, _, _, hx1, _⟩ := Lc
    refine ⟨_, rfl, x, dx, _, rfl, hx1, rfl, _, rfl, ?_⟩
    try delta tCons
    try delta tC
    try delta tNil
    dsimp only
    show spSeen K [V.ref x, .str "ann", .str "coin", vf] G2 _ _
    refine ref_seen L2 DE tm (.str _ (by decide)) (strP _) (.str _ (by decide)) (ivf _) (r := rfF vf) (by simp [fails, ca.1, cn, cf, ct, okA.1, okA.2.1, okA.2.2, okN.1, okN.2, okT.1, okT.2.1, okT.2.2, okF]) ?_
    intro H' e s he
    refine ⟨_, _, _, e, _, .inr (.inr (.inl (hcls _).2.1)), rfl, rfl, upd_same, fun p hp => ?_⟩
    obtain ⟨hf9, F9⟩ := F6.step (d := dvf) e2 u2 (s.trans ((Same.up he).trans (Same.up hp))) upd_same
    exact ⟨f, _, _, rfl, rfl, hf9, sz (m := 60) (by omega), rest _ _ ⟨rfl, _, F9⟩⟩
  rintro _ H7x ⟨rfl, vs7, F7⟩
  try dsimp only
  refine cut_if (fun σ H' => ∃ due dvs, σ = [some (.ref a), some (.ref x), some (.ref f), some (.ref due), none, some va, some vt, some vf, some vm] ∧ Same H7x H' ∧ due ≠ f ∧ H' due = some (.lst dvs) ∧ Paired (ElAt H') dvs [("account", va, dva), ("account", va, dva), ("name", vt, dvt), ("floor", vf, dvf), ("time", vm, dvm), ("time", vm, dvm), ("floor", vf, dvf)]) ?_ fun rest => ?_
  rotate_left
  · refine ⟨_, rfl, two_line, fun t1 h1 => ?_⟩
    have s1 := Same.up (o := .tup [.str "account", va]) h1
    refine ⟨lineN (n := 1), fun l2 h2 => ?_⟩
    have s2 := Same.up (o := .lst [.ref t1]) h2
    refine ⟨l2, 2, _, rfl, rfl, upd_same, by decide, by decide, lineN (by simp), fun r3 h3 => ?_⟩
    have s3 := Same.up (o := .lst (List.replicate (Int.toNat 2) [V.ref t1]).flatten) h3
    refine ⟨_, rfl, two_line, fun t4 h4 => ?_⟩
    have s4 := Same.up (o := .tup [.str "name", vt]) h4
    refine ⟨_, rfl, two_line, fun t5 h5 => ?_⟩
    have s5 := Same.up (o := .tup [.str "floor", vf]) h5
    refine ⟨lineN (n := 2), fun l6 h6 => ?_⟩
    have s6 := Same.up (o := .lst [.ref t4, .ref t5]) h6
    refine ⟨r3, l6, _, _, rfl, rfl, (s4.trans (s5.trans (s6))) _ _ upd_same, upd_same, lineN (by simp), fun c7 h7 => ?_⟩
    have s7 := Same.up (o := .lst ((List.replicate (Int.toNat 2) [V.ref t1]).flatten ++ [V.ref t4, V.ref t5])) h7
    refine ⟨_, rfl, two_line, fun t8 h8 => ?_⟩
    have s8 := Same.up (o := .tup [.str "time", vm]) h8
    refine ⟨lineN (n := 1), fun l9 h9 => ?_⟩
    have s9 := Same.up (o := .lst [.ref t8]) h9
    refine ⟨l9, 2, _, rfl, rfl, upd_same, by decide, by decide, lineN (by simp), fun r10 h10 => ?_⟩
    have s10 := Same.up (o := .lst (List.replicate (Int.toNat 2) [V.ref t8]).flatten) h10
    refine ⟨c7, r10, _, _, rfl, rfl, (s8.trans (s9.trans (s10))) _ _ upd_same, upd_same, lineN (by simp), fun c11 h11 => ?_⟩
    have s11 := Same.up (o := .lst (((List.replicate (Int.toNat 2) [V.ref t1]).flatten ++ [V.ref t4, V.ref t5]) ++ (List.replicate (Int.toNat 2) [V.ref t8]).flatten)) h11
    refine ⟨_, rfl, two_line, fun t12 h12 => ?_⟩
    have s12 := Same.up (o := .tup [.str "floor", vf]) h12
    refine ⟨lineN (n := 1), fun l13 h13 => ?_⟩
    have s13 := Same.up (o := .lst [.ref t12]) h13
    refine ⟨c11, l13, _, _, rfl, rfl, (s12.trans (s13)) _ _ upd_same, upd_same, lineN (by simp), fun c14 h14 => ?_⟩
    have s14 := Same.up (o := .lst ((((List.replicate (Int.toNat 2) [V.ref t1]).flatten ++ [V.ref t4, V.ref t5]) ++ (List.replicate (Int.toNat 2) [V.ref t8]).flatten) ++ [V.ref t12])) h14
    have at7 := (s1.trans (s2.trans (s3.trans (s4.trans (s5.trans (s6.trans (s7.trans (s8.trans (s9.trans (s10.trans (s11.trans (s12.trans (s13))))))))))))) _ _ F7.at_
    exact rest _ _ ⟨c14, _, rfl, s1.trans (s2.trans (s3.trans (s4.trans (s5.trans (s6.trans (s7.trans (s8.trans (s9.trans (s10.trans (s11.trans (s12.trans (s13.trans (s14))))))))))))), fun z => by (rw [← z, h14] at at7; cases at7), upd_same, .cons ⟨t1, rfl, (s2.trans (s3.trans (s4.trans (s5.trans (s6.trans (s7.trans (s8.trans (s9.trans (s10.trans (s11.trans (s12.trans (s13.trans (s14))))))))))))) _ _ upd_same⟩ (.cons ⟨t1, rfl, (s2.trans (s3.trans (s4.trans (s5.trans (s6.trans (s7.trans (s8.trans (s9.trans (s10.trans (s11.trans (s12.trans (s13.trans (s14))))))))))))) _ _ upd_same⟩ (.cons ⟨t4, rfl, (s5.trans (s6.trans (s7.trans (s8.trans (s9.trans (s10.trans (s11.trans (s12.trans (s13.trans (s14)))))))))) _ _ upd_same⟩ (.cons ⟨t5, rfl, (s6.trans (s7.trans (s8.trans (s9.trans (s10.trans (s11.trans (s12.trans (s13.trans (s14))))))))) _ _ upd_same⟩ (.cons ⟨t8, rfl, (s9.trans (s10.trans (s11.trans (s12.trans (s13.trans (s14)))))) _ _ upd_same⟩ (.cons ⟨t8, rfl, (s9.trans (s10.trans (s11.trans (s12.trans (s13.trans (s14)))))) _ _ upd_same⟩ (.cons ⟨t12, rfl, (s13.trans (s14)) _ _ upd_same⟩ (.nil)))))))⟩
  rintro _ Hd ⟨due, dvs, rfl, sd, ndf, hdue, pdue⟩
  have Fd := F7.grow sd
  clear F7
  try dsimp only
  refine cut_if (fun σ H' => ∃ vo dvo, σ = [some (.ref a), some (.ref x), some (.ref f), some (.ref due), some vo, some va, some vt, some vf, some vm] ∧ Fe (Tb P1 P2) (rm H a) H' a f vs7 [("account", va, dva), ("account", va, dva), ("name", vt, dvt), ("floor", vf, dvf), ("time", vm, dvm), ("time", vm, dvm), ("floor", vf, dvf)] ∧ H' due = some (.lst dvs) ∧ Paired (ElAt H') dvs [("account", va, dva), ("account", va, dva), ("name", vt, dvt), ("floor", vf, dvf), ("time", vm, dvm), ("time", vm, dvm), ("floor", vf, dvf)] ∧ dvo ∈ oddTD ∧ ∀ G, Is G vo dvo) ?_ fun rest => ?_
  rotate_left
  · refine ⟨_, rfl, _, rfl, lineN (n := 3), fun l1 hl1 => ?_⟩
    have s1 := Same.up (o := .lst [.non, .str "2", .int (-5)]) hl1
    have FA := Fd.grow s1
    have n1 : l1 ≠ a := fun z => Fd.d.some (by rw [← z]; exact hl1)
    refine ⟨a, l1, [.non, .str "2", .int (-5)], rfl, FA.d, n1, .inl (SqL.of upd_same), (show 1 ≤ 3 by decide), (show 3 < 1073741824 by decide), fun k1 vo o1 hv1 ho1 => ?_⟩
    obtain ⟨dvo, m1, i1⟩ := atoms_get (L' := [.non, .str "2", .int (-5)]) (fun G => .cons (.non) (.cons (.str _ (by decide)) (.cons (.int _) .nil))) hv1
    have nda : due ≠ a := draws_no Fd.d hdue pdue (by simp)
    exact rest _ _ ⟨vo, dvo, rfl, FA.pick ho1, (upd_ne nda).trans (s1 _ _ hdue), Paired.imp' (fun v q ⟨b, e1, e2⟩ => ⟨b, e1, (upd_ne (draws_lst FA.d (s1 _ _ e2))).trans (s1 _ _ e2)⟩) pdue, other_sub _ m1, i1⟩
  rintro _ Ho ⟨vo, dvo, rfl, Fo, hdueO, pdueO, mvo, ivo⟩
  have hdue0 := hdueO
  have pdue0 := pdueO
  clear Fd hdue pdue
  have co := oddT_ok _ mvo
  -- 8
  try dsimp only
  refine cut_if (fun σ H' => σ = [some (.ref a), some (.ref x), some (.ref f), some (.ref due), some vo, some va, some vt, some vf, some vm] ∧ (∃ vs, Fe (Tb P1 P2) (rm H a) H' a f vs [("account", va, dva), ("account", va, dva), ("name", vt, dvt), ("floor", vf, dvf), ("time", vm, dvm), ("time", vm, dvm), ("floor", vf, dvf), ("time", vm, dvm)]) ∧ H' due = some (.lst dvs) ∧ Paired (ElAt H') dvs [("account", va, dva), ("account", va, dva), ("name", vt, dvt), ("floor", vf, dvf), ("time", vm, dvm), ("time", vm, dvm), ("floor", vf, dvf)]) ?_ fun rest => ?_
  rotate_left
  · have zz : vs7.length = 7 := Paired.length Fo.els
    refine ⟨_, rfl, .inl ⟨rfl, _, SqL.of Fo.at_⟩, Fo.t, fun G2 e2 u2 => ?_⟩
    have L2 := (L.ext (Fo.e.trans (ExtN.rm e2))).mono rm_same
    have Lc := L2
    obtain ⟨dx, _, _, _, hx1, _⟩ := Lc
    refine ⟨_, rfl, x, dx, _, rfl, hx1, rfl, _, rfl, _, rfl, ?_⟩
    try delta tCons
    try delta tC
    try delta tNil
    dsimp only
    show spRes K [V.ref x, vm, vo, .non] G2 _ _
    refine ref_res L2 DE (ivm _) (ivo _) (.non) (r := rfT vm) (by simp [fails, ca.1, cn, cf, ct, co, okA.1, okA.2.1, okA.2.2, okN.1, okN.2, okT.1, okT.2.1, okT.2.2, okF]) ?_
    intro H' e s he
    refine ⟨_, _, _, e, _, .inr (.inr (.inr (hcls _).2.2)), rfl, rfl, upd_same, fun p hp => ?_⟩
    obtain ⟨hf9, F9⟩ := Fo.step (d := dvm) e2 u2 (s.trans ((Same.up he).trans (Same.up hp))) upd_same
    have hd2 := s _ _ (e2 _ _ hdue0 (fun _ z => by cases z))
    have sp := (Same.up (o := .xd [("time", vm)]) he).trans (Same.up (o := .tup [.str "time", vm]) hp)
    have hd3 := sp _ _ hd2
    have pd3 := el_same sp (el_same s (el_ext e2 pdue0))
    exact ⟨f, _, _, rfl, rfl, hf9, sz (m := 60) (by omega), rest _ _ ⟨rfl, ⟨_, F9⟩, (upd_ne ndf).trans hd3, el_upd hf9 pd3⟩⟩
  rintro _ H8x ⟨rfl, ⟨vs8, F8⟩, hdue1, pdue1⟩
  -- 9
  try dsimp only
  refine cut_if (fun σ H' => σ = [some (.ref a), some (.ref x), some (.ref f), some (.ref due), some vo, some va, some vt, some vf, some vm] ∧ (∃ vs, Fe (Tb P1 P2) (rm H a) H' a f vs [("account", va, dva), ("account", va, dva), ("name", vt, dvt), ("floor", vf, dvf), ("time", vm, dvm), ("time", vm, dvm), ("floor", vf, dvf), ("time", vm, dvm), ("time", vo, dvo)]) ∧ H' due = some (.lst dvs) ∧ Paired (ElAt H') dvs [("account", va, dva), ("account", va, dva), ("name", vt, dvt), ("floor", vf, dvf), ("time", vm, dvm), ("time", vm, dvm), ("floor", vf, dvf)]) ?_ fun rest => ?_
  rotate_left
  · have zz : vs8.length = 8 := Paired.length F8.els
    refine ⟨_, rfl, .inl ⟨rfl, _, SqL.of F8.at_⟩, F8.t, fun G2 e2 u2 => ?_⟩
    have L2 := (L.ext (F8.e.trans (ExtN.rm e2))).mono rm_same
    have Lc := L2
    obtain ⟨dx, _, _, _, hx1, _⟩ := Lc
    refine ⟨_, rfl, x, dx, _, rfl, hx1, rfl, _, rfl, _, rfl, ?_⟩
    try delta tCons
    try delta tC
    try delta tNil
    dsimp only
    show spRes K [V.ref x, .int 1, vo, vm] G2 _ _
    refine ref_res L2 DE (.int _) (ivo _) (ivm _) (r := rfT vo) (by simp [fails, ca.1, cn, cf, ct, co, okA.1, okA.2.1, okA.2.2, okN.1, okN.2, okT.1, okT.2.1, okT.2.2, okF]) ?_
    intro H' e s he
    refine ⟨_, _, _, e, _, .inr (.inr (.inr (hcls _).2.2)), rfl, rfl, upd_same, fun p hp => ?_⟩
    obtain ⟨hf9, F9⟩ := F8.step (d := dvo) e2 u2 (s.trans ((Same.up he).trans (Same.up hp))) upd_same
    have hd2 := s _ _ (e2 _ _ hdue1 (fun _ z => by cases z))
    have sp := (Same.up (o := .xd [("time", vo)]) he).trans (Same.up (o := .tup [.str "time", vo]) hp)
    have hd3 := sp _ _ hd2
    have pd3 := el_same sp (el_same s (el_ext e2 pdue1))
    exact ⟨f, _, _, rfl, rfl, hf9, sz (m := 60) (by omega), rest _ _ ⟨rfl, ⟨_, F9⟩, (upd_ne ndf).trans hd3, el_upd hf9 pd3⟩⟩
  rintro _ H9x ⟨rfl, ⟨vs9, F9⟩, hdue2, pdue2⟩
  -- 10
  try dsimp only
  refine cut_if (fun σ H' => σ = [some (.ref a), some (.ref x), some (.ref f), some (.ref due), some vo, some va, some vt, some vf, some vm] ∧ (∃ vs, Fe (Tb P1 P2) (rm H a) H' a f vs [("account", va, dva), ("account", va, dva), ("name", vt, dvt), ("floor", vf, dvf), ("time", vm, dvm), ("time", vm, dvm), ("floor", vf, dvf), ("time", vm, dvm), ("time", vo, dvo), ("time", vm, dvm)]) ∧ H' due = some (.lst dvs) ∧ Paired (ElAt H') dvs [("account", va, dva), ("account", va, dva), ("name", vt, dvt), ("floor", vf, dvf), ("time", vm, dvm), ("time", vm, dvm), ("floor", vf, dvf)]) ?_ fun rest => ?_
  rotate_left
  · have zz : vs9.length = 9 := Paired.length F9.els
    refine ⟨_, rfl, .inl ⟨rfl, _, SqL.of F9.at_⟩, F9.t, fun G2 e2 u2 => ?_⟩
    have L2 := (L.ext (F9.e.trans (ExtN.rm e2))).mono rm_same
    have Lc := L2
    obtain ⟨dx, _, _, _, hx1, _⟩ := Lc
    refine ⟨_, rfl, x, dx, _, rfl, hx1, rfl, _, rfl, ?_⟩
    try delta tCons
    try delta tC
    try delta tNil
    dsimp only
    show spRes K [V.ref x, .int 1, .int 2, vm] G2 _ _
    refine ref_res L2 DE (.int _) (.int _) (ivm _) (r := rfT vm) (by simp [fails, ca.1, cn, cf, ct, co, okA.1, okA.2.1, okA.2.2, okN.1, okN.2, okT.1, okT.2.1, okT.2.2, okF]) ?_
    intro H' e s he
    refine ⟨_, _, _, e, _, .inr (.inr (.inr (hcls _).2.2)), rfl, rfl, upd_same, fun p hp => ?_⟩
    obtain ⟨hf9, F9⟩ := F9.step (d := dvm) e2 u2 (s.trans ((Same.up he).trans (Same.up hp))) upd_same
    have hd2 := s _ _ (e2 _ _ hdue2 (fun _ z => by cases z))
    have sp := (Same.up (o := .xd [("time", vm)]) he).trans (Same.up (o := .tup [.str "time", vm]) hp)
    have hd3 := sp _ _ hd2
    have pd3 := el_same sp (el_same s (el_ext e2 pdue2))
    exact ⟨f, _, _, rfl, rfl, hf9, sz (m := 60) (by omega), rest _ _ ⟨rfl, ⟨_, F9⟩, (upd_ne ndf).trans hd3, el_upd hf9 pd3⟩⟩
  rintro _ H10x ⟨rfl, ⟨vs10, F10⟩, hdue3, pdue3⟩
  try dsimp only
  have aO : atomD dvo = true := odd_atoms _ (.inr (.inr (.inr mvo)))
  have ok : TrOk [("account", va, dva), ("account", va, dva), ("name", vt, dvt), ("floor", vf, dvf), ("time", vm, dvm), ("time", vm, dvm), ("floor", vf, dvf), ("time", vm, dvm), ("time", vo, dvo), ("time", vm, dvm)] := by
    refine ⟨fun p m => ?_, fun p m => ?_, fun p m => ?_⟩
    · simp only [List.mem_cons, List.not_mem_nil, or_false] at m
      rcases m with rfl | rfl | rfl | rfl | rfl | rfl | rfl | rfl | rfl | rfl
      · exact iva
      · exact iva
      · exact ivt
      · exact ivf
      · exact ivm
      · exact ivm
      · exact ivf
      · exact ivm
      · exact ivo
      · exact ivm
    · simp only [List.mem_cons, List.not_mem_nil, or_false] at m
      rcases m with rfl | rfl | rfl | rfl | rfl | rfl | rfl | rfl | rfl | rfl
      · show ("account" : Str).length ≤ 1000; decide
      · show ("account" : Str).length ≤ 1000; decide
      · show ("name" : Str).length ≤ 1000; decide
      · show ("floor" : Str).length ≤ 1000; decide
      · show ("time" : Str).length ≤ 1000; decide
      · show ("time" : Str).length ≤ 1000; decide
      · show ("floor" : Str).length ≤ 1000; decide
      · show ("time" : Str).length ≤ 1000; decide
      · show ("time" : Str).length ≤ 1000; decide
      · show ("time" : Str).length ≤ 1000; decide
    · simp only [List.mem_cons, List.not_mem_nil, or_false] at m
      rcases m with rfl | rfl | rfl | rfl | rfl | rfl | rfl | rfl | rfl | rfl
      · exact aA
      · exact aA
      · exact aN
      · exact aF
      · exact aT
      · exact aT
      · exact aF
      · exact aT
      · exact aO
      · exact aT
  have zz : vs10.length = 10 := Paired.length F10.els
  have zd : dvs.length = 7 := Paired.length pdue3
  refine ⟨_, rfl, _, rfl, ?_⟩
  refine ⟨_, rfl, two_line, fun t1 h1 => ?_⟩
  have s1 := Same.up (o := .tup [.str "time", vm]) h1
  refine ⟨_, rfl, two_line, fun t2 h2 => ?_⟩
  have s2 := Same.up (o := .tup [.str "time", vo]) h2
  refine ⟨_, rfl, two_line, fun t3 h3 => ?_⟩
  have s3 := Same.up (o := .tup [.str "time", vm]) h3
  refine ⟨lineN (n := 3), fun l4 h4 => ?_⟩
  have s4 := Same.up (o := .lst [.ref t1, .ref t2, .ref t3]) h4
  refine ⟨due, l4, _, _, rfl, rfl, (s1.trans (s2.trans (s3.trans (s4)))) _ _ hdue3, upd_same, lineN (by simp [zd]), fun c5 h5 => ?_⟩
  have s5 := Same.up (o := .lst (dvs ++ [V.ref t1, V.ref t2, V.ref t3])) h5
  have S0 := s1.trans (s2.trans (s3.trans (s4.trans (s5))))
  have FF := F10.grow S0
  refine ⟨_, _, triedD [("account", va, dva), ("account", va, dva), ("name", vt, dvt), ("floor", vf, dvf), ("time", vm, dvm), ("time", vm, dvm), ("floor", vf, dvf), ("time", vm, dvm), ("time", vo, dvo), ("time", vm, dvm)], rfl, .lst FF.at_ (tried_isA FF.els ok) (by omega), .lst upd_same (tried_isA (paired_app (el_same S0 pdue3) (.cons ⟨t1, rfl, (s2.trans (s3.trans (s4.trans (s5)))) _ _ upd_same⟩ (.cons ⟨t2, rfl, (s3.trans (s4.trans (s5))) _ _ upd_same⟩ (.cons ⟨t3, rfl, (s4.trans (s5)) _ _ upd_same⟩ (.nil))))) ok) (by rw [List.length_append, zd]; show 7 + 3 ≤ 60; decide), tried_dep ok, fun H9 s9 => ?_⟩
  have FG := FF.grow s9
  exact q _ FG.d FG.e FG.t
end
end K28

set_option Elab.async false
set_option linter.all false
set_option maxRecDepth 100000
set_option maxHeartbeats 4000000
namespace K28
open PySem PySem.Spec PyProof.Rows L2 L2.DX Sr LamX
section
variable {P : Program} {w : World} {K : PySem.W.Frag} {mg : Str → Option Value} {base : Heap}
abbrev s__law_each_refused : Stmt := top 52
theorem sc__law_each_refused : FnScope ["draws", "ledger", "found", "due", "account", "thing", "floor", "time"] ["draws", "ledger"] (defScope s__law_each_refused) := ⟨rfl, rfl, rfl, by decide +kernel, rfl, by decide +kernel, by decide +kernel⟩
theorem c__law_each_refused {P1 P2 CA CN CF CT fA fN fF fT : Addr} (T : Txt K mg) (F : LgF K) (D : Dfn K mg "_law_each_refused" s__law_each_refused) (TB : TabB base mg (He.codeOf K ("_law_each_refused", none)) P2) (nP : P1 ≠ P2) (D_law_tried : Dfn K mg "_law_tried" s__law_tried)
    (hA : mg "BadAccount" = some (.ref CA)) (hN : mg "BadName" = some (.ref CN)) (hF : mg "BadFloor" = some (.ref CF)) (hT : mg "BadTime" = some (.ref CT)) (EA : Err K CA fA "account") (EN : Err K CN fN "thing") (EF : Err K CF fF "floor") (ET : Err K CT fT "time") (eA : CA = He.ga K "BadAccount") (eN : CN = He.ga K "BadName") (eF : CF = He.ga K "BadFloor") (eT : CT = He.ga K "BadTime")
    (x11 : PySem.W.exmOne K (.ref CA) (.ref CA) = some true) (x22 : PySem.W.exmOne K (.ref CN) (.ref CN) = some true) (x33 : PySem.W.exmOne K (.ref CF) (.ref CF) = some true) (x44 : PySem.W.exmOne K (.ref CT) (.ref CT) = some true)
    (x21 : PySem.W.exmOne K (.ref CN) (.ref CA) = some false) (x31 : PySem.W.exmOne K (.ref CF) (.ref CA) = some false) (x32 : PySem.W.exmOne K (.ref CF) (.ref CN) = some false) (x41 : PySem.W.exmOne K (.ref CT) (.ref CA) = some false) (x42 : PySem.W.exmOne K (.ref CT) (.ref CN) = some false) (x43 : PySem.W.exmOne K (.ref CT) (.ref CF) = some false)
    (C_law_pick : Cal P w K mg base 2 "_law_pick" ["draws", "xs"] (spPick K)) (C_law_same : Cal P w K mg base 6 "_law_same" ["found", "due"] (spDeep 5))
    (MSt : CalM P w K mg base (L2.CX P w) 6 (He.fAd K ("Ledger", some "known_steps")) ["self", "account", "thing", "valid"] (spSteps K)) (NSt : Meth K (He.ga K "Ledger") "known_steps" (He.fAd K ("Ledger", some "known_steps"))) (MFi : CalM P w K mg base (L2.CX P w) 6 (He.fAd K ("Ledger", some "first_below")) ["self", "account", "thing", "floor", "known"] (spBelow K)) (NFi : Meth K (He.ga K "Ledger") "first_below" (He.fAd K ("Ledger", some "first_below")))
    (MSe : CalM P w K mg base (L2.CX P w) 7 (He.fAd K ("Ledger", some "seen_below")) ["self", "account", "thing", "floor"] (spSeen K)) (NSe : Meth K (He.ga K "Ledger") "seen_below" (He.fAd K ("Ledger", some "seen_below"))) :
    Cal P w K mg base 12 "_law_each_refused" ["draws", "ledger"] (spRef K P1 P2) := by
  refine calT D sc__law_each_refused (fun _ _ _ _ _ _ us hl => match us, hl with | [_, _], _ => rfl) (fun vs H Q E h => ?_) fun A outer s H vs Q E hr h => ?_
  · obtain ⟨a, x, ds, es, rfl, _⟩ := h
    rfl
  obtain ⟨a, x, ds, es, rfl, hd, L, DE, tm, tab, q⟩ := h
  refine ⟨_, PSs.nox (pss_cons (ps_asg (pe_tup (pa_cons (pe_cal C_law_pick hr (by first | decide | omega) (by rfl) (pa_cons (pv 0) (pa_cons (pe_lst (pa_cons pe_str (pa_cons pe_non (pa_cons pe_int (pa_cons pe_str pa_nil))))) pa_nil))) (pa_cons (pe_cal C_law_pick hr (by first | decide | omega) (by rfl) (pa_cons (pv 0) (pa_cons (pe_lst (pa_cons pe_str (pa_cons pe_non (pa_cons pe_int (pa_cons pe_str pa_nil))))) pa_nil))) pa_nil))) (pg_tup rfl (pgs_cons (pg_name (i := 4) sc__law_each_refused.nd rfl (by first | exact Or.inl rfl | exact Or.inr rfl)) (pgs_cons (pg_name (i := 5) sc__law_each_refused.nd rfl (by first | exact Or.inl rfl | exact Or.inr rfl)) pgs_nil))))
      (pss_cons (ps_asg (pe_tup (pa_cons (pe_cal C_law_pick hr (by first | decide | omega) (by rfl) (pa_cons (pv 0) (pa_cons (pe_lst (pa_cons pe_int (pa_cons pe_non (pa_cons pe_str (pa_cons pe_bl pa_nil))))) pa_nil))) (pa_cons (pe_cal C_law_pick hr (by first | decide | omega) (by rfl) (pa_cons (pv 0) (pa_cons (pe_lst (pa_cons (pe_un un_neg pe_int) (pa_cons pe_non (pa_cons pe_str (pa_cons pe_bl pa_nil))))) pa_nil))) pa_nil))) (pg_tup rfl (pgs_cons (pg_name (i := 6) sc__law_each_refused.nd rfl (by first | exact Or.inl rfl | exact Or.inr rfl)) (pgs_cons (pg_name (i := 7) sc__law_each_refused.nd rfl (by first | exact Or.inl rfl | exact Or.inr rfl)) pgs_nil))))
      (pss_cons (ps_set (i := 2) sc__law_each_refused.nd rfl (by first | exact Or.inl rfl | exact Or.inr rfl) (pe_lst (pa_cons (pe_lamT (Tb P1 P2) ("_law_each_refused" ++ ".<locals>.") D_law_tried sc__law_tried (fun _ _ _ _ _ _ us hl => match us, hl with | [_], _ => rfl) (.tail _ (.head _)) (fun p hp e => by simp only [List.mem_cons, List.not_mem_nil, or_false] at hp; rcases hp with rfl | rfl; exact absurd e nP; exact rfl) (fun cdv => g_tried hA hN hF hT EA EN EF ET x11 x22 x33 x44 x21 x31 x32 x41 x42 x43 cdv _) TB rfl hr (fun A outer s H E f c' hr => (mE_ MSt hr (by decide) F.cl NSt (passes_def rfl rfl rfl rfl) (pv 1) (pa_cons (pv 4) (pa_cons pe_str (pa_cons pe_int pa_nil))))) (by rfl) (lamS_by (by show lamSB (defScope s__law_each_refused) _ = true; decide +kernel)) (fun _ _ _ _ _ => rfl)) pa_nil)))
      (pss_cons (ps_expr (pe_bm PySem.F.plainAttrs_list PySem.F.slot_list_append PySem.F.type_list_append mt_append (pv 2) (pa_cons (pe_lamT (Tb P1 P2) ("_law_each_refused" ++ ".<locals>.") D_law_tried sc__law_tried (fun _ _ _ _ _ _ us hl => match us, hl with | [_], _ => rfl) (.tail _ (.head _)) (fun p hp e => by simp only [List.mem_cons, List.not_mem_nil, or_false] at hp; rcases hp with rfl | rfl; exact absurd e nP; exact rfl) (fun cdv => g_tried hA hN hF hT EA EN EF ET x11 x22 x33 x44 x21 x31 x32 x41 x42 x43 cdv _) TB rfl hr (fun A outer s H E f c' hr => (mE_ MFi hr (by decide) F.cl NFi (passes_def rfl rfl rfl rfl) (pv 1) (pa_cons (pv 4) (pa_cons pe_str (pa_cons pe_int (pa_cons pe_int pa_nil)))))) (by rfl) (lamS_by (by show lamSB (defScope s__law_each_refused) _ = true; decide +kernel)) (fun _ _ _ _ _ => rfl)) pa_nil)))
      (pss_cons (ps_expr (pe_bm PySem.F.plainAttrs_list PySem.F.slot_list_append PySem.F.type_list_append mt_append (pv 2) (pa_cons (pe_lamT (Tb P1 P2) ("_law_each_refused" ++ ".<locals>.") D_law_tried sc__law_tried (fun _ _ _ _ _ _ us hl => match us, hl with | [_], _ => rfl) (.tail _ (.head _)) (fun p hp e => by simp only [List.mem_cons, List.not_mem_nil, or_false] at hp; rcases hp with rfl | rfl; exact absurd e nP; exact rfl) (fun cdv => g_tried hA hN hF hT EA EN EF ET x11 x22 x33 x44 x21 x31 x32 x41 x42 x43 cdv _) TB rfl hr (fun A outer s H E f c' hr => (mE_ MSe hr (by decide) F.cl NSe (passes_def rfl rfl rfl rfl) (pv 1) (pa_cons (pv 4) (pa_cons pe_str (pa_cons pe_int pa_nil))))) (by rfl) (lamS_by (by show lamSB (defScope s__law_each_refused) _ = true; decide +kernel)) (fun _ _ _ _ _ => rfl)) pa_nil)))
      (pss_cons (ps_expr (pe_bm PySem.F.plainAttrs_list PySem.F.slot_list_append PySem.F.type_list_append mt_append (pv 2) (pa_cons (pe_lamT (Tb P1 P2) ("_law_each_refused" ++ ".<locals>.") D_law_tried sc__law_tried (fun _ _ _ _ _ _ us hl => match us, hl with | [_], _ => rfl) (.tail _ (.head _)) (fun p hp e => by simp only [List.mem_cons, List.not_mem_nil, or_false] at hp; rcases hp with rfl | rfl; exact absurd e nP; exact rfl) (fun cdv => g_tried hA hN hF hT EA EN EF ET x11 x22 x33 x44 x21 x31 x32 x41 x42 x43 cdv _) TB rfl hr (fun A outer s H E f c' hr => (mE_ MSt hr (by decide) F.cl NSt (passes_def rfl rfl rfl rfl) (pv 1) (pa_cons pe_str (pa_cons (pv 5) (pa_cons pe_int pa_nil))))) (by rfl) (lamS_by (by show lamSB (defScope s__law_each_refused) _ = true; decide +kernel)) (fun _ _ _ _ _ => rfl)) pa_nil)))
      (pss_cons (ps_expr (pe_bm PySem.F.plainAttrs_list PySem.F.slot_list_append PySem.F.type_list_append mt_append (pv 2) (pa_cons (pe_lamT (Tb P1 P2) ("_law_each_refused" ++ ".<locals>.") D_law_tried sc__law_tried (fun _ _ _ _ _ _ us hl => match us, hl with | [_], _ => rfl) (.tail _ (.head _)) (fun p hp e => by simp only [List.mem_cons, List.not_mem_nil, or_false] at hp; rcases hp with rfl | rfl; exact absurd e nP; exact rfl) (fun cdv => g_tried hA hN hF hT EA EN EF ET x11 x22 x33 x44 x21 x31 x32 x41 x42 x43 cdv _) TB rfl hr (fun A outer s H E f c' hr => (mE_ MFi hr (by decide) F.cl NFi (passes_def rfl rfl rfl rfl) (pv 1) (pa_cons pe_str (pa_cons (pv 5) (pa_cons pe_int (pa_cons pe_int pa_nil)))))) (by rfl) (lamS_by (by show lamSB (defScope s__law_each_refused) _ = true; decide +kernel)) (fun _ _ _ _ _ => rfl)) pa_nil)))
      (pss_cons (ps_expr (pe_bm PySem.F.plainAttrs_list PySem.F.slot_list_append PySem.F.type_list_append mt_append (pv 2) (pa_cons (pe_lamT (Tb P1 P2) ("_law_each_refused" ++ ".<locals>.") D_law_tried sc__law_tried (fun _ _ _ _ _ _ us hl => match us, hl with | [_], _ => rfl) (.tail _ (.head _)) (fun p hp e => by simp only [List.mem_cons, List.not_mem_nil, or_false] at hp; rcases hp with rfl | rfl; exact absurd e nP; exact rfl) (fun cdv => g_tried hA hN hF hT EA EN EF ET x11 x22 x33 x44 x21 x31 x32 x41 x42 x43 cdv _) TB rfl hr (fun A outer s H E f c' hr => (mE_ MSe hr (by decide) F.cl NSe (passes_def rfl rfl rfl rfl) (pv 1) (pa_cons pe_str (pa_cons (pv 5) (pa_cons pe_int pa_nil))))) (by rfl) (lamS_by (by show lamSB (defScope s__law_each_refused) _ = true; decide +kernel)) (fun _ _ _ _ _ => rfl)) pa_nil)))
      (pss_cons (ps_expr (pe_bm PySem.F.plainAttrs_list PySem.F.slot_list_append PySem.F.type_list_append mt_append (pv 2) (pa_cons (pe_lamT (Tb P1 P2) ("_law_each_refused" ++ ".<locals>.") D_law_tried sc__law_tried (fun _ _ _ _ _ _ us hl => match us, hl with | [_], _ => rfl) (.tail _ (.head _)) (fun p hp e => by simp only [List.mem_cons, List.not_mem_nil, or_false] at hp; rcases hp with rfl | rfl; exact absurd e nP; exact rfl) (fun cdv => g_tried hA hN hF hT EA EN EF ET x11 x22 x33 x44 x21 x31 x32 x41 x42 x43 cdv _) TB rfl hr (fun A outer s H E f c' hr => (mE_ MFi hr (by decide) F.cl NFi (passes_def rfl rfl rfl rfl) (pv 1) (pa_cons pe_str (pa_cons pe_str (pa_cons (pv 6) (pa_cons pe_int pa_nil)))))) (by rfl) (lamS_by (by show lamSB (defScope s__law_each_refused) _ = true; decide +kernel)) (fun _ _ _ _ _ => rfl)) pa_nil)))
      (pss_cons (ps_expr (pe_bm PySem.F.plainAttrs_list PySem.F.slot_list_append PySem.F.type_list_append mt_append (pv 2) (pa_cons (pe_lamT (Tb P1 P2) ("_law_each_refused" ++ ".<locals>.") D_law_tried sc__law_tried (fun _ _ _ _ _ _ us hl => match us, hl with | [_], _ => rfl) (.tail _ (.head _)) (fun p hp e => by simp only [List.mem_cons, List.not_mem_nil, or_false] at hp; rcases hp with rfl | rfl; exact absurd e nP; exact rfl) (fun cdv => g_tried hA hN hF hT EA EN EF ET x11 x22 x33 x44 x21 x31 x32 x41 x42 x43 cdv _) TB rfl hr (fun A outer s H E f c' hr => (mE_ MSe hr (by decide) F.cl NSe (passes_def rfl rfl rfl rfl) (pv 1) (pa_cons pe_str (pa_cons pe_str (pa_cons (pv 6) pa_nil))))) (by rfl) (lamS_by (by show lamSB (defScope s__law_each_refused) _ = true; decide +kernel)) (fun _ _ _ _ _ => rfl)) pa_nil)))
      (pss_cons (ps_expr (pe_bm PySem.F.plainAttrs_list PySem.F.slot_list_append PySem.F.type_list_append mt_append (pv 2) (pa_cons (pe_lamT (Tb P1 P2) ("_law_each_refused" ++ ".<locals>.") D_law_tried sc__law_tried (fun _ _ _ _ _ _ us hl => match us, hl with | [_], _ => rfl) (.tail _ (.head _)) (fun p hp e => by simp only [List.mem_cons, List.not_mem_nil, or_false] at hp; rcases hp with rfl | rfl; exact absurd e nP; exact rfl) (fun cdv => g_tried hA hN hF hT EA EN EF ET x11 x22 x33 x44 x21 x31 x32 x41 x42 x43 cdv _) TB rfl hr (fun A outer s H E f c' hr => (mE_ MSt hr (by decide) F.cl NSt (passes_def rfl rfl rfl rfl) (pv 1) (pa_cons pe_str (pa_cons pe_str (pa_cons (pv 7) pa_nil))))) (by rfl) (lamS_by (by show lamSB (defScope s__law_each_refused) _ = true; decide +kernel)) (fun _ _ _ _ _ => rfl)) pa_nil)))
      (pss_cons (ps_expr (pe_bm PySem.F.plainAttrs_list PySem.F.slot_list_append PySem.F.type_list_append mt_append (pv 2) (pa_cons (pe_lamT (Tb P1 P2) ("_law_each_refused" ++ ".<locals>.") D_law_tried sc__law_tried (fun _ _ _ _ _ _ us hl => match us, hl with | [_], _ => rfl) (.tail _ (.head _)) (fun p hp e => by simp only [List.mem_cons, List.not_mem_nil, or_false] at hp; rcases hp with rfl | rfl; exact absurd e nP; exact rfl) (fun cdv => g_tried hA hN hF hT EA EN EF ET x11 x22 x33 x44 x21 x31 x32 x41 x42 x43 cdv _) TB rfl hr (fun A outer s H E f c' hr => (mE_ MFi hr (by decide) F.cl NFi (passes_def rfl rfl rfl rfl) (pv 1) (pa_cons pe_str (pa_cons pe_str (pa_cons pe_int (pa_cons (pv 7) pa_nil)))))) (by rfl) (lamS_by (by show lamSB (defScope s__law_each_refused) _ = true; decide +kernel)) (fun _ _ _ _ _ => rfl)) pa_nil)))
      (pss_cons (ps_set (i := 3) sc__law_each_refused.nd rfl (by first | exact Or.inl rfl | exact Or.inr rfl) (pe_op op_cat (pe_op op_cat (pe_op op_cat (pe_op op_rep (pe_lst (pa_cons (pe_tup (pa_cons pe_str (pa_cons (pv 4) pa_nil))) pa_nil)) pe_int) (pe_op op_rep (pe_lst (pa_cons (pe_tup (pa_cons pe_str (pa_cons (pv 5) pa_nil))) pa_nil)) pe_int)) (pe_op op_rep (pe_lst (pa_cons (pe_tup (pa_cons pe_str (pa_cons (pv 6) pa_nil))) pa_nil)) pe_int)) (pe_op op_rep (pe_lst (pa_cons (pe_tup (pa_cons pe_str (pa_cons (pv 7) pa_nil))) pa_nil)) pe_int)))
      (pss_one (ps_ret (pe_cal C_law_same hr (by first | decide | omega) (by rfl) (pa_cons (pv 2) (pa_cons (pv 3) pa_nil)))))))))))))))))), ?_⟩

  refine cut_if (fun σ H' => ∃ va vt dva dvt, σ = [some (.ref a), some (.ref x), none, none, some va, some vt, none, none] ∧ DrawsAt H' a ∧ Same (rm H a) (rm H' a) ∧ dva ∈ oddAD ∧ dvt ∈ oddND ∧ (∀ G, Is G va dva) ∧ ∀ G, Is G vt dvt) ?_ fun rest => ?_
  rotate_left
  · refine ⟨_, rfl, lineN (n := 4), fun l1 hl1 => ?_⟩
    have s1 := Same.up (o := .lst [.str "Ann", .non, .int 5, .str "the-bank"]) hl1
    have dA := hd.up s1
    have n1 : l1 ≠ a := fun z => hd.some (by rw [← z]; exact hl1)
    refine ⟨a, l1, [.str "Ann", .non, .int 5, .str "the-bank"], rfl, dA, n1, .inl (SqL.of upd_same), (show 1 ≤ 4 by decide), (show 4 < 1073741824 by decide), fun k1 va o1 hv1 ho1 => ?_⟩
    obtain ⟨dva, m1, i1⟩ := atoms_get (L' := [.str "Ann", .non, .int 5, .str "the-bank"]) (fun G => .cons (.str _ (by decide)) (.cons (.non) (.cons (.int _) (.cons (.str _ (by decide)) .nil)))) hv1
    have dB : DrawsAt (upd (upd H l1 (.lst [.str "Ann", .non, .int 5, .str "the-bank"])) a o1) a := ⟨o1, upd_same, ho1⟩
    refine ⟨_, rfl, lineN (n := 4), fun l2 hl2 => ?_⟩
    have s2 := Same.up (o := .lst [.str "X", .non, .int 5, .str ""]) hl2
    have n2 : l2 ≠ a := fun z => dB.some (by rw [z] at hl2; exact hl2)
    refine ⟨a, l2, [.str "X", .non, .int 5, .str ""], rfl, dB.up s2, n2, .inl (SqL.of upd_same), (show 1 ≤ 4 by decide), (show 4 < 1073741824 by decide), fun k2 vt o2 hv2 ho2 => ?_⟩
    obtain ⟨dvt, m2, i2⟩ := atoms_get (L' := [.str "X", .non, .int 5, .str ""]) (fun G => .cons (.str _ (by decide)) (.cons (.non) (.cons (.int _) (.cons (.str _ (by decide)) .nil)))) hv2
    refine ⟨two_line, fun t ht => ?_⟩
    have st := Same.up (o := .tup [va, vt]) ht
    have dC : DrawsAt (upd (upd (upd (upd H l1 (.lst [.str "Ann", .non, .int 5, .str "the-bank"])) a o1) l2 (.lst [.str "X", .non, .int 5, .str ""])) a o2) a := ⟨o2, upd_same, ho2⟩
    refine ⟨t, _, rfl, SqT.of upd_same, rfl, _, _, rfl, _, _, rfl, rfl, rest _ _ ⟨va, vt, dva, dvt, rfl, dC.up st, ?_, m1, m2, i1, i2⟩⟩
    refine Same.trans (Same.trans (Same.rm s1) ?_) (Same.rm st)
    rw [rm_upd]
    refine Same.trans ?_ (Same.rm s2)
    rw [rm_upd]
    exact Same.refl _
  rintro _ H1 ⟨va, vt, dva, dvt, rfl, drH1, smH1, mva, mvt, iva, ivt⟩
  try dsimp only
  refine cut_if (fun σ H' => ∃ vf vm dvf dvm, σ = [some (.ref a), some (.ref x), none, none, some va, some vt, some vf, some vm] ∧ DrawsAt H' a ∧ Same (rm H1 a) (rm H' a) ∧ dvf ∈ oddFD ∧ dvm ∈ oddTD ∧ (∀ G, Is G vf dvf) ∧ ∀ G, Is G vm dvm) ?_ fun rest => ?_
  rotate_left
  · refine ⟨_, rfl, lineN (n := 4), fun l1 hl1 => ?_⟩
    have s1 := Same.up (o := .lst [.int 1, .non, .str "0", .bl false]) hl1
    have dA := drH1.up s1
    have n1 : l1 ≠ a := fun z => drH1.some (by rw [← z]; exact hl1)
    refine ⟨a, l1, [.int 1, .non, .str "0", .bl false], rfl, dA, n1, .inl (SqL.of upd_same), (show 1 ≤ 4 by decide), (show 4 < 1073741824 by decide), fun k1 vf o1 hv1 ho1 => ?_⟩
    obtain ⟨dvf, m1, i1⟩ := atoms_get (L' := [.int 1, .non, .str "0", .bl false]) (fun G => .cons (.int _) (.cons (.non) (.cons (.str _ (by decide)) (.cons (.bl _) .nil)))) hv1
    have dB : DrawsAt (upd (upd H1 l1 (.lst [.int 1, .non, .str "0", .bl false])) a o1) a := ⟨o1, upd_same, ho1⟩
    refine ⟨_, rfl, _, rfl, lineN (n := 4), fun l2 hl2 => ?_⟩
    have s2 := Same.up (o := .lst [.int (-1), .non, .str "1", .bl true]) hl2
    have n2 : l2 ≠ a := fun z => dB.some (by rw [z] at hl2; exact hl2)
    refine ⟨a, l2, [.int (-1), .non, .str "1", .bl true], rfl, dB.up s2, n2, .inl (SqL.of upd_same), (show 1 ≤ 4 by decide), (show 4 < 1073741824 by decide), fun k2 vm o2 hv2 ho2 => ?_⟩
    obtain ⟨dvm, m2, i2⟩ := atoms_get (L' := [.int (-1), .non, .str "1", .bl true]) (fun G => .cons (.int _) (.cons (.non) (.cons (.str _ (by decide)) (.cons (.bl _) .nil)))) hv2
    refine ⟨two_line, fun t ht => ?_⟩
    have st := Same.up (o := .tup [vf, vm]) ht
    have dC : DrawsAt (upd (upd (upd (upd H1 l1 (.lst [.int 1, .non, .str "0", .bl false])) a o1) l2 (.lst [.int (-1), .non, .str "1", .bl true])) a o2) a := ⟨o2, upd_same, ho2⟩
    refine ⟨t, _, rfl, SqT.of upd_same, rfl, _, _, rfl, _, _, rfl, rfl, rest _ _ ⟨vf, vm, dvf, dvm, rfl, dC.up st, ?_, List.mem_append_left [Dt.int 1000000000] m1, List.mem_append_left [Dt.int 1000001, .str "2", .int (-5)] m2, i1, i2⟩⟩
    refine Same.trans (Same.trans (Same.rm s1) ?_) (Same.rm st)
    rw [rm_upd]
    refine Same.trans ?_ (Same.rm s2)
    rw [rm_upd]
    exact Same.refl _
  rintro _ H2 ⟨vf, vm, dvf, dvm, rfl, drH2, smH2, mvf, mvm, ivf, ivm⟩
  try dsimp only
  have ca := oddA_ok _ mva
  have cn := oddN_ok _ mvt
  have cf := oddF_ok _ mvf
  have ct := oddT_ok _ mvm
  have tabH2 : Tabs (Tb P1 P2) H2 := Tabs.ext (Tabs.off tab hd) ((smH1.trans smH2).trans rm_same)
  have sM := smH1.trans smH2
  have aA : atomD dva = true := odd_atoms _ (.inl mva)
  have aN : atomD dvt = true := odd_atoms _ (.inr (.inl mvt))
  have aF : atomD dvf = true := odd_atoms _ (.inr (.inr (.inl mvf)))
  have aT : atomD dvm = true := odd_atoms _ (.inr (.inr (.inr mvm)))
  have hcls : ∀ v : V, ((He.ga K (rfA v).C = CA ∧ (rfA v).at_ = "account" ∧ (rfA v).w = "account") ∧ (He.ga K (rfN v).C = CN ∧ (rfN v).at_ = "thing" ∧ (rfN v).w = "name")) ∧ (He.ga K (rfF v).C = CF ∧ (rfF v).at_ = "floor" ∧ (rfF v).w = "floor") ∧ (He.ga K (rfT v).C = CT ∧ (rfT v).at_ = "time" ∧ (rfT v).w = "time") := fun v => ⟨⟨⟨eA.symm, rfl, rfl⟩, eN.symm, rfl, rfl⟩, ⟨eF.symm, rfl, rfl⟩, eT.symm, rfl, rfl⟩
  -- 1
  try dsimp only
  refine cut_if (fun σ H' => ∃ f vs, σ = [some (.ref a), some (.ref x), some (.ref f), none, some va, some vt, some vf, some vm] ∧ Fe (Tb P1 P2) (rm H a) H' a f vs [("account", va, dva)]) ?_ fun rest => ?_
  rotate_left
  · refine ⟨tabH2, fun G2 e2 u2 => ?_⟩
    have L2 := (L.ext ((ExtN.of sM).trans (ExtN.rm e2))).mono rm_same
    have Lc := L2
    obtain ⟨dx, _, _, _, hx1, _⟩ := Lc
    refine ⟨_, rfl, x, dx, _, rfl, hx1, rfl, _, rfl, ?_⟩
    try delta tCons
    try delta tC
    try delta tNil
    dsimp only
    show spSteps K [V.ref x, va, .str "coin", .int 3] G2 _ _
    refine ref_steps L2 DE tm (iva _) ca.2 (.str _ (by decide)) (.int _) (r := rfA va) (by simp [fails, ca.1, cn, cf, ct, okA.1, okA.2.1, okA.2.2, okN.1, okN.2, okT.1, okT.2.1, okT.2.2, okF]) ?_
    intro H' e s he
    refine ⟨_, _, _, e, _, .inl (hcls _).1.1, rfl, rfl, upd_same, fun p hp => ⟨lineN (n := 1), fun f hf => ?_⟩⟩
    exact rest _ _ ⟨f, _, rfl, Fe.first drH2 (ExtN.of sM) e2 u2 (s.trans ((Same.up he).trans (Same.up hp))) upd_same hf⟩
  rintro _ H1x ⟨f, vs1, rfl, F1⟩
  -- 2
  try dsimp only
  refine cut_if (fun σ H' => σ = [some (.ref a), some (.ref x), some (.ref f), none, some va, some vt, some vf, some vm] ∧ ∃ vs, Fe (Tb P1 P2) (rm H a) H' a f vs [("account", va, dva), ("account", va, dva)]) ?_ fun rest => ?_
  rotate_left
  · have zz : vs1.length = 1 := Paired.length F1.els
    refine ⟨_, rfl, .inl ⟨rfl, _, SqL.of F1.at_⟩, F1.t, fun G2 e2 u2 => ?_⟩
    have L2 := (L.ext (F1.e.trans (ExtN.rm e2))).mono rm_same
    have Lc := L2
    obtain ⟨dx, _, _, _, hx1, _⟩ := Lc
    refine ⟨_, rfl, x, dx, _, rfl, hx1, rfl, _, rfl, ?_⟩
    try delta tCons
    try delta tC
    try delta tNil
    dsimp only
    show spBelow K [V.ref x, va, .str "coin", .int 0, .int 3] G2 _ _
    refine ref_below L2 DE tm (iva _) ca.2 (.str _ (by decide)) (.int _) (.int _) (r := rfA va) (by simp [fails, ca.1, cn, cf, ct, okA.1, okA.2.1, okA.2.2, okN.1, okN.2, okT.1, okT.2.1, okT.2.2, okF]) ?_
    intro H' e s he
    refine ⟨_, _, _, e, _, .inl (hcls _).1.1, rfl, rfl, upd_same, fun p hp => ?_⟩
    obtain ⟨hf9, F9⟩ := F1.step (d := dva) e2 u2 (s.trans ((Same.up he).trans (Same.up hp))) upd_same
    exact ⟨f, _, _, rfl, rfl, hf9, sz (m := 60) (by omega), rest _ _ ⟨rfl, _, F9⟩⟩
  rintro _ H2x ⟨rfl, vs2, F2⟩
  -- 3
  try dsimp only
  refine cut_if (fun σ H' => σ = [some (.ref a), some (.ref x), some (.ref f), none, some va, some vt, some vf, some vm] ∧ ∃ vs, Fe (Tb P1 P2) (rm H a) H' a f vs [("account", va, dva), ("account", va, dva), ("account", va, dva)]) ?_ fun rest => ?_
  rotate_left
  · have zz : vs2.length = 2 := Paired.length F2.els
    refine ⟨_, rfl, .inl ⟨rfl, _, SqL.of F2.at_⟩, F2.t, fun G2 e2 u2 => ?_⟩
    have L2 := (L.ext (F2.e.trans (ExtN.rm e2))).mono rm_same
    have Lc := L2
    obtain ⟨dx, _, _, _, hx1, _⟩ := Lc
    refine ⟨_, rfl, x, dx, _, rfl, hx1, rfl, _, rfl, ?_⟩
    try delta tCons
    try delta tC
    try delta tNil
    dsimp only
    show spSeen K [V.ref x, va, .str "coin", .int 0] G2 _ _
    refine ref_seen L2 DE tm (iva _) ca.2 (.str _ (by decide)) (.int _) (r := rfA va) (by simp [fails, ca.1, cn, cf, ct, okA.1, okA.2.1, okA.2.2, okN.1, okN.2, okT.1, okT.2.1, okT.2.2, okF]) ?_
    intro H' e s he
    refine ⟨_, _, _, e, _, .inl (hcls _).1.1, rfl, rfl, upd_same, fun p hp => ?_⟩
    obtain ⟨hf9, F9⟩ := F2.step (d := dva) e2 u2 (s.trans ((Same.up he).trans (Same.up hp))) upd_same
    exact ⟨f, _, _, rfl, rfl, hf9, sz (m := 60) (by omega), rest _ _ ⟨rfl, _, F9⟩⟩
  rintro _ H3x ⟨rfl, vs3, F3⟩
  -- 4
  try dsimp only
  refine cut_if (fun σ H' => σ = [some (.ref a), some (.ref x), some (.ref f), none, some va, some vt, some vf, some vm] ∧ ∃ vs, Fe (Tb P1 P2) (rm H a) H' a f vs [("account", va, dva), ("account", va, dva), ("account", va, dva), ("name", vt, dvt)]) ?_ fun rest => ?_
  rotate_left
  · have zz : vs3.length = 3 := Paired.length F3.els
    refine ⟨_, rfl, .inl ⟨rfl, _, SqL.of F3.at_⟩, F3.t, fun G2 e2 u2 => ?_⟩
    have L2 := (L.ext (F3.e.trans (ExtN.rm e2))).mono rm_same
    have Lc := L2
    obtain ⟨dx, _, _, _, hx1, _⟩ := Lc
    refine ⟨_, rfl, x, dx, _, rfl, hx1, rfl, _, rfl, ?_⟩
    try delta tCons
    try delta tC
    try delta tNil
    dsimp only
    show spSteps K [V.ref x, .str "ann", vt, .int 3] G2 _ _
    refine ref_steps L2 DE tm (.str _ (by decide)) (strP _) (ivt _) (.int _) (r := rfN vt) (by simp [fails, ca.1, cn, cf, ct, okA.1, okA.2.1, okA.2.2, okN.1, okN.2, okT.1, okT.2.1, okT.2.2, okF]) ?_
    intro H' e s he
    refine ⟨_, _, _, e, _, .inr (.inl (hcls _).1.2), rfl, rfl, upd_same, fun p hp => ?_⟩
    obtain ⟨hf9, F9⟩ := F3.step (d := dvt) e2 u2 (s.trans ((Same.up he).trans (Same.up hp))) upd_same
    exact ⟨f, _, _, rfl, rfl, hf9, sz (m := 60) (by omega), rest _ _ ⟨rfl, _, F9⟩⟩
  rintro _ H4x ⟨rfl, vs4, F4⟩
  -- 5
  try dsimp only
  refine cut_if (fun σ H' => σ = [some (.ref a), some (.ref x), some (.ref f), none, some va, some vt, some vf, some vm] ∧ ∃ vs, Fe (Tb P1 P2) (rm H a) H' a f vs [("account", va, dva), ("account", va, dva), ("account", va, dva), ("name", vt, dvt), ("name", vt, dvt)]) ?_ fun rest => ?_
  rotate_left
  · have zz : vs4.length = 4 := Paired.length F4.els
    refine ⟨_, rfl, .inl ⟨rfl, _, SqL.of F4.at_⟩, F4.t, fun G2 e2 u2 => ?_⟩
    have L2 := (L.ext (F4.e.trans (ExtN.rm e2))).mono rm_same
    have Lc := L2
    obtain ⟨dx, _, _, _, hx1, _⟩ := Lc
    refine ⟨_, rfl, x, dx, _, rfl, hx1, rfl, _, rfl, ?_⟩
    try delta tCons
    try delta tC
    try delta tNil
    dsimp only
    show spBelow K [V.ref x, .str "ann", vt, .int 0, .int 3] G2 _ _
    refine ref_below L2 DE tm (.str _ (by decide)) (strP _) (ivt _) (.int _) (.int _) (r := rfN vt) (by simp [fails, ca.1, cn, cf, ct, okA.1, okA.2.1, okA.2.2, okN.1, okN.2, okT.1, okT.2.1, okT.2.2, okF]) ?_
    intro H' e s he
    refine ⟨_, _, _, e, _, .inr (.inl (hcls _).1.2), rfl, rfl, upd_same, fun p hp => ?_⟩
    obtain ⟨hf9, F9⟩ := F4.step (d := dvt) e2 u2 (s.trans ((Same.up he).trans (Same.up hp))) upd_same
    exact ⟨f, _, _, rfl, rfl, hf9, sz (m := 60) (by omega), rest _ _ ⟨rfl, _, F9⟩⟩
  rintro _ H5x ⟨rfl, vs5, F5⟩
  -- 6
  try dsimp only
  refine cut_if (fun σ H' => σ = [some (.ref a), some (.ref x), some (.ref f), none, some va, some vt, some vf, some vm] ∧ ∃ vs, Fe (Tb P1 P2) (rm H a) H' a f vs [("account", va, dva), ("account", va, dva), ("account", va, dva), ("name", vt, dvt), ("name", vt, dvt), ("name", vt, dvt)]) ?_ fun rest => ?_
  rotate_left
  · have zz : vs5.length = 5 := Paired.length F5.els
    refine ⟨_, rfl, .inl ⟨rfl, _, SqL.of F5.at_⟩, F5.t, fun G2 e2 u2 => ?_⟩
    have L2 := (L.ext (F5.e.trans (ExtN.rm e2))).mono rm_same
    have Lc := L2
    obtain ⟨dx, _, _, _, hx1, _⟩ := Lc
    refine ⟨_, rfl, x, dx, _, rfl, hx1, rfl, _, rfl, ?_⟩
    try delta tCons
    try delta tC
    try delta tNil
    dsimp only
    show spSeen K [V.ref x, .str "ann", vt, .int 0] G2 _ _
    refine ref_seen L2 DE tm (.str _ (by decide)) (strP _) (ivt _) (.int _) (r := rfN vt) (by simp [fails, ca.1, cn, cf, ct, okA.1, okA.2.1, okA.2.2, okN.1, okN.2, okT.1, okT.2.1, okT.2.2, okF]) ?_
    intro H' e s he
    refine ⟨_, _, _, e, _, .inr (.inl (hcls _).1.2), rfl, rfl, upd_same, fun p hp => ?_⟩
    obtain ⟨hf9, F9⟩ := F5.step (d := dvt) e2 u2 (s.trans ((Same.up he).trans (Same.up hp))) upd_same
    exact ⟨f, _, _, rfl, rfl, hf9, sz (m := 60) (by omega), rest _ _ ⟨rfl, _, F9⟩⟩
  rintro _ H6x ⟨rfl, vs6, F6⟩
  -- 7
  try dsimp only
  refine cut_if (fun σ H' => σ = [some (.ref a), some (.ref x), some (.ref f), none, some va, some vt, some vf, some vm] ∧ ∃ vs, Fe (Tb P1 P2) (rm H a) H' a f vs [("account", va, dva), ("account", va, dva), ("account", va, dva), ("name", vt, dvt), ("name", vt, dvt), ("name", vt, dvt), ("floor", vf, dvf)]) ?_ fun rest => ?_
  rotate_left
  · have zz : vs6.length = 6 := Paired.length F6.els
    refine ⟨_, rfl, .inl ⟨rfl, _, SqL.of F6.at_⟩, F6.t, fun G2 e2 u2 => ?_⟩
    have L2 := (L.ext (F6.e.trans (ExtN.rm e2))).mono rm_same
    have Lc := L2
    obtain ⟨dx, _, _, _, hx1, _⟩ := Lc
    refine ⟨_, rfl, x, dx, _, rfl, hx1, rfl, _, rfl, ?_⟩
    try delta tCons
    try delta tC
    try delta tNil
    dsimp only
    show spBelow K [V.ref x, .str "the-pool", .str "coin", vf, .int 3] G2 _ _
    refine ref_below L2 DE tm (.str _ (by decide)) (strP _) (.str _ (by decide)) (ivf _) (.int _) (r := rfF vf) (by simp [fails, ca.1, cn, cf, ct, okA.1, okA.2.1, okA.2.2, okN.1, okN.2, okT.1, okT.2.1, okT.2.2, okF]) ?_
    intro H' e s he
    refine ⟨_, _, _, e, _, .inr (.inr (.inl (hcls _).2.1)), rfl, rfl, upd_same, fun p hp => ?_⟩
    obtain ⟨hf9, F9⟩ := F6.step (d := dvf) e2 u2 (s.trans ((Same.up he).trans (Same.up hp))) upd_same
    exact ⟨f, _, _, rfl, rfl, hf9, sz (m := 60) (by omega), rest _ _ ⟨rfl, _, F9⟩⟩
  rintro _ H7x ⟨rfl, vs7, F7⟩
  -- 8
  try dsimp only
  refine cut_if (fun σ H' => σ = [some (.ref a), some (.ref x), some (.ref f), none, some va, some vt, some vf, some vm] ∧ ∃ vs, Fe (Tb P1 P2) (rm H a) H' a f vs [("account", va, dva), ("account", va, dva), ("account", va, dva), ("name", vt, dvt), ("name", vt, dvt), ("name", vt, dvt), ("floor", vf, dvf), ("floor", vf, dvf)]) ?_ fun rest => ?_
  rotate_left
  · have zz : vs7.length = 7 := Paired.length F7.els
    refine ⟨_, rfl, .inl ⟨rfl, _, SqL.of F7.at_⟩, F7.t, fun G2 e2 u2 => ?_⟩
    have L2 := (L.ext (F7.e.trans (ExtN.rm e2))).mono rm_same
    have Lc := L2
    obtain ⟨dx, _, _, _, hx1, _⟩ := Lc
    refine ⟨_, rfl, x, dx, _, rfl, hx1, rfl, _, rfl, ?_⟩
    try delta tCons
    try delta tC
    try delta tNil
    dsimp only
    show spSeen K [V.ref x, .str "the-pool", .str "coin", vf] G2 _ _
    refine ref_seen L2 DE tm (.str _ (by decide)) (strP _) (.str _ (by decide)) (ivf _) (r := rfF vf) (by simp [fails, ca.1, cn, cf, ct, okA.1, okA.2.1, okA.2.2, okN.1, okN.2, okT.1, okT.2.1, okT.2.2, okF]) ?_
    intro H' e s he
    refine ⟨_, _, _, e, _, .inr (.inr (.inl (hcls _).2.1)), rfl, rfl, upd_same, fun p hp => ?_⟩
    obtain ⟨hf9, F9⟩ := F7.step (d := dvf) e2 u2 (s.trans ((Same.up he).trans (Same.up hp))) upd_same
    exact ⟨f, _, _, rfl, rfl, hf9, sz (m := 60) (by omega), rest _ _ ⟨rfl, _, F9⟩⟩
  rintro _ H8x ⟨rfl, vs8, F8⟩
  -- 9
  try dsimp only
  refine cut_if (fun σ H' => σ = [some (.ref a), some (.ref x), some (.ref f), none, some va, some vt, some vf, some vm] ∧ ∃ vs, Fe (Tb P1 P2) (rm H a) H' a f vs [("account", va, dva), ("account", va, dva), ("account", va, dva), ("name", vt, dvt), ("name", vt, dvt), ("name", vt, dvt), ("floor", vf, dvf), ("floor", vf, dvf), ("time", vm, dvm)]) ?_ fun rest => ?_
  rotate_left
  · have zz : vs8.length = 8 := Paired.length F8.els
    refine ⟨_, rfl, .inl ⟨rfl, _, SqL.of F8.at_⟩, F8.t, fun G2 e2 u2 => ?_⟩
    have L2 := (L.ext (F8.e.trans (ExtN.rm e2))).mono rm_same
    have Lc := L2
    obtain ⟨dx, _, _, _, hx1, _⟩ := Lc
    refine ⟨_, rfl, x, dx, _, rfl, hx1, rfl, _, rfl, ?_⟩
    try delta tCons
    try delta tC
    try delta tNil
    dsimp only
    show spSteps K [V.ref x, .str "the-till", .str "seat", vm] G2 _ _
    refine ref_steps L2 DE tm (.str _ (by decide)) (strP _) (.str _ (by decide)) (ivm _) (r := rfT vm) (by simp [fails, ca.1, cn, cf, ct, okA.1, okA.2.1, okA.2.2, okN.1, okN.2, okT.1, okT.2.1, okT.2.2, okF]) ?_
    intro H' e s he
    refine ⟨_, _, _, e, _, .inr (.inr (.inr (hcls _).2.2)), rfl, rfl, upd_same, fun p hp => ?_⟩
    obtain ⟨hf9, F9⟩ := F8.step (d := dvm) e2 u2 (s.trans ((Same.up he).trans (Same.up hp))) upd_same
    exact ⟨f, _, _, rfl, rfl, hf9, sz (m := 60) (by omega), rest _ _ ⟨rfl, _, F9⟩⟩
  rintro _ H9x ⟨rfl, vs9, F9⟩
  -- 10
  try dsimp only
  refine cut_if (fun σ H' => σ = [some (.ref a), some (.ref x), some (.ref f), none, some va, some vt, some vf, some vm] ∧ ∃ vs, Fe (Tb P1 P2) (rm H a) H' a f vs [("account", va, dva), ("account", va, dva), ("account", va, dva), ("name", vt, dvt), ("name", vt, dvt), ("name", vt, dvt), ("floor", vf, dvf), ("floor", vf, dvf), ("time", vm, dvm), ("time", vm, dvm)]) ?_ fun rest => ?_
  rotate_left
  · have zz : vs9.length = 9 := Paired.length F9.els
    refine ⟨_, rfl, .inl ⟨rfl, _, SqL.of F9.at_⟩, F9.t, fun G2 e2 u2 => ?_⟩
    have L2 := (L.ext (F9.e.trans (ExtN.rm e2))).mono rm_same
    have Lc := L2
    obtain ⟨dx, _, _, _, hx1, _⟩ := Lc
    refine ⟨_, rfl, x, dx, _, rfl, hx1, rfl, _, rfl, ?_⟩
    try delta tCons
    try delta tC
    try delta tNil
    dsimp only
    show spBelow K [V.ref x, .str "the-till", .str "seat", .int 0, vm] G2 _ _
    refine ref_below L2 DE tm (.str _ (by decide)) (strP _) (.str _ (by decide)) (.int _) (ivm _) (r := rfT vm) (by simp [fails, ca.1, cn, cf, ct, okA.1, okA.2.1, okA.2.2, okN.1, okN.2, okT.1, okT.2.1, okT.2.2, okF]) ?_
    intro H' e s he
    refine ⟨_, _, _, e, _, .inr (.inr (.inr (hcls _).2.2)), rfl, rfl, upd_same, fun p hp => ?_⟩
    obtain ⟨hf9, F9⟩ := F9.step (d := dvm) e2 u2 (s.trans ((Same.up he).trans (Same.up hp))) upd_same
    exact ⟨f, _, _, rfl, rfl, hf9, sz (m := 60) (by omega), rest _ _ ⟨rfl, _, F9⟩⟩
  rintro _ H10x ⟨rfl, vs10, F10⟩
  try dsimp only
  refine cut_if (fun σ H' => ∃ due dvs, σ = [some (.ref a), some (.ref x), some (.ref f), some (.ref due), some va, some vt, some vf, some vm] ∧ Same H10x H' ∧ due ≠ f ∧ H' due = some (.lst dvs) ∧ Paired (ElAt H') dvs [("account", va, dva), ("account", va, dva), ("account", va, dva), ("name", vt, dvt), ("name", vt, dvt), ("name", vt, dvt), ("floor", vf, dvf), ("floor", vf, dvf), ("time", vm, dvm), ("time", vm, dvm)]) ?_ fun rest => ?_
  rotate_left
  · refine ⟨_, rfl, two_line, fun t1 h1 => ?_⟩
    have s1 := Same.up (o := .tup [.str "account", va]) h1
    refine ⟨lineN (n := 1), fun l2 h2 => ?_⟩
    have s2 := Same.up (o := .lst [.ref t1]) h2
    refine ⟨l2, 3, _, rfl, rfl, upd_same, by decide, by decide, lineN (by simp), fun r3 h3 => ?_⟩
    have s3 := Same.up (o := .lst (List.replicate (Int.toNat 3) [V.ref t1]).flatten) h3
    refine ⟨_, rfl, two_line, fun t4 h4 => ?_⟩
    have s4 := Same.up (o := .tup [.str "name", vt]) h4
    refine ⟨lineN (n := 1), fun l5 h5 => ?_⟩
    have s5 := Same.up (o := .lst [.ref t4]) h5
    refine ⟨l5, 3, _, rfl, rfl, upd_same, by decide, by decide, lineN (by simp), fun r6 h6 => ?_⟩
    have s6 := Same.up (o := .lst (List.replicate (Int.toNat 3) [V.ref t4]).flatten) h6
    refine ⟨r3, r6, _, _, rfl, rfl, (s4.trans (s5.trans (s6))) _ _ upd_same, upd_same, lineN (by simp), fun c7 h7 => ?_⟩
    have s7 := Same.up (o := .lst ((List.replicate (Int.toNat 3) [V.ref t1]).flatten ++ (List.replicate (Int.toNat 3) [V.ref t4]).flatten)) h7
    refine ⟨_, rfl, two_line, fun t8 h8 => ?_⟩
    have s8 := Same.up (o := .tup [.str "floor", vf]) h8
    refine ⟨lineN (n := 1), fun l9 h9 => ?_⟩
    have s9 := Same.up (o := .lst [.ref t8]) h9
    refine ⟨l9, 2, _, rfl, rfl, upd_same, by decide, by decide, lineN (by simp), fun r10 h10 => ?_⟩
    have s10 := Same.up (o := .lst (List.replicate (Int.toNat 2) [V.ref t8]).flatten) h10
    refine ⟨c7, r10, _, _, rfl, rfl, (s8.trans (s9.trans (s10))) _ _ upd_same, upd_same, lineN (by simp), fun c11 h11 => ?_⟩
    have s11 := Same.up (o := .lst (((List.replicate (Int.toNat 3) [V.ref t1]).flatten ++ (List.replicate (Int.toNat 3) [V.ref t4]).flatten) ++ (List.replicate (Int.toNat 2) [V.ref t8]).flatten)) h11
    refine ⟨_, rfl, two_line, fun t12 h12 => ?_⟩
    have s12 := Same.up (o := .tup [.str "time", vm]) h12
    refine ⟨lineN (n := 1), fun l13 h13 => ?_⟩
    have s13 := Same.up (o := .lst [.ref t12]) h13
    refine ⟨l13, 2, _, rfl, rfl, upd_same, by decide, by decide, lineN (by simp), fun r14 h14 => ?_⟩
    have s14 := Same.up (o := .lst (List.replicate (Int.toNat 2) [V.ref t12]).flatten) h14
    refine ⟨c11, r14, _, _, rfl, rfl, (s12.trans (s13.trans (s14))) _ _ upd_same, upd_same, lineN (by simp), fun c15 h15 => ?_⟩
    have s15 := Same.up (o := .lst ((((List.replicate (Int.toNat 3) [V.ref t1]).flatten ++ (List.replicate (Int.toNat 3) [V.ref t4]).flatten) ++ (List.replicate (Int.toNat 2) [V.ref t8]).flatten) ++ (List.replicate (Int.toNat 2) [V.ref t12]).flatten)) h15
    have at7 := (s1.trans (s2.trans (s3.trans (s4.trans (s5.trans (s6.trans (s7.trans (s8.trans (s9.trans (s10.trans (s11.trans (s12.trans (s13.trans (s14)))))))))))))) _ _ F10.at_
    exact rest _ _ ⟨c15, _, rfl, s1.trans (s2.trans (s3.trans (s4.trans (s5.trans (s6.trans (s7.trans (s8.trans (s9.trans (s10.trans (s11.trans (s12.trans (s13.trans (s14.trans (s15)))))))))))))), fun z => by (rw [← z, h15] at at7; cases at7), upd_same, .cons ⟨t1, rfl, (s2.trans (s3.trans (s4.trans (s5.trans (s6.trans (s7.trans (s8.trans (s9.trans (s10.trans (s11.trans (s12.trans (s13.trans (s14.trans (s15)))))))))))))) _ _ upd_same⟩ (.cons ⟨t1, rfl, (s2.trans (s3.trans (s4.trans (s5.trans (s6.trans (s7.trans (s8.trans (s9.trans (s10.trans (s11.trans (s12.trans (s13.trans (s14.trans (s15)))))))))))))) _ _ upd_same⟩ (.cons ⟨t1, rfl, (s2.trans (s3.trans (s4.trans (s5.trans (s6.trans (s7.trans (s8.trans (s9.trans (s10.trans (s11.trans (s12.trans (s13.trans (s14.trans (s15)))))))))))))) _ _ upd_same⟩ (.cons ⟨t4, rfl, (s5.trans (s6.trans (s7.trans (s8.trans (s9.trans (s10.trans (s11.trans (s12.trans (s13.trans (s14.trans (s15))))))))))) _ _ upd_same⟩ (.cons ⟨t4, rfl, (s5.trans (s6.trans (s7.trans (s8.trans (s9.trans (s10.trans (s11.trans (s12.trans (s13.trans (s14.trans (s15))))))))))) _ _ upd_same⟩ (.cons ⟨t4, rfl, (s5.trans (s6.trans (s7.trans (s8.trans (s9.trans (s10.trans (s11.trans (s12.trans (s13.trans (s14.trans (s15))))))))))) _ _ upd_same⟩ (.cons ⟨t8, rfl, (s9.trans (s10.trans (s11.trans (s12.trans (s13.trans (s14.trans (s15))))))) _ _ upd_same⟩ (.cons ⟨t8, rfl, (s9.trans (s10.trans (s11.trans (s12.trans (s13.trans (s14.trans (s15))))))) _ _ upd_same⟩ (.cons ⟨t12, rfl, (s13.trans (s14.trans (s15))) _ _ upd_same⟩ (.cons ⟨t12, rfl, (s13.trans (s14.trans (s15))) _ _ upd_same⟩ (.nil))))))))))⟩
  rintro _ Hd ⟨due, dvs, rfl, sd, ndf, hdue, pdue⟩
  have Fd := F10.grow sd
  clear F10
  try dsimp only
  have ok : TrOk [("account", va, dva), ("account", va, dva), ("account", va, dva), ("name", vt, dvt), ("name", vt, dvt), ("name", vt, dvt), ("floor", vf, dvf), ("floor", vf, dvf), ("time", vm, dvm), ("time", vm, dvm)] := by
    refine ⟨fun p m => ?_, fun p m => ?_, fun p m => ?_⟩
    · simp only [List.mem_cons, List.not_mem_nil, or_false] at m
      rcases m with rfl | rfl | rfl | rfl | rfl | rfl | rfl | rfl | rfl | rfl
      · exact iva
      · exact iva
      · exact iva
      · exact ivt
      · exact ivt
      · exact ivt
      · exact ivf
      · exact ivf
      · exact ivm
      · exact ivm
    · simp only [List.mem_cons, List.not_mem_nil, or_false] at m
      rcases m with rfl | rfl | rfl | rfl | rfl | rfl | rfl | rfl | rfl | rfl
      · show ("account" : Str).length ≤ 1000; decide
      · show ("account" : Str).length ≤ 1000; decide
      · show ("account" : Str).length ≤ 1000; decide
      · show ("name" : Str).length ≤ 1000; decide
      · show ("name" : Str).length ≤ 1000; decide
      · show ("name" : Str).length ≤ 1000; decide
      · show ("floor" : Str).length ≤ 1000; decide
      · show ("floor" : Str).length ≤ 1000; decide
      · show ("time" : Str).length ≤ 1000; decide
      · show ("time" : Str).length ≤ 1000; decide
    · simp only [List.mem_cons, List.not_mem_nil, or_false] at m
      rcases m with rfl | rfl | rfl | rfl | rfl | rfl | rfl | rfl | rfl | rfl
      · exact aA
      · exact aA
      · exact aA
      · exact aN
      · exact aN
      · exact aN
      · exact aF
      · exact aF
      · exact aT
      · exact aT
  have zz : vs10.length = 10 := Paired.length Fd.els
  have zd : dvs.length = 10 := Paired.length pdue
  refine ⟨_, rfl, _, rfl, _, _, triedD [("account", va, dva), ("account", va, dva), ("account", va, dva), ("name", vt, dvt), ("name", vt, dvt), ("name", vt, dvt), ("floor", vf, dvf), ("floor", vf, dvf), ("time", vm, dvm), ("time", vm, dvm)], rfl, .lst Fd.at_ (tried_isA Fd.els ok) (by omega), .lst hdue (tried_isA pdue ok) (by omega), tried_dep ok, fun H9 s9 => ?_⟩
  have FG := Fd.grow s9
  exact q _ FG.d FG.e FG.t
end
end K28

set_option Elab.async false
set_option linter.all false
set_option maxRecDepth 100000
set_option maxHeartbeats 4000000
namespace K28
open PySem PySem.Spec PyProof.Rows L2 Sr LamX
/-! ### the times of drawn deeds -/
theorem ents_from : ∀ {ds : List Dt} {c : Int} {e : Ent}, e ∈ ents ds c → ∃ d ∈ ds, e.1 = dInt 1 d ∧ e.2.1 = dInt 2 d
  | d :: r, c, e, m => by
    have m : e ∈ (if dIs "close" d = true then ents r (clo d c) else entOf d c :: ents r (clo d c)) := m
    by_cases h : dIs "close" d = true
    · rw [if_pos h] at m
      obtain ⟨d', md, x⟩ := ents_from m
      exact ⟨d', List.mem_cons_of_mem _ md, x⟩
    · rw [if_neg h] at m
      rcases List.mem_cons.mp m with rfl | m
      · exact ⟨d, List.mem_cons_self, rfl, rfl⟩
      · obtain ⟨d', md, x⟩ := ents_from m
        exact ⟨d', List.mem_cons_of_mem _ md, x⟩
theorem GoodDs.tms {ds : List Dt} {w c : Int} (G : GoodDs ds w c) : ∀ d ∈ ds, (0 ≤ dInt 1 d ∧ dInt 1 d ≤ w) ∧ 0 ≤ dInt 2 d ∧ dInt 2 d ≤ 3 * (ds.length : Nat) + 8 := by
  induction G with
  | nil => exact fun d m => nomatch m
  | @close ds w c w' v G h1 h2 h3 h4 ih =>
    intro d m
    have b := G.bound
    rw [List.length_append]
    simp only [List.length_cons, List.length_nil]
    rcases List.mem_append.mp m with m | m
    · have := ih d m
      omega
    · rw [List.mem_singleton.mp m]
      have e1 : dInt 1 (mkClose w' v) = w' := rfl
      have e2 : dInt 2 (mkClose w' v) = v := rfl
      rw [e1, e2]
      omega
  | @entry ds w c w' v rs G h1 h2 h3 h4 _ _ _ ih =>
    intro d m
    have b := G.bound
    rw [List.length_append]
    simp only [List.length_cons, List.length_nil]
    rcases List.mem_append.mp m with m | m
    · have := ih d m
      omega
    · rw [List.mem_singleton.mp m]
      have e1 : dInt 1 (mkEntry w' v (toldOf (sumT rs))) = w' := rfl
      have e2 : dInt 2 (mkEntry w' v (toldOf (sumT rs))) = v := rfl
      rw [e1, e2]
      omega
theorem GoodDs.times {ds : List Dt} {w c : Int} (G : GoodDs ds w c) (dl : ds.length ≤ 10) : Times (K28.ents ds (-1)) := fun e m => by
  obtain ⟨d, md, e1, e2⟩ := ents_from m
  have t := G.tms d md
  have b := G.bound
  rw [e1, e2]
  exact ⟨time_ok (by omega) (by omega), time_ok (by omega) (by omega)⟩
/-! ### what was told and what is due, as data -/
theorem res_items {H : Hp} {ka kb : List (List Key × V)} : ∀ {ts : List Addr} {kvs : List (List Key × V)} {L : List (Str × Str)}, Paired (ItemAt H) ts kvs → Paired (PairAt H ka kb) kvs L → (∀ p ∈ L, small p) →
    IsA H (ts.map V.ref) (L.map fun p => Dt.tup [.tup [.str p.1, .str p.2], .tup [.int (amt ka p), .int (amt kb p)]])
  | _, _, _, .nil, .nil, _ => .nil
  | _, _, _, .cons (b := kv) ⟨q, h1, h2⟩ t, .cons (b := p) ⟨e1, r, e2, h3⟩ u, sm => by
    have s := sm p List.mem_cons_self
    rw [e2] at h1
    rw [e1] at h2
    have h2 : H q = some (.tup [.str p.1, .str p.2]) := h2
    exact .cons (.tup h1 (.cons (.tup h2 (.cons (.str _ s.1) (.cons (.str _ s.2) .nil)) (show (2 : Nat) ≤ 60 by decide)) (.cons (.tup h3 (.cons (.int _) (.cons (.int _) .nil)) (show (2 : Nat) ≤ 60 by decide)) .nil)) (show (2 : Nat) ≤ 60 by decide)) (res_items t u fun p m => sm p (List.mem_cons_of_mem _ m))
theorem resD_is {H : Hp} {l : Addr} {ka kb : List (List Key × V)} {ts : List Addr} {kvs : List (List Key × V)} {bs : List (Str × Str)} (IA : Ints isPk ka) (IB : Ints isPk kb) (la : ka.length ≤ 15) (lb : kb.length ≤ 15) (nd : bs.Nodup) (mem : ∀ p, p ∈ bs ↔ p ∈ keysOf ka ∨ p ∈ keysOf kb)
    (hl : H l = some (.lst (ts.map V.ref))) (p1 : Paired (ItemAt H) ts kvs) (p2 : Paired (PairAt H ka kb) kvs (diffK ka kb (pSort bs))) : Is H (.ref l) (resD ka kb) := by
  have sm : ∀ p ∈ diffK ka kb (pSort bs), small p := fun p m => by
    have m1 := (pSort_perm bs).subset (List.mem_filter.mp m).1
    rcases (mem p).mp m1 with m2 | m2
    · exact keysOf_small IA _ m2
    · exact keysOf_small IB _ m2
  have ia := res_items p1 p2 sm
  have e1 := Paired.length p1
  have e2 := Paired.length p2
  have e3 : (diffK ka kb (pSort bs)).length ≤ (pSort bs).length := List.length_filter_le _ _
  have e4 := (pSort_perm bs).length_eq
  have e5 := bs_len la lb nd mem
  rw [uni_eq IA IB nd mem] at ia
  exact .lst hl ia (by rw [List.length_map]; omega)
def dV : Option Int → Dt
  | none => .non
  | some k => .int k
theorem vV_is (H : Hp) : ∀ o : Option Int, Is H (vV o) (dV o)
  | none => .non
  | some k => .int k
theorem dep_dV (n : Nat) : ∀ o : Option Int, Dep n (dV o)
  | none => .non n
  | some k => .int n k
theorem dep_pair (n : Nat) (a b : Int) : Dep (n + 1) (.tup [.int a, .int b]) := .tup n _ fun d m => by
  rcases List.mem_cons.mp m with rfl | m
  · exact .int _ _
  · rw [List.mem_singleton.mp m]
    exact .int _ _
theorem dep_seen (n : Nat) : ∀ o : Option (Int × Int), Dep (n + 1) (seenD o)
  | none => .non _
  | some p => dep_pair n p.1 p.2
theorem dep_steps (n : Nat) (l : List (Int × Int)) : Dep (n + 2) (stepsD l) := .lst (n + 1) _ fun d m => by
  obtain ⟨p, _, rfl⟩ := List.mem_map.mp m
  exact dep_pair n p.1 p.2
theorem dep_res (n : Nat) (ka kb : List (List Key × V)) : Dep (n + 3) (resD ka kb) := .lst (n + 2) _ fun d m => by
  obtain ⟨p, _, rfl⟩ := List.mem_map.mp m
  refine .tup (n + 1) _ fun d m => ?_
  rcases List.mem_cons.mp m with rfl | m
  · refine .tup n _ fun d m => ?_
    rcases List.mem_cons.mp m with rfl | m
    · exact .str _ _
    · rw [List.mem_singleton.mp m]
      exact .str _ _
  · rw [List.mem_singleton.mp m]
    exact dep_pair n _ _
/-- what is told of a key -/
def toldK (es : List Ent) (p : Str × Str) (fl m n1 n2 : Int) : List Dt := [stepsD (stepsOf (fun k => stood es p k m) (risen (es.map (·.1))) 0), resD (balOf inT n1 m es) (balOf inT n2 m es), dV (below es p fl n1), seenD (seen es p fl)]
theorem dep_told (es : List Ent) (p : Str × Str) (fl m n1 n2 : Int) : Dep 5 (.lst (toldK es p fl m n1 n2)) := .lst 4 _ fun d md => by
  rcases List.mem_cons.mp md with rfl | md
  · exact dep_steps 2 _
  rcases List.mem_cons.mp md with rfl | md
  · exact dep_res 1 _ _
  rcases List.mem_cons.mp md with rfl | md
  · exact dep_dV 4 _
  · rw [List.mem_singleton.mp md]
    exact dep_seen 3 _
theorem seen_keep {H : Hp} {y : V} {o : Option (Int × Int)} {f : Addr} {xs : List V} {h : HO} (i : Is H y (seenD o)) (hf : H f = some (.lst xs)) : Is (upd H f h) y (seenD o) := by
  cases o with
  | none => exact (show y = .non from by cases i; rfl) ▸ Is.non
  | some p =>
    cases i with
    | tup hp ia z =>
      cases ia with
      | cons a ia => cases ia with
        | cons b ia =>
          cases ia
          cases a
          cases b
          exact .tup ((upd_ne (ne_of hp hf (by intro z; cases z))).trans hp) (.cons (.int _) (.cons (.int _) .nil)) z
/-! ### the looks of the ledger that hold -/
theorem three_ok {n1 n2 m : Int} {i : Nat} (a : timeOk (.int n1) = true) (b : timeOk (.int n2) = true) (c : timeOk (.int m) = true) (h : badTm [.int n1, .int n2, .int m] 0 = some i) : False := by simp [badTm, a, b, c] at h
section
variable {K : PySem.W.Frag} {H : Hp} {Q : VK} {E : XK} {x : Addr} {A B : Str} {fl n n2 m : Int} {ds : List Dt} {es : List Ent}
theorem no_tf {b : Bool} {p : Prop} (h : b = true) (c : b = false) : p := by rw [h] at c; cases c
theorem ok_steps (L : LedAt K H x ds es) (D : DrawnEs es) (tm : Times es) (iA : Is H (.str A) (.str A)) (cA : accOk (.str A) = true) (iB : Is H (.str B) (.str B)) (cB : nameOk (.str B) = true) (cm : timeOk (.int m) = true)
    (q : ∀ H' l, Same H H' → H l = none → Is H' (.ref l) (stepsD (stepsOf (fun k => stood es (A, B) k m) (risen (es.map (·.1))) 0)) → Q (.ref l) H') : spSteps K [.ref x, .str A, .str B, .int m] H Q E := by
  refine ⟨x, _, _, _, ds, es, .str A, .str B, .int m, rfl, L, D.g.len, D.g.sm, tm, iA, strP A, iB, .int m, fun _ _ _ A' B' m' ns e1 e2 e3 R H' l s hl i => ?_, no_tf cA, fun _ => no_tf cB, fun _ _ => no_tf cm⟩
  cases e1
  cases e2
  cases e3
  rw [R.eq] at i
  exact q H' l s hl i
theorem ok_below (L : LedAt K H x ds es) (D : DrawnEs es) (tm : Times es) (iA : Is H (.str A) (.str A)) (cA : accOk (.str A) = true) (iB : Is H (.str B) (.str B)) (cB : nameOk (.str B) = true) (cf : floorOk (.int fl) = true) (cn : timeOk (.int n) = true)
    (q : ∀ H', Same H H' → Q (vV (below es (A, B) fl n)) H') : spBelow K [.ref x, .str A, .str B, .int fl, .int n] H Q E := by
  refine ⟨x, _, _, _, _, ds, es, .str A, .str B, .int fl, .int n, rfl, L, D.g.len, D.g.sm, tm, iA, strP A, iB, .int fl, .int n, fun _ _ _ _ A' B' f' n' e1 e2 e3 e4 H' s => ?_, no_tf cA, fun _ => no_tf cB, fun _ _ => no_tf cf, fun _ _ _ => no_tf cn⟩
  cases e1
  cases e2
  cases e3
  cases e4
  exact q H' s
theorem ok_seen (L : LedAt K H x ds es) (D : DrawnEs es) (tm : Times es) (iA : Is H (.str A) (.str A)) (cA : accOk (.str A) = true) (iB : Is H (.str B) (.str B)) (cB : nameOk (.str B) = true) (cf : floorOk (.int fl) = true)
    (q : ∀ H' y, Same H H' → Is H' y (seenD (seen es (A, B) fl)) → Q y H') : spSeen K [.ref x, .str A, .str B, .int fl] H Q E := by
  refine ⟨x, _, _, _, ds, es, .str A, .str B, .int fl, rfl, L, D.g.len, D.g.sm, tm, iA, strP A, iB, .int fl, fun _ _ _ A' B' f' e1 e2 e3 H' y s i => ?_, no_tf cA, fun _ => no_tf cB, fun _ _ => no_tf cf⟩
  cases e1
  cases e2
  cases e3
  exact q H' y s i
theorem ok_res (L : LedAt K H x ds es) (D : DrawnEs es) (c1 : timeOk (.int n) = true) (c2 : timeOk (.int n2) = true) (cm : timeOk (.int m) = true)
    (q : ∀ H' d (bs : List (Str × Str)) kvs, Same H H' → H d = none → bs.Nodup → (∀ p, p ∈ bs ↔ p ∈ keysOf (balOf inT n m es) ∨ p ∈ keysOf (balOf inT n2 m es)) → H' d = some (.dT kvs) → kvs.length ≤ 30 →
      Paired (PairAt H' (balOf inT n m es) (balOf inT n2 m es)) kvs (diffK (balOf inT n m es) (balOf inT n2 m es) (pSort bs)) → Q (.ref d) H') : spRes K [.ref x, .int n, .int n2, .int m] H Q E := by
  refine ⟨x, _, _, _, ds, es, .int n, .int n2, .int m, rfl, L, D.g, fun n m => bal_len D, .int n, .int n2, .int m, fun _ a b c e1 e2 e3 H' d bs kvs s hd nd _ mem hk pr => ?_, fun i u c => (three_ok c1 c2 cm c).elim⟩
  cases e1
  cases e2
  cases e3
  have e2 := Paired.length pr
  have e3 : (diffK (balOf inT n m es) (balOf inT n2 m es) (pSort bs)).length ≤ (pSort bs).length := List.length_filter_le _ _
  have e4 := (pSort_perm bs).length_eq
  have e5 := bs_len (bal_len (f := inT) (n := n) (m := m) D) (bal_len (f := inT) (n := n2) (m := m) D) nd mem
  exact q H' d bs kvs s hd nd mem hk (by omega) pr
end
/-! ### the law's picks -/
theorem key_a {k : Nat} {v : V} (h : [V.str "ann", .str "bob", .str "the-till", .str "zz"][k]? = some v) : ∃ A, v = .str A ∧ accOk (.str A) = true ∧ ∀ H, Is H (.str A) (.str A) := by
  have m := List.mem_of_getElem? h
  simp only [List.mem_cons, List.not_mem_nil, or_false] at m
  rcases m with rfl | rfl | rfl | rfl
  · exact ⟨_, rfl, by decide +kernel, fun H => .str _ (by decide)⟩
  · exact ⟨_, rfl, by decide +kernel, fun H => .str _ (by decide)⟩
  · exact ⟨_, rfl, by decide +kernel, fun H => .str _ (by decide)⟩
  · exact ⟨_, rfl, by decide +kernel, fun H => .str _ (by decide)⟩
theorem key_b {k : Nat} {v : V} (h : [V.str "coin", .str "seat", .str "x"][k]? = some v) : ∃ A, v = .str A ∧ nameOk (.str A) = true ∧ ∀ H, Is H (.str A) (.str A) := by
  have m := List.mem_of_getElem? h
  simp only [List.mem_cons, List.not_mem_nil, or_false] at m
  rcases m with rfl | rfl | rfl
  · exact ⟨_, rfl, by decide +kernel, fun H => .str _ (by decide)⟩
  · exact ⟨_, rfl, by decide +kernel, fun H => .str _ (by decide)⟩
  · exact ⟨_, rfl, by decide +kernel, fun H => .str _ (by decide)⟩
theorem floor_v {k : Nat} {v : V} {z : Int} (hz : z ≤ 0) (h : [V.int 0, .int 0, .int (-1), .int (-5), .int z][k]? = some v) : ∃ fl, v = .int fl ∧ floorOk (.int fl) = true := by
  have m := List.mem_of_getElem? h
  simp only [List.mem_cons, List.not_mem_nil, or_false] at m
  rcases m with rfl | rfl | rfl | rfl | rfl
  · exact ⟨_, rfl, rfl⟩
  · exact ⟨_, rfl, rfl⟩
  · exact ⟨_, rfl, rfl⟩
  · exact ⟨_, rfl, rfl⟩
  · exact ⟨_, rfl, decide_eq_true hz⟩
end K28

set_option Elab.async false
set_option linter.all false
set_option maxRecDepth 100000
set_option maxHeartbeats 4000000
namespace K28
open PySem PySem.Spec PyProof.Rows L2 L2.DX Sr LamX
abbrev s_law : Stmt := top 54
theorem sc_law : FnScope ["script", "turn", "draws", "deeds", "k", "ledger", "entries", "key", "floor", "found", "due", "valid", "known", "later"] ["script"] (defScope s_law) := ⟨rfl, rfl, rfl, by decide +kernel, rfl, by decide +kernel, by decide +kernel⟩
def spLaw (K : PySem.W.Frag) (P1 P2 : Addr) : Sp := fun vs H Q _ => ∃ (l : Addr) (ns : List Int), vs = [.ref l] ∧ SqL K H l (ns.map V.int) ∧ H P1 = some (.tbl #[]) ∧ H P2 = some (.tbl #[]) ∧ ∀ H', Q (.bl true) H'
/-- what is settled beside the draws' list, while the law goes a turn -/
structure Sx (K : PySem.W.Frag) (l a dv : Addr) (T : List (Addr × Str)) (ns : List Int) (ds : List Dt) (H : Hp) : Prop where
  d : DrawsAt H a
  sql : SqL K (rm H a) l (ns.map V.int)
  tab : Tabs T H
  ids : Is (rm H a) (.ref dv) (.lst ds)
section
variable {K : PySem.W.Frag} {l a dv : Addr} {T : List (Addr × Str)} {ns : List Int} {ds : List Dt} {H H' : Hp}
theorem Sx.ext (X : Sx K l a dv T ns ds H) (e : ExtN (Sr.rm H a) (Sr.rm H' a)) (d : DrawsAt H' a) (t : Tabs T H') : Sx K l a dv T ns ds H' := ⟨d, sql_ext e X.sql, t, X.ids.ext e⟩
theorem Sx.draw (X : Sx K l a dv T ns ds H) (d : DrawsAt H' a) (s : Same (rm H a) (rm H' a)) : Sx K l a dv T ns ds H' :=
  ⟨d, sql_mono s X.sql, Tabs.ext (Tabs.off X.tab X.d) (s.trans rm_same), X.ids.mono s⟩
theorem Sx.grow (X : Sx K l a dv T ns ds H) (s : Same H H') : Sx K l a dv T ns ds H' := X.draw (X.d.up s) (Same.rm s)
theorem Sx.pick {o : HO} (X : Sx K l a dv T ns ds H) (ho : DrawsO o) : Sx K l a dv T ns ds (upd H a o) := X.draw ⟨o, upd_same, ho⟩ (by rw [rm_upd]; exact Same.refl _)
theorem Sx.idsH (X : Sx K l a dv T ns ds H) : Is H (.ref dv) (.lst ds) := X.ids.mono rm_same
theorem Sx.sqlH (X : Sx K l a dv T ns ds H) : SqL K H l (ns.map V.int) := sql_mono rm_same X.sql
end
/-- the ledger and the law's own entries, beside the draws' list -/
structure Lx (K : PySem.W.Frag) (a x le : Addr) (ds : List Dt) (ys : List V) (H : Hp) : Prop where
  led : LedAt K (rm H a) x ds (K28.ents ds (-1))
  le : rm H a le = some (.lst ys)
  en : Paired (EntAt (rm H a)) ys (K28.ents ds (-1))
theorem Lx.draw {K : PySem.W.Frag} {a x le : Addr} {ds : List Dt} {ys : List V} {H H' : Hp} (X : Lx K a x le ds ys H) (s : Same (rm H a) (rm H' a)) : Lx K a x le ds ys H' := ⟨X.led.mono s, s _ _ X.le, Paired.imp' (fun _ _ h => h.mono s) X.en⟩
theorem Lx.grow {K : PySem.W.Frag} {a x le : Addr} {ds : List Dt} {ys : List V} {H H' : Hp} (X : Lx K a x le ds ys H) (s : Same H H') : Lx K a x le ds ys H' := X.draw (Same.rm s)
theorem Lx.pick {K : PySem.W.Frag} {a x le : Addr} {ds : List Dt} {ys : List V} {H : Hp} {o : HO} (X : Lx K a x le ds ys H) (ho : DrawsO o) : Lx K a x le ds ys (upd H a o) := X.draw (by rw [rm_upd]; exact Same.refl _)
/-- the key, beside the draws' list -/
def KeyAt (a kt : Addr) (A B : Str) (H : Hp) : Prop := rm H a kt = some (.tup [.str A, .str B])
theorem KeyAt.grow {a kt : Addr} {A B : Str} {H H' : Hp} (k : KeyAt a kt A B H) (s : Same H H') : KeyAt a kt A B H' := Same.rm s _ _ k
theorem KeyAt.pick {a kt : Addr} {A B : Str} {H : Hp} {o : HO} (k : KeyAt a kt A B H) : KeyAt a kt A B (upd H a o) := by
  unfold KeyAt
  rw [rm_upd]
  exact k
theorem KeyAt.at {a kt : Addr} {A B : Str} {H : Hp} (k : KeyAt a kt A B H) : H kt = some (.tup [.str A, .str B]) := rm_same _ _ k
theorem GoodDs.fine {ds : List Dt} {w c : Int} (G : GoodDs ds w c) (h : ds.length ≤ 1000) : badD ds 0 (-1) 0 = none := by
  have e := G.go h []
  rw [List.append_nil] at e
  exact e
def LawInv (K : PySem.W.Frag) (l P1 P2 : Addr) (ns : List Int) (i : Nat) (σ : L2.St) (H' : Hp) : Prop :=
  (∃ v1 v2 v3 v4 v5 v6 v7 v8 v9 v10 v11 v12 v13, σ = [some (.ref l), v1, v2, v3, v4, v5, v6, v7, v8, v9, v10, v11, v12, v13]) ∧ SqL K H' l (ns.map V.int) ∧ Tabs (Tb P1 P2) H'
section
variable {P : Program} {w : World} {K : PySem.W.Frag} {mg : Str → Option Value} {base : Heap}
theorem c_law {fd : FuncData} {P1 P2 T0 : Addr} (T : Txt K mg) (F : LgF K) (DL : FunD K "law" "law" (defArgs s_law) (defBody s_law) (defScope s_law) [] [] (He.ga K "law") fd)
    (C_law_source : Cal P w K mg base 1 "_law_source" ["script", "place"] (spSource K)) (C_law_draw : Cal P w K mg base 1 "_law_draw" ["draws", "many"] spDraw) (C_law_pick : Cal P w K mg base 2 "_law_pick" ["draws", "xs"] (spPick K)) (C_law_some_deeds : Cal P w K mg base 4 "_law_some_deeds" ["draws", "many"] spDs) (C_law_entries : Cal P w K mg base 2 "_law_entries" ["deeds"] spEnts)
    (C_law_steps : Cal P w K mg base 2 "_law_steps" ["entries", "key", "valid"] spLSteps) (C_law_restated : Cal P w K mg base 2 "_law_restated" ["entries", "one", "other", "valid"] spLRes) (C_law_first_below : Cal P w K mg base 2 "_law_first_below" ["entries", "key", "floor", "known"] spLBelow) (C_law_seen_below : Cal P w K mg base 3 "_law_seen_below" ["entries", "key", "floor"] spLSeen)
    (C_law_same : Cal P w K mg base 6 "_law_same" ["found", "due"] (spDeep 5)) (C_law_refused_right : Cal P w K mg base 12 "_law_refused_right" ["draws", "ledger"] (spRef K P1 P2)) (C_law_each_refused : Cal P w K mg base 12 "_law_each_refused" ["draws", "ledger"] (spRef K P1 P2)) (Mk0 : MkL P w K mg base T0)
    (MSt : CalM P w K mg base (L2.CX P w) 6 (He.fAd K ("Ledger", some "known_steps")) ["self", "account", "thing", "valid"] (spSteps K)) (NSt : Meth K (He.ga K "Ledger") "known_steps" (He.fAd K ("Ledger", some "known_steps"))) (MFi : CalM P w K mg base (L2.CX P w) 6 (He.fAd K ("Ledger", some "first_below")) ["self", "account", "thing", "floor", "known"] (spBelow K)) (NFi : Meth K (He.ga K "Ledger") "first_below" (He.fAd K ("Ledger", some "first_below")))
    (MSe : CalM P w K mg base (L2.CX P w) 7 (He.fAd K ("Ledger", some "seen_below")) ["self", "account", "thing", "floor"] (spSeen K)) (NSe : Meth K (He.ga K "Ledger") "seen_below" (He.fAd K ("Ledger", some "seen_below"))) (MRe : CalM P w K mg base (L2.CX P w) 9 (He.fAd K ("Ledger", some "restated")) ["self", "one", "other", "valid"] (spRes K)) (NRe : Meth K (He.ga K "Ledger") "restated" (He.fAd K ("Ledger", some "restated"))) :
    FnOk P w K mg base CX0 13 (He.ga K "law") fd ["script"] (spLaw K P1 P2) := by
  refine fun_ok DL sc_law (fun vs H Q E h => ?_) fun A outer s H vs Q E hr h => ?_
  · obtain ⟨l, ns, rfl, _⟩ := h
    rfl
  obtain ⟨l, ns, rfl, hs, ht1, ht2, q⟩ := h
  refine ⟨_, PSs.nox (pss_cons (ps_for PassesOwn.never rfl (pi_range1 (by rfl) T.range (pa_cons (pe_op op_add pe_int (pe_callB (id := "min") (call_min2 rfl) (by rfl) T.min (by decide +kernel) (pa_cons (pe_callB (id := "len") call_len_seq (by rfl) T.len (by decide +kernel) (pa_cons (pv 0) pa_nil)) (pa_cons pe_int pa_nil)))) pa_nil)) (pg_name (i := 1) sc_law.nd rfl (by first | exact Or.inl rfl | exact Or.inr rfl))
      (pss_cons (ps_set (i := 2) sc_law.nd rfl (by first | exact Or.inl rfl | exact Or.inr rfl) (pe_cal C_law_source hr (by first | decide | omega) (by rfl) (pa_cons (pv 0) (pa_cons (pv 1) pa_nil))))
      (pss_cons (ps_set (i := 3) sc_law.nd rfl (by first | exact Or.inl rfl | exact Or.inr rfl) (pe_cal C_law_some_deeds hr (by first | decide | omega) (by rfl) (pa_cons (pv 2) (pa_cons pe_int pa_nil))))
      (pss_cons (ps_par (i := 5) (j := 6) (by rfl) sc_law.nd rfl rfl (by decide) rfl rfl (pa_cons (MkL.pe Mk0 hr (by decide) (by rfl) passes_never (pa_cons (pv 3) pa_nil)) (pa_cons (pe_cal C_law_entries hr (by first | decide | omega) (by rfl) (pa_cons (pv 3) pa_nil)) pa_nil)) (by rfl))
      (pss_cons (ps_for PassesOwn.never rfl (pi_range1 (by rfl) T.range (pa_cons pe_int pa_nil)) (pg_name (i := 4) sc_law.nd rfl (by first | exact Or.inl rfl | exact Or.inr rfl))
      (pss_cons (ps_set (i := 7) sc_law.nd rfl (by first | exact Or.inl rfl | exact Or.inr rfl) (pe_tup (pa_cons (pe_cal C_law_pick hr (by first | decide | omega) (by rfl) (pa_cons (pv 2) (pa_cons (pe_lst (pa_cons pe_str (pa_cons pe_str (pa_cons pe_str (pa_cons pe_str pa_nil))))) pa_nil))) (pa_cons (pe_cal C_law_pick hr (by first | decide | omega) (by rfl) (pa_cons (pv 2) (pa_cons (pe_lst (pa_cons pe_str (pa_cons pe_str (pa_cons pe_str pa_nil)))) pa_nil))) pa_nil))))
      (pss_cons (ps_par3 (i := 11) (j := 12) (l := 13) (by rfl) sc_law.nd rfl rfl rfl (by decide) (by decide) (by decide) rfl rfl rfl (pa_cons (pe_cal C_law_draw hr (by first | decide | omega) (by rfl) (pa_cons (pv 2) (pa_cons pe_int pa_nil))) (pa_cons (pe_cal C_law_draw hr (by first | decide | omega) (by rfl) (pa_cons (pv 2) (pa_cons pe_int pa_nil))) (pa_cons (pe_cal C_law_draw hr (by first | decide | omega) (by rfl) (pa_cons (pv 2) (pa_cons pe_int pa_nil))) pa_nil))) (by rfl))
      (pss_cons (ps_set (i := 8) sc_law.nd rfl (by first | exact Or.inl rfl | exact Or.inr rfl) (pe_cal C_law_pick hr (by first | decide | omega) (by rfl) (pa_cons (pv 2) (pa_cons (pe_lst (pa_cons pe_int (pa_cons pe_int (pa_cons (pe_un un_neg pe_int) (pa_cons (pe_un un_neg pe_int) (pa_cons (pe_op op_sub pe_int (pe_op op_pow pe_int pe_int)) pa_nil)))))) pa_nil))))
      (pss_cons (ps_expr (pe_dclearT (mE_ MRe hr (by decide) F.cl NRe passes_never (pv 5) (pa_cons (pv 12) (pa_cons (pv 13) (pa_cons (pv 11) pa_nil))))))
      (pss_cons (ps_set (i := 9) sc_law.nd rfl (by first | exact Or.inl rfl | exact Or.inr rfl) (pe_lst (pa_cons (mE_ MSt hr (by decide) F.cl NSt passes_never (pv 5) (pa_cons (pe_ix ix_tup (pv 7) pe_int (fun _ _ => rfl)) (pa_cons (pe_ix ix_tup (pv 7) pe_int (fun _ _ => rfl)) (pa_cons (pv 11) pa_nil)))) (pa_cons (pe_callTy (T := "list") (call_list_itemsT rfl) (by rfl) T.list (by decide +kernel) (pa_cons (pe_bm0 PySem.F.plainAttrs_dict PySem.F.slot_dict_items PySem.F.type_dict_items mt_itemsT (mE_ MRe hr (by decide) F.cl NRe passes_never (pv 5) (pa_cons (pv 12) (pa_cons (pv 13) (pa_cons (pv 11) pa_nil))))) pa_nil)) pa_nil))))
      (pss_cons (ps_expr (pe_bm PySem.F.plainAttrs_list PySem.F.slot_list_append PySem.F.type_list_append mt_append (pv 9) (pa_cons (mE_ MFi hr (by decide) F.cl NFi passes_never (pv 5) (pa_cons (pe_ix ix_tup (pv 7) pe_int (fun _ _ => rfl)) (pa_cons (pe_ix ix_tup (pv 7) pe_int (fun _ _ => rfl)) (pa_cons (pv 8) (pa_cons (pv 12) pa_nil))))) pa_nil)))
      (pss_cons (ps_expr (pe_bm PySem.F.plainAttrs_list PySem.F.slot_list_append PySem.F.type_list_append mt_append (pv 9) (pa_cons (mE_ MSe hr (by decide) F.cl NSe passes_never (pv 5) (pa_cons (pe_ix ix_tup (pv 7) pe_int (fun _ _ => rfl)) (pa_cons (pe_ix ix_tup (pv 7) pe_int (fun _ _ => rfl)) (pa_cons (pv 8) pa_nil)))) pa_nil)))
      (pss_cons (ps_set (i := 10) sc_law.nd rfl (by first | exact Or.inl rfl | exact Or.inr rfl) (pe_lst (pa_cons (pe_cal C_law_steps hr (by first | decide | omega) (by rfl) (pa_cons (pv 6) (pa_cons (pv 7) (pa_cons (pv 11) pa_nil)))) (pa_cons (pe_cal C_law_restated hr (by first | decide | omega) (by rfl) (pa_cons (pv 6) (pa_cons (pv 12) (pa_cons (pv 13) (pa_cons (pv 11) pa_nil))))) pa_nil))))
      (pss_cons (ps_expr (pe_bm PySem.F.plainAttrs_list PySem.F.slot_list_extend PySem.F.type_list_extend mt_extend (pv 10) (pa_cons (pe_lst (pa_cons (pe_cal C_law_first_below hr (by first | decide | omega) (by rfl) (pa_cons (pv 6) (pa_cons (pv 7) (pa_cons (pv 8) (pa_cons (pv 12) pa_nil))))) (pa_cons (pe_cal C_law_seen_below hr (by first | decide | omega) (by rfl) (pa_cons (pv 6) (pa_cons (pv 7) (pa_cons (pv 8) pa_nil)))) pa_nil))) pa_nil)))
      (pss_cons (ps_if (pt_not (pt_val (pe_cal C_law_same hr (by first | decide | omega) (by rfl) (pa_cons (pv 9) (pa_cons (pv 10) pa_nil))))) (pss_one (ps_ret pe_bl)) pss_nil)
      (pss_one (ps_expr (pe_bm PySem.F.plainAttrs_list PySem.F.slot_list_append PySem.F.type_list_append mt_append (pe_ix ix_list (pv 9) pe_int (fun _ _ => rfl)) (pa_cons pe_str pa_nil)))))))))))))))
      (pss_one (ps_if (PW.pt (pw_or (pt_not (pt_val (pe_cal C_law_refused_right hr (by first | decide | omega) (by rfl) (pa_cons (pv 2) (pa_cons (pv 5) pa_nil))))) (pw_or1 (pt_not (pt_val (pe_cal C_law_each_refused hr (by first | decide | omega) (by rfl) (pa_cons (pv 2) (pa_cons (pv 5) pa_nil)))))))) (pss_one (ps_ret pe_bl)) pss_nil)))))))
      (pss_one (ps_ret pe_bl))), ?_⟩
  have tab0 : Tabs (Tb P1 P2) H := fun p hp => by
    rcases List.mem_cons.mp hp with rfl | hp
    · exact TabS.nil ht1
    · rw [List.mem_singleton.mp hp]
      exact TabS.nil ht2
  refine ⟨_, rfl, l, _, rfl, .inl hs, _, _, rfl, _, _, rfl, rfl, _, rfl, ?_, ?_, ?_⟩
  · split <;> omega
  · split <;> omega
  refine for_range (LawInv K l P1 P2 ns) ⟨⟨_, _, _, _, _, _, _, _, _, _, _, _, _, rfl⟩, hs, tab0⟩ ?_ ?_
  rotate_left
  · rintro σ H1 _
    exact q _
  rintro i σ H1 hi ⟨⟨v1, v2, v3, v4, v5, v6, v7, v8, v9, v10, v11, v12, v13, rfl⟩, sql1, tab1⟩
  refine ⟨_, rfl, _, rfl, l, _, ns, rfl, sql1, by omega, fun a o ha ho => ?_⟩
  have sN := rm_new (o := o) ha
  refine ⟨_, rfl, a, 9, rfl, by decide, ⟨o, upd_same, ho⟩, fun dv H2 ds w2 c2 d2 sR ids dl G => ?_⟩
  have X2 : Sx K l a dv (Tb P1 P2) ns ds H2 := ⟨d2, sql_mono (sN.trans sR) sql1, tab1.ext (sN.trans (sR.trans rm_same)), ids⟩
  have DE := G.drawn (by omega)
  have TM := G.times (by omega)
  try dsimp only
  refine cut_if (fun σ H' => ∃ x le ys, σ = [some (.ref l), some (.int (0 + (i : Nat))), some (.ref a), some (.ref dv), v4, some (.ref x), some (.ref le), v7, v8, v9, v10, v11, v12, v13] ∧ Sx K l a dv (Tb P1 P2) ns ds H' ∧ Lx K a x le ds ys H') ?_ fun rest => ?_
  rotate_left
  · refine ⟨_, rfl, fun x dx hx hdx ne => ?_⟩
    refine ⟨_, x, dx, .ref dv, .lst ds, rfl, (Same.up hdx).trans (Same.up ((upd_ne ne.symm).trans hx)), hx, X2.idsH, fun z e => by cases e; exact G.flat, upd_same, fun hb H7 s7 L => ⟨rfl, ?_⟩, fun j e => ?_⟩
    rotate_left
    · have e : badD ds 0 (-1) 0 = some j := e
      rw [G.fine (by omega)] at e
      cases e
    have L : LedAt K H7 x (ds.map told1) (K28.ents ds (-1)) := L
    rw [G.told] at L
    have X7 := X2.grow s7
    refine ⟨_, rfl, .ref dv, .lst ds, ds, rfl, X7.idsH, rfl, G.sh, fun H8 le ys s8 hle hle8 en => ?_⟩
    have nle : le ≠ a := fun z => X7.d.some (by rw [← z]; exact hle)
    rw [lents_eq G.ints] at en
    have X8 := X7.grow s8
    exact ⟨_, _, rfl, rest _ _ ⟨x, le, ys, rfl, X8, (L.rm G.tup G.tups X7.d).mono (Same.rm s8), (rm_ne nle).trans hle8, Paired.imp' (fun _ _ h => EntAt.rm h X8.d) en⟩⟩
  rintro _ H3 ⟨x, le, ys, rfl, X3, L3⟩
  -- four keys
  try dsimp only
  refine cut_if (fun σ H' => ∃ u4 u7 u8 u9 u10 u11 u12 u13, σ = [some (.ref l), some (.int (0 + (i : Nat))), some (.ref a), some (.ref dv), u4, some (.ref x), some (.ref le), u7, u8, u9, u10, u11, u12, u13] ∧ Sx K l a dv (Tb P1 P2) ns ds H' ∧ Lx K a x le ds ys H') ?_ fun rest => ?_
  rotate_left
  · refine ⟨4, rfl, by decide, by decide, for_range (fun j σ H' => ∃ u4 u7 u8 u9 u10 u11 u12 u13, σ = [some (.ref l), some (.int (0 + (i : Nat))), some (.ref a), some (.ref dv), u4, some (.ref x), some (.ref le), u7, u8, u9, u10, u11, u12, u13] ∧ Sx K l a dv (Tb P1 P2) ns ds H' ∧ Lx K a x le ds ys H') ⟨_, _, _, _, _, _, _, _, rfl, X3, L3⟩ ?_ fun σ H' h => rest _ _ h⟩
    clear rest X2 X3 L3
    rintro j σ H4 hj ⟨u4, u7, u8, u9, u10, u11, u12, u13, rfl, X4, L4⟩
    -- the key
    try dsimp only
    refine cut_if (fun σ H' => ∃ kt A B, σ = [some (.ref l), some (.int (0 + (i : Nat))), some (.ref a), some (.ref dv), some (.int (0 + (j : Nat))), some (.ref x), some (.ref le), some (.ref kt), u8, u9, u10, u11, u12, u13] ∧ Sx K l a dv (Tb P1 P2) ns ds H' ∧ Lx K a x le ds ys H' ∧ KeyAt a kt A B H' ∧ (accOk (.str A) = true ∧ ∀ G, Is G (.str A) (.str A)) ∧ nameOk (.str B) = true ∧ ∀ G, Is G (.str B) (.str B)) ?_ fun rest => ?_
    rotate_left
    · refine ⟨_, rfl, lineN (n := 4), fun l1 hl1 => ?_⟩
      have X5 := X4.grow (Same.up (o := .lst [.str "ann", .str "bob", .str "the-till", .str "zz"]) hl1)
      have L5 := L4.grow (Same.up (o := .lst [.str "ann", .str "bob", .str "the-till", .str "zz"]) hl1)
      have n1 : l1 ≠ a := fun z => X4.d.some (by rw [← z]; exact hl1)
      refine ⟨a, l1, _, rfl, X5.d, n1, .inl (SqL.of upd_same), (show 1 ≤ 4 by decide), (show 4 < 1073741824 by decide), fun k1 va o1 hv1 ho1 => ?_⟩
      obtain ⟨A, rfl, cA, iA⟩ := key_a hv1
      have X6 := X5.pick ho1
      have L6 := L5.pick ho1
      refine ⟨_, rfl, lineN (n := 3), fun l2 hl2 => ?_⟩
      have X7 := X6.grow (Same.up (o := .lst [.str "coin", .str "seat", .str "x"]) hl2)
      have L7 := L6.grow (Same.up (o := .lst [.str "coin", .str "seat", .str "x"]) hl2)
      have n2 : l2 ≠ a := fun z => X6.d.some (by rw [z] at hl2; exact hl2)
      refine ⟨a, l2, _, rfl, X7.d, n2, .inl (SqL.of upd_same), (show 1 ≤ 3 by decide), (show 3 < 1073741824 by decide), fun k2 vb o2 hv2 ho2 => ?_⟩
      obtain ⟨B, rfl, cB, iB⟩ := key_b hv2
      have X8 := X7.pick ho2
      have L8 := L7.pick ho2
      refine ⟨two_line, fun kt hkt => ?_⟩
      have nk : kt ≠ a := fun z => X8.d.some (by rw [z] at hkt; exact hkt)
      have st := Same.up (o := .tup [.str A, .str B]) hkt
      exact rest _ _ ⟨kt, A, B, rfl, X8.grow st, L8.grow st, (rm_ne nk).trans upd_same, ⟨cA, iA⟩, cB, iB⟩
    rintro _ H5 ⟨kt, A', B', rfl, X5, L5, K5, ⟨cA, iA⟩, cB, iB⟩
    -- the times
    try dsimp only
    refine cut_if (fun σ H' => ∃ m n1 n2, σ = [some (.ref l), some (.int (0 + (i : Nat))), some (.ref a), some (.ref dv), some (.int (0 + (j : Nat))), some (.ref x), some (.ref le), some (.ref kt), u8, u9, u10, some (.int m), some (.int n1), some (.int n2)] ∧ Sx K l a dv (Tb P1 P2) ns ds H' ∧ Lx K a x le ds ys H' ∧ KeyAt a kt A' B' H' ∧ timeOk (.int m) = true ∧ timeOk (.int n1) = true ∧ timeOk (.int n2) = true) ?_ fun rest => ?_
    rotate_left
    · refine ⟨_, rfl, a, 11, rfl, X5.d, by decide, by decide, fun r1 o1 p1 b1 h1 => ?_⟩
      refine ⟨_, rfl, a, 14, rfl, (X5.pick h1).d, by decide, by decide, fun r2 o2 p2 b2 h2 => ?_⟩
      refine ⟨_, rfl, a, 14, rfl, ((X5.pick h1).pick h2).d, by decide, by decide, fun r3 o3 p3 b3 h3 => ?_⟩
      exact ⟨_, _, _, rfl, rest _ _ ⟨r1, r2, r3, rfl, ((X5.pick h1).pick h2).pick h3, ((L5.pick h1).pick h2).pick h3, K5.pick.pick.pick, time_ok p1 (by omega), time_ok p2 (by omega), time_ok p3 (by omega)⟩⟩
    rintro _ H6 ⟨m, n1, n2, rfl, X6, L6, K6, cm, cn1, cn2⟩
    clear X4 L4 X5 L5 K5
    -- the floor
    try dsimp only
    refine cut_if (fun σ H' => ∃ fl, σ = [some (.ref l), some (.int (0 + (i : Nat))), some (.ref a), some (.ref dv), some (.int (0 + (j : Nat))), some (.ref x), some (.ref le), some (.ref kt), some (.int fl), u9, u10, some (.int m), some (.int n1), some (.int n2)] ∧ Sx K l a dv (Tb P1 P2) ns ds H' ∧ Lx K a x le ds ys H' ∧ KeyAt a kt A' B' H' ∧ floorOk (.int fl) = true) ?_ fun rest => ?_
    rotate_left
    · refine ⟨_, rfl, _, rfl, _, rfl, _, _, rfl, rfl, ⟨by decide, by decide, by decide⟩, _, _, rfl, rfl, lineN (n := 5), fun l1 hl1 => ?_⟩
      have X7 := fun o => X6.grow (Same.up (o := o) hl1)
      have L7 := fun o => L6.grow (Same.up (o := o) hl1)
      have K7 := fun o => K6.grow (Same.up (o := o) hl1)
      have ne1 : l1 ≠ a := fun z => X6.d.some (by rw [← z]; exact hl1)
      refine ⟨a, l1, _, rfl, (X7 _).d, ne1, .inl (SqL.of upd_same), (show 1 ≤ 5 by decide), (show 5 < 1073741824 by decide), fun k1 vf o1 hv1 ho1 => ?_⟩
      obtain ⟨fl, rfl, cf⟩ := floor_v (by decide) hv1
      exact rest _ _ ⟨fl, rfl, (X7 _).pick ho1, (L7 _).pick ho1, (K7 _).pick, cf⟩
    rintro _ H7 ⟨fl, rfl, X7, L7, K7, cf⟩
    clear X6 L6 K6
    have Ld := L7.led.mono rm_same
    have hle := rm_same _ _ L7.le
    have hen := Paired.imp' (fun _ _ h => EntAt.mono rm_same h) L7.en
    have hk := K7.at
    have ledx : ∀ {H' : Hp}, Same H7 H' → ∃ (dx : Addr) (fs : Addr × Addr), H' x = some (.ins (He.ga K "Ledger") dx [("_deeds", .ref fs.1), ("_entries", .ref fs.2)]) := fun s => by
      obtain ⟨dx, a, b, _, hx, _⟩ := Ld.mono s
      exact ⟨dx, (a, b), hx⟩
    -- one that was shown is cleared
    try dsimp only
    refine cut_if (fun σ H' => σ = [some (.ref l), some (.int (0 + (i : Nat))), some (.ref a), some (.ref dv), some (.int (0 + (j : Nat))), some (.ref x), some (.ref le), some (.ref kt), some (.int fl), u9, u10, some (.int m), some (.int n1), some (.int n2)] ∧ Same H7 H') ?_ fun rest => ?_
    rotate_left
    · obtain ⟨dx, fs, hx⟩ := ledx (Same.refl _)
      refine ⟨_, rfl, x, dx, _, rfl, hx, rfl, _, rfl, _, rfl, _, rfl, ?_⟩
      try delta tCons
      try delta tNil
      try delta tVar
      dsimp only
      show spRes K [V.ref x, .int n1, .int n2, .int m] _ _ _
      refine ok_res Ld DE cn1 cn2 cm fun H8 d bs kvs s8 hd nd mem hdd kl pr => ?_
      exact ⟨.inr (.inr (.inl ⟨rfl, .inr ⟨_, hdd⟩⟩)), d, _, rfl, rfl, hdd, rest _ _ ⟨rfl, Same.set s8 hd⟩⟩
    rintro _ H8 ⟨rfl, s8⟩
    -- what is told
    try dsimp only
    refine cut_if (fun σ H' => ∃ f ls lr Hb, σ = [some (.ref l), some (.int (0 + (i : Nat))), some (.ref a), some (.ref dv), some (.int (0 + (j : Nat))), some (.ref x), some (.ref le), some (.ref kt), some (.int fl), some (.ref f), u10, some (.int m), some (.int n1), some (.int n2)] ∧ Same H7 Hb ∧ Hb f = none ∧ H7 ls = none ∧ Is Hb (.ref ls) (stepsD (stepsOf (fun k => stood (K28.ents ds (-1)) (A', B') k m) (risen ((K28.ents ds (-1)).map (·.1))) 0)) ∧ Is Hb (.ref lr) (resD (balOf inT n1 m (K28.ents ds (-1))) (balOf inT n2 m (K28.ents ds (-1)))) ∧ Same Hb H' ∧ H' f = some (.lst [.ref ls, .ref lr])) ?_ fun rest => ?_
    rotate_left
    · obtain ⟨dx, fs, hx⟩ := ledx s8
      refine ⟨_, rfl, x, dx, _, rfl, hx, rfl, _, rfl, kt, _, _, _, rfl, rfl, SqT.of (s8 _ _ hk), at_nat (i := 0) rfl, _, rfl, kt, _, _, _, rfl, rfl, SqT.of (s8 _ _ hk), at_nat (i := 1) rfl, _, rfl, ?_⟩
      try delta tCons
      try delta tNil
      try delta tVar
      dsimp only
      show spSteps K [V.ref x, .str A', .str B', .int m] _ _ _
      refine ok_steps (Ld.mono s8) DE TM (iA _) cA (iB _) cB cm fun H9 ls s9 hls is => ?_
      have s79 := s8.trans s9
      obtain ⟨dx9, fs9, hx9⟩ := ledx s79
      refine ⟨_, rfl, x, dx9, _, rfl, hx9, rfl, _, rfl, _, rfl, _, rfl, ?_⟩
      try delta tCons
      try delta tNil
      try delta tVar
      dsimp only
      show spRes K [V.ref x, .int n1, .int n2, .int m] _ _ _
      refine ok_res (Ld.mono s79) DE cn1 cn2 cm fun Ha d bs kvs sa hd nd mem hdd kl pr => ?_
      refine ⟨.inr (.inr (.inl ⟨rfl, .inr ⟨_, hdd⟩⟩)), d, _, rfl, rfl, hdd, fun p hp => ?_⟩
      refine ⟨p, d, _, rfl, upd_same, Same.up hp _ _ hdd, by omega, fun Hb lr ts sb hlr hlrs pi => ⟨lineN (n := 2), fun f hf => ?_⟩⟩
      have sab := (Same.up (o := itemsO p d) hp).trans sb
      have s7b := s79.trans (sa.trans sab)
      exact rest _ _ ⟨f, ls, lr, Hb, rfl, s7b, hf, s8.free hls, is.mono (sa.trans sab), resD_is (bal_ints DE) (bal_ints DE) (bal_len DE) (bal_len DE) nd mem hlrs pi (Paired.imp' (fun _ _ h => PairAt.mono sab h) pr), Same.up hf, upd_same⟩
    rintro _ H9 ⟨f, ls, lr, Hb, rfl, s7b, hfb, hls7, is, ir, sb9, hf9⟩
    clear s8
    try dsimp only
    refine cut_if (fun σ H' => σ = [some (.ref l), some (.int (0 + (i : Nat))), some (.ref a), some (.ref dv), some (.int (0 + (j : Nat))), some (.ref x), some (.ref le), some (.ref kt), some (.int fl), some (.ref f), u10, some (.int m), some (.int n1), some (.int n2)] ∧ Same Hb H' ∧ H' f = some (.lst [.ref ls, .ref lr, vV (below (K28.ents ds (-1)) (A', B') fl n1)])) ?_ fun rest => ?_
    rotate_left
    · have s9 := s7b.trans sb9
      obtain ⟨dx, fs, hx⟩ := ledx s9
      refine ⟨_, rfl, .inl ⟨rfl, _, SqL.of hf9⟩, _, rfl, x, dx, _, rfl, hx, rfl, _, rfl, kt, _, _, _, rfl, rfl, SqT.of (s9 _ _ hk), at_nat (i := 0) rfl, _, rfl, kt, _, _, _, rfl, rfl, SqT.of (s9 _ _ hk), at_nat (i := 1) rfl, _, rfl, _, rfl, ?_⟩
      try delta tCons
      try delta tNil
      try delta tVar
      dsimp only
      show spBelow K [V.ref x, .str A', .str B', .int fl, .int n1] _ _ _
      refine ok_below (Ld.mono s9) DE TM (iA _) cA (iB _) cB cf cn1 fun Ha sa => ?_
      exact ⟨f, _, _, rfl, rfl, sa _ _ hf9, sz (m := 60) (show (2 : Nat) ≤ 60 by decide), rest _ _ ⟨rfl, Same.set (sb9.trans sa) hfb, upd_same⟩⟩
    rintro _ Ha ⟨rfl, sba, hfa⟩
    clear sb9 hf9
    try dsimp only
    refine cut_if (fun σ H' => ∃ y, σ = [some (.ref l), some (.int (0 + (i : Nat))), some (.ref a), some (.ref dv), some (.int (0 + (j : Nat))), some (.ref x), some (.ref le), some (.ref kt), some (.int fl), some (.ref f), u10, some (.int m), some (.int n1), some (.int n2)] ∧ Same Hb H' ∧ H' f = some (.lst [.ref ls, .ref lr, vV (below (K28.ents ds (-1)) (A', B') fl n1), y]) ∧ Is H' y (seenD (seen (K28.ents ds (-1)) (A', B') fl))) ?_ fun rest => ?_
    rotate_left
    · have s9 := s7b.trans sba
      obtain ⟨dx, fs, hx⟩ := ledx s9
      refine ⟨_, rfl, .inl ⟨rfl, _, SqL.of hfa⟩, _, rfl, x, dx, _, rfl, hx, rfl, _, rfl, kt, _, _, _, rfl, rfl, SqT.of (s9 _ _ hk), at_nat (i := 0) rfl, _, rfl, kt, _, _, _, rfl, rfl, SqT.of (s9 _ _ hk), at_nat (i := 1) rfl, _, rfl, ?_⟩
      try delta tCons
      try delta tNil
      try delta tVar
      dsimp only
      show spSeen K [V.ref x, .str A', .str B', .int fl] _ _ _
      refine ok_seen (Ld.mono s9) DE TM (iA _) cA (iB _) cB cf fun Hc y sc iy => ?_
      have hfc := sc _ _ hfa
      exact ⟨f, _, _, rfl, rfl, hfc, sz (m := 60) (show (3 : Nat) ≤ 60 by decide), rest _ _ ⟨y, rfl, Same.set (sba.trans sc) hfb, upd_same, seen_keep iy hfc⟩⟩
    rintro _ Hc ⟨y, rfl, sbc, hfc, iy⟩
    clear sba hfa
    have s7c := s7b.trans sbc
    -- what is due
    try dsimp only
    refine cut_if (fun σ H' => ∃ g l8 l9 Hd, σ = [some (.ref l), some (.int (0 + (i : Nat))), some (.ref a), some (.ref dv), some (.int (0 + (j : Nat))), some (.ref x), some (.ref le), some (.ref kt), some (.int fl), some (.ref f), some (.ref g), some (.int m), some (.int n1), some (.int n2)] ∧ Same Hc Hd ∧ Hd g = none ∧ Is Hd (.ref l8) (stepsD (stepsOf (fun k => stood (K28.ents ds (-1)) (A', B') k m) (risen ((K28.ents ds (-1)).map (·.1))) 0)) ∧ Is Hd (.ref l9) (resD (balOf inT n1 m (K28.ents ds (-1))) (balOf inT n2 m (K28.ents ds (-1)))) ∧ Same Hd H' ∧ H' g = some (.lst [.ref l8, .ref l9])) ?_ fun rest => ?_
    rotate_left
    · refine ⟨_, rfl, _, rfl, _, rfl, le, kt, A', B', m, ys, _, rfl, s7c _ _ hle, Paired.imp' (fun _ _ h => EntAt.mono s7c h) hen, s7c _ _ hk, DE, fun He l8 se i8 => ?_⟩
      have s7e := s7c.trans se
      refine ⟨_, rfl, _, rfl, _, rfl, _, rfl, le, n1, n2, m, ys, _, rfl, s7e _ _ hle, Paired.imp' (fun _ _ h => EntAt.mono s7e h) hen, DE, fun Hd l9 sd i9 => ⟨lineN (n := 2), fun g hg => ?_⟩⟩
      exact rest _ _ ⟨g, l8, l9, Hd, rfl, se.trans sd, hg, i8.mono sd, i9, Same.up hg, upd_same⟩
    rintro _ He ⟨g, l8, l9, Hd, rfl, scd, hgd, i8, i9, sde, hge⟩
    try dsimp only
    refine cut_if (fun σ H' => ∃ y2, σ = [some (.ref l), some (.int (0 + (i : Nat))), some (.ref a), some (.ref dv), some (.int (0 + (j : Nat))), some (.ref x), some (.ref le), some (.ref kt), some (.int fl), some (.ref f), some (.ref g), some (.int m), some (.int n1), some (.int n2)] ∧ Same Hd H' ∧ H' g = some (.lst [.ref l8, .ref l9, vV (below (K28.ents ds (-1)) (A', B') fl n1), y2]) ∧ Is H' y2 (seenD (seen (K28.ents ds (-1)) (A', B') fl))) ?_ fun rest => ?_
    rotate_left
    · have s7e := s7c.trans (scd.trans sde)
      refine ⟨_, rfl, .inl ⟨rfl, _, SqL.of hge⟩, _, rfl, _, rfl, _, rfl, _, rfl, le, kt, A', B', fl, n1, ys, _, rfl, s7e _ _ hle, Paired.imp' (fun _ _ h => EntAt.mono s7e h) hen, s7e _ _ hk, DE, fun Hf sf => ?_⟩
      have s7f := s7e.trans sf
      refine ⟨_, rfl, _, rfl, _, rfl, le, kt, A', B', fl, ys, _, rfl, s7f _ _ hle, Paired.imp' (fun _ _ h => EntAt.mono s7f h) hen, s7f _ _ hk, DE, fun Hg y2 sg iy2 => ⟨lineN (n := 2), fun L hL => ?_⟩⟩
      have sL := Same.up (o := .lst [vV (below (K28.ents ds (-1)) (A', B') fl n1), y2]) hL
      have hg4 := (sf.trans (sg.trans sL)) _ _ hge
      exact ⟨g, L, _, _, rfl, rfl, hg4, upd_same, lineN (n := 4), rest _ _ ⟨y2, rfl, Same.set (sde.trans (sf.trans (sg.trans sL))) hgd, upd_same, seen_keep (iy2.mono sL) hg4⟩⟩
    rintro _ Hh ⟨y2, rfl, sdh, hgh, iy2⟩
    clear sde hge
    have sch := scd.trans sdh
    have iF : Is Hh (.ref f) (.lst (toldK (K28.ents ds (-1)) (A', B') fl m n1 n2)) := .lst (sch _ _ hfc) (.cons (is.mono (sbc.trans sch)) (.cons (ir.mono (sbc.trans sch)) (.cons (vV_is _ _) (.cons (iy.mono sch) .nil)))) (show (4 : Nat) ≤ 60 by decide)
    have iG : Is Hh (.ref g) (.lst (toldK (K28.ents ds (-1)) (A', B') fl m n1 n2)) := .lst hgh (.cons (i8.mono sdh) (.cons (i9.mono sdh) (.cons (vV_is _ _) (.cons iy2 .nil)))) (show (4 : Nat) ≤ 60 by decide)
    refine ⟨_, rfl, _, rfl, .ref f, .ref g, _, rfl, iF, iG, dep_told _ _ _ _ _ _, fun Hi si => ⟨_, rfl, iteF ?_⟩⟩
    have s7i := s7c.trans (sch.trans si)
    have hfi := si _ _ (sch _ _ hfc)
    have isi := (is.mono (sbc.trans (sch.trans si)))
    unfold stepsD at isi
    cases isi with
    | lst hli ial zl =>
    refine ⟨_, rfl, f, _, _, _, rfl, rfl, SqL.of hfi, at_nat (i := 0) rfl, .inl ⟨rfl, _, SqL.of hli⟩, ls, _, _, rfl, rfl, hli, sz (m := 60) zl, ?_⟩
    exact ⟨_, _, _, _, _, _, _, _, rfl, X7.grow (Same.set s7i hls7), L7.grow (Same.set s7i hls7)⟩
  rintro _ H4 ⟨u4, u7, u8, u9, u10, u11, u12, u13, rfl, X4, L4⟩
  refine ⟨_, rfl, _, rfl, a, x, ds, _, rfl, X4.d, L4.led, DE, TM, X4.tab, fun H5 d5 e5 t5 => ⟨_, rfl, iteF ?_⟩⟩
  refine ⟨_, rfl, _, rfl, a, x, ds, _, rfl, d5, L4.led.ext e5, DE, TM, t5, fun H6 d6 e6 t6 => ⟨_, rfl, iteF ?_⟩⟩
  have X6 := (X4.ext e5 d5 t5).ext e6 d6 t6
  exact ⟨⟨_, _, _, _, _, _, _, _, _, _, _, _, _, rfl⟩, X6.sqlH, t6⟩
end
end K28

set_option Elab.async false
set_option linter.all false
set_option maxRecDepth 100000
set_option maxHeartbeats 0
namespace K28
open PySem PySem.Spec PyProof.Rows L2 Sr
/-! ### the head -/
def dd (x : Str) (i : Nat) : He.DefD := ⟨(x, none), x, x, defArgs (top i), defBody (top i), defScope (top i), [], []⟩
def dm (c m qual : Str) (st : Stmt) : He.DefD := ⟨(c, some m), m, qual, defArgs st, defBody st, defScope st, [], []⟩
/-- the default of the first parameter of Ledger.__init__ -/
def tA (K : PySem.W.Frag) : Addr := He.dflAt ("Ledger", some "__init__") 0 K
def di : He.DefD := ⟨("Ledger", some "__init__"), "__init__", "Ledger.__init__", defArgs s_Ledger___init__, defBody s_Ledger___init__, defScope s_Ledger___init__, [.adr tA], []⟩
def fn : List He.DefD := [dd "is_integer" 5, dd "is_list" 6, dd "is_name" 7, dd "is_time" 8, dd "told_rows" 20, dd "is_balanced" 21, dd "is_account" 22, dd "is_rows" 23, dd "_is_row" 24, dd "_check_rows" 25, dd "_is_deed" 28, dd "_check_account" 29, dd "_check_times" 30, dd "_check_floor" 31, dd "_sums" 32, dd "_added" 33, dd "_unlike" 34, dd "_law_source" 36, dd "_law_draw" 37, dd "_law_pick" 38, dd "_law_same" 39, dd "_law_some_rows" 40, dd "_law_sums" 41, dd "_law_told" 42, dd "_law_balanced" 43, dd "_law_some_deeds" 44, dd "_law_entries" 45, dd "_law_balances" 46, dd "_law_tried" 47, dd "_law_steps" 48, dd "_law_first_below" 49, dd "_law_seen_below" 50, dd "_law_restated" 51, dd "_law_each_refused" 52, dd "_law_refused_right" 53, dd "law" 54, dm "BadRow" "__init__" "BadRow.__init__" s_BadRow___init__, dm "BadDeed" "__init__" "BadDeed.__init__" s_BadDeed___init__, dm "BadTime" "__init__" "BadTime.__init__" s_BadTime___init__, dm "BadAccount" "__init__" "BadAccount.__init__" s_BadAccount___init__, dm "BadName" "__init__" "BadName.__init__" s_BadName___init__, dm "BadFloor" "__init__" "BadFloor.__init__" s_BadFloor___init__, dm "Ledger" "balance" "Ledger.balance" s_Ledger_balance, dm "Ledger" "balances" "Ledger.balances" s_Ledger_balances, dm "Ledger" "known_steps" "Ledger.known_steps" s_Ledger_known_steps, dm "Ledger" "first_below" "Ledger.first_below" s_Ledger_first_below, dm "Ledger" "seen_below" "Ledger.seen_below" s_Ledger_seen_below, dm "Ledger" "restated" "Ledger.restated" s_Ledger_restated, dm "Ledger" "_known_times" "Ledger._known_times" s_Ledger__known_times, dm "Ledger" "_true" "Ledger._true" s_Ledger__true, di]
def fa : List He.Fa := [.glo "is_integer", .glo "is_list", .glo "is_name", .glo "is_time", .glo "told_rows", .glo "is_balanced", .glo "is_account", .glo "is_rows", .glo "_is_row", .glo "_check_rows", .glo "_is_deed", .glo "_check_account", .glo "_check_times", .glo "_check_floor", .glo "_sums", .glo "_added", .glo "_unlike", .glo "_law_source", .glo "_law_draw", .glo "_law_pick", .glo "_law_same", .glo "_law_some_rows", .glo "_law_sums", .glo "_law_told", .glo "_law_balanced", .glo "_law_some_deeds", .glo "_law_entries", .glo "_law_balances", .glo "_law_tried", .glo "_law_steps", .glo "_law_first_below", .glo "_law_seen_below", .glo "_law_restated", .glo "_law_each_refused", .glo "_law_refused_right", .glo "law", .free "len", .free "isinstance", .free "all", .free "range", .free "sorted", .free "list", .free "tuple", .free "min", .free "int", .free "str", .free "bool", .free "dict", .free "zip", .free "enumerate", .free "max", .free "sum", .free "set", .str "SIGNS" signs, .int "LONGEST" 8, .str "TILL" "the-till", .int "GREATEST" 1000000, .str "POOL" "the-pool", .glo "BadRow", .glo "BadDeed", .glo "BadTime", .glo "BadAccount", .glo "BadName", .glo "BadFloor", .glo "Ledger", .cls "Ledger", .noat "Ledger" "_deeds", .noat "Ledger" "_entries", .mkr "Ledger", .meth "Ledger" "balance", .meth "Ledger" "balances", .meth "Ledger" "known_steps", .meth "Ledger" "first_below", .meth "Ledger" "seen_below", .meth "Ledger" "restated", .meth "Ledger" "_known_times", .meth "Ledger" "_true"]
def ts : List He.Tab := []
def tf : List He.Defn := [("_law_refused_right", none), ("_law_each_refused", none)]
def ex (K : PySem.W.Frag) : Bool := errAll K (He.ga K "BadRow") (He.fAd K ("BadRow", some "__init__")) "index" && (errAll K (He.ga K "BadDeed") (He.fAd K ("BadDeed", some "__init__")) "index" && (errAll K (He.ga K "BadTime") (He.fAd K ("BadTime", some "__init__")) "time" && (errAll K (He.ga K "BadAccount") (He.fAd K ("BadAccount", some "__init__")) "account" && (errAll K (He.ga K "BadName") (He.fAd K ("BadName", some "__init__")) "thing" && (errAll K (He.ga K "BadFloor") (He.fAd K ("BadFloor", some "__init__")) "floor" && (decide (PySem.W.exmOne K (.ref (He.ga K "BadAccount")) (.ref (He.ga K "BadAccount")) = some true) && (decide (PySem.W.exmOne K (.ref (He.ga K "BadName")) (.ref (He.ga K "BadName")) = some true) && (decide (PySem.W.exmOne K (.ref (He.ga K "BadFloor")) (.ref (He.ga K "BadFloor")) = some true) && (decide (PySem.W.exmOne K (.ref (He.ga K "BadTime")) (.ref (He.ga K "BadTime")) = some true) && (decide (PySem.W.exmOne K (.ref (He.ga K "BadName")) (.ref (He.ga K "BadAccount")) = some false) && (decide (PySem.W.exmOne K (.ref (He.ga K "BadFloor")) (.ref (He.ga K "BadAccount")) = some false) && (decide (PySem.W.exmOne K (.ref (He.ga K "BadFloor")) (.ref (He.ga K "BadName")) = some false) && (decide (PySem.W.exmOne K (.ref (He.ga K "BadTime")) (.ref (He.ga K "BadAccount")) = some false) && (decide (PySem.W.exmOne K (.ref (He.ga K "BadTime")) (.ref (He.ga K "BadName")) = some false) && (decide (PySem.W.exmOne K (.ref (He.ga K "BadTime")) (.ref (He.ga K "BadFloor")) = some false) && (decide ((He.cT K ("_law_refused_right", none)).2 ≠ (He.cT K ("_law_each_refused", none)).2)))))))))))))))))
abbrev R : PySem.W.OpenRow := PySem.W.OpenLaw.row PySem.Challenge.rw_seatroads_k28_known_when
abbrev hk : PySem.W.Hook := He.hookX 6 fa fn ts tf ex
def ob (s : PySem.W.SharedT) : He.AlX := He.obsX 6 fa fn ts tf ex (HandSHeadRun.getT s)
theorem ob_eq (s : PySem.W.SharedT) : ob s = hk.obs s.abs := He.obsX_eq (HandSHeadRun.getT_eq s)
def looseA : List Str := ["is_integer", "is_list", "is_name", "is_time", "told_rows", "is_balanced", "is_account", "is_rows", "_is_row", "_check_rows", "_is_deed", "_check_account", "_check_times", "_check_floor", "_sums", "_added", "_unlike", "_law_source", "_law_draw", "_law_pick", "_law_same", "_law_some_rows", "_law_sums", "_law_told"]
def looseB : List Str := ["_law_balanced", "_law_some_deeds", "_law_entries", "_law_balances", "_law_tried", "_law_steps", "_law_first_below", "_law_seen_below", "_law_restated", "_law_each_refused", "_law_refused_right", "SIGNS", "LONGEST", "GREATEST", "TILL", "POOL", "OfficeError", "Ledger", "BadRow", "BadDeed", "BadTime", "BadAccount", "BadName", "BadFloor", "_wall"]
def loose : List Str := looseA ++ looseB
theorem run (w : World) : HandSHeadRun.RunEq R (PySem.W.view R.prog [54]) hk ob 60000 loose w := by
  intro os
  kernel_rfl
end K28

set_option Elab.async false
set_option linter.all false
set_option maxRecDepth 100000
set_option maxHeartbeats 4000000
namespace K28
open PySem PySem.Spec PyProof.Rows L2 Sr LamX
theorem facts {l : PySem.W.OpenLaw} {w : World} {K : PySem.W.Frag} {h : Heap} {mg : Str → Option Value} {f : Addr} (X : K.In h) (G : h.Ns mainGlobals mg) (hfa : mg ("law" : Str) = some (.ref f)) (c : He.SaysX fa fn ts tf ex w h K) : LawAtS l w K CX0 13 63 "script" mg f h := by
  have cd : He.SaysD fa fn K := c.t.d
  have e := hfa.symm.trans (He.glo_ok X G (cd.fact 35 (f := .glo "law") rfl))
  cases e
  have D_is_integer : Dfn K mg "is_integer" s_is_integer := ⟨cd.def_ 0 (d := dd "is_integer" 5) rfl, He.glo_ok X G (cd.fact 0 (f := .glo "is_integer") rfl)⟩
  have D_is_list : Dfn K mg "is_list" s_is_list := ⟨cd.def_ 1 (d := dd "is_list" 6) rfl, He.glo_ok X G (cd.fact 1 (f := .glo "is_list") rfl)⟩
  have D_is_name : Dfn K mg "is_name" s_is_name := ⟨cd.def_ 2 (d := dd "is_name" 7) rfl, He.glo_ok X G (cd.fact 2 (f := .glo "is_name") rfl)⟩
  have D_is_time : Dfn K mg "is_time" s_is_time := ⟨cd.def_ 3 (d := dd "is_time" 8) rfl, He.glo_ok X G (cd.fact 3 (f := .glo "is_time") rfl)⟩
  have D_told_rows : Dfn K mg "told_rows" s_told_rows := ⟨cd.def_ 4 (d := dd "told_rows" 20) rfl, He.glo_ok X G (cd.fact 4 (f := .glo "told_rows") rfl)⟩
  have D_is_balanced : Dfn K mg "is_balanced" s_is_balanced := ⟨cd.def_ 5 (d := dd "is_balanced" 21) rfl, He.glo_ok X G (cd.fact 5 (f := .glo "is_balanced") rfl)⟩
  have D_is_account : Dfn K mg "is_account" s_is_account := ⟨cd.def_ 6 (d := dd "is_account" 22) rfl, He.glo_ok X G (cd.fact 6 (f := .glo "is_account") rfl)⟩
  have D_is_rows : Dfn K mg "is_rows" s_is_rows := ⟨cd.def_ 7 (d := dd "is_rows" 23) rfl, He.glo_ok X G (cd.fact 7 (f := .glo "is_rows") rfl)⟩
  have D__is_row : Dfn K mg "_is_row" s__is_row := ⟨cd.def_ 8 (d := dd "_is_row" 24) rfl, He.glo_ok X G (cd.fact 8 (f := .glo "_is_row") rfl)⟩
  have D__check_rows : Dfn K mg "_check_rows" s__check_rows := ⟨cd.def_ 9 (d := dd "_check_rows" 25) rfl, He.glo_ok X G (cd.fact 9 (f := .glo "_check_rows") rfl)⟩
  have D__is_deed : Dfn K mg "_is_deed" s__is_deed := ⟨cd.def_ 10 (d := dd "_is_deed" 28) rfl, He.glo_ok X G (cd.fact 10 (f := .glo "_is_deed") rfl)⟩
  have D__check_account : Dfn K mg "_check_account" s__check_account := ⟨cd.def_ 11 (d := dd "_check_account" 29) rfl, He.glo_ok X G (cd.fact 11 (f := .glo "_check_account") rfl)⟩
  have D__check_times : Dfn K mg "_check_times" s__check_times := ⟨cd.def_ 12 (d := dd "_check_times" 30) rfl, He.glo_ok X G (cd.fact 12 (f := .glo "_check_times") rfl)⟩
  have D__check_floor : Dfn K mg "_check_floor" s__check_floor := ⟨cd.def_ 13 (d := dd "_check_floor" 31) rfl, He.glo_ok X G (cd.fact 13 (f := .glo "_check_floor") rfl)⟩
  have D__sums : Dfn K mg "_sums" s__sums := ⟨cd.def_ 14 (d := dd "_sums" 32) rfl, He.glo_ok X G (cd.fact 14 (f := .glo "_sums") rfl)⟩
  have D__added : Dfn K mg "_added" s__added := ⟨cd.def_ 15 (d := dd "_added" 33) rfl, He.glo_ok X G (cd.fact 15 (f := .glo "_added") rfl)⟩
  have D__unlike : Dfn K mg "_unlike" s__unlike := ⟨cd.def_ 16 (d := dd "_unlike" 34) rfl, He.glo_ok X G (cd.fact 16 (f := .glo "_unlike") rfl)⟩
  have D__law_source : Dfn K mg "_law_source" s__law_source := ⟨cd.def_ 17 (d := dd "_law_source" 36) rfl, He.glo_ok X G (cd.fact 17 (f := .glo "_law_source") rfl)⟩
  have D__law_draw : Dfn K mg "_law_draw" s__law_draw := ⟨cd.def_ 18 (d := dd "_law_draw" 37) rfl, He.glo_ok X G (cd.fact 18 (f := .glo "_law_draw") rfl)⟩
  have D__law_pick : Dfn K mg "_law_pick" s__law_pick := ⟨cd.def_ 19 (d := dd "_law_pick" 38) rfl, He.glo_ok X G (cd.fact 19 (f := .glo "_law_pick") rfl)⟩
  have D__law_same : Dfn K mg "_law_same" s__law_same := ⟨cd.def_ 20 (d := dd "_law_same" 39) rfl, He.glo_ok X G (cd.fact 20 (f := .glo "_law_same") rfl)⟩
  have D__law_some_rows : Dfn K mg "_law_some_rows" s__law_some_rows := ⟨cd.def_ 21 (d := dd "_law_some_rows" 40) rfl, He.glo_ok X G (cd.fact 21 (f := .glo "_law_some_rows") rfl)⟩
  have D__law_sums : Dfn K mg "_law_sums" s__law_sums := ⟨cd.def_ 22 (d := dd "_law_sums" 41) rfl, He.glo_ok X G (cd.fact 22 (f := .glo "_law_sums") rfl)⟩
  have D__law_told : Dfn K mg "_law_told" s__law_told := ⟨cd.def_ 23 (d := dd "_law_told" 42) rfl, He.glo_ok X G (cd.fact 23 (f := .glo "_law_told") rfl)⟩
  have D__law_balanced : Dfn K mg "_law_balanced" s__law_balanced := ⟨cd.def_ 24 (d := dd "_law_balanced" 43) rfl, He.glo_ok X G (cd.fact 24 (f := .glo "_law_balanced") rfl)⟩
  have D__law_some_deeds : Dfn K mg "_law_some_deeds" s__law_some_deeds := ⟨cd.def_ 25 (d := dd "_law_some_deeds" 44) rfl, He.glo_ok X G (cd.fact 25 (f := .glo "_law_some_deeds") rfl)⟩
  have D__law_entries : Dfn K mg "_law_entries" s__law_entries := ⟨cd.def_ 26 (d := dd "_law_entries" 45) rfl, He.glo_ok X G (cd.fact 26 (f := .glo "_law_entries") rfl)⟩
  have D__law_balances : Dfn K mg "_law_balances" s__law_balances := ⟨cd.def_ 27 (d := dd "_law_balances" 46) rfl, He.glo_ok X G (cd.fact 27 (f := .glo "_law_balances") rfl)⟩
  have D__law_tried : Dfn K mg "_law_tried" s__law_tried := ⟨cd.def_ 28 (d := dd "_law_tried" 47) rfl, He.glo_ok X G (cd.fact 28 (f := .glo "_law_tried") rfl)⟩
  have D__law_steps : Dfn K mg "_law_steps" s__law_steps := ⟨cd.def_ 29 (d := dd "_law_steps" 48) rfl, He.glo_ok X G (cd.fact 29 (f := .glo "_law_steps") rfl)⟩
  have D__law_first_below : Dfn K mg "_law_first_below" s__law_first_below := ⟨cd.def_ 30 (d := dd "_law_first_below" 49) rfl, He.glo_ok X G (cd.fact 30 (f := .glo "_law_first_below") rfl)⟩
  have D__law_seen_below : Dfn K mg "_law_seen_below" s__law_seen_below := ⟨cd.def_ 31 (d := dd "_law_seen_below" 50) rfl, He.glo_ok X G (cd.fact 31 (f := .glo "_law_seen_below") rfl)⟩
  have D__law_restated : Dfn K mg "_law_restated" s__law_restated := ⟨cd.def_ 32 (d := dd "_law_restated" 51) rfl, He.glo_ok X G (cd.fact 32 (f := .glo "_law_restated") rfl)⟩
  have D__law_each_refused : Dfn K mg "_law_each_refused" s__law_each_refused := ⟨cd.def_ 33 (d := dd "_law_each_refused" 52) rfl, He.glo_ok X G (cd.fact 33 (f := .glo "_law_each_refused") rfl)⟩
  have D__law_refused_right : Dfn K mg "_law_refused_right" s__law_refused_right := ⟨cd.def_ 34 (d := dd "_law_refused_right" 53) rfl, He.glo_ok X G (cd.fact 34 (f := .glo "_law_refused_right") rfl)⟩
  obtain ⟨fd, DL⟩ := cd.def_ 35 (d := dd "law" 54) rfl
  have DE_BadRow : DfnM K "BadRow" "__init__" "BadRow.__init__" s_BadRow___init__ := ⟨cd.def_ 36 (d := dm "BadRow" "__init__" "BadRow.__init__" s_BadRow___init__) rfl⟩
  have DE_BadDeed : DfnM K "BadDeed" "__init__" "BadDeed.__init__" s_BadDeed___init__ := ⟨cd.def_ 37 (d := dm "BadDeed" "__init__" "BadDeed.__init__" s_BadDeed___init__) rfl⟩
  have DE_BadTime : DfnM K "BadTime" "__init__" "BadTime.__init__" s_BadTime___init__ := ⟨cd.def_ 38 (d := dm "BadTime" "__init__" "BadTime.__init__" s_BadTime___init__) rfl⟩
  have DE_BadAccount : DfnM K "BadAccount" "__init__" "BadAccount.__init__" s_BadAccount___init__ := ⟨cd.def_ 39 (d := dm "BadAccount" "__init__" "BadAccount.__init__" s_BadAccount___init__) rfl⟩
  have DE_BadName : DfnM K "BadName" "__init__" "BadName.__init__" s_BadName___init__ := ⟨cd.def_ 40 (d := dm "BadName" "__init__" "BadName.__init__" s_BadName___init__) rfl⟩
  have DE_BadFloor : DfnM K "BadFloor" "__init__" "BadFloor.__init__" s_BadFloor___init__ := ⟨cd.def_ 41 (d := dm "BadFloor" "__init__" "BadFloor.__init__" s_BadFloor___init__) rfl⟩
  have DM_balance : DfnM K "Ledger" "balance" "Ledger.balance" s_Ledger_balance := ⟨cd.def_ 42 (d := dm "Ledger" "balance" "Ledger.balance" s_Ledger_balance) rfl⟩
  have DM_balances : DfnM K "Ledger" "balances" "Ledger.balances" s_Ledger_balances := ⟨cd.def_ 43 (d := dm "Ledger" "balances" "Ledger.balances" s_Ledger_balances) rfl⟩
  have DM_known_steps : DfnM K "Ledger" "known_steps" "Ledger.known_steps" s_Ledger_known_steps := ⟨cd.def_ 44 (d := dm "Ledger" "known_steps" "Ledger.known_steps" s_Ledger_known_steps) rfl⟩
  have DM_first_below : DfnM K "Ledger" "first_below" "Ledger.first_below" s_Ledger_first_below := ⟨cd.def_ 45 (d := dm "Ledger" "first_below" "Ledger.first_below" s_Ledger_first_below) rfl⟩
  have DM_seen_below : DfnM K "Ledger" "seen_below" "Ledger.seen_below" s_Ledger_seen_below := ⟨cd.def_ 46 (d := dm "Ledger" "seen_below" "Ledger.seen_below" s_Ledger_seen_below) rfl⟩
  have DM_restated : DfnM K "Ledger" "restated" "Ledger.restated" s_Ledger_restated := ⟨cd.def_ 47 (d := dm "Ledger" "restated" "Ledger.restated" s_Ledger_restated) rfl⟩
  have DM__known_times : DfnM K "Ledger" "_known_times" "Ledger._known_times" s_Ledger__known_times := ⟨cd.def_ 48 (d := dm "Ledger" "_known_times" "Ledger._known_times" s_Ledger__known_times) rfl⟩
  have DM__true : DfnM K "Ledger" "_true" "Ledger._true" s_Ledger__true := ⟨cd.def_ 49 (d := dm "Ledger" "_true" "Ledger._true" s_Ledger__true) rfl⟩
  have DI : DfnI K (tA K) := ⟨cd.def_ 50 (d := di) rfl⟩
  have T : Txt K mg := ⟨He.free_ok X G (cd.fact 36 (f := .free "len") rfl), He.free_ok X G (cd.fact 37 (f := .free "isinstance") rfl), He.free_ok X G (cd.fact 38 (f := .free "all") rfl), He.free_ok X G (cd.fact 39 (f := .free "range") rfl), He.free_ok X G (cd.fact 40 (f := .free "sorted") rfl), He.free_ok X G (cd.fact 41 (f := .free "list") rfl), He.free_ok X G (cd.fact 42 (f := .free "tuple") rfl), He.free_ok X G (cd.fact 43 (f := .free "min") rfl), He.free_ok X G (cd.fact 44 (f := .free "int") rfl), He.free_ok X G (cd.fact 45 (f := .free "str") rfl), He.free_ok X G (cd.fact 46 (f := .free "bool") rfl), He.free_ok X G (cd.fact 47 (f := .free "dict") rfl), He.free_ok X G (cd.fact 48 (f := .free "zip") rfl), He.free_ok X G (cd.fact 49 (f := .free "enumerate") rfl), He.str_ok X G (cd.fact 53 (f := .str "SIGNS" signs) rfl), He.int_ok X G (cd.fact 54 (f := .int "LONGEST" 8) rfl), He.str_ok X G (cd.fact 55 (f := .str "TILL" "the-till") rfl), He.free_ok X G (cd.fact 50 (f := .free "max") rfl), He.free_ok X G (cd.fact 51 (f := .free "sum") rfl), He.free_ok X G (cd.fact 52 (f := .free "set") rfl), He.int_ok X G (cd.fact 56 (f := .int "GREATEST" 1000000) rfl), He.str_ok X G (cd.fact 57 (f := .str "POOL" "the-pool") rfl)⟩
  have N_BadRow := He.glo_ok X G (cd.fact 58 (f := .glo "BadRow") rfl)
  have N_BadDeed := He.glo_ok X G (cd.fact 59 (f := .glo "BadDeed") rfl)
  have N_BadTime := He.glo_ok X G (cd.fact 60 (f := .glo "BadTime") rfl)
  have N_BadAccount := He.glo_ok X G (cd.fact 61 (f := .glo "BadAccount") rfl)
  have N_BadName := He.glo_ok X G (cd.fact 62 (f := .glo "BadName") rfl)
  have N_BadFloor := He.glo_ok X G (cd.fact 63 (f := .glo "BadFloor") rfl)
  have N_Ledger := He.glo_ok X G (cd.fact 64 (f := .glo "Ledger") rfl)
  obtain ⟨x0, y1⟩ := He.ba c.more
  obtain ⟨x1, y2⟩ := He.ba y1
  obtain ⟨x2, y3⟩ := He.ba y2
  obtain ⟨x3, y4⟩ := He.ba y3
  obtain ⟨x4, y5⟩ := He.ba y4
  obtain ⟨x5, y6⟩ := He.ba y5
  obtain ⟨x6, y7⟩ := He.ba y6
  obtain ⟨x7, y8⟩ := He.ba y7
  obtain ⟨x8, y9⟩ := He.ba y8
  obtain ⟨x9, y10⟩ := He.ba y9
  obtain ⟨x10, y11⟩ := He.ba y10
  obtain ⟨x11, y12⟩ := He.ba y11
  obtain ⟨x12, y13⟩ := He.ba y12
  obtain ⟨x13, y14⟩ := He.ba y13
  obtain ⟨x14, y15⟩ := He.ba y14
  obtain ⟨x15, y16⟩ := He.ba y15
  have E_BadRow := errAll_ok x0
  have E_BadDeed := errAll_ok x1
  have E_BadTime := errAll_ok x2
  have E_BadAccount := errAll_ok x3
  have E_BadName := errAll_ok x4
  have E_BadFloor := errAll_ok x5
  have ex11 := of_decide_eq_true x6
  have ex22 := of_decide_eq_true x7
  have ex33 := of_decide_eq_true x8
  have ex44 := of_decide_eq_true x9
  have ex21 := of_decide_eq_true x10
  have ex31 := of_decide_eq_true x11
  have ex32 := of_decide_eq_true x12
  have ex41 := of_decide_eq_true x13
  have ex42 := of_decide_eq_true x14
  have ex43 := of_decide_eq_true x15
  have enP := of_decide_eq_true y16
  have F : LgF K := ⟨He.cls_ok (cd.fact 65 (f := .cls "Ledger") rfl), He.noat_ok (cd.fact 66 (f := .noat "Ledger" "_deeds") rfl), He.noat_ok (cd.fact 67 (f := .noat "Ledger" "_entries") rfl)⟩
  have M_balance : Meth K (He.ga K "Ledger") "balance" (He.fAd K ("Ledger", some "balance")) := He.meth_ok (cd.fact 69 (f := .meth "Ledger" "balance") rfl)
  have M_balances : Meth K (He.ga K "Ledger") "balances" (He.fAd K ("Ledger", some "balances")) := He.meth_ok (cd.fact 70 (f := .meth "Ledger" "balances") rfl)
  have M_known_steps : Meth K (He.ga K "Ledger") "known_steps" (He.fAd K ("Ledger", some "known_steps")) := He.meth_ok (cd.fact 71 (f := .meth "Ledger" "known_steps") rfl)
  have M_first_below : Meth K (He.ga K "Ledger") "first_below" (He.fAd K ("Ledger", some "first_below")) := He.meth_ok (cd.fact 72 (f := .meth "Ledger" "first_below") rfl)
  have M_seen_below : Meth K (He.ga K "Ledger") "seen_below" (He.fAd K ("Ledger", some "seen_below")) := He.meth_ok (cd.fact 73 (f := .meth "Ledger" "seen_below") rfl)
  have M_restated : Meth K (He.ga K "Ledger") "restated" (He.fAd K ("Ledger", some "restated")) := He.meth_ok (cd.fact 74 (f := .meth "Ledger" "restated") rfl)
  have M__known_times : Meth K (He.ga K "Ledger") "_known_times" (He.fAd K ("Ledger", some "_known_times")) := He.meth_ok (cd.fact 75 (f := .meth "Ledger" "_known_times") rfl)
  have M__true : Meth K (He.ga K "Ledger") "_true" (He.fAd K ("Ledger", some "_true")) := He.meth_ok (cd.fact 76 (f := .meth "Ledger" "_true") rfl)
  have Mo : Mk K (He.ga K "Ledger") (He.fAd K ("Ledger", some "__init__")) := He.mkr_ok (cd.fact 68 (f := .mkr "Ledger") rfl)
  have b := FunD.bindsA (ps := ["script"]) DL fun _ _ _ _ _ _ us hl => match us, hl with | [_], _ => rfl
  refine ⟨fd, [He.cT K ("_law_refused_right", none), He.cT K ("_law_each_refused", none)], spLaw K (He.cT K ("_law_refused_right", none)).2 (He.cT K ("_law_each_refused", none)).2, ?_, ?_, ?_, fun s v => b s [v] rfl, fun H a ns hl _ hT hS => ⟨a, ns, rfl, hS, hT _ List.mem_cons_self, hT _ (List.mem_cons_of_mem _ List.mem_cons_self), fun _ => rfl⟩, fun base _ _ TB => ?_⟩
  · intro p hp
    rcases List.mem_cons.mp hp with rfl | hp
    · exact c.empty _ List.mem_cons_self
    · rw [List.mem_singleton.mp hp]
      exact c.empty _ (List.mem_cons_of_mem _ List.mem_cons_self)
  · intro p hp
    rcases List.mem_cons.mp hp with rfl | hp
    · exact c.out _ List.mem_cons_self
    · rw [List.mem_singleton.mp hp]
      exact c.out _ (List.mem_cons_of_mem _ List.mem_cons_self)
  · intro p hp
    rcases List.mem_cons.mp hp with rfl | hp
    · exact PySem.W.codeHd_of_K X (c.hd _ List.mem_cons_self)
    · rw [List.mem_singleton.mp hp]
      exact PySem.W.codeHd_of_K X (c.hd _ (List.mem_cons_of_mem _ List.mem_cons_self))
  have TB1 := TB _ List.mem_cons_self
  have TB2 := TB _ (List.mem_cons_of_mem _ List.mem_cons_self)
  have C_is_list := c_is_list (P := l.prog) (w := w) (base := base) T D_is_list
  have C_is_integer := c_is_integer (P := l.prog) (w := w) (base := base) T D_is_integer
  have C_is_name := c_is_name (P := l.prog) (w := w) (base := base) T D_is_name
  have C_is_time := c_is_time T D_is_time C_is_integer
  have C_is_account := c_is_account T D_is_account C_is_name
  have C_is_row := c__is_row T D__is_row C_is_list C_is_account C_is_name C_is_integer
  have R_BadRow : ErrAt l.prog w K mg base "BadRow" "index" "index" := ⟨E_BadRow, m_BadRow E_BadRow DE_BadRow, N_BadRow⟩
  have R_BadDeed : ErrAt l.prog w K mg base "BadDeed" "index" "index" := ⟨E_BadDeed, m_BadDeed E_BadDeed DE_BadDeed, N_BadDeed⟩
  have R_BadTime : ErrAt l.prog w K mg base "BadTime" "time" "time" := ⟨E_BadTime, m_BadTime E_BadTime DE_BadTime, N_BadTime⟩
  have R_BadAccount : ErrAt l.prog w K mg base "BadAccount" "account" "account" := ⟨E_BadAccount, m_BadAccount E_BadAccount DE_BadAccount, N_BadAccount⟩
  have R_BadName : ErrAt l.prog w K mg base "BadName" "thing" "thing" := ⟨E_BadName, m_BadName E_BadName DE_BadName, N_BadName⟩
  have R_BadFloor : ErrAt l.prog w K mg base "BadFloor" "floor" "floor" := ⟨E_BadFloor, m_BadFloor E_BadFloor DE_BadFloor, N_BadFloor⟩
  have C_check := c__check_rows T R_BadRow D__check_rows C_is_list C_is_row
  have C_told := c_told_rows T D_told_rows C_check
  have C_bal := c_is_balanced T D_is_balanced C_check
  have C_is_rows := c_is_rows T D_is_rows C_is_list C_is_row
  have C_is_deed := c__is_deed T D__is_deed C_is_list C_is_time C_is_rows C_bal
  have C_sums := c__sums T D__sums C_told
  have C_chkA := c__check_account T D__check_account R_BadAccount R_BadName C_is_account C_is_name
  have C_chkT := c__check_times T D__check_times R_BadTime C_is_time
  have C_chkF := c__check_floor T D__check_floor R_BadFloor C_is_integer
  have C_added := c__added T D__added C_sums
  have C_unlike := c__unlike (P := l.prog) (w := w) (base := base) T D__unlike
  have Mk0 := mkL DI Mo N_Ledger T F R_BadDeed C_is_list C_is_deed C_told C_sums
  have MIT := m_inT (P := l.prog) (w := w) (base := base) T F DM__true
  have MKT := m_known_times (P := l.prog) (w := w) (base := base) T F DM__known_times
  have MBal := m_balance T F DM_balance MIT M__true C_chkA C_chkT
  have MBB := m_balances T F DM_balances MIT M__true C_chkT C_added
  have MSt := m_known_steps T F DM_known_steps MKT M__known_times MBal M_balance C_chkA C_chkT
  have MFi := m_first_below T F DM_first_below MBal M_balance C_chkA C_chkT C_chkF
  have MSe := m_seen_below T F DM_seen_below MKT M__known_times MFi M_first_below C_chkA C_chkF
  have MRe := m_restated T F DM_restated MBB M_balances C_chkT C_unlike
  have C_src := c__law_source (P := l.prog) (w := w) (base := base) T D__law_source
  have C_draw := c__law_draw (P := l.prog) (w := w) (base := base) T D__law_draw
  have C_pick := c__law_pick T D__law_pick C_draw
  have C_same := c__law_same_deep (P := l.prog) (w := w) (base := base) T D__law_same 5
  have C_some := c__law_some_rows T D__law_some_rows C_draw C_pick
  have C_lsums := c__law_sums (P := l.prog) (w := w) (base := base) T D__law_sums
  have C_ltold := c__law_told T D__law_told C_lsums
  have C_bald := c__law_balanced (P := l.prog) (w := w) (base := base) T D__law_balanced
  have C_deeds := c__law_some_deeds T D__law_some_deeds C_draw C_some C_bald C_ltold
  have C_ents := c__law_entries T D__law_entries C_lsums
  have C_lbal := c__law_balances (P := l.prog) (w := w) (base := base) T D__law_balances
  have C_lst := c__law_steps T D__law_steps C_lbal
  have C_lfi := c__law_first_below T D__law_first_below C_lbal
  have C_lse := c__law_seen_below T D__law_seen_below C_lfi
  have C_lre := c__law_restated T D__law_restated C_lbal
  have C_ref := c__law_refused_right T F D__law_refused_right TB1 enP D__law_tried N_BadAccount N_BadName N_BadFloor N_BadTime E_BadAccount E_BadName E_BadFloor E_BadTime rfl rfl rfl rfl ex11 ex22 ex33 ex44 ex21 ex31 ex32 ex41 ex42 ex43 C_pick C_same MSt M_known_steps MFi M_first_below MSe M_seen_below MRe M_restated
  have C_each := c__law_each_refused T F D__law_each_refused TB2 enP D__law_tried N_BadAccount N_BadName N_BadFloor N_BadTime E_BadAccount E_BadName E_BadFloor E_BadTime rfl rfl rfl rfl ex11 ex22 ex33 ex44 ex21 ex31 ex32 ex41 ex42 ex43 C_pick C_same MSt M_known_steps MFi M_first_below MSe M_seen_below
  exact c_law T F DL C_src C_draw C_pick C_deeds C_ents C_lst C_lre C_lfi C_lse C_same C_ref C_each Mk0 MSt M_known_steps MFi M_first_below MSe M_seen_below MRe M_restated
end K28
open PySem PySem.W PySem.Calls PyProof.Rows
theorem PySem.Challenge.cw_seatroads_k28_known_when_holds : PySem.Challenge.rw_seatroads_k28_known_when.Holds := by
  w_on; o_law
  refine HandSHeadRun.head_any (r := OpenLaw.row PySem.Challenge.rw_seatroads_k28_known_when) (q := view (OpenLaw.row PySem.Challenge.rw_seatroads_k28_known_when).prog [54]) (H := K28.hk) (ob := K28.ob) (M := 60000) (loose := K28.loose) (d := HandSHeadRun.topDef (OpenLaw.row PySem.Challenge.rw_seatroads_k28_known_when).prog 54) (kwd := []) K28.ob_eq
    (by kernel_rfl) (fun s => by kernel_rfl) K28.run (by kernel_rfl) (by kernel_rfl) (by kernel_rfl) (by rfl) (by first | assumption | decide +kernel) (by decide +kernel) ⟨rfl, rfl, rfl, rfl, rfl, by decide +kernel⟩ ?hw ?hc
  case hw => w_witness2
  case hc =>
    refine LamX.walk_ofTsE (l := PySem.Challenge.rw_seatroads_k28_known_when) (n := 63) (k := 13) (x := "script") (CX := fun _ => L2.CX0) rfl (by decide) (by kernel_rfl) ⟨rfl, by decide, by decide⟩ ?F (fun _ _ _ _ _ z => z)
    intro w mg fa h Y G hmg0
    obtain ⟨K, KX, c⟩ := Y
    have hmg : mg ("law" : PySem.Str) = some (.ref fa) := by
      have e : (HandSHeadRun.topDef (OpenLaw.row PySem.Challenge.rw_seatroads_k28_known_when).prog 54).name = ("law" : PySem.Str) := by kernel_rfl
      rw [← e]
      exact hmg0
    exact ⟨K, KX, K28.facts KX G hmg c⟩
