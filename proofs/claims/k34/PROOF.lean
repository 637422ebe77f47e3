import PyProof.Rows.All
import Wide.All
import OpenK.AllK
import Wide.FinOn
import KE.KStateDown
import HandS.ForMost
import HandS.Defaults
import HandS.IsInst
import HandS.CallLocal
import HandS.TupAny
import HandS.NoneIn
import HandS.Strs
import HandS.TryOnly
import HandS.Head0
import HandS.Head1
import HandS.Head2
import HandS.HeadEnd
import HandS.HeadHook1
import HandS.HeadHook2
import HandS.HeadHook3
import HandS.HeadHook4
import HandS.ListItems
import HandS.More
import HandS.Walk
import HandS.DictComp
import HandS.Zip
import KE.SortData
import HandS.Conv
import KE.KDictPairs
import HandS.Exc
import HandS.TryMany
import HandS.ExcInit
import HandS.ExcField
import KE.GoesEnum
import HandS.Lambda
import HandS.EndTab
import HandS.Deep
import HandS.WordsDict
import HandS.TupSets
import HandS.SetFor
import HandS.SlotsOwn
import KE.KEqDict
import KE.KEqNest
import PyProof.NeKinds
import HandS.Style
import KE.KDictWalk
import HandS.SetKeys
import KE.SortKeyHeap
import HandS.ExcValue
import HandS.RepeatKit
import PyProof.TupleOfSeq
import HandS.DictSubView0
import PyProof.Rows.SortWalk
import HandS.List
import HandS.Head3
import HandS.HeadWalk
import PySem.Challenge.RW_seatroads_k34_whole_turns_and_bundles
set_option Elab.async false
set_option linter.all false
set_option maxRecDepth 100000
set_option maxHeartbeats 4000000
namespace Sr
open PySem PySem.Spec PyProof.Rows L2

/-- a def of the top that may be called: its promise, its name -/
structure Cal (P : Program) (w : World) (K : PySem.W.Frag) (mg : Str → Option Value) (base : Heap) (k : Nat) (x : Str) (ps : List Str) (sp : Sp) : Prop where
  ex : ∃ (f : Addr) (fd : FuncData), FnOk P w K mg base CX0 k f fd ps sp ∧ mg x = some (.ref f) ∧ PySem.W.keepIn K (.ref f) = true ∧ Binds K fd ps []

theorem pe_cal {X : Cx} {k k' : Nat} {x : Str} {ps : List Str} {sp : Sp} {p pos : Pos} {e : Expr} {es : List Expr} {t : TA} (C : Cal X.prog X.w X.K X.mg X.base k x ps sp) (hr : Room k' X.A) (hk : k ≤ k') (hg : Gl X x) (ha : PA X (e :: es) t)
    (hdb : (x == ("__debug__" : Str)) = false := by decide) (he : starEach (e :: es) X.env = (false, eval e X.env) :: starEach es X.env := by rfl) (hpl : (backTo pos (starEach es X.env)).any (·.1) = false := by rfl) :
    PE X (.Call (.Name x p) (e :: es) [] pos) (tCall sp [] E0 t) := by
  obtain ⟨f, fd, F, hm, hkp, hb⟩ := C.ex
  exact pe_call F (hr.mono hk) hg hm hkp hb .nil pass0 ha hdb he hpl

/-- a def of the top as the head tells it -/
structure Dfn (K : PySem.W.Frag) (mg : Str → Option Value) (x : Str) (st : Stmt) : Prop where
  fn : ∃ fd, FunD K x x (defArgs st) (defBody st) (defScope st) [] [] (He.ga K x) fd
  at_ : mg x = some (.ref (He.ga K x))

theorem Dfn.cal {P : Program} {w : World} {K : PySem.W.Frag} {mg : Str → Option Value} {base : Heap} {x : Str} {st : Stmt} {N ps : List Str} {k : Nat} {sp : Sp} (D : Dfn K mg x st) (S : FnScope N ps (defScope st))
    (hb : ∀ (kV doc pm : Value) (an : Option Addr) (cdv ct : Value) (us : List Value), us.length = ps.length → bindArgs (PySem.W.fnOf x x (defArgs st) (defBody st) (defScope st) .none kV doc pm an cdv ct) ⟨us, []⟩ = pure (ps.zip us))
    (len : ∀ vs H Q E, sp vs H Q E → vs.length = ps.length)
    (body : ∀ (cdv : Value) (A : Around) (outer : List Env) (s : Shared) (H : Hp) (vs : List V) (Q : VK) (E : XK), Room k (A.deeper (envOfC x (defScope st) s.heap.objs.size (He.ga K x) cdv)) → sp vs H Q E →
      ∃ t, PSs (cxOf CX0 P w K mg base N x (defScope st) (He.ga K x) cdv A outer s H E).nox (defBody st) t ∧ t { nx := fun _ H' => Q .non H', rt := Q } (start N vs) H) :
    Cal P w K mg base (k + 1) x ps sp := by
  obtain ⟨fd, F⟩ := D.fn
  refine ⟨_, fd, F.ok S len fun cdv A outer s H vs Q E hr h => ?_, D.at_, F.kp, F.bindsN hb⟩
  obtain ⟨t, h1, h2⟩ := body cdv A outer s H vs Q E hr h
  exact ⟨t, PSs.nox h1, h2⟩

/-- a method of a class of the top -/
structure CalM (P : Program) (w : World) (K : PySem.W.Frag) (mg : Str → Option Value) (base : Heap) (CX : CXT) (k : Nat) (f : Addr) (ps : List Str) (sp : Sp) : Prop where
  ex : ∃ fd : FuncData, FnOk P w K mg base CX k f fd ps sp ∧ PySem.W.keepIn K (.ref f) = true ∧ Binds K fd ps []
/-- a method as the head tells it -/
structure DfnM (K : PySem.W.Frag) (c m qual : Str) (st : Stmt) : Prop where
  fn : ∃ fd, FunD K m qual (defArgs st) (defBody st) (defScope st) [] [] (He.fAd K (c, some m)) fd
theorem DfnM.cal {P : Program} {w : World} {K : PySem.W.Frag} {mg : Str → Option Value} {base : Heap} {c m qual : Str} {st : Stmt} {N ps : List Str} {k : Nat} {sp : Sp} (D : DfnM K c m qual st) (S : FnScope N ps (defScope st))
    (hb : ∀ (kV doc pm : Value) (an : Option Addr) (cdv ct : Value) (us : List Value), us.length = ps.length → bindArgs (PySem.W.fnOf m qual (defArgs st) (defBody st) (defScope st) .none kV doc pm an cdv ct) ⟨us, []⟩ = pure (ps.zip us))
    (len : ∀ vs H Q E, sp vs H Q E → vs.length = ps.length)
    (body : ∀ (cdv : Value) (A : Around) (outer : List Env) (s : Shared) (H : Hp) (vs : List V) (Q : VK) (E : XK), Room k (A.deeper (envOfC qual (defScope st) s.heap.objs.size (He.fAd K (c, some m)) cdv)) → sp vs H Q E →
      ∃ t, PSs (cxOf CX0 P w K mg base N qual (defScope st) (He.fAd K (c, some m)) cdv A outer s H E).nox (defBody st) t ∧ t { nx := fun _ H' => Q .non H', rt := Q } (start N vs) H) :
    CalM P w K mg base CX0 (k + 1) (He.fAd K (c, some m)) ps sp := by
  obtain ⟨fd, F⟩ := D.fn
  refine ⟨fd, F.ok S len fun cdv A outer s H vs Q E hr h => ?_, F.kp, F.bindsN hb⟩
  obtain ⟨t, h1, h2⟩ := body cdv A outer s H vs Q E hr h
  exact ⟨t, PSs.nox h1, h2⟩

/-- x in o, o an instance whose class says __contains__ -/
structure Has (K : PySem.W.Frag) (C f : Addr) : Prop where
  at_ : PySem.W.findIn K (.ref C) "__contains__" = some (some (.ref f))
  ty : PySem.W.typeIn K (.ref f) = some (.type "function")
def rInOwn (C : Addr) (sp : Sp) (E : XK) (neg : Bool) : R2 := fun x y H Q => ∃ a dx fs, y = .ref a ∧ H a = some (.ins C dx fs) ∧ sp [y, x] H (fun v H' => ∃ b, v = .bl b ∧ Q (.bl (if neg then !b else b)) H') E

theorem own_in {X : Cx} {CX : CXT} {k : Nat} {C f : Addr} {fd : FuncData} {ps : List Str} {sp : Sp} {E : XK} (F : FnOk X.prog X.w X.K X.mg X.base CX k f fd ps sp) (hr : Room k X.A) (hs : Has X.K C f) (hb : Binds X.K fd ps []) (hx : Passes CX X E)
    {pins : List (Addr × Obj)} {s : Shared} {σ : L2.St} {H : Hp} {x y : V} {v u : Value} {Q : Bool → Shared → Prop} (I : Inv X pins σ H s) (rx : RelV x v) (ry : RelV y u)
    (h : ∃ a dx fs, y = .ref a ∧ H a = some (.ins C dx fs) ∧ sp [y, x] H (fun v H' => ∃ b, v = .bl b ∧ ∀ s', Inv X pins σ H' s' → Q b s') E) :
    wpAny (model X.prog X.w) X.A (contains u v) Q X.xe s := by
  obtain ⟨a, dx, fs, rfl, ha, hsp⟩ := h
  cases ry
  obtain ⟨mA, J, _⟩ := ins_get I.hok ha
  obtain ⟨od, J, _⟩ := J.look
  unfold contains
  refine wpAny_holding ?_
  rw [stdlibNamesSay?_ref]
  refine wpAny_bind ?_
  unfold specialOf
  refine wpAny_bind (J.type.here ?_)
  refine (PySem.W.looks_findIn I.kIn hs.at_).here ?_
  show wpAny _ _ (if (some (Value.ref f) == some Value.none) = true then _ else _) _ _ _
  rw [if_neg (by simp)]
  refine wpAny_bind ?_
  unfold callSpecialUnlessNone?
  refine wpAny_bind ?_
  unfold specialOf
  refine wpAny_bind (J.type.here ?_)
  refine (PySem.W.looks_findIn I.kIn hs.at_).here ?_
  refine wpAny_holding ?_
  refine wpAny_bind ((PySem.W.bind_fn I.kIn (.ref a) hs.ty).here ?_)
  show wpAny _ _ (if (Value.ref f == Value.none) = true then _ else _) _ _ _
  rw [if_neg (by simp)]
  refine wpAny_bind ?_
  have r2 : Vals [V.ref a, x] [Value.ref a, v] := .cons rfl (.cons rx .nil)
  refine thn (run_fn (dvs := []) (ds := []) F hr hb .nil hx I r2 hsp) fun r s1 hq => ?_
  obtain ⟨z, H1, I1, rz, b, ez, hb1⟩ := hq
  subst ez
  obtain rfl : r = Value.bool b := rz
  exact wpAny_pure (wpAny_truthy_bool (hb1 s1 I1))

theorem op_inOwn {X : Cx} {CX : CXT} {k : Nat} {C f : Addr} {fd : FuncData} {ps : List Str} {sp : Sp} {E : XK} (F : FnOk X.prog X.w X.K X.mg X.base CX k f fd ps sp) (hr : Room k X.A) (hs : Has X.K C f) (hb : Binds X.K fd ps []) (hx : Passes CX X E)
    (hm : ∀ x y H Q Q' E, (∀ v H', Q v H' → Q' v H') → sp [x, y] H Q E → sp [x, y] H Q' E) :
    OpR X (compareOp .In) (rInOwn C sp E false) := by
  intro pins s σ H x y v u Q I rx ry h
  obtain ⟨a, dx, fs, e, ha, hsp⟩ := h
  show wpAny _ _ (do return Value.bool (← contains u v)) _ _ _
  refine wpAny_bind (own_in F hr hs hb hx (Q := fun b s' => wpAny (model X.prog X.w) X.A (pure (Value.bool b)) (EP X pins σ Q) X.xe s') I rx ry ⟨a, dx, fs, e, ha, hm _ _ _ _ _ _ (fun z H' hz => ?_) hsp⟩)
  obtain ⟨b, rfl, hq⟩ := hz
  exact ⟨b, rfl, fun s' I' => wpAny_pure ⟨.bl b, H', I', rfl, hq⟩⟩
theorem op_has {X : Cx} {k k' : Nat} {C f : Addr} {ps : List Str} {sp : Sp} (M : CalM X.prog X.w X.K X.mg X.base CX0 k f ps sp) (hr : Room k' X.A) (hk : k ≤ k') (hs : Has X.K C f)
    (hm : ∀ x y H Q Q' E, (∀ v H', Q v H' → Q' v H') → sp [x, y] H Q E → sp [x, y] H Q' E) : OpR X (compareOp .In) (rInOwn C sp E0 false) := by
  obtain ⟨fd, F, _, hb⟩ := M.ex
  exact op_inOwn F (hr.mono hk) hs hb pass0 hm
end Sr

set_option Elab.async false
set_option linter.all false
set_option maxRecDepth 100000
set_option maxHeartbeats 4000000
namespace Sr
open PySem PySem.Spec PyProof.Rows L2
open PySem.SeqAt
/-! ### set(texts): how many unlike ones -/
/-- the unlike texts among the first i, in the order in which they are met -/
def met (xs : List Str) : Nat → List Str
  | 0 => []
  | i + 1 => if (met xs i).any (· == xs.getD i Str.empty) = true then met xs i else met xs i ++ [xs.getD i Str.empty]
theorem met_le (xs : List Str) : ∀ i, (met xs i).length ≤ i
  | 0 => Nat.le_refl _
  | i + 1 => by
    have := met_le xs i
    unfold met
    split
    · omega
    · rw [List.length_append]; simp; omega
theorem met_any (xs : List Str) (i : Nat) (k : Str) : ((met xs i).any (· == k) || decide (k = xs.getD i Str.empty)) = (met xs (i + 1)).any (· == k) := by
  show _ = (if (met xs i).any (· == xs.getD i Str.empty) = true then met xs i else met xs i ++ [xs.getD i Str.empty]).any (· == k)
  split
  · rename_i h
    by_cases e : k = xs.getD i Str.empty
    · rw [e, h]; rfl
    · rw [decide_eq_false e, Bool.or_false]
  · rw [List.any_append]
    by_cases e : k = xs.getD i Str.empty
    · subst e; simp
    · rw [decide_eq_false e]
      have : (xs.getD i Str.empty == k) = false := by
        rw [beq_eq_false_iff_ne]; exact fun z => e z.symm
      simp only [List.any_cons, List.any_nil, this, Bool.or_false]
theorem met_len (xs : List Str) (i : Nat) : (if ((met xs i).any (· == xs.getD i Str.empty)) = true then (met xs i).length else (met xs i).length + 1) = (met xs (i + 1)).length := by
  show _ = (if (met xs i).any (· == xs.getD i Str.empty) = true then met xs i else met xs i ++ [xs.getD i Str.empty]).length
  split <;> rename_i h
  · rfl
  · rw [List.length_append]; rfl
abbrev nset (led : Bool) : Obj := { cls := .type "set", dict := none, data := .set #[] 0 (.fresh 0 0 led) }
section
variable {prog : Program} {w : World} {A : Around} {R : Result → Shared → Prop} {I : Addr} {fp wr : List Addr} {G : Array GenState → Array GenState → Prop} {n : Nat} {P : Nat → Value → Prop} {Stt : Nat → Shared → Prop}
theorem texts_loop (W : WalksS prog w A.in1 I fp wr G n P Stt) (S : Addr) (hSf : S ∉ fp) (xs : List Str) (hv : ∀ i v, P i v → ∃ t, v = .str (xs.getD i Str.empty) t) (hb : n + 1 < scanBound) (d : Nat) :
    ∀ (i : Nat) (s : Shared), n = i + d → Stt i s → s.heap.SetOf (PySem.strKind prog w) S (fun k => (met xs i).any (· == k)) (met xs i).length →
      (∀ s', Moved (S :: wr) G s s' → s'.heap.SetOf (PySem.strKind prog w) S (fun k => (met xs n).any (· == k)) (met xs n).length → R (.ok (.ret .none)) s') →
      codeAny (model prog w) A (.builtin "set.update.loop" ⟨[.ref S, .ref I], []⟩) R s := by
  have out : S ∉ wr := fun h => hSf (W.sub _ h)
  have more : ∀ b ∈ wr, b ∈ S :: wr := fun b h => List.mem_cons_of_mem _ h
  have moves : ∀ (s s' : Shared) (i : Nat), Moved wr G s s' → s.heap.SetOf (PySem.strKind prog w) S (fun k => (met xs i).any (· == k)) (met xs i).length →
      s'.heap.SetOf (PySem.strKind prog w) S (fun k => (met xs i).any (· == k)) (met xs i).length := fun s s' i hm ⟨o, es, ep, t, ho, r⟩ => ⟨o, es, ep, t, hm.heap S _ out ho, r⟩
  induction d with
  | zero =>
    intro i s hd hs hS hR
    obtain rfl : n = i := hd
    refine codeAny_builtin PyProof.Rows.F.entry_set_update_loop ?_
    rw [Around.under_plainId PyProof.Rows.F.plain_set_update_loop _]
    show wpAny _ A.in1 (pyNext (.ref I) >>= _) _ _ s
    refine wpAny_bind (W.done s _ _ hs fun s' hm => ?_)
    show wpAny _ A.in1 (ret Value.none) _ _ s'
    exact wpAny_pure (hR s' (hm.mono more) (moves s s' _ hm hS))
  | succ d ih =>
    intro i s hd hs hS hR
    have lt : i < n := by omega
    refine codeAny_builtin PyProof.Rows.F.entry_set_update_loop ?_
    rw [Around.under_plainId PyProof.Rows.F.plain_set_update_loop _]
    show wpAny _ A.in1 (pyNext (.ref I) >>= _) _ _ s
    refine wpAny_bind (W.item i s _ _ lt hs fun v s' hP hs' hm => ?_)
    obtain ⟨t, rfl⟩ := hv i v hP
    have hS' := moves s s' i hm hS
    show wpAny _ A.in1 (holding [Value.str (xs.getD i Str.empty) t] (setAdd S _) >>= _) _ _ s'
    refine wpAny_bind (wpAny_holding ?_)
    unfold setAdd
    refine wpAny_holding (wpAny_bind ((PySem.strKind prog w).pyHash (k := xs.getD i Str.empty) (strKind_is _ _ _ _) ?_))
    have room : (met xs i).length + 1 < scanBound := by have := met_le xs i; omega
    refine wpAny_setAddHashed_of (knd := PySem.strKind prog w) (s := { s' with toks := s'.toks + 1 }) (strKind_is _ _ _ _) rfl hS' room fun h' hsb hS2 => ?_
    have hS3 : h'.SetOf (PySem.strKind prog w) S (fun k => (met xs (i + 1)).any (· == k)) (met xs (i + 1)).length :=
      PyProof.Rows.SetOf_congr hS2 (fun k => met_any xs i k) (met_len xs i)
    refine wpAny_pure ⟨plainId_quiet PyProof.Rows.F.plain_set_update_loop _, ih (i + 1) _ (by omega) (W.frame _ s' _ _ hs' (Nat.le_succ _) fun b hb o e => ?_) hS3 fun s2 hm2 hS4 => ?_⟩
    · rw [hsb.2 b (fun h : b = S => hSf (by rw [← h]; exact hb))]
      exact e
    · refine hR s2 (Moved.trans W.gtrans ((hm.mono more).then_heap (Nat.le_succ _) fun b o hb e => ?_) hm2) hS4
      rw [hsb.2 b (fun h : b = S => hb (by rw [h]; exact List.mem_cons_self))]
      exact e
end
/-- what set(l) leaves -/
def SetOut (prog : Program) (w : World) (s : Shared) (xs : List Str) (n : Nat) (h' : Heap) : Prop :=
  h'.SetOf (PySem.strKind prog w) s.heap.objs.size (fun k => (met xs n).any (· == k)) (met xs n).length ∧ ∀ b o, b < s.heap.objs.size → s.heap.get? b = some o → h'.get? b = some o
section
variable {prog : Program} {w : World} {A : Around} {E : Value → Shared → Prop} {s : Shared}
theorem texts_set {l : Addr} {items : Array Value} {xs : List Str} {Q : Value → Shared → Prop} {ty : String} {walk : Obj} {wr : List Addr} {G : Array GenState → Array GenState → Prop} {Stt : Nat → Shared → Prop}
    (hl : s.heap.get? l ≠ none) (hi : PyProof.Rows.StrsAre items.toList xs) (hb : items.size + 1 < scanBound)
    (e1 : isSubtype (.type ty) (.type "set") = pure false) (e2 : isSubtype (.type ty) (.type "frozenset") = pure false) (e3 : (Value.type ty == Value.type "dict") = false)
    (hty : ∀ led, Shared.TypeIs { s with heap := s.heap.push (nset led) } (.ref l) ty)
    (hit : ∀ (led : Bool) (A : Around) (Q : Value → Shared → Prop) (E : Value → Shared → Prop), (∀ s' : Shared, s' = { s with heap := (s.heap.push (nset led)).push walk } → Q (.ref (s.heap.objs.size + 1)) s') → wpAny (model prog w) A (pyIter (.ref l)) Q E { s with heap := s.heap.push (nset led) })
    (hW : WalksS prog w A.in1.in1.in1 (s.heap.objs.size + 1) [s.heap.objs.size + 1, l] wr G items.size (fun i v => items[i]? = some v) Stt)
    (hG : ∀ a b, G a b → b = a)
    (hwr : ∀ b ∈ wr, b = s.heap.objs.size + 1)
    (hst : ∀ led, Stt 0 { s with heap := (s.heap.push (nset led)).push walk })
    (h : ∀ (h' : Heap) (tk : Nat), SetOut prog w s xs items.size h' → Q (.ref s.heap.objs.size) { s with heap := h', toks := tk }) :
    wpAny (model prog w) A (call (.type "set") [.ref l]) Q E s := by
  have lt : l < s.heap.objs.size := by
    cases e : s.heap.get? l with
    | none => exact absurd e hl
    | some o => exact Heap.lt_size e
  obtain ⟨c, tl, hmro⟩ := PySem.F.called_set.mro
  have a1 := PySem.F.called_set.made
  have a2 := PySem.F.called_set.sub
  have a3 := PySem.F.called_set.notType
  have a4 := PySem.F.called_set.canCreate
  have a5 := PySem.F.typeCall_set_1 (.ref l)
  refine wpAny_call (codeAny_of_tree ?_)
  show wpAny _ _ (callAny (.type "set") _) _ _ _
  refine wpAny_pure ⟨Code.quiet_builtin _ (by decide +kernel), codeAny_builtin PySem.F.entry_type_call ?_⟩
  rw [Around.under_plain (weight_type_call_type "set" [.ref l] []) rfl]
  repeat (any_goals (first | assumption | wp_step))
  refine codeAny_mono (code_set_new_1 (.ref l) (E := E) (Q₁ := fun obj t => ∃ led : Bool, obj = .ref s.heap.objs.size ∧ t = { s with heap := s.heap.push (nset led) }) fun led => ⟨led, rfl, rfl⟩) fun r t hr => ?_
  cases r with
  | error e => exact hr
  | ok fl =>
    cases fl with
    | ret obj =>
      obtain ⟨led, rfl, rfl⟩ := hr
      have b1 : (s.heap.push (nset led)).get? s.heap.objs.size = some (nset led) := Heap.get?_push_size _ rfl
      have b2 : Shared.TypeIs { s with heap := s.heap.push (nset led) } (.ref s.heap.objs.size) "set" := ⟨_, b1, rfl⟩
      have b3 := PySem.F.called_set.init.lookup
      have b4 := PySem.F.called_set.init.bind (.ref s.heap.objs.size)
      repeat (any_goals (first | assumption | wp_step))
      refine codeAny_mono (codeAny_call_builtin (R := wants (fun r t => r = .none ∧ ∃ h' tk, t = { s with heap := h', toks := tk } ∧ SetOut prog w s xs items.size h') E) PySem.F.called_set.init.plain PySem.F.entry_set_init (check_set_init_1 b2 ?_)) fun r t hr => ?_
      · have c1 := hty led
        unfold Builtin.«set.__init__» noKeywords Builtin.Frozenset.updateFrom
        generalize hPI : pyIter = PI
        wp_walk
        subst hPI
        refine hit led _ _ _ fun s' e => ?_
        subst e
        refine wpAny_bind (wpAny_runValue ?_)
        have nS : s.heap.objs.size ∉ [s.heap.objs.size + 1, l] := fun z => by
          rcases List.mem_cons.mp z with z | z
          · exact Nat.ne_of_lt (Nat.lt_succ_self _) z
          · exact Nat.ne_of_gt lt (List.mem_singleton.mp z)
        have hsz : xs.length = items.size := by rw [← PyProof.Rows.StrsAre.len_eq hi, Array.length_toList]
        have hS0 : ((s.heap.push (nset led)).push walk).SetOf (PySem.strKind prog w) s.heap.objs.size (fun k => (met xs 0).any (· == k)) (met xs 0).length := by
          have g : ((s.heap.push (nset led)).push walk).get? s.heap.objs.size = some (nset led) := Heap.get?_push_of_some _ b1
          exact PyProof.Rows.SetOf_congr ((PyProof.Rows.setObjOf_fresh (knd := PySem.strKind prog w) led).setOf g (by unfold scanBound; omega)) (fun _ => rfl) rfl
        refine texts_loop hW s.heap.objs.size nS xs (fun i v hv => SS.strs_at hi i v (by rw [Array.getElem?_toList]; exact hv)) hb items.size 0 _ (by omega) (hst led) hS0 fun s' hm hS' => ?_
        obtain ⟨h', g', d', tk', os'⟩ := s'
        obtain rfl : g' = s.gens := hG _ _ hm.gens
        obtain rfl : d' = s.drawn := hm.drawn
        obtain rfl : os' = s.os := hm.os
        show wpAny _ _ _ _ _ _
        refine wpAny_pure ?_
        show wpAny _ _ (ret Value.none) _ _ _
        refine wpAny_pure ⟨rfl, h', tk', rfl, hS', fun b o hb e => ?_⟩
        refine hm.heap b o ?_ (Heap.get?_push_of_some _ (Heap.get?_push_of_some _ e))
        intro z
        rcases List.mem_cons.mp z with z | z
        · exact Nat.ne_of_lt hb z
        · exact Nat.ne_of_lt (Nat.lt_succ_of_lt hb) (hwr b z)
      · cases r with
        | error e => exact hr
        | ok fl =>
          cases fl with
          | ret r =>
            obtain ⟨rfl, h', tk, rfl, o⟩ := hr
            repeat (any_goals (first | assumption | wp_step))
            exact h _ _ o
          | _ => exact hr.elim
    | _ => exact hr.elim
end

end Sr

set_option Elab.async false
set_option linter.all false
set_option maxRecDepth 100000
set_option maxHeartbeats 4000000
namespace Sr
open PySem PySem.Spec PyProof.Rows L2
open PySem.SeqAt

section
variable {X : Cx}
def tLenSetT (K : PySem.W.Frag) (ta : TE) : TE := fun σ H Q => ta σ H fun x H1 => ∃ (l : Addr) (xs : List Str), x = .ref l ∧ (SqL K H1 l (xs.map V.str) ∨ SqT K H1 l (xs.map V.str)) ∧ xs.length ≤ 60 ∧ Q (.int (met xs xs.length).length) H1
theorem pe_lenSetT {a : Expr} {ta : TE} {p p2 q pos : Pos} (hc : X.calm = true) (hg : Gl X "len") (hm : X.mg "len" = none) (hg2 : Gl X "set") (hm2 : X.mg "set" = none) (ha : PE X a ta)
    (na : starEach [a] X.env = (false, eval a X.env) :: starEach [] X.env := by rfl) : PE X (.Call (.Name "len" p) [.Call (.Name "set" p2) [a] [] q] [] pos) (tLenSetT X.K ta) := by
  refine ⟨fun pins s σ H Q I h => ?_⟩
  refine Call_ (ld_blt I hg hm boot_len ?_)
  refine PyProof.Rows.callWith_builtin1 (PyProof.Rows.args_cons ?_ rfl) rfl rfl
  refine Call_ (ld_blt (u := .type "set") I hg2 hm2 (by decide +kernel) ?_)
  refine PyProof.Rows.callWith_type1 (PyProof.Rows.args_cons (thn (ha.run pins s σ H _ I h) fun v s1 ⟨x, H1, I1, r1, q1⟩ => PyProof.Rows.args_nil ?_) na) na rfl
  obtain ⟨l, xs, rfl, hq, h1, q1⟩ := q1
  cases r1
  have fin : ∀ (its : List Value), Vals (xs.map V.str) its → ∀ (h' : Heap) (tk : Nat), SetOut X.prog X.w s1 xs its.toArray.size h' →
      wpAny (model X.prog X.w) X.A (spliced (backTo pos (starEach [] X.env))) (fun vs s₂ => wpAny (model X.prog X.w) X.A (call (.builtin "len") (Value.ref s1.heap.objs.size :: vs)) (EP X pins σ Q) X.xe s₂) X.xe { s1 with heap := h', toks := tk } := fun its r h' tk ⟨hS, hk⟩ => by
    refine PyProof.Rows.args_nil ?_
    have hl : its.toArray.size = xs.length := by rw [List.size_toArray, ← r.length, List.length_map]
    rw [hl] at hS
    have := met_le xs xs.length
    obtain ⟨o, es, ep, t, ho, hex, hd, _, _, _, hf, hn⟩ := hS
    have I2 : Inv X pins σ H1 { s1 with heap := h', toks := tk } := I1.kept fun b o e => hk b o (Heap.lt_size e) e
    exact call_len_set ho hex hd hf (by rw [hn] <;> omega) ⟨.int _, H1, I2.tok _, ⟨_, by rw [hn]⟩, q1⟩
  have zz : ∀ its : List Value, Vals (xs.map V.str) its → its.toArray.size + 1 < scanBound := fun its r => by
    rw [List.size_toArray, ← r.length, List.length_map]; unfold scanBound; omega
  have lts : ∀ {o : Obj}, s1.heap.get? l = some o → l < s1.heap.objs.size := fun e => Heap.lt_size e
  have hh : ∀ A : Around, A.handled = none → A.in1.in1.in1.handled = none := fun A h => by simp [h]
  have g2 : ∀ (led : Bool) (o : Obj) (ho : o.isFreed = false), ((s1.heap.push (nset led)).push o).get? (s1.heap.objs.size + 1) = some o := fun led o ho => by
    have e := Heap.get?_push_size (s1.heap.push (nset led)) ho
    rwa [Heap.size_push] at e
  have it : ∀ (led : Bool) (o : Obj) (Q : Value → Shared → Prop), (∀ s' : Shared, s' = { s1 with heap := (s1.heap.push (nset led)).push o } → Q (.ref (s1.heap.objs.size + 1)) s') → Q (.ref (s1.heap.push (nset led)).objs.size) { s1 with heap := (s1.heap.push (nset led)).push o } := fun led o Q k => by
    rw [Heap.size_push]
    exact k _ rfl
  rcases hq with hq | hq
  · obtain ⟨its, r, pl, hz⟩ := I1.list hq
    obtain ⟨ol, e, ec, nn, ed⟩ := pl.isList
    have il : s1.heap.IsList l its.toArray := ⟨ol, e, ec, nn, ed⟩
    have ne : l ≠ s1.heap.objs.size + 1 := Nat.ne_of_lt (Nat.lt_succ_of_lt (lts e))
    exact texts_set (ty := "list") (walk := { cls := .type "list_iterator", data := .fields #[.ref l, .int 0 0] }) (by rw [e]; simp) (by simpa using strsAre_of r) (zz its r) PySem.F.sub_list_set PySem.F.sub_list_frozenset (by decide) (fun led => ⟨_, Heap.get?_push_of_some _ e, ec⟩)
      (fun led A Q E k => wpAny_pyIter_list (il.push _) (it led _ Q k)) ((Walks.list (hh _ (I1.ok.hd hc)) _ l ne its.toArray).toS) (fun a b e => e) (fun b hb => List.mem_singleton.mp hb) (fun led => ⟨⟨_, g2 led _ rfl, rfl, rfl⟩, (il.push _).push _⟩) fun h' tk o => fin its r h' tk o
  · obtain ⟨its, r, pl, hz⟩ := I1.tuple hq
    have il : s1.heap.IsTuple l its.toArray := pl
    obtain ⟨ol, e, ec, nn, ed⟩ := pl
    have ne : l ≠ s1.heap.objs.size + 1 := Nat.ne_of_lt (Nat.lt_succ_of_lt (lts e))
    exact texts_set (ty := "tuple") (walk := { cls := .type "tuple_iterator", data := .fields #[.ref l, .int 0 0] }) (by rw [e]; simp) (by simpa using strsAre_of r) (zz its r) PySem.F.sub_tuple_set PySem.F.sub_tuple_frozenset (by decide) (fun led => ⟨_, Heap.get?_push_of_some _ e, ec⟩)
      (fun led A Q E k => wpAny_pyIter_tuple (il.push _) (it led _ Q k)) ((Walks.tuple (hh _ (I1.ok.hd hc)) _ l ne its.toArray).toS) (fun a b e => e) (fun b hb => List.mem_singleton.mp hb) (fun led => ⟨⟨_, g2 led _ rfl, rfl, rfl⟩, (il.push _).push _⟩) fun h' tk o => fin its r h' tk o
end
end Sr

set_option Elab.async false
set_option linter.all false
set_option maxRecDepth 100000
set_option maxHeartbeats 4000000
namespace Sr
open PySem PySem.Spec PyProof.Rows L2
/-! ### list(d.values()) -/
def tListValues (te : TE) : TE := fun σ H Q => te σ H fun x H1 => ∃ d kvs, x = .ref d ∧ H1 d = some (.dK kvs) ∧ ∀ p, H1 p = none → Q (.ref p) (upd H1 p (.lst (kvs.map (·.2))))
theorem vals_of_kv : ∀ {kvs : List (Key × V)} {vs : List (Key × Value)}, KV kvs vs → Vals (kvs.map (·.2)) (vs.map (·.2))
  | _, _, .nil => .nil
  | _, _, .cons h t => .cons h.2 (vals_of_kv t)
theorem pe_listValues {X : Cx} {e : Expr} {te : TE} {p apos cpos pos : Pos} (hg : Gl X "list") (hm : X.mg "list" = none) (he : PE X e te) (hc : X.calm = true := by rfl) (hbase : attributeBase e "values" X.env (eval e X.env) = eval e X.env := by rfl) (hline : (apos.endLine == cpos.line) = true := by rfl)
    (hs : starEach [.Call (.Attribute e "values" apos) [] [] cpos] X.env = (false, eval (.Call (.Attribute e "values" apos) [] [] cpos) X.env) :: starEach [] X.env := by rfl) :
    PE X (.Call (.Name "list" p) [.Call (.Attribute e "values" apos) [] [] cpos] [] pos) (tListValues te) := by
  refine ⟨fun pins s σ H Q I hq => ?_⟩
  refine wpAny_Call_Name_kw (ld_blt (u := .type "list") I hg hm (by decide +kernel) ?_)
  refine PyProof.Rows.callWith_type1 ?_ hs rfl
  rw [hs]
  show wpAny _ _ (spliced ((false, eval (.Call (.Attribute e "values" apos) [] [] cpos) X.env) :: backTo pos (starEach [] X.env))) _ _ s
  refine Calls.spliced_cons ?_
  refine wpAny_Call_method (T := "dict") (id := "dict.values") hbase rfl hline F.plainAttrs_dict F.slot_dict_values F.type_dict_values (thn (he.run pins s σ H _ I hq) fun u s1 ⟨x, H1, I1, rx, d, kvs, ex, hd, q⟩ => ?_)
  subst ex
  obtain rfl : u = Value.ref d := rx
  obtain ⟨hz, hs0, vs, kv, hdo⟩ := I1.hok d _ hd
  obtain ⟨ep, hat⟩ := hdo.dictAt
  have lk : kvs.length = vs.length := Paired.length kv
  have I2 : Inv X pins σ H1 { s1 with heap := s1.heap.push { cls := .type "dict_values", data := .fields #[.ref d] } } := I1.kept (t' := s1.toks) fun b ob q => Heap.get?_push_of_some _ q
  refine ⟨hdo.typeIs, hdo.mapOf.noDict, ?_⟩
  show wpAny _ _ (callWith cpos (.builtin "dict.values") [.ref d] [] []) _ X.xe s1
  refine method_meetsIn F.slot_dict_values F.entry_dict_values rfl (PySem.evalArgs_none ⟨rfl, hdo.typeIs, F.args_dict_values_1 _, _, meets_dict_values (mixKind X.prog X.w) d hs0, ⟨vs, hdo⟩, ?_⟩)
  refine Calls.spliced_nil ?_
  refine PySem.W.kdl_call (PySem.W.kdl_values (knd := mixKind X.prog X.w) (kvs := vs) (ep := ep) (d := d) (r := s1.heap.objs.size)) (I1.ok.hd hc) ⟨⟨_, Heap.get?_push_size _ rfl, rfl, rfl⟩, hat.push _⟩ (by omega) fun h' tk acc c hk hS hacc => ?_
  have ev : acc.toList = vs.map (·.2) := PySem.W.kdl_vals_eq _ (by rw [Array.length_toList]; exact hacc.1) fun j v e => hacc.2 j v (by rw [← Array.getElem?_toList]; exact e)
  have hv : Vals (kvs.map (·.2)) acc.toList := by rw [ev]; exact vals_of_kv kv
  exact ⟨.ref _, _, I2.laid (t' := tk) hk (Nat.le_refl _) (show ObjOk X.prog X.w _ _ _ (.lst (kvs.map (·.2))) from ⟨by rw [List.length_map]; exact hz, acc.toList, c, hv, by rw [Array.toArray_toList]; exact hS⟩), rfl, q _ (I2.hok.fresh (Nat.le_refl _))⟩
end Sr

set_option Elab.async false
set_option linter.all false
set_option maxRecDepth 100000
set_option maxHeartbeats 4000000
namespace Sr
open PySem PySem.Spec PyProof.Rows L2
/-! ### data as they are passed about -/
inductive Dt where
  | non | bl (b : Bool) | int (i : Int) | str (s : Str) | lst (l : List Dt) | tup (l : List Dt) | dic
mutual
/-- v stands for d in the heap H -/
inductive Is (H : Hp) : V → Dt → Prop
  | non : Is H .non .non
  | bl (b : Bool) : Is H (.bl b) (.bl b)
  | int (i : Int) : Is H (.int i) (.int i)
  | str (s : Str) (h : s.length ≤ 1000) : Is H (.str s) (.str s)
  | lst {a : Addr} {xs : List V} {ds : List Dt} : H a = some (.lst xs) → IsA H xs ds → xs.length ≤ 60 → Is H (.ref a) (.lst ds)
  | tup {a : Addr} {xs : List V} {ds : List Dt} : H a = some (.tup xs) → IsA H xs ds → xs.length ≤ 60 → Is H (.ref a) (.tup ds)
  | dic {a : Addr} {kvs : List (Key × V)} : H a = some (.dK kvs) → Is H (.ref a) .dic
inductive IsA (H : Hp) : List V → List Dt → Prop
  | nil : IsA H [] []
  | cons {v : V} {vs : List V} {d : Dt} {ds : List Dt} : Is H v d → IsA H vs ds → IsA H (v :: vs) (d :: ds)
end
mutual
theorem Is.mono {H H' : Hp} (e : Same H H') : ∀ {v : V} {d : Dt}, Is H v d → Is H' v d
  | _, _, .non => .non
  | _, _, .bl b => .bl b
  | _, _, .int i => .int i
  | _, _, .str s h => .str s h
  | _, _, .lst h r z => .lst (e _ _ h) (IsA.mono e r) z
  | _, _, .tup h r z => .tup (e _ _ h) (IsA.mono e r) z
  | _, _, .dic h => .dic (e _ _ h)
theorem IsA.mono {H H' : Hp} (e : Same H H') : ∀ {vs : List V} {ds : List Dt}, IsA H vs ds → IsA H' vs ds
  | _, _, .nil => .nil
  | _, _, .cons h r => .cons (Is.mono e h) (IsA.mono e r)
end
theorem IsA.len {H : Hp} : ∀ {vs : List V} {ds : List Dt}, IsA H vs ds → vs.length = ds.length
  | _, _, .nil => rfl
  | _, _, .cons _ r => congrArg (· + 1) (IsA.len r)
theorem IsA.get {H : Hp} : ∀ {vs : List V} {ds : List Dt} {i : Nat} {v : V}, IsA H vs ds → vs[i]? = some v → ∃ d, ds[i]? = some d ∧ Is H v d
  | _, _, _, _, .nil, e => by simp at e
  | _, _, 0, _, .cons h _, e => by simp at e; subst e; exact ⟨_, rfl, h⟩
  | _, _, i + 1, v, .cons _ r, e => by
    obtain ⟨d, h1, h2⟩ := IsA.get (i := i) (v := v) r (by simpa using e)
    exact ⟨d, by simpa using h1, h2⟩
theorem IsA.app {H : Hp} : ∀ {xs ys : List V} {ds es : List Dt}, IsA H xs ds → IsA H ys es → IsA H (xs ++ ys) (ds ++ es)
  | _, _, _, _, .nil, s => s
  | _, _, _, _, .cons h r, s => .cons h (IsA.app r s)
theorem IsA.take {H : Hp} : ∀ {xs : List V} {ds : List Dt} (n : Nat), IsA H xs ds → IsA H (xs.take n) (ds.take n)
  | _, _, 0, _ => by simp; exact .nil
  | _, _, _ + 1, .nil => .nil
  | _, _, n + 1, .cons h r => .cons h (IsA.take n r)
theorem IsA.drop {H : Hp} : ∀ {xs : List V} {ds : List Dt} (n : Nat), IsA H xs ds → IsA H (xs.drop n) (ds.drop n)
  | _, _, 0, r => r
  | _, _, _ + 1, .nil => .nil
  | _, _, n + 1, .cons _ r => IsA.drop n r
/-- the name of the type -/
def tyN : Dt → String
  | .non => "NoneType" | .bl _ => "bool" | .int _ => "int" | .str _ => "str" | .lst _ => "list" | .tup _ => "tuple" | .dic => "dict"
theorem Is.ty {K : PySem.W.Frag} {H : Hp} {v : V} {d : Dt} (h : Is H v d) : TyX K H v (.type (tyN d)) := by
  cases h with
  | non => exact .base .non
  | bl b => exact .base (.bl b)
  | int i => exact .base (.int i)
  | str s h => exact .base (.str s)
  | lst h r z => exact .base (.lst h)
  | tup h r z => exact .base (.tup h)
  | dic h => exact .base (.dK h)
def isSeq : Dt → Bool
  | .lst _ => true
  | .tup _ => true
  | _ => false
def isStr : Dt → Bool
  | .str _ => true
  | _ => false
def isInt : Dt → Bool
  | .int _ => true
  | .bl _ => true
  | _ => false
def isBl : Dt → Bool
  | .bl _ => true
  | _ => false
theorem kit_two {K : PySem.W.Frag} {t c1 c2 : Value} {a b : Bool} (h1 : PySem.W.kitOne K t c1 = some a) (h2 : PySem.W.kitOne K t c2 = some b) : PySem.W.kitAny K t [c1, c2] = some (a || b) := by
  refine kitAny_cons h1 (fun e => kitAny_cons h2 (fun e2 => ?_) fun e2 => ?_) fun e => ?_
  · rw [e, e2]; rfl
  · rw [e, e2]; rfl
  · rw [e]; rfl
def isLst : Dt → Bool
  | .lst _ => true
  | _ => false
def isTup : Dt → Bool
  | .tup _ => true
  | _ => false
theorem kit_list (K : PySem.W.Frag) : ∀ d : Dt, PySem.W.kitOne K (.type (tyN d)) (.type "list") = some (isLst d)
  | .non => kit_ty (show kitB "NoneType" "list" = some false by decide +kernel)
  | .bl b => kit_ty (show kitB "bool" "list" = some false by decide +kernel)
  | .int i => kit_ty (show kitB "int" "list" = some false by decide +kernel)
  | .str s => kit_ty (show kitB "str" "list" = some false by decide +kernel)
  | .lst l => kit_ty (show kitB "list" "list" = some true by decide +kernel)
  | .tup l => kit_ty (show kitB "tuple" "list" = some false by decide +kernel)
  | .dic => kit_ty (show kitB "dict" "list" = some false by decide +kernel)
theorem kit_tuple (K : PySem.W.Frag) : ∀ d : Dt, PySem.W.kitOne K (.type (tyN d)) (.type "tuple") = some (isTup d)
  | .non => kit_ty (show kitB "NoneType" "tuple" = some false by decide +kernel)
  | .bl b => kit_ty (show kitB "bool" "tuple" = some false by decide +kernel)
  | .int i => kit_ty (show kitB "int" "tuple" = some false by decide +kernel)
  | .str s => kit_ty (show kitB "str" "tuple" = some false by decide +kernel)
  | .lst l => kit_ty (show kitB "list" "tuple" = some false by decide +kernel)
  | .tup l => kit_ty (show kitB "tuple" "tuple" = some true by decide +kernel)
  | .dic => kit_ty (show kitB "dict" "tuple" = some false by decide +kernel)
theorem kit_seq (K : PySem.W.Frag) (d : Dt) : PySem.W.kitAny K (.type (tyN d)) [.type "list", .type "tuple"] = some (isSeq d) := by
  rw [kit_two (kit_list K d) (kit_tuple K d)]
  cases d <;> rfl
theorem kit_str (K : PySem.W.Frag) : ∀ d : Dt, PySem.W.kitOne K (.type (tyN d)) (.type "str") = some (isStr d)
  | .non => kit_ty (show kitB "NoneType" "str" = some false by decide +kernel)
  | .bl b => kit_ty (show kitB "bool" "str" = some false by decide +kernel)
  | .int i => kit_ty (show kitB "int" "str" = some false by decide +kernel)
  | .str s => kit_ty (show kitB "str" "str" = some true by decide +kernel)
  | .lst l => kit_ty (show kitB "list" "str" = some false by decide +kernel)
  | .tup l => kit_ty (show kitB "tuple" "str" = some false by decide +kernel)
  | .dic => kit_ty (show kitB "dict" "str" = some false by decide +kernel)
theorem kit_int (K : PySem.W.Frag) : ∀ d : Dt, PySem.W.kitOne K (.type (tyN d)) (.type "int") = some (isInt d)
  | .non => kit_ty (show kitB "NoneType" "int" = some false by decide +kernel)
  | .bl b => kit_ty (show kitB "bool" "int" = some true by decide +kernel)
  | .int i => kit_ty (show kitB "int" "int" = some true by decide +kernel)
  | .str s => kit_ty (show kitB "str" "int" = some false by decide +kernel)
  | .lst l => kit_ty (show kitB "list" "int" = some false by decide +kernel)
  | .tup l => kit_ty (show kitB "tuple" "int" = some false by decide +kernel)
  | .dic => kit_ty (show kitB "dict" "int" = some false by decide +kernel)
theorem kit_bool (K : PySem.W.Frag) : ∀ d : Dt, PySem.W.kitOne K (.type (tyN d)) (.type "bool") = some (isBl d)
  | .non => kit_ty (show kitB "NoneType" "bool" = some false by decide +kernel)
  | .bl b => kit_ty (show kitB "bool" "bool" = some true by decide +kernel)
  | .int i => kit_ty (show kitB "int" "bool" = some false by decide +kernel)
  | .str s => kit_ty (show kitB "str" "bool" = some false by decide +kernel)
  | .lst l => kit_ty (show kitB "list" "bool" = some false by decide +kernel)
  | .tup l => kit_ty (show kitB "tuple" "bool" = some false by decide +kernel)
  | .dic => kit_ty (show kitB "dict" "bool" = some false by decide +kernel)
/-- the texts of a list of data -/
def strsOf : List Dt → List Str
  | [] => []
  | .str s :: r => s :: strsOf r
  | _ :: r => strsOf r
theorem IsA.strs {H : Hp} : ∀ {xs : List V} {ds : List Dt}, IsA H xs ds → ds.all isStr = true → xs = (strsOf ds).map V.str
  | _, _, .nil, _ => rfl
  | _, _, .cons (.str s h) r, e => by
    have e2 := IsA.strs r (by simpa [isStr] using e)
    show _ = V.str s :: _
    rw [e2]
  | _, _, .cons .non r, e => by simp [isStr] at e
  | _, _, .cons (.bl b) r, e => by simp [isStr] at e
  | _, _, .cons (.int b) r, e => by simp [isStr] at e
  | _, _, .cons (.lst h z y) r, e => by simp [isStr] at e
  | _, _, .cons (.tup h z y) r, e => by simp [isStr] at e
  | _, _, .cons (.dic h) r, e => by simp [isStr] at e
theorem cls_two (a b : String) : Paired ClsV [V.ty a, V.ty b] [.type a, .type b] := .cons (.ty a) (.cons (.ty b) .nil)
theorem two_line : (2 : Nat) ≤ sizeLine := by rw [sizeLine_eq]; decide
theorem Same.up {H : Hp} {p : Addr} {o : HO} (h : H p = none) : Same H (upd H p o) := fun b u e => by
  rw [upd_ne (ne_of_none e h)]
  exact e
end Sr

set_option Elab.async false
set_option linter.all false
set_option maxRecDepth 100000
set_option maxHeartbeats 4000000
namespace Sr
open PySem PySem.Spec PyProof.Rows L2
/-- a comprehension of one name whose elements change nothing that stood: the list of what they are -/
theorem lc_pure {J : It} {n : Nat} {G : Hp → Prop} {Y : Nat → Hp → V → Hp → Prop} {At : Nat → V → Prop} (w : Walk J n G Y) (hy : ∀ i H x H', Y i H x H' → H' = H ∧ At i x) {te : TE} {j : Nat} {σ : L2.St} {H : Hp} {D : Addr} {Qd : Hp → Prop}
    (ys : List V) (hn : ys.length = n) (hz : n < sizeLine) (hD : H D = none) (hG : ∀ H', Same H H' → G H')
    (turn : ∀ (i : Nat) (x y : V) (H1 : Hp) (Q : VK), i < n → At i x → ys[i]? = some y → Same H H1 → (∀ H2, Same H1 H2 → Q y H2) → te ((σ.set j none).set j (some x)) H1 Q)
    (fin : ∀ H', Same H H' → H' D = some (.lst ys) → Qd H') :
    ∃ W : Nat → Nat → Hp → Prop, (∃ m, W 0 m (upd H D (.lst []))) ∧ ∀ i m H, W i m H →
      (J.stop i H ∧ Qd H) ∨ (J.go i H ∧ ∃ Nx : Hp → Prop, (∀ H', Nx H' → ∃ m', m' < m ∧ W (i + 1) m' H') ∧ ∀ x H', J.yld i H x H' → (gName j) x (wipe σ [j]) H' fun σ2 H2 => wipe σ2 [j] = wipe σ [j] ∧ tYes σ2 H2 fun b H3 =>
        if b = true then te σ2 H3 fun y H4 => ∃ acc, H4 D = some (.lst acc) ∧ acc.length < sizeLine ∧ Nx (upd H4 D (.lst (acc ++ [y]))) else Nx H3) := by
  have below : ∀ {H1 H2 : Hp} {o : HO}, Same H H1 → Same H1 H2 → Same H (upd H2 D o) := fun {H1 H2 o} a b c u e => by
    rw [upd_ne (ne_of_none e hD)]
    exact b _ _ (a _ _ e)
  refine lc_it w (fun i H' => Same H H' ∧ H' D = some (.lst (ys.take i))) ⟨Same.up hD, by rw [upd_same]; simp⟩ (fun i H' _ p => hG H' p.1) (fun i x H1 H2 hi p y => ?_) fun H' p => fin H' p.1 (by rw [p.2, ← hn, List.take_length])
  obtain ⟨rfl, hx⟩ := hy _ _ _ _ y
  refine ⟨?_, ?_⟩
  · show ((σ.set j none).set j (some x)).set j none = σ.set j none
    rw [List.set_set, List.set_set]
  · unfold tYes
    simp only [if_true]
    have hi' : i < ys.length := by omega
    refine turn i x ys[i] H2 _ hi hx (List.getElem?_eq_getElem hi') p.1 fun H3 s3 => ?_
    refine ⟨_, s3 _ _ p.2, by rw [List.length_take]; omega, below p.1 s3, ?_⟩
    rw [upd_same, List.take_add_one, List.getElem?_eq_getElem hi']
    rfl
theorem walk_at {xs : List V} : ∀ (i : Nat) (H : Hp) (x : V) (H' : Hp), YAt xs i H x H' → H' = H ∧ xs[i]? = some x := fun _ _ _ _ y => y
/-- all([.. for ..]) behind its list -/
theorem all_of {K : PySem.W.Frag} {H : Hp} {D : Addr} {bs : List Bool} {Q : VK} (h : H D = some (.lst (bs.map V.bl))) (q : Q (.bl (bs.all id)) H) : (rAll K) [V.ref D] H Q := ⟨D, bs, rfl, SqL.of h, q⟩
theorem sz {n m : Nat} (h : n ≤ m) (hm : m ≤ 1000000 := by decide) : n < sizeLine := by
  rw [sizeLine_eq]
  exact Nat.lt_of_le_of_lt (Nat.le_trans h hm) (by decide)
/-- a built-in class as a value -/
theorem pe_tyv {X : Cx} {x : Str} {n : String} {p : Pos} (hg : Gl X x) (hm : X.mg x = none) (hv : bootBuiltins x = some (.type n)) (hn : x ≠ "__name__" := by decide) (hd : (x == ("__debug__" : Str)) = false := by decide) : PE X (.Name x p) (tC (.ty n)) :=
  pe_bltn hg hm hv rfl hn hd
end Sr

set_option Elab.async false
set_option linter.all false
set_option maxRecDepth 100000
set_option maxHeartbeats 4000000
namespace Sr
open PySem PySem.Spec PyProof.Rows L2
/-! ### a table of the top with text keys, wholly known -/
theorem find_out {P : Params} {z : Str} : ∀ {es : List DictEntry} {ks : List Str}, es.map He.keyOf = He.keysIn P ks → z ∉ ks → es.find? (·.key.isStr z) = none ∧ es.any (·.refKey) = false
  | [], _, _, _ => ⟨rfl, rfl⟩
  | e :: r, [], h, _ => by cases h
  | e :: r, k :: ks, h, hz => by
    have h1 : He.keyOf e :: r.map He.keyOf = some (k, PyData.keyHash P k) :: He.keysIn P ks := h
    injection h1 with h2 h3
    obtain ⟨i1, i2⟩ := find_out h3 fun m => hz (List.mem_cons_of_mem _ m)
    have hk : k ≠ z := fun q => hz (by rw [q]; exact List.mem_cons_self)
    obtain ⟨hs, ky, vl⟩ := e
    unfold He.keyOf at h2
    cases ky with
    | str x t =>
      have e1 : (x, hs) = (k, PyData.keyHash P k) := Option.some.inj h2
      obtain rfl : x = k := congrArg Prod.fst e1
      have n1 : (Value.str x t).isStr z = false := by
        show (x == z) = false
        simpa using hk
      exact ⟨by rw [List.find?_cons, n1]; exact i1, by rw [List.any_cons, i2]; rfl⟩
    | _ => cases h2
theorem tab_list {K : PySem.W.Frag} {w : World} {a : Addr} {ks : List Str} (h : He.dicW K a = some (He.keysIn w.params ks)) : ∃ es n, KDict K w a es n ∧ es.toList.map He.keyOf = He.keysIn w.params ks := by
  obtain ⟨es, n, D⟩ := He.dicW_ok h
  refine ⟨es, n, D, ?_⟩
  unfold He.dicW at h
  rw [D.at_] at h
  have h1 : (match decide ("dict" = "dict") && (#[].isEmpty && !(a == sysModules)) with
    | true => some (es.toList.map He.keyOf)
    | false => none) = some (He.keysIn w.params ks) := h
  rw [D.low] at h1
  exact Option.some.inj h1
theorem nsIn_out {K : PySem.W.Frag} {w : World} {a : Addr} {es : Array DictEntry} {n : Nat} {ks : List Str} {z : Str} (D : KDict K w a es n) (h : es.toList.map He.keyOf = He.keysIn w.params ks) (hz : z ∉ ks) : PySem.W.nsIn K a z = some none := by
  obtain ⟨h1, h2⟩ := find_out h hz
  unfold PySem.W.nsIn
  rw [D.at_]
  show (match es.toList.find? (·.key.isStr z) with
      | some e => some (some e.val)
      | none => if es.toList.any (·.refKey) then none else some none) = some none
  rw [h1]
  show (if es.toList.any (·.refKey) then none else some none) = some none
  rw [h2]
  rfl
/-- a call of a local name that holds a def of the top -/
theorem pe_calL {X : Cx} {k k' i : Nat} {x x0 : Str} {ps : List Str} {sp : Sp} {a : Addr} {p pos : Pos} {e : Expr} {es : List Expr} {t : TA} (C : Cal X.prog X.w X.K X.mg X.base k x0 ps sp) (hm0 : X.mg x0 = some (.ref a)) (hr : Room k' X.A) (hk : k ≤ k') (hN : X.N[i]? = some x) (hv : Vis X.env.scope x) (ha : PA X (e :: es) t)
    (hdb : (x == ("__debug__" : Str)) = false := by decide) (hcd : (x == ("__classdict__" : Str)) = false := by decide)
    (he : starEach (e :: es) X.env = (false, eval e X.env) :: starEach es X.env := by rfl) (hpl : (backTo pos (starEach es X.env)).any (·.1) = false := by rfl) : PE X (.Call (.Name x p) (e :: es) [] pos) (tCallL i a sp [] E0 t) := by
  obtain ⟨f, fd, F, hm, hkp, hb⟩ := C.ex
  obtain rfl : f = a := by
    have := hm.symm.trans hm0
    injection this with this
    injection this
  exact pe_callL F (hr.mono hk) hN hv hkp hb .nil pass0 ha hdb hcd he hpl
end Sr

set_option Elab.async false
set_option linter.all false
set_option maxRecDepth 100000
set_option maxHeartbeats 4000000
namespace Sr
open PySem PySem.Spec PyProof.Rows L2
/-! ### dicts with text keys, as pairs of a text and what stands for it -/
/-- the entries of kvs are the texts ss, in order, and what Rv says of each stands under it -/
abbrev Ent (Rv : Str → V → Prop) (kvs : List (Key × V)) (ss : List Str) : Prop := Paired (fun kv s => kv.1 = Sum.inr s ∧ Rv s kv.2) kvs ss
theorem Ent.keys {Rv : Str → V → Prop} : ∀ {kvs : List (Key × V)} {ss : List Str}, Ent Rv kvs ss → kvs.map (·.1) = ss.map Sum.inr
  | _, _, .nil => rfl
  | _, _, .cons h r => by rw [List.map_cons, List.map_cons, h.1, Ent.keys r]
theorem Ent.imp {Rv Rv' : Str → V → Prop} (f : ∀ s v, Rv s v → Rv' s v) : ∀ {kvs : List (Key × V)} {ss : List Str}, Ent Rv kvs ss → Ent Rv' kvs ss
  | _, _, .nil => .nil
  | _, _, .cons h r => .cons ⟨h.1, f _ _ h.2⟩ (Ent.imp f r)
theorem Ent.len {Rv : Str → V → Prop} {kvs : List (Key × V)} {ss : List Str} (h : Ent Rv kvs ss) : kvs.length = ss.length := Paired.length h
theorem Ent.snoc {Rv : Str → V → Prop} {s : Str} {v : V} (hv : Rv s v) : ∀ {kvs : List (Key × V)} {ss : List Str}, Ent Rv kvs ss → Ent Rv (kvs ++ [(Sum.inr s, v)]) (ss ++ [s])
  | _, _, .nil => .cons ⟨rfl, hv⟩ .nil
  | _, _, .cons h r => .cons h (Ent.snoc hv r)
theorem Ent.at_ {Rv : Str → V → Prop} {s : Str} : ∀ {kvs : List (Key × V)} {ss : List Str}, Ent Rv kvs ss → s ∈ ss → ∃ v, valV kvs (Sum.inr s) = some v ∧ Rv s v
  | _, _, .cons (a := kv) (b := x) h r, m => by
    unfold valV
    rw [List.find?_cons]
    by_cases c : x = s
    · subst c
      rw [h.1, decide_eq_true rfl]
      exact ⟨_, rfl, h.2⟩
    · have m' : s ∈ _ := (List.mem_cons.mp m).resolve_left fun q => c q.symm
      rw [h.1, decide_eq_false fun q => c (Sum.inr.inj q)]
      exact Ent.at_ r m'
theorem Ent.out {Rv : Str → V → Prop} {s : Str} : ∀ {kvs : List (Key × V)} {ss : List Str}, Ent Rv kvs ss → s ∉ ss → valV kvs (Sum.inr s) = none
  | _, _, .nil, _ => rfl
  | _, _, .cons (a := kv) (b := x) h r, m => by
    unfold valV
    rw [List.find?_cons, h.1, decide_eq_false fun q => m (by rw [Sum.inr.inj q]; exact List.mem_cons_self)]
    exact Ent.out r fun q => m (List.mem_cons_of_mem _ q)
theorem Ent.has {Rv : Str → V → Prop} {kvs : List (Key × V)} {ss : List Str} (h : Ent Rv kvs ss) (s : Str) : (valV kvs (Sum.inr s)).isSome = decide (s ∈ ss) := by
  by_cases m : s ∈ ss
  · obtain ⟨v, e, _⟩ := h.at_ m
    rw [e, decide_eq_true m]
    rfl
  · rw [h.out m, decide_eq_false m]
    rfl
theorem putK_new {kvs : List (Key × V)} {k : Key} {v : V} (h : k ∉ kvs.map (·.1)) : putK kvs k v = kvs ++ [(k, v)] := by
  unfold putK
  rw [if_neg]
  intro q
  obtain ⟨kv, m, e⟩ := List.any_eq_true.mp q
  exact h (List.mem_map.mpr ⟨kv, m, of_decide_eq_true e⟩)
theorem Ent.put {Rv : Str → V → Prop} {kvs : List (Key × V)} {ss : List Str} {s : Str} {v : V} (h : Ent Rv kvs ss) (m : s ∉ ss) (hv : Rv s v) : Ent Rv (putK kvs (Sum.inr s) v) (ss ++ [s]) := by
  rw [putK_new]
  · exact h.snoc hv
  · rw [h.keys]
    intro q
    obtain ⟨x, m', e⟩ := List.mem_map.mp q
    exact m (by rw [← Sum.inr.inj e]; exact m')
/-- a dict comprehension of one name with unlike texts for keys; nothing that stood is changed -/
theorem dc_texts {J : It} {n : Nat} {G : Hp → Prop} {Y : Nat → Hp → V → Hp → Prop} {At : Nat → V → Prop} (w : Walk J n G Y) (hy : ∀ i H x H', Y i H x H' → H' = H ∧ At i x) {tk tv : TE} {j : Nat} {σ : L2.St} {H : Hp} {D : Addr} {Qd : Hp → Prop}
    (ss : List Str) (hn : ss.length = n) (nd : ss.Nodup) (hz : n < sizeLine) (hD : H D = none) (hG : ∀ H', Same H H' → G H') (Rv : Hp → Str → V → Prop) (mono : ∀ H1 H2 s v, Same H1 H2 → Rv H1 s v → Rv H2 s v)
    (lay : ∀ H1 s v c c', H1 D = some (.dK c) → Rv H1 s v → Rv (upd H1 D (.dK c')) s v)
    (turn : ∀ (i : Nat) (x : V) (s : Str) (H1 : Hp) (R : V → V → Hp → Prop), i < n → At i x → ss[i]? = some s → Same H H1 → (∀ H2 z, Same H1 H2 → Rv H2 s z → R (.str s) z H2) → tk ((σ.set j none).set j (some x)) H1 fun y H2 => tv ((σ.set j none).set j (some x)) H2 fun z H3 => R y z H3)
    (fin : ∀ H' kvs, Same H H' → H' D = some (.dK kvs) → Ent (Rv H') kvs ss → Qd H') :
    ∃ W : Nat → Nat → Hp → Prop, (∃ m, W 0 m (upd H D (.dK []))) ∧ ∀ i m H, W i m H →
      (J.stop i H ∧ Qd H) ∨ (J.go i H ∧ ∃ Nx : Hp → Prop, (∀ H', Nx H' → ∃ m', m' < m ∧ W (i + 1) m' H') ∧ ∀ x H', J.yld i H x H' → (gName j) x (wipe σ [j]) H' fun σ2 H2 => wipe σ2 [j] = wipe σ [j] ∧ tYes σ2 H2 fun b H3 =>
        if b = true then tk σ2 H3 fun y H4 => tv σ2 H4 fun z H5 => ∃ kvs k, y = kV k ∧ H5 D = some (.dK kvs) ∧ kvs.length < sizeLine ∧ Nx (upd H5 D (.dK (putK kvs k z))) else Nx H3) := by
  have below : ∀ {H1 H2 : Hp} {o : HO}, Same H H1 → Same H1 H2 → Same H (upd H2 D o) := fun {H1 H2 o} a b c u e => by
    rw [upd_ne (ne_of_none e hD)]
    exact b _ _ (a _ _ e)
  refine ⟨fun i m H' => m = n - i ∧ i ≤ n ∧ Same H H' ∧ ∃ kvs, H' D = some (.dK kvs) ∧ Ent (Rv H') kvs (ss.take i), ⟨n, by simp, Nat.zero_le _, Same.up hD, [], upd_same, by rw [List.take_zero]; exact .nil⟩, ?_⟩
  rintro i m H1 ⟨rfl, hi, s1, kvs, hd, he⟩
  by_cases lt : i < n
  · refine .inr ⟨w.goes i H1 lt (hG _ s1), fun H' => i + 1 ≤ n ∧ Same H H' ∧ ∃ kvs, H' D = some (.dK kvs) ∧ Ent (Rv H') kvs (ss.take (i + 1)), fun H' p => ⟨n - (i + 1), by omega, rfl, p⟩, fun x H2 y => ?_⟩
    obtain ⟨rfl, hx⟩ := hy _ _ _ _ (w.yields i H1 x H2 lt (hG _ s1) y)
    refine ⟨?_, ?_⟩
    · show ((σ.set j none).set j (some x)).set j none = σ.set j none
      rw [List.set_set, List.set_set]
    · unfold tYes
      simp only [if_true]
      have hi' : i < ss.length := by omega
      refine turn i x ss[i] H2 _ lt hx (List.getElem?_eq_getElem hi') s1 fun H3 z s3 rv => ?_
      have hl := he.len
      rw [List.length_take] at hl
      have nm : ss[i] ∉ ss.take i := fun q => by
        obtain ⟨a, ha, e⟩ := List.mem_take_iff_getElem.mp q
        exact (List.pairwise_iff_getElem.mp nd) a i (by omega) hi' (by omega) e
      refine ⟨kvs, Sum.inr ss[i], rfl, s3 _ _ hd, by omega, lt, below s1 s3, _, upd_same, ?_⟩
      rw [List.take_add_one, List.getElem?_eq_getElem hi']
      have r1 : Ent (Rv (upd H3 D (.dK (putK kvs (Sum.inr ss[i]) z)))) kvs (ss.take i) := he.imp fun s v r => lay _ _ _ _ _ (s3 _ _ hd) (mono _ _ _ _ s3 r)
      exact r1.put nm (lay _ _ _ _ _ (s3 _ _ hd) rv)
  · obtain rfl : i = n := by omega
    refine .inl ⟨w.stops H1 (hG _ s1), fin H1 kvs s1 hd ?_⟩
    rwa [← hn, List.take_length] at he
end Sr

set_option Elab.async false
set_option linter.all false
set_option maxRecDepth 100000
set_option maxHeartbeats 4000000
namespace Sr
open PySem PySem.Spec PyProof.Rows L2
/-! ### rules that name the written part, for a comprehension's block -/
section
variable {X : Cx}
theorem op_in_seqK (K : PySem.W.Frag) (hK : X.K = K) : OpR X (compareOp .In) (rIn K false) := hK ▸ op_in_seq
theorem call_isiK' (K : PySem.W.Frag) (hK : X.K = K) : CallR X (.builtin "isinstance") (rIsi K) := hK ▸ call_isi
theorem call_isiTK (K : PySem.W.Frag) (hK : X.K = K) : CallR X (.builtin "isinstance") (rIsiT K) := hK ▸ call_isiT
theorem ix_listK (K : PySem.W.Frag) (hK : X.K = K) : IxR X (rIxL K) := hK ▸ ix_list
theorem ix_tupK (K : PySem.W.Frag) (hK : X.K = K) : IxR X (rIxT K) := hK ▸ ix_tup
theorem call_len_seqK (K : PySem.W.Frag) (hK : X.K = K) : CallR X (.builtin "len") (fun xs H Q => ∃ p ys, xs = [.ref p] ∧ (SqL K H p ys ∨ SqT K H p ys) ∧ Q (.int ys.length) H) := hK ▸ call_len_seq
theorem call_list_ofK (K : PySem.W.Frag) (hK : X.K = K) : CallR X (.type "list") (fun xs H Q => ∃ p ys, xs = [.ref p] ∧ (SqL K H p ys ∨ SqT K H p ys) ∧ ∀ l, H l = none → Q (.ref l) (upd H l (.lst ys))) := hK ▸ call_list_of
theorem call_tuple_ofK (K : PySem.W.Frag) (hK : X.K = K) : CallR X (.type "tuple") (fun xs H Q => ∃ p ys, xs = [.ref p] ∧ ((SqL K H p ys ∧ ∀ l, H l = none → Q (.ref l) (upd H l (.tup ys))) ∨ (SqT K H p ys ∧ Q (.ref p) H))) := hK ▸ call_tuple_of
theorem op_eqDK (K : PySem.W.Frag) (hK : X.K = K) (h : X.A.units + 64 < cLine) : OpR X (compareOp .Eq) (rEqD K) := hK ▸ op_eqD h
theorem op_neDK (K : PySem.W.Frag) (hK : X.K = K) (h : X.A.units + 64 < cLine) : OpR X (compareOp .NotEq) (rNeD K) := hK ▸ op_neD h
end
theorem Paired.at2 {α β : Type} {F : α → β → Prop} : ∀ {l : List α} {m : List β} {i : Nat} {a : α} {b : β}, Paired F l m → l[i]? = some a → m[i]? = some b → F a b
  | _, _, _, _, _, .nil, h, _ => by simp at h
  | _, _, 0, _, _, .cons h _, h1, h2 => by
    simp at h1 h2
    rw [← h1, ← h2]
    exact h
  | _, _, i + 1, a, b, .cons _ r, h1, h2 => Paired.at2 (i := i) (a := a) (b := b) r (by simpa using h1) (by simpa using h2)
end Sr

set_option Elab.async false
set_option linter.all false
set_option maxRecDepth 100000
set_option maxHeartbeats 4000000
namespace Sr
open PySem PySem.Spec PyProof.Rows L2
/-! ### what a law's own steps leave: M is settled for ever, S may change -/
def DrawsO (o : HO) : Prop := ∃ x y z : Int, o = .lst [.int x, .int y, .int z]
def DrawsAt (H : Hp) (a : Addr) : Prop := ∃ o, H a = some o ∧ DrawsO o
structure Grow (S : List Addr) (M H M' H' : Hp) : Prop where
  stp : ∀ b o, b ∉ S → H b = some o → H' b = some o
  there : ∀ b, H b ≠ none → H' b ≠ none
  up : Same M M'
  nw : ∀ b o, M' b = some o → M b = some o ∨ H b = none
  sub : Same M' H'
theorem Grow.refl {S : List Addr} {M H : Hp} (s : Same M H) : Grow S M H M H := ⟨fun _ _ _ e => e, fun _ e => e, Same.refl _, fun _ _ e => .inl e, s⟩
theorem Grow.trans {S : List Addr} {M H M1 H1 M2 H2 : Hp} (g : Grow S M H M1 H1) (g' : Grow S M1 H1 M2 H2) : Grow S M H M2 H2 where
  stp := fun b o hb e => g'.stp b o hb (g.stp b o hb e)
  there := fun b e => g'.there b (g.there b e)
  up := g.up.trans g'.up
  nw := fun b o e => by
    rcases g'.nw b o e with h | h
    · exact g.nw b o h
    · cases q : H b with
      | none => exact .inr rfl
      | some u => exact absurd h (g.there b (by rw [q]; simp))
  sub := g'.sub
theorem Grow.mono {S S' : List Addr} {M H M' H' : Hp} (g : Grow S M H M' H') (h : ∀ b ∈ S, b ∈ S') : Grow S' M H M' H' :=
  ⟨fun b o hb e => g.stp b o (fun z => hb (h b z)) e, g.there, g.up, g.nw, g.sub⟩
/-- an address that stands and is not settled stays unsettled -/
theorem Grow.out {S : List Addr} {M H M' H' : Hp} (g : Grow S M H M' H') {b : Addr} (h1 : M b = none) (h2 : H b ≠ none) : M' b = none := by
  cases q : M' b with
  | none => rfl
  | some o =>
    rcases g.nw b o q with h | h
    · rw [h1] at h; cases h
    · exact absurd h h2
/-- nothing that stood is changed, nothing is settled -/
theorem Grow.same {S : List Addr} {M H H' : Hp} (s : Same M H) (e : Same H H') : Grow S M H M H' :=
  ⟨fun b o _ h => e b o h, fun b h => by
    cases q : H b with
    | none => exact absurd q h
    | some o => rw [e b o q]; simp, Same.refl _, fun _ _ h => .inl h, s.trans e⟩
/-- a new object, settled -/
theorem Grow.lay {S : List Addr} {M H : Hp} {p : Addr} {o : HO} (s : Same M H) (hp : H p = none) : Grow S M H (upd M p o) (upd H p o) := by
  have mp : M p = none := s.free hp
  refine ⟨fun b u _ e => Same.up hp b u e, fun b h => ?_, Same.up mp, fun b u e => ?_, fun b u e => ?_⟩
  · by_cases c : b = p
    · rw [c]; exact absurd hp (c ▸ h)
    · rw [upd_ne c]; exact h
  · by_cases c : b = p
    · rw [c]; exact .inr hp
    · rw [upd_ne c] at e; exact .inl e
  · by_cases c : b = p
    · rw [c] at e ⊢; rw [upd_same] at e ⊢; exact e
    · rw [upd_ne c] at e ⊢; exact s _ _ e
/-- an object that may change is changed -/
theorem Grow.chg {S : List Addr} {M H : Hp} {p : Addr} {o : HO} (s : Same M H) (mp : M p = none) (hS : p ∈ S) : Grow S M H M (upd H p o) :=
  ⟨fun b u hb e => by rw [upd_ne fun z => hb (by rw [z]; exact hS)]; exact e, fun b h => by
    by_cases c : b = p
    · rw [c, upd_same]; simp
    · rw [upd_ne c]; exact h, Same.refl _, fun _ _ h => .inl h, fun b u e => by
    rw [upd_ne fun z => by rw [z, mp] at e; cases e]
    exact s _ _ e⟩
/-- an object of one's own, made since, is changed -/
theorem Grow.own {S : List Addr} {M0 H0 M H : Hp} {p : Addr} {o : HO} (g : Grow S M0 H0 M H) (h0 : H0 p = none) (mp : M p = none) : Grow S M0 H0 M (upd H p o) :=
  ⟨fun b u hb e => by rw [upd_ne (ne_of_none e h0)]; exact g.stp b u hb e, fun b h => by
    by_cases c : b = p
    · rw [c, upd_same]; simp
    · rw [upd_ne c]; exact g.there b h, g.up, g.nw, fun b u e => by
    rw [upd_ne fun z => by rw [z, mp] at e; cases e]
    exact g.sub _ _ e⟩
/-- what was made since is settled from now on -/
theorem Grow.settle {S : List Addr} {M0 H0 M H : Hp} {p : Addr} {o : HO} (g : Grow S M0 H0 M H) (h0 : H0 p = none) (mp : M p = none) (hp : H p = some o) : Grow S M0 H0 (upd M p o) H :=
  ⟨g.stp, g.there, g.up.trans (Same.up mp), fun b u e => by
    by_cases c : b = p
    · rw [c]; exact .inr h0
    · rw [upd_ne c] at e; exact g.nw b u e, fun b u e => by
    by_cases c : b = p
    · rw [c] at e ⊢; rw [upd_same] at e; rw [hp]; exact e
    · rw [upd_ne c] at e; exact g.sub _ _ e⟩
theorem DrawsAt.some {H : Hp} {a : Addr} (d : DrawsAt H a) : H a ≠ none := by
  obtain ⟨o, e, _⟩ := d
  rw [e]
  simp
theorem seq_upd {K : PySem.W.Frag} {H : Hp} {a l : Addr} {o : HO} {xs : List V} (hn : l ≠ a) (h : SqL K H l xs ∨ SqT K H l xs) : SqL K (upd H a o) l xs ∨ SqT K (upd H a o) l xs := by
  have e : upd H a o l = H l := upd_ne hn
  rcases h with h | h
  · left
    rcases h with h | h
    · left
      rcases h with h | ⟨u, h⟩
      · exact .inl (e.trans h)
      · exact .inr ⟨u, e.trans h⟩
    · exact .inr h
  · right
    rcases h with h | h
    · left
      rcases h with h | ⟨u, h⟩
      · exact .inl (e.trans h)
      · exact .inr ⟨u, e.trans h⟩
    · exact .inr h
theorem atI_of {α : Type} {xs : List α} {i : Int} {j : Nat} {v : α} (e : i = (j : Int)) (h : xs[j]? = some v) : atI xs i = some v := by
  have hj : j < xs.length := (List.getElem?_eq_some_iff.mp h).1
  unfold atI ixN
  rw [if_pos (by omega), if_pos (by omega)]
  show xs[i.toNat]? = _
  rw [show i.toNat = j by omega]
  exact h
theorem iteB {b : Bool} {A B : Prop} (h1 : A) (h2 : B) : if b = true then A else B := by
  cases b
  · exact iteF h2
  · exact iteT h1
end Sr

set_option Elab.async false
set_option linter.all false
set_option maxRecDepth 100000
set_option maxHeartbeats 4000000
namespace Sr
open PySem PySem.Spec PyProof.Rows L2 RZ
/-! ### data of a depth, without dicts -/
inductive Dep : Nat → Dt → Prop
  | non (n : Nat) : Dep n .non
  | bl (n : Nat) (b : Bool) : Dep n (.bl b)
  | int (n : Nat) (i : Int) : Dep n (.int i)
  | str (n : Nat) (s : Str) : Dep n (.str s)
  | lst (n : Nat) (l : List Dt) : (∀ d ∈ l, Dep n d) → Dep (n + 1) (.lst l)
  | tup (n : Nat) (l : List Dt) : (∀ d ∈ l, Dep n d) → Dep (n + 1) (.tup l)
theorem kit_more {K : PySem.W.Frag} {t c c2 : Value} {r : List Value} {a b : Bool} (h1 : PySem.W.kitOne K t c = some a) (h2 : PySem.W.kitAny K t (c2 :: r) = some b) : PySem.W.kitAny K t (c :: c2 :: r) = some (a || b) := by
  refine kitAny_cons h1 (fun e => ?_) fun e => ?_
  · rw [e, h2]; rfl
  · rw [e]; rfl
theorem kit_ints (K : PySem.W.Frag) (d : Dt) : PySem.W.kitAny K (.type (tyN d)) [.type "bool", .type "int"] = some (isInt d) := by
  rw [kit_two (kit_bool K d) (kit_int K d)]
  cases d <;> rfl
theorem kit_four (K : PySem.W.Frag) (d : Dt) : PySem.W.kitAny K (.type (tyN d)) [.type "bool", .type "int", .type "list", .type "tuple"] = some (isInt d || isSeq d) := by
  rw [kit_more (kit_bool K d) (kit_more (kit_int K d) (kit_seq K d))]
  cases d <;> rfl
theorem cls_four (a b c d : String) : Paired ClsV [V.ty a, V.ty b, V.ty c, V.ty d] [.type a, .type b, .type c, .type d] := .cons (.ty a) (.cons (.ty b) (.cons (.ty c) (.cons (.ty d) .nil)))
theorem flat_eq {n : Nat} {H : Hp} {v u : V} {d : Dt} (dp : Dep n d) (hq : isSeq d = false) (iv : Is H v d) (iu : Is H u d) : v = u ∧ scal v u = true := by
  cases dp with
  | lst => cases hq
  | tup => cases hq
  | _ => cases iv; cases iu; exact ⟨rfl, rfl⟩
theorem walk_zipT {K : PySem.W.Frag} {a b : Addr} {xs ys : List V} {n : Nat} (hn : n = min xs.length ys.length) : Walk (ItzT K a b) n (fun H => SqT K H a xs ∧ SqT K H b ys) (YPair (fun i => xs[i]?) (fun i => ys[i]?)) := by
  subst hn
  refine ⟨fun i H hi g => ?_, fun H g => ?_, fun i H v H' _ g y => ?_⟩
  · exact ⟨xs, ys, xs[i]'(by omega), ys[i]'(by omega), g.1, g.2, List.getElem?_eq_getElem _, List.getElem?_eq_getElem _⟩
  · exact ⟨xs, ys, g.1, g.2, by omega⟩
  · obtain ⟨T, p, q, y1, y2, y3, y4, y5⟩ := y
    exact ⟨T, p, q, y1, y2, y3, y4 xs g.1, y5 ys g.2⟩
/-- a comprehension of two names over pairs whose elements change nothing that stood -/
theorem lc_pairs {J : It} {n : Nat} {G : Hp → Prop} {xs ys : Nat → Option V} (w : Walk J n G (YPair xs ys)) {K : PySem.W.Frag} {te : TE} {i j : Nat} {σ : L2.St} {H : Hp} {D : Addr} {Qd : Hp → Prop} (hij : i ≠ j)
    (zs : List V) (hn : zs.length = n) (hz : n < sizeLine) (hD : H D = none) (hG : ∀ H', Same H H' → G H')
    (turn : ∀ (k : Nat) (x y z : V) (H1 : Hp) (Q : VK), k < n → xs k = some x → ys k = some y → zs[k]? = some z → Same H H1 → (∀ H2, Same H1 H2 → Q z H2) → te ((wipe σ [i, j]).set i (some x) |>.set j (some y)) H1 Q)
    (fin : ∀ H', Same H H' → H' D = some (.lst zs) → Qd H') :
    ∃ W : Nat → Nat → Hp → Prop, (∃ m, W 0 m (upd H D (.lst []))) ∧ ∀ k m H, W k m H →
      (J.stop k H ∧ Qd H) ∨ (J.go k H ∧ ∃ Nx : Hp → Prop, (∀ H', Nx H' → ∃ m', m' < m ∧ W (k + 1) m' H') ∧ ∀ x H', J.yld k H x H' → (gTup K 2 (gCons (gName i) (gCons (gName j) gNil))) x (wipe σ [i, j]) H' fun σ2 H2 => wipe σ2 [i, j] = wipe σ [i, j] ∧ tYes σ2 H2 fun b H3 =>
        if b = true then te σ2 H3 fun y H4 => ∃ acc, H4 D = some (.lst acc) ∧ acc.length < sizeLine ∧ Nx (upd H4 D (.lst (acc ++ [y]))) else Nx H3) := by
  have below : ∀ {H1 H2 : Hp} {o : HO}, Same H H1 → Same H1 H2 → Same H (upd H2 D o) := fun {H1 H2 o} p q c u e => by
    rw [upd_ne (ne_of_none e hD)]
    exact q _ _ (p _ _ e)
  refine lc_it w (fun k H' => Same H H' ∧ H' D = some (.lst (zs.take k))) ⟨Same.up hD, by rw [upd_same]; simp⟩ (fun k H' _ p => hG H' p.1) (fun k v H1 H2 hk p y => ?_) fun H' p => fin H' p.1 (by rw [p.2, ← hn, List.take_length])
  obtain ⟨T, x, y, rfl, hT, rfl, hx, hy⟩ := y
  refine ⟨T, [x, y], rfl, SqT.of upd_same, rfl, ?_⟩
  have s2 : Same H1 _ := Same.up (o := .tup [x, y]) hT
  refine ⟨x, [y], rfl, y, [], rfl, rfl, ?_, ?_⟩
  · show ((((((σ.set j none).set i none).set i (some x)).set j (some y)).set j none).set i none) = (σ.set j none).set i none
    rw [List.set_set, List.set_set, List.set_comm _ _ hij, List.set_set, List.set_set]
  · unfold tYes
    simp only [if_true]
    have hk' : k < zs.length := by omega
    refine turn k x y zs[k] _ _ hk hx hy (List.getElem?_eq_getElem hk') (p.1.trans s2) fun H3 s3 => ?_
    refine ⟨_, s3 _ _ (s2 _ _ p.2), by rw [List.length_take]; omega, below (p.1.trans s2) s3, ?_⟩
    rw [upd_same, List.take_add_one, List.getElem?_eq_getElem hk']
    rfl
end Sr

set_option Elab.async false
set_option linter.all false
set_option maxRecDepth 100000
set_option maxHeartbeats 4000000
namespace Sr
open PySem PySem.Spec PyProof.Rows L2
/-! ### sorted(d) where the keys are pairs of texts -/
def pk (p : Str × Str) : List Key := [Sum.inr p.1, Sum.inr p.2]
def encP (p : Str × Str) : PyData := .tuple [.str p.1, .str p.2]
def pSort (l : List (Str × Str)) : List (Str × Str) := l.mergeSort (PySem.W.dataLe false encP)
theorem pSort_perm (l : List (Str × Str)) : (pSort l).Perm l := List.mergeSort_perm _ _
theorem encP_alike (p q : Str × Str) : PySem.W.alike (encP p) (encP q) = true := by simp [encP, PySem.W.alike, PySem.W.alikeAll]
theorem encP_depth (p : Str × Str) : (encP p).depth ≤ 2 := by
  show PyData.depth (.tuple [.str p.1, .str p.2]) ≤ 2
  simp [PyData.depth, PyData.depthAll]
theorem reads_pair {P : Program} {w : World} {H : Hp} {h : Heap} {q : Addr} {p : Str × Str} (hok : HOk P w H h) (hq : H q = some (.tup [.str p.1, .str p.2])) : PySem.Reads h (.ref q) (encP p) [] := by
  obtain ⟨_, its, rv, o, ho, hc, n, hd⟩ := hok q _ hq
  obtain ⟨a, t1, rfl, r1, t2⟩ := (show ∃ a t, its = a :: t ∧ RelV (.str p.1) a ∧ Vals [.str p.2] t from by cases rv with | cons h1 h2 => exact ⟨_, _, rfl, h1, h2⟩)
  obtain ⟨b, t3, rfl, r2, t4⟩ := (show ∃ a t, t1 = a :: t ∧ RelV (.str p.2) a ∧ Vals [] t from by cases t2 with | cons h1 h2 => exact ⟨_, _, rfl, h1, h2⟩)
  cases t4
  obtain ⟨u1, rfl⟩ := r1
  obtain ⟨u2, rfl⟩ := r2
  exact .tuple ho hc hd (.cons (as := []) (.str _ _) (.cons (as := []) (.str _ _) .nil))
def AtP (H : Hp) (q : Addr) (p : Str × Str) : Prop := H q = some (.tup [.str p.1, .str p.2])
theorem each_paired {α β : Type} {R : α → β → Prop} : ∀ {l : List α} {m : List β}, PySem.W.EachIs R l m → Paired R l m
  | _, _, .nil => .nil
  | _, _, .cons h t => .cons h (each_paired t)
theorem each_of {H : Hp} : ∀ {kvs : List (List Key × V)} {ks : List (List Key × Addr × Value)} {bs : List (Str × Str)}, Paired (fun (p : List Key × V) (q : List Key × Addr × Value) => p.1 = q.1 ∧ H q.2.1 = some (.tup (p.1.map kV)) ∧ RelV p.2 q.2.2) kvs ks →
    kvs.map (·.1) = bs.map pk → PySem.W.EachIs (fun v b => ∃ q, v = Value.ref q ∧ AtP H q b) (ks.map fun x => Value.ref x.2.1) bs
  | _, _, [], .nil, _ => .nil
  | _, _, _ :: _, .nil, h => by cases h
  | _, _, [], .cons _ _, h => by cases h
  | _, _, b :: bs, .cons h1 h2, h => by
    rw [List.map_cons, List.map_cons] at h
    obtain ⟨e1, e2⟩ := List.cons.inj h
    refine .cons ⟨_, rfl, ?_⟩ (each_of h2 e2)
    have h3 := h1.2.1
    rw [e1] at h3
    exact h3
theorem vals_of_each {H : Hp} : ∀ {vs : List Value} {bs : List (Str × Str)}, PySem.W.EachIs (fun v b => ∃ q, v = Value.ref q ∧ AtP H q b) vs bs → ∃ qs : List Addr, vs = qs.map Value.ref ∧ Vals (qs.map V.ref) vs ∧ Paired (AtP H) qs bs
  | _, _, .nil => ⟨[], rfl, .nil, .nil⟩
  | _, _, .cons ⟨q, e, h⟩ t => by
    obtain ⟨qs, e1, e2, e3⟩ := vals_of_each t
    exact ⟨q :: qs, by rw [e, e1]; rfl, by rw [e]; exact .cons rfl e2, .cons h e3⟩
section
variable {X : Cx}
theorem call_sortedDT (hcalm : X.calm = true) (hu : X.A.units + 64 < cLine) : CallR X (.builtin "sorted") (fun xs H Q => ∃ (a : Addr) (kvs : List (List Key × V)) (bs : List (Str × Str)), xs = [.ref a] ∧ Rd H a (.dT kvs) ∧ kvs.map (·.1) = bs.map pk ∧ bs.length ≤ 1000 ∧
    ∀ qs p, Paired (AtP H) qs (pSort bs) → H p = none → Q (.ref p) (upd H p (.lst (qs.map V.ref)))) := by
  intro pins s σ H xs us Q I r q
  obtain ⟨a, kvs, bs, ex, hd, hks, hz, q⟩ := q
  subst ex
  obtain ⟨u, eu, rx⟩ := vals1 r
  subst eu
  cases rx
  obtain ⟨z, hs, ks, pr, o, es, ep, ho, hx, hdt, he, hn⟩ := (show ObjOk X.prog X.w H s.heap a (.dT kvs) from hd.ok I.hok)
  have l1 : es.size = ks.length := size_of_entries he
  have l2 : kvs.length = ks.length := Paired.length pr
  have l3 : kvs.length = bs.length := by
    have e := congrArg List.length hks
    rwa [List.length_map, List.length_map] at e
  have h16 : es.size ≤ sizeLine := by rw [l1, ← l2, l3, sizeLine_eq]; omega
  refine Calls.call_function_entry PyProof.Rows.kind_sorted PyProof.Rows.plain_sorted PyProof.Rows.entry_sorted (PyProof.Rows.args_sorted1 _) ?_
  unfold Builtin.«sorted»
  refine wpAny_bind (m := checkCount "sorted" 1 1 _) (wpAny_pure ?_)
  refine wpAny_bind (PySem.W.kdu_collect (A := X.A.in1) (kdl_raw hs hx hdt) (I.ok.hd hcalm) ho h16 fun h' tk acc hk hacc => ?_)
  have ea : acc.toList = ks.map fun x => Value.ref x.2.1 := by
    have hl : acc.toList.length = ks.length := by rw [Array.length_toList, hacc.1]; exact l1
    apply List.ext_getElem?
    intro j
    rw [List.getElem?_map]
    cases hj : acc.toList[j]? with
    | none =>
      have h1 := List.getElem?_eq_none_iff.mp hj
      rw [List.getElem?_eq_none (by omega)]
      rfl
    | some v =>
      obtain ⟨en, hen, hv⟩ := hacc.2 j v (by rw [← Array.getElem?_toList]; exact hj)
      have qe := entry_at he j
      rw [hen] at qe
      cases hb : ks[j]? with
      | none =>
        rw [hb] at qe
        exact nomatch (show some en = none from qe)
      | some b =>
        rw [hb] at qe
        have e2 : en = entryOfKey (tupleKind (mixKind X.prog X.w)) b := Option.some.inj qe
        rw [hv, e2]
        rfl
  have e0 : PySem.W.EachIs (fun v b => ∃ q, v = Value.ref q ∧ AtP H q b) acc.toList bs := by rw [ea]; exact each_of pr hks
  have I1 : Inv X pins σ H { s with heap := h', toks := tk } := I.kept hk
  have hal : acc.toList.length = bs.length := e0.length
  refine wpAny_bind (wpAny_newList ?_ (by rw [hal, sizeLine_eq]; omega))
  have hoL : (h'.push (seqObj "list" acc.toList.toArray 0)).get? h'.objs.size = some (seqObj "list" acc.toList.toArray 0) := Heap.get?_push_size _ rfl
  show wpAny _ _ _ _ _ { s with heap := h'.push (seqObj "list" acc.toList.toArray 0), toks := tk }
  have k2 : ∀ b o, h'.get? b = some o → (h'.push (seqObj "list" acc.toList.toArray 0)).get? b = some o := fun b o e => Heap.get?_push_of_some _ e
  have hok2 : HOk X.prog X.w H (h'.push (seqObj "list" acc.toList.toArray 0)) := I1.hok.kept k2
  have er : PySem.W.EachIs (fun v b => ∃ as, Reads (h'.push (seqObj "list" acc.toList.toArray 0)) v (encP b) as ∧ h'.objs.size ∉ as) acc.toList bs := e0.mono fun v b ⟨q, e, h⟩ => ⟨[], by rw [e]; exact reads_pair hok2 h, by simp⟩
  refine wpAny_bind (wpAny_holding (PySem.W.list_sort_data (s := { s with heap := h'.push (seqObj "list" acc.toList.toArray 0), toks := tk }) (enc := encP) hoL e0 er (PySem.W.AllAlike.of encP_alike) (PySem.W.Sortable.tuples fun b => ⟨_, _, rfl⟩) (by rw [sizeLine_eq]; omega) (fun b _ => ?_) fun out hlen eo => ?_))
  · have := encP_depth b
    simp only [Around.in1_units]
    omega
  obtain ⟨qs, e1, e2, e3⟩ := vals_of_each eo
  obtain ⟨e', he'⟩ := PyProof.Rows.sortedHeap_at (vs := acc.toList) (out := out.toArray) hoL
  have hlen2 : (qs.map V.ref).length ≤ sizeLine := by
    rw [e2.length, hlen, sizeLine_eq]
    omega
  refine wpAny_pure ⟨_, rfl, .ref h'.objs.size, upd H h'.objs.size (.lst (qs.map V.ref)), I1.laid (t' := tk) (fun b u e => ?_) (Nat.le_refl _)
    (show ObjOk X.prog X.w _ _ _ (.lst (qs.map V.ref)) from ⟨hlen2, out, e', e2, he'⟩), rfl, q qs _ e3 (I1.hok.fresh (Nat.le_refl _))⟩
  have hb : b < h'.objs.size := Heap.lt_size e
  rw [PyProof.Rows.sortedHeap_old (Nat.ne_of_lt hb) (by rw [size_push']; exact Nat.lt_succ_of_lt hb)]
  exact Heap.get?_push_of_some _ e
/-! ### dict(pairs) where the keys are tuples, all unlike -/
theorem tupPairs_of {pins : List (Addr × Obj)} {σ : L2.St} {H : Hp} {s : Shared} (I : Inv X pins σ H s) : ∀ {ts : List Addr} {kvs : List (List Key × V)}, Paired (fun t kv => ∃ q, SqT X.K H t [.ref q, kv.2] ∧ H q = some (.tup (kv.1.map kV))) ts kvs →
    ∃ xs : List (List Key × Addr × Value), KT H kvs xs ∧ xs.length = ts.length ∧ ∀ (j : Nat) (x : List Key × Addr × Value), xs[j]? = some x → ∃ t, ts[j]? = some t ∧ IsTup s.heap t #[.ref x.2.1, x.2.2] ∧ H x.2.1 = some (.tup (x.1.map kV))
  | _, _, .nil => ⟨[], .nil, rfl, fun j q e => by simp at e⟩
  | _, _, .cons (a := t) (b := kv) h r => by
    obtain ⟨xs, r1, hl, hp⟩ := tupPairs_of I r
    obtain ⟨q, hq, hk⟩ := h
    obtain ⟨its, rv, ht, _⟩ := I.tuple hq
    obtain ⟨u, y, ei, ru, ry⟩ := vals2 rv
    subst ei
    obtain rfl : u = Value.ref q := ru
    refine ⟨(kv.1, q, y) :: xs, .cons ⟨rfl, hk, ry⟩ r1, by rw [List.length_cons, List.length_cons, hl], fun j x e => ?_⟩
    cases j with
    | zero =>
      obtain rfl : (kv.1, q, y) = x := Option.some.inj e
      exact ⟨t, rfl, ht, hk⟩
    | succ j =>
      obtain ⟨t', e1, e2⟩ := hp j x (by simpa using e)
      exact ⟨t', by simpa using e1, e2⟩
theorem stored_snoc : ∀ (ps acc : List (List Key × Addr × Value)), ((acc ++ ps).map (·.1)).Nodup → PySem.storedAllH acc ps = acc ++ ps
  | [], acc, _ => by simp [PySem.storedAllH]
  | p :: r, acc, h => by
    have e : PySem.storedH acc p.1 p.2.1 p.2.2 = acc ++ [p] := by
      refine PySem.storedH_new ?_ _ _
      have nm : p.1 ∉ acc.map (·.1) := by
        rw [List.map_append, List.map_cons] at h
        intro m
        exact (List.nodup_append.mp h).2.2 _ m _ List.mem_cons_self rfl
      unfold PySem.atKey
      rw [List.find?_eq_none.mpr]
      · rfl
      · intro x hx e
        exact nm (List.mem_map.mpr ⟨x, hx, of_decide_eq_true e⟩)
    have h2 : ((acc ++ [p] ++ r).map (·.1)).Nodup := by simpa using h
    have e2 := stored_snoc r (acc ++ [p]) h2
    show PySem.storedAllH (PySem.storedH acc p.1 p.2.1 p.2.2) r = _
    rw [e, e2]
    simp
theorem keys_eq {H : Hp} : ∀ {kvs : List (List Key × V)} {xs : List (List Key × Addr × Value)}, KT H kvs xs → kvs.map (·.1) = xs.map (·.1)
  | _, _, .nil => rfl
  | _, _, .cons h t => by rw [List.map_cons, List.map_cons, h.1, keys_eq t]
theorem call_dictPT (hcalm : X.calm = true) (hu : X.A.units + 64 < cLine) : CallR X (.type "dict") (fun xs H Q => ∃ (a : Addr) (ts : List Addr) (kvs : List (List Key × V)), xs = [.ref a] ∧ SqL X.K H a (ts.map V.ref) ∧ Paired (fun t kv => ∃ q, SqT X.K H t [.ref q, kv.2] ∧ H q = some (.tup (kv.1.map kV))) ts kvs ∧
    (kvs.map (·.1)).Nodup ∧ ∀ p, H p = none → Q (.ref p) (upd H p (.dT kvs))) := by
  intro pins s σ H xs us Q I r q
  obtain ⟨a, ts, kvs, ex, hq, hp, nd, q⟩ := q
  subst ex
  obtain ⟨u, eu, rx⟩ := vals1 r
  subst eu
  cases rx
  obtain ⟨its, rv, pl, hz⟩ := I.list hq
  have ei := refs_at rv
  subst ei
  rw [List.length_map] at hz
  obtain ⟨ps, kt, hl, hpr⟩ := tupPairs_of I hp
  obtain ⟨o, n, ho, hc, hd, hdat⟩ := pl
  have len2 : (ps.map fun x => (Value.ref x.2.1, x.2.2)).length = ts.length := by rw [List.length_map, hl]
  have P := PairArg.list (prog := X.prog) (w := X.w) a (ts.map Value.ref).toArray (fun j => ts.getD j 0) (ps.map fun x => (Value.ref x.2.1, x.2.2))
  refine call_dict_pairsH (knd := tupleKind (mixKind X.prog X.w)) (ps := ps) P (I.ok.hd hcalm) (by show _ + 1 < cLine; simp only [Around.in1_units]; omega) ⟨⟨o, n, ho, hc, hd, hdat⟩, by simp [hl], fun j k v e => ?_⟩ ⟨by simp, fun i k v e => ?_⟩ (fun h' hk x hx => ?_) (by rw [len2]; exact hz) fun h' tk hd' hk => ?_
  · rw [List.getElem?_map] at e
    obtain ⟨x, hx, e⟩ := Option.map_eq_some_iff.mp e
    obtain ⟨t, e1, e2, e3⟩ := hpr j x hx
    cases e
    have g : ts.getD j 0 = t := by rw [List.getD_eq_getElem?_getD, e1]; rfl
    exact ⟨by simp [e1], .inl (by show IsTup s.heap (ts.getD j 0) _; rw [g]; exact e2)⟩
  · have e : (ps.map fun x => (Value.ref x.2.1, x.2.2))[i]? = some (k, v) := e
    rw [List.getElem?_map] at e
    obtain ⟨x, hx, e⟩ := Option.map_eq_some_iff.mp e
    cases e
    exact ⟨x.1, x.2.1, hx, rfl⟩
  · obtain ⟨j, hj⟩ := List.mem_iff_getElem?.mp hx
    obtain ⟨t, e1, e2, e3⟩ := hpr j x hj
    have k0 := key_of (P := X.prog) (w := X.w) I.hok e3
    obtain ⟨o', items, n', g1, g2⟩ := k0
    exact ⟨o', items, n', hk _ _ (Nat.ne_of_lt (Heap.lt_size g1)) (by simp) g1, g2⟩
  · have hm : (s.heap.objs.size == sysModules) = false := beq_eq_false_iff_ne.mpr (Nat.ne_of_gt I.big)
    have nd2 : (ps.map (·.1)).Nodup := by rw [← keys_eq kt]; exact nd
    rw [stored_snoc ps [] (by simpa using nd2)] at hd'
    obtain ⟨o', es, ep, g1, g2, g3, g4, g5, g6⟩ := hd'
    have hlen : kvs.length ≤ sizeLine := by rw [Paired.length kt, hl]; exact hz
    have keep : ∀ b o, s.heap.get? b = some o → h'.get? b = some o := fun b o e => hk b o (by simp) e
    refine ⟨.ref s.heap.objs.size, upd H s.heap.objs.size (.dT kvs), I.laid (t' := tk) keep (Nat.le_refl _) (show ObjOk X.prog X.w _ _ _ (.dT kvs) from ⟨hlen, hm, ps, kt.keeps fun b ys e => ?_, o', es, ep, g1, g2, g3, g4, g6⟩), rfl, q _ (I.hok.fresh (Nat.le_refl _))⟩
    first
      | exact e
      | (rw [upd_ne (ne_of_none e (I.hok.fresh (Nat.le_refl _)))]; exact e)
end
end Sr

set_option Elab.async false
set_option linter.all false
set_option maxRecDepth 100000
set_option maxHeartbeats 4000000
namespace Sr
open PySem PySem.Spec PyProof.Rows L2
/-! ### several except clauses, each with a name for the error -/
abbrev Su := Addr → Value → Option Addr → TS
/-- a clause: the class, the slot of the name, what the suite does -/
abbrev Clause := Value × Nat × Su
/-- the ends of a suite: the name goes -/
def gone (i : Nat) (D : Ends) : Ends where
  nx := fun σ H => D.nx (σ.set i none) H
  rt := D.rt
  bk := fun σ H => D.bk (σ.set i none) H
  ct := fun σ H => D.ct (σ.set i none) H
def wNamed (K : PySem.W.Frag) (Wout : WX) (D : Ends) : List Clause → WX
  | [] => Wout
  | k :: r => fun cls d σ H => ∃ hit, PySem.W.exmOne K cls k.1 = some hit ∧
      (if hit = true then ∀ a, H a = none → k.2.2 a cls d (gone k.2.1 D) (σ.set k.2.1 (some (.ref a))) H else wNamed K Wout D r cls d σ H)
structure ClauseOk (X : Cx) (h : ExceptHandler) (k : Clause) : Prop where
  is_ : ∃ (x n : Str) (b₀ : Stmt) (rest : List Stmt) (p q : Pos), h = .ExceptHandler (some (.Name x p)) (some n) (b₀ :: rest) q ∧ Names X x k.1 ∧ X.N[k.2.1]? = some n ∧ X.env.kindOf n = some .local ∧
    ∀ (a : Addr) (oe : Obj) (cls : Value) (d : Option Addr) (pn : List (Addr × Obj)), Zc cls d oe → (∃ vs, oe.data = .fields vs) → PSs (X.suite a ((a, oe) :: pn)) (b₀ :: rest) (k.2.2 a cls d)
/-- an error has been caught: what stood stays, the error flies no more -/
def Fell (X : Cx) (pins : List (Addr × Obj)) (σ : L2.St) (H : Hp) (B : Heap) (a : Addr) (cls : Value) (d : Option Addr) (t : Shared) : Prop :=
  ∃ sI : Shared, Inv X pins σ H sI ∧ (∀ b o, sI.heap.get? b = some o → b ∉ frs X.stack → B.get? b = some o) ∧ sI.heap.UpToSlots t.heap ∧
    HandSPX.FlyingZ B (X.env :: X.outer) a (Zc cls d) t.heap ∧ H a = none ∧ t.os = sI.os ∧ AllBare t.gens
section
variable {X : Cx} {pins : List (Addr × Obj)} {σ : L2.St} {H : Hp} {B : Heap} {a : Addr} {cls : Value} {d : Option Addr} {t : Shared}
theorem Fell.inv (f : Fell X pins σ H B a cls d t) : Inv X pins σ H t := by
  obtain ⟨sI, I, nb, up, fl, _, os, ag⟩ := f
  exact I.landed nb fl.1 up os ag
theorem Fell.again (f : Fell X pins σ H B a cls d t) {h' : Heap} (fl' : HandSPX.FlyingZ B (X.env :: X.outer) a (Zc cls d) h') (up' : t.heap.UpToSlots h') : Fell X pins σ H B a cls d { t with heap := h' } := by
  obtain ⟨sI, I, nb, up, _, na, os, ag⟩ := f
  exact ⟨sI, I, nb, up.trans up', fl', na, os, ag⟩
theorem Fell.stands (f : Fell X pins σ H B a cls d t) (hf : X.env.frame = some X.env.locals) :
    ∃ oe, t.heap.get? a = some oe ∧ Zc cls d oe ∧ (∃ vs, oe.data = .fields vs) ∧ Inv (X.suite a ((a, oe) :: (X.pn ++ pins))) [] σ H t := by
  have J := f.inv
  obtain ⟨sI, I, nb, up, fl, na, os, ag⟩ := f
  obtain ⟨oe, vs, e, z, dd⟩ := fl.there
  have out : a ∉ frs (X.env :: X.outer) := fun m => by
    obtain ⟨_, o2, e2, nf⟩ := fl.2.2.1.mem m
    rw [e] at e2
    cases e2
    exact nf vs dd
  have o1 : a ≠ X.env.locals := fun z => out (List.mem_filterMap.mpr ⟨_, List.mem_cons_self, z ▸ hf⟩)
  have o2 : a ∉ X.fs := fun m => by
    obtain ⟨v, mv, ev⟩ := List.mem_filterMap.mp m
    exact out (List.mem_filterMap.mpr ⟨v, List.mem_cons_of_mem _ mv, ev⟩)
  exact ⟨oe, e, z, ⟨vs, dd⟩, J.suite e dd na o1 o2⟩
/-- no clause fits: the error flies on -/
theorem Fell.on (f : Fell X pins σ H B a cls d t) (hs : X.stack = X.env :: X.outer) (hf : X.env.frame = some X.env.locals) {Wout : WX} {D : Ends} (tk : Takes X Wout) (w : Wout cls d σ H) :
    wpAny (model X.prog X.w) X.A (handleBy (.ref a) X.env []) (SP X pins D) X.xe t := by
  obtain ⟨sI, I, nb, up, fl, na, os, ag⟩ := f
  obtain ⟨_, _, _, oe, vs, T, oT, ts, e, z, dd, v1, _⟩ := id fl
  have leaves : wpAny (model X.prog X.w) X.A (setFlight (.ref a) X.env.frame) (fun _ u => wpAny (model X.prog X.w) X.A (throw (.ref a) : Sem Flow) (SP X pins D) X.xe u) X.xe t := by
    rw [hf]
    exact HandSPX.setFlight_upZ fl fun h' held up' => wpAny_throw (tk _ _ ⟨a, B, sI, pins, σ, H, cls, d, rfl, I, nb, up.trans up', .inr (.inr (hs ▸ held)), na, os, ag, w⟩)
  refine wpAny_handleBy_nil ?_
  unfold PySem.passOn
  refine wpAny_bind (wpAny_field e dd v1 ?_)
  have no : ¬ ((Value.ref T == Value.none) = true) := by simp
  rw [if_neg no]
  first
    | exact wpAny_bind leaves
    | exact wpAny_bind (wpAny_pure (wpAny_bind leaves))
theorem Fell.cls_ (f : Fell X pins σ H B a cls d t) (hf : X.env.frame = some X.env.locals) {x : Str} {c : Value} {np : Pos} (hc : Names X x c) {Q : Value → Shared → Prop} {E : Value → Shared → Prop} (q : Q c t) :
    wpAny (model X.prog X.w) (X.A.mark (some (.ref a))) (eval (.Name x np) X.env) Q E t := by
  obtain ⟨oe, _, _, _, S⟩ := f.stands hf
  obtain ⟨g, nd, c1 | ⟨c1, c2, c3⟩⟩ := hc
  · exact ld_glob (X := X.suite a _) S g c1 q nd
  · exact ld_blt (X := X.suite a _) S g c1 c2 q c3 nd
theorem Fell.go {Wout : WX} {D : Ends} (hs : X.stack = X.env :: X.outer) (hf : X.env.frame = some X.env.locals) (hN : X.N.Nodup) (tk : Takes X Wout) : ∀ {hds : List ExceptHandler} {l : List Clause}, Paired (ClauseOk X) hds l → ∀ {t : Shared}, Fell X pins σ H B a cls d t →
    wNamed X.K Wout D l cls d σ H → wpAny (model X.prog X.w) X.A (handleBy (.ref a) X.env hds) (SP X pins D) X.xe t
  | _, _, .nil, _, f, w => f.on hs hf tk w
  | _, _, .cons hk r, t, f, w => by
    obtain ⟨x, n, b₀, rest, p, p', rfl, hc, hi, hl, body⟩ := hk.is_
    obtain ⟨hit, e1, w⟩ := w
    obtain ⟨oe, e, z, _, _⟩ := f.stands hf
    have looks : PySem.W.Looks (model X.prog X.w) t.heap (typeOf (.ref a)) cls := fun _ _ _ _ k q => wpAny_typeOf_ref (k _ _ e) (by rw [z.1]; exact q)
    have fits := PySem.W.exm_one (M := model X.prog X.w) f.inv.kIn looks e1
    refine wpAny_handleBy_cons (codeAny_handlers_test (f.cls_ hf hc (fits.here ?_))) fun q => by cases q
    cases hit with
    | false => exact Fell.go hs hf hN tk r f w
    | true =>
      refine codeAny_handlers_suite_as (HandSPX.lands_againZ (by obtain ⟨_, _, _, _, fl, _⟩ := f; exact fl) fun h' fl' up' => ?_)
      have f' := f.again fl' up'
      obtain ⟨oe2, _, z2, dd2, S⟩ := f'.stands hf
      have na : H a = none := by obtain ⟨_, _, _, _, _, na, _⟩ := f; exact na
      refine store_ok (X := X.suite a _) (v := .ref a) S hN hi (.inl hl) rfl (fun s5 S5 => ?_) (.inr hl)
      refine wpAny_mono ((body a oe2 cls d _ z2 dd2).run [] s5 _ H (gone _ D) S5 (w a na)) (fun fl s6 sp => ?_) fun _ _ z => z.elim
      have off : ∀ {σ6 : L2.St} {H6 : Hp} {Q : Shared → Prop}, Inv (X.suite a ((a, oe2) :: (X.pn ++ pins))) [] σ6 H6 s6 → (∀ s7, Inv X pins (σ6.set _ none) H6 s7 → Q s7) →
          wpAny (model X.prog X.w) X.A (do bindName X.env n .none; unbindBehindTheSuite X.env n p') (fun _ s7 => Q s7) X.xe s6 := fun S6 hq => gone_ok (S6.unsuite f.inv.ok) hN hi hl hq
      cases fl with
      | ret u =>
        obtain ⟨v6, _, _, S6, r6, q6⟩ := sp
        exact off S6 fun _ J => ⟨v6, _, _, J, r6, q6⟩
      | next => exact sp.elim fun _ y => y.elim fun _ y => off y.1 fun _ J => ⟨_, _, J, y.2⟩
      | brk => exact sp.elim fun _ y => y.elim fun _ y => off y.1 fun _ J => ⟨_, _, J, y.2⟩
      | cont => exact sp.elim fun _ y => y.elim fun _ y => off y.1 fun _ J => ⟨_, _, J, y.2⟩
end
/-- try: body, except x as n: .. except y as m: .. -/
theorem ps_try_named {X : Cx} {body : List Stmt} {h₀ : ExceptHandler} {hds : List ExceptHandler} {l : List Clause} {pos : Pos} {tb : WX → TS} {Wout : WX} (hs : X.stack = X.env :: X.outer) (hf : X.env.frame = some X.env.locals) (hN : X.N.Nodup) (tk : Takes X Wout)
    (hb : ∀ (W : WX) (pn : List (Addr × Obj)) (xe : Value → Shared → Prop), Takes (X.tr pn xe) W → PassesOwn (model X.prog X.w) X.A X.env xe → PSs (X.tr pn xe) body (tb W)) (hk : Paired (ClauseOk X) (h₀ :: hds) l) :
    PS X (.Try body (h₀ :: hds) [] [] pos) (fun D σ H => tb (wNamed X.K Wout D l) D σ H) := by
  refine ⟨fun pins s σ H D I h => wpAny_Try_except ?_⟩
  let xt : Value → Shared → Prop := fun e s₁ => wpAny (model X.prog X.w) X.A (noteFrame e X.env) (fun _ s₂ => wpAny (model X.prog X.w) X.A (setFlight e none)
    (fun _ s₃ => wpAny (model X.prog X.w) X.A (handleBy e X.env (h₀ :: hds)) (SP X pins D) X.xe s₃) X.xe s₂) X.xe s₁
  have takes : Takes (X.tr (X.pn ++ pins) xt) (wNamed X.K Wout D l) := fun u s' y => by
    obtain ⟨a, B, sI, pins', σ', H', cls, d, rfl, J', nb, up, sky, na, os, ag, w⟩ := y
    have hfr : X.A.frames = some (X.env :: X.outer) := I.ok.frames.trans (congrArg some hs)
    exact Sky.land Zc.steady hfr hf (hs ▸ sky) fun h3 fl3 up3 => Fell.go hs hf hN tk hk ⟨sI, J'.ofTry I.ok, nb, up.trans up3, fl3, na, os, ag⟩ w
  refine wpAny_mono ((hb _ _ xt takes PassesOwn.looking).run [] s σ H D (I.toTry _) h) (fun f s1 sp => ?_) fun _ _ he => he
  cases f with
  | ret u =>
    obtain ⟨v, _, _, J, r, q⟩ := sp
    exact ⟨v, _, _, J.ofTry I.ok, r, q⟩
  | next => exact sp.elim fun _ y => y.elim fun _ y => wpAny_execs_nil ⟨_, _, y.1.ofTry I.ok, y.2⟩
  | brk => exact sp.elim fun _ y => y.elim fun _ y => ⟨_, _, y.1.ofTry I.ok, y.2⟩
  | cont => exact sp.elim fun _ y => y.elim fun _ y => ⟨_, _, y.1.ofTry I.ok, y.2⟩
end Sr

set_option Elab.async false
set_option linter.all false
set_option maxRecDepth 100000
set_option maxHeartbeats 4000000
namespace Sr
open PySem PySem.Spec PyProof.Rows L2
/-! ### own errors below ValueError, at any depth of classes, with an own __init__ -/
def errSl (sl : Array (Option Value)) : Bool := match sl.toList with
  | [_, _, _, _, some (.builtin n), _] => decide (n = "ValueError.__new__")
  | _ => false
def errCl (C : Addr) (k : ClassData) : Bool := match k.mro with
  | .ref c :: r => decide (c = C) && (PySem.HandSPX.refsVE r && (k.hasDict && !k.hasDel))
  | _ => false
def errB (K : PySem.W.Frag) (C : Addr) : Bool := match K.lookup C with
  | some ⟨.type t, _, .cls k, sl⟩ => decide (t = "type") && (errCl C k && errSl sl)
  | _ => false
theorem errSl_ok {sl : Array (Option Value)} (h : errSl sl = true) : ∃ k0 k1 k2 k3 k5, sl = #[k0, k1, k2, k3, some (.builtin "ValueError.__new__"), k5] := by
  obtain ⟨l⟩ := sl
  unfold errSl at h
  match l, h with
  | [k0, k1, k2, k3, some (.builtin n), k5], h =>
    obtain rfl : n = "ValueError.__new__" := of_decide_eq_true h
    exact ⟨k0, k1, k2, k3, k5, rfl⟩
theorem errCl_ok {C : Addr} {k : ClassData} (h : errCl C k = true) : ∃ bm, k.mro = .ref C :: bm ∧ PySem.HandSPX.refsVE bm = true ∧ k.hasDict = true ∧ k.hasDel = false := by
  unfold errCl at h
  cases e : k.mro with
  | nil => rw [e] at h; cases h
  | cons c r =>
    rw [e] at h
    cases c with
    | ref c =>
      have h' : (decide (c = C) && (PySem.HandSPX.refsVE r && (k.hasDict && !k.hasDel))) = true := h
      obtain ⟨a1, a2⟩ := Bool.and_eq_true_iff.mp h'
      obtain ⟨a2, a3⟩ := Bool.and_eq_true_iff.mp a2
      obtain ⟨a3, a4⟩ := Bool.and_eq_true_iff.mp a3
      obtain rfl : c = C := of_decide_eq_true a1
      exact ⟨r, rfl, a2, a3, by simpa using a4⟩
    | _ => cases h
theorem errB_ok {K : PySem.W.Frag} {C : Addr} (h : errB K C = true) : ∃ nm q N bs bm sn sub ab col dd k0 k1 k2 k3 k5,
    K.lookup C = some (excClassObj nm q C N bs bm true sn sub ab col dd k0 k1 k2 k3 k5 "ValueError.__new__") ∧ PySem.HandSPX.refsVE bm = true := by
  unfold errB at h
  cases e : K.lookup C with
  | none => rw [e] at h; cases h
  | some o =>
    rw [e] at h
    obtain ⟨oc, od, dt, sl⟩ := o
    cases oc with
    | type t =>
      cases dt with
      | cls k =>
        have h' : (decide (t = "type") && (errCl C k && errSl sl)) = true := h
        obtain ⟨h1, h2⟩ := Bool.and_eq_true_iff.mp h'
        obtain ⟨h4, h5⟩ := Bool.and_eq_true_iff.mp h2
        obtain ⟨bm, m1, m2, m3, m4⟩ := errCl_ok h4
        obtain rfl : t = "type" := of_decide_eq_true h1
        obtain ⟨k0, k1, k2, k3, k5, rfl⟩ := errSl_ok h5
        obtain ⟨nm, bs, mro, N, q, hd, sn, sub, ab, col, del⟩ := k
        obtain rfl : mro = .ref C :: bm := m1
        obtain rfl : hd = true := m3
        obtain rfl : del = false := m4
        exact ⟨nm, q, N, bs, bm, sn, sub, ab, col, od, k0, k1, k2, k3, k5, rfl, m2⟩
      | _ => cases h
    | _ => cases h
/-- all that an own error's class must be, as one look -/
def errAll (K : PySem.W.Frag) (C f : Addr) (at_ : Str) : Bool := errB K C && (decide (PySem.W.findIn K (.ref C) "__setattr__" = some (some (.builtin "object.__setattr__"))) && (decide (PySem.W.subIn K (.ref C) (.type "BaseException") = some true) &&
  (decide (PySem.W.typeIn K (.ref C) = some (.type "type")) && (PySem.W.keepIn K (.ref C) && (decide (PySem.W.findIn K (.ref C) "__init__" = some (some (.ref f))) && (decide (PySem.W.typeIn K (.ref f) = some (.type "function")) &&
  (decide (PySem.W.findIn K (.ref C) at_ = some none) && xfB K C)))))))
structure Err (K : PySem.W.Frag) (C f : Addr) (at_ : Str) : Prop where
  oex : OexC K C
  init : PySem.W.findIn K (.ref C) "__init__" = some (some (.ref f))
  fn : PySem.W.typeIn K (.ref f) = some (.type "function")
  no : PySem.W.findIn K (.ref C) at_ = some none
  xf : XfC K C
theorem errAll_ok {K : PySem.W.Frag} {C f : Addr} {at_ : Str} (h : errAll K C f at_ = true) : Err K C f at_ := by
  obtain ⟨h1, h⟩ := Bool.and_eq_true_iff.mp h
  obtain ⟨h2, h⟩ := Bool.and_eq_true_iff.mp h
  obtain ⟨h3, h⟩ := Bool.and_eq_true_iff.mp h
  obtain ⟨h4, h⟩ := Bool.and_eq_true_iff.mp h
  obtain ⟨h5, h⟩ := Bool.and_eq_true_iff.mp h
  obtain ⟨h6, h⟩ := Bool.and_eq_true_iff.mp h
  obtain ⟨h7, h⟩ := Bool.and_eq_true_iff.mp h
  obtain ⟨h8, h9⟩ := Bool.and_eq_true_iff.mp h
  exact ⟨⟨errB_ok h1, of_decide_eq_true h2, of_decide_eq_true h3, of_decide_eq_true h4, h5⟩, of_decide_eq_true h6, of_decide_eq_true h7, of_decide_eq_true h8, xfB_ok h9⟩
/-- __init__(self, v): self.at_ = v -/
def spErr (K : PySem.W.Frag) (C : Addr) (at_ : Str) : Sp := fun vs H Q _ => ∃ a v, vs = [.ref a, v] ∧ H a = some (exo a C none) ∧ ∀ dx, H dx = none → dx ≠ a → Q .non (upd (upd H dx (exd dx [(at_, v)])) a (exo a C (some dx)))
/-- C(v) raised: the dict of the error stands -/
theorem err_at {K : PySem.W.Frag} {C : Addr} {at_ : Str} {v : V} {H1 : Hp} {Q : XK} (q : ∀ dx, H1 dx = none → Q (.ref C) (some dx) (upd H1 dx (.xd [(at_, v)]))) : [v].length ≤ 1000 ∧ ∀ a, H1 a = none → spErr K C at_ (.ref a :: ([v] ++ [])) (upd H1 a (exo a C none))
    (fun u H2 => u = .non ∧ ∃ (d : Addr) (fs : List (Str × V)), H2 a = some (exo a C (some d)) ∧ H2 d = some (exd d fs) ∧ H1 d = none ∧ Q (.ref C) (some d) (upd (del H2 a) d (.xd fs))) (fun _ _ _ => False) := by
  refine ⟨by simp, fun a ha => ⟨a, v, rfl, upd_same, fun dx hdx nd => ?_⟩⟩
  have h1 : H1 dx = none := (upd_ne nd).symm.trans hdx
  refine ⟨rfl, dx, [(at_, v)], upd_same, (upd_ne nd).trans upd_same, h1, ?_⟩
  have e : upd (del (upd (upd (upd H1 a (exo a C none)) dx (exd dx [(at_, v)])) a (exo a C (some dx))) a) dx (.xd [(at_, v)]) = upd H1 dx (.xd [(at_, v)]) := by
    funext b
    by_cases c : b = dx
    · rw [c, upd_same, upd_same]
    · rw [upd_ne c, upd_ne c]
      by_cases c2 : b = a
      · rw [c2, del_same, ha]
      · rw [del_ne c2, upd_ne c2, upd_ne c, upd_ne c2]
  rw [e]
  exact q dx h1
theorem pmk_err {X : Cx} {k k' : Nat} {C f : Addr} {at_ x : Str} {ps : List Str} {e : Expr} {ta : TA} {p pos : Pos} (E : Err X.K C f at_) (M : CalM X.prog X.w X.K X.mg X.base CX0 k f ps (spErr X.K C at_)) (hr : Room k' X.A) (hk : k + 1 ≤ k') (hg : Gl X x) (hm : X.mg x = some (.ref C)) (ha : PA X [e] ta)
    (hdb : (x == ("__debug__" : Str)) = false := by decide) (he : starEach [e] X.env = (false, eval e X.env) :: starEach [] X.env := by rfl) (hpl : (backTo pos (starEach [] X.env)).any (·.1) = false := by rfl) :
    PMk X (.Call (.Name x p) [e] [] pos) (tMkO C (spErr X.K C at_) [] ta) := by
  obtain ⟨fd, F, _, hb⟩ := M.ex
  exact pmk_oex (CX := CX0) E.oex E.init E.fn F (hr.mono hk) hb .nil (fun _ _ _ _ _ _ _ h => h.elim) hg hm ha hdb he hpl
/-- an own error that may be raised: its class, its __init__, its name -/
structure ErrAt (P : Program) (w : World) (K : PySem.W.Frag) (mg : Str → Option Value) (base : Heap) (x at_ p : Str) : Prop where
  e : Err K (He.ga K x) (He.fAd K (x, some "__init__")) at_
  m : CalM P w K mg base CX0 1 (He.fAd K (x, some "__init__")) ["self", p] (spErr K (He.ga K x) at_)
  g : mg x = some (.ref (He.ga K x))
theorem ErrAt.mk_ {X : Cx} {k : Nat} {x at_ q : Str} {e : Expr} {ta : TA} {p pos : Pos} (R : ErrAt X.prog X.w X.K X.mg X.base x at_ q) (hr : Room k X.A) (hk : 2 ≤ k) (hg : Gl X x) (ha : PA X [e] ta)
    (hdb : (x == ("__debug__" : Str)) = false := by decide) (he : starEach [e] X.env = (false, eval e X.env) :: starEach [] X.env := by rfl) (hpl : (backTo pos (starEach [] X.env)).any (·.1) = false := by rfl) :
    PMk X (.Call (.Name x p) [e] [] pos) (tMkO (He.ga X.K x) (spErr X.K (He.ga X.K x) at_) [] ta) := pmk_err R.e R.m hr hk hg R.g ha hdb he hpl
/-- a method that errors may leave -/
theorem DfnM.calE {P : Program} {w : World} {K : PySem.W.Frag} {mg : Str → Option Value} {base : Heap} {c m qual : Str} {st : Stmt} {N ps : List Str} {k : Nat} {sp : Sp} (D : DfnM K c m qual st) (S : FnScope N ps (defScope st))
    (hb : ∀ (kV doc pm : Value) (an : Option Addr) (cdv ct : Value) (us : List Value), us.length = ps.length → bindArgs (PySem.W.fnOf m qual (defArgs st) (defBody st) (defScope st) .none kV doc pm an cdv ct) ⟨us, []⟩ = pure (ps.zip us))
    (len : ∀ vs H Q E, sp vs H Q E → vs.length = ps.length)
    (body : ∀ (cdv : Value) (A : Around) (outer : List Env) (s : Shared) (H : Hp) (vs : List V) (Q : VK) (E : XK), Room k (A.deeper (envOfC qual (defScope st) s.heap.objs.size (He.fAd K (c, some m)) cdv)) → sp vs H Q E →
      ∃ t, PSs (cxOf (L2.CX P w) P w K mg base N qual (defScope st) (He.fAd K (c, some m)) cdv A outer s H E) (defBody st) t ∧ t { nx := fun _ H' => Q .non H', rt := Q } (start N vs) H) :
    CalM P w K mg base (L2.CX P w) (k + 1) (He.fAd K (c, some m)) ps sp := by
  obtain ⟨fd, F⟩ := D.fn
  exact ⟨fd, F.ok S len body, F.kp, F.bindsN hb⟩
theorem op_notHas {X : Cx} {k k' : Nat} {C f : Addr} {ps : List Str} {sp : Sp} (M : CalM X.prog X.w X.K X.mg X.base CX0 k f ps sp) (hr : Room k' X.A) (hk : k ≤ k') (hs : Has X.K C f)
    (hm : ∀ x y H Q Q' E, (∀ v H', Q v H' → Q' v H') → sp [x, y] H Q E → sp [x, y] H Q' E) : OpR X (compareOp .NotIn) (rInOwn C sp E0 true) := by
  obtain ⟨fd, F, _, hb⟩ := M.ex
  intro pins s σ H x y v u Q I rx ry h
  obtain ⟨a, dx, fs, e, ha, hsp⟩ := h
  show wpAny _ _ (do return Value.bool (!(← contains u v))) _ _ _
  refine wpAny_bind (own_in F (hr.mono hk) hs hb pass0 (Q := fun b s' => wpAny (model X.prog X.w) X.A (pure (Value.bool (!b))) (EP X pins σ Q) X.xe s') I rx ry ⟨a, dx, fs, e, ha, hm _ _ _ _ _ _ (fun z H' hz => ?_) hsp⟩)
  obtain ⟨b, rfl, hq⟩ := hz
  exact ⟨b, rfl, fun s' I' => wpAny_pure ⟨.bl (!b), H', I', rfl, hq⟩⟩
end Sr

set_option Elab.async false
set_option linter.all false
set_option maxRecDepth 100000
set_option maxHeartbeats 4000000
namespace Sr
open PySem PySem.Spec PyProof.Rows L2
/-! ### defs that errors may leave -/
structure CalE (P : Program) (w : World) (K : PySem.W.Frag) (mg : Str → Option Value) (base : Heap) (k : Nat) (x : Str) (ps : List Str) (sp : Sp) : Prop where
  ex : ∃ (f : Addr) (fd : FuncData), FnOk P w K mg base (L2.CX P w) k f fd ps sp ∧ mg x = some (.ref f) ∧ PySem.W.keepIn K (.ref f) = true ∧ Binds K fd ps []
theorem pe_calE {X : Cx} {k k' : Nat} {x : Str} {ps : List Str} {sp : Sp} {E : XK} {p pos : Pos} {e : Expr} {es : List Expr} {t : TA} (C : CalE X.prog X.w X.K X.mg X.base k x ps sp) (hr : Room k' X.A) (hk : k ≤ k') (hg : Gl X x) (hx : Passes (L2.CX X.prog X.w) X E) (ha : PA X (e :: es) t)
    (hdb : (x == ("__debug__" : Str)) = false := by decide) (he : starEach (e :: es) X.env = (false, eval e X.env) :: starEach es X.env := by rfl) (hpl : (backTo pos (starEach es X.env)).any (·.1) = false := by rfl) :
    PE X (.Call (.Name x p) (e :: es) [] pos) (tCall sp [] E t) := by
  obtain ⟨f, fd, F, hm, hkp, hb⟩ := C.ex
  exact pe_call F (hr.mono hk) hg hm hkp hb .nil hx ha hdb he hpl
theorem Dfn.calE {P : Program} {w : World} {K : PySem.W.Frag} {mg : Str → Option Value} {base : Heap} {x : Str} {st : Stmt} {N ps : List Str} {k : Nat} {sp : Sp} (D : Dfn K mg x st) (S : FnScope N ps (defScope st))
    (hb : ∀ (kV doc pm : Value) (an : Option Addr) (cdv ct : Value) (us : List Value), us.length = ps.length → bindArgs (PySem.W.fnOf x x (defArgs st) (defBody st) (defScope st) .none kV doc pm an cdv ct) ⟨us, []⟩ = pure (ps.zip us))
    (len : ∀ vs H Q E, sp vs H Q E → vs.length = ps.length)
    (body : ∀ (cdv : Value) (A : Around) (outer : List Env) (s : Shared) (H : Hp) (vs : List V) (Q : VK) (E : XK), Room k (A.deeper (envOfC x (defScope st) s.heap.objs.size (He.ga K x) cdv)) → sp vs H Q E →
      ∃ t, PSs (cxOf (L2.CX P w) P w K mg base N x (defScope st) (He.ga K x) cdv A outer s H E) (defBody st) t ∧ t { nx := fun _ H' => Q .non H', rt := Q } (start N vs) H) :
    CalE P w K mg base (k + 1) x ps sp := by
  obtain ⟨fd, F⟩ := D.fn
  exact ⟨_, fd, F.ok S len body, D.at_, F.kp, F.bindsN hb⟩
/-- where the callee's contract lets no error out -/
theorem passes_never {X : Cx} : Passes (L2.CX X.prog X.w) X E0 := fun _ _ _ _ _ _ _ c => by
  obtain ⟨_, _, _, _, _, _, _, _, _, _, _, _, h⟩ := c
  exact h.elim
/-- within a def that errors may leave -/
theorem passes_def {X : Cx} {E : XK} {E₁ : Value → Shared → Prop} (hs : X.stack = X.env :: X.outer) (hf : X.env.frame = some X.env.locals) (hex : X.ex = [])
    (hx : X.xe = fun e s' => wpAny (model X.prog X.w) X.A (leaving X.env e) (fun _ s'' => L2.CX X.prog X.w X.outer X.H_0 X.s_0 E e s'') E₁ s') : Passes (L2.CX X.prog X.w) X E :=
  passes_call (takes_of hs hf hex hx) fun _ _ _ _ h => h
end Sr

set_option Elab.async false
set_option linter.all false
set_option maxRecDepth 100000
set_option maxHeartbeats 4000000
namespace Sr
open PySem PySem.Spec PyProof.Rows L2
open Sem (wp)
/-! ### enumerate(tuple) -/
theorem meets_enumerate_newT {v : Value} {o : Obj} {H : Heap → Prop} (B : Begins v o H) :
    Meets (Builtin.«enumerate.__new__» ⟨[.type "enumerate", v], []⟩) (fun _ R s => H s.heap ∧
      R (.ok (.ret (.ref (s.heap.push o).objs.size))) { s with heap := (s.heap.push o).push { cls := .type "enumerate", data := .fields #[.none, .bool false, .ref s.heap.objs.size, rawInt 0, .none, .none] } }) :=
  .of_wp fun prog w A R s h => by
    obtain ⟨hp, g, d, tk, os⟩ := s; obtain ⟨h1, h⟩ := h
    have hsub := sub_enumerate
    have q1 : ∀ {A' : Around} {E : Value → Shared → Prop} {Q : Value → Shared → Prop}, Q (.ref hp.objs.size) ⟨hp.push o, g, d, tk, os⟩ → wpAny (model prog w) A' (pyIter v) Q E ⟨hp, g, d, tk, os⟩ :=
      fun q => B.iter prog w _ _ ⟨hp, g, d, tk, os⟩ _ h1 q
    wp_walk using q1
    refine wpAny_stack_any fun st => wpAny_pure ?_
    split
    · rename_i c _ _ _ _ _
      cases (c == Value.type "enumerate")
      · wp_walk using q1
        exact ⟨_, rfl, h⟩
      · wp_walk using q1
        exact ⟨_, rfl, h⟩
    · wp_walk using q1
      exact ⟨_, rfl, h⟩
section
variable {prog : Program} {w : World} {A : Around} {E : Value → Shared → Prop} {s : Shared}
theorem enumT_begins {v : Value} {o : Obj} {H : Heap → Prop} {Q : Value → Shared → Prop} (B : Begins v o H) (h1 : H s.heap)
    (h : ∀ h', IsEnum h' (s.heap.objs.size + 1) s.heap.objs.size 0 .none → h'.get? s.heap.objs.size = some o → h'.objs.size = s.heap.objs.size + 2 →
      (∀ b o, s.heap.get? b = some o → h'.get? b = some o) → Q (.ref (s.heap.objs.size + 1)) { s with heap := h' }) :
    wpAny (model prog w) A (call (.type "enumerate") [v]) Q E s := by
  refine callType_new PySem.F.called_enumerate (by decide) (PySem.F.typeCall_enumerate_1 _) (PySem.F.newCall_enumerate_1 _) (fun obj => PySem.F.args_object_init_2 obj _) PySem.F.entry_enumerate_new
    (meets_enumerate_newT B) ⟨h1, ?_⟩
  have hz : (s.heap.push o).objs.size = s.heap.objs.size + 1 := Heap.size_push ..
  show _ ∧ _
  rw [hz]
  have he : IsEnum ((s.heap.push o).push { cls := .type "enumerate", data := .fields #[.none, .bool false, .ref s.heap.objs.size, rawInt 0, .none, .none] }) (s.heap.objs.size + 1) s.heap.objs.size 0 .none := by
    have := Heap.get?_push_size (s.heap.push o) (o := { cls := .type "enumerate", data := .fields #[.none, .bool false, .ref s.heap.objs.size, rawInt 0, .none, .none] }) rfl
    rw [hz] at this; exact this
  refine ⟨⟨_, he, rfl⟩, h _ he (Heap.get?_push_of_some _ (Heap.get?_push_size _ B.free)) (by rw [Heap.size_push, hz]) fun b o x => Heap.get?_push_of_some _ (Heap.get?_push_of_some _ x)⟩
end
theorem enum_endT {prog : Program} {w : World} {A : Around} {E : Value → Shared → Prop} {s : Shared} {e it t : Addr} {j : Nat} {items : Array Value} {i : Int} {old : Value} {Q : Option Value → Shared → Prop} (hh : A.in1.handled = none)
    (he : IsEnum s.heap e it i old) (hit : s.heap.IsTupleIter it t j) (ht : s.heap.IsTuple t items) (hx : items[j]? = none)
    (hQ : ∀ h', Heap.ExtBut it s.heap h' → Q none { s with heap := h' }) : wpAny (model prog w) A (pyNext (.ref e)) Q E s := by
  have hT : s.TypeIs (.ref e) "enumerate" := ⟨_, he, rfl⟩
  unfold pyNext
  refine wpAny_bind (wpAny_attempt (wpAny_callSpecial?_slot (name := Str.ofString "__next__") hT PySem.F.slot_enumerate_next
    (wpAny_call_entry PySem.F.slot_enumerate_next hT PySem.F.entry_enumerate_next ?_ (PySem.F.args_enumerate_next_1 _))))
  show wpAny _ _ (field (.ref e) 2 >>= _) _ _ _
  refine wpAny_bind (wpAny_field he rfl (x := .ref it) rfl ?_)
  refine wpAny_bind (wpAny_nextOf_tuple_end hh hit ht hx fun h' x he' hx' => ?_)
  obtain ⟨o, ho, hc⟩ := hx'
  refine wpAny_bind (wpAny_isInstance (T := "StopIteration") (b := true) ⟨o, ho, hc⟩ isSubtype_stop ?_)
  exact wpAny_pure (hQ _ he')
/-- the tuple at a, each item in a new pair -/
def Itet (K : PySem.W.Frag) (a : Addr) : It :=
  ⟨fun i H => ∃ (xs : List V) (x : V), SqT K H a xs ∧ xs[i]? = some x, fun i H v H' => ∃ T x, v = .ref T ∧ H T = none ∧ H' = upd H T (.tup [.int (i : Nat), x]) ∧ ∀ xs, SqT K H a xs → xs[i]? = some x, fun i H => ∃ xs : List V, SqT K H a xs ∧ xs.length ≤ i⟩
theorem turn_enumT {P : Program} {w : World} {K : PySem.W.Frag} {elts : List Expr} {kk : Nat} {tpos : Pos} (a e it : Addr) :
    Turn P w K (.Tuple elts kk tpos) (Itet K a) [e, it] e (fun i h => (∃ old, IsEnum h e it ((i : Nat) : Int) old) ∧ h.IsTupleIter it a i ∧ e ≠ it) where
  mem := by simp
  obj := fun i h st b hb => by
    obtain ⟨⟨old, he⟩, ⟨o, ho, hc, hd⟩, _⟩ := st
    have e' : b = e ∨ b = it := by simpa using hb
    rcases e' with z | z
    · rw [z]; exact ⟨_, he, fun v q => nomatch q⟩
    · rw [z]; exact ⟨o, ho, fun v q => by rw [hd] at q; cases q⟩
  keep := fun i h h' st k => let ⟨⟨old, he⟩, hi, hne⟩ := st; ⟨⟨old, k e (by simp) _ he⟩, hi.at fun o q => k it (by simp) o q, hne⟩
  item := by
    intro X hP hw hK hc i pins s σ H E I hf st hg
    subst hP hw hK
    obtain ⟨⟨old, he⟩, hit, hne⟩ := st
    obtain ⟨xs, x, hq, hx⟩ := hg
    obtain ⟨its, rv, p, hz⟩ := I.tuple hq
    obtain ⟨u, hu, ru⟩ := rv.get hx
    have hel : e < s.heap.objs.size := Heap.lt_size he
    have hil : it < s.heap.objs.size := by obtain ⟨_, q, _⟩ := hit; exact Heap.lt_size q
    have hai : a ≠ it := fun z => by
      obtain ⟨o1, g1, g2, _⟩ := p
      obtain ⟨o2, g3, g4, _⟩ := hit
      rw [z, g3] at g1
      cases g1
      rw [g2] at g4
      injection g4 with g4
      exact absurd g4 (by decide)
    have hea : e ≠ a := fun z => by
      obtain ⟨o1, g1, g2, _⟩ := p
      have he2 : s.heap.get? a = _ := z ▸ he
      rw [he2] at g1
      cases g1
      injection g2 with g2
      exact absurd g2 (by decide)
    have D := Draws.tuple (prog := X.prog) (w := X.w) (A := X.A.in1) (I.ok.hd hc) it a hai its.toArray
    have hlt : i < its.toArray.size := by
      have := (List.getElem?_eq_some_iff.mp hu).1
      simpa using this
    refine wpAny_pyNext_enum_itemC D he ⟨hit, p⟩ hlt hne (by simp [hne, hea]) fun y h' tk hP ho hst' hT hsz hk => ?_
    have ey : y = u := by
      have hP : its.toArray[i]? = some y := hP
      rw [List.getElem?_toArray, hu] at hP
      exact (Option.some.inj hP).symm
    subst ey
    refine ⟨_, rfl, wpAny_letOwnedTupleGo_enum (s := { s with heap := h', toks := tk + 1 }) ho fun h'' he' sb => ?_⟩
    have hT2 : h''.get? s.heap.objs.size = some { cls := .type "tuple", data := .seq #[.int i tk, y] } := (sb.2 _ (Nat.ne_of_gt hel)).trans hT
    have new : ObjOk X.prog X.w (upd H s.heap.objs.size (.tup [.int (i : Nat), x])) h'' s.heap.objs.size (.tup [.int (i : Nat), x]) :=
      ⟨by show 2 ≤ sizeLine; decide, [.int i tk, y], .cons ⟨_, rfl⟩ (.cons ru .nil), ⟨_, hT2, rfl, _, rfl⟩⟩
    have I1 : L2.Inv X pins σ (upd H s.heap.objs.size (.tup [.int (i : Nat), x])) { s with heap := h'', toks := tk + 1 } :=
      I.turnedNew (ch := [e, it]) (fun b ob hb q => (sb.2 b (fun z => hb (by simp [z]))).trans (hk b ob (fun z => hb (by simp [z])) (fun z => hb (by simp [z])) q)) hf (Nat.le_refl _) new
    refine ⟨.ref s.heap.objs.size, _, I1, rfl, ⟨_, x, rfl, I.hok.fresh (Nat.le_refl _), rfl, fun ys hy => by rw [I.tuple_inj hy hq]; exact hx⟩, ⟨⟨y, ?_⟩, hst'.1.at fun o q => (sb.2 it (Ne.symm hne)).trans q, hne⟩, fun b hb => ?_⟩
    · have e1 : ((i + 1 : Nat) : Int) = (i : Int) + 1 := by omega
      rw [e1]; exact he'
    · have hb' : b < s.heap.objs.size := by
        have e' : b = e ∨ b = it := by simpa using hb
        rcases e' with z | z
        · rw [z]; exact hel
        · rw [z]; exact hil
      rw [upd_ne (Nat.ne_of_lt hb')]
      exact (hf b hb).1
  done := by
    intro X hP hw hK hc i pins s σ H E I hf st hg
    subst hP hw hK
    obtain ⟨⟨old, he⟩, hit, hne⟩ := st
    obtain ⟨xs, hq, hx⟩ := hg
    obtain ⟨its, rv, p, hz⟩ := I.tuple hq
    obtain ⟨f0, f1, f2, f3, f4, f5⟩ := hf it (by simp)
    have hl := rv.length
    refine enum_endT (I.ok.hd hc) he hit (show s.heap.IsTuple a its.toArray from p) (by simp; omega) fun h' eb => ⟨rfl, I.turned (t' := s.toks) (fun b o hb q => eb b o hb q) f0 f1 f3 f4 f5⟩
  self := fun A i s Q E st h => let ⟨⟨_, he⟩, _⟩ := st; wpAny_pyIter_enum he h
def iEnumT (K : PySem.W.Frag) (ta : TA) : TI := fun σ H R => ta σ H fun vs H1 => ∃ a xs, vs = [.ref a] ∧ SqT K H1 a xs ∧ R (Itet K a) H1
theorem pi_enumT {X : Cx} {e : Expr} {ta : TA} {p pos tpos : Pos} {elts : List Expr} {kk : Nat} (hg : Gl X "enumerate") (hm : X.mg "enumerate" = none) (ha : PA X [e] ta) (hs : starEach [e] X.env = [(false, eval e X.env)] := by rfl) :
    PI X (.Tuple elts kk tpos) (.Call (.Name "enumerate" p) [e] [] pos) (iEnumT X.K ta) := by
  refine ⟨fun pins s σ H R I h => ?_⟩
  refine Call_ (ld_blt I hg hm boot_enumerate (PyProof.Rows.callWith_type1 (thn (ha.run pos pins s σ H _ I h) fun us s1 ⟨vs, H1, I1, r1, q1⟩ => ?_) hs rfl))
  obtain ⟨a, xs, ex, hq, q⟩ := q1
  subst ex
  cases r1 with
  | cons r rr =>
    cases rr
    cases r
    obtain ⟨its, rv, p', hz⟩ := I1.tuple hq
    refine enumT_begins (begins_tuple a its.toArray) (show s1.heap.IsTuple a its.toArray from p') fun h' he hit hsz hk => wpAny_pyIter_enum he ?_
    have I2 : L2.Inv X pins σ H1 { s1 with heap := h' } := I1.kept (t' := s1.toks) hk
    refine ⟨s1.heap.objs.size + 1, [s1.heap.objs.size + 1, s1.heap.objs.size], _, _, H1, rfl, I2, turn_enumT a (s1.heap.objs.size + 1) s1.heap.objs.size, ⟨⟨.none, he⟩, ⟨_, hit, rfl, rfl⟩, Nat.succ_ne_self _⟩, fun b hb => ?_, q⟩
    have e' : b = s1.heap.objs.size + 1 ∨ b = s1.heap.objs.size := by simpa using hb
    have hle : s1.heap.objs.size ≤ b := by
      rcases e' with z | z
      · rw [z]; exact Nat.le_add_right _ _
      · rw [z]; exact Nat.le_refl _
    exact I1.fpOk hle (I1.hok.fresh hle)
theorem walk_enumT {K : PySem.W.Frag} {a : Addr} {xs : List V} : Walk (Itet K a) xs.length (fun H => SqT K H a xs) (YPair (fun i => some (.int (i : Nat))) (fun i => xs[i]?)) := by
  refine ⟨fun i _ hi q => ⟨xs, xs[i], q, by simp [hi]⟩, fun _ q => ⟨xs, q, Nat.le_refl _⟩, fun i H v H' _ q y => ?_⟩
  obtain ⟨T, x, h1, h2, h3, h4⟩ := y
  exact ⟨T, .int (i : Nat), x, h1, h2, h3, rfl, h4 xs q⟩
end Sr

set_option Elab.async false
set_option linter.all false
set_option maxRecDepth 100000
set_option maxHeartbeats 4000000
namespace Sr
open PySem PySem.Spec PyProof.Rows L2 LamX
/-! ### a def that calls what it got within a try, and tells what is told or refused -/
/-- try: return (s1, a()) / except CS as e: return (s2, e.at_) -/
def TTried (CS : Addr) (at_ : Str) (s1 s2 : Str) : (XK → Hp → VK → Prop) → Hp → VK → Prop := fun tl H Q =>
  tl (fun cls d H' => cls = .ref CS ∧ ∃ e v, d = some e ∧ H' e = some (.xd [(at_, v)]) ∧ ∀ p, H' p = none → Q (.ref p) (upd H' p (.tup [.str s2, v]))) H
    (fun v H' => [V.str s1, v].length ≤ sizeLine ∧ ∀ p, H' p = none → Q (.ref p) (upd H' p (.tup [.str s1, v])))
theorem lineN {n : Nat} (h : n ≤ 1000 := by decide) : n ≤ sizeLine := Nat.le_of_lt (sz h)
theorem three_line : (3 : Nat) ≤ sizeLine := by rw [sizeLine_eq]; decide
theorem rd_mono {H H' : Hp} {a : Addr} {o : HO} (e : Same H H') (h : Rd H a o) : Rd H' a o := h.elim (fun h => .inl (e _ _ h)) fun ⟨u, h⟩ => .inr ⟨u, e _ _ h⟩
theorem sql_mono {K : PySem.W.Frag} {H H' : Hp} {a : Addr} {xs : List V} (e : Same H H') (h : SqL K H a xs) : SqL K H' a xs := h.elim (fun h => .inl (rd_mono e h)) .inr
theorem sqt_mono {K : PySem.W.Frag} {H H' : Hp} {a : Addr} {xs : List V} (e : Same H H') (h : SqT K H a xs) : SqT K H' a xs := h.elim (fun h => .inl (rd_mono e h)) .inr
theorem sq_mono {K : PySem.W.Frag} {H H' : Hp} {a : Addr} {xs : List V} (e : Same H H') (h : SqL K H a xs ∨ SqT K H a xs) : SqL K H' a xs ∨ SqT K H' a xs := h.elim (fun h => .inl (sql_mono e h)) fun h => .inr (sqt_mono e h)
/-- a body whose slots are as many as its names -/
theorem pss_len {X : Cx} {sts : List Stmt} {t : TS} {n : Nat} (h : PSs X sts t) (hn : X.N.length = n := by rfl) : PSs X sts (fun D σ H => σ.length = n → t D σ H) :=
  ⟨fun pins s σ H D I q => h.run pins s σ H D I (q (I.len.trans hn))⟩
/-! ### a def called with a lambda -/
theorem pe_lam {X : Cx} (qn : Str) {x a : Str} {st : Stmt} {Ng : List Str} {TT : (XK → Hp → VK → Prop) → Hp → VK → Prop} {k : Nat} {params : Arguments} {body : Expr} {scope : Scope} {t : XK → TE} {c P : Addr} {p lpos pos : Pos} (D : Dfn X.K X.mg x st) (Sg : FnScope Ng [a] (defScope st))
    (hb : ∀ (kV doc pm : Value) (an : Option Addr) (cdv ct : Value) (us : List Value), us.length = [a].length → bindArgs (PySem.W.fnOf x x (defArgs st) (defBody st) (defScope st) .none kV doc pm an cdv ct) ⟨us, []⟩ = pure ([a].zip us))
    (hG : ∀ cdv : Value, GivesTo X Ng x (defScope st) (He.ga X.K x) cdv (defBody st) a (X.env.qual ++ "<lambda>") TT) (TB : TabB X.base X.mg c P) (hcode : X.env.code = .ref c) (hr : Room (k + 2) X.A)
    (hbody : ∀ (A : Around) (outer : List Env) (s : Shared) (H : Hp) (E : XK) (f c' : Addr), Room k (A.deeper (lamEnv X scope s.heap.objs.size f c')) → PE (lamCx X A outer s H E scope f c') body (t E))
    (hg : Gl X x) (L : LamS X.env.scope scope) (hbind : ∀ (q : Str) (cl : List (Str × Addr)) (pm cv ctv : Value), bindArgs (PySem.W.kla_fn "<lambda>" q params body scope cl pm cv ctv) ⟨[], []⟩ = pure [])
    (hqn : X.env.qual = qn := by rfl) (hdef : defaultsOf params X.env = ([], []) := by rfl) (hNg : Ng[0]? = some a := by rfl) (hva : Vis (defScope st) a := by first | exact Or.inl rfl | exact Or.inr (Or.inl rfl))
    (hdb : (x == ("__debug__" : Str)) = false := by decide) (hd : (a == ("__debug__" : Str)) = false := by decide) (hcd : (a == ("__classdict__" : Str)) = false := by decide) :
    PE X (.Call (.Name x p) [.Lambda params body scope lpos] [] pos) (tLam [(P, qn ++ "<lambda>")] TT t) := by
  subst hqn
  obtain ⟨fd, F⟩ := D.fn
  have hB := F.bindsN hb
  obtain ⟨oc, od, dV, kV, doc, pm, an, cdv, ct, osl, rfl, lk, hcg, _, _⟩ := F.ex
  exact pe_lamcall hg D.at_ F.kp lk hcg hB Sg hNg hva (hG cdv) TB hcode List.mem_cons_self (fun p hp _ => by rw [List.mem_singleton.mp hp]) hr L hdef hbind hbody hdb hd hcd
/-- a def of the top, with its code object known -/
theorem fun_ok {P : Program} {w : World} {K : PySem.W.Frag} {mg : Str → Option Value} {base : Heap} {CX : CXT} {x : Str} {st : Stmt} {N ps : List Str} {k : Nat} {sp : Sp} {fd : FuncData} (F : FunD K x x (defArgs st) (defBody st) (defScope st) [] [] (He.ga K x) fd) (S : FnScope N ps (defScope st)) (len : ∀ vs H Q E, sp vs H Q E → vs.length = ps.length)
    (hbody : ∀ (A : Around) (outer : List Env) (s : Shared) (H : Hp) (vs : List V) (Q : VK) (E : XK), Room k (A.deeper (envOfC x (defScope st) s.heap.objs.size (He.ga K x) (.ref (He.codeOf K (x, none))))) → sp vs H Q E →
      ∃ t, PSs (cxOf CX P w K mg base N x (defScope st) (He.ga K x) (.ref (He.codeOf K (x, none))) A outer s H E) (defBody st) t ∧ t { nx := fun _ H' => Q .non H', rt := Q } (L2.start N vs) H) : FnOk P w K mg base CX (k + 1) (He.ga K x) fd ps sp := by
  obtain ⟨oc, od, dV, kV, doc, pm, an, cdv, ct, osl, rfl, lk, hcd, _, _⟩ := F.ex
  obtain ⟨c, rfl⟩ := He.codeIn_ref hcd
  have e : He.codeOf K (x, none) = c := He.codeOf_eq (p := (x, none)) lk rfl
  rw [e] at hbody
  exact fn_of lk hcd S len hbody
end Sr

set_option Elab.async false
set_option linter.all false
set_option maxRecDepth 100000
set_option maxHeartbeats 4000000
namespace Sr
open PySem PySem.Spec PyProof.Rows L2
/-! ### a list or a tuple, whichever it is -/
def SqAny (K : PySem.W.Frag) (H : Hp) (a : Addr) (xs : List V) : Prop := SqL K H a xs ∨ SqT K H a xs
theorem PG.or {X : Cx} {e : Expr} {t u : TG} (h : PG X e t) (k : PG X e u) : PG X e (fun v σ H Q => t v σ H Q ∨ u v σ H Q) :=
  ⟨fun pins s σ H v w Q I r q => q.elim (h.run pins s σ H v w Q I r) (k.run pins s σ H v w Q I r)⟩
def gSeq (K : PySem.W.Frag) (n : Nat) (t : TGs) : TG := fun v σ H Q => ∃ a xs, v = .ref a ∧ SqAny K H a xs ∧ xs.length = n ∧ t xs σ H Q
theorem pg_seq {X : Cx} {pos : Pos} {es : List Expr} {k : Nat} {t : TGs} {n : Nat} (hc : X.calm = true) (h : PGs X es t)
    (hn : (assignEach es X.env).length = n := by rfl) (hst : (assignEach es X.env).findIdx? (·.1) = none := by rfl) : PG X (.Tuple es k pos) (gSeq X.K n t) := by
  refine ⟨fun pins s σ H v u Q I r hw => ?_⟩
  obtain ⟨a, xs, e1, hq, hl, hw⟩ := hw
  rcases hq with hq | hq
  · exact (pg_unl (pos := pos) (k := k) hc h hn hst).run pins s σ H v u Q I r ⟨a, xs, e1, hq, hl, hw⟩
  · exact (pg_tup (pos := pos) (k := k) hc h hn hst).run pins s σ H v u Q I r ⟨a, xs, e1, hq, hl, hw⟩
def SeqIt (K : PySem.W.Frag) (H1 : Hp) (a : Addr) (R : It → Hp → Prop) : Prop := ((∃ xs, SqL K H1 a xs) ∧ R (Itl K a) H1) ∨ ((∃ xs, SqT K H1 a xs) ∧ R (Itt K a) H1)
def SeqItE (K : PySem.W.Frag) (H1 : Hp) (a : Addr) (R : It → Hp → Prop) : Prop := ((∃ xs, SqL K H1 a xs) ∧ R (Ite K a) H1) ∨ ((∃ xs, SqT K H1 a xs) ∧ R (Itet K a) H1)
def iSeq (K : PySem.W.Frag) (tl : TE) : TI := fun σ H R => tl σ H fun x H1 => ∃ a, x = .ref a ∧ SeqIt K H1 a R
/-- an iterator just laid down, at the next place, stands for its walk -/
theorem pie_new {X : Cx} {pins : List (Addr × Obj)} {σ : L2.St} {tg : Expr} {R : It → Hp → Prop} {s : Shared} {H : Hp} {J : It} {tn : Nat → Heap → Prop} {o : Obj} {n : Addr} (I : L2.Inv X pins σ H s) (hn : n = s.heap.objs.size) (T : Turn X.prog X.w X.K tg J [n] n tn)
    (h0 : tn 0 (s.heap.push o)) (q : R J H) : PIE X pins σ tg R (.ref n) { s with heap := s.heap.push o } := by
  have keep : L2.Inv X pins σ H { s with heap := s.heap.push o } := I.kept (t' := s.toks) fun _ _ e => Heap.get?_push_of_some _ e
  have fresh : FpOk X pins H n := I.fpOk (Nat.le_of_eq hn.symm) (I.hok.fresh (Nat.le_of_eq hn.symm))
  exact ⟨n, [n], tn, J, H, rfl, keep, T, h0, fun b hb => (List.mem_singleton.mp hb) ▸ fresh, q⟩
theorem pi_seq {X : Cx} {tg l : Expr} {tl : TE} (hl : PE X l tl) : PI X tg l (iSeq X.K tl) := by
  refine ⟨fun pins s σ H R I h => thn (hl.run pins s σ H _ I h) ?_⟩
  rintro v s1 ⟨_, H1, I1, r1, a, rfl, q | q⟩ <;> cases r1 <;> obtain ⟨⟨xs, hq⟩, q⟩ := q
  · obtain ⟨its, _, p, _⟩ := I1.list hq
    exact wpAny_pyIter_list p.isList (pie_new I1 rfl (turn_list a _) ⟨_, Heap.get?_push_size _ rfl, rfl, rfl⟩ q)
  · obtain ⟨its, _, p, _⟩ := I1.tuple hq
    exact wpAny_pyIter_tuple (items := its.toArray) p (pie_new I1 rfl (turn_tuple a _) ⟨_, Heap.get?_push_size _ rfl, rfl, rfl⟩ q)
def iEnumS (K : PySem.W.Frag) (ta : TA) : TI := fun σ H R => ta σ H fun vs H1 => ∃ a, vs = [.ref a] ∧ SeqItE K H1 a R
/-- the same, of two things laid down, the upper one of which is asked -/
theorem pie_two {X : Cx} {pins : List (Addr × Obj)} {σ : L2.St} {tg : Expr} {R : It → Hp → Prop} {s : Shared} {h' : Heap} {H : Hp} {J : It} {tn : Nat → Heap → Prop} {n : Nat} (I : L2.Inv X pins σ H s) (hn : n = s.heap.objs.size) (hk : ∀ b o, s.heap.get? b = some o → h'.get? b = some o)
    (T : Turn X.prog X.w X.K tg J [n + 1, n] (n + 1) tn) (h0 : tn 0 h') (q : R J H) : PIE X pins σ tg R (.ref (n + 1)) { s with heap := h' } := by
  have fresh : ∀ b, n ≤ b → FpOk X pins H b := fun b hb => I.fpOk (hn ▸ hb) (I.hok.fresh (hn ▸ hb))
  refine ⟨n + 1, [n + 1, n], tn, J, H, rfl, I.kept (t' := s.toks) hk, T, h0, ?_, q⟩
  simp only [List.forall_mem_cons, List.not_mem_nil, false_implies, implies_true, and_true]
  exact ⟨fresh _ (Nat.le_succ _), fresh _ (Nat.le_refl _)⟩
theorem pi_enumS {X : Cx} {e : Expr} {ta : TA} {p pos tpos : Pos} {elts : List Expr} {kk : Nat} (hg : Gl X "enumerate") (hm : X.mg "enumerate" = none) (ha : PA X [e] ta) (hs : starEach [e] X.env = [(false, eval e X.env)] := by rfl) :
    PI X (.Tuple elts kk tpos) (.Call (.Name "enumerate" p) [e] [] pos) (iEnumS X.K ta) := by
  refine ⟨fun pins s σ H R I h => Call_ (ld_blt I hg hm boot_enumerate (PyProof.Rows.callWith_type1 (thn (ha.run pos pins s σ H _ I h) ?_) hs rfl))⟩
  rintro us s1 ⟨_, H1, I1, r1, a, rfl, q⟩
  cases r1 with
  | cons r rr =>
    cases rr
    cases r
    rcases q with ⟨⟨xs, hq⟩, q⟩ | ⟨⟨xs, hq⟩, q⟩
    · obtain ⟨its, _, p', _⟩ := I1.list hq
      exact call_enumerate_list p'.isList fun h' he hit _ hk => wpAny_pyIter_enum he (pie_two I1 rfl hk (turn_enum a _ _) ⟨⟨.none, he⟩, hit, Nat.succ_ne_self _⟩ q)
    · obtain ⟨its, _, p', _⟩ := I1.tuple hq
      exact enumT_begins (begins_tuple a its.toArray) p' fun h' he hit _ hk => wpAny_pyIter_enum he (pie_two I1 rfl hk (turn_enumT a _ _) ⟨⟨.none, he⟩, ⟨_, hit, rfl, rfl⟩, Nat.succ_ne_self _⟩ q)
/-- the object of a list or a tuple -/
def seqO (xs : List V) (o : HO) : Prop := o = .lst xs ∨ o = .tup xs
theorem seqO.any {K : PySem.W.Frag} {H : Hp} {a : Addr} {xs : List V} {o : HO} (h : seqO xs o) (e : H a = some o) : SqAny K H a xs := by
  rcases h with rfl | rfl
  · exact .inl (SqL.of e)
  · exact .inr (SqT.of e)
/-- a walk over it, as one walk -/
theorem seq_walk {K : PySem.W.Frag} {a : Addr} {xs : List V} {o : HO} (h : seqO xs o) : ∃ J, Walk J xs.length (fun H => H a = some o) (YAt xs) ∧
    ∀ (H : Hp) (R : It → Hp → Prop), H a = some o → R J H → SeqIt K H a R := by
  rcases h with rfl | rfl
  · exact ⟨Itl K a, walk_list.mono (fun H e => SqL.of e) fun _ _ _ _ _ _ y => y, fun H R e r => .inl ⟨⟨_, SqL.of e⟩, r⟩⟩
  · exact ⟨Itt K a, walk_tup.mono (fun H e => SqT.of e) fun _ _ _ _ _ _ y => y, fun H R e r => .inr ⟨⟨_, SqT.of e⟩, r⟩⟩
theorem seq_walkE {K : PySem.W.Frag} {a : Addr} {xs : List V} {o : HO} (h : seqO xs o) : ∃ J, Walk J xs.length (fun H => H a = some o) (YPair (fun i => some (.int (i : Nat))) (fun i => xs[i]?)) ∧
    ∀ (H : Hp) (R : It → Hp → Prop), H a = some o → R J H → SeqItE K H a R := by
  rcases h with rfl | rfl
  · exact ⟨Ite K a, walk_enum.mono (fun H e => SqL.of e) fun _ _ _ _ _ _ y => y, fun H R e r => .inl ⟨⟨_, SqL.of e⟩, r⟩⟩
  · exact ⟨Itet K a, walk_enumT.mono (fun H e => SqT.of e) fun _ _ _ _ _ _ y => y, fun H R e r => .inr ⟨⟨_, SqT.of e⟩, r⟩⟩
/-- what stands for a list or a tuple -/
def seqOfD : Dt → Option (List Dt)
  | .lst l => some l
  | .tup l => some l
  | _ => none
theorem Is.seq {H : Hp} {v : V} {d : Dt} {l : List Dt} (h : Is H v d) (e : seqOfD d = some l) : ∃ a xs o, v = .ref a ∧ H a = some o ∧ seqO xs o ∧ IsA H xs l ∧ xs.length ≤ 60 := by
  cases h with
  | lst h r z => cases e; exact ⟨_, _, _, rfl, h, .inl rfl, r, z⟩
  | tup h r z => cases e; exact ⟨_, _, _, rfl, h, .inr rfl, r, z⟩
  | _ => cases e
end Sr

set_option Elab.async false
set_option linter.all false
set_option maxRecDepth 100000
set_option maxHeartbeats 4000000
namespace Sr
open PySem PySem.Spec PyProof.Rows L2
/-! ### data as plain data, for == -/
mutual
def toP : Dt → PyData
  | .non => .none
  | .bl b => .bool b
  | .int i => .int i
  | .str s => .str s
  | .lst l => .list (toPs l)
  | .tup l => .tuple (toPs l)
  | .dic => .none
def toPs : List Dt → List PyData
  | [] => []
  | d :: r => toP d :: toPs r
end
mutual
/-- without dicts -/
def plainD : Dt → Bool
  | .lst l => plainDs l
  | .tup l => plainDs l
  | .dic => false
  | _ => true
def plainDs : List Dt → Bool
  | [] => true
  | d :: r => plainD d && plainDs r
end
theorem toPs_map : ∀ l : List Dt, toPs l = l.map toP
  | [] => rfl
  | d :: r => by
    show toP d :: toPs r = toP d :: r.map toP
    rw [toPs_map r]
theorem plainDs_all : ∀ {l : List Dt}, (∀ d ∈ l, plainD d = true) → plainDs l = true
  | [], _ => rfl
  | d :: r, h => by
    unfold plainDs
    rw [h d List.mem_cons_self, plainDs_all fun x m => h x (List.mem_cons_of_mem _ m)]
    rfl
mutual
theorem dp_of {K : PySem.W.Frag} {H : Hp} : ∀ {v : V} {d : Dt}, Is H v d → plainD d = true → Dp K H v (toP d)
  | _, _, .non, _ => .non
  | _, _, .bl b, _ => .bl b
  | _, _, .int i, _ => .int i
  | _, _, .str s h, _ => .str s
  | _, _, .lst h r z, p => .lst (SqL.of h) (dp_ofs r p)
  | _, _, .tup h r z, p => .tup (SqT.of h) (dp_ofs r p)
  | _, _, .dic h, p => by cases p
theorem dp_ofs {K : PySem.W.Frag} {H : Hp} : ∀ {vs : List V} {ds : List Dt}, IsA H vs ds → plainDs ds = true → DpAll K H vs (toPs ds)
  | _, _, .nil, _ => .nil
  | _, _, .cons h r, p => .cons (dp_of h (Bool.and_eq_true_iff.mp p).1) (dp_ofs r (Bool.and_eq_true_iff.mp p).2)
end
/-- a last thing that is otherwise -/
theorem eqvAll_last {x y : PyData} (h : PyData.eqv x y = false) : ∀ l : List PyData, PyData.eqvAll (l ++ [x]) (l ++ [y]) = false
  | [] => by
    show (PyData.eqv x y && true) = false
    rw [h]
    rfl
  | d :: r => by
    show (PyData.eqv d d && PyData.eqvAll (r ++ [x]) (r ++ [y])) = false
    rw [eqvAll_last h r, Bool.and_false]
theorem eqvAll_more {x : PyData} : ∀ l : List PyData, PyData.eqvAll (l ++ [x]) l = false
  | [] => rfl
  | d :: r => by
    show (PyData.eqv d d && PyData.eqvAll (r ++ [x]) r) = false
    rw [eqvAll_more r, Bool.and_false]
/-- data that may be compared, n deep -/
structure Lay (n : Nat) (d : Dt) : Prop where
  pl : plainD d = true
  cl : PyData.canLay0 (toP d) = true
  dp : PyData.depth (toP d) ≤ n
theorem lays {n : Nat} : ∀ {l : List Dt}, (∀ d ∈ l, Lay n d) → plainDs l = true ∧ PyData.canLayAll0 (toPs l) = true ∧ PyData.depthAll (toPs l) ≤ n
  | [], _ => ⟨rfl, rfl, Nat.zero_le _⟩
  | d :: r, h => by
    have h1 := h d List.mem_cons_self
    obtain ⟨a, b, c⟩ := lays fun x m => h x (List.mem_cons_of_mem _ m)
    refine ⟨?_, ?_, ?_⟩
    · show (plainD d && plainDs r) = true
      rw [h1.pl, a]
      rfl
    · show (PyData.canLay0 (toP d) && PyData.canLayAll0 (toPs r)) = true
      rw [h1.cl, b]
      rfl
    · show max (PyData.depth (toP d)) (PyData.depthAll (toPs r)) ≤ n
      have := h1.dp
      omega
theorem Lay.tup {n : Nat} {l : List Dt} (h : ∀ d ∈ l, Lay n d) : Lay (n + 1) (.tup l) := by
  obtain ⟨a, b, c⟩ := lays h
  exact ⟨a, b, Nat.succ_le_succ c⟩
theorem Lay.lst {n : Nat} {l : List Dt} (h : ∀ d ∈ l, Lay n d) : Lay (n + 1) (.lst l) := by
  obtain ⟨a, b, c⟩ := lays h
  exact ⟨a, b, Nat.succ_le_succ c⟩
theorem Lay.int {n : Nat} {i : Int} : Lay n (.int i) := ⟨rfl, rfl, Nat.zero_le _⟩
theorem Lay.str {n : Nat} {s : Str} (h : PyData.canLay0 (.str s) = true) : Lay n (.str s) := ⟨rfl, h, Nat.zero_le _⟩
theorem lay_shaped {n : Nat} {l : List Dt} (h : ∀ d ∈ l, Lay n d) (hn : n + 1 ≤ 64) : plainDs l = true ∧ SeqAt.shaped (.list (toPs l)) = true := by
  obtain ⟨a, b, c⟩ := lays h
  refine ⟨a, ?_⟩
  show (PyData.canLayAll0 (toPs l) && decide (PyData.depthAll (toPs l) + 1 ≤ 64)) = true
  rw [b, decide_eq_true (by omega)]
  rfl
end Sr

set_option Elab.async false
set_option linter.all false
set_option maxRecDepth 100000
set_option maxHeartbeats 4000000
namespace Sr
open PySem PySem.Spec PyProof.Rows L2
/-! ### x in a tuple, by what they stand for; two rules for one operation -/
def rInDT (K : PySem.W.Frag) : R2 := fun x y H Q => ∃ d ds, Dp K H x d ∧ Dp K H y (.tuple ds) ∧ SeqAt.shaped d = true ∧ PyData.canLayAll0 ds = true ∧ Q (.bl (ds.any fun z => PyData.eqv z d)) H
theorem op_inDT {X : Cx} (hu : X.A.units + 65 < cLine) : OpR X (compareOp .In) (rInDT X.K) := by
  intro pins s σ H x y v u Q I rx ry h
  obtain ⟨d, ds, hd, he, sd, se, q⟩ := h
  obtain ⟨as, r1⟩ := Dp.reads I d x v hd rx
  obtain ⟨bs, r2⟩ := Dp.reads I (.tuple ds) y u he ry
  exact SeqAt.in_tuple_reads r2 r1 se (SeqAt.canLay_of_shaped sd) (room_in_shaped sd hu) ⟨.bl _, H, I, rfl, q⟩
theorem op_or {X : Cx} {op : Value → Value → Sem Value} {r r' : R2} (h : OpR X op r) (h' : OpR X op r') : OpR X op (fun x y H Q => r x y H Q ∨ r' x y H Q) := by
  intro pins s σ H x y v u Q I rx ry z
  rcases z with z | z
  · exact h pins s σ H x y v u Q I rx ry z
  · exact h' pins s σ H x y v u Q I rx ry z
theorem u65 {k : Nat} {A : Around} (r : Room k A) : A.units + 65 < cLine := by have := r.un; omega
end Sr

set_option Elab.async false
set_option linter.all false
set_option maxRecDepth 100000
set_option maxHeartbeats 4000000
namespace K34
open PySem PySem.Spec PyProof.Rows L2 Sr
def top (i : Nat) : Stmt := PySem.Challenge.pw_seatroads_k34_whole_turns_and_bundles.main.body.getD i (.Pass ⟨0, 0, 0, 0⟩)
def signs : Str := "abcdefghijklmnopqrstuvwxyz0123456789"
/-- what the top leaves besides defs -/
structure Txt (K : PySem.W.Frag) (mg : Str → Option Value) : Prop where
  len : mg "len" = none
  isinstance : mg "isinstance" = none
  all : mg "all" = none
  range : mg "range" = none
  sorted : mg "sorted" = none
  list : mg "list" = none
  tuple : mg "tuple" = none
  min : mg "min" = none
  int : mg "int" = none
  str : mg "str" = none
  bool : mg "bool" = none
  dict : mg "dict" = none
  zip : mg "zip" = none
  enumerate : mg "enumerate" = none
  gSigns : ∃ t, mg "SIGNS" = some (.str signs t)
  gLongest : ∃ t, mg "LONGEST" = some (.int 8 t)
  max : mg "max" = none
  sum : mg "sum" = none
  set : mg "set" = none
  any : mg "any" = none
  abs : mg "abs" = none
theorem Txt.e_SIGNS {X : Cx} {p : Pos} (T : Txt X.K X.mg) (h : Gl X "SIGNS" := by rfl) : PE X (.Name "SIGNS" p) (tC (.str signs)) := by
  obtain ⟨t, e⟩ := T.gSigns
  exact pe_glob h e ⟨t, rfl⟩
theorem Txt.e_LONGEST {X : Cx} {p : Pos} (T : Txt X.K X.mg) (h : Gl X "LONGEST" := by rfl) : PE X (.Name "LONGEST" p) (tC (.int 8)) := by
  obtain ⟨t, e⟩ := T.gLongest
  exact pe_glob h e ⟨t, rfl⟩
/-! ### what the defs tell -/
def nameOk : Dt → Bool
  | .str s => (decide (1 ≤ s.length) && decide (s.length ≤ 8)) && s.cps.toList.all fun c => decide (c ∈ signs.cps.toList)
  | _ => false
/-- of one datum: told a Bool, what stood stays -/
def spB (f : Dt → Bool) : Sp := fun vs H Q _ => ∃ v d, vs = [v] ∧ Is H v d ∧ ∀ H', Same H H' → Q (.bl (f d)) H'
theorem spB_len {f : Dt → Bool} (vs : List V) (H : Hp) (Q : VK) (E : XK) (h : spB f vs H Q E) : vs.length = 1 := by
  obtain ⟨v, d, rfl, _⟩ := h
  rfl
abbrev one {α : Type} {l : List α} (h : l.length = 1) : ∃ x, l = [x] := List.length_eq_one_iff.mp h
section
variable {P : Program} {w : World} {K : PySem.W.Frag} {mg : Str → Option Value} {base : Heap}
abbrev s_is_list : Stmt := top 6
theorem sc_is_list : FnScope ["thing"] ["thing"] (defScope s_is_list) := ⟨rfl, rfl, rfl, by decide +kernel, rfl, by decide +kernel, by decide +kernel⟩
theorem c_is_list (T : Txt K mg) (D : Dfn K mg "is_list" s_is_list) : Cal P w K mg base 1 "is_list" ["thing"] (spB isSeq) := by
  refine D.cal sc_is_list (fun _ _ _ _ _ _ us hl => match us, hl with | [_], _ => rfl) spB_len fun cdv A outer s H vs Q E hr h => ?_
  obtain ⟨v, d, rfl, hv, q⟩ := h
  refine ⟨_, (pss_one (ps_ret (pe_callB (id := "isinstance") call_isiT (by rfl) T.isinstance (by decide +kernel) (pa_cons (pv 0) (pa_cons (pe_tup (pa_cons (pe_tyv (n := "list") (by rfl) T.list (by decide +kernel)) (pa_cons (pe_tyv (n := "tuple") (by rfl) T.tuple (by decide +kernel)) pa_nil))) pa_nil))))), ?_⟩
  refine ⟨_, rfl, two_line, fun p hp => ⟨v, p, [.ty "list", .ty "tuple"], .type (tyN d), [.type "list", .type "tuple"], _, rfl, upd_same, cls_two _ _, (hv.mono (Same.up hp)).ty, kit_seq K d, q _ (Same.up hp)⟩⟩
abbrev s_is_integer : Stmt := top 5
theorem sc_is_integer : FnScope ["thing"] ["thing"] (defScope s_is_integer) := ⟨rfl, rfl, rfl, by decide +kernel, rfl, by decide +kernel, by decide +kernel⟩
def isInteger (d : Dt) : Bool := isInt d && !isBl d
theorem c_is_integer (T : Txt K mg) (D : Dfn K mg "is_integer" s_is_integer) : Cal P w K mg base 1 "is_integer" ["thing"] (spB isInteger) := by
  refine D.cal sc_is_integer (fun _ _ _ _ _ _ us hl => match us, hl with | [_], _ => rfl) spB_len fun cdv A outer s H vs Q E hr h => ?_
  obtain ⟨v, d, rfl, hv, q⟩ := h
  refine ⟨_, (pss_one (ps_ret (pe_and (pe_callB (id := "isinstance") call_isi (by rfl) T.isinstance (by decide +kernel) (pa_cons (pv 0) (pa_cons (pe_tyv (n := "int") (by rfl) T.int (by decide +kernel)) pa_nil))) (pe_one (pe_not (pe_callB (id := "isinstance") call_isi (by rfl) T.isinstance (by decide +kernel) (pa_cons (pv 0) (pa_cons (pe_tyv (n := "bool") (by rfl) T.bool (by decide +kernel)) pa_nil)))))))), ?_⟩
  refine ⟨_, rfl, v, _, _, _, _, rfl, .ty _, hv.ty, kit_int K d, _, rfl, ?_⟩
  have e : isInteger d = if isInt d = true then !isBl d else false := by
    unfold isInteger
    cases isInt d <;> rfl
  cases c : isInt d with
  | true =>
    rw [c, if_pos rfl] at e
    exact iteT ⟨_, rfl, v, _, _, _, _, rfl, .ty _, hv.ty, kit_bool K d, _, rfl, by rw [← e]; exact q _ (Same.refl H)⟩
  | false =>
    rw [c] at e
    exact iteF (by rw [show (false : Bool) = isInteger d from e.symm]; exact q _ (Same.refl H))
abbrev s_is_name : Stmt := top 7
theorem sc_is_name : FnScope ["thing", "sign"] ["thing"] (defScope s_is_name) := ⟨rfl, rfl, rfl, by decide +kernel, rfl, by decide +kernel, by decide +kernel⟩
theorem c_is_name (T : Txt K mg) (D : Dfn K mg "is_name" s_is_name) : Cal P w K mg base 1 "is_name" ["thing"] (spB nameOk) := by
  refine D.cal sc_is_name (fun _ _ _ _ _ _ us hl => match us, hl with | [_], _ => rfl) spB_len fun cdv A outer s H vs Q E hr h => ?_
  obtain ⟨v, d, rfl, hv, q⟩ := h
  refine ⟨_, (pss_cons (ps_if (PW.pt (pw_or (pt_not (pt_val (pe_callB (id := "isinstance") call_isi (by rfl) T.isinstance (by decide +kernel) (pa_cons (pv 0) (pa_cons (pe_tyv (n := "str") (by rfl) T.str (by decide +kernel)) pa_nil))))) (pw_or1 (pt_not (pt_chain op_le op_le pe_int (pe_callB (id := "len") call_len_str (by rfl) T.len (by decide +kernel) (pa_cons (pv 0) pa_nil)) (T.e_LONGEST (by rfl))))))) (pss_one (ps_ret pe_bl)) pss_nil)
      (pss_one (ps_ret (pe_callB (id := "all") (cr_all rfl) (by rfl) T.all (by decide +kernel) (pa_cons (pe_lc (own := [("sign", 1)]) (g := gName 1) (tt := tYes) rfl sc_is_name.nd (pi_str (pv 0)) (blkOk_by (N := ["thing", "sign"]) (sc := defScope s_is_name) (by decide +kernel)) (fun _ _ _ _ _ => (pg_name (i := 1) sc_is_name.nd rfl (by first | exact Or.inl rfl | exact Or.inr rfl))) (fun _ _ _ _ _ => pts_nil) (fun _ _ _ _ _ => (pe_cmpR op_in_sign (pv 1) (T.e_SIGNS (by rfl)) (by rfl)))) pa_nil))))), ?_⟩
  refine ⟨_, rfl, v, _, _, _, _, rfl, .ty _, hv.ty, kit_str K d, _, rfl, ?_⟩
  cases hv with
  | str z hz =>
    refine iteF ?_
    refine ⟨_, rfl, z, rfl, Nat.le_of_lt (sz hz), _, _, rfl, rfl, _, rfl, ?_⟩
    have hS : z.cps.toList.length = z.cps.size := Array.length_toList
    have key : ∀ b : Bool, nameOk (.str z) = b → ∀ H', Same H H' → Q (.bl b) H' := fun b e => e ▸ q
    by_cases h1 : (1 : Int) ≤ (z.length : Int)
    · rw [decide_eq_true h1]
      refine iteT ⟨_, _, rfl, rfl, _, rfl, ?_⟩
      by_cases h2 : (z.length : Int) ≤ 8
      · rw [decide_eq_true h2]
        refine iteF ?_
        refine ⟨_, rfl, z, rfl, fun D hD => lc_pure walk_str (At := fun i x => ∃ c, z.cps[i]? = some c ∧ x = .str ⟨#[c]⟩) (fun _ _ _ _ y => y) ((z.cps.toList.map fun c => decide (c ∈ signs.cps.toList)).map V.bl)
          (by rw [List.length_map, List.length_map, hS]) (sz (m := 1000) hz) hD (fun _ _ => trivial) (fun i x y H1 Q hi hx hy s1 k => ?_) (fun H' s' h' => all_of h' ?_)⟩
        · obtain ⟨c, hc, rfl⟩ := hx
          refine ⟨_, rfl, c, signs, rfl, rfl, ?_⟩
          rw [List.getElem?_map, List.getElem?_map, Array.getElem?_toList, hc] at hy
          obtain rfl : V.bl (decide (c ∈ signs.cps.toList)) = y := Option.some.inj hy
          exact k _ (Same.refl _)
        · refine key _ ?_ H' s'
          show ((decide (1 ≤ z.length) && decide (z.length ≤ 8)) && _) = _
          rw [decide_eq_true (by omega), decide_eq_true (by omega), List.all_map]
          rfl
      · rw [decide_eq_false h2]
        refine iteT (key _ ?_ _ (Same.refl H))
        show ((decide (1 ≤ z.length) && decide (z.length ≤ 8)) && _) = _
        rw [decide_eq_false (show ¬ z.length ≤ 8 by omega), Bool.and_false, Bool.false_and]
    · rw [decide_eq_false h1]
      refine iteF ⟨_, rfl, iteT (key _ ?_ _ (Same.refl H))⟩
      show ((decide (1 ≤ z.length) && decide (z.length ≤ 8)) && _) = _
      rw [decide_eq_false (show ¬ 1 ≤ z.length by omega), Bool.false_and, Bool.false_and]
  | _ => exact iteT (q _ (Same.refl H))
end
end K34

set_option Elab.async false
set_option linter.all false
set_option maxRecDepth 100000
set_option maxHeartbeats 4000000
namespace Sr
open PySem PySem.Spec PyProof.Rows L2
theorem Paired.snoc {α β : Type} {F : α → β → Prop} {a : α} {b : β} (h : F a b) : ∀ {l : List α} {m : List β}, Paired F l m → Paired F (l ++ [a]) (m ++ [b])
  | _, _, .nil => .cons h .nil
  | _, _, .cons h1 t => .cons h1 (Paired.snoc h t)
theorem Paired.imp' {α β : Type} {F G : α → β → Prop} (f : ∀ a b, F a b → G a b) : ∀ {l : List α} {m : List β}, Paired F l m → Paired G l m
  | _, _, .nil => .nil
  | _, _, .cons h t => .cons (f _ _ h) (Paired.imp' f t)
/-- a comprehension over items, some of which are kept, each kept one a new thing; nothing that stood is changed -/
theorem lc_genD {α : Type} {J : It} {n : Nat} {G : Hp → Prop} {Y : Nat → Hp → V → Hp → Prop} {At : Nat → Hp → V → Prop} (w : Walk J n G Y) (hy : ∀ i H x H', Y i H x H' → H' = H ∧ At i H x) {g : TG} {tt : TT} {te : TE} {vs : List Nat} {σ : L2.St} {H : Hp} {D : Addr} {Qd : Hp → Prop}
    (items : List α) (keep : α → Bool) (hn : items.length = n) (hz : n < sizeLine) (hD : H D = none) (hG : ∀ H', Same H H' → G H') (Rel : Hp → α → V → Prop) (mono : ∀ H1 H2 a y, Same H1 H2 → Rel H1 a y → Rel H2 a y) (lay : ∀ H1 a y c c', H1 D = some (.lst c) → Rel H1 a y → Rel (upd H1 D (.lst c')) a y)
    (turn : ∀ (i : Nat) (x : V) (a : α) (H1 : Hp) (A : V → Hp → Prop) (B : Hp → Prop), i < n → At i H1 x → items[i]? = some a → H1 D ≠ none → Same H H1 → (keep a = true → ∀ y H2, Same H1 H2 → Rel H2 a y → A y H2) → (keep a = false → ∀ H2, Same H1 H2 → B H2) →
      g x (wipe σ vs) H1 fun σ2 H2 => wipe σ2 vs = wipe σ vs ∧ tt σ2 H2 fun b H3 => if b = true then te σ2 H3 A else B H3)
    (fin : ∀ H' acc, Same H H' → H' D = some (.lst acc) → Paired (fun y a => Rel H' a y) acc (items.filter keep) → Qd H') :
    ∃ W : Nat → Nat → Hp → Prop, (∃ m, W 0 m (upd H D (.lst []))) ∧ ∀ i m H, W i m H →
      (J.stop i H ∧ Qd H) ∨ (J.go i H ∧ ∃ Nx : Hp → Prop, (∀ H', Nx H' → ∃ m', m' < m ∧ W (i + 1) m' H') ∧ ∀ x H', J.yld i H x H' → g x (wipe σ vs) H' fun σ2 H2 => wipe σ2 vs = wipe σ vs ∧ tt σ2 H2 fun b H3 =>
        if b = true then te σ2 H3 fun y H4 => ∃ acc, H4 D = some (.lst acc) ∧ acc.length < sizeLine ∧ Nx (upd H4 D (.lst (acc ++ [y]))) else Nx H3) := by
  have below : ∀ {H1 H2 : Hp} {o : HO}, Same H H1 → Same H1 H2 → Same H (upd H2 D o) := fun {H1 H2 o} a b c u e => by
    rw [upd_ne (ne_of_none e hD)]
    exact b _ _ (a _ _ e)
  refine lc_it w (fun i H' => Same H H' ∧ ∃ acc, H' D = some (.lst acc) ∧ Paired (fun y a => Rel H' a y) acc ((items.take i).filter keep)) ⟨Same.up hD, [], upd_same, by simp; exact .nil⟩ (fun i H' _ p => hG H' p.1) (fun i x H1 H2 hi p y => ?_) fun H' p => ?_
  · obtain ⟨rfl, hx⟩ := hy _ _ _ _ y
    obtain ⟨s1, acc, hd, pr⟩ := p
    have hi' : i < items.length := by omega
    have tk : items.take (i + 1) = items.take i ++ [items[i]] := by rw [List.take_add_one, List.getElem?_eq_getElem hi']; rfl
    have hl : acc.length < sizeLine := by
      have h1 := Paired.length pr
      have h2 := List.length_filter_le keep (items.take i)
      rw [List.length_take] at h2
      omega
    refine turn i x items[i] H2 _ _ hi hx (List.getElem?_eq_getElem hi') (by rw [hd]; simp) s1 (fun hk y H3 s3 r => ?_) fun hk H3 s3 => ?_
    · refine ⟨acc, s3 _ _ hd, hl, below s1 s3, _, upd_same, ?_⟩
      rw [tk, List.filter_append, List.filter_cons, if_pos hk]
      have r1 : Rel (upd H3 D (.lst (acc ++ [y]))) items[i] y := lay _ _ _ _ _ (s3 _ _ hd) r
      have pr1 : Paired (fun z a => Rel (upd H3 D (.lst (acc ++ [y]))) a z) acc ((items.take i).filter keep) := Paired.imp' (fun y a h => lay _ a y _ _ (s3 _ _ hd) (mono _ _ a y s3 h)) pr
      exact Paired.snoc (F := fun z a => Rel (upd H3 D (.lst (acc ++ [y]))) a z) r1 pr1
    · refine ⟨s1.trans s3, acc, s3 _ _ hd, ?_⟩
      rw [tk, List.filter_append, List.filter_cons, if_neg (by rw [hk]; simp)]
      simp only [List.filter_nil, List.append_nil]
      exact Paired.imp' (fun y a h => mono _ _ _ _ s3 h) pr
  · obtain ⟨s1, acc, hd, pr⟩ := p
    rw [← hn, List.take_length] at pr
    exact fin H' acc s1 hd pr
/-- a comprehension over items, some of which are kept, each kept one a new thing; nothing that stood is changed -/
theorem lc_gen {α : Type} {J : It} {n : Nat} {G : Hp → Prop} {Y : Nat → Hp → V → Hp → Prop} {At : Nat → Hp → V → Prop} (w : Walk J n G Y) (hy : ∀ i H x H', Y i H x H' → H' = H ∧ At i H x) {g : TG} {tt : TT} {te : TE} {vs : List Nat} {σ : L2.St} {H : Hp} {D : Addr} {Qd : Hp → Prop}
    (items : List α) (keep : α → Bool) (hn : items.length = n) (hz : n < sizeLine) (hD : H D = none) (hG : ∀ H', Same H H' → G H') (Rel : Hp → α → V → Prop) (mono : ∀ H1 H2 a y, Same H1 H2 → Rel H1 a y → Rel H2 a y) (lay : ∀ H1 a y c c', H1 D = some (.lst c) → Rel H1 a y → Rel (upd H1 D (.lst c')) a y)
    (turn : ∀ (i : Nat) (x : V) (a : α) (H1 : Hp) (A : V → Hp → Prop) (B : Hp → Prop), i < n → At i H1 x → items[i]? = some a → Same H H1 → (keep a = true → ∀ y H2, Same H1 H2 → Rel H2 a y → A y H2) → (keep a = false → ∀ H2, Same H1 H2 → B H2) →
      g x (wipe σ vs) H1 fun σ2 H2 => wipe σ2 vs = wipe σ vs ∧ tt σ2 H2 fun b H3 => if b = true then te σ2 H3 A else B H3)
    (fin : ∀ H' acc, Same H H' → H' D = some (.lst acc) → Paired (fun y a => Rel H' a y) acc (items.filter keep) → Qd H') :
    ∃ W : Nat → Nat → Hp → Prop, (∃ m, W 0 m (upd H D (.lst []))) ∧ ∀ i m H, W i m H →
      (J.stop i H ∧ Qd H) ∨ (J.go i H ∧ ∃ Nx : Hp → Prop, (∀ H', Nx H' → ∃ m', m' < m ∧ W (i + 1) m' H') ∧ ∀ x H', J.yld i H x H' → g x (wipe σ vs) H' fun σ2 H2 => wipe σ2 vs = wipe σ vs ∧ tt σ2 H2 fun b H3 =>
        if b = true then te σ2 H3 fun y H4 => ∃ acc, H4 D = some (.lst acc) ∧ acc.length < sizeLine ∧ Nx (upd H4 D (.lst (acc ++ [y]))) else Nx H3) :=
  lc_genD w hy items keep hn hz hD hG Rel mono lay (fun i x a H1 A B hi hx ha _ s1 => turn i x a H1 A B hi hx ha s1) fin
end Sr

set_option Elab.async false
set_option linter.all false
set_option maxRecDepth 100000
set_option maxHeartbeats 4000000
namespace Sr
open PySem PySem.Spec PyProof.Rows L2
/-! ### dicts of sums -/
def intOf : Option V → Int
  | some (.int i) => i
  | _ => 0
section
variable {κ : Type} [DecidableEq κ]
def bump (kvs : List (κ × V)) (k : κ) (n : Int) : List (κ × V) := putK kvs k (.int (intOf (valV kvs k) + n))
structure Ints (P : κ → Prop) (kvs : List (κ × V)) : Prop where
  ent : ∀ e ∈ kvs, P e.1 ∧ ∃ n, e.2 = .int n
  nd : (kvs.map (·.1)).Nodup
theorem Ints.nil {P : κ → Prop} : Ints P ([] : List (κ × V)) := ⟨fun _ m => absurd m (by simp), List.nodup_nil⟩
theorem Ints.bump {P : κ → Prop} {kvs : List (κ × V)} {k : κ} {n : Int} (h : Ints P kvs) (hk : P k) : Ints P (Sr.bump kvs k n) := by
  unfold Sr.bump putK
  split
  · refine ⟨fun e m => ?_, ?_⟩
    · obtain ⟨e0, m0, rfl⟩ := List.mem_map.mp m
      split
      · exact ⟨(h.ent _ m0).1, _, rfl⟩
      · exact h.ent _ m0
    · rw [List.map_map]
      have e : (kvs.map ((fun x : κ × V => x.1) ∘ fun kv => if kv.1 = k then (kv.1, V.int (intOf (valV kvs k) + n)) else kv)) = kvs.map (·.1) := by
        refine List.map_congr_left fun kv _ => ?_
        show (if kv.1 = k then (kv.1, V.int (intOf (valV kvs k) + n)) else kv).1 = kv.1
        split <;> rfl
      rw [e]
      exact h.nd
  · rename_i no
    refine ⟨fun e m => ?_, ?_⟩
    · rcases List.mem_append.mp m with m | m
      · exact h.ent _ m
      · rw [List.mem_singleton.mp m]
        exact ⟨hk, _, rfl⟩
    · rw [List.map_append]
      refine List.nodup_append.mpr ⟨h.nd, by simp, fun a ha b hb e => no ?_⟩
      have hb' : b = k := by simpa using hb
      obtain ⟨kv, m, e2⟩ := List.mem_map.mp ha
      exact List.any_eq_true.mpr ⟨kv, m, decide_eq_true (e2.trans (e.trans hb'))⟩
theorem bump_len {kvs : List (κ × V)} {k : κ} {n : Int} : (Sr.bump kvs k n).length ≤ kvs.length + 1 := length_putK _ _ _
theorem val_of {kvs : List (κ × V)} : (kvs.map (·.1)).Nodup → ∀ {e : κ × V}, e ∈ kvs → valV kvs e.1 = some e.2 := by
  induction kvs with
  | nil => intro _ e m; cases m
  | cons p r ih =>
    intro nd e m
    rw [List.map_cons] at nd
    obtain ⟨n1, n2⟩ := List.nodup_cons.mp nd
    rcases List.mem_cons.mp m with rfl | m
    · exact valV_pos rfl
    · rw [valV_neg (fun z => n1 (by rw [z]; exact List.mem_map.mpr ⟨e, m, rfl⟩))]
      exact ih n2 m
theorem val_mem {kvs : List (κ × V)} {k : κ} {v : V} (h : valV kvs k = some v) : (k, v) ∈ kvs := by
  unfold valV at h
  obtain ⟨e, h1, h2⟩ := Option.map_eq_some_iff.mp h
  have h3 := List.find?_some h1
  have h4 : e.1 = k := of_decide_eq_true h3
  have m := List.mem_of_find?_eq_some h1
  rw [← h4, ← h2]
  exact m
/-- d.get(k, 0) -/
theorem Ints.get {P : κ → Prop} {kvs : List (κ × V)} (h : Ints P kvs) (k : κ) : (valV kvs k).getD (.int 0) = .int (intOf (valV kvs k)) := by
  cases e : valV kvs k with
  | none => rfl
  | some v =>
    obtain ⟨_, n, en⟩ := h.ent _ (val_mem e)
    have en : v = .int n := en
    subst en
    rfl
theorem Ints.at_ {P : κ → Prop} {kvs : List (κ × V)} (h : Ints P kvs) {k : κ} (m : k ∈ kvs.map (·.1)) : valV kvs k = some (.int (intOf (valV kvs k))) := by
  obtain ⟨e, m2, rfl⟩ := List.mem_map.mp m
  obtain ⟨_, n, en⟩ := h.ent _ m2
  rw [val_of h.nd m2, en]
  rfl
/-- sums of rows, each at its key -/
def sums {α : Type} (key : α → κ) (am : α → Int) (rows : List α) : List (κ × V) := rows.foldl (fun kvs r => bump kvs (key r) (am r)) []
theorem sums_snoc {α : Type} (key : α → κ) (am : α → Int) (rows : List α) (r : α) : sums key am (rows ++ [r]) = bump (sums key am rows) (key r) (am r) := by
  unfold sums
  rw [List.foldl_append]
  rfl
theorem sums_len {α : Type} (key : α → κ) (am : α → Int) : ∀ (rows : List α) (kvs : List (κ × V)), (rows.foldl (fun kvs r => bump kvs (key r) (am r)) kvs).length ≤ kvs.length + rows.length
  | [], _ => Nat.le_refl _
  | r :: t, kvs => by
    have h1 := sums_len key am t (bump kvs (key r) (am r))
    have h2 := bump_len (kvs := kvs) (k := key r) (n := am r)
    simp only [List.foldl_cons, List.length_cons]
    omega
theorem sums_ints {α : Type} {P : κ → Prop} (key : α → κ) (am : α → Int) : ∀ (rows : List α) (kvs : List (κ × V)), Ints P kvs → (∀ r ∈ rows, P (key r)) → Ints P (rows.foldl (fun kvs r => bump kvs (key r) (am r)) kvs)
  | [], _, h, _ => h
  | r :: t, kvs, h, hp => sums_ints key am t _ (h.bump (hp r List.mem_cons_self)) fun x m => hp x (List.mem_cons_of_mem _ m)
end
/-! ### what is told of sums with pairs of texts for keys -/
def small (p : Str × Str) : Prop := p.1.length ≤ 1000 ∧ p.2.length ≤ 1000
def isPk (k : List Key) : Prop := ∃ p, k = pk p ∧ small p
def unpk : List Key → Str × Str
  | [.inr a, .inr b] => (a, b)
  | _ => ("", "")
theorem unpk_pk (p : Str × Str) : unpk (pk p) = p := rfl
theorem pk_inj {p q : Str × Str} (h : pk p = pk q) : p = q := by rw [← unpk_pk p, ← unpk_pk q, h]
def keysOf (kvs : List (List Key × V)) : List (Str × Str) := kvs.map fun e => unpk e.1
theorem keysOf_eq {kvs : List (List Key × V)} (h : Ints isPk kvs) : kvs.map (·.1) = (keysOf kvs).map pk := by
  unfold keysOf
  rw [List.map_map]
  refine List.map_congr_left fun e m => ?_
  obtain ⟨⟨p, e1, _⟩, _⟩ := h.ent e m
  show e.1 = pk (unpk e.1)
  rw [e1, unpk_pk]
theorem keysOf_small {kvs : List (List Key × V)} (h : Ints isPk kvs) : ∀ p ∈ keysOf kvs, small p := fun p m => by
  obtain ⟨e, m2, rfl⟩ := List.mem_map.mp m
  obtain ⟨⟨q, e1, sm⟩, _⟩ := h.ent e m2
  rw [e1]
  exact sm
theorem keysOf_nodup {kvs : List (List Key × V)} (h : Ints isPk kvs) : (keysOf kvs).Nodup := by
  have nd := h.nd
  rw [keysOf_eq h] at nd
  exact List.Pairwise.imp (fun {a b} ne e => ne (by rw [e])) (List.pairwise_map.mp nd)
def amt (kvs : List (List Key × V)) (p : Str × Str) : Int := intOf (valV kvs (pk p))
def kept (kvs : List (List Key × V)) : List (Str × Str) := (pSort (keysOf kvs)).filter fun p => decide (amt kvs p ≠ 0)
def rowTd (p : Str × Str) (n : Int) : Dt := .tup [.str p.1, .str p.2, .int n]
def toldOf (kvs : List (List Key × V)) : List Dt := (kept kvs).map fun p => rowTd p (amt kvs p)
/-- what is told stands in the heap -/
theorem isA_told {H : Hp} {f : Str × Str → Int} : ∀ {acc : List V} {ks : List (Str × Str)}, Paired (fun y k => ∃ q, y = V.ref q ∧ H q = some (.tup [.str k.1, .str k.2, .int (f k)])) acc ks → (∀ k ∈ ks, small k) → IsA H acc (ks.map fun p => rowTd p (f p))
  | _, _, .nil, _ => .nil
  | _, _, .cons (b := k) ⟨q, e, h⟩ t, sm => by
    rw [e]
    have h1 := sm k List.mem_cons_self
    exact .cons (.tup h (.cons (.str _ h1.1) (.cons (.str _ h1.2) (.cons (.int _) .nil))) (show (3 : Nat) ≤ 60 by decide)) (isA_told t fun x m => sm x (List.mem_cons_of_mem _ m))
theorem kept_mem {kvs : List (List Key × V)} {p : Str × Str} (m : p ∈ kept kvs) : p ∈ keysOf kvs := (pSort_perm _).mem_iff.mp (List.mem_filter.mp m).1
theorem kept_nodup {kvs : List (List Key × V)} (h : Ints isPk kvs) : (kept kvs).Nodup := ((pSort_perm _).nodup_iff.mpr (keysOf_nodup h)).filter _
theorem kept_len {kvs : List (List Key × V)} : (kept kvs).length ≤ kvs.length := by
  refine Nat.le_trans (List.length_filter_le _ _) ?_
  rw [(pSort_perm _).length_eq]
  unfold keysOf
  rw [List.length_map]
  exact Nat.le_refl _
end Sr

set_option Elab.async false
set_option linter.all false
set_option maxRecDepth 100000
set_option maxHeartbeats 4000000
namespace Sr
open PySem PySem.Spec PyProof.Rows L2 LamX
/-! ### all but the draws' list -/
def rm (H : Hp) (a : Addr) : Hp := fun b => if b = a then none else H b
theorem cut_if {S REST : TS} {D : Ends} {σ : L2.St} {H : Hp} (G : L2.St → Hp → Prop) (hr : ∀ σ2 H2, G σ2 H2 → REST D σ2 H2) (h : (∀ σ2 H2, G σ2 H2 → REST D σ2 H2) → tSeq S REST D σ H) : tSeq S REST D σ H := h hr
theorem rm_same {H : Hp} {a : Addr} : Same (rm H a) H := fun b o e => by
  unfold rm at e
  split at e
  · cases e
  · exact e
theorem rm_at {H : Hp} {a : Addr} : rm H a a = none := by unfold rm; rw [if_pos rfl]
theorem rm_ne {H : Hp} {a b : Addr} (h : b ≠ a) : rm H a b = H b := by unfold rm; rw [if_neg h]
theorem rm_new {H : Hp} {a : Addr} {o : HO} (h : H a = none) : Same H (rm (upd H a o) a) := fun b x e => by
  have n := ne_of_none e h
  rw [rm_ne n, upd_ne n]
  exact e
theorem rm_upd {H : Hp} {a : Addr} {o : HO} : rm (upd H a o) a = rm H a := by
  funext b
  by_cases c : b = a
  · rw [c, rm_at, rm_at]
  · rw [rm_ne c, rm_ne c, upd_ne c]
theorem Same.rm {H H' : Hp} {a : Addr} (s : Same H H') : Same (Sr.rm H a) (Sr.rm H' a) := fun b o e => by
  by_cases c : b = a
  · rw [c, rm_at] at e; cases e
  · rw [rm_ne c] at e ⊢; exact s _ _ e
theorem rm_free {H : Hp} {a p : Addr} (h : H p = none) : rm H a p = none := by
  by_cases c : p = a
  · rw [c, rm_at]
  · rw [rm_ne c, h]
/-- an object of one's own changes: what stood ahead of it stays -/
theorem Same.set {M H : Hp} {p : Addr} {o : HO} (s : Same M H) (h : M p = none) : Same M (upd H p o) := fun b u e => by
  rw [upd_ne (ne_of_none e h)]
  exact s _ _ e
mutual
theorem Is.ext {H H' : Hp} (e : ExtN H H') : ∀ {v : V} {d : Dt}, Is H v d → Is H' v d
  | _, _, .non => .non
  | _, _, .bl b => .bl b
  | _, _, .int i => .int i
  | _, _, .str s h => .str s h
  | _, _, .lst h r z => .lst (e _ _ h (fun _ q => by cases q)) (IsA.ext e r) z
  | _, _, .tup h r z => .tup (e _ _ h (fun _ q => by cases q)) (IsA.ext e r) z
  | _, _, .dic h => .dic (e _ _ h (fun _ q => by cases q))
theorem IsA.ext {H H' : Hp} (e : ExtN H H') : ∀ {vs : List V} {ds : List Dt}, IsA H vs ds → IsA H' vs ds
  | _, _, .nil => .nil
  | _, _, .cons h r => .cons (Is.ext e h) (IsA.ext e r)
end
/-- what data consist of -/
def dataO : HO → Prop
  | .lst _ => True
  | .tup _ => True
  | .dK _ => True
  | _ => False
mutual
theorem Is.keep {H H' : Hp} (e : ∀ b o, H b = some o → dataO o → H' b = some o) : ∀ {v : V} {d : Dt}, Is H v d → Is H' v d
  | _, _, .non => .non
  | _, _, .bl b => .bl b
  | _, _, .int i => .int i
  | _, _, .str s h => .str s h
  | _, _, .lst h r z => .lst (e _ _ h trivial) (IsA.keep e r) z
  | _, _, .tup h r z => .tup (e _ _ h trivial) (IsA.keep e r) z
  | _, _, .dic h => .dic (e _ _ h trivial)
theorem IsA.keep {H H' : Hp} (e : ∀ b o, H b = some o → dataO o → H' b = some o) : ∀ {vs : List V} {ds : List Dt}, IsA H vs ds → IsA H' vs ds
  | _, _, .nil => .nil
  | _, _, .cons h r => .cons (Is.keep e h) (IsA.keep e r)
end
/-- a frozen thing let go -/
theorem thaw {H : Hp} {p : Addr} {od : Obj} {u o : HO} (h : H p = some (.frz od u)) : ∀ b x, H b = some x → dataO x → (upd H p o) b = some x := fun b x e d => by
  rw [upd_ne fun z => ?_]
  · exact e
  · rw [z, h] at e
    cases e
    exact d.elim
/-- no list of three ints within -/
def three : List Dt → Bool
  | [.int _, .int _, .int _] => true
  | _ => false
mutual
def noD : Dt → Bool
  | .lst l => !three l && noDs l
  | .tup l => noDs l
  | _ => true
def noDs : List Dt → Bool
  | [] => true
  | d :: r => noD d && noDs r
end
theorem noDs_all : ∀ {l : List Dt}, (∀ d ∈ l, noD d = true) → noDs l = true
  | [], _ => rfl
  | d :: r, h => by
    unfold noDs
    rw [h d List.mem_cons_self, noDs_all fun x m => h x (List.mem_cons_of_mem _ m)]
    rfl
theorem ints_three {H : Hp} {x y z : Int} {ds : List Dt} (h : IsA H [.int x, .int y, .int z] ds) : three ds = true := by
  cases h with
  | cons h1 t => cases t with
    | cons h2 t => cases t with
      | cons h3 t => cases t with
        | nil => cases h1 with
          | int i => cases h2 with
            | int j => cases h3 with
              | int k => rfl
mutual
theorem Is.off {H : Hp} {a : Addr} (hd : DrawsAt H a) : ∀ {v : V} {d : Dt}, Is H v d → noD d = true → Is (rm H a) v d
  | _, _, .non, _ => .non
  | _, _, .bl b, _ => .bl b
  | _, _, .int i, _ => .int i
  | _, _, .str s h, _ => .str s h
  | _, _, .lst (a := b) (xs := xs) (ds := ds) h r z, n => by
    unfold noD at n
    obtain ⟨n1, n2⟩ := Bool.and_eq_true_iff.mp n
    have ne : b ≠ a := fun e => by
      obtain ⟨o, ho, x, y, w, rfl⟩ := hd
      rw [← e, h] at ho
      have e2 : xs = [.int x, .int y, .int w] := by injection ho with ho; injection ho
      rw [e2] at r
      rw [ints_three r] at n1
      cases n1
    exact .lst (by rw [rm_ne ne]; exact h) (IsA.off hd r n2) z
  | _, _, .tup (a := b) h r z, n => by
    unfold noD at n
    have ne : b ≠ a := fun e => by
      obtain ⟨o, ho, x, y, w, rfl⟩ := hd
      rw [← e, h] at ho
      injection ho with ho
      cases ho
    exact .tup (by rw [rm_ne ne]; exact h) (IsA.off hd r n) z
  | _, _, .dic (a := b) h, _ => by
    have ne : b ≠ a := fun e => by
      obtain ⟨o, ho, x, y, w, rfl⟩ := hd
      rw [← e, h] at ho
      injection ho with ho
      cases ho
    exact .dic (by rw [rm_ne ne]; exact h)
theorem IsA.off {H : Hp} {a : Addr} (hd : DrawsAt H a) : ∀ {vs : List V} {ds : List Dt}, IsA H vs ds → noDs ds = true → IsA (rm H a) vs ds
  | _, _, .nil, _ => .nil
  | _, _, .cons h r, n => by
    unfold noDs at n
    obtain ⟨n1, n2⟩ := Bool.and_eq_true_iff.mp n
    exact .cons (Is.off hd h n1) (IsA.off hd r n2)
end
theorem Tabs.off {T : List (Addr × Str)} {H : Hp} {a : Addr} (t : Tabs T H) (hd : DrawsAt H a) : Tabs T (rm H a) := fun p hp => by
  obtain ⟨o, ho, x, y, w, rfl⟩ := hd
  obtain ⟨ps, h1, h2, h3⟩ := t p hp
  have n1 : p.1 ≠ a := fun e => by rw [e, ho] at h1; injection h1 with h1; cases h1
  refine ⟨ps, by rw [rm_ne n1]; exact h1, h2, fun pos cv hc => ?_⟩
  obtain ⟨c, e1, e2⟩ := h3 pos cv hc
  have n2 : c ≠ a := fun e => by
    rw [e, ho] at e2
    injection e2 with e2
    unfold CodeO at e2
    cases e2
  exact ⟨c, e1, by rw [rm_ne n2]; exact e2⟩
theorem ExtN.set {M H : Hp} {p : Addr} {o : HO} (e : ExtN M H) (h : M p = none) : ExtN M (upd H p o) := fun b u q n => by
  rw [upd_ne (ne_of_none q h)]
  exact e _ _ q n
theorem ExtN.none {H H' : Hp} {p : Addr} (e : ExtN H H') (h : H' p = Option.none) (n : ∀ ps, H p ≠ some (.tbl ps)) : H p = Option.none := by
  cases q : H p with
  | none => rfl
  | some o =>
    have := e _ _ q (fun ps z => n ps (by rw [q, z]))
    rw [this] at h
    cases h
theorem sql_ext {K : PySem.W.Frag} {H H' : Hp} {a : Addr} {xs : List V} (e : ExtN H H') (h : SqL K H a xs) : SqL K H' a xs := by
  rcases h with (h | ⟨u, h⟩) | h
  · exact .inl (.inl (e _ _ h fun _ q => by cases q))
  · exact .inl (.inr ⟨u, e _ _ h fun _ q => by cases q⟩)
  · exact .inr h
/-- a list changes: the tables stay -/
theorem Tabs.set {T : List (Addr × Str)} {H : Hp} {f : Addr} {xs ys : List V} (t : Tabs T H) (hf : H f = some (.lst xs)) : Tabs T (upd H f (.lst ys)) := fun p hp => by
  obtain ⟨ps, h1, h2, h3⟩ := t p hp
  have n1 : p.1 ≠ f := fun e => by rw [e, hf] at h1; injection h1 with h1; cases h1
  refine ⟨ps, by rw [upd_ne n1]; exact h1, h2, fun pos cv hc => ?_⟩
  obtain ⟨c, e1, e2⟩ := h3 pos cv hc
  have n2 : c ≠ f := fun e => by
    rw [e, hf] at e2
    injection e2 with e2
    unfold CodeO at e2
    cases e2
  exact ⟨c, e1, by rw [upd_ne n2]; exact e2⟩
theorem cut_to (xs : List V) {k : Nat} (h : k ≤ xs.length) : cutV xs none (some (k : Int)) = xs.take k := by
  unfold cutV
  rw [HT.sIx_none, HT.sIx_nat, Nat.min_eq_left h, Nat.sub_zero, List.drop_zero]
theorem cut_from (xs : List V) {k : Nat} (h : k ≤ xs.length) : cutV xs (some (k : Int)) none = xs.drop k := by
  unfold cutV
  rw [HT.sIx_none, HT.sIx_nat, Nat.min_eq_left h, List.take_of_length_le (by rw [List.length_drop]; exact Nat.le_refl _)]
/-! ### what is settled, beside the draws' list at a -/
structure Dr (a : Addr) (M H : Hp) : Prop where
  d : DrawsAt H a
  s : Same M (rm H a)
section
variable {a p : Addr} {M H H' : Hp} {o : HO}
theorem Dr.ne (D : Dr a M H) {b : Addr} {x : HO} (e : M b = some x) : b ≠ a := fun z => by
  have h := D.s _ _ e
  rw [z, rm_at] at h
  cases h
theorem Dr.get (D : Dr a M H) {b : Addr} {x : HO} (e : M b = some x) : H b = some x := rm_same _ _ (D.s _ _ e)
theorem Dr.up (D : Dr a M H) : Same M H := fun _ _ e => D.get e
theorem Dr.free (D : Dr a M H) {b : Addr} (h : H b = none) : M b = none := by
  cases q : M b with
  | none => rfl
  | some x => rw [D.get q] at h; cases h
theorem Dr.grow (D : Dr a M H) (s : Same H H') : Dr a M H' := ⟨by
  obtain ⟨o, e, x⟩ := D.d
  exact ⟨o, s _ _ e, x⟩, D.s.trans (Same.rm s)⟩
theorem Dr.lay (D : Dr a M H) (hp : H p = none) : Dr a (upd M p o) (upd H p o) ∧ Same M (upd M p o) := by
  have np : p ≠ a := fun z => D.d.some (by rw [← z]; exact hp)
  refine ⟨⟨(D.grow (Same.up hp)).d, fun b x e => ?_⟩, Same.up (D.free hp)⟩
  by_cases c : b = p
  · rw [c, upd_same] at e
    rw [c, rm_ne np, upd_same]
    exact e
  · rw [upd_ne c] at e
    have h := D.s _ _ e
    have nb : b ≠ a := D.ne e
    rw [rm_ne nb] at h ⊢
    rw [upd_ne c]
    exact h
theorem Dr.pick (D : Dr a M H) (ho : DrawsO o) : Dr a M (upd H a o) := ⟨⟨o, upd_same, ho⟩, by rw [rm_upd]; exact D.s⟩
end
end Sr

set_option Elab.async false
set_option linter.all false
set_option maxRecDepth 100000
set_option maxHeartbeats 4000000
namespace K34
open PySem PySem.Spec PyProof.Rows L2 Sr RZ
/-! ### draws (their count is not needed here) -/
def DrN (_ : Nat) (o : HO) : Prop := ∃ x y z : Int, o = .lst [.int x, .int y, .int z] ∧ True
def DnAt (n : Nat) (H : Hp) (a : Addr) : Prop := ∃ o, H a = some o ∧ DrN n o
theorem DrN.le {n m : Nat} {o : HO} (h : DrN n o) (l : n ≤ m) : DrN m o := by
  exact h
theorem DnAt.le {n m : Nat} {H : Hp} {a : Addr} (h : DnAt n H a) (l : n ≤ m) : DnAt m H a := by
  obtain ⟨o, e, x⟩ := h
  exact ⟨o, e, x.le l⟩
theorem DnAt.up {n : Nat} {H H' : Hp} {a : Addr} (h : DnAt n H a) (s : Same H H') : DnAt n H' a := by
  obtain ⟨o, e, x⟩ := h
  exact ⟨o, s _ _ e, x⟩
theorem DnAt.at_ {n : Nat} {H : Hp} {a : Addr} (h : DnAt n H a) : DrawsAt H a := by
  obtain ⟨o, e, x, y, z, r, _⟩ := h
  exact ⟨o, e, x, y, z, r⟩
theorem DnAt.some {n : Nat} {H : Hp} {a : Addr} (h : DnAt n H a) : H a ≠ none := h.at_.some
/-- something else is changed -/
theorem DnAt.set {n : Nat} {H : Hp} {a p : Addr} {o : HO} (h : DnAt n H a) (ne : p ≠ a) : DnAt n (upd H p o) a := by
  obtain ⟨o', e, x⟩ := h
  exact ⟨o', by rw [upd_ne ne.symm]; exact e, x⟩
theorem DnAt.new {n : Nat} {H : Hp} {a p : Addr} (h : DnAt n H a) (e : H p = none) : p ≠ a := fun z => h.some (by rw [← z]; exact e)
/-! ### what is beside the draws -/
theorem same_set {M H : Hp} {a t : Addr} {o : HO} (s : Same M (rm H a)) (n : M t = none) : Same M (rm (upd H t o) a) := fun b x e => by
  have nt : b ≠ t := ne_of_none e n
  have h := s _ _ e
  have na : b ≠ a := fun z => by rw [z, rm_at] at h; cases h
  rw [rm_ne na] at h ⊢
  rw [upd_ne nt]
  exact h
theorem DnAt.put {n : Nat} {H : Hp} {a : Addr} {o : HO} (h : DrN n o) : DnAt n (upd H a o) a := ⟨o, upd_same, h⟩
theorem rm_put {H : Hp} {a : Addr} {o : HO} : Same (rm H a) (rm (upd H a o) a) := by rw [rm_upd]; exact Same.refl _
theorem at_off {n : Nat} {H : Hp} {a b : Addr} {o : HO} (d : DnAt n H a) (h : H b = some o) (x : ∀ xs, o ≠ .lst xs) : rm H a b = some o := by
  rw [rm_ne fun z => ?_]
  · exact h
  · obtain ⟨o', e, _, _, _, e2, _⟩ := d
    rw [← z, h] at e
    cases e
    exact x _ e2
theorem rm_out {n : Nat} {H H' : Hp} {a b : Addr} (s : Same (rm H a) (rm H' a)) (d : DnAt n H' a) (h : H' b = none) : (rm H a) b = none := by
  cases e : rm H a b with
  | none => rfl
  | some o =>
    have := rm_same _ _ (s _ _ e)
    rw [h] at this
    cases this
/-- a comprehension that draws for each item; beside the draws and itself nothing is changed -/
theorem lc_draw {α : Type} {J : It} {n : Nat} {G : Hp → Prop} {Y : Nat → Hp → V → Hp → Prop} {At : Nat → Hp → V → Prop} (w : Walk J n G Y) (hy : ∀ i H x H', Y i H x H' → H' = H ∧ At i H x) {g : TG} {te : TE} {vs : List Nat} {σ : L2.St} {H : Hp} {a D : Addr} {k c : Nat} {Qd : Hp → Prop}
    (items : List α) (hn : items.length = n) (hz : n < sizeLine) (hD : H D = none) (d0 : DnAt k H a) (hG : ∀ H', Same (rm H a) (rm H' a) → G H') (Rel : Hp → α → V → Prop) (mono : ∀ H1 H2 x y, Same H1 H2 → Rel H1 x y → Rel H2 x y) (lay : ∀ H1 x y c c', H1 D = some (.lst c) → Rel H1 x y → Rel (upd H1 D (.lst c')) x y)
    (turn : ∀ (i : Nat) (x : V) (z : α) (H1 : Hp) (A : V → Hp → Prop) (B : Hp → Prop), i < n → At i H1 x → items[i]? = some z → H1 D ≠ none → DnAt (k + c * i) H1 a → Same (rm H a) (rm H1 a) → (∀ y H2, DnAt (k + c * (i + 1)) H2 a → Same (rm H1 a) (rm H2 a) → Rel (rm H2 a) z y → A y H2) →
      g x (wipe σ vs) H1 fun σ2 H2 => wipe σ2 vs = wipe σ vs ∧ tYes σ2 H2 fun b H3 => if b = true then te σ2 H3 A else B H3)
    (fin : ∀ H' acc, DnAt (k + c * n) H' a → Same (rm H a) (rm H' a) → H' D = some (.lst acc) → Paired (fun y z => Rel (rm H' a) z y) acc items → Qd H') :
    ∃ W : Nat → Nat → Hp → Prop, (∃ m, W 0 m (upd H D (.lst []))) ∧ ∀ i m H, W i m H →
      (J.stop i H ∧ Qd H) ∨ (J.go i H ∧ ∃ Nx : Hp → Prop, (∀ H', Nx H' → ∃ m', m' < m ∧ W (i + 1) m' H') ∧ ∀ x H', J.yld i H x H' → g x (wipe σ vs) H' fun σ2 H2 => wipe σ2 vs = wipe σ vs ∧ tYes σ2 H2 fun b H3 =>
        if b = true then te σ2 H3 fun y H4 => ∃ acc, H4 D = some (.lst acc) ∧ acc.length < sizeLine ∧ Nx (upd H4 D (.lst (acc ++ [y]))) else Nx H3) := by
  have nDa : D ≠ a := d0.new hD
  have mD : (rm H a) D = none := by rw [rm_ne nDa]; exact hD
  refine lc_it w (fun i H' => DnAt (k + c * i) H' a ∧ Same (rm H a) (rm H' a) ∧ ∃ acc, H' D = some (.lst acc) ∧ Paired (fun y z => Rel (rm H' a) z y) acc (items.take i)) ⟨d0.set nDa, same_set (Same.refl _) mD, [], upd_same, by simp; exact .nil⟩ (fun i H' _ p => hG H' p.2.1) (fun i x H1 H2 hi p y => ?_) fun H' p => ?_
  · obtain ⟨rfl, hx⟩ := hy _ _ _ _ y
    obtain ⟨d1, s1, acc, hd, pr⟩ := p
    have hi' : i < items.length := by omega
    have tk : items.take (i + 1) = items.take i ++ [items[i]] := by rw [List.take_add_one, List.getElem?_eq_getElem hi']; rfl
    have hl : acc.length < sizeLine := by
      have h1 := Paired.length pr
      rw [List.length_take] at h1
      omega
    refine turn i x items[i] H2 _ _ hi hx (List.getElem?_eq_getElem hi') (by rw [hd]; simp) d1 s1 fun y H3 d3 s3 r => ?_
    have hd3 : H3 D = some (.lst acc) := by
      have := s3 D _ (by rw [rm_ne nDa]; exact hd)
      rwa [rm_ne nDa] at this
    have hdr : (rm H3 a) D = some (.lst acc) := by rw [rm_ne nDa]; exact hd3
    have eu : rm (upd H3 D (.lst (acc ++ [y]))) a = upd (rm H3 a) D (.lst (acc ++ [y])) := by
      funext b
      by_cases c1 : b = a
      · rw [c1, rm_at, upd_ne nDa.symm, rm_at]
      · rw [rm_ne c1]
        by_cases c2 : b = D
        · rw [c2, upd_same, upd_same]
        · rw [upd_ne c2, upd_ne c2, rm_ne c1]
    refine ⟨acc, hd3, hl, d3.set nDa, same_set (s1.trans s3) mD, _, upd_same, ?_⟩
    rw [tk, eu]
    exact Paired.snoc (F := fun z a => Rel _ a z) (Paired.imp' (fun y a h => lay _ a y _ _ hdr (mono _ _ a y s3 h)) pr) (lay _ _ _ _ _ hdr r)
  · obtain ⟨d1, s1, acc, hd, pr⟩ := p
    rw [← hn, List.take_length] at pr
    exact fin H' acc d1 s1 hd pr
def spSource (K : PySem.W.Frag) : Sp := fun vs H Q _ => ∃ (s : Addr) (t : Int) (ns : List Int), vs = [.ref s, .int t] ∧ SqL K H s (ns.map V.int) ∧ 0 ≤ t ∧ ∀ p o, H p = none → DrN 0 o → Q (.ref p) (upd H p o)
def spDraw : Sp := fun vs H Q _ => ∃ (a : Addr) (m : Int) (n : Nat), vs = [.ref a, .int m] ∧ DnAt n H a ∧ n ≤ 1000000000 ∧ 1 ≤ m ∧ m < 1073741824 ∧ ∀ r o, 0 ≤ r → r < m → DrN (n + 1) o → Q (.int r) (upd H a o)
def spPick (K : PySem.W.Frag) : Sp := fun vs H Q _ => ∃ (a l : Addr) (xs : List V) (n : Nat), vs = [.ref a, .ref l] ∧ DnAt n H a ∧ n ≤ 1000000000 ∧ l ≠ a ∧ (SqL K H l xs ∨ SqT K H l xs) ∧ 1 ≤ xs.length ∧ xs.length < 1073741824 ∧ ∀ (i : Nat) v o, xs[i]? = some v → DrN (n + 1) o → Q v (upd H a o)
theorem kit_three (K : PySem.W.Frag) (d : Dt) : PySem.W.kitAny K (.type (tyN d)) [.type "int", .type "list", .type "tuple"] = some (isInt d || isSeq d) := by
  rw [kit_more (kit_int K d) (kit_seq K d)]
theorem cls_three (a b c : String) : Paired ClsV [V.ty a, V.ty b, V.ty c] [.type a, .type b, .type c] := .cons (.ty a) (.cons (.ty b) (.cons (.ty c) .nil))
/-- two that stand for one datum are the same -/
def spDeep (n : Nat) : Sp := fun vs H Q _ => ∃ (v u : V) (d : Dt), vs = [v, u] ∧ Is H v d ∧ Is H u d ∧ Dep n d ∧ ∀ H', Same H H' → Q (.bl true) H'
section
variable {P : Program} {w : World} {K : PySem.W.Frag} {mg : Str → Option Value} {base : Heap}
abbrev s__law_source : Stmt := top 35
theorem sc__law_source : FnScope ["script", "turn", "cell"] ["script", "turn"] (defScope s__law_source) := ⟨rfl, rfl, rfl, by decide +kernel, rfl, by decide +kernel, by decide +kernel⟩
theorem c__law_source (T : Txt K mg) (D : Dfn K mg "_law_source" s__law_source) : Cal P w K mg base 1 "_law_source" ["script", "turn"] (spSource K) := by
  refine D.cal sc__law_source (fun _ _ _ _ _ _ us hl => match us, hl with | [_, _], _ => rfl) (fun vs H Q E h => ?_) fun cdv A outer s H vs Q E hr h => ?_
  · obtain ⟨s, t, ns, rfl, _⟩ := h
    rfl
  obtain ⟨sc, t, ns, rfl, hS, h0, q⟩ := h
  refine ⟨_, (pss_cons (ps_set (i := 2) sc__law_source.nd rfl (by first | exact Or.inl rfl | exact Or.inr rfl) (pe_ifExp (pt_cmpR op_lt (pv 1) (pe_callB (id := "len") call_len_seq (by rfl) T.len (by decide +kernel) (pa_cons (pv 0) pa_nil)) (nomark _)) (pe_ix ix_list (pv 0) (pv 1) (fun _ _ => rfl)) (pe_op op_add (pe_op op_mul pe_int (pv 1)) pe_int)))
      (pss_one (ps_ret (pe_lst (pa_cons (pe_ifExp (pt_cmpR op_ge (pv 2) (pe_op op_pow pe_int pe_int) (nomark _)) (pv 2) pe_int) (pa_cons (pe_op op_mod (pe_callTy (T := "int") call_int1 (by rfl) T.int (by decide +kernel) (pa_cons (pv 2) pa_nil)) pe_int) (pa_cons pe_int pa_nil))))))), ?_⟩
  refine ⟨_, rfl, _, rfl, sc, _, rfl, .inl hS, _, _, rfl, rfl, _, rfl, ?_⟩
  by_cases h : t < ((ns.map V.int).length : Int)
  · rw [decide_eq_true h]
    have hlt : t.toNat < ns.length := by rw [List.length_map] at h; omega
    refine iteT ⟨_, rfl, _, rfl, sc, _, _, .int ns[t.toNat], rfl, rfl, hS, atI_of (j := t.toNat) (by omega) (by rw [List.getElem?_map, List.getElem?_eq_getElem hlt]; rfl), ?_⟩
    refine ⟨_, rfl, _, _, rfl, rfl, ⟨by decide, by decide, by decide⟩, _, _, rfl, rfl, _, rfl, ?_⟩
    refine iteB ?_ ?_
    · exact ⟨_, rfl, _, rfl, .inl ⟨_, rfl, _, _, rfl, rfl, (by show (0 : Int) < 2147483629; decide), three_line, fun p hp => q p _ hp ⟨_, _, _, rfl, trivial⟩⟩⟩
    · exact ⟨_, rfl, .inl ⟨_, rfl, _, _, rfl, rfl, (by show (0 : Int) < 2147483629; decide), three_line, fun p hp => q p _ hp ⟨_, _, _, rfl, trivial⟩⟩⟩
  · rw [decide_eq_false h]
    refine iteF ⟨_, rfl, _, _, rfl, rfl, .inl ⟨by decide, by decide⟩, _, _, rfl, rfl, ?_⟩
    refine ⟨_, rfl, _, _, rfl, rfl, ⟨by decide, by decide, by decide⟩, _, _, rfl, rfl, _, rfl, ?_⟩
    refine iteB ?_ ?_
    · exact ⟨_, rfl, _, rfl, .inl ⟨_, rfl, _, _, rfl, rfl, (by show (0 : Int) < 2147483629; decide), three_line, fun p hp => q p _ hp ⟨_, _, _, rfl, trivial⟩⟩⟩
    · exact ⟨_, rfl, .inl ⟨_, rfl, _, _, rfl, rfl, (by show (0 : Int) < 2147483629; decide), three_line, fun p hp => q p _ hp ⟨_, _, _, rfl, trivial⟩⟩⟩
abbrev s__law_draw : Stmt := top 36
theorem sc__law_draw : FnScope ["draws", "many", "digit"] ["draws", "many"] (defScope s__law_draw) := ⟨rfl, rfl, rfl, by decide +kernel, rfl, by decide +kernel, by decide +kernel⟩
theorem c__law_draw (T : Txt K mg) (D : Dfn K mg "_law_draw" s__law_draw) : Cal P w K mg base 1 "_law_draw" ["draws", "many"] spDraw := by
  refine D.cal sc__law_draw (fun _ _ _ _ _ _ us hl => match us, hl with | [_, _], _ => rfl) (fun vs H Q E h => ?_) fun cdv A outer s H vs Q E hr h => ?_
  · obtain ⟨a, m, n, rfl, _⟩ := h
    rfl
  obtain ⟨a, m, n, rfl, ⟨o, ho, x, y, z, rfl, _⟩, _, h1, h2, q⟩ := h
  refine ⟨_, (pss_cons (ps_if (pt_cmpR op_gt (pe_ix ix_list (pv 0) pe_int (fun _ _ => rfl)) pe_int (nomark _)) (pss_cons (ps_set (i := 2) sc__law_draw.nd rfl (by first | exact Or.inl rfl | exact Or.inr rfl) (pe_op op_mod (pe_callTy (T := "int") call_int1 (by rfl) T.int (by decide +kernel) (pa_cons (pe_ix ix_list (pv 0) pe_int (fun _ _ => rfl)) pa_nil)) (pv 1)))
      (pss_cons (ps_asg (pe_op op_fdiv (pe_ix ix_list (pv 0) pe_int (fun _ _ => rfl)) (pv 1)) (pg_sub (pv 0) pe_int set_list))
      (pss_one (ps_ret (pv 2))))) pss_nil)
      (pss_cons (ps_asg (pe_op op_add (pe_ix ix_list (pv 0) pe_int (fun _ _ => rfl)) pe_int) (pg_sub (pv 0) pe_int set_list))
      (pss_cons (ps_asg (pe_op op_mod (pe_callTy (T := "int") call_int1 (by rfl) T.int (by decide +kernel) (pa_cons (pe_op op_add (pe_op op_add (pe_op op_mul (pe_ix ix_list (pv 0) pe_int (fun _ _ => rfl)) pe_int) (pe_op op_mul (pe_ix ix_list (pv 0) pe_int (fun _ _ => rfl)) pe_int)) pe_int) pa_nil)) pe_int) (pg_sub (pv 0) pe_int set_list))
      (pss_one (ps_ret (pe_op op_mod (pe_callTy (T := "int") call_int1 (by rfl) T.int (by decide +kernel) (pa_cons (pe_op op_add (pe_op op_fdiv (pe_ix ix_list (pv 0) pe_int (fun _ _ => rfl)) pe_int) (pe_ix ix_list (pv 0) pe_int (fun _ _ => rfl))) pa_nil)) (pv 1))))))), ?_⟩
  have c : ∀ (X Y Z : Int), (V.int X :: V.int Y :: V.int Z :: []).length = 3 := fun _ _ _ => rfl
  refine ⟨_, rfl, a, _, _, _, rfl, rfl, SqL.of ho, rfl, _, _, rfl, rfl, _, rfl, ?_⟩
  refine iteB ?_ ?_
  rotate_left
  · refine ⟨_, rfl, a, _, _, _, rfl, rfl, SqL.of ho, rfl, _, _, rfl, rfl, _, rfl, a, _, _, 2, rfl, rfl, ho, rfl, ?_⟩
    refine ⟨_, rfl, a, _, _, _, rfl, rfl, SqL.of upd_same, rfl, _, _, rfl, rfl, .inr ⟨by decide, by decide⟩, ?_⟩
    refine ⟨_, rfl, a, _, _, _, rfl, rfl, SqL.of upd_same, rfl, _, _, rfl, rfl, .inr ⟨by decide, by decide⟩, _, _, rfl, rfl, _, _, rfl, rfl, .inl ⟨_, rfl, _, _, rfl, rfl, (by show (0 : Int) < 2147483629; decide), ?_⟩⟩
    refine ⟨_, rfl, a, _, _, 1, rfl, rfl, upd_same, rfl, ?_⟩
    rw [upd_upd]
    refine ⟨_, rfl, a, _, _, _, rfl, rfl, SqL.of upd_same, rfl, _, _, rfl, rfl, ⟨by decide, by decide⟩, _, rfl, a, _, _, _, rfl, rfl, SqL.of upd_same, rfl, _, _, rfl, rfl, .inl ⟨_, rfl, _, rfl, _, _, rfl, rfl, (show (0 : Int) < m by omega), ?_⟩⟩
    exact q _ _ (Int.emod_nonneg _ (by omega)) (Int.emod_lt_of_pos _ (by omega)) ⟨_, _, _, rfl, trivial⟩
  · refine ⟨_, rfl, a, _, _, _, rfl, rfl, SqL.of ho, rfl, .inl ⟨_, rfl, _, rfl, _, _, rfl, rfl, (show (0 : Int) < m by omega), ?_⟩⟩
    refine ⟨_, rfl, a, _, _, _, rfl, rfl, SqL.of ho, rfl, _, rfl, _, _, rfl, rfl, ⟨by omega, h2⟩, _, rfl, a, _, _, 0, rfl, rfl, ho, rfl, _, rfl, ?_⟩
    exact q _ _ (Int.emod_nonneg _ (by omega)) (Int.emod_lt_of_pos _ (by omega)) ⟨_, _, _, rfl, trivial⟩
abbrev s__law_pick : Stmt := top 37
theorem sc__law_pick : FnScope ["draws", "things"] ["draws", "things"] (defScope s__law_pick) := ⟨rfl, rfl, rfl, by decide +kernel, rfl, by decide +kernel, by decide +kernel⟩
theorem c__law_pick (T : Txt K mg) (D : Dfn K mg "_law_pick" s__law_pick) (C_law_draw : Cal P w K mg base 1 "_law_draw" ["draws", "many"] spDraw) : Cal P w K mg base 2 "_law_pick" ["draws", "things"] (spPick K) := by
  refine D.cal sc__law_pick (fun _ _ _ _ _ _ us hl => match us, hl with | [_, _], _ => rfl) (fun vs H Q E h => ?_) fun cdv A outer s H vs Q E hr h => ?_
  · obtain ⟨a, l, xs, n, rfl, _⟩ := h
    rfl
  obtain ⟨a, l, xs, n, rfl, hd, hb, hn, hx, l1, l2, q⟩ := h
  refine ⟨_, (pss_one (ps_ret (pe_ix ix_seq (pv 1) (pe_cal C_law_draw hr (by first | decide | omega) (by rfl) (pa_cons (pv 0) (pa_cons (pe_callB (id := "len") call_len_seq (by rfl) T.len (by decide +kernel) (pa_cons (pv 1) pa_nil)) pa_nil))) (fun _ _ => rfl)))), ?_⟩
  refine ⟨_, rfl, _, rfl, _, rfl, l, xs, rfl, hx, a, _, n, rfl, hd, hb, by omega, by omega, fun r o r0 r1 ho => ?_⟩
  have hlt : r.toNat < xs.length := by omega
  have e : atI xs r = some xs[r.toNat] := atI_of (j := r.toNat) (by omega) (List.getElem?_eq_getElem hlt)
  rcases seq_upd (o := o) hn hx with h | h
  · exact .inl ⟨l, xs, r, _, rfl, rfl, h, e, q r.toNat _ o (List.getElem?_eq_getElem hlt) ho⟩
  · exact .inr (.inl ⟨l, xs, r, _, rfl, rfl, h, e, q r.toNat _ o (List.getElem?_eq_getElem hlt) ho⟩)
abbrev s__law_same : Stmt := top 39
theorem sc__law_same : FnScope ["found", "due", "one", "other"] ["found", "due"] (defScope s__law_same) := ⟨rfl, rfl, rfl, by decide +kernel, rfl, by decide +kernel, by decide +kernel⟩
theorem c__law_same_deep (T : Txt K mg) (D : Dfn K mg "_law_same" s__law_same) : ∀ n : Nat, Cal P w K mg base (n + 1) "_law_same" ["found", "due"] (spDeep n) := by
  intro n
  induction n with
  | zero =>
    refine D.cal sc__law_same (fun _ _ _ _ _ _ us hl => match us, hl with | [_, _], _ => rfl) (fun vs H Q E h => ?_) fun cdv A outer s H vs Q E hr h => ?_
    · obtain ⟨v, u, d, rfl, _⟩ := h
      rfl
    obtain ⟨v, u, d, rfl, iv, iu, dp, q⟩ := h
    have hq : isSeq d = false := by cases dp <;> rfl
    refine ⟨_, (pss_cons (ps_if (pt_val (pe_callB (id := "isinstance") call_isiT (by rfl) T.isinstance (by decide +kernel) (pa_cons (pv 1) (pa_cons (pe_tup (pa_cons (pe_tyv (n := "list") (by rfl) T.list (by decide +kernel)) (pa_cons (pe_tyv (n := "tuple") (by rfl) T.tuple (by decide +kernel)) pa_nil))) pa_nil)))) pss_never pss_nil)
      (pss_cons (ps_if (pt_val (pe_callB (id := "isinstance") call_isi (by rfl) T.isinstance (by decide +kernel) (pa_cons (pv 1) (pa_cons (pe_tyv (n := "int") (by rfl) T.int (by decide +kernel)) pa_nil)))) (pss_one (ps_ret (pe_and (pe_callB (id := "isinstance") call_isi (by rfl) T.isinstance (by decide +kernel) (pa_cons (pv 0) (pa_cons (pe_tyv (n := "int") (by rfl) T.int (by decide +kernel)) pa_nil))) (pe_and (pe_cmpR op_eq (pe_callB (id := "isinstance") call_isi (by rfl) T.isinstance (by decide +kernel) (pa_cons (pv 0) (pa_cons (pe_tyv (n := "bool") (by rfl) T.bool (by decide +kernel)) pa_nil))) (pe_callB (id := "isinstance") call_isi (by rfl) T.isinstance (by decide +kernel) (pa_cons (pv 1) (pa_cons (pe_tyv (n := "bool") (by rfl) T.bool (by decide +kernel)) pa_nil))) (nomark _)) (pe_one (pe_cmpR op_eq (pv 0) (pv 1) (nomark _))))))) pss_nil)
      (pss_one (ps_ret (pe_and (pe_not (pe_callB (id := "isinstance") call_isiT (by rfl) T.isinstance (by decide +kernel) (pa_cons (pv 0) (pa_cons (pe_tup (pa_cons (pe_tyv (n := "int") (by rfl) T.int (by decide +kernel)) (pa_cons (pe_tyv (n := "list") (by rfl) T.list (by decide +kernel)) (pa_cons (pe_tyv (n := "tuple") (by rfl) T.tuple (by decide +kernel)) pa_nil)))) pa_nil)))) (pe_one (pe_cmpR op_eq (pv 0) (pv 1) (nomark _)))))))), ?_⟩
    refine ⟨_, rfl, two_line, fun p hp => ⟨_, p, [.ty "list", .ty "tuple"], _, _, _, rfl, upd_same, cls_two _ _, (iu.mono (Same.up hp)).ty, kit_seq K d, _, rfl, ?_⟩⟩
    rw [hq]
    have s1 : Same H _ := Same.up (o := .tup [.ty "list", .ty "tuple"]) hp
    refine iteF ⟨_, rfl, _, _, _, _, _, rfl, .ty _, (iu.mono s1).ty, kit_int K d, _, rfl, ?_⟩
    have s2 := s1
    have iv2 := iv.mono s2
    have iu2 := iu.mono s2
    cases hi : isInt d with
    | true =>
      refine iteT ⟨_, rfl, _, _, _, _, _, rfl, .ty _, iv2.ty, kit_int K d, _, rfl, ?_⟩
      rw [hi]
      refine iteT ⟨_, rfl, _, _, _, _, _, rfl, .ty _, iv2.ty, kit_bool K d, _, rfl, _, _, _, _, _, rfl, .ty _, iu2.ty, kit_bool K d, rfl, _, rfl, ?_⟩
      rw [decide_eq_true rfl]
      refine iteT ⟨_, rfl, _, rfl, ?_⟩
      obtain ⟨rfl, sc⟩ := flat_eq dp hq iv iu
      refine ⟨sc, ?_⟩
      rw [decide_eq_true rfl]
      exact q _ s2
    | false =>
      refine iteF ⟨_, rfl, lineN, fun p3 hp3 => ⟨_, p3, [.ty "int", .ty "list", .ty "tuple"], _, _, _, rfl, upd_same, cls_three _ _ _, (iv2.mono (Same.up hp3)).ty, kit_three K d, _, rfl, ?_⟩⟩
      have s3 := s2.trans (Same.up (o := .tup [.ty "int", .ty "list", .ty "tuple"]) hp3)
      rw [hi, hq]
      refine ⟨_, rfl, iteT ⟨_, rfl, _, rfl, ?_⟩⟩
      obtain ⟨rfl, sc⟩ := flat_eq dp hq iv iu
      refine ⟨sc, ?_⟩
      rw [decide_eq_true rfl]
      exact q _ s3
  | succ n ih =>
    refine D.cal sc__law_same (fun _ _ _ _ _ _ us hl => match us, hl with | [_, _], _ => rfl) (fun vs H Q E h => ?_) fun cdv A outer s H vs Q E hr h => ?_
    · obtain ⟨v, u, d, rfl, _⟩ := h
      rfl
    obtain ⟨v, u, d, rfl, iv, iu, dp, q⟩ := h
    cases hq : isSeq d with
    | false =>
      refine ⟨_, (pss_cons (ps_if (pt_val (pe_callB (id := "isinstance") call_isiT (by rfl) T.isinstance (by decide +kernel) (pa_cons (pv 1) (pa_cons (pe_tup (pa_cons (pe_tyv (n := "list") (by rfl) T.list (by decide +kernel)) (pa_cons (pe_tyv (n := "tuple") (by rfl) T.tuple (by decide +kernel)) pa_nil))) pa_nil)))) pss_never pss_nil)
      (pss_cons (ps_if (pt_val (pe_callB (id := "isinstance") call_isi (by rfl) T.isinstance (by decide +kernel) (pa_cons (pv 1) (pa_cons (pe_tyv (n := "int") (by rfl) T.int (by decide +kernel)) pa_nil)))) (pss_one (ps_ret (pe_and (pe_callB (id := "isinstance") call_isi (by rfl) T.isinstance (by decide +kernel) (pa_cons (pv 0) (pa_cons (pe_tyv (n := "int") (by rfl) T.int (by decide +kernel)) pa_nil))) (pe_and (pe_cmpR op_eq (pe_callB (id := "isinstance") call_isi (by rfl) T.isinstance (by decide +kernel) (pa_cons (pv 0) (pa_cons (pe_tyv (n := "bool") (by rfl) T.bool (by decide +kernel)) pa_nil))) (pe_callB (id := "isinstance") call_isi (by rfl) T.isinstance (by decide +kernel) (pa_cons (pv 1) (pa_cons (pe_tyv (n := "bool") (by rfl) T.bool (by decide +kernel)) pa_nil))) (nomark _)) (pe_one (pe_cmpR op_eq (pv 0) (pv 1) (nomark _))))))) pss_nil)
      (pss_one (ps_ret (pe_and (pe_not (pe_callB (id := "isinstance") call_isiT (by rfl) T.isinstance (by decide +kernel) (pa_cons (pv 0) (pa_cons (pe_tup (pa_cons (pe_tyv (n := "int") (by rfl) T.int (by decide +kernel)) (pa_cons (pe_tyv (n := "list") (by rfl) T.list (by decide +kernel)) (pa_cons (pe_tyv (n := "tuple") (by rfl) T.tuple (by decide +kernel)) pa_nil)))) pa_nil)))) (pe_one (pe_cmpR op_eq (pv 0) (pv 1) (nomark _)))))))), ?_⟩
      refine ⟨_, rfl, two_line, fun p hp => ⟨_, p, [.ty "list", .ty "tuple"], _, _, _, rfl, upd_same, cls_two _ _, (iu.mono (Same.up hp)).ty, kit_seq K d, _, rfl, ?_⟩⟩
      rw [hq]
      have s1 : Same H _ := Same.up (o := .tup [.ty "list", .ty "tuple"]) hp
      refine iteF ⟨_, rfl, _, _, _, _, _, rfl, .ty _, (iu.mono s1).ty, kit_int K d, _, rfl, ?_⟩
      have s2 := s1
      have iv2 := iv.mono s2
      have iu2 := iu.mono s2
      cases hi : isInt d with
      | true =>
        refine iteT ⟨_, rfl, _, _, _, _, _, rfl, .ty _, iv2.ty, kit_int K d, _, rfl, ?_⟩
        rw [hi]
        refine iteT ⟨_, rfl, _, _, _, _, _, rfl, .ty _, iv2.ty, kit_bool K d, _, rfl, _, _, _, _, _, rfl, .ty _, iu2.ty, kit_bool K d, rfl, _, rfl, ?_⟩
        rw [decide_eq_true rfl]
        refine iteT ⟨_, rfl, _, rfl, ?_⟩
        obtain ⟨rfl, sc⟩ := flat_eq dp hq iv iu
        refine ⟨sc, ?_⟩
        rw [decide_eq_true rfl]
        exact q _ s2
      | false =>
        refine iteF ⟨_, rfl, lineN, fun p3 hp3 => ⟨_, p3, [.ty "int", .ty "list", .ty "tuple"], _, _, _, rfl, upd_same, cls_three _ _ _, (iv2.mono (Same.up hp3)).ty, kit_three K d, _, rfl, ?_⟩⟩
        have s3 := s2.trans (Same.up (o := .tup [.ty "int", .ty "list", .ty "tuple"]) hp3)
        rw [hi, hq]
        refine ⟨_, rfl, iteT ⟨_, rfl, _, rfl, ?_⟩⟩
        obtain ⟨rfl, sc⟩ := flat_eq dp hq iv iu
        refine ⟨sc, ?_⟩
        rw [decide_eq_true rfl]
        exact q _ s3
    | true =>
      have C_law_same := ih
      refine ⟨_, (pss_cons (ps_if (pt_val (pe_callB (id := "isinstance") call_isiT (by rfl) T.isinstance (by decide +kernel) (pa_cons (pv 1) (pa_cons (pe_tup (pa_cons (pe_tyv (n := "list") (by rfl) T.list (by decide +kernel)) (pa_cons (pe_tyv (n := "tuple") (by rfl) T.tuple (by decide +kernel)) pa_nil))) pa_nil)))) (pss_cons (ps_if (PW.pt (pw_or (pt_cmpR op_ne (pe_callB (id := "isinstance") call_isi (by rfl) T.isinstance (by decide +kernel) (pa_cons (pv 0) (pa_cons (pe_tyv (n := "list") (by rfl) T.list (by decide +kernel)) pa_nil))) (pe_callB (id := "isinstance") call_isi (by rfl) T.isinstance (by decide +kernel) (pa_cons (pv 1) (pa_cons (pe_tyv (n := "list") (by rfl) T.list (by decide +kernel)) pa_nil))) (nomark _)) (pw_or1 (pt_cmpR op_ne (pe_callB (id := "isinstance") call_isi (by rfl) T.isinstance (by decide +kernel) (pa_cons (pv 0) (pa_cons (pe_tyv (n := "tuple") (by rfl) T.tuple (by decide +kernel)) pa_nil))) (pe_callB (id := "isinstance") call_isi (by rfl) T.isinstance (by decide +kernel) (pa_cons (pv 1) (pa_cons (pe_tyv (n := "tuple") (by rfl) T.tuple (by decide +kernel)) pa_nil))) (nomark _))))) (pss_one (ps_ret pe_bl)) pss_nil)
      (pss_one (ps_ret (pe_and (pe_cmpR op_eq (pe_callB (id := "len") call_len_seq (by rfl) T.len (by decide +kernel) (pa_cons (pv 0) pa_nil)) (pe_callB (id := "len") call_len_seq (by rfl) T.len (by decide +kernel) (pa_cons (pv 1) pa_nil)) (nomark _)) (pe_one (pe_callB (id := "all") (cr_all rfl) (by rfl) T.all (by decide +kernel) (pa_cons (pe_lc (own := [("one", 2), ("other", 3)]) (g := gTup K 2 (gCons (gName 2) (gCons (gName 3) gNil))) (tt := tYes) rfl sc__law_same.nd (pi_zipA (by rfl) T.zip (pa_cons (pv 0) (pa_cons (pv 1) pa_nil))) (blkOk_by (N := ["found", "due", "one", "other"]) (sc := defScope s__law_same) (by decide +kernel)) (fun _ _ _ _ _ => (pg_tup rfl (pgs_cons (pg_name (i := 2) sc__law_same.nd rfl (by first | exact Or.inl rfl | exact Or.inr rfl)) (pgs_cons (pg_name (i := 3) sc__law_same.nd rfl (by first | exact Or.inl rfl | exact Or.inr rfl)) pgs_nil)))) (fun _ _ _ _ _ => pts_nil) (fun _ _ _ _ _ => (pe_cal C_law_same hr (by first | decide | omega) (by rfl) (pa_cons (pv 2) (pa_cons (pv 3) pa_nil))))) pa_nil))))))) pss_nil)
      (pss_cons (ps_if (pt_val (pe_callB (id := "isinstance") call_isi (by rfl) T.isinstance (by decide +kernel) (pa_cons (pv 1) (pa_cons (pe_tyv (n := "int") (by rfl) T.int (by decide +kernel)) pa_nil)))) (pss_one (ps_ret (pe_and (pe_callB (id := "isinstance") call_isi (by rfl) T.isinstance (by decide +kernel) (pa_cons (pv 0) (pa_cons (pe_tyv (n := "int") (by rfl) T.int (by decide +kernel)) pa_nil))) (pe_and (pe_cmpR op_eq (pe_callB (id := "isinstance") call_isi (by rfl) T.isinstance (by decide +kernel) (pa_cons (pv 0) (pa_cons (pe_tyv (n := "bool") (by rfl) T.bool (by decide +kernel)) pa_nil))) (pe_callB (id := "isinstance") call_isi (by rfl) T.isinstance (by decide +kernel) (pa_cons (pv 1) (pa_cons (pe_tyv (n := "bool") (by rfl) T.bool (by decide +kernel)) pa_nil))) (nomark _)) (pe_one (pe_cmpR op_eq (pv 0) (pv 1) (nomark _))))))) pss_nil)
      pss_never)), ?_⟩
      cases iv with
      | lst hv rv zv =>
        cases iu with
        | lst hu ru zu =>
        rename_i a xs l b ys
        refine ⟨_, rfl, two_line, fun p hp => ⟨_, p, [.ty "list", .ty "tuple"], _, _, _, rfl, upd_same, cls_two _ _, ((Is.lst hu ru zu).mono (Same.up hp)).ty, kit_seq K _, _, rfl, iteT ?_⟩⟩
        have s1 : Same H _ := Same.up (o := .tup [.ty "list", .ty "tuple"]) hp
        have iv1 := (Is.lst hv rv zv).mono s1
        have iu1 := (Is.lst hu ru zu).mono s1
        refine ⟨_, rfl, _, _, _, _, _, rfl, .ty _, iv1.ty, kit_list K _, _, rfl, _, _, _, _, _, rfl, .ty _, iu1.ty, kit_list K _, rfl, _, rfl, ?_⟩
        rw [decide_eq_true rfl]
        refine iteF ⟨_, rfl, _, _, _, _, _, rfl, .ty _, iv1.ty, kit_tuple K _, _, rfl, _, _, _, _, _, rfl, .ty _, iu1.ty, kit_tuple K _, rfl, _, rfl, ?_⟩
        rw [decide_eq_true rfl]
        refine iteF ⟨_, rfl, a, xs, rfl, .inl (SqL.of (s1 _ _ hv)), _, rfl, b, ys, rfl, .inl (SqL.of (s1 _ _ hu)), rfl, _, rfl, ?_⟩
        have el : xs.length = ys.length := rv.len.trans ru.len.symm
        rw [el, decide_eq_true rfl]
        refine iteT ⟨_, rfl, _, rfl, a, b, xs, ys, rfl, .inl ⟨SqL.of (s1 _ _ hv), SqL.of (s1 _ _ hu), fun D hD =>
          lc_pairs (walk_zip (n := xs.length) (by omega)) (by decide) ((l.map fun _ => true).map V.bl) (by rw [List.length_map, List.length_map, rv.len]) (sz zv) hD (fun H2 s2 => ⟨SqL.of (s2 _ _ (s1 _ _ hv)), SqL.of (s2 _ _ (s1 _ _ hu))⟩)
            (fun k x y z H2 R hk hx hy hz s2 kk => ?_) (fun H2 s2 h2 => ⟨D, l.map fun _ => true, rfl, SqL.of h2, ?_⟩)⟩⟩
        · obtain ⟨d1, e1, i1⟩ := rv.get hx
          obtain ⟨d2, e2, i2⟩ := ru.get hy
          rw [e1] at e2
          cases e2
          rw [List.getElem?_map, List.getElem?_map, e1] at hz
          obtain rfl : V.bl true = z := Option.some.inj hz
          have dd : Dep n d1 := by
            cases dp with
            | lst _ _ h => exact h _ (List.mem_of_getElem? e1)
          exact ⟨_, rfl, _, rfl, x, y, d1, rfl, i1.mono (s1.trans s2), i2.mono (s1.trans s2), dd, kk⟩
        · rw [show (l.map fun _ => true).all id = true from by rw [List.all_map]; exact List.all_eq_true.mpr fun _ _ => rfl]
          exact q _ (s1.trans s2)
      | tup hv rv zv =>
        cases iu with
        | tup hu ru zu =>
        rename_i a xs l b ys
        refine ⟨_, rfl, two_line, fun p hp => ⟨_, p, [.ty "list", .ty "tuple"], _, _, _, rfl, upd_same, cls_two _ _, ((Is.tup hu ru zu).mono (Same.up hp)).ty, kit_seq K _, _, rfl, iteT ?_⟩⟩
        have s1 : Same H _ := Same.up (o := .tup [.ty "list", .ty "tuple"]) hp
        have iv1 := (Is.tup hv rv zv).mono s1
        have iu1 := (Is.tup hu ru zu).mono s1
        refine ⟨_, rfl, _, _, _, _, _, rfl, .ty _, iv1.ty, kit_list K _, _, rfl, _, _, _, _, _, rfl, .ty _, iu1.ty, kit_list K _, rfl, _, rfl, ?_⟩
        rw [decide_eq_true rfl]
        refine iteF ⟨_, rfl, _, _, _, _, _, rfl, .ty _, iv1.ty, kit_tuple K _, _, rfl, _, _, _, _, _, rfl, .ty _, iu1.ty, kit_tuple K _, rfl, _, rfl, ?_⟩
        rw [decide_eq_true rfl]
        refine iteF ⟨_, rfl, a, xs, rfl, .inr (SqT.of (s1 _ _ hv)), _, rfl, b, ys, rfl, .inr (SqT.of (s1 _ _ hu)), rfl, _, rfl, ?_⟩
        have el : xs.length = ys.length := rv.len.trans ru.len.symm
        rw [el, decide_eq_true rfl]
        refine iteT ⟨_, rfl, _, rfl, a, b, xs, ys, rfl, .inr ⟨SqT.of (s1 _ _ hv), SqT.of (s1 _ _ hu), fun D hD =>
          lc_pairs (walk_zipT (n := xs.length) (by omega)) (by decide) ((l.map fun _ => true).map V.bl) (by rw [List.length_map, List.length_map, rv.len]) (sz zv) hD (fun H2 s2 => ⟨SqT.of (s2 _ _ (s1 _ _ hv)), SqT.of (s2 _ _ (s1 _ _ hu))⟩)
            (fun k x y z H2 R hk hx hy hz s2 kk => ?_) (fun H2 s2 h2 => ⟨D, l.map fun _ => true, rfl, SqL.of h2, ?_⟩)⟩⟩
        · obtain ⟨d1, e1, i1⟩ := rv.get hx
          obtain ⟨d2, e2, i2⟩ := ru.get hy
          rw [e1] at e2
          cases e2
          rw [List.getElem?_map, List.getElem?_map, e1] at hz
          obtain rfl : V.bl true = z := Option.some.inj hz
          have dd : Dep n d1 := by
            cases dp with
            | tup _ _ h => exact h _ (List.mem_of_getElem? e1)
          exact ⟨_, rfl, _, rfl, x, y, d1, rfl, i1.mono (s1.trans s2), i2.mono (s1.trans s2), dd, kk⟩
        · rw [show (l.map fun _ => true).all id = true from by rw [List.all_map]; exact List.all_eq_true.mpr fun _ _ => rfl]
          exact q _ (s1.trans s2)
      | _ => cases hq
end
end K34

set_option Elab.async false
set_option linter.all false
set_option maxRecDepth 100000
set_option maxHeartbeats 4000000
namespace Sr
open PySem PySem.Spec PyProof.Rows L2
/-- a method of a list or a dict called in a comprehension's block -/
theorem pe_bmK {X : Cx} {T id name : String} {r : V → List V → Hp → VK → Prop} {o e : Expr} {es : List Expr} {to : TE} {t : TA} {apos cpos : Pos} (K : PySem.W.Frag) (hK : X.K = K) (pa : PlainAttrs T) (slot : Slot T name id) (hty : typeOf (.builtin id) = pure (.type "method_descriptor")) (hm : MtR X id r) (ho : PE X o to) (ha : PA X (e :: es) t)
    (hbase : attributeBase o name X.env (eval o X.env) = eval o X.env := by rfl)
    (hfew : ((backTo cpos (starEach (e :: es) X.env)).all (fun x => !x.1) && (backToKw cpos (keywordEach [] X.env)).all (fun x => x.1.isSome)
      && decide ((e :: es).length + ([] : List Keyword).length + (if ([] : List Keyword).isEmpty then 0 else 1) < 30)) = true := by rfl)
    (hline : (apos.endLine == cpos.line) = true := by rfl) (hs : starEach (e :: es) X.env = (false, eval e X.env) :: starEach es X.env := by rfl) (hplain : (backTo cpos (starEach es X.env)).any (·.1) = false := by rfl) :
    PE X (.Call (.Attribute o name apos) (e :: es) [] cpos) (tBM K T r to t) := by
  subst hK
  exact pe_bm pa slot hty hm ho ha hbase hfew hline hs hplain
end Sr

set_option Elab.async false
set_option linter.all false
set_option maxRecDepth 100000
set_option maxHeartbeats 4000000
namespace K34
open PySem PySem.Spec PyProof.Rows L2 Sr
theorem rm_dif {H : Hp} {a b : Addr} {o : HO} (h : (rm H a) b = some o) : b ≠ a := fun z => by rw [z, rm_at] at h; cases h
theorem rm_set {H : Hp} {a b : Addr} {o : HO} (n : b ≠ a) : rm (upd H b o) a = upd (rm H a) b o := by
  funext x
  by_cases c1 : x = a
  · rw [c1, rm_at, upd_ne n.symm, rm_at]
  · rw [rm_ne c1]
    by_cases c2 : x = b
    · rw [c2, upd_same, upd_same]
    · rw [upd_ne c2, upd_ne c2, rm_ne c1]
theorem erase_map {α β : Type} (f : α → β) : ∀ (l : List α) (i : Nat), (l.map f).eraseIdx i = (l.eraseIdx i).map f
  | [], _ => rfl
  | _ :: _, 0 => rfl
  | x :: r, i + 1 => congrArg (f x :: ·) (erase_map f r i)
theorem erase_perm {α : Type} : ∀ {l : List α} {i : Nat} {x : α}, l[i]? = some x → l.Perm (x :: l.eraseIdx i)
  | [], _, _, h => by simp at h
  | y :: r, 0, x, h => by
    obtain rfl : y = x := by simpa using h
    exact List.Perm.refl _
  | y :: r, i + 1, x, h => by
    have p := erase_perm (l := r) (i := i) (x := x) (by simpa using h)
    exact (p.cons y).trans (List.Perm.swap x y _)
/-- new ranks -/
def spMix : Sp := fun vs H Q _ => ∃ (a l : Addr) (xs : List V) (n : Nat), vs = [.ref a, .ref l] ∧ DnAt n H a ∧ n ≤ 1000000 ∧ (rm H a) l = some (.lst xs) ∧ xs.length ≤ 60 ∧
  ∀ (p : Addr) (H' : Hp) (ys : List V), DnAt (n + xs.length) H' a → Same (rm H a) (rm H' a) → (rm H a) p = none → (rm H' a) p = some (.lst ys) → ys.Perm xs → Q (.ref p) H'
section
variable {P : Program} {w : World} {K : PySem.W.Frag} {mg : Str → Option Value} {base : Heap}
abbrev s__law_mixed : Stmt := top 38
theorem sc__law_mixed : FnScope ["draws", "things", "left", "k"] ["draws", "things"] (defScope s__law_mixed) := ⟨rfl, rfl, rfl, by decide +kernel, rfl, by decide +kernel, by decide +kernel⟩
theorem c__law_mixed (T : Txt K mg) (D : Dfn K mg "_law_mixed" s__law_mixed) (C_law_draw : Cal P w K mg base 1 "_law_draw" ["draws", "many"] spDraw) : Cal P w K mg base 2 "_law_mixed" ["draws", "things"] spMix := by
  refine D.cal sc__law_mixed (fun _ _ _ _ _ _ us hl => match us, hl with | [_, _], _ => rfl) (fun vs H Q E h => ?_) fun cdv A outer s H vs Q E hr h => ?_
  · obtain ⟨a, l, xs, n, rfl, _⟩ := h
    rfl
  obtain ⟨a, l, xs, n, rfl, hd, hb, hl, hz, q⟩ := h
  refine ⟨_, (pss_cons (ps_set (i := 2) sc__law_mixed.nd rfl (by first | exact Or.inl rfl | exact Or.inr rfl) (pe_callTy (T := "list") call_list_of (by rfl) T.list (by decide +kernel) (pa_cons (pv 1) pa_nil)))
      (pss_one (ps_ret (pe_lc (own := [("k", 3)]) (g := gName 3) (tt := tYes) rfl sc__law_mixed.nd (pi_range1 (by rfl) T.range (pa_cons (pe_callB (id := "len") call_len_seq (by rfl) T.len (by decide +kernel) (pa_cons (pv 2) pa_nil)) pa_nil)) (blkOk_by (N := ["draws", "things", "left", "k"]) (sc := defScope s__law_mixed) (by decide +kernel)) (fun _ _ _ _ _ => (pg_name (i := 3) sc__law_mixed.nd rfl (by first | exact Or.inl rfl | exact Or.inr rfl))) (fun _ _ _ _ _ => pts_nil) (fun _ _ _ _ _ => (pe_bmK K rfl PySem.F.plainAttrs_list PySem.F.slot_list_pop PySem.F.type_list_pop mt_popAt (pv 2) (pa_cons (pe_cal C_law_draw hr (by first | decide | omega) (by rfl) (pa_cons (pv 0) (pa_cons (pe_callB (id := "len") (call_len_seqK K rfl) (by rfl) T.len (by decide +kernel) (pa_cons (pv 2) pa_nil)) pa_nil))) pa_nil))))))), ?_⟩
  have hl0 := rm_same _ _ hl
  have nla : l ≠ a := fun z => by rw [z, rm_at] at hl; cases hl
  refine ⟨_, rfl, _, _, rfl, .inl (SqL.of hl0), fun m hm => ?_⟩
  have sm := Same.up (H := H) (o := .lst xs) hm
  have nma := hd.new hm
  have d1 := hd.up sm
  have mm : (rm H a) m = none := by rw [rm_ne nma]; exact hm
  refine ⟨_, rfl, m, _, rfl, .inl (SqL.of upd_same), _, rfl, by omega, by omega, fun D hD => ?_⟩
  have nDa := d1.new hD
  have nDm : D ≠ m := fun z => by rw [z, upd_same] at hD; cases hD
  have hD0 : H D = none := by rw [upd_ne nDm] at hD; exact hD
  have mD : (rm H a) D = none := by rw [rm_ne nDa]; exact hD0
  refine lc_it walk_range (fun i H' => DnAt (n + i) H' a ∧ Same (rm H a) (rm H' a) ∧ ∃ ls acc, H' m = some (.lst ls) ∧ H' D = some (.lst acc) ∧ (acc ++ ls).Perm xs ∧ acc.length = i) ⟨d1.set nDa, same_set (Same.rm sm) mD, xs, [], (upd_ne nDm.symm).trans upd_same, upd_same, List.Perm.refl _, rfl⟩ (fun _ _ _ _ => trivial) (fun i x H1 H2 hi p y => ?_) fun H' p => ?_
  · obtain ⟨rfl, rfl⟩ := y
    obtain ⟨d2, s2, ls, acc, hm2, hD2, pm, la⟩ := p
    have hi' : i < xs.length := by omega
    have ll : acc.length + ls.length = xs.length := by rw [← List.length_append, pm.length_eq]
    refine ⟨rfl, _, rfl, .inl ⟨rfl, _, SqL.of hm2⟩, _, rfl, _, rfl, m, _, rfl, .inl (SqL.of hm2), a, _, n + i, rfl, d2, by omega, by omega, by omega, fun k o q0 q1 ho => ?_⟩
    have lt : k.toNat < ls.length := by omega
    have hy : ls[k.toNat]? = some ls[k.toNat] := List.getElem?_eq_getElem lt
    have pm1 := erase_perm hy
    refine ⟨m, ls, k, k.toNat, ls[k.toNat], rfl, rfl, (upd_ne nma).trans hm2, by omega, by omega, PySem.StrLaws.seqIndex_nonneg q0 (by omega), hy, acc, (upd_ne nDm).trans ((upd_ne nDa).trans hD2), sz (m := 60) (by omega), ?_⟩
    refine ⟨((DnAt.put ho).set nma).set nDa, same_set (same_set (s2.trans rm_put) mm) mD, ls.eraseIdx k.toNat, acc ++ [ls[k.toNat]], (upd_ne nDm.symm).trans upd_same, upd_same, ?_, by rw [List.length_append, la]; rfl⟩
    rw [List.append_assoc]
    exact (List.Perm.append_left acc pm1.symm).trans pm
  · obtain ⟨d2, s2, ls, acc, hm2, hD2, pm, la⟩ := p
    have e0 : ls = [] := by
      have := pm.length_eq
      rw [List.length_append] at this
      exact List.length_eq_zero_iff.mp (by omega)
    subst e0
    rw [List.append_nil] at pm
    exact q D H' acc (d2.le (by omega)) s2 mD (by rw [rm_ne nDa]; exact hD2) pm
end
end K34

set_option Elab.async false
set_option linter.all false
set_option maxRecDepth 100000
set_option maxHeartbeats 4000000
namespace K34
open PySem PySem.Spec PyProof.Rows L2 Sr
mutual
def tupD : Dt → Bool
  | .lst _ => false
  | .dic => false
  | .tup l => tupDs l
  | _ => true
def tupDs : List Dt → Bool
  | [] => true
  | d :: r => tupD d && tupDs r
end
def Tups (H H' : Hp) : Prop := ∀ b xs, H b = some (.tup xs) → H' b = some (.tup xs)
theorem Tups.trans {H H' H'' : Hp} (a : Tups H H') (b : Tups H' H'') : Tups H H'' := fun c xs e => b c xs (a c xs e)
theorem Tups.of {H H' : Hp} (s : Same H H') : Tups H H' := fun b xs e => s _ _ e
mutual
theorem is_tups {H H' : Hp} (k : Tups H H') : ∀ {v : V} {d : Dt}, Is H v d → tupD d = true → Is H' v d
  | _, _, .non, _ => .non
  | _, _, .bl b, _ => .bl b
  | _, _, .int i, _ => .int i
  | _, _, .str s h, _ => .str s h
  | _, _, .tup h r z, p => .tup (k _ _ h) (isA_tups k r p) z
  | _, _, .lst _ _ _, p => by cases p
  | _, _, .dic _, p => by cases p
theorem isA_tups {H H' : Hp} (k : Tups H H') : ∀ {vs : List V} {ds : List Dt}, IsA H vs ds → tupDs ds = true → IsA H' vs ds
  | _, _, .nil, _ => .nil
  | _, _, .cons h r, p => .cons (is_tups k h (Bool.and_eq_true_iff.mp p).1) (isA_tups k r (Bool.and_eq_true_iff.mp p).2)
end
theorem tups_set {H : Hp} {p : Addr} {o : HO} (n : ∀ xs, H p ≠ some (.tup xs)) : Tups H (upd H p o) := fun b xs e => by
  rw [upd_ne fun z => n xs (by rw [← z]; exact e)]
  exact e
/-! ### tuples for lists throughout -/
mutual
def frzD : Dt → Dt
  | .lst l => .tup (frzDs l)
  | .tup l => .tup (frzDs l)
  | d => d
def frzDs : List Dt → List Dt
  | [] => []
  | d :: r => frzD d :: frzDs r
end
theorem frzDs_map : ∀ l : List Dt, frzDs l = l.map frzD
  | [] => rfl
  | d :: r => by
    show frzD d :: frzDs r = frzD d :: r.map frzD
    rw [frzDs_map r]
theorem tupDs_of : ∀ {l : List Dt}, (∀ d ∈ l, tupD d = true) → tupDs l = true
  | [], _ => rfl
  | d :: r, h => by
    show (tupD d && tupDs r) = true
    rw [h d List.mem_cons_self, tupDs_of fun x m => h x (List.mem_cons_of_mem _ m)]
    rfl
theorem frz_tup : ∀ {n : Nat} {d : Dt}, Dep n d → tupD (frzD d) = true
  | _, _, .non _ => rfl
  | _, _, .bl _ _ => rfl
  | _, _, .int _ _ => rfl
  | _, _, .str _ _ => rfl
  | _, _, .lst n l h => by
    show tupDs (frzDs l) = true
    rw [frzDs_map]
    exact tupDs_of fun x m => by
      obtain ⟨d, md, e⟩ := List.mem_map.mp m
      rw [← e]
      exact frz_tup (h d md)
  | _, _, .tup n l h => by
    show tupDs (frzDs l) = true
    rw [frzDs_map]
    exact tupDs_of fun x m => by
      obtain ⟨d, md, e⟩ := List.mem_map.mp m
      rw [← e]
      exact frz_tup (h d md)
def spFrz (n : Nat) : Sp := fun vs H Q _ => ∃ v d, vs = [v] ∧ Is H v d ∧ Dep n d ∧ ∀ u H', Same H H' → Is H' u (frzD d) → Q u H'
theorem isA_paired {H : Hp} {f : Dt → Dt} : ∀ {us : List V} {ds : List Dt}, Paired (fun v d => Is H v (f d)) us ds → IsA H us (ds.map f)
  | _, _, .nil => .nil
  | _, _, .cons h r => .cons h (isA_paired r)
section
variable {P : Program} {w : World} {K : PySem.W.Frag} {mg : Str → Option Value} {base : Heap}
abbrev s_frozen : Stmt := top 8
theorem sc_frozen : FnScope ["thing", "part"] ["thing"] (defScope s_frozen) := ⟨rfl, rfl, rfl, by decide +kernel, rfl, by decide +kernel, by decide +kernel⟩
theorem c_frozen (T : Txt K mg) (D : Dfn K mg "frozen" s_frozen) (C_is_list : Cal P w K mg base 1 "is_list" ["thing"] (spB isSeq)) : ∀ n : Nat, Cal P w K mg base (n + 2) "frozen" ["thing"] (spFrz n) := by
  intro n
  induction n with
  | zero =>
    refine D.cal sc_frozen (fun _ _ _ _ _ _ us hl => match us, hl with | [_], _ => rfl) (fun vs H Q E h => ?_) fun cdv A outer s H vs Q E hr h => ?_
    · obtain ⟨v, d, rfl, _⟩ := h
      rfl
    obtain ⟨v, d, rfl, iv, dp, q⟩ := h
    have hq : isSeq d = false := by cases dp <;> rfl
    refine ⟨_, (pss_cons (ps_if (pt_val (pe_cal C_is_list hr (by first | decide | omega) (by rfl) (pa_cons (pv 0) pa_nil))) pss_never pss_nil)
      (pss_one (ps_ret (pv 0)))), ?_⟩
    refine ⟨_, rfl, v, d, rfl, iv, fun H1 s1 => ⟨_, rfl, ?_⟩⟩
    rw [hq]
    have e : frzD d = d := by cases dp <;> rfl
    exact iteF ⟨_, rfl, q v H1 s1 (by rw [e]; exact iv.mono s1)⟩
  | succ n ih =>
    have C_frozen := ih
    refine D.cal sc_frozen (fun _ _ _ _ _ _ us hl => match us, hl with | [_], _ => rfl) (fun vs H Q E h => ?_) fun cdv A outer s H vs Q E hr h => ?_
    · obtain ⟨v, d, rfl, _⟩ := h
      rfl
    obtain ⟨v, d, rfl, iv, dp, q⟩ := h
    have iv0 := iv
    cases iv with
    | lst hv rv zv =>
      rename_i a xs l
      have dl : ∀ d ∈ l, Dep n d := by cases dp with | lst _ _ h => exact h
      refine ⟨_, (pss_cons (ps_if (pt_val (pe_cal C_is_list hr (by first | decide | omega) (by rfl) (pa_cons (pv 0) pa_nil))) (pss_one (ps_ret (pe_callTy (T := "tuple") call_tuple_of (by rfl) T.tuple (by decide +kernel) (pa_cons (pe_lc (own := [("part", 1)]) (g := gName 1) (tt := tYes) rfl sc_frozen.nd (pi_list (pv 0)) (blkOk_by (N := ["thing", "part"]) (sc := defScope s_frozen) (by decide +kernel)) (fun _ _ _ _ _ => (pg_name (i := 1) sc_frozen.nd rfl (by first | exact Or.inl rfl | exact Or.inr rfl))) (fun _ _ _ _ _ => pts_nil) (fun _ _ _ _ _ => (pe_cal C_frozen hr (by first | decide | omega) (by rfl) (pa_cons (pv 1) pa_nil)))) pa_nil)))) pss_nil)
      (pss_one (ps_ret (pv 0)))), ?_⟩
      refine ⟨_, rfl, _, _, rfl, iv0, fun H1 s1 => ⟨_, rfl, iteT ⟨_, rfl, a, rfl, ⟨_, SqL.of (s1 _ _ hv)⟩, fun D hD => lc_gen walk_list walk_at l (fun _ => true) rv.len.symm (sz zv) hD (fun H' s' => SqL.of (s' _ _ (s1 _ _ hv))) (fun H' d v => Is H' v (frzD d) ∧ tupD (frzD d) = true) (fun _ _ _ _ e h => ⟨h.1.mono e, h.2⟩) (fun _ _ _ _ _ e h => ⟨is_tups (tups_set fun xs => by rw [e]; intro z; cases z) h.1 h.2, h.2⟩) (fun i x d H2 A B hi hx hd s2 kA kB => ?_) (fun H2 acc s2 h2 pr => ?_)⟩⟩⟩
      · obtain ⟨d', e1, i1⟩ := rv.get hx
        rw [hd] at e1
        cases e1
        have dd := dl d (List.mem_of_getElem? hd)
        exact ⟨rfl, _, rfl, x, d, rfl, i1.mono (s1.trans s2), dd, fun u H3 s3 iu => kA rfl u H3 s3 ⟨iu, frz_tup dd⟩⟩
      · rw [List.filter_eq_self.mpr fun _ _ => rfl] at pr
        have ia := isA_paired (f := frzD) (L2.Paired.mapP pr fun _ _ h => h.1)
        refine ⟨D, acc, rfl, .inl ⟨SqL.of h2, fun p hp => q _ _ (s1.trans (s2.trans (Same.up hp))) ?_⟩⟩
        show Is _ (.ref p) (.tup (frzDs l))
        rw [frzDs_map]
        exact .tup upd_same (ia.mono (Same.up hp)) (by rw [Paired.length pr, ← rv.len]; exact zv)
    | tup hv rv zv =>
      rename_i a xs l
      have dl : ∀ d ∈ l, Dep n d := by cases dp with | tup _ _ h => exact h
      refine ⟨_, (pss_cons (ps_if (pt_val (pe_cal C_is_list hr (by first | decide | omega) (by rfl) (pa_cons (pv 0) pa_nil))) (pss_one (ps_ret (pe_callTy (T := "tuple") call_tuple_of (by rfl) T.tuple (by decide +kernel) (pa_cons (pe_lc (own := [("part", 1)]) (g := gName 1) (tt := tYes) rfl sc_frozen.nd (pi_tup (pv 0)) (blkOk_by (N := ["thing", "part"]) (sc := defScope s_frozen) (by decide +kernel)) (fun _ _ _ _ _ => (pg_name (i := 1) sc_frozen.nd rfl (by first | exact Or.inl rfl | exact Or.inr rfl))) (fun _ _ _ _ _ => pts_nil) (fun _ _ _ _ _ => (pe_cal C_frozen hr (by first | decide | omega) (by rfl) (pa_cons (pv 1) pa_nil)))) pa_nil)))) pss_nil)
      (pss_one (ps_ret (pv 0)))), ?_⟩
      refine ⟨_, rfl, _, _, rfl, iv0, fun H1 s1 => ⟨_, rfl, iteT ⟨_, rfl, a, rfl, ⟨_, SqT.of (s1 _ _ hv)⟩, fun D hD => lc_gen walk_tup walk_at l (fun _ => true) rv.len.symm (sz zv) hD (fun H' s' => SqT.of (s' _ _ (s1 _ _ hv))) (fun H' d v => Is H' v (frzD d) ∧ tupD (frzD d) = true) (fun _ _ _ _ e h => ⟨h.1.mono e, h.2⟩) (fun _ _ _ _ _ e h => ⟨is_tups (tups_set fun xs => by rw [e]; intro z; cases z) h.1 h.2, h.2⟩) (fun i x d H2 A B hi hx hd s2 kA kB => ?_) (fun H2 acc s2 h2 pr => ?_)⟩⟩⟩
      · obtain ⟨d', e1, i1⟩ := rv.get hx
        rw [hd] at e1
        cases e1
        have dd := dl d (List.mem_of_getElem? hd)
        exact ⟨rfl, _, rfl, x, d, rfl, i1.mono (s1.trans s2), dd, fun u H3 s3 iu => kA rfl u H3 s3 ⟨iu, frz_tup dd⟩⟩
      · rw [List.filter_eq_self.mpr fun _ _ => rfl] at pr
        have ia := isA_paired (f := frzD) (L2.Paired.mapP pr fun _ _ h => h.1)
        refine ⟨D, acc, rfl, .inl ⟨SqL.of h2, fun p hp => q _ _ (s1.trans (s2.trans (Same.up hp))) ?_⟩⟩
        show Is _ (.ref p) (.tup (frzDs l))
        rw [frzDs_map]
        exact .tup upd_same (ia.mono (Same.up hp)) (by rw [Paired.length pr, ← rv.len]; exact zv)
    | _ =>
      refine ⟨_, (pss_cons (ps_if (pt_val (pe_cal C_is_list hr (by first | decide | omega) (by rfl) (pa_cons (pv 0) pa_nil))) pss_never pss_nil)
      (pss_one (ps_ret (pv 0)))), ?_⟩
      exact ⟨_, rfl, _, _, rfl, iv0, fun H1 s1 => ⟨_, rfl, iteF ⟨_, rfl, q _ H1 s1 (iv0.mono s1)⟩⟩⟩
end
end K34

set_option Elab.async false
set_option linter.all false
set_option maxRecDepth 100000
set_option maxHeartbeats 4000000
namespace Sr
open PySem PySem.Spec PyProof.Rows L2
theorem blkOk_in {N : List Str} {sc sc2 scope : Scope} {own : List (Str × Nat)} (h : blkC N { sc with names := [] } scope own = true) : BlkOk N sc2 scope own := by
  obtain ⟨h1, h2, h3, h4, h5⟩ := blkOk_by h
  refine ⟨h1, h2, h3, fun y hy e => ?_, h5⟩
  rcases h4 y hy e with z | z <;> cases z
theorem pi_seqK {X : Cx} (K : PySem.W.Frag) (hK : X.K = K) {tg l : Expr} {tl : TE} (hl : PE X l tl) : PI X tg l (iSeq K tl) := hK ▸ pi_seq hl
theorem pi_listK {X : Cx} (K : PySem.W.Frag) (hK : X.K = K) {tg l : Expr} {tl : TE} (hl : PE X l tl) : PI X tg l (iList K tl) := hK ▸ pi_list hl
theorem pe_fldK {X : Cx} (K : PySem.W.Frag) (hK : X.K = K) {e : Expr} {f : Str} {ta : TE} {pos : Pos} (he : PE X e ta) (hb : attributeBase e f X.env (eval e X.env) = eval e X.env) : PE X (.Attribute e f pos) (tFld K ta f) := hK ▸ pe_fld he hb
/-- a comprehension that tells f of each item, whatever its target -/
theorem lc_f {α : Type} {J : It} {n : Nat} {G : Hp → Prop} {Y : Nat → Hp → V → Hp → Prop} {At : Nat → Hp → V → Prop} (w : Walk J n G Y) (hy : ∀ i H x H', Y i H x H' → H' = H ∧ At i H x) {g : TG} {te : TE} {vs : List Nat} {σ : L2.St} {H : Hp} {D : Addr} {Qd : Hp → Prop}
    (items : List α) (f : α → V) (hn : items.length = n) (hz : n < sizeLine) (hD : H D = none) (hG : ∀ H', Same H H' → G H')
    (turn : ∀ (i : Nat) (x : V) (a : α) (H1 : Hp) (A : V → Hp → Prop), i < n → At i H1 x → items[i]? = some a → Same H H1 → (∀ H2, Same H1 H2 → A (f a) H2) → g x (wipe σ vs) H1 fun σ2 H2 => wipe σ2 vs = wipe σ vs ∧ te σ2 H2 A)
    (fin : ∀ H', Same H H' → H' D = some (.lst (items.map f)) → Qd H') :
    ∃ W : Nat → Nat → Hp → Prop, (∃ m, W 0 m (upd H D (.lst []))) ∧ ∀ i m H, W i m H →
      (J.stop i H ∧ Qd H) ∨ (J.go i H ∧ ∃ Nx : Hp → Prop, (∀ H', Nx H' → ∃ m', m' < m ∧ W (i + 1) m' H') ∧ ∀ x H', J.yld i H x H' → g x (wipe σ vs) H' fun σ2 H2 => wipe σ2 vs = wipe σ vs ∧ tYes σ2 H2 fun b H3 =>
        if b = true then te σ2 H3 fun y H4 => ∃ acc, H4 D = some (.lst acc) ∧ acc.length < sizeLine ∧ Nx (upd H4 D (.lst (acc ++ [y]))) else Nx H3) := by
  refine lc_gen w hy items (fun _ => true) hn hz hD hG (fun _ a y => y = f a) (fun _ _ _ _ _ h => h) (fun _ _ _ _ _ _ h => h) (fun i x a H1 A B lt hx ha s1 kA kB => ?_) (fun H' acc s' h' p' => fin H' s' ?_)
  · have h := turn i x a H1 A lt hx ha s1 fun H2 s2 => kA rfl _ _ s2 rfl
    simp only [tYes, if_true]
    exact h
  · rw [List.filter_eq_self.mpr fun _ _ => rfl] at p'
    rw [h']
    have : ∀ {l : List V} {m : List α}, Paired (fun y a => y = f a) l m → l = m.map f := by
      intro l m h
      induction h with
      | nil => rfl
      | cons h _ ih => rw [h, ih, List.map_cons]
    rw [this p']
theorem at_any {xs : List V} : ∀ (i : Nat) (H : Hp) (x : V) (H' : Hp), YAt xs i H x H' → H' = H ∧ xs[i]? = some x := fun _ _ _ _ y => y
theorem call_dictPK {X : Cx} (K : PySem.W.Frag) (hK : X.K = K) (hc : X.calm = true) : CallR X (.type "dict") (fun xs H Q => ∃ (a : Addr) (ps : List Addr) (kvs : List (Key × V)), xs = [.ref a] ∧ SqL K H a (ps.map V.ref) ∧ Paired (fun p kv => SqT K H p [kV kv.1, kv.2]) ps kvs ∧ ∀ p, H p = none → Q (.ref p) (upd H p (.dK (mergeK [] kvs)))) := hK ▸ call_dictP hc
end Sr

set_option Elab.async false
set_option linter.all false
set_option maxRecDepth 100000
set_option maxHeartbeats 4000000
namespace K34
open PySem PySem.Spec PyProof.Rows L2 Sr
theorem name_short {s : Str} (h : nameOk (.str s) = true) : s.length ≤ 1000 := by
  have h2 := (Bool.and_eq_true_iff.mp (Bool.and_eq_true_iff.mp h).1).2
  have := of_decide_eq_true h2
  omega
theorem lenN (n m : Nat) : decide (V.int (n : Nat) = V.int (m : Nat)) = decide (n = m) := by
  by_cases c : n = m
  · rw [c, decide_eq_true rfl, decide_eq_true rfl]
  · rw [decide_eq_false c, decide_eq_false fun h => c (by have := V.int.inj h; omega)]
/-! ### legs and items -/
abbrev Leg := Str × Str × Int × Str
def goodL (g : Leg) : Prop := nameOk (.str g.1) = true ∧ nameOk (.str g.2.1) = true ∧ nameOk (.str g.2.2.2) = true ∧ g.1 ≠ g.2.2.2 ∧ 1 ≤ g.2.2.1
def legVs (g : Leg) : List V := [.str g.1, .str g.2.1, .int g.2.2.1, .str g.2.2.2]
def legDs (g : Leg) : List Dt := [.str g.1, .str g.2.1, .int g.2.2.1, .str g.2.2.2]
def LegV (H : Hp) (v : V) (g : Leg) : Prop := ∃ t, v = .ref t ∧ (H t = some (.lst (legVs g)) ∨ H t = some (.tup (legVs g)))
def ItmV (H : Hp) (v : V) (it : List Leg) : Prop := ∃ t us, v = .ref t ∧ (H t = some (.lst us) ∨ H t = some (.tup us)) ∧ Paired (LegV H) us it
def ItsV (H : Hp) (v : V) (its : List (List Leg)) : Prop := ∃ t us, v = .ref t ∧ (H t = some (.lst us) ∨ H t = some (.tup us)) ∧ Paired (ItmV H) us its
def goodIts (its : List (List Leg)) : Prop := its.length ≤ 12 ∧ ∀ it ∈ its, it.length ≤ 2 ∧ ∀ g ∈ it, goodL g
theorem LegV.mono {H H' : Hp} (s : Same H H') {v : V} {g : Leg} (h : LegV H v g) : LegV H' v g := by
  obtain ⟨t, e, h⟩ := h
  exact ⟨t, e, h.imp (s _ _) (s _ _)⟩
theorem ItmV.mono {H H' : Hp} (s : Same H H') {v : V} {it : List Leg} (h : ItmV H v it) : ItmV H' v it := by
  obtain ⟨t, us, e, h, p⟩ := h
  exact ⟨t, us, e, h.imp (s _ _) (s _ _), L2.Paired.mapP p fun _ _ h => h.mono s⟩
theorem ItsV.mono {H H' : Hp} (s : Same H H') {v : V} {its : List (List Leg)} (h : ItsV H v its) : ItsV H' v its := by
  obtain ⟨t, us, e, h, p⟩ := h
  exact ⟨t, us, e, h.imp (s _ _) (s _ _), L2.Paired.mapP p fun _ _ h => h.mono s⟩
theorem any_of {K : PySem.W.Frag} {H : Hp} {t : Addr} {us : List V} (h : H t = some (.lst us) ∨ H t = some (.tup us)) : SqL K H t us ∨ SqT K H t us := h.imp SqL.of SqT.of
theorem isA_leg {H : Hp} {g : Leg} (h : goodL g) : IsA H (legVs g) (legDs g) := .cons (.str _ (name_short h.1)) (.cons (.str _ (name_short h.2.1)) (.cons (.int _) (.cons (.str _ (name_short h.2.2.1)) .nil)))
theorem LegV.is {H : Hp} {v : V} {g : Leg} (h : LegV H v g) (k : goodL g) : ∃ d, Is H v d ∧ isSeq d = true ∧ (d = .lst (legDs g) ∨ d = .tup (legDs g)) := by
  obtain ⟨t, rfl, h | h⟩ := h
  · exact ⟨_, .lst h (isA_leg k) (show 4 ≤ 60 by decide), rfl, .inl rfl⟩
  · exact ⟨_, .tup h (isA_leg k) (show 4 ≤ 60 by decide), rfl, .inr rfl⟩
def spLeg : Sp := fun vs H Q _ => ∃ v g, vs = [v] ∧ LegV H v g ∧ goodL g ∧ ∀ H', Same H H' → Q (.bl true) H'
section
variable {P : Program} {w : World} {K : PySem.W.Frag} {mg : Str → Option Value} {base : Heap}
abbrev s__is_leg : Stmt := top 21
theorem sc__is_leg : FnScope ["thing", "giver", "given", "many", "taker"] ["thing"] (defScope s__is_leg) := ⟨rfl, rfl, rfl, by decide +kernel, rfl, by decide +kernel, by decide +kernel⟩
theorem c__is_leg (T : Txt K mg) (D : Dfn K mg "_is_leg" s__is_leg) (C_is_list : Cal P w K mg base 1 "is_list" ["thing"] (spB isSeq)) (C_is_name : Cal P w K mg base 1 "is_name" ["thing"] (spB nameOk)) (C_is_integer : Cal P w K mg base 1 "is_integer" ["thing"] (spB isInteger)) :
    Cal P w K mg base 2 "_is_leg" ["thing"] spLeg := by
  refine D.cal sc__is_leg (fun _ _ _ _ _ _ us hl => match us, hl with | [_], _ => rfl) (fun vs H Q E h => ?_) fun cdv A outer s H vs Q E hr h => ?_
  · obtain ⟨v, g, rfl, _⟩ := h
    rfl
  obtain ⟨v, g, rfl, hv, k, q⟩ := h
  obtain ⟨d, id_, hs, _⟩ := hv.is k
  obtain ⟨t, rfl, ht⟩ := id hv
  refine ⟨_, (pss_cons (ps_if (PW.pt (pw_or (pt_not (pt_val (pe_cal C_is_list hr (by first | decide | omega) (by rfl) (pa_cons (pv 0) pa_nil)))) (pw_or1 (pt_cmpR op_ne (pe_callB (id := "len") call_len_seq (by rfl) T.len (by decide +kernel) (pa_cons (pv 0) pa_nil)) pe_int (nomark _))))) (pss_one (ps_ret pe_bl)) pss_nil)
      (pss_cons (ps_asg (pv 0) (pg_seq rfl (pgs_cons (pg_name (i := 1) sc__is_leg.nd rfl (by first | exact Or.inl rfl | exact Or.inr rfl)) (pgs_cons (pg_name (i := 2) sc__is_leg.nd rfl (by first | exact Or.inl rfl | exact Or.inr rfl)) (pgs_cons (pg_name (i := 3) sc__is_leg.nd rfl (by first | exact Or.inl rfl | exact Or.inr rfl)) (pgs_cons (pg_name (i := 4) sc__is_leg.nd rfl (by first | exact Or.inl rfl | exact Or.inr rfl)) pgs_nil))))))
      (pss_cons (ps_if (PW.pt (pw_or (pt_not (pt_val (pe_cal C_is_name hr (by first | decide | omega) (by rfl) (pa_cons (pv 1) pa_nil)))) (pw_or (pt_not (pt_val (pe_cal C_is_name hr (by first | decide | omega) (by rfl) (pa_cons (pv 2) pa_nil)))) (pw_or (pt_not (pt_val (pe_cal C_is_name hr (by first | decide | omega) (by rfl) (pa_cons (pv 4) pa_nil)))) (pw_or1 (pt_cmpR op_eq (pv 1) (pv 4) (nomark _))))))) (pss_one (ps_ret pe_bl)) pss_nil)
      (pss_one (ps_ret (pe_and (pe_cal C_is_integer hr (by first | decide | omega) (by rfl) (pa_cons (pv 3) pa_nil)) (pe_one (pe_cmpR op_ge (pv 3) pe_int (nomark _))))))))), ?_⟩
  refine ⟨_, rfl, _, d, rfl, id_, fun H1 s1 => ⟨_, rfl, ?_⟩⟩
  rw [hs]
  have a1 := any_of (K := K) (ht.imp (s1 _ _) (s1 _ _))
  refine iteF ⟨_, rfl, t, _, rfl, a1, rfl, _, rfl, ?_⟩
  rw [show decide (V.int ((legVs g).length : Nat) = V.int 4) = decide ((legVs g).length = 4) from lenN _ 4, decide_eq_true (show (legVs g).length = 4 from rfl)]
  refine iteF ?_
  refine ⟨_, rfl, t, _, rfl, a1, rfl, _, _, rfl, _, _, rfl, _, _, rfl, _, _, rfl, rfl, ?_⟩
  try dsimp only
  refine ⟨_, rfl, _, _, rfl, .str _ (name_short k.1), fun H2 s2 => ⟨_, rfl, ?_⟩⟩
  rw [k.1]
  refine iteF ⟨_, rfl, _, _, rfl, .str _ (name_short k.2.1), fun H3 s3 => ⟨_, rfl, ?_⟩⟩
  rw [k.2.1]
  refine iteF ⟨_, rfl, _, _, rfl, .str _ (name_short k.2.2.1), fun H4 s4 => ⟨_, rfl, ?_⟩⟩
  rw [k.2.2.1]
  refine iteF ⟨_, rfl, _, rfl, rfl, _, rfl, ?_⟩
  rw [decide_eq_false (show ¬ V.str g.1 = V.str g.2.2.2 from fun h => k.2.2.2.1 (V.str.inj h))]
  refine iteF ⟨_, rfl, _, _, rfl, .int _, fun H5 s5 => ⟨_, rfl, iteT ⟨_, rfl, _, _, rfl, rfl, ?_⟩⟩⟩
  dsimp only
  rw [decide_eq_true k.2.2.2.2]
  exact q _ (s1.trans (s2.trans (s3.trans (s4.trans s5))))
end
end K34

set_option Elab.async false
set_option linter.all false
set_option maxRecDepth 100000
set_option maxHeartbeats 4000000
namespace K34
open PySem PySem.Spec PyProof.Rows L2 Sr
abbrev Its := List (List Leg)
def legT (g : Leg) : Dt := .tup (legDs g)
def itD (it : List Leg) : Dt := .tup (it.map legT)
theorem seqIt_of {K : PySem.W.Frag} {H : Hp} {a : Addr} {xs : List V} {R : It → Hp → Prop} (h : H a = some (.lst xs) ∨ H a = some (.tup xs)) (k : ∀ (J : It) (G : Hp → Prop), Walk J xs.length G (YAt xs) → (∀ H', H' a = H a → G H') → R J H) : SeqIt K H a R := by
  rcases h with h | h
  · exact .inl ⟨⟨xs, SqL.of h⟩, k _ _ walk_list fun H' s => SqL.of (s.trans h)⟩
  · exact .inr ⟨⟨xs, SqT.of h⟩, k _ _ walk_tup fun H' s => SqT.of (s.trans h)⟩
theorem so_of {H : Hp} {t : Addr} {us : List V} (h : H t = some (.lst us) ∨ H t = some (.tup us)) : ∃ o, seqO us o ∧ H t = some o := by
  rcases h with h | h
  · exact ⟨_, .inl rfl, h⟩
  · exact ⟨_, .inr rfl, h⟩
theorem leg_dep (g : Leg) : ∀ d ∈ legDs g, Dep 0 d := by
  intro d m
  simp only [legDs, List.mem_cons, List.not_mem_nil, or_false] at m
  rcases m with rfl | rfl | rfl | rfl
  · exact .str _ _
  · exact .str _ _
  · exact .int _ _
  · exact .str _ _
theorem legs_is {H : Hp} : ∀ {us : List V} {it : List Leg}, Paired (LegV H) us it → (∀ g ∈ it, goodL g) → ∃ ds, IsA H us ds ∧ frzDs ds = it.map legT ∧ ∀ d ∈ ds, Dep 1 d
  | _, _, .nil, _ => ⟨[], .nil, rfl, fun d m => by cases m⟩
  | _, _, .cons (b := g) h r, k => by
    obtain ⟨d, h1, _, h3⟩ := h.is (k g List.mem_cons_self)
    obtain ⟨ds, r1, r2, r3⟩ := legs_is r fun x m => k x (List.mem_cons_of_mem _ m)
    refine ⟨d :: ds, .cons h1 r1, ?_, fun x m => ?_⟩
    · show frzD d :: frzDs ds = legT g :: _
      rw [r2]
      rcases h3 with rfl | rfl <;> rfl
    · rcases List.mem_cons.mp m with rfl | m
      · rcases h3 with rfl | rfl
        · exact .lst _ _ (leg_dep g)
        · exact .tup _ _ (leg_dep g)
      · exact r3 x m
theorem ItmV.is {H : Hp} {v : V} {it : List Leg} (h : ItmV H v it) (l : it.length ≤ 2) (k : ∀ g ∈ it, goodL g) : ∃ d, Is H v d ∧ isSeq d = true ∧ frzD d = itD it ∧ Dep 2 d := by
  obtain ⟨t, us, rfl, h, p⟩ := h
  obtain ⟨ds, h1, h2, h3⟩ := legs_is p k
  have lu : us.length ≤ 60 := by rw [Paired.length p]; omega
  rcases h with h | h
  · exact ⟨.lst ds, .lst h h1 lu, rfl, congrArg Dt.tup h2, .lst _ _ h3⟩
  · exact ⟨.tup ds, .tup h h1 lu, rfl, congrArg Dt.tup h2, .tup _ _ h3⟩
theorem itms_is {H : Hp} : ∀ {us : List V} {its : Its}, Paired (ItmV H) us its → (∀ it ∈ its, it.length ≤ 2 ∧ ∀ g ∈ it, goodL g) → ∃ ds, IsA H us ds ∧ frzDs ds = its.map itD ∧ ∀ d ∈ ds, Dep 2 d
  | _, _, .nil, _ => ⟨[], .nil, rfl, fun d m => by cases m⟩
  | _, _, .cons (b := it) h r, k => by
    obtain ⟨k1, k2⟩ := k it List.mem_cons_self
    obtain ⟨d, h1, _, h3, h4⟩ := h.is k1 k2
    obtain ⟨ds, r1, r2, r3⟩ := itms_is r fun x m => k x (List.mem_cons_of_mem _ m)
    refine ⟨d :: ds, .cons h1 r1, ?_, fun x m => ?_⟩
    · show frzD d :: frzDs ds = itD it :: _
      rw [h3, r2]
    · rcases List.mem_cons.mp m with rfl | m
      · exact h4
      · exact r3 x m
theorem ItsV.is {H : Hp} {v : V} {its : Its} (h : ItsV H v its) (k : goodIts its) : ∃ d, Is H v d ∧ isSeq d = true ∧ frzD d = .tup (its.map itD) ∧ Dep 3 d := by
  obtain ⟨t, us, rfl, h, p⟩ := h
  obtain ⟨ds, h1, h2, h3⟩ := itms_is p k.2
  have lu : us.length ≤ 60 := by rw [Paired.length p]; have := k.1; omega
  rcases h with h | h
  · exact ⟨.lst ds, .lst h h1 lu, rfl, congrArg Dt.tup h2, .lst _ _ h3⟩
  · exact ⟨.tup ds, .tup h h1 lu, rfl, congrArg Dt.tup h2, .tup _ _ h3⟩
def spCkI : Sp := fun vs H Q _ => ∃ v its, vs = [v] ∧ ItsV H v its ∧ goodIts its ∧ ∀ H', Same H H' → Q .non H'
section
variable {P : Program} {w : World} {K : PySem.W.Frag} {mg : Str → Option Value} {base : Heap}
abbrev s__check_items : Stmt := top 20
theorem sc__check_items : FnScope ["items", "index", "item", "leg"] ["items"] (defScope s__check_items) := ⟨rfl, rfl, rfl, by decide +kernel, rfl, by decide +kernel, by decide +kernel⟩
theorem c__check_items (T : Txt K mg) (D : Dfn K mg "_check_items" s__check_items) (C_is_list : Cal P w K mg base 1 "is_list" ["thing"] (spB isSeq)) (C_is_leg : Cal P w K mg base 2 "_is_leg" ["thing"] spLeg) :
    Cal P w K mg base 3 "_check_items" ["items"] spCkI := by
  refine D.cal sc__check_items (fun _ _ _ _ _ _ us hl => match us, hl with | [_], _ => rfl) (fun vs H Q E h => ?_) fun cdv A outer s H vs Q E hr h => ?_
  · obtain ⟨v, its, rfl, _⟩ := h
    rfl
  obtain ⟨v, its, rfl, hv, k, q⟩ := h
  obtain ⟨d, hd, hs, _⟩ := hv.is k
  obtain ⟨t, us, rfl, ht, p⟩ := id hv
  obtain ⟨o, so, ho⟩ := so_of ht
  obtain ⟨J, wJ, put⟩ := seq_walkE (K := K) (a := t) so
  refine ⟨_, (pss_cons (ps_if (pt_not (pt_val (pe_cal C_is_list hr (by first | decide | omega) (by rfl) (pa_cons (pv 0) pa_nil)))) pss_never pss_nil)
      (pss_one (ps_for PassesOwn.never rfl (pi_enumS (by rfl) T.enumerate (pa_cons (pv 0) pa_nil)) (pg_tup rfl (pgs_cons (pg_name (i := 1) sc__check_items.nd rfl (by first | exact Or.inl rfl | exact Or.inr rfl)) (pgs_cons (pg_name (i := 2) sc__check_items.nd rfl (by first | exact Or.inl rfl | exact Or.inr rfl)) pgs_nil)))
      (pss_one (ps_if (PW.pt (pw_or (pt_not (pt_val (pe_cal C_is_list hr (by first | decide | omega) (by rfl) (pa_cons (pv 2) pa_nil)))) (pw_or1 (pt_not (pt_val (pe_callB (id := "all") (cr_all rfl) (by rfl) T.all (by decide +kernel) (pa_cons (pe_lc (own := [("leg", 3)]) (g := gName 3) (tt := tYes) rfl sc__check_items.nd (pi_seq (pv 2)) (blkOk_by (N := ["items", "index", "item", "leg"]) (sc := defScope s__check_items) (by decide +kernel)) (fun _ _ _ _ _ => (pg_name (i := 3) sc__check_items.nd rfl (by first | exact Or.inl rfl | exact Or.inr rfl))) (fun _ _ _ _ _ => pts_nil) (fun _ _ _ _ _ => (pe_cal C_is_leg hr (by first | decide | omega) (by rfl) (pa_cons (pv 3) pa_nil)))) pa_nil))))))) pss_never pss_nil))))), ?_⟩
  refine ⟨_, rfl, _, d, rfl, hd, fun H1 s1 => ⟨_, rfl, ?_⟩⟩
  rw [hs]
  refine iteF ?_
  refine ⟨_, rfl, t, rfl, put H1 _ (s1 _ _ ho) (for_it wJ (fun i σ H' => (∃ x y z, σ = [some (.ref t), x, y, z]) ∧ Same H1 H') ⟨⟨_, _, _, rfl⟩, Same.refl _⟩ (fun i σ H' _ pp => pp.2 _ _ (s1 _ _ ho)) ?_ ?_)⟩
  · rintro i u σ H2 H2' hi ⟨⟨x, y, z, rfl⟩, s2⟩ ⟨T', x1, y1, rfl, hT, rfl, hx, hy⟩
    obtain rfl : V.int (i : Nat) = x1 := Option.some.inj hx
    have s3 : Same H2 _ := Same.up (o := .tup [.int (i : Nat), y1]) hT
    obtain ⟨it, hit⟩ : ∃ it, its[i]? = some it := ⟨its[i]'(by rw [← Paired.length p]; exact hi), List.getElem?_eq_getElem _⟩
    obtain ⟨k1, k2⟩ := k.2 it (List.mem_of_getElem? hit)
    have s13 := s1.trans (s2.trans s3)
    have iv := (Paired.at2 p hy hit).mono s13
    obtain ⟨dy, i1, i2, _⟩ := iv.is k1 k2
    refine ⟨T', _, rfl, SqT.of upd_same, rfl, _, _, rfl, _, _, rfl, rfl, ?_⟩
    generalize upd H2 T' _ = G at s3 s13 iv i1 ⊢
    refine ⟨_, rfl, y1, dy, rfl, i1, fun H4 s4 => ⟨_, rfl, ?_⟩⟩
    rw [i2]
    obtain ⟨t3, us3, rfl, h3, p3⟩ := iv.mono s4
    refine iteF ⟨_, rfl, t3, rfl, seqIt_of h3 fun J3 G3 w3 hG3 => fun B hB => lc_f w3 at_any it (fun _ => V.bl true) (Paired.length p3).symm (sz (m := 60) (by rw [Paired.length p3]; omega)) hB (fun H' s' => hG3 H' (by rcases h3 with h | h <;> rw [s' _ _ h, h])) (fun j u g H5 A lt hu hz s5 kA => ?_) (fun H5 s5 h5 => ?_)⟩
    · exact ⟨rfl, _, rfl, u, g, rfl, (Paired.at2 p3 hu hz).mono s5, k2 g (List.mem_of_getElem? hz), fun H6 s6 => kA _ s6⟩
    · refine ⟨B, it.map fun _ => true, rfl, SqL.of (by rw [h5, List.map_map]; rfl), ?_⟩
      rw [show (it.map fun _ => true).all id = true from by rw [List.all_map]; exact List.all_eq_true.mpr fun _ _ => rfl]
      exact ⟨_, rfl, iteF ⟨⟨_, _, _, rfl⟩, s2.trans (s3.trans (s4.trans s5))⟩⟩
  · rintro σ H2 ⟨_, s2⟩
    exact q _ (s1.trans s2)
end
end K34

set_option Elab.async false
set_option linter.all false
set_option maxRecDepth 100000
set_option maxHeartbeats 4000000
namespace Sr
open PySem PySem.Spec PyProof.Rows L2
/-! ### sorted(set(xs)), xs a list of pairs of texts (TupSets's way through the table, for pairs of texts) -/
def pHash (P : Program) (w : World) (p : Str × Str) : Int := tupleKeyHash (mixKind P w) (pk p)
def PAt (P : Program) (w : World) (h : Heap) (p : Str × Str) (b : Addr) : Prop := IsTupleKey (mixKind P w) h (pk p) b
section
variable {P : Program} {w : World} {A : Around} {E : Value → Shared → Prop} {s : Shared}
theorem PAt.raw {h : Heap} {p : Str × Str} {b : Addr} (x : PAt P w h p b) : ∃ (o : Obj) (t1 t2 : Tok) (n : Nat), h.get? b = some o ∧ o.cls = .type "tuple" ∧ o.data = .seq #[.str p.1 t1, .str p.2 t2] n := by
  obtain ⟨o, its, n, ho, hc, hd, hi⟩ := x
  have z : ∃ t1 t2, its.toList = [Value.str p.1 t1, Value.str p.2 t2] := by
    generalize its.toList = l at hi
    cases hi with
    | cons h1 r => cases r with
      | cons h2 r =>
        cases r
        rcases keyIs_shape (show keyIs (Sum.inr p.1) _ = true from h1) with ⟨i, t, e, _⟩ | ⟨x1, t1, e1, rfl⟩
        · cases e
        rcases keyIs_shape (show keyIs (Sum.inr p.2) _ = true from h2) with ⟨i, t, e, _⟩ | ⟨x2, t2, e2, rfl⟩
        · cases e
        cases e1
        cases e2
        exact ⟨_, _, rfl⟩
  obtain ⟨t1, t2, e⟩ := z
  have e2 : its = #[.str p.1 t1, .str p.2 t2] := Array.toList_inj.mp e
  exact ⟨o, t1, t2, n, ho, hc, e2 ▸ hd⟩
theorem PAt.in_ {h h' : Heap} {p : Str × Str} {b : Addr} (x : PAt P w h p b) (k : ∀ o, h.get? b = some o → h'.get? b = some o) : PAt P w h' p b := by
  obtain ⟨o, its, n, ho, r⟩ := x
  exact ⟨o, its, n, k o ho, r⟩
theorem PAt.off {h h' : Heap} {p : Str × Str} {a b : Addr} {o : Obj} {es : Array (Int × Value)} {ep : Nat} {t : SetTable} (x : PAt P w h p b) (ha : h.get? a = some o) (hd : o.data = .set es ep t) (z : Heap.SameBut a h h') : PAt P w h' p b := by
  refine x.in_ fun u hu => (z.2 b fun e => ?_).trans hu
  obtain ⟨o2, _, _, _, h1, _, h3⟩ := x.raw
  subst e
  rw [ha] at h1
  cases h1
  rw [hd] at h3
  cases h3
theorem cls_text (n : Nat) (z : Str) (t : Tok) : ofAClassStatement n (.str z t) = pure false := by cases n <;> rfl
theorem cls_pair {p : Str × Str} {b : Addr} {Q : Bool → Shared → Prop} (x : PAt P w s.heap p b) (q : Q false s) : wpAny (model P w) A (ofAClassStatement 8 (.ref b)) Q E s := by
  obtain ⟨o, t1, t2, n, ho, hc, hd⟩ := x.raw
  unfold ofAClassStatement
  refine wpAny_bind (wpAny_typeOf (T := "tuple") ⟨o, ho, hc⟩ ?_)
  dsimp only
  simp only [show (("tuple" : String) == "tuple") = true from by decide, if_true]
  refine wpAny_bind (wpAny_pure ?_)
  simp only [Bool.not_true, Bool.false_eq_true, if_false]
  refine wpAny_bind (wpAny_seqItems ho hd ?_)
  dsimp only
  rw [← Array.forIn_toList]
  simp only [List.forIn_cons, List.forIn_nil, cls_text, pure_bind, Bool.false_eq_true, if_false]
  exact wpAny_pure q
theorem hash_pair {p : Str × Str} {b : Addr} {Q : Bool → Shared → Prop} (x : PAt P w s.heap p b) (q : Q false s) : wpAny (model P w) A (hashByValue 8 (.ref b)) Q E s := by
  have hT := x.typeIs
  obtain ⟨o, t1, t2, n, ho, hc, hd⟩ := x.raw
  unfold hashByValue
  refine wpAny_bind (wpAny_specialOf hT F.slot_tuple_hash.lookup ?_)
  show wpAny _ _ (seqItems? (.ref b) >>= _) _ _ s
  refine wpAny_bind (wpAny_seqItems ho hd ?_)
  rw [← Array.forIn_toList]
  simp only [Option.getD_some, List.forIn_cons, hashByValue, pure_bind, Bool.not_false, if_true]
  exact wpAny_pure q

/-- a search among pairs shows nothing of the table -/
theorem shy_pairs {p : Str × Str} {b : Addr} {Q : Bool → Shared → Prop} (x : PAt P w s.heap p b) (q : Q false s) : ∀ {ys : List Value}, (∀ y ∈ ys, ∃ p' c, y = Value.ref c ∧ PAt P w s.heap p' c) → wpAny (model P w) A (searchCouldBeSeen (.ref b) ys) Q E s := by
  intro ys hy
  unfold searchCouldBeSeen
  refine wpAny_bind (wpAny_forIn_list _ (fun rest r s' => (r.1 = none ∧ s' = s) ∧ ∀ y ∈ rest, ∃ p' c, y = Value.ref c ∧ PAt P w s.heap p' c) _ ?_ ?_ _ _ ⟨⟨rfl, rfl⟩, hy⟩)
  · rintro y rest r s' ⟨⟨hr, rfl⟩, all⟩
    have go : r.1 = none ∧ s' = s' := ⟨hr, rfl⟩
    have tail := fun z (hz : z ∈ rest) => all z (List.mem_cons_of_mem _ hz)
    obtain ⟨p', c, rfl, xc⟩ := all y List.mem_cons_self
    dsimp only
    split
    · exact wpAny_pure ⟨⟨rfl, rfl⟩, tail⟩
    · refine wpAny_bind (wpAny_eqIsQuiet_tuple x ?_)
      simp only [Bool.not_true, Bool.false_eq_true, if_false]
      refine wpAny_bind (wpAny_eqIsQuiet_tuple xc ?_)
      simp only [Bool.not_true, Bool.false_eq_true, if_false]
      refine wpAny_bind (cls_pair x ?_)
      simp only [Bool.false_eq_true, if_false]
      refine wpAny_bind (cls_pair xc ?_)
      simp only [Bool.false_eq_true, if_false]
      exact wpAny_pure ⟨⟨rfl, rfl⟩, tail⟩
  · rintro ⟨r1, r2⟩ s' ⟨⟨hr, rfl⟩, _⟩
    cases (show r1 = none from hr)
    exact wpAny_pure q
abbrev Pq := Addr × (Str × Str)
def pRow (P : Program) (w : World) (q : Pq) : Int × Value := (pHash P w q.2, .ref q.1)
/-- the set at a has the pairs L, in the order of its table -/
structure PSet (P : Program) (w : World) (h : Heap) (a : Addr) (L : List Pq) (es : Array (Int × Value)) (ep : Nat) (t : SetTable) : Prop where
  obj : ∃ o, h.get? a = some o ∧ o.ExactSet ∧ o.data = .set es ep t
  ent : es.toList = L.map (pRow P w)
  tab : TabOk t (L.map fun q => pHash P w q.2)
  one : (L.map (·.2)).Nodup
  tup : ∀ q ∈ L, PAt P w h q.2 q.1
  ord : w.params.followText "set-order" = true ∨ t.led = true
  gap : L.length * 5 < t.mask * 3
  few : L.length < 64
variable {a : Addr} {L : List Pq} {es : Array (Int × Value)} {ep : Nat} {t : SetTable}
theorem PSet.len (R : PSet P w s.heap a L es ep t) : es.size = L.length := by
  rw [← Array.length_toList, R.ent, List.length_map]
theorem PSet.places (R : PSet P w s.heap a L es ep t) : t.place.toList.length = L.length := by
  rw [Array.length_toList, R.tab.sz, List.length_map]
theorem fits_of {t : SetTable} {n : Nat} (h1 : t.place.size = n) (h2 : t.dummies = #[]) (h3 : n ≤ t.mask) : t.fits n = true := by
  simp [SetTable.fits, SetTable.fill, h1, h2, h3]
theorem PSet.fit (R : PSet P w s.heap a L es ep t) : t.fits es.size = true := by
  have h1 := R.places
  have h2 := R.len
  have h3 := R.gap
  rw [Array.length_toList] at h1
  exact fits_of (by omega) R.tab.dm (by omega)
theorem PSet.at_ (R : PSet P w s.heap a L es ep t) {i : Nat} {q : Pq} (h : L[i]? = some q) : es[i]? = some (pRow P w q) := by
  rw [← Array.getElem?_toList, R.ent, List.getElem?_map, h, Option.map_some]
theorem not_gave {m : SetTable} (h : MaskOk m.mask) : ¬ m.gaveWay = true := by
  unfold SetTable.gaveWay
  rw [mask_odd h]
  decide
abbrev stepAt (m : Nat) (h : Int) (c : Nat) : SetTable.Probe := nth m (runAt m (SetTable.bits h % (m + 1)) (SetTable.bits h)) c
theorem step_more (m : Nat) (h : Int) (c q : Nat) : nth m (stepAt m h c) q = stepAt m h (c + q) := (nth_add m c _ q).symm
theorem nth_dummy {m : Nat} : ∀ (n : Nat) (p : SetTable.Probe), p.dummy = none → (nth m p n).dummy = none
  | 0, _, h => h
  | n + 1, p, h => nth_dummy n _ (by unfold adv; split <;> exact h)
theorem opt_fst {es : Array (Int × Value)} {i : Nat} {x : Int × Value} (h : es[i]? = some x) : ((es[i]?.map (·.1)).getD 0) = x.1 := by rw [h]; rfl
theorem pRow_mk (x : Addr) (p : Str × Str) : pRow P w (x, p) = (pHash P w p, Value.ref x) := by unfold pRow; rfl
theorem pRow_fst (q : Pq) : (pRow P w q).1 = pHash P w q.2 := by unfold pRow; rfl
theorem PSet.hash (R : PSet P w s.heap a L es ep t) {i : Nat} {q : Pq} (hq : L[i]? = some q) : ((es[i]?.map (·.1)).getD 0) = pHash P w q.2 := (opt_fst (R.at_ hq)).trans (pRow_fst q)
/-- the search, from the c-th step of its way on -/
theorem seek (R : PSet P w s.heap a L es ep t) {x : Addr} {p : Str × Str} (hx : PAt P w s.heap p x) (hu : A.units < cLine) {K : Nat} (far : K < 10 * SetTable.turns t.mask)
    (fr : way t.mask (pHash P w p) K ∉ t.place.toList) (bsy : ∀ c, c < K → way t.mask (pHash P w p) c ∈ t.place.toList) {Q : SetFound → Shared → Prop}
    (yes : p ∈ L.map (·.2) → Q (.there none) s) (no : p ∉ L.map (·.2) → Q (.free (way t.mask (pHash P w p) K) false) s) :
    ∀ (f c : Nat) (st : Option SetTable.Probe), st.getD (t.probeStart (pHash P w p)) = stepAt t.mask (pHash P w p) c → c ≤ K → K < c + f →
      (∀ (i : Nat) (q : Pq), L[i]? = some q → q.2 = p → ∃ d, c ≤ d ∧ d < K ∧ t.place.toList[i]? = some (way t.mask (pHash P w p) d)) →
      wpAny (model P w) A (setSearchFrom a (.ref x) (pHash P w p) true f st) Q E s := by
  obtain ⟨o, ho, hex, hd⟩ := R.obj
  intro f
  induction f with
  | zero => intro c st _ h1 h2; omega
  | succ f ih =>
    intro c st hst hc hf here
    have wy : ∀ q, (nth t.mask (stepAt t.mask (pHash P w p) c) q).j = way t.mask (pHash P w p) (c + q) := fun q => congrArg SetTable.Probe.j (step_more _ _ c q)
    have hashes : ∀ (i : Nat) (q : Pq), L[i]? = some q → ((es[i]?.map (·.1)).getD 0) = pHash P w q.2 := fun i q hq => R.hash hq
    have spec := go_spec t R.tab.ris R.tab.dm (fun i => (es[i]?.map (·.1)).getD 0) (pHash P w p) (10 * SetTable.turns t.mask) (K - c) (stepAt t.mask (pHash P w p) c) (nth_dummy _ _ rfl) (by omega)
      (fun q hq => by rw [wy]; exact bsy _ (by omega)) (by rw [wy, show c + (K - c) = K by omega]; exact fr)
    rw [setSearchFrom_succ]
    refine wpAny_bind (wpAny_setState_of ho hd R.fit ?_)
    dsimp only
    refine wp_if_neg (not_gave R.tab.mok) ?_
    try refine wpAny_bind (wpAny_pure ?_)
    rcases spec with ⟨q, i, hq, hi, _, none_, hp⟩ | ⟨none_, hp⟩
    · have hp2 : t.probe (fun i => (es[i]?.map (·.1)).getD 0) (pHash P w p) (st.getD (t.probeStart (pHash P w p))) = some (.candidate (way t.mask (pHash P w p) (c + q)) i (stepAt t.mask (pHash P w p) (c + (q + 1)))) := by
        rw [hst, ← wy, ← step_more]
        exact hp
      rw [hp2]
      dsimp only
      rw [wy] at hi
      obtain ⟨hi2, _⟩ := List.getElem?_eq_some_iff.mp hi
      rw [R.places] at hi2
      have hL : L[i]? = some L[i] := List.getElem?_eq_getElem hi2
      generalize L[i] = u at hL
      have mu := List.mem_of_getElem? hL
      have live := slot_live R.tab.ris hi
      have onward : wpAny (model P w) A (searchRest a (.ref x) (pHash P w p) true f es t (way t.mask (pHash P w p) (c + q)) i (stepAt t.mask (pHash P w p) (c + (q + 1)))) Q E s := by
        unfold searchRest
        rw [R.at_ hL]
        dsimp only [pRow]
        refine wpAny_bind (wpAny_holding (wpAny_eqBool_tuple hu (R.tup u mu) hx ?_))
        refine wpAny_bind (wpAny_setState_of ho hd R.fit ?_)
        dsimp only
        by_cases e : u.2 = p
        · rw [decide_eq_true (show pk u.2 = pk p by rw [e])]
          refine wp_if_pos rfl (wpAny_pure (yes (List.mem_map.mpr ⟨u, mu, e⟩)))
        · have ne : ¬ pk u.2 = pk p := fun z => e (pk_inj z)
          rw [decide_eq_false ne]
          refine wp_if_neg (by decide) ?_
          try refine wpAny_bind (wpAny_pure ?_)
          rw [sameMem]
          dsimp only
          simp only [if_true, live, R.at_ hL, pRow]
          refine wpAny_bind (wpAny_isSame_ref_self (wpAny_bind (wpAny_pure ?_)))
          simp only [if_true]
          refine wp_if_neg (by decide) ?_
          refine ih (c + (q + 1)) _ rfl (by omega) (by omega) fun i2 u2 h2 e2 => ?_
          obtain ⟨d, d1, d2, d3⟩ := here i2 u2 h2 e2
          refine ⟨d, ?_, d2, d3⟩
          rcases Nat.lt_trichotomy d (c + q) with z | z | z
          · refine absurd ((hashes i2 u2 h2).trans (by rw [e2])) (none_ (d - c) i2 (by omega) ?_)
            rw [wy, show c + (d - c) = d by omega]
            exact d3
          · rw [z] at d3
            have l2 := slot_live R.tab.ris d3
            rw [live] at l2
            injection l2 with l2
            rw [← l2, hL] at h2
            cases h2
            exact absurd e2 e
          · omega
      by_cases hl : t.led = true
      · refine wp_if_neg (by rw [hl]; decide) ?_
        try refine wpAny_bind (wpAny_pure ?_)
        exact onward
      · refine wp_if_pos (by simpa using hl) ?_
        refine wpAny_bind (shy_pairs hx ?_ fun y hy => ?_)
        · refine wp_if_neg (by decide) ?_
          try refine wpAny_bind (wpAny_pure ?_)
          exact onward
        · obtain ⟨e, he, rfl⟩ := List.mem_map.mp hy
          have he2 : e ∈ es.toList := by
            have := (show e ∈ es ∧ e.1 = pHash P w p by simpa using he).1
            simpa using this
          rw [R.ent] at he2
          obtain ⟨u2, m2, rfl⟩ := List.mem_map.mp he2
          exact ⟨u2.2, u2.1, rfl, R.tup u2 m2⟩
    · have hp2 : t.probe (fun i => (es[i]?.map (·.1)).getD 0) (pHash P w p) (st.getD (t.probeStart (pHash P w p))) = some (.empty (way t.mask (pHash P w p) K) none) := by
        rw [hst, show way t.mask (pHash P w p) K = (nth t.mask (stepAt t.mask (pHash P w p) c) (K - c)).j by rw [wy, show c + (K - c) = K by omega]]
        exact hp
      rw [hp2]
      dsimp only
      refine wpAny_pure (no fun m => ?_)
      obtain ⟨u, mu, e⟩ := List.mem_map.mp m
      obtain ⟨i, hi⟩ := List.mem_iff_getElem?.mp mu
      obtain ⟨d, d1, d2, d3⟩ := here i u hi e
      refine none_ (d - c) i (by omega) ?_ ((hashes i u hi).trans (by rw [e]))
      rw [wy, show c + (d - c) = d by omega]
      exact d3
theorem seek_all (R : PSet P w s.heap a L es ep t) {x : Addr} {p : Str × Str} (hx : PAt P w s.heap p x) (hu : A.units < cLine) {Q : SetFound → Shared → Prop} (yes : p ∈ L.map (·.2) → Q (.there none) s)
    (no : ∀ K, p ∉ L.map (·.2) → way t.mask (pHash P w p) K ∉ t.place.toList → (∀ c, c < K → way t.mask (pHash P w p) c ∈ t.place.toList) → Q (.free (way t.mask (pHash P w p) K) false) s) :
    wpAny (model P w) A (setSearch a (.ref x) (pHash P w p) true) Q E s := by
  have g := R.gap
  obtain ⟨K, k1, k2, k3⟩ := R.tab.first (h := pHash P w p) (by rw [List.length_map]; omega)
  have small : 10 * SetTable.turns t.mask ≤ 1420 := by
    unfold SetTable.turns
    rcases R.tab.mok with e | e | e <;> omega
  unfold setSearch
  refine seek R hx hu k1 k2 k3 yes (fun n => no K n k2 k3) 100000 0 none rfl (Nat.zero_le _) (by omega) fun i q hq e => ?_
  have hi : (L.map fun q => pHash P w q.2)[i]? = some (pHash P w p) := by rw [List.getElem?_map, hq, ← e, Option.map_some]
  have lt : i < t.place.toList.length := by rw [R.places]; exact (List.getElem?_eq_some_iff.mp hq).1
  have hj := List.getElem?_eq_getElem lt
  obtain ⟨d, d1, d2⟩ := R.tab.before k2 hi hj
  exact ⟨d, Nat.zero_le _, d1, by rw [hj, d2]⟩
end
end Sr

set_option Elab.async false
set_option linter.all false
set_option maxRecDepth 100000
set_option maxHeartbeats 4000000
namespace Sr
open PySem PySem.Spec PyProof.Rows L2
section
variable {P : Program} {w : World} {A : Around} {E : Value → Shared → Prop} {s : Shared} {a : Addr} {L : List Pq} {es : Array (Int × Value)} {ep : Nat} {t : SetTable}
/-! ### the table laid anew -/
theorem fm_range {α : Type} : ∀ l : List α, (List.range l.length).filterMap (fun i => l[i]?) = l
  | [] => rfl
  | x :: l => by
    rw [List.length_cons, List.range_succ_eq_map, List.filterMap_cons]
    show x :: List.filterMap _ _ = _
    rw [List.filterMap_map]
    exact congrArg (x :: ·) (fm_range l)
theorem fm_some {α β : Type} {f : α → Option β} {g : α → β} : ∀ {l : List α}, (∀ x ∈ l, f x = some (g x)) → l.filterMap f = l.map g
  | [], _ => rfl
  | x :: l, h => by rw [List.filterMap_cons, h x List.mem_cons_self, List.map_cons, fm_some fun y m => h y (List.mem_cons_of_mem _ m)]
theorem order_fst {α : Type} {f : α → Int × Value} {es : Array (Int × Value)} {L : List α} (get : ∀ i : Nat, es[i]? = (L[i]?).map f) {o : List Nat} (within : ∀ i ∈ o, i < L.length) :
    (o.filterMap fun i => L[i]?).map (fun q => (f q).1) = o.map fun i => (es.map (·.1)).getD i 0 := by
  rw [List.map_filterMap]
  refine fm_some fun i m => ?_
  have lt := within i m
  have e5 : (es.map (·.1))[i]? = some (f L[i]).1 := by
    rw [Array.getElem?_map, get, List.getElem?_eq_getElem lt]
    rfl
  rw [List.getElem?_eq_getElem lt, Array.getD_eq_getD_getElem?, e5]
  rfl
theorem laid_anew {o : Obj} (ho : s.heap.get? a = some o) (hex : o.ExactSet) (hd : o.data = .set es ep t) (ent : es.toList = L.map (pRow P w)) (pl : t.place.size = es.size) (dm : t.dummies = #[]) (le : es.size ≤ t.mask)
    (one : (L.map (·.2)).Nodup) (tup : ∀ q ∈ L, PAt P w s.heap q.2 q.1) (ord : w.params.followText "set-order" = true ∨ t.led = true) (few : L.length < 64) {big M : Nat}
    (hw : SetTable.sizeAbove big - 1 = M) (mok : MaskOk M) (hw2 : SetTable.sizeAbove big ≤ 128) (gap : L.length * 5 < M * 3) {Q : Unit → Shared → Prop}
    (hQ : ∀ h' L' es' ep' t', Heap.SameBut a s.heap h' → PSet P w h' a L' es' ep' t' → L'.Perm L → Q () { s with heap := h' }) : wpAny (model P w) A (setRelay a big) Q E s := by
  have el : es.size = L.length := by rw [← Array.length_toList, ent, List.length_map]
  have get : ∀ i : Nat, es[i]? = (L[i]?).map (pRow P w) := fun i => by rw [← Array.getElem?_toList, ent, List.getElem?_map]
  obtain ⟨t2, order, e, perm, tab, em, eled, _, edm⟩ := relaid_ok t (hs := es.map (·.1)) (wanted := big) hw mok (by rw [Array.size_map]; omega)
  rw [Array.size_map, el] at perm
  have within : ∀ i ∈ order.toList, i < L.length := fun i m => List.mem_range.mp (perm.mem_iff.mp m)
  have r1 : (order.filterMap (es[·]?)).toList = (order.toList.filterMap fun i => L[i]?).map (pRow P w) := by
    rw [Array.toList_filterMap, List.map_filterMap]
    exact congrArg (fun f => List.filterMap f order.toList) (funext get)
  have r2 : (order.toList.filterMap fun i => L[i]?).Perm L := by
    have h := perm.filterMap (fun i => L[i]?)
    rwa [fm_range] at h
  have r3 := order_fst (f := pRow P w) get within
  simp only [pRow_fst] at r3
  rw [← r3] at tab
  have sz : (order.filterMap (es[·]?)).size = es.size := by rw [← Array.length_toList, r1, List.length_map, r2.length_eq, el]
  rw [setRelay_eq]
  refine wpAny_bind (wpAny_setState_of ho hd (fits_of pl dm le) ?_)
  dsimp only
  refine wp_if_neg (by rw [sizeLine_eq]; omega) ?_
  try refine wpAny_bind (wpAny_pure ?_)
  rw [e]
  dsimp only
  refine wpAny_bind ?_
  refine wp_if_neg (by rw [sz]; simp) ?_
  try refine wpAny_bind (wpAny_pure ?_)
  refine wpAny_pure ?_
  dsimp only
  refine wpAny_storeSet_of ho hd ?_ (by rw [sz, el, sizeLine_eq]; omega)
  have but : Heap.SameBut a s.heap (s.heap.update a (Obj.putSet (order.filterMap (es[·]?)) t2)) := Heap.SameBut.update ..
  exact hQ _ _ _ (ep + 1) t2 but ⟨⟨_, store_at ho hd, ⟨hex.1, hex.2.1, hex.2.2⟩, rfl⟩, r1, tab, (r2.map (·.2)).nodup_iff.mpr one, fun q m => (tup q (r2.mem_iff.mp m)).off ho hd but, by rw [eled]; exact ord, by rw [r2.length_eq, em]; exact gap, by rw [r2.length_eq]; exact few⟩ r2
/-- behind a put: the store, and the table laid anew where it is full -/
theorem stored {o : Obj} {L1 : List Pq} {es1 : Array (Int × Value)} {t1 : SetTable} (ho : s.heap.get? a = some o) (hex : o.ExactSet) (hd : o.data = .set es ep t) (el : es.size + 1 = L1.length) (ent : es1.toList = L1.map (pRow P w)) (tab : TabOk t1 (L1.map fun q => pHash P w q.2)) (one : (L1.map (·.2)).Nodup)
    (tup : ∀ q ∈ L1, PAt P w s.heap q.2 q.1) (ord : w.params.followText "set-order" = true ∨ t1.led = true) (few : L1.length < 64) (gap : (L1.length - 1) * 5 < t1.mask * 3) {Q : Bool → Shared → Prop}
    (hQ : ∀ h' L' es' ep' t', Heap.SameBut a s.heap h' → PSet P w h' a L' es' ep' t' → L'.Perm L1 → Q true { s with heap := h' }) :
    wpAny (model P w) A (do
      storeSet a es1 t1
      if !false && t1.tooFull then setRelay a (SetTable.grown (es.size + 1))
      return true) Q E s := by
  have el1 : es1.size = L1.length := by rw [← Array.length_toList, ent, List.length_map]
  refine wpAny_bind (wpAny_storeSet_of ho hd ?_ (by rw [el1, sizeLine_eq]; omega))
  have but : Heap.SameBut a s.heap (s.heap.update a (Obj.putSet es1 t1)) := Heap.SameBut.update ..
  have ho1 := store_at (es' := es1) (t' := t1) ho hd
  generalize s.heap.update a (Obj.putSet es1 t1) = h1 at but ho1 ⊢
  have tup1 : ∀ q ∈ L1, PAt P w h1 q.2 q.1 := fun q m => (tup q m).off ho hd but
  have pl1 : t1.place.size = L1.length := by rw [tab.sz, List.length_map]
  have fill : t1.tooFull = decide (L1.length * 5 ≥ t1.mask * 3) := by simp [SetTable.tooFull, SetTable.fill, tab.dm, pl1]
  rw [Bool.not_false, Bool.true_and, fill]
  by_cases full : L1.length * 5 ≥ t1.mask * 3
  · rw [decide_eq_true full]
    have which : (t1.mask = 7 ∧ L1.length = 5) ∨ (t1.mask = 31 ∧ L1.length = 19) := by
      rcases tab.mok with e | e | e <;> rw [e] at full gap <;> omega
    have go : ∀ M, SetTable.sizeAbove (SetTable.grown L1.length) - 1 = M → MaskOk M → SetTable.sizeAbove (SetTable.grown L1.length) ≤ 128 → L1.length * 5 < M * 3 →
        wpAny (model P w) A (setRelay a (SetTable.grown (es.size + 1))) (fun _ s' => wpAny (model P w) A (pure true) Q E s') E { s with heap := h1 } := fun M h1' h2' h3' h4' => by
      rw [el]
      exact laid_anew (s := { s with heap := h1 }) ho1 ⟨hex.1, hex.2.1, hex.2.2⟩ rfl ent (by rw [pl1, el1]) tab.dm (by rw [el1]; rcases which with ⟨e, e2⟩ | ⟨e, e2⟩ <;> omega) one tup1 ord few h1' h2' h3' h4' fun h2 L2 es2 ep2 t2 b2 R2 p2 => wpAny_pure (hQ h2 L2 es2 ep2 t2 (but.trans b2) R2 p2)
    have gone : wpAny (model P w) A (setRelay a (SetTable.grown (es.size + 1))) (fun _ s' => wpAny (model P w) A (pure true) Q E s') E { s with heap := h1 } := by
      rcases which with ⟨_, e2⟩ | ⟨_, e2⟩
      · exact go 31 (by rw [e2, size_20]) (.inr (.inl rfl)) (by rw [e2, size_20]; decide) (by omega)
      · exact go 127 (by rw [e2, size_76]) (.inr (.inr rfl)) (by rw [e2, size_76]; decide) (by omega)
    first
      | exact wp_if_pos rfl (wpAny_bind gone)
      | exact wpAny_bind (wp_if_pos rfl gone)
  · rw [decide_eq_false full]
    have fin : wpAny (model P w) A (pure true) Q E { s with heap := h1 } := wpAny_pure (hQ h1 L1 es1 (ep + 1) t1 but ⟨⟨_, ho1, ⟨hex.1, hex.2.1, hex.2.2⟩, rfl⟩, ent, tab, one, tup1, ord, by omega, few⟩ (List.Perm.refl _))
    first
      | exact wp_if_neg (by decide) fin
      | exact wpAny_bind (wp_if_neg (by decide) (wpAny_pure fin))
theorem mid_perm {α : Type} (L : List α) (p : Nat) (x : α) : (L.take p ++ x :: L.drop p).Perm (x :: L) := by
  have h : (L.take p ++ x :: L.drop p).Perm (x :: (L.take p ++ L.drop p)) := List.perm_middle
  rwa [List.take_append_drop] at h
/-- a pair put in -/
theorem put_in (R : PSet P w s.heap a L es ep t) {x : Addr} {p : Str × Str} (hx : PAt P w s.heap p x) (hu : A.units < cLine) (few : L.length + 1 < 64) {Q : Bool → Shared → Prop}
    (hQ : ∀ b h' L' es' ep' t', Heap.SameBut a s.heap h' → PSet P w h' a L' es' ep' t' → (p ∈ L.map (·.2) ∧ L' = L ∨ p ∉ L.map (·.2) ∧ L'.Perm ((x, p) :: L)) → Q b { s with heap := h' }) :
    wpAny (model P w) A (setAddHashed a (.ref x) (pHash P w p)) Q E s := by
  obtain ⟨o, ho, hex, hd⟩ := R.obj
  have el := R.len
  have gp := R.gap
  unfold setAddHashed
  refine wpAny_holding ?_
  rw [show (100000 : Nat) = 99999 + 1 from rfl, setAddHashedIn_succ]
  refine wpAny_bind (wpAny_setState_of ho hd R.fit ?_)
  dsimp only
  refine wp_if_neg (by simp [byScan, Value.scannable]) ?_
  try refine wpAny_bind (wpAny_pure ?_)
  refine wpAny_bind (seek_all R hx hu (fun m => ?_) fun K m k2 k3 => ?_)
  · dsimp only
    exact wpAny_pure (hQ false s.heap L es ep t (Heap.SameBut.refl a s.heap) R (.inl ⟨m, rfl⟩))
  · dsimp only
    refine wpAny_bind (wpAny_setState_of ho hd R.fit ?_)
    dsimp only
    obtain ⟨q1, q2, q3, q4, q5, q6, _, _, _⟩ := R.tab.put k2 k3
    generalize t.put (way t.mask (pHash P w p) K) = tp at q1 q3 q4 q5 q6 ⊢
    obtain ⟨t1, j⟩ := tp
    dsimp only at q1 q3 q4 q5 q6 ⊢
    rw [← q1] at q2 q3
    have pm := mid_perm L j (x, p)
    have tab1 : TabOk t1 ((L.take j ++ (x, p) :: L.drop j).map fun q => pHash P w q.2) := by
      rw [List.map_append, List.map_cons, List.map_take, List.map_drop]
      exact q3
    have ent1 : (SetTable.insertAt es j (pHash P w p, Value.ref x)).toList = (L.take j ++ (x, p) :: L.drop j).map (pRow P w) := by
      rw [SetTable.toList_insertAt, R.ent, List.map_append, List.map_cons, List.map_take, List.map_drop, pRow_mk]
    have one1 : ((L.take j ++ (x, p) :: L.drop j).map (·.2)).Nodup := by
      refine (pm.map (·.2)).nodup_iff.mpr ?_
      rw [List.map_cons]
      exact List.nodup_cons.mpr ⟨m, R.one⟩
    have len1 := pm.length_eq
    rw [List.length_cons] at len1
    have tup1 : ∀ q ∈ L.take j ++ (x, p) :: L.drop j, PAt P w s.heap q.2 q.1 := fun q mq => by
      rcases List.mem_cons.mp (pm.mem_iff.mp mq) with e | mq
      · rw [e]; exact hx
      · exact R.tup q mq
    have fin : ∀ t2 : SetTable, t2.place = t1.place → t2.dummies = t1.dummies → t2.mask = t1.mask → t2.led = t1.led → wpAny (model P w) A (do
        storeSet a (SetTable.insertAt es j (pHash P w p, Value.ref x)) t2
        if !false && t2.tooFull then setRelay a (SetTable.grown (es.size + 1))
        return true) Q E s := fun t2 e1 e2 e3 e4 => by
      refine stored ho hex hd (by omega) ent1 ⟨by rw [e1]; exact tab1.ris, by rw [e2]; exact tab1.dm, by rw [e1]; exact tab1.sz, by rw [e3]; exact tab1.mok, by rw [e1, e3]; exact tab1.bd, by rw [e1, e3]; exact tab1.reach⟩ one1 tup1 (by rw [e4, q5]; exact R.ord) (by omega) (by rw [e3, q4]; omega) fun h' L' es' ep' t' b R' p' => hQ true h' L' es' ep' t' b R' (.inr ⟨m, p'.trans pm⟩)
    by_cases hp : t1.plain = true
    · first
        | (refine wpAny_bind ?_; refine wp_if_pos hp ?_; refine hash_pair hx ?_)
        | refine wp_if_pos hp (wpAny_bind (hash_pair hx ?_))
      simp only [Bool.false_eq_true, if_false]
      exact fin _ rfl rfl rfl rfl
    · first
        | (refine wpAny_bind ?_; refine wp_if_neg hp ?_; refine wpAny_pure ?_)
        | refine wp_if_neg hp (wpAny_bind (wpAny_pure ?_))
        | refine wp_if_neg hp ?_
      simp only [if_true]
      exact fin _ rfl rfl rfl rfl
end
end Sr

set_option Elab.async false
set_option linter.all false
set_option maxRecDepth 100000
set_option maxHeartbeats 4000000
namespace Sr
open PySem PySem.Spec PyProof.Rows L2
/-! ### set(xs) of a list of pairs -/
/-- what a set has behind the first i of ks -/
structure HasP (ks : List Pq) (i : Nat) (L : List Pq) : Prop where
  old : ∀ q ∈ L, q ∈ ks.take i
  all : ∀ q ∈ ks.take i, q.2 ∈ L.map (·.2)
  few : L.length ≤ i
theorem HasP.next {ks L L' : List Pq} {i : Nat} {q : Pq} (g : HasP ks i L) (h : ks[i]? = some q) (c : q.2 ∈ L.map (·.2) ∧ L' = L ∨ q.2 ∉ L.map (·.2) ∧ L'.Perm (q :: L)) : HasP ks (i + 1) L' := by
  have et : ks.take (i + 1) = ks.take i ++ [q] := by rw [List.take_succ, h]; rfl
  rcases c with ⟨m, rfl⟩ | ⟨_, pm⟩
  · refine ⟨fun u mu => ?_, fun u mu => ?_, Nat.le_succ_of_le g.few⟩
    · rw [et]; exact List.mem_append_left _ (g.old u mu)
    · rw [et] at mu
      rcases List.mem_append.mp mu with z | z
      · exact g.all u z
      · rw [List.mem_singleton.mp z]; exact m
  · refine ⟨fun u mu => ?_, fun u mu => ?_, ?_⟩
    · rw [et]
      rcases List.mem_cons.mp (pm.mem_iff.mp mu) with z | z
      · rw [z]; exact List.mem_append_right _ List.mem_cons_self
      · exact List.mem_append_left _ (g.old u z)
    · rw [(pm.map (·.2)).mem_iff, List.map_cons]
      rw [et] at mu
      rcases List.mem_append.mp mu with z | z
      · exact List.mem_cons_of_mem _ (g.all u z)
      · rw [List.mem_singleton.mp z]; exact List.mem_cons_self
    · rw [pm.length_eq, List.length_cons]
      exact Nat.succ_le_succ g.few
theorem perm_lift {α β : Type} {f : α → β} {l k : List β} (h : l.Perm k) : ∀ m : List α, k = m.map f → ∃ m2 : List α, m2.Perm m ∧ l = m2.map f := by
  induction h with
  | nil =>
    intro m e
    cases m with
    | nil => exact ⟨[], .nil, rfl⟩
    | cons _ _ => cases e
  | cons x _ ih =>
    intro m e
    cases m with
    | nil => cases e
    | cons y m =>
      rw [List.map_cons] at e
      obtain ⟨e1, e2⟩ := List.cons.inj e
      obtain ⟨m', p, e3⟩ := ih m e2
      exact ⟨y :: m', p.cons y, by rw [List.map_cons, e1, e3]⟩
  | swap x y l =>
    intro m e
    cases m with
    | nil => cases e
    | cons a m => cases m with
      | nil => cases e
      | cons b m =>
        rw [List.map_cons, List.map_cons] at e
        obtain ⟨e1, e2⟩ := List.cons.inj e
        obtain ⟨e3, e4⟩ := List.cons.inj e2
        exact ⟨b :: a :: m, .swap _ _ _, by rw [List.map_cons, List.map_cons, e1, e3, e4]⟩
  | trans _ _ ih1 ih2 =>
    intro m e
    obtain ⟨m2, p2, e2⟩ := ih2 m e
    obtain ⟨m1, p1, e1⟩ := ih1 m2 e2
    exact ⟨m1, p1.trans p2, e1⟩
section
variable {P : Program} {w : World} {A : Around} {E : Value → Shared → Prop} {s : Shared}
theorem PSet.in_ {h h' : Heap} {a : Addr} {L : List Pq} {es : Array (Int × Value)} {ep : Nat} {t : SetTable} (R : PSet P w h a L es ep t) (ka : ∀ o, h.get? a = some o → h'.get? a = some o) (kt : ∀ q ∈ L, PAt P w h' q.2 q.1) : PSet P w h' a L es ep t := by
  obtain ⟨o, ho, r⟩ := R.obj
  exact ⟨⟨o, ka o ho, r⟩, R.ent, R.tab, R.one, kt, R.ord, R.gap, R.few⟩
abbrev fresh0 (w : World) : Obj := nset (!w.params.followText "set-order")
theorem PSet.new {h : Heap} {a : Addr} (ho : h.get? a = some (fresh0 w)) : PSet P w h a [] #[] 0 (.fresh 0 0 (!w.params.followText "set-order")) where
  obj := ⟨_, ho, ⟨rfl, rfl, rfl⟩, rfl⟩
  ent := rfl
  tab := ⟨List.Pairwise.nil, rfl, rfl, .inl rfl, fun x hx => (by cases hx), fun i h j hi => (by simp at hi)⟩
  one := List.nodup_nil
  tup := fun q m => (by cases m)
  ord := by
    show _ ∨ (!w.params.followText "set-order") = true
    cases w.params.followText "set-order" <;> simp
  gap := by show 0 * 5 < 7 * 3; decide
  few := by show 0 < 64; decide
theorem pairs_loop {I : Addr} {fp wr : List Addr} {G : Array GenState → Array GenState → Prop} {n : Nat} {Pv : Nat → Value → Prop} {Stt : Nat → Shared → Prop} {R : Result → Shared → Prop}
    (W : WalksS P w A.in1 I fp wr G n Pv Stt) (S : Addr) (hSf : S ∉ fp) (ks : List Pq) (hn : n = ks.length) (few : ks.length < 64) (hv : ∀ i v, Pv i v → ∃ q, ks[i]? = some q ∧ v = .ref q.1)
    (h0 : Heap) (hk : ∀ q ∈ ks, PAt P w h0 q.2 q.1) (hS0 : h0.get? S = none) (hw0 : ∀ b ∈ wr, h0.get? b = none) (hu : A.in1.units < cLine) (d : Nat) :
    ∀ (i : Nat) (s : Shared), n = i + d → Stt i s → (∀ b o, h0.get? b = some o → s.heap.get? b = some o) → (∃ L es ep t, PSet P w s.heap S L es ep t ∧ HasP ks i L) →
      (∀ s' L es ep t, Moved (S :: wr) G s s' → PSet P w s'.heap S L es ep t → HasP ks n L → (∀ b o, h0.get? b = some o → s'.heap.get? b = some o) → R (.ok (.ret .none)) s') →
      codeAny (model P w) A (.builtin "set.update.loop" ⟨[.ref S, .ref I], []⟩) R s := by
  have out : S ∉ wr := fun h => hSf (W.sub _ h)
  have more : ∀ b ∈ wr, b ∈ S :: wr := fun b h => List.mem_cons_of_mem _ h
  have stays : ∀ {s s' : Shared}, Moved wr G s s' → (∀ b o, h0.get? b = some o → s.heap.get? b = some o) → ∀ b o, h0.get? b = some o → s'.heap.get? b = some o := fun hm k b o e =>
    hm.heap b o (fun z => by rw [hw0 b z] at e; cases e) (k b o e)
  have sets : ∀ {s s' : Shared} {L es ep t i}, Moved wr G s s' → (∀ b o, h0.get? b = some o → s.heap.get? b = some o) → PSet P w s.heap S L es ep t → HasP ks i L → PSet P w s'.heap S L es ep t := fun hm k hS g =>
    hS.in_ (fun o e => hm.heap S o out e) fun q m => (hk q (List.mem_of_mem_take (g.old q m))).in_ fun o e => stays hm k _ o e
  induction d with
  | zero =>
    intro i s hd hs k ⟨L, es, ep, t, hS, g⟩ hR
    obtain rfl : n = i := hd
    refine codeAny_builtin PyProof.Rows.F.entry_set_update_loop ?_
    rw [Around.under_plainId PyProof.Rows.F.plain_set_update_loop _]
    show wpAny _ A.in1 (pyNext (.ref I) >>= _) _ _ s
    refine wpAny_bind (W.done s _ _ hs fun s' hm => ?_)
    show wpAny _ A.in1 (ret Value.none) _ _ s'
    exact wpAny_pure (hR s' L es ep t (hm.mono more) (sets hm k hS g) g (stays hm k))
  | succ d ih =>
    intro i s hd hs k ⟨L, es, ep, t, hS, g⟩ hR
    have lt : i < n := by omega
    refine codeAny_builtin PyProof.Rows.F.entry_set_update_loop ?_
    rw [Around.under_plainId PyProof.Rows.F.plain_set_update_loop _]
    show wpAny _ A.in1 (pyNext (.ref I) >>= _) _ _ s
    refine wpAny_bind (W.item i s _ _ lt hs fun v s' hP hs' hm => ?_)
    obtain ⟨q, hq, rfl⟩ := hv i v hP
    have k' := stays hm k
    have hS' := sets hm k hS g
    have hx : PAt P w s'.heap q.2 q.1 := (hk q (List.mem_of_getElem? hq)).in_ fun o e => k' _ o e
    show wpAny _ A.in1 (holding [Value.ref q.1] (setAdd S (.ref q.1)) >>= _) _ _ s'
    refine wpAny_bind (wpAny_holding ?_)
    unfold setAdd
    refine wpAny_holding (wpAny_bind (wpAny_pyHash_tuple hu hx ?_))
    refine put_in (s := { s' with toks := s'.toks + ((pk q.2).length + 1) }) hS' hx hu (by have := g.few; omega) fun b h' L' es' ep' t' hsb hS2 c => ?_
    have k2 : ∀ b o, h0.get? b = some o → h'.get? b = some o := fun b o e => (hsb.2 b fun z => by rw [z, hS0] at e; cases e).trans (k' b o e)
    refine wpAny_pure ⟨plainId_quiet PyProof.Rows.F.plain_set_update_loop _, ih (i + 1) _ (by omega) (W.frame _ s' _ _ hs' (Nat.le_add_right _ _) fun b hb o e => ?_) k2 ⟨L', es', ep', t', hS2, g.next hq c⟩ fun s2 L2 es2 ep2 t2 hm2 hS3 g2 k3 => ?_⟩
    · rw [hsb.2 b (fun h : b = S => hSf (by rw [← h]; exact hb))]
      exact e
    · refine hR s2 L2 es2 ep2 t2 (Moved.trans W.gtrans ((hm.mono more).then_heap (Nat.le_add_right _ _) fun b o hb e => ?_) hm2) hS3 g2 k3
      rw [hsb.2 b (fun h : b = S => hb (by rw [h]; exact List.mem_cons_self))]
      exact e
/-- what set(l) leaves -/
def PSetOut (P : Program) (w : World) (s : Shared) (ks : List Pq) (h' : Heap) : Prop :=
  ∃ L es ep t, PSet P w h' s.heap.objs.size L es ep t ∧ HasP ks ks.length L ∧ ∀ b o, s.heap.get? b = some o → h'.get? b = some o
theorem pairs_set {l : Addr} {items : Array Value} (ks : List Pq) {Q : Value → Shared → Prop} (hh : A.handled = none) (hl : s.heap.IsList l items) (hit : items.toList = ks.map fun q => Value.ref q.1) (hk : ∀ q ∈ ks, PAt P w s.heap q.2 q.1) (few : ks.length < 64) (hu : A.units + 8 < cLine)
    (h : ∀ (h' : Heap) (tk : Nat), PSetOut P w s ks h' → Q (.ref s.heap.objs.size) { s with heap := h', toks := tk }) :
    wpAny (model P w) A (call (.type "set") [.ref l]) Q E s := by
  have isz : items.size = ks.length := by rw [← Array.length_toList, hit, List.length_map]
  obtain ⟨ol, hol, hcl, nl, hdl⟩ := id hl
  have lt : l < s.heap.objs.size := Heap.lt_size hol
  obtain ⟨c, tl, hmro⟩ := PySem.F.called_set.mro
  have a1 := PySem.F.called_set.made
  have a2 := PySem.F.called_set.sub
  have a3 := PySem.F.called_set.notType
  have a4 := PySem.F.called_set.canCreate
  have a5 := PySem.F.typeCall_set_1 (.ref l)
  refine wpAny_call (codeAny_of_tree ?_)
  show wpAny _ _ (callAny (.type "set") _) _ _ _
  refine wpAny_pure ⟨Code.quiet_builtin _ (by decide +kernel), codeAny_builtin PySem.F.entry_type_call ?_⟩
  rw [Around.under_plain (weight_type_call_type "set" [.ref l] []) rfl]
  repeat (any_goals (first | assumption | wp_step))
  refine codeAny_mono (code_set_led1 (.ref l) (E := E) (Q₁ := fun obj t => obj = .ref s.heap.objs.size ∧ t = { s with heap := s.heap.push (fresh0 w) }) ⟨rfl, rfl⟩) fun r t hr => ?_
  cases r with
  | error e => exact hr
  | ok fl =>
    cases fl with
    | ret obj =>
      obtain ⟨rfl, rfl⟩ := hr
      have b1 : (s.heap.push (fresh0 w)).get? s.heap.objs.size = some (fresh0 w) := Heap.get?_push_size _ rfl
      have b2 : Shared.TypeIs { s with heap := s.heap.push (fresh0 w) } (.ref s.heap.objs.size) "set" := ⟨_, b1, rfl⟩
      have b3 := PySem.F.called_set.init.lookup
      have b4 := PySem.F.called_set.init.bind (.ref s.heap.objs.size)
      repeat (any_goals (first | assumption | wp_step))
      refine codeAny_mono (codeAny_call_builtin (R := wants (fun r t => r = .none ∧ ∃ h' tk, t = { s with heap := h', toks := tk } ∧ PSetOut P w s ks h') E) PySem.F.called_set.init.plain PySem.F.entry_set_init (check_set_init_1 b2 ?_)) fun r t hr => ?_
      · have c1 : Shared.TypeIs { s with heap := s.heap.push (fresh0 w) } (.ref l) "list" := ⟨ol, Heap.get?_push_of_some _ hol, hcl⟩
        have e1 := PySem.F.sub_list_set
        have e2 := PySem.F.sub_list_frozenset
        have e3 : (Value.type "list" == Value.type "dict") = false := by decide
        have il : (s.heap.push (fresh0 w)).IsList l items := hl.push _
        unfold Builtin.«set.__init__» noKeywords Builtin.Frozenset.updateFrom
        generalize hPI : pyIter = PI
        wp_walk
        subst hPI
        refine wpAny_pyIter_list il ?_
        have z1 : (s.heap.push (fresh0 w)).objs.size = s.heap.objs.size + 1 := Heap.size_push ..
        rw [z1]
        refine wpAny_bind (wpAny_runValue ?_)
        have nS : s.heap.objs.size ∉ [s.heap.objs.size + 1, l] := fun z => by
          rcases List.mem_cons.mp z with z | z
          · exact Nat.ne_of_lt (Nat.lt_succ_self _) z
          · exact Nat.ne_of_gt lt (List.mem_singleton.mp z)
        have ne : l ≠ s.heap.objs.size + 1 := Nat.ne_of_lt (Nat.lt_succ_of_lt lt)
        have free : ∀ b, s.heap.objs.size ≤ b → s.heap.get? b = none := fun b hb => by
          cases q : s.heap.get? b with
          | none => rfl
          | some o => exact absurd (Heap.lt_size q) (Nat.not_lt.mpr hb)
        have g2 : ((s.heap.push (fresh0 w)).push { cls := .type "list_iterator", data := .fields #[.ref l, .int 0 0] }).get? (s.heap.objs.size + 1) = some { cls := .type "list_iterator", data := .fields #[.ref l, .int 0 0] } := by
          have e := Heap.get?_push_size (s.heap.push (fresh0 w)) (o := { cls := .type "list_iterator", data := .fields #[.ref l, .int 0 0] }) rfl
          rwa [Heap.size_push] at e
        refine pairs_loop ((Walks.list (by simp [hh]) _ l ne items).toS) s.heap.objs.size nS ks isz few (fun i v hv => ?_) s.heap hk (free _ (Nat.le_refl _)) (fun b hb => free b (by rw [List.mem_singleton.mp hb]; omega)) (by simp only [Around.in1_units]; omega) items.size 0 _ (by omega)
          ⟨⟨_, g2, rfl, rfl⟩, il.push _⟩ (fun b o e => Heap.get?_push_of_some _ (Heap.get?_push_of_some _ e)) ⟨[], #[], 0, _, PSet.new (Heap.get?_push_of_some _ b1), ⟨fun q m => (by cases m), fun q m => (by simp at m), Nat.le_refl _⟩⟩ fun s' L es ep t hm hS g k => ?_
        · have e : items.toList[i]? = some v := by rw [Array.getElem?_toList]; exact hv
          rw [hit, List.getElem?_map] at e
          obtain ⟨q, h1, h2⟩ := Option.map_eq_some_iff.mp e
          exact ⟨q, h1, h2.symm⟩
        · obtain ⟨h', g', d', tk', os'⟩ := s'
          obtain rfl : g' = s.gens := hm.gens
          obtain rfl : d' = s.drawn := hm.drawn
          obtain rfl : os' = s.os := hm.os
          show wpAny _ _ _ _ _ _
          refine wpAny_pure ?_
          show wpAny _ _ (ret Value.none) _ _ _
          rw [isz] at g
          exact wpAny_pure ⟨rfl, h', tk', rfl, L, es, ep, t, hS, g, k⟩
      · cases r with
        | error e => exact hr
        | ok fl =>
          cases fl with
          | ret r =>
            obtain ⟨rfl, h', tk, rfl, o⟩ := hr
            repeat (any_goals (first | assumption | wp_step))
            exact h _ _ o
          | _ => exact hr.elim
    | _ => exact hr.elim
end
end Sr

set_option Elab.async false
set_option linter.all false
set_option maxRecDepth 100000
set_option maxHeartbeats 4000000
namespace Sr
open PySem PySem.Spec PyProof.Rows L2
/-! ### sorted(set(xs)) of texts -/
def txtOf (e : Int × Value) : Str := match e.2 with
  | .str z _ => z
  | _ => Str.empty
def TxtE (P : Program) (w : World) (e : Int × Value) : Prop := ∃ z t, e.2 = Value.str z t ∧ e.1 = (PySem.strKind P w).hash z
/-- the set at a has the texts L (each once, in any order) -/
def TSet (P : Program) (w : World) (h : Heap) (a : Addr) (L : List Str) : Prop :=
  ∃ o es ep t, h.get? a = some o ∧ o.ExactSet ∧ o.data = .set es ep t ∧ (∀ e ∈ es.toList, TxtE P w e) ∧ (es.toList.map txtOf).Perm L ∧ es.size < scanBound ∧ t.fits es.size = true ∧ Ris t.place.toList ∧ (w.params.followText "set-order" = true ∨ t.led = true)
section
variable {P : Program} {w : World} {A : Around} {E : Value → Shared → Prop} {s : Shared} {a : Addr} {L : List Str}
theorem TSet.in_ {h h' : Heap} (R : TSet P w h a L) (k : ∀ o, h.get? a = some o → h'.get? a = some o) : TSet P w h' a L :=
  let ⟨o, es, ep, t, ho, r⟩ := R
  ⟨o, es, ep, t, k o ho, r⟩
theorem txt_elems {l : List (Int × Value)} (g : ∀ e ∈ l, TxtE P w e) : ElemsOf (PySem.strKind P w) l := fun e m => by
  obtain ⟨z, t, e1, e2⟩ := g e m
  exact ⟨⟨z, by rw [e1]; exact strKind_is P w z t, e2⟩, by rw [e1]; rfl⟩
theorem txt_is {e : Int × Value} (g : TxtE P w e) (z : Str) : (PySem.strKind P w).is z e.2 = true ↔ txtOf e = z := by
  obtain ⟨y, t, e1, _⟩ := g
  unfold txtOf
  rw [e1]
  show ((y == z) = true) ↔ y = z
  exact beq_iff_eq
/-- what is stored behind a text that is new, the table laid anew where it is too full -/
theorem tset_stored {mark : Bool → Sem Unit} (hm : ∀ (b : Bool) (s₁ : Shared) (Q' : Unit → Shared → Prop), Q' () s₁ → wpAny (model P w) A (mark b) Q' E s₁)
    {o : Obj} {es es1 : Array (Int × Value)} {ep : Nat} {t t1 : SetTable} (ho : s.heap.get? a = some o) (hex : o.ExactSet) (hd : o.data = .set es ep t) (g : ∀ e ∈ es1.toList, TxtE P w e) (pm : (es1.toList.map txtOf).Perm L) (hb : es1.size < scanBound) (hf : t1.fits es1.size = true)
    (hr : Ris t1.place.toList) (hl : w.params.followText "set-order" = true ∨ t1.led = true) {dm : Bool} {R : Option Bool → Shared → Prop} (hR : ∀ h', Heap.SameBut a s.heap h' → TSet P w h' a L → R (some true) { s with heap := h' }) :
    wpAny (model P w) A (do
      storeSet a es1 t1
      if (!dm && t1.tooFull) = true then do
        mark (relayAll t1 es1 (SetTable.grown es1.size)).2.2
        storeSet a (relayAll t1 es1 (SetTable.grown es1.size)).1 (relayAll t1 es1 (SetTable.grown es1.size)).2.1
        pure (some true)
      else pure (some true)) R E s := by
  have but := Heap.SameBut.update s.heap a (Obj.putSet es1 t1)
  have at1 := store_at (es' := es1) (t' := t1) ho hd
  refine wpAny_bind (wpAny_storeSet_of ho hd ?_ (fits_of_scanBound hb))
  by_cases full : (!dm && t1.tooFull) = true
  · rw [if_pos full]
    have q1 := relayAll_perm t1 es1 (SetTable.grown es1.size)
    have q2 := relayAll_fits t1 es1 (SetTable.grown es1.size)
    have q3 := relayAll_ris t1 es1 (SetTable.grown es1.size)
    have q4 := relayAll_led t1 es1 (SetTable.grown es1.size)
    generalize relayAll t1 es1 (SetTable.grown es1.size) = Z at q1 q2 q3 q4 ⊢
    have sz : Z.1.size = es1.size := by
      have := q1.length_eq
      rwa [Array.length_toList, Array.length_toList] at this
    have hb2 : Z.1.size < scanBound := by omega
    refine wpAny_bind (hm _ _ _ (wpAny_bind (wpAny_storeSet_of at1 rfl ?_ (fits_of_scanBound hb2))))
    exact wpAny_pure (hR _ (but.trans (Heap.SameBut.update _ a _)) ⟨_, Z.1, _, Z.2.1, store_at at1 rfl, hex, rfl, fun e m => g e (q1.mem_iff.mp m), (q1.map txtOf).trans pm, hb2, q2, q3, hl.imp id fun z => by rw [q4]; exact z⟩)
  · rw [if_neg full]
    exact wpAny_pure (hR _ but ⟨_, es1, _, t1, at1, hex, rfl, g, pm, hb, hf, hr, hl⟩)
/-- a text put in -/
theorem tset_put {z : Str} {tk : Tok} {Q : Bool → Shared → Prop} (R : TSet P w s.heap a L) (room : L.length + 1 < scanBound)
    (hQ : ∀ b h', Heap.SameBut a s.heap h' → TSet P w h' a (if L.any (· == z) = true then L else L ++ [z]) → Q b { s with heap := h' }) :
    wpAny (model P w) A (setAddHashed a (.str z tk) ((PySem.strKind P w).hash z)) Q E s := by
  obtain ⟨o, es, ep, t, ho, hex, hd, g, pm, hb, hf, hr, hl⟩ := id R
  have hk : (PySem.strKind P w).is z (.str z tk) = true := strKind_is P w z tk
  have hc : (Value.str z tk).scannable = true := rfl
  have hel := txt_elems g
  have hn : es.size = L.length := by
    have := pm.length_eq
    rwa [List.length_map, Array.length_toList] at this
  have has : L.any (· == z) = true ↔ ∃ e ∈ es.toList, (PySem.strKind P w).is z e.2 = true := by
    rw [List.any_eq_true]
    constructor
    · rintro ⟨y, my, e⟩
      obtain ⟨e2, m2, rfl⟩ := List.mem_map.mp (pm.mem_iff.mpr my)
      exact ⟨e2, m2, (txt_is (g e2 m2) z).mpr (beq_iff_eq.mp e)⟩
    · rintro ⟨e2, m2, e⟩
      exact ⟨txtOf e2, pm.mem_iff.mp (List.mem_map.mpr ⟨e2, m2, rfl⟩), beq_iff_eq.mpr ((txt_is (g e2 m2) z).mp e)⟩
  unfold setAddHashed setAddHashedIn
  refine wpAny_holding (wpAny_bind (wpAny_setState_of ho hd hf ?_))
  dsimp only
  rw [byScan_of hc hb hel, if_pos rfl]
  unfold setAddByScan
  refine wpAny_bind (wpAny_bind (wpAny_rule (wpAny_bind (wpAny_setScan_of hk ho hd hf hel ?_))))
  cases hi : List.findIdx? (fun e => (PySem.strKind P w).is z e.2) es.toList with
  | some j =>
    obtain ⟨hj, pj, _⟩ := List.findIdx?_eq_some_iff_getElem.mp hi
    refine wpAny_pure (wpAny_pure (hQ _ s.heap (Heap.SameBut.refl a s.heap) ?_))
    rw [if_pos (has.mpr ⟨_, List.getElem_mem hj, pj⟩)]
    exact R
  | none =>
    have no : ¬ L.any (· == z) = true := fun h => by
      obtain ⟨e, m, q⟩ := has.mp h
      have c := List.findIdx?_eq_none_iff.mp hi e m
      rw [q] at c
      cases c
    rw [if_neg no] at hQ
    dsimp only
    have mk : ∀ (b : Bool) {s₁ : Shared} {Q' : Unit → Shared → Prop}, Q' () s₁ → wpAny (model P w) A (match b with | true => rule "set.scan.the-table-gave-way" | false => pure ()) Q' E s₁ :=
      fun b s₁ Q' q => by cases b <;> first | exact wpAny_pure q | exact wpAny_rule q
    have q1 := layNew_perm t es ((PySem.strKind P w).hash z) (.str z tk)
    have q2 := layNew_fits t es ((PySem.strKind P w).hash z) (.str z tk)
    have q3 := layNew_ris t es ((PySem.strKind P w).hash z) (.str z tk) hr
    have q4 := layNew_led t es ((PySem.strKind P w).hash z) (.str z tk)
    generalize layNew t es ((PySem.strKind P w).hash z) (.str z tk) = Z at q1 q2 q3 q4 ⊢
    obtain ⟨es1, t1, dm, gave⟩ := Z
    dsimp only at q1 q2 q3 q4 ⊢
    rw [Array.toList_push] at q1
    have p1 : (es1.toList.map txtOf).Perm (L ++ [z]) := by
      refine (q1.map txtOf).trans ?_
      rw [List.map_append]
      exact pm.append_right _
    have sz : es1.size = L.length + 1 := by
      have := p1.length_eq
      rwa [List.length_map, Array.length_toList, List.length_append] at this
    have hb1 : es1.size < scanBound := by omega
    have g1 : ∀ e ∈ es1.toList, TxtE P w e := fun e m => by
      rcases List.mem_append.mp (q1.mem_iff.mp m) with m | m
      · exact g e m
      · rw [List.mem_singleton.mp m]
        exact ⟨z, tk, rfl, rfl⟩
    have led : w.params.followText "set-order" = true ∨ t1.led = true := hl.imp id fun y => by rw [q4]; exact y
    have ok : ∀ t2 : SetTable, t2.fits es1.size = true → t2.place = t1.place → t2.led = t1.led → Ris t2.place.toList ∧ (w.params.followText "set-order" = true ∨ t2.led = true) := fun t2 _ e1 e2 => ⟨by rw [e1]; exact q3, by rw [e2]; exact led⟩
    refine wpAny_bind (mk _ ?_)
    split
    · refine wpAny_bind ?_
      rw [hashByValue_scannable 8 hc]
      refine wpAny_pure (tset_stored (L := L ++ [z]) ?_ ho hex hd g1 p1 hb1 ?_ ?_ ?_ fun h' but r => ?_)
      · intro b s₁ Q' q; cases b <;> first | exact wpAny_pure q | exact wpAny_rule q
      · first | (split <;> first | exact q2 | exact SetTable.fits_plain_off q2) | exact q2
      · first | (split <;> exact q3) | exact q3
      · first | (split <;> exact led) | exact led
      · dsimp only; exact wpAny_pure (hQ _ h' but r)
    · refine wpAny_bind (wpAny_pure ?_)
      simp only [↓reduceIte]
      refine tset_stored (L := L ++ [z]) ?_ ho hex hd g1 p1 hb1 q2 q3 led fun h' but r => ?_
      · intro b s₁ Q' q; cases b <;> first | exact wpAny_pure q | exact wpAny_rule q
      · dsimp only; exact wpAny_pure (hQ _ h' but r)
end
end Sr

set_option Elab.async false
set_option linter.all false
set_option maxRecDepth 100000
set_option maxHeartbeats 4000000
namespace Sr
open PySem PySem.Spec PyProof.Rows L2
section
variable {P : Program} {w : World} {A : Around} {E : Value → Shared → Prop} {s : Shared}
theorem TSet.new {h : Heap} {a : Addr} (ho : h.get? a = some (fresh0 w)) : TSet P w h a [] := by
  refine ⟨_, #[], 0, _, ho, ⟨rfl, rfl, rfl⟩, rfl, fun e m => (by cases m), .nil, by decide, by rfl, List.Pairwise.nil, ?_⟩
  show _ ∨ (!w.params.followText "set-order") = true
  cases w.params.followText "set-order" <;> simp
theorem met_at (xs : List Str) (i : Nat) : (if ((met xs i).any (· == xs.getD i Str.empty)) = true then met xs i else met xs i ++ [xs.getD i Str.empty]) = met xs (i + 1) := rfl
theorem tset_loop {R : Result → Shared → Prop} {I : Addr} {fp wr : List Addr} {G : Array GenState → Array GenState → Prop} {n : Nat} {Pv : Nat → Value → Prop} {Stt : Nat → Shared → Prop}
    (W : WalksS P w A.in1 I fp wr G n Pv Stt) (S : Addr) (hSf : S ∉ fp) (xs : List Str) (hv : ∀ i v, Pv i v → ∃ t, v = .str (xs.getD i Str.empty) t) (hb : n + 1 < scanBound) (d : Nat) :
    ∀ (i : Nat) (s : Shared), n = i + d → Stt i s → TSet P w s.heap S (met xs i) → (∀ s', Moved (S :: wr) G s s' → TSet P w s'.heap S (met xs n) → R (.ok (.ret .none)) s') →
      codeAny (model P w) A (.builtin "set.update.loop" ⟨[.ref S, .ref I], []⟩) R s := by
  have out : S ∉ wr := fun h => hSf (W.sub _ h)
  have more : ∀ b ∈ wr, b ∈ S :: wr := fun b h => List.mem_cons_of_mem _ h
  have moves : ∀ (s s' : Shared) (i : Nat), Moved wr G s s' → TSet P w s.heap S (met xs i) → TSet P w s'.heap S (met xs i) := fun s s' i hm R => R.in_ fun o e => hm.heap S o out e
  induction d with
  | zero =>
    intro i s hd hs hS hR
    obtain rfl : n = i := hd
    refine codeAny_builtin PyProof.Rows.F.entry_set_update_loop ?_
    rw [Around.under_plainId PyProof.Rows.F.plain_set_update_loop _]
    show wpAny _ A.in1 (pyNext (.ref I) >>= _) _ _ s
    refine wpAny_bind (W.done s _ _ hs fun s' hm => ?_)
    show wpAny _ A.in1 (ret Value.none) _ _ s'
    exact wpAny_pure (hR s' (hm.mono more) (moves s s' _ hm hS))
  | succ d ih =>
    intro i s hd hs hS hR
    have lt : i < n := by omega
    refine codeAny_builtin PyProof.Rows.F.entry_set_update_loop ?_
    rw [Around.under_plainId PyProof.Rows.F.plain_set_update_loop _]
    show wpAny _ A.in1 (pyNext (.ref I) >>= _) _ _ s
    refine wpAny_bind (W.item i s _ _ lt hs fun v s' hP hs' hm => ?_)
    obtain ⟨t, rfl⟩ := hv i v hP
    have hS' := moves s s' i hm hS
    show wpAny _ A.in1 (holding [Value.str (xs.getD i Str.empty) t] (setAdd S _) >>= _) _ _ s'
    refine wpAny_bind (wpAny_holding ?_)
    unfold setAdd
    refine wpAny_holding (wpAny_bind ((PySem.strKind P w).pyHash (k := xs.getD i Str.empty) (strKind_is _ _ _ _) ?_))
    have room : (met xs i).length + 1 < scanBound := by have := met_le xs i; omega
    refine tset_put (s := { s' with toks := s'.toks + 1 }) hS' room fun b h' hsb hS2 => ?_
    rw [met_at] at hS2
    refine wpAny_pure ⟨plainId_quiet PyProof.Rows.F.plain_set_update_loop _, ih (i + 1) _ (by omega) (W.frame _ s' _ _ hs' (Nat.le_succ _) fun b hb o e => ?_) hS2 fun s2 hm2 hS4 => ?_⟩
    · rw [hsb.2 b (fun h : b = S => hSf (by rw [← h]; exact hb))]
      exact e
    · refine hR s2 (Moved.trans W.gtrans ((hm.mono more).then_heap (Nat.le_succ _) fun b o hb e => ?_) hm2) hS4
      rw [hsb.2 b (fun h : b = S => hb (by rw [h]; exact List.mem_cons_self))]
      exact e
theorem strs_getD {us : List Value} {xs : List Str} (h : PyProof.Rows.StrsAre us xs) : ∀ (i : Nat) (v : Value), us[i]? = some v → ∃ t, v = .str (xs.getD i Str.empty) t := by
  induction h with
  | nil => intro i v e; simp at e
  | cons _ _ _ ih =>
    intro i v e
    cases i with
    | zero => simp at e; exact ⟨_, e.symm⟩
    | succ i => exact ih i v (by simpa using e)
def TSetOut (P : Program) (w : World) (s : Shared) (xs : List Str) (h' : Heap) : Prop := TSet P w h' s.heap.objs.size (met xs xs.length) ∧ ∀ b o, s.heap.get? b = some o → h'.get? b = some o
theorem texts_tset {l : Addr} {items : Array Value} (xs : List Str) {Q : Value → Shared → Prop} (hh : A.handled = none) (hl : s.heap.IsList l items) (hit : PyProof.Rows.StrsAre items.toList xs) (few : xs.length < 64)
    (h : ∀ (h' : Heap) (tk : Nat), TSetOut P w s xs h' → Q (.ref s.heap.objs.size) { s with heap := h', toks := tk }) :
    wpAny (model P w) A (call (.type "set") [.ref l]) Q E s := by
  have isz : items.size = xs.length := by
    have z := hit.length
    rwa [Array.length_toList] at z
  obtain ⟨ol, hol, hcl, nl, hdl⟩ := id hl
  have lt : l < s.heap.objs.size := Heap.lt_size hol
  obtain ⟨c, tl, hmro⟩ := PySem.F.called_set.mro
  have a1 := PySem.F.called_set.made
  have a2 := PySem.F.called_set.sub
  have a3 := PySem.F.called_set.notType
  have a4 := PySem.F.called_set.canCreate
  have a5 := PySem.F.typeCall_set_1 (.ref l)
  refine wpAny_call (codeAny_of_tree ?_)
  show wpAny _ _ (callAny (.type "set") _) _ _ _
  refine wpAny_pure ⟨Code.quiet_builtin _ (by decide +kernel), codeAny_builtin PySem.F.entry_type_call ?_⟩
  rw [Around.under_plain (weight_type_call_type "set" [.ref l] []) rfl]
  repeat (any_goals (first | assumption | wp_step))
  refine codeAny_mono (code_set_led1 (.ref l) (E := E) (Q₁ := fun obj t => obj = .ref s.heap.objs.size ∧ t = { s with heap := s.heap.push (fresh0 w) }) ⟨rfl, rfl⟩) fun r t hr => ?_
  cases r with
  | error e => exact hr
  | ok fl =>
    cases fl with
    | ret obj =>
      obtain ⟨rfl, rfl⟩ := hr
      have b1 : (s.heap.push (fresh0 w)).get? s.heap.objs.size = some (fresh0 w) := Heap.get?_push_size _ rfl
      have b2 : Shared.TypeIs { s with heap := s.heap.push (fresh0 w) } (.ref s.heap.objs.size) "set" := ⟨_, b1, rfl⟩
      have b3 := PySem.F.called_set.init.lookup
      have b4 := PySem.F.called_set.init.bind (.ref s.heap.objs.size)
      repeat (any_goals (first | assumption | wp_step))
      refine codeAny_mono (codeAny_call_builtin (R := wants (fun r t => r = .none ∧ ∃ h' tk, t = { s with heap := h', toks := tk } ∧ TSetOut P w s xs h') E) PySem.F.called_set.init.plain PySem.F.entry_set_init (check_set_init_1 b2 ?_)) fun r t hr => ?_
      · have c1 : Shared.TypeIs { s with heap := s.heap.push (fresh0 w) } (.ref l) "list" := ⟨ol, Heap.get?_push_of_some _ hol, hcl⟩
        have e1 := PySem.F.sub_list_set
        have e2 := PySem.F.sub_list_frozenset
        have e3 : (Value.type "list" == Value.type "dict") = false := by decide
        have il : (s.heap.push (fresh0 w)).IsList l items := hl.push _
        unfold Builtin.«set.__init__» noKeywords Builtin.Frozenset.updateFrom
        generalize hPI : pyIter = PI
        wp_walk
        subst hPI
        refine wpAny_pyIter_list il ?_
        have z1 : (s.heap.push (fresh0 w)).objs.size = s.heap.objs.size + 1 := Heap.size_push ..
        rw [z1]
        refine wpAny_bind (wpAny_runValue ?_)
        have nS : s.heap.objs.size ∉ [s.heap.objs.size + 1, l] := fun z => by
          rcases List.mem_cons.mp z with z | z
          · exact Nat.ne_of_lt (Nat.lt_succ_self _) z
          · exact Nat.ne_of_gt lt (List.mem_singleton.mp z)
        have ne : l ≠ s.heap.objs.size + 1 := Nat.ne_of_lt (Nat.lt_succ_of_lt lt)
        have g2 : ((s.heap.push (fresh0 w)).push { cls := .type "list_iterator", data := .fields #[.ref l, .int 0 0] }).get? (s.heap.objs.size + 1) = some { cls := .type "list_iterator", data := .fields #[.ref l, .int 0 0] } := by
          have e := Heap.get?_push_size (s.heap.push (fresh0 w)) (o := { cls := .type "list_iterator", data := .fields #[.ref l, .int 0 0] }) rfl
          rwa [Heap.size_push] at e
        refine tset_loop ((Walks.list (by simp [hh]) _ l ne items).toS) s.heap.objs.size nS xs (fun i v hv => strs_getD hit i v (by rw [Array.getElem?_toList]; exact hv)) (by unfold scanBound; omega) items.size 0 _ (by omega)
          ⟨⟨_, g2, rfl, rfl⟩, il.push _⟩ (TSet.new (Heap.get?_push_of_some _ b1)) fun s' hm hS => ?_
        obtain ⟨h', g', d', tk', os'⟩ := s'
        obtain rfl : g' = s.gens := hm.gens
        obtain rfl : d' = s.drawn := hm.drawn
        obtain rfl : os' = s.os := hm.os
        show wpAny _ _ _ _ _ _
        refine wpAny_pure ?_
        show wpAny _ _ (ret Value.none) _ _ _
        rw [isz] at hS
        refine wpAny_pure ⟨rfl, h', tk', rfl, hS, fun b o e => ?_⟩
        have lb : b < s.heap.objs.size := Heap.lt_size e
        refine hm.heap b o (fun z => ?_) (Heap.get?_push_of_some _ (Heap.get?_push_of_some _ e))
        simp only [List.mem_cons, List.not_mem_nil, or_false] at z
        rcases z with z | z
        · exact Nat.ne_of_lt lb z
        · exact Nat.ne_of_lt (Nat.lt_succ_of_lt lb) z
      · cases r with
        | error e => exact hr
        | ok fl =>
          cases fl with
          | ret r =>
            obtain ⟨rfl, h', tk, rfl, o⟩ := hr
            repeat (any_goals (first | assumption | wp_step))
            exact h _ _ o
          | _ => exact hr.elim
    | _ => exact hr.elim
theorem strs_each {us : List Value} : (∀ v ∈ us, ∃ z t, v = Value.str z t) → PyProof.Rows.StrsAre us (us.map fun v => txtOf (0, v)) := by
  induction us with
  | nil => intro _; exact .nil
  | cons u us ih =>
    intro h
    obtain ⟨z, t, rfl⟩ := h u List.mem_cons_self
    exact .cons _ _ (ih fun v m => h v (List.mem_cons_of_mem _ m))
end
section
variable {X : Cx}
def tSortTxt (K : PySem.W.Frag) (ta : TE) : TE := fun σ H Q => ta σ H fun x H1 => ∃ (l : Addr) (xs : List Str), x = .ref l ∧ SqL K H1 l (xs.map V.str) ∧ xs.length < 64 ∧
  ∀ (ys : List Str) (p : Addr), ys.Perm (met xs xs.length) → sortedS ys = true → H1 p = none → Q (.ref p) (upd H1 p (.lst (ys.map V.str)))
theorem pe_sortTxt {a : Expr} {ta : TE} {p p2 q pos : Pos} (hc : X.calm = true) (hg : Gl X "sorted") (hm : X.mg "sorted" = none) (hg2 : Gl X "set") (hm2 : X.mg "set" = none) (ha : PE X a ta)
    (na : starEach [a] X.env = (false, eval a X.env) :: starEach [] X.env := by rfl) : PE X (.Call (.Name "sorted" p) [.Call (.Name "set" p2) [a] [] q] [] pos) (tSortTxt X.K ta) := by
  refine ⟨fun pins s σ H Q I h => ?_⟩
  refine Call_ (ld_blt (u := .builtin "sorted") I hg hm (by decide +kernel) ?_)
  refine PyProof.Rows.callWith_builtin1 (PyProof.Rows.args_cons ?_ rfl) rfl rfl
  refine Call_ (ld_blt (u := .type "set") I hg2 hm2 (by decide +kernel) ?_)
  refine PyProof.Rows.callWith_type1 (PyProof.Rows.args_cons (thn (ha.run pins s σ H _ I h) fun v s1 ⟨x, H1, I1, r1, q1⟩ => PyProof.Rows.args_nil ?_) na) na rfl
  obtain ⟨l, xs, rfl, hq, few, q1⟩ := q1
  cases r1
  obtain ⟨its, r, pl, hz⟩ := I1.list hq
  refine texts_tset (P := X.prog) (w := X.w) xs (I1.ok.hd hc) pl.isList (by simpa using r.strs) few fun h' tk ⟨R, keep⟩ => ?_
  refine PyProof.Rows.args_nil ?_
  have I2 : L2.Inv X pins σ H1 { s1 with heap := h', toks := tk } := I1.kept keep
  refine Calls.call_function_entry PyProof.Rows.kind_sorted PyProof.Rows.plain_sorted PyProof.Rows.entry_sorted (PyProof.Rows.args_sorted1 _) ?_
  unfold Builtin.«sorted»
  refine wpAny_bind (m := checkCount "sorted" 1 1 _) (wpAny_pure ?_)
  obtain ⟨o, es, ep, t, ho, hex, hd, g, pm, hb, hf, hr, hl⟩ := R
  have lm := met_le xs xs.length
  refine wpAny_bind (collect_set (P := X.prog) (w := X.w) (A := X.A.in1) (I1.ok.hd hc) ⟨o, ho, hex.1, hd⟩ hf hb hr hl fun s2 vs k2 hz2 g2 o2 pv => ?_)
  have lv : vs.length < 64 := by
    have h1 := pv.length_eq
    have h2 := pm.length_eq
    rw [List.length_map] at h1 h2
    omega
  have hS : PyProof.Rows.StrsAre vs (vs.map fun v => txtOf (0, v)) := strs_each fun v m => by
    obtain ⟨e, me, q⟩ := List.mem_map.mp (pv.mem_iff.mp m)
    obtain ⟨z, t, e1, _⟩ := g e me
    exact ⟨z, t, by rw [← q]; exact e1⟩
  have pt : (vs.map fun v => txtOf (0, v)).Perm (met xs xs.length) := by
    refine (pv.map fun v => txtOf (0, v)).trans ?_
    rw [List.map_map]
    exact pm
  refine wpAny_bind (wpAny_newList ?_ (by rw [sizeLine_eq]; omega))
  have hoL : (s2.heap.push (seqObj "list" vs.toArray 0)).get? s2.heap.objs.size = some (seqObj "list" vs.toArray 0) := Heap.get?_push_size _ rfl
  refine wpAny_bind (wpAny_holding (wpAny_call_entry PyProof.Rows.slot_list_sort ⟨_, hoL, rfl⟩ PyProof.Rows.entry_list_sort
    (list_sort_treeK strKind_oneLt hoL hS.keysOf (fun v₁ v₂ rest e => keyKind_strs (by rw [← e]; exact hS)) lv fun st' hp hs => ⟨_, rfl, ?_⟩) (PyProof.Rows.args_list_sort _)))
  obtain ⟨ys, y1, y2, y3⟩ := sorted_out_str hS hp hs
  obtain ⟨e', he'⟩ := PyProof.Rows.sortedHeap_at (vs := vs) (out := (arrOf st').map (·.2)) hoL
  have hlen : (ys.map V.str).length ≤ sizeLine := by
    rw [List.length_map, y2.length_eq, List.length_map, sizeLine_eq]
    omega
  have kk : ∀ b o, h'.get? b = some o → (PyProof.Rows.sortedHeap (s2.heap.push (seqObj "list" vs.toArray 0)) s2.heap.objs.size vs ((arrOf st').map (·.2))).get? b = some o := fun b o e => by
    have lb : b < s2.heap.objs.size := Heap.lt_size (k2 b o e)
    rw [PyProof.Rows.sortedHeap_old (Nat.ne_of_lt lb) (by rw [size_push']; exact Nat.lt_succ_of_lt lb)]
    exact Heap.get?_push_of_some _ (k2 b o e)
  have hn : H1 s2.heap.objs.size = none := I2.hok.fresh hz2
  have J : L2.Inv X pins σ (upd H1 s2.heap.objs.size (.lst (ys.map V.str))) { ({ s1 with heap := h', toks := tk } : Shared) with heap := PyProof.Rows.sortedHeap (s2.heap.push (seqObj "list" vs.toArray 0)) s2.heap.objs.size vs ((arrOf st').map (·.2)), gens := s2.gens, drawn := s2.drawn, toks := s2.toks } :=
    I2.call (ch := []) (Un.laid kk hz2 hn) (I2.hok.laid kk hz2 ⟨hlen, ((arrOf st').map (·.2)).toList, e', vals_of_strs y1, by rw [Array.toArray_toList]; exact he'⟩) (by rw [g2]; exact I2.bare) (fun _ z => nomatch z)
  have es2 : s2 = { ({ s1 with heap := h', toks := tk } : Shared) with heap := s2.heap, gens := s2.gens, drawn := s2.drawn, toks := s2.toks } := by
    cases s2
    cases o2
    rfl
  refine wpAny_pure ⟨_, rfl, .ref s2.heap.objs.size, upd H1 s2.heap.objs.size (.lst (ys.map V.str)), ?_, rfl, q1 ys _ (y2.trans pt) y3 hn⟩
  rw [es2]
  exact J
end
end Sr

set_option Elab.async false
set_option linter.all false
set_option maxRecDepth 100000
set_option maxHeartbeats 4000000
namespace K34
open PySem PySem.Spec PyProof.Rows L2 Sr
/-- two orders of the same names, both ascending -/
def leS (a b : Str) : Prop := a.cps.toList ≤ b.cps.toList
theorem leS_of {a b : Str} (h : (!ltCps b.cps.toList a.cps.toList) = true) : leS a b := by
  rw [ltCps_eq] at h
  exact List.not_lt.mp (of_decide_eq_false (by simpa using h))
theorem rising_pw : ∀ {r : List Str} {p : Str}, PyProof.Rows.risingS p r = true → (p :: r).Pairwise leS
  | [], p, _ => List.pairwise_singleton _ _
  | x :: r, p, h => by
    obtain ⟨h1, h2⟩ := Bool.and_eq_true_iff.mp h
    have ih := rising_pw h2
    have px := leS_of h1
    refine List.pairwise_cons.mpr ⟨fun y m => ?_, ih⟩
    rcases List.mem_cons.mp m with rfl | m
    · exact px
    · exact List.le_trans px ((List.pairwise_cons.mp ih).1 y m)
theorem sorted_pw {ys : List Str} (h : PyProof.Rows.sortedS ys = true) : ys.Pairwise leS := by
  cases ys with
  | nil => exact List.Pairwise.nil
  | cons y r => exact rising_pw h
theorem sorted_one {xs ys zs : List Str} (hx : xs.Perm zs) (hy : ys.Perm zs) (sx : PyProof.Rows.sortedS xs = true) (sy : PyProof.Rows.sortedS ys = true) : xs = ys := by
  refine List.Perm.eq_of_pairwise (le := leS) (fun a b _ _ h1 h2 => ?_) (sorted_pw sx) (sorted_pw sy) (hx.trans hy.symm)
  have e : a.cps.toList = b.cps.toList := List.le_antisymm h1 h2
  obtain ⟨⟨ca⟩⟩ := a
  obtain ⟨⟨cb⟩⟩ := b
  simp only at e
  rw [e]
theorem nodup_len : ∀ {ys xs : List Str}, ys.Nodup → (∀ s ∈ ys, s ∈ xs) → ys.length ≤ xs.length
  | [], _, _, _ => Nat.zero_le _
  | y :: r, xs, nd, h => by
    obtain ⟨n1, n2⟩ := List.nodup_cons.mp nd
    have my := h y List.mem_cons_self
    have ih := nodup_len (xs := xs.erase y) n2 fun s m => (List.mem_erase_of_ne (fun (e : s = y) => n1 (by rw [← e]; exact m))).mpr (h s (List.mem_cons_of_mem _ m))
    have := List.length_erase_of_mem my
    have pos : 0 < xs.length := List.length_pos_of_mem my
    rw [List.length_cons]
    omega
abbrev Rw := List (Str × Int)
abbrev Hs := List (Str × Rw)
def gC (cs : Rw) (n : Str) : Int := (cs.lookup n).getD 0
def gR (hs : Hs) (n : Str) : Rw := (hs.lookup n).getD []
def CoinsC (kc : List (Key × V)) (cs : Rw) : Prop := Paired (fun (kv : Key × V) (p : Str × Int) => kv.1 = Sum.inr p.1 ∧ kv.2 = .int p.2) kc cs
/-- a dict of dicts of numbers -/
def HldR (H : Hp) (kv : List (Key × V)) (hs : Hs) : Prop := Paired (fun (kv : Key × V) (p : Str × Rw) => kv.1 = Sum.inr p.1 ∧ ∃ d kr, kv.2 = .ref d ∧ H d = some (.dK kr) ∧ CoinsC kr p.2) kv hs
theorem HldR.mono {H H' : Hp} (s : Same H H') {kv : List (Key × V)} {hs : Hs} (h : HldR H kv hs) : HldR H' kv hs := L2.Paired.mapP h fun _ _ ⟨e, d, kr, a, b, c⟩ => ⟨e, d, kr, a, s _ _ b, c⟩
def goodR (r : Rw) : Prop := (r.map (·.1)).Nodup ∧ r.length ≤ 6 ∧ ∀ p ∈ r, nameOk (.str p.1) = true ∧ 0 ≤ p.2
def goodH (hs : Hs) : Prop := (hs.map (·.1)).Nodup ∧ hs.length ≤ 6 ∧ ∀ p ∈ hs, nameOk (.str p.1) = true ∧ goodR p.2
theorem CoinsC.val {kc : List (Key × V)} {cs : Rw} (h : CoinsC kc cs) (n : Str) : valV kc (Sum.inr n) = (cs.lookup n).map V.int := by
  unfold CoinsC at h
  induction h with
  | nil => rfl
  | @cons kv p kc cs h r ih =>
    rw [List.lookup_cons]
    by_cases c : n = p.1
    · subst c
      rw [valV_pos (by rw [h.1]), beq_self_eq_true, h.2]
      rfl
    · rw [valV_neg (by rw [h.1]; exact fun z => c (Sum.inr.inj z).symm), beq_false_of_ne c]
      exact ih
theorem look_mem {α : Type} {l : List (Str × α)} {n : Str} {a : α} (h : l.lookup n = some a) : (n, a) ∈ l := by
  induction l with
  | nil => cases h
  | cons p r ih =>
    rw [List.lookup_cons] at h
    by_cases c : n = p.1
    · subst c
      rw [beq_self_eq_true] at h
      cases h
      exact List.mem_cons_self
    · rw [beq_false_of_ne c] at h
      exact List.mem_cons_of_mem _ (ih h)
theorem keys_names {α : Type} {F : V → α → Prop} {kv : List (Key × V)} {l : List (Str × α)} (h : Paired (fun (kv : Key × V) (p : Str × α) => kv.1 = Sum.inr p.1 ∧ F kv.2 p.2) kv l) : kv.map (fun kv => kV kv.1) = (l.map (·.1)).map V.str ∧ kv.map (·.1) = l.map fun p => (Sum.inr p.1 : Key) := by
  induction h with
  | nil => exact ⟨rfl, rfl⟩
  | @cons kv p kc cs h r ih =>
    refine ⟨?_, ?_⟩
    · rw [List.map_cons, List.map_cons, List.map_cons, ih.1, h.1]
      rfl
    · rw [List.map_cons, List.map_cons, ih.2, h.1]
theorem keys_nd {α : Type} {F : V → α → Prop} {kv : List (Key × V)} {l : List (Str × α)} (h : Paired (fun (kv : Key × V) (p : Str × α) => kv.1 = Sum.inr p.1 ∧ F kv.2 p.2) kv l) (nd : (l.map (·.1)).Nodup) : (kv.map (·.1)).Nodup := by
  rw [(keys_names h).2, show (l.map fun p => (Sum.inr p.1 : Key)) = (l.map (·.1)).map Sum.inr by rw [List.map_map]; rfl]
  exact List.Pairwise.map _ (fun a b h e => h (Sum.inr.inj e)) nd
def spHeld : Sp := fun vs H Q _ => ∃ d kr row, vs = [.ref d] ∧ H d = some (.dK kr) ∧ CoinsC kr row ∧ goodR row ∧ ∀ H', Same H H' → Q (.bl true) H'
def spCkH : Sp := fun vs H Q _ => ∃ a kv hs, vs = [.ref a] ∧ H a = some (.dK kv) ∧ HldR H kv hs ∧ goodH hs ∧ ∀ H', Same H H' → Q .non H'
theorem back_of {H H' : Hp} {a : Addr} {od : HO} {kv : List (Key × V)} (ha : H a = some (.dK kv)) (s : Same (upd H a od) H') : Same H (upd H' a (.dK kv)) := fun x o e => by
  by_cases hx : x = a
  · rw [hx] at e ⊢
    rw [ha] at e
    cases e
    exact upd_same
  · rw [upd_ne hx]
    exact s _ _ (by rw [upd_ne hx]; exact e)
section
variable {P : Program} {w : World} {K : PySem.W.Frag} {mg : Str → Option Value} {base : Heap}
abbrev s__is_held : Stmt := top 19
theorem sc__is_held : FnScope ["thing", "key"] ["thing"] (defScope s__is_held) := ⟨rfl, rfl, rfl, by decide +kernel, rfl, by decide +kernel, by decide +kernel⟩
theorem c__is_held (T : Txt K mg) (D : Dfn K mg "_is_held" s__is_held) (C_is_name : Cal P w K mg base 1 "is_name" ["thing"] (spB nameOk)) (C_is_integer : Cal P w K mg base 1 "is_integer" ["thing"] (spB isInteger)) :
    Cal P w K mg base 2 "_is_held" ["thing"] spHeld := by
  refine D.cal sc__is_held (fun _ _ _ _ _ _ us hl => match us, hl with | [_], _ => rfl) (fun vs H Q E h => ?_) fun cdv A outer s H vs Q E hr h => ?_
  · obtain ⟨d, kr, row, rfl, _⟩ := h
    rfl
  obtain ⟨d, kr, row, rfl, hd, cc, g, q⟩ := h
  refine ⟨_, (pss_cons (ps_if (pt_not (pt_val (pe_callB (id := "isinstance") call_isi (by rfl) T.isinstance (by decide +kernel) (pa_cons (pv 0) (pa_cons (pe_tyv (n := "dict") (by rfl) T.dict (by decide +kernel)) pa_nil))))) (pss_one (ps_ret pe_bl)) pss_nil)
      (pss_one (ps_ret (pe_callB (id := "all") (cr_all rfl) (by rfl) T.all (by decide +kernel) (pa_cons (pe_lock (pe_lc (own := [("key", 1)]) (g := gName 1) (tt := tYes) rfl sc__is_held.nd (pi_keys (pv 0)) (blkOk_by (N := ["thing", "key"]) (sc := defScope s__is_held) (by decide +kernel)) (fun _ _ _ _ _ => (pg_name (i := 1) sc__is_held.nd rfl (by first | exact Or.inl rfl | exact Or.inr rfl))) (fun _ _ _ _ _ => pts_nil) (fun _ _ _ _ _ => (pe_and (pe_cal C_is_name hr (by first | decide | omega) (by rfl) (pa_cons (pv 1) pa_nil)) (pe_and (pe_cal C_is_integer hr (by first | decide | omega) (by rfl) (pa_cons (pe_dget (hu_of hr) (pv 0) (pv 1) (fun _ _ => rfl)) pa_nil)) (pe_one (pe_cmpR op_ge (pe_dget (hu_of hr) (pv 0) (pv 1) (fun _ _ => rfl)) pe_int (nomark _)))))))) pa_nil))))), ?_⟩
  refine ⟨_, rfl, _, _, _, _, _, rfl, .ty _, .base (.dK hd), kit_ty (show kitB "dict" "dict" = some true by decide +kernel), _, rfl, iteF ?_⟩
  have nd := keys_nd (F := fun v i => v = V.int i) cc g.1
  have lk : kr.length = row.length := Paired.length cc
  refine ⟨d, _, hd, trivial, fun od => ?_⟩
  have hF : (upd H d (.frz od (.dK kr))) d = some (.frz od (.dK kr)) := upd_same
  have bk : ∀ {H'}, Same (upd H d (.frz od (.dK kr))) H' → Same H (upd H' d (.dK kr)) := fun s => back_of hd s
  generalize upd H d (.frz od (.dK kr)) = F at hF bk ⊢
  refine ⟨_, rfl, d, od, rfl, .inl ⟨kr, hF, fun B hB => lc_f walk_keys (At := fun i _ x => ∃ k v, kr[i]? = some (k, v) ∧ x = kV k) (fun _ _ _ _ y => y) row (fun _ => V.bl true) lk.symm (sz (m := 60) (by rw [lk]; have := g.2.1; omega)) hB (fun H' s' => s' _ _ hF) (fun j u p H5 A lt hu hz s5 kA => ?_) (fun H5 s5 h5 => ?_)⟩⟩
  · obtain ⟨k, v, hk, rfl⟩ := hu
    obtain ⟨ek, ev⟩ := Paired.at2 cc hk hz
    obtain ⟨g1, g2⟩ := g.2.2 p (List.mem_of_getElem? hz)
    have ek : k = Sum.inr p.1 := ek
    have ev : v = .int p.2 := ev
    subst ek
    subst ev
    have vv : valV kr (Sum.inr p.1) = some (.int p.2) := val_nodup nd _ (List.mem_of_getElem? hk)
    have dg : ∀ {G : Hp}, Same H5 G → DGet G d (kV (Sum.inr p.1)) (some (.int p.2)) := fun {G} sG => .inl ⟨kr, Sum.inr p.1, .inr ⟨od, sG _ _ (s5 _ _ hF)⟩, rfl, vv.symm⟩
    refine ⟨rfl, ?_⟩
    refine ⟨_, rfl, .str p.1, .str p.1, rfl, .str _ (name_short g1), fun H6 s6 => ?_⟩
    rw [g1]
    refine ⟨_, rfl, iteT ⟨_, rfl, _, rfl, d, _, rfl, dg s6, _, _, rfl, .int _, fun H7 s7 => ⟨_, rfl, iteT ⟨_, rfl, _, rfl, d, _, rfl, dg (s6.trans s7), _, _, rfl, rfl, ?_⟩⟩⟩⟩
    dsimp only
    rw [decide_eq_true g2]
    exact kA _ (s6.trans s7)
  · refine ⟨s5 _ _ hF, B, row.map fun _ => true, rfl, SqL.of ?_, ?_⟩
    · have nB : B ≠ d := fun z => by
        rw [z, hF] at hB
        cases hB
      rw [upd_ne nB, h5, List.map_map]
      rfl
    rw [show (row.map fun _ => true).all id = true from by rw [List.all_map]; exact List.all_eq_true.mpr fun _ _ => rfl]
    exact q _ (bk s5)
abbrev s__check_holdings : Stmt := top 18
theorem sc__check_holdings : FnScope ["holdings", "member"] ["holdings"] (defScope s__check_holdings) := ⟨rfl, rfl, rfl, by decide +kernel, rfl, by decide +kernel, by decide +kernel⟩
theorem c__check_holdings (T : Txt K mg) (D : Dfn K mg "_check_holdings" s__check_holdings) (C_is_name : Cal P w K mg base 1 "is_name" ["thing"] (spB nameOk)) (C_is_held : Cal P w K mg base 2 "_is_held" ["thing"] spHeld) :
    Cal P w K mg base 3 "_check_holdings" ["holdings"] spCkH := by
  refine D.cal sc__check_holdings (fun _ _ _ _ _ _ us hl => match us, hl with | [_], _ => rfl) (fun vs H Q E h => ?_) fun cdv A outer s H vs Q E hr h => ?_
  · obtain ⟨a, kv, hs, rfl, _⟩ := h
    rfl
  obtain ⟨a, kv, hs, rfl, ha, hh, g, q⟩ := h
  refine ⟨_, (pss_cons (ps_if (pt_not (pt_val (pe_callB (id := "isinstance") call_isi (by rfl) T.isinstance (by decide +kernel) (pa_cons (pv 0) (pa_cons (pe_tyv (n := "dict") (by rfl) T.dict (by decide +kernel)) pa_nil))))) pss_never pss_nil)
      (pss_one (ps_lock (ps_for PassesOwn.never rfl (pi_keys (pv 0)) (pg_name (i := 1) sc__check_holdings.nd rfl (by first | exact Or.inl rfl | exact Or.inr rfl))
      (pss_one (ps_if (PW.pt (pw_or (pt_not (pt_val (pe_cal C_is_name hr (by first | decide | omega) (by rfl) (pa_cons (pv 1) pa_nil)))) (pw_or1 (pt_not (pt_val (pe_cal C_is_held hr (by first | decide | omega) (by rfl) (pa_cons (pe_dget (hu_of hr) (pv 0) (pv 1) (fun _ _ => rfl)) pa_nil))))))) pss_never pss_nil)))))), ?_⟩
  refine ⟨_, rfl, _, _, _, _, _, rfl, .ty _, .base (.dK ha), kit_ty (show kitB "dict" "dict" = some true by decide +kernel), _, rfl, iteF ?_⟩
  have nd := keys_nd (F := fun v (r : Rw) => ∃ d kr, v = .ref d ∧ H d = some (.dK kr) ∧ CoinsC kr r) hh g.1
  have lk : kv.length = hs.length := Paired.length hh
  refine ⟨a, _, ha, trivial, fun od => ?_⟩
  have hF : (upd H a (.frz od (.dK kv))) a = some (.frz od (.dK kv)) := upd_same
  have bk : ∀ {H'}, Same (upd H a (.frz od (.dK kv))) H' → Same H (upd H' a (.dK kv)) := fun s => back_of ha s
  have fz : ∀ b o, b ≠ a → H b = some o → (upd H a (.frz od (.dK kv))) b = some o := fun b o n e => by rw [upd_ne n]; exact e
  generalize upd H a (.frz od (.dK kv)) = F at hF bk fz ⊢
  refine ⟨_, rfl, a, od, rfl, .inl ⟨kv, hF, for_it walk_keys (fun i σ H' => (∃ v, σ = [some (.ref a), v]) ∧ Same F H') ⟨⟨_, rfl⟩, Same.refl _⟩ (fun i σ H' hi p => p.2 _ _ hF) ?_ ?_⟩⟩
  · rintro i u σ H1 H2 hi ⟨⟨v0, rfl⟩, s1⟩ ⟨rfl, k, v, hk, rfl⟩
    obtain ⟨p, hp⟩ : ∃ p, hs[i]? = some p := ⟨hs[i]'(by omega), List.getElem?_eq_getElem (by omega)⟩
    obtain ⟨ek, d, kr, ev, hd, cc⟩ := Paired.at2 hh hk hp
    obtain ⟨g1, g2⟩ := g.2.2 p (List.mem_of_getElem? hp)
    have ek : k = Sum.inr p.1 := ek
    have ev : v = .ref d := ev
    subst ek
    subst ev
    have nda : d ≠ a := fun z => by
      rw [z, ha] at hd
      cases hd
      obtain ⟨c, hc⟩ : ∃ c, p.2[i]? = some c := by
        have h1 := (List.getElem?_eq_some_iff.mp hk).1
        have h2 := Paired.length cc
        exact ⟨p.2[i]'(by omega), List.getElem?_eq_getElem (by omega)⟩
      have := (Paired.at2 cc hk hc).2
      cases this
    have vv : valV kv (Sum.inr p.1) = some (.ref d) := val_nodup nd _ (List.mem_of_getElem? hk)
    have dg : ∀ {G : Hp}, Same H2 G → DGet G a (kV (Sum.inr p.1)) (some (.ref d)) := fun {G} sG => .inl ⟨kv, Sum.inr p.1, .inr ⟨od, sG _ _ (s1 _ _ hF)⟩, rfl, vv.symm⟩
    refine ⟨_, rfl, .str p.1, .str p.1, rfl, .str _ (name_short g1), fun H3 s3 => ⟨_, rfl, ?_⟩⟩
    rw [g1]
    refine iteF ⟨_, rfl, _, rfl, a, _, rfl, dg s3, ?_⟩
    delta tNil
    dsimp only
    exact ⟨d, kr, p.2, rfl, s3 _ _ (s1 _ _ (fz _ _ nda hd)), cc, g2, fun H4 s4 => ⟨_, rfl, iteF ⟨⟨_, rfl⟩, s1.trans (s3.trans s4)⟩⟩⟩
  · rintro σ H1 ⟨_, s1⟩
    exact ⟨s1 _ _ hF, q _ (bk s1)⟩
end
end K34

set_option Elab.async false
set_option linter.all false
set_option maxRecDepth 100000
set_option maxHeartbeats 4000000
namespace Sr
open PySem PySem.Spec PyProof.Rows L2
/-- a dict comprehension over texts, some of them kept -/
theorem dc_textsF {J : It} {n : Nat} {G : Hp → Prop} {Y : Nat → Hp → V → Hp → Prop} {At : Nat → V → Prop} (w : Walk J n G Y) (hy : ∀ i H x H', Y i H x H' → H' = H ∧ At i x) {tt : TT} {tk tv : TE} {j : Nat} {σ : L2.St} {H : Hp} {D : Addr} {Qd : Hp → Prop}
    (ss : List Str) (keep : Str → Bool) (hn : ss.length = n) (nd : ss.Nodup) (hz : n < sizeLine) (hD : H D = none) (hG : ∀ H', Same H H' → G H') (Rv : Hp → Str → V → Prop) (mono : ∀ H1 H2 s v, Same H1 H2 → Rv H1 s v → Rv H2 s v)
    (lay : ∀ H1 s v c c', H1 D = some (.dK c) → Rv H1 s v → Rv (upd H1 D (.dK c')) s v)
    (turn : ∀ (i : Nat) (x : V) (s : Str) (H1 : Hp) (R : V → V → Hp → Prop) (B : Hp → Prop), i < n → At i x → ss[i]? = some s → Same H H1 → (keep s = true → ∀ H2 z, Same H1 H2 → Rv H2 s z → R (.str s) z H2) → (keep s = false → ∀ H2, Same H1 H2 → B H2) →
      tt ((σ.set j none).set j (some x)) H1 fun b H3 => if b = true then tk ((σ.set j none).set j (some x)) H3 fun y H2 => tv ((σ.set j none).set j (some x)) H2 fun z H3 => R y z H3 else B H3)
    (fin : ∀ H' kvs, Same H H' → H' D = some (.dK kvs) → Ent (Rv H') kvs (ss.filter keep) → Qd H') :
    ∃ W : Nat → Nat → Hp → Prop, (∃ m, W 0 m (upd H D (.dK []))) ∧ ∀ i m H, W i m H →
      (J.stop i H ∧ Qd H) ∨ (J.go i H ∧ ∃ Nx : Hp → Prop, (∀ H', Nx H' → ∃ m', m' < m ∧ W (i + 1) m' H') ∧ ∀ x H', J.yld i H x H' → (gName j) x (wipe σ [j]) H' fun σ2 H2 => wipe σ2 [j] = wipe σ [j] ∧ tt σ2 H2 fun b H3 =>
        if b = true then tk σ2 H3 fun y H4 => tv σ2 H4 fun z H5 => ∃ kvs k, y = kV k ∧ H5 D = some (.dK kvs) ∧ kvs.length < sizeLine ∧ Nx (upd H5 D (.dK (putK kvs k z))) else Nx H3) := by
  have below : ∀ {H1 H2 : Hp} {o : HO}, Same H H1 → Same H1 H2 → Same H (upd H2 D o) := fun {H1 H2 o} a b c u e => by
    rw [upd_ne (ne_of_none e hD)]
    exact b _ _ (a _ _ e)
  refine ⟨fun i m H' => m = n - i ∧ i ≤ n ∧ Same H H' ∧ ∃ kvs, H' D = some (.dK kvs) ∧ Ent (Rv H') kvs ((ss.take i).filter keep), ⟨n, by simp, Nat.zero_le _, Same.up hD, [], upd_same, by rw [List.take_zero]; exact .nil⟩, ?_⟩
  rintro i m H1 ⟨rfl, hi, s1, kvs, hd, he⟩
  by_cases lt : i < n
  · refine .inr ⟨w.goes i H1 lt (hG _ s1), fun H' => i + 1 ≤ n ∧ Same H H' ∧ ∃ kvs, H' D = some (.dK kvs) ∧ Ent (Rv H') kvs ((ss.take (i + 1)).filter keep), fun H' p => ⟨n - (i + 1), by omega, rfl, p⟩, fun x H2 y => ?_⟩
    obtain ⟨rfl, hx⟩ := hy _ _ _ _ (w.yields i H1 x H2 lt (hG _ s1) y)
    refine ⟨?_, ?_⟩
    · show ((σ.set j none).set j (some x)).set j none = σ.set j none
      rw [List.set_set, List.set_set]
    · have hi' : i < ss.length := by omega
      have et : (ss.take (i + 1)).filter keep = (ss.take i).filter keep ++ (if keep ss[i] = true then [ss[i]] else []) := by
        rw [List.take_add_one, List.getElem?_eq_getElem hi', List.filter_append]
        congr 1
        show List.filter keep [ss[i]] = _
        rw [List.filter_cons]
        rfl
      refine turn i x ss[i] H2 _ _ lt hx (List.getElem?_eq_getElem hi') s1 (fun kp H3 z s3 rv => ?_) fun kp H3 s3 => ?_
      · have hl : kvs.length ≤ i := by
          have h1 := he.len
          have h2 := List.length_filter_le keep (ss.take i)
          rw [List.length_take] at h2
          omega
        have nm : ss[i] ∉ (ss.take i).filter keep := fun q => by
          obtain ⟨a, ha, e⟩ := List.mem_take_iff_getElem.mp (List.mem_filter.mp q).1
          exact (List.pairwise_iff_getElem.mp nd) a i (by omega) hi' (by omega) e
        refine ⟨kvs, Sum.inr ss[i], rfl, s3 _ _ hd, by omega, lt, below s1 s3, _, upd_same, ?_⟩
        rw [et, if_pos kp]
        have r1 : Ent (Rv (upd H3 D (.dK (putK kvs (Sum.inr ss[i]) z)))) kvs ((ss.take i).filter keep) := he.imp fun s v r => lay _ _ _ _ _ (s3 _ _ hd) (mono _ _ _ _ s3 r)
        exact r1.put nm (lay _ _ _ _ _ (s3 _ _ hd) rv)
      · refine ⟨lt, s1.trans s3, kvs, s3 _ _ hd, ?_⟩
        rw [et, if_neg (by rw [kp]; exact Bool.false_ne_true), List.append_nil]
        exact he.imp fun s v r => mono _ _ _ _ s3 r
  · obtain rfl : i = n := by omega
    refine .inl ⟨w.stops H1 (hG _ s1), fin H1 kvs s1 hd ?_⟩
    rwa [← hn, List.take_length] at he
/-- a dict comprehension over texts, some of them kept; the new dict is there -/
theorem dc_textsD {J : It} {n : Nat} {G : Hp → Prop} {Y : Nat → Hp → V → Hp → Prop} {At : Nat → V → Prop} (w : Walk J n G Y) (hy : ∀ i H x H', Y i H x H' → H' = H ∧ At i x) {tt : TT} {tk tv : TE} {j : Nat} {σ : L2.St} {H : Hp} {D : Addr} {Qd : Hp → Prop}
    (ss : List Str) (keep : Str → Bool) (hn : ss.length = n) (nd : ss.Nodup) (hz : n < sizeLine) (hD : H D = none) (hG : ∀ H', Same H H' → G H') (Rv : Hp → Str → V → Prop) (mono : ∀ H1 H2 s v, Same H1 H2 → Rv H1 s v → Rv H2 s v)
    (lay : ∀ H1 s v c c', H1 D = some (.dK c) → Rv H1 s v → Rv (upd H1 D (.dK c')) s v)
    (turn : ∀ (i : Nat) (x : V) (s : Str) (H1 : Hp) (R : V → V → Hp → Prop) (B : Hp → Prop), i < n → At i x → ss[i]? = some s → Same H H1 → H1 D ≠ none → (keep s = true → ∀ H2 z, Same H1 H2 → Rv H2 s z → R (.str s) z H2) → (keep s = false → ∀ H2, Same H1 H2 → B H2) →
      tt ((σ.set j none).set j (some x)) H1 fun b H3 => if b = true then tk ((σ.set j none).set j (some x)) H3 fun y H2 => tv ((σ.set j none).set j (some x)) H2 fun z H3 => R y z H3 else B H3)
    (fin : ∀ H' kvs, Same H H' → H' D = some (.dK kvs) → Ent (Rv H') kvs (ss.filter keep) → Qd H') :
    ∃ W : Nat → Nat → Hp → Prop, (∃ m, W 0 m (upd H D (.dK []))) ∧ ∀ i m H, W i m H →
      (J.stop i H ∧ Qd H) ∨ (J.go i H ∧ ∃ Nx : Hp → Prop, (∀ H', Nx H' → ∃ m', m' < m ∧ W (i + 1) m' H') ∧ ∀ x H', J.yld i H x H' → (gName j) x (wipe σ [j]) H' fun σ2 H2 => wipe σ2 [j] = wipe σ [j] ∧ tt σ2 H2 fun b H3 =>
        if b = true then tk σ2 H3 fun y H4 => tv σ2 H4 fun z H5 => ∃ kvs k, y = kV k ∧ H5 D = some (.dK kvs) ∧ kvs.length < sizeLine ∧ Nx (upd H5 D (.dK (putK kvs k z))) else Nx H3) := by
  have below : ∀ {H1 H2 : Hp} {o : HO}, Same H H1 → Same H1 H2 → Same H (upd H2 D o) := fun {H1 H2 o} a b c u e => by
    rw [upd_ne (ne_of_none e hD)]
    exact b _ _ (a _ _ e)
  refine ⟨fun i m H' => m = n - i ∧ i ≤ n ∧ Same H H' ∧ ∃ kvs, H' D = some (.dK kvs) ∧ Ent (Rv H') kvs ((ss.take i).filter keep), ⟨n, by simp, Nat.zero_le _, Same.up hD, [], upd_same, by rw [List.take_zero]; exact .nil⟩, ?_⟩
  rintro i m H1 ⟨rfl, hi, s1, kvs, hd, he⟩
  by_cases lt : i < n
  · refine .inr ⟨w.goes i H1 lt (hG _ s1), fun H' => i + 1 ≤ n ∧ Same H H' ∧ ∃ kvs, H' D = some (.dK kvs) ∧ Ent (Rv H') kvs ((ss.take (i + 1)).filter keep), fun H' p => ⟨n - (i + 1), by omega, rfl, p⟩, fun x H2 y => ?_⟩
    obtain ⟨rfl, hx⟩ := hy _ _ _ _ (w.yields i H1 x H2 lt (hG _ s1) y)
    refine ⟨?_, ?_⟩
    · show ((σ.set j none).set j (some x)).set j none = σ.set j none
      rw [List.set_set, List.set_set]
    · have hi' : i < ss.length := by omega
      have et : (ss.take (i + 1)).filter keep = (ss.take i).filter keep ++ (if keep ss[i] = true then [ss[i]] else []) := by
        rw [List.take_add_one, List.getElem?_eq_getElem hi', List.filter_append]
        congr 1
        show List.filter keep [ss[i]] = _
        rw [List.filter_cons]
        rfl
      refine turn i x ss[i] H2 _ _ lt hx (List.getElem?_eq_getElem hi') s1 (by rw [hd]; simp) (fun kp H3 z s3 rv => ?_) fun kp H3 s3 => ?_
      · have hl : kvs.length ≤ i := by
          have h1 := he.len
          have h2 := List.length_filter_le keep (ss.take i)
          rw [List.length_take] at h2
          omega
        have nm : ss[i] ∉ (ss.take i).filter keep := fun q => by
          obtain ⟨a, ha, e⟩ := List.mem_take_iff_getElem.mp (List.mem_filter.mp q).1
          exact (List.pairwise_iff_getElem.mp nd) a i (by omega) hi' (by omega) e
        refine ⟨kvs, Sum.inr ss[i], rfl, s3 _ _ hd, by omega, lt, below s1 s3, _, upd_same, ?_⟩
        rw [et, if_pos kp]
        have r1 : Ent (Rv (upd H3 D (.dK (putK kvs (Sum.inr ss[i]) z)))) kvs ((ss.take i).filter keep) := he.imp fun s v r => lay _ _ _ _ _ (s3 _ _ hd) (mono _ _ _ _ s3 r)
        exact r1.put nm (lay _ _ _ _ _ (s3 _ _ hd) rv)
      · refine ⟨lt, s1.trans s3, kvs, s3 _ _ hd, ?_⟩
        rw [et, if_neg (by rw [kp]; exact Bool.false_ne_true), List.append_nil]
        exact he.imp fun s v r => mono _ _ _ _ s3 r
  · obtain rfl : i = n := by omega
    refine .inl ⟨w.stops H1 (hG _ s1), fin H1 kvs s1 hd ?_⟩
    rwa [← hn, List.take_length] at he
/-- a dict comprehension over texts, some of them kept; the values new and apart -/
theorem dc_textsN {J : It} {n : Nat} {G : Hp → Prop} {Y : Nat → Hp → V → Hp → Prop} {At : Nat → V → Prop} (w : Walk J n G Y) (hy : ∀ i H x H', Y i H x H' → H' = H ∧ At i x) {tt : TT} {tk tv : TE} {j : Nat} {σ : L2.St} {H : Hp} {D : Addr} {Qd : Hp → Prop}
    (ss : List Str) (keep : Str → Bool) (hn : ss.length = n) (nd : ss.Nodup) (hz : n < sizeLine) (hD : H D = none) (hG : ∀ H', Same H H' → G H') (Rv : Hp → Str → V → Prop) (mono : ∀ H1 H2 s v, Same H1 H2 → Rv H1 s v → Rv H2 s v)
    (fr : ∀ H s v, Rv H s v → ∃ d, v = V.ref d ∧ H d ≠ none)
    (lay : ∀ H1 s v c c', H1 D = some (.dK c) → Rv H1 s v → Rv (upd H1 D (.dK c')) s v)
    (turn : ∀ (i : Nat) (x : V) (s : Str) (H1 : Hp) (R : V → V → Hp → Prop) (B : Hp → Prop), i < n → At i x → ss[i]? = some s → Same H H1 → H1 D ≠ none → (keep s = true → ∀ H2 z, Same H1 H2 → Rv H2 s z → (∃ d, z = V.ref d ∧ H1 d = none) → R (.str s) z H2) → (keep s = false → ∀ H2, Same H1 H2 → B H2) →
      tt ((σ.set j none).set j (some x)) H1 fun b H3 => if b = true then tk ((σ.set j none).set j (some x)) H3 fun y H2 => tv ((σ.set j none).set j (some x)) H2 fun z H3 => R y z H3 else B H3)
    (fin : ∀ H' kvs, Same H H' → H' D = some (.dK kvs) → Ent (Rv H') kvs (ss.filter keep) → (kvs.map (·.2)).Nodup → Qd H') :
    ∃ W : Nat → Nat → Hp → Prop, (∃ m, W 0 m (upd H D (.dK []))) ∧ ∀ i m H, W i m H →
      (J.stop i H ∧ Qd H) ∨ (J.go i H ∧ ∃ Nx : Hp → Prop, (∀ H', Nx H' → ∃ m', m' < m ∧ W (i + 1) m' H') ∧ ∀ x H', J.yld i H x H' → (gName j) x (wipe σ [j]) H' fun σ2 H2 => wipe σ2 [j] = wipe σ [j] ∧ tt σ2 H2 fun b H3 =>
        if b = true then tk σ2 H3 fun y H4 => tv σ2 H4 fun z H5 => ∃ kvs k, y = kV k ∧ H5 D = some (.dK kvs) ∧ kvs.length < sizeLine ∧ Nx (upd H5 D (.dK (putK kvs k z))) else Nx H3) := by
  have below : ∀ {H1 H2 : Hp} {o : HO}, Same H H1 → Same H1 H2 → Same H (upd H2 D o) := fun {H1 H2 o} a b c u e => by
    rw [upd_ne (ne_of_none e hD)]
    exact b _ _ (a _ _ e)
  refine ⟨fun i m H' => m = n - i ∧ i ≤ n ∧ Same H H' ∧ ∃ kvs, H' D = some (.dK kvs) ∧ Ent (Rv H') kvs ((ss.take i).filter keep) ∧ (kvs.map (·.2)).Nodup, ⟨n, by simp, Nat.zero_le _, Same.up hD, [], upd_same, by rw [List.take_zero]; exact .nil, List.nodup_nil⟩, ?_⟩
  rintro i m H1 ⟨rfl, hi, s1, kvs, hd, he, nv⟩
  by_cases lt : i < n
  · refine .inr ⟨w.goes i H1 lt (hG _ s1), fun H' => i + 1 ≤ n ∧ Same H H' ∧ ∃ kvs, H' D = some (.dK kvs) ∧ Ent (Rv H') kvs ((ss.take (i + 1)).filter keep) ∧ (kvs.map (·.2)).Nodup, fun H' p => ⟨n - (i + 1), by omega, rfl, p⟩, fun x H2 y => ?_⟩
    obtain ⟨rfl, hx⟩ := hy _ _ _ _ (w.yields i H1 x H2 lt (hG _ s1) y)
    refine ⟨?_, ?_⟩
    · show ((σ.set j none).set j (some x)).set j none = σ.set j none
      rw [List.set_set, List.set_set]
    · have hi' : i < ss.length := by omega
      have et : (ss.take (i + 1)).filter keep = (ss.take i).filter keep ++ (if keep ss[i] = true then [ss[i]] else []) := by
        rw [List.take_add_one, List.getElem?_eq_getElem hi', List.filter_append]
        congr 1
        show List.filter keep [ss[i]] = _
        rw [List.filter_cons]
        rfl
      refine turn i x ss[i] H2 _ _ lt hx (List.getElem?_eq_getElem hi') s1 (by rw [hd]; simp) (fun kp H3 z s3 rv nz => ?_) fun kp H3 s3 => ?_
      · have hl : kvs.length ≤ i := by
          have h1 := he.len
          have h2 := List.length_filter_le keep (ss.take i)
          rw [List.length_take] at h2
          omega
        have nm : ss[i] ∉ (ss.take i).filter keep := fun q => by
          obtain ⟨a, ha, e⟩ := List.mem_take_iff_getElem.mp (List.mem_filter.mp q).1
          exact (List.pairwise_iff_getElem.mp nd) a i (by omega) hi' (by omega) e
        refine ⟨kvs, Sum.inr ss[i], rfl, s3 _ _ hd, by omega, lt, below s1 s3, _, upd_same, ?_, ?_⟩
        rotate_left
        · rw [putK_new (by rw [he.keys]; intro q; obtain ⟨y, my, ey⟩ := List.mem_map.mp q; exact nm (by rw [← Sum.inr.inj ey]; exact my)), List.map_append]
          refine List.nodup_append.mpr ⟨nv, List.nodup_cons.mpr ⟨List.not_mem_nil, List.nodup_nil⟩, fun x mx y my e => ?_⟩
          obtain rfl := List.mem_singleton.mp my
          obtain ⟨kv, mk, rfl⟩ := List.mem_map.mp mx
          obtain ⟨a, ha⟩ := List.mem_iff_getElem?.mp mk
          obtain ⟨s', hs'⟩ : ∃ s', ((ss.take i).filter keep)[a]? = some s' := by
            have l1 := (List.getElem?_eq_some_iff.mp ha).1
            have l2 := he.len
            exact ⟨((ss.take i).filter keep)[a]'(by omega), List.getElem?_eq_getElem (by omega)⟩
          obtain ⟨d, e1, e2⟩ := fr _ _ _ (Paired.at2 he ha hs').2
          obtain ⟨d', e3, e4⟩ := nz
          have : d = d' := V.ref.inj (e1.symm.trans (e.trans e3))
          rw [this] at e2
          exact e2 e4
        rw [et, if_pos kp]
        have r1 : Ent (Rv (upd H3 D (.dK (putK kvs (Sum.inr ss[i]) z)))) kvs ((ss.take i).filter keep) := he.imp fun s v r => lay _ _ _ _ _ (s3 _ _ hd) (mono _ _ _ _ s3 r)
        exact r1.put nm (lay _ _ _ _ _ (s3 _ _ hd) rv)
      · refine ⟨lt, s1.trans s3, kvs, s3 _ _ hd, ?_, nv⟩
        rw [et, if_neg (by rw [kp]; exact Bool.false_ne_true), List.append_nil]
        exact he.imp fun s v r => mono _ _ _ _ s3 r
  · obtain rfl : i = n := by omega
    refine .inl ⟨w.stops H1 (hG _ s1), fin H1 kvs s1 hd ?_ nv⟩
    rwa [← hn, List.take_length] at he
end Sr

set_option Elab.async false
set_option linter.all false
set_option maxRecDepth 100000
set_option maxHeartbeats 4000000
namespace Sr
open PySem PySem.Spec PyProof.Rows L2
section
variable {X : Cx}
/-- name = {k: v for ..} on one line, the name a local -/
theorem ps_setDc {i : Nat} {y : Str} {py spos : Pos} {kx vx tg iter : Expr} {ifs : List Expr} {scope : Scope} {own : List (Str × Nat)} {pos : Pos} {wi : TI} {g : TG} {tt : TT} {tk tv : TE} (hc : X.calm = true) (hN : X.N.Nodup) (hy : X.N[i]? = some y) (hyl : X.env.scope.names.lookup y = some .local)
    (hsw : swapsWith (.DictComp kx vx [⟨tg, iter, ifs, 0⟩] scope pos) (some (.Name y py)) spos.line X.env = pure true) (hi : PI X tg iter wi) (ok : BlkOk X.N X.env.scope scope own)
    (hg : ∀ (s : Shared) (H : Hp) (C : Addr) (cl : List (Str × Addr)) (fp : List Addr), PG (X.blk s H scope (compEnvC scope cl C X.env) fp) tg g) (ht : ∀ (s : Shared) (H : Hp) (C : Addr) (cl : List (Str × Addr)) (fp : List Addr), PTs (X.blk s H scope (compEnvC scope cl C X.env) fp) ifs tt)
    (hk : ∀ (s : Shared) (H : Hp) (C : Addr) (cl : List (Str × Addr)) (fp : List Addr), PE (X.blk s H scope (compEnvC scope cl C X.env) fp) kx tk)
    (he : ∀ (s : Shared) (H : Hp) (C : Addr) (cl : List (Str × Addr)) (fp : List Addr), PE (X.blk s H scope (compEnvC scope cl C X.env) fp) vx tv) (hs : ∀ x, foldedSetIterable iter X.env x = pure x := by intro _; rfl) :
    PS X (.Assign [.Name y py] (.DictComp kx vx [⟨tg, iter, ifs, 0⟩] scope pos) spos) (tAsg (tDc wi g tt tk tv (own.map (·.2))) (gName i)) := by
  refine ⟨fun pins s σ H D I h => ?_⟩
  rw [exec_Assign_Name_used _ _ _ _ hsw]
  refine wpAny_bind (wpAny_standAt (wpAny_bind ?_))
  show wpAny _ X.A (do let _ ← comprehension (.DictComp kx vx [⟨tg, iter, ifs, 0⟩] scope pos) scope X.env (firstIterPos [⟨tg, iter, ifs, 0⟩] pos) newDict false (eval iter X.env) (some (assign (.Name y py) X.env))) _ _ s
  have h : tDc wi g tt tk tv (own.map (·.2)) σ H (fun x H1 => gName i x σ H1 D.nx) := h
  refine wpAny_bind (thn (dc_core (Qf := fun _ s' => SP X pins D .next s') hc hN I hi ok hg ht hk he hs h fun L C s' m H' I' q hn f => ?_) fun _ s' hq => wpAny_pure (wpAny_pure hq))
  show wpAny _ _ (assign (.Name y py) X.env (.ref L)) _ _ _
  refine wpAny_assign_Name (store_ok2 (v := V.ref L) I' hN hy (.inl hyl) rfl (fun s2 I2 ⟨a, sb, ha⟩ => ?_) (.inr hyl))
  obtain ⟨f0, f1, f2, f3, f4, f5⟩ := f
  have haC : C ≠ a := by
    rcases ha with z | z
    · rw [z]; exact f1
    · exact fun e => f4 y a z e.symm
  refine ⟨m, hn.sameBut sb haC, fun h3 sb3 => ?_⟩
  exact ⟨_, H', I2.turned (t' := s2.toks) (fun b o hb e => (sb3.2 b hb).trans e) f0 f1 f3 f4 f5, q⟩
theorem sw_dict2 {kx vx : Expr} {gs : List Comprehension} {scope : Scope} {pos py : Pos} {y : Str} {l : Nat} {env : Env} (hk : env.scope.kind = .function) (hy : env.scope.names.lookup y = some .local) (hl : (py.line == pos.line) = true)
    (ha : (scope.names.any fun (n, k) => n == y && (k == .local || k == .cell)) = false) : swapsWith (.DictComp kx vx gs scope pos) (some (.Name y py)) l env = pure true := by
  have ky : env.kindOf y = some .local := hy
  have hb : env.blockKind = .function := by unfold Env.blockKind; rw [hk]; rfl
  unfold swapsWith
  simp only [hb, ky, ha, Expr.pos, hl]
  rfl
end
end Sr

set_option Elab.async false
set_option linter.all false
set_option maxRecDepth 100000
set_option maxHeartbeats 4000000
namespace K34
open PySem PySem.Spec PyProof.Rows L2 Sr
/-! ### what is new in a heap -/
theorem free_below {H H' : Hp} (s : Same H H') {l : Addr} (h : H' l = none) : H l = none := by
  cases e : H l with
  | none => rfl
  | some o => rw [s _ _ e] at h; cases h
def newH (H H' : Hp) : Hp := fun b => match H b with
  | none => H' b
  | some _ => none
theorem new_at {H H' : Hp} {b : Addr} (h : H b = none) : newH H H' b = H' b := by unfold newH; rw [h]
theorem new_no {H H' : Hp} {b : Addr} {o : HO} (h : newH H H' b = some o) : H b = none := by
  unfold newH at h
  cases e : H b with
  | none => rfl
  | some o => rw [e] at h; cases h
theorem new_same {H H' : Hp} : Same (newH H H') H' := fun b o h => (new_at (new_no h)).symm.trans h
theorem new_mono {H H' H'' : Hp} (s : Same H' H'') : Same (newH H H') (newH H H'') := fun b o h => by
  have n := new_no h
  rw [new_at n] at h ⊢
  exact s _ _ h
/-! ### what is told of holdings: members and things ascending, what is above 0 -/
def CanRow (row0 row : Rw) : Prop := ∃ zs : List Str, zs.Perm (row0.map (·.1)) ∧ PyProof.Rows.sortedS zs = true ∧ row = (zs.filter fun t => decide (0 < gC row0 t)).map fun t => (t, gC row0 t)
def canZ (ys : List Str) (rows : List Rw) : Hs := (ys.zip rows).filter fun p => !p.2.isEmpty
def Can (hs0 hs : Hs) : Prop := ∃ (ys : List Str) (rows : List Rw), ys.Perm (hs0.map (·.1)) ∧ PyProof.Rows.sortedS ys = true ∧ Paired (fun y r => CanRow (gR hs0 y) r) ys rows ∧ hs = canZ ys rows
theorem canRow_one {r0 r r' : Rw} (a : CanRow r0 r) (b : CanRow r0 r') : r = r' := by
  obtain ⟨zs, p, s, rfl⟩ := a
  obtain ⟨zs', p', s', rfl⟩ := b
  rw [sorted_one p p' s s']
theorem canRows_one {F : Str → Rw} : ∀ {ys : List Str} {rs rs' : List Rw}, Paired (fun y r => CanRow (F y) r) ys rs → Paired (fun y r => CanRow (F y) r) ys rs' → rs = rs'
  | _, _, _, .nil, .nil => rfl
  | _, _, _, .cons a r, .cons b s => by rw [canRow_one a b, canRows_one r s]
theorem can_one {h0 h h' : Hs} (a : Can h0 h) (b : Can h0 h') : h = h' := by
  obtain ⟨ys, rs, p, s, r, rfl⟩ := a
  obtain ⟨ys', rs', p', s', r', rfl⟩ := b
  obtain rfl := sorted_one p p' s s'
  rw [canRows_one r r']
theorem CoinsC.get {kr : List (Key × V)} {row : Rw} (h : CoinsC kr row) {z : Str} (m : z ∈ row.map (·.1)) : valV kr (Sum.inr z) = some (.int (gC row z)) := by
  rw [h.val]
  obtain ⟨p, mp, rfl⟩ := List.mem_map.mp m
  unfold gC
  cases e : row.lookup p.1 with
  | some i => rfl
  | none => exact absurd (List.lookup_eq_none_iff.mp e p mp) (by simp)
theorem HldR.get {H : Hp} {kv : List (Key × V)} {hs : Hs} (h : HldR H kv hs) (g : goodH hs) {y : Str} (m : y ∈ hs.map (·.1)) : ∃ d kr, valV kv (Sum.inr y) = some (.ref d) ∧ H d = some (.dK kr) ∧ CoinsC kr (gR hs y) ∧ goodR (gR hs y) := by
  have nd := keys_nd (F := fun v (r : Rw) => ∃ d kr, v = .ref d ∧ H d = some (.dK kr) ∧ CoinsC kr r) h g.1
  obtain ⟨p, mp, rfl⟩ := List.mem_map.mp m
  obtain ⟨i, hi⟩ := List.mem_iff_getElem?.mp mp
  obtain ⟨kp, hk⟩ : ∃ kp, kv[i]? = some kp := by
    have h1 := (List.getElem?_eq_some_iff.mp hi).1
    have h2 := Paired.length h
    exact ⟨kv[i]'(by omega), List.getElem?_eq_getElem (by omega)⟩
  obtain ⟨e, d, kr, ev, hd, cc⟩ := Paired.at2 h hk hi
  have eg : gR hs p.1 = p.2 := by
    unfold gR
    cases el : hs.lookup p.1 with
    | none => exact absurd (List.lookup_eq_none_iff.mp el p mp) (by simp)
    | some r =>
      have m2 := look_mem el
      have : (p.1, r) = p := by
        obtain ⟨j, hj⟩ := List.mem_iff_getElem?.mp m2
        have lj := (List.getElem?_eq_some_iff.mp hj).1
        have e1 : (hs.map (·.1))[j]? = some p.1 := by rw [List.getElem?_map, hj]; rfl
        have e2 : (hs.map (·.1))[i]? = some p.1 := by rw [List.getElem?_map, hi]; rfl
        have : j = i := (List.getElem?_inj (by rw [List.length_map]; exact lj) g.1).mp (e1.trans e2.symm)
        rw [this, hi] at hj
        exact (Option.some.inj hj).symm
      show r = p.2
      rw [← this]
  refine ⟨d, kr, ?_, hd, by rw [eg]; exact cc, by rw [eg]; exact (g.2.2 p mp).2⟩
  have := val_nodup nd _ (List.mem_of_getElem? hk)
  rw [e, ev] at this
  exact this
theorem canZ_snoc {ys : List Str} {rs : List Rw} (h : ys.length = rs.length) (y : Str) (r : Rw) : canZ (ys ++ [y]) (rs ++ [r]) = canZ ys rs ++ (if r.isEmpty = true then [] else [(y, r)]) := by
  unfold canZ
  rw [List.zip_append h, List.filter_append]
  congr 1
  show List.filter _ [(y, r)] = _
  rw [List.filter_cons]
  cases r.isEmpty <;> rfl
def TkR (H0 : Hp) (p : Addr) (H : Hp) (tk : List (Key × V)) (hs : Hs) : Prop := Paired (fun (kv : Key × V) (q : Str × Rw) => kv.1 = Sum.inr q.1 ∧ ∃ d kr, kv.2 = .ref d ∧ d ≠ p ∧ H0 d = none ∧ H d = some (.dK kr) ∧ CoinsC kr q.2) tk hs
theorem TkR.mono {H0 H H' : Hp} {p : Addr} (s : Same H H') {tk : List (Key × V)} {hs : Hs} (h : TkR H0 p H tk hs) : TkR H0 p H' tk hs := L2.Paired.mapP h fun _ _ ⟨e, d, kr, a, b, c, x, y⟩ => ⟨e, d, kr, a, b, c, s _ _ x, y⟩
theorem TkR.put {H0 H : Hp} {p : Addr} {o : HO} {tk : List (Key × V)} {hs : Hs} (h : TkR H0 p H tk hs) : TkR H0 p (upd H p o) tk hs := L2.Paired.mapP h fun _ _ ⟨e, d, kr, a, b, c, x, y⟩ => ⟨e, d, kr, a, b, c, by rw [upd_ne b]; exact x, y⟩
theorem TkR.snoc {H0 H : Hp} {p d : Addr} {tk : List (Key × V)} {hs : Hs} (h : TkR H0 p H tk hs) {y : Str} {kr : List (Key × V)} {row : Rw} (n : d ≠ p) (f : H0 d = none) (hd : H d = some (.dK kr)) (cc : CoinsC kr row) : TkR H0 p H (tk ++ [(Sum.inr y, .ref d)]) (hs ++ [(y, row)]) :=
  Sr.Paired.snoc (F := fun (kv : Key × V) (q : Str × Rw) => kv.1 = Sum.inr q.1 ∧ ∃ d kr, kv.2 = .ref d ∧ d ≠ p ∧ H0 d = none ∧ H d = some (.dK kr) ∧ CoinsC kr q.2) ⟨rfl, d, kr, rfl, n, f, hd, cc⟩ h
theorem TkR.new {H0 H : Hp} {p : Addr} {tk : List (Key × V)} {hs : Hs} (h : TkR H0 p H tk hs) : HldR (newH H0 H) tk hs := L2.Paired.mapP h fun _ _ ⟨e, d, kr, a, b, c, x, y⟩ => ⟨e, d, kr, a, (new_at c).trans x, y⟩
theorem pmap {α β γ : Type} {F : α → β → Prop} {G : α → γ → Prop} {f : β → γ} (k : ∀ a b, F a b → G a (f b)) : ∀ {l : List α} {m : List β}, Paired F l m → Paired G l (m.map f)
  | _, _, .nil => .nil
  | _, _, .cons h t => .cons (k _ _ h) (pmap k t)
theorem tk_keys {H0 H : Hp} {p : Addr} : ∀ {tk : List (Key × V)} {hs : Hs}, TkR H0 p H tk hs → tk.map (·.1) = hs.map fun q => (Sum.inr q.1 : Key)
  | _, _, .nil => rfl
  | _, _, .cons h r => by rw [List.map_cons, List.map_cons, h.1, tk_keys r]
def spToldH : Sp := fun vs H Q _ => ∃ a kv hs, vs = [.ref a] ∧ H a = some (.dK kv) ∧ HldR H kv hs ∧ goodH hs ∧ ∀ H' p tk hs', Same H H' → H p = none → H' p = some (.dK tk) → HldR (newH H H') tk hs' → Can hs hs' → Q (.ref p) H'
section
variable {P : Program} {w : World} {K : PySem.W.Frag} {mg : Str → Option Value} {base : Heap}
abbrev s__told_holdings : Stmt := top 22
theorem sc__told_holdings : FnScope ["holdings", "told", "member", "held", "left", "thing"] ["holdings"] (defScope s__told_holdings) := ⟨rfl, rfl, rfl, by decide +kernel, rfl, by decide +kernel, by decide +kernel⟩
theorem c__told_holdings (T : Txt K mg) (D : Dfn K mg "_told_holdings" s__told_holdings) : Cal P w K mg base 1 "_told_holdings" ["holdings"] spToldH := by
  refine D.cal sc__told_holdings (fun _ _ _ _ _ _ us hl => match us, hl with | [_], _ => rfl) (fun vs H Q E h => ?_) fun cdv A outer s H vs Q E hr h => ?_
  · obtain ⟨a, kv, hs, rfl, _⟩ := h
    rfl
  obtain ⟨a, kv, hs, rfl, ha, hh, g, q⟩ := h
  refine ⟨_, (pss_cons (ps_set (i := 1) sc__told_holdings.nd rfl (by first | exact Or.inl rfl | exact Or.inr rfl) pe_dnewK)
      (pss_cons (ps_for PassesOwn.never rfl (pi_list (pe_callB (id := "sorted") (call_sortedD rfl) (by rfl) T.sorted (by decide +kernel) (pa_cons (pv 0) pa_nil))) (pg_name (i := 2) sc__told_holdings.nd rfl (by first | exact Or.inl rfl | exact Or.inr rfl))
      (pss_cons (ps_set (i := 3) sc__told_holdings.nd rfl (by first | exact Or.inl rfl | exact Or.inr rfl) (pe_dget (hu_of hr) (pv 0) (pv 2) (fun _ _ => rfl)))
      (pss_cons (ps_setDc (i := 4) (own := [("thing", 5)]) (g := gName 5) rfl sc__told_holdings.nd rfl rfl (sw_dict2 rfl rfl rfl rfl) (pi_list (pe_callB (id := "sorted") (call_sortedD rfl) (by rfl) T.sorted (by decide +kernel) (pa_cons (pv 3) pa_nil))) (blkOk_by (N := ["holdings", "told", "member", "held", "left", "thing"]) (sc := defScope s__told_holdings) (by decide +kernel)) (fun _ _ _ _ _ => (pg_name (i := 5) sc__told_holdings.nd rfl (by first | exact Or.inl rfl | exact Or.inr rfl))) (fun _ _ _ _ _ => (pts_one (pt_cmpR op_gt (pe_dget (hu_of hr) (pv 3) (pv 5) (fun _ _ => rfl)) pe_int (nomark _)))) (fun _ _ _ _ _ => (pv 5)) (fun _ _ _ _ _ => (pe_dget (hu_of hr) (pv 3) (pv 5) (fun _ _ => rfl))))
      (pss_one (ps_if (pt_truth (pv 4) (fun _ => rfl)) (pss_one (ps_dput (hu_of hr) (pv 1) (pv 2) (pv 4) rfl)) pss_nil)))))
      (pss_one (ps_ret (pv 1))))), ?_⟩
  have ek := (keys_names (F := fun v (r : Rw) => ∃ d kr, v = .ref d ∧ H d = some (.dK kr) ∧ CoinsC kr r) hh).2
  have lk : kv.length = hs.length := Paired.length hh
  refine fun p hp => ?_
  have s0 := Same.up (H := H) (o := .dK []) hp
  have p0 : (upd H p (.dK [])) p = some (.dK []) := upd_same
  try dsimp only
  refine ⟨_, rfl, a, kv, hs.map (·.1), rfl, .inl (s0 _ _ ha), ?_, by rw [List.length_map]; have := g.2.1; omega, fun ys kl pm so hkl => ?_⟩
  · rw [ek, List.map_map]
    rfl
  have lys : ys.length ≤ 6 := by rw [pm.length_eq, List.length_map]; exact g.2.1
  have nkp : kl ≠ p := fun z => by rw [z, p0] at hkl; cases hkl
  have H0kl : H kl = none := free_below s0 hkl
  refine ⟨kl, rfl, ⟨_, SqL.of upd_same⟩, for_it walk_list (fun i σ H' => (∃ v2 v3 v4 v5, σ = [some (.ref a), some (.ref p), v2, v3, v4, v5]) ∧ Same H H' ∧ H' kl = some (.lst (ys.map V.str)) ∧ ∃ tk rows, H' p = some (.dK tk) ∧ Paired (fun y r => CanRow (gR hs y) r) (ys.take i) rows ∧ TkR H p H' tk (canZ (ys.take i) rows)) ⟨⟨_, _, _, _, rfl⟩, s0.trans (Same.up hkl), upd_same, [], [], by rw [upd_ne nkp.symm]; exact p0, .nil, .nil⟩ (fun i σ H' _ pp => SqL.of pp.2.2.1) ?_ ?_⟩
  · rintro i u σ H1 H2 hi ⟨⟨v2, v3, v4, v5, rfl⟩, s1, hkl1, tk, rows, hp1, cr, tr⟩ ⟨rfl, hu⟩
    rw [List.length_map] at hi
    rw [List.getElem?_map] at hu
    obtain ⟨y, hy, rfl⟩ := Option.map_eq_some_iff.mp hu
    have my : y ∈ hs.map (·.1) := pm.mem_iff.mp (List.mem_of_getElem? hy)
    obtain ⟨d, kr, ev, hd, cc, gr⟩ := hh.get g my
    have ekr := (keys_names (F := fun v i => v = V.int i) cc).2
    dsimp only [gName]
    refine ⟨_, rfl, _, rfl, a, .ref d, rfl, .inl ⟨kv, Sum.inr y, .inl (s1 _ _ ha), rfl, ev.symm⟩, ?_⟩
    try dsimp only
    have hd1 := s1 _ _ hd
    have lkr : kr.length ≤ 6 := by rw [Paired.length cc]; exact gr.2.1
    refine ⟨_, rfl, d, kr, (gR hs y).map (·.1), rfl, .inl hd1, ?_, by rw [List.length_map]; have := gr.2.1; omega, fun zs k2 pm2 so2 hk2 => ?_⟩
    · rw [ekr, List.map_map]
      rfl
    have s2 := Same.up (o := .lst (zs.map V.str)) hk2
    have nz : zs.Nodup := pm2.nodup_iff.mpr gr.1
    have lz : zs.length ≤ 6 := by rw [pm2.length_eq, List.length_map]; exact gr.2.1
    refine ⟨k2, rfl, ⟨_, SqL.of upd_same⟩, fun D hD => dc_textsF walk_list (At := fun i x => (zs.map V.str)[i]? = some x) (fun _ _ _ _ y => y) zs (fun t => decide (0 < gC (gR hs y) t)) (by rw [List.length_map]) nz (sz (m := 60) (by rw [List.length_map]; omega)) hD (fun H' s' => SqL.of (s' _ _ upd_same)) (fun _ t v => v = .int (gC (gR hs y) t)) (fun _ _ _ _ _ h => h) (fun _ _ _ _ _ _ h => h)
      (fun j u z H3 R B lt hu hz s3 kR kB => ?_) (fun H3 kvs s3 h3 en => ?_)⟩
    · rw [List.getElem?_map, hz] at hu
      obtain rfl : V.str z = u := Option.some.inj hu
      have mz : z ∈ (gR hs y).map (·.1) := pm2.mem_iff.mp (List.mem_of_getElem? hz)
      have vz := cc.get mz
      have hd3 := s3 _ _ (s2 _ _ hd1)
      refine ⟨_, rfl, _, rfl, d, _, rfl, .inl ⟨kr, Sum.inr z, .inl hd3, rfl, vz.symm⟩, _, _, rfl, rfl, _, rfl, ?_⟩
      dsimp only at kR kB ⊢
      by_cases c : 0 < gC (gR hs y) z
      · rw [decide_eq_true c] at kR ⊢
        exact iteT ⟨_, rfl, _, rfl, _, rfl, d, _, rfl, .inl ⟨kr, Sum.inr z, .inl hd3, rfl, vz.symm⟩, kR rfl _ _ (Same.refl _) rfl⟩
      · rw [decide_eq_false c] at kB ⊢
        exact iteF (kB rfl _ (Same.refl _))
    · have s13 := s2.trans s3
      have hD0 : H D = none := free_below (s1.trans s2) hD
      have nDp : D ≠ p := fun z => by rw [z, s2 _ _ hp1] at hD; cases hD
      have cr2 : CanRow (gR hs y) ((zs.filter fun t => decide (0 < gC (gR hs y) t)).map fun t => (t, gC (gR hs y) t)) := ⟨zs, pm2, so2, rfl⟩
      have ccD : CoinsC kvs ((zs.filter fun t => decide (0 < gC (gR hs y) t)).map fun t => (t, gC (gR hs y) t)) := pmap (f := fun t => (t, gC (gR hs y) t)) (fun _ _ h => h) en
      generalize hrow : ((zs.filter fun t => decide (0 < gC (gR hs y) t)).map fun t => (t, gC (gR hs y) t)) = row at cr2 ccD
      have lrow : kvs.length = row.length := Paired.length ccD
      have et : ys.take (i + 1) = ys.take i ++ [y] := by rw [List.take_add_one, hy]; rfl
      have ltk : (ys.take i).length = rows.length := Paired.length cr
      have crn : Paired (fun y r => CanRow (gR hs y) r) (ys.take (i + 1)) (rows ++ [row]) := by rw [et]; exact Sr.Paired.snoc (F := fun y r => CanRow (gR hs y) r) cr2 cr
      have hp3 := s13 _ _ hp1
      have ntk : tk.length ≤ 6 := by
        rw [Paired.length tr]
        unfold canZ
        have h1 := List.length_filter_le (fun (p : Str × Rw) => !p.2.isEmpty) ((ys.take i).zip rows)
        rw [List.length_zip, List.length_take] at h1
        omega
      refine ⟨_, rfl, _, .inr (.inr ⟨kvs, h3, rfl⟩), ?_⟩
      have ee : kvs.isEmpty = row.isEmpty := by
        cases kvs <;> cases row <;> first | rfl | cases lrow
      rw [ee]
      cases em : row.isEmpty with
      | true =>
        refine iteF ⟨⟨_, _, _, _, rfl⟩, s1.trans s13, s13 _ _ hkl1, tk, rows ++ [row], hp3, crn, ?_⟩
        rw [et, canZ_snoc ltk, em, if_pos rfl, List.append_nil]
        exact tr.mono s13
      | false =>
        refine iteT ⟨_, rfl, _, rfl, _, rfl, p, _, rfl, .inl ⟨tk, Sum.inr y, hp3, rfl, sz (m := 60) (by omega) (by decide), rfl⟩, ⟨_, _, _, _, rfl⟩, ?_, ?_, putK tk (Sum.inr y) (.ref D), rows ++ [row], upd_same, crn, ?_⟩
        · exact fun b o e => by
            rw [upd_ne fun z => by rw [z, hp] at e; cases e]
            exact (s1.trans s13) _ _ e
        · rw [upd_ne nkp]
          exact s13 _ _ hkl1
        · rw [et, canZ_snoc ltk, em, if_neg Bool.false_ne_true]
          have ny : (Sum.inr y : Key) ∉ tk.map (·.1) := by
            have hk : tk.map (·.1) = (canZ (ys.take i) rows).map fun q => (Sum.inr q.1 : Key) := tk_keys tr
            rw [hk]
            intro m
            obtain ⟨q, mq, e⟩ := List.mem_map.mp m
            have e2 : q.1 = y := Sum.inr.inj e
            have m3 := (List.of_mem_zip (List.mem_filter.mp mq).1).1
            rw [e2] at m3
            have nys : ys.Nodup := pm.nodup_iff.mpr g.1
            obtain ⟨b, hb, eb⟩ := List.mem_take_iff_getElem.mp m3
            have hi' : i < ys.length := (List.getElem?_eq_some_iff.mp hy).1
            have e4 : ys[i] = y := (List.getElem?_eq_some_iff.mp hy).2
            exact (List.pairwise_iff_getElem.mp nys) b i (by omega) hi' (by omega) (eb.trans e4.symm)
          rw [Sr.putK_new ny]
          exact (tr.mono s13).put.snoc nDp hD0 (by rw [upd_ne nDp]; exact h3) ccD
  · rintro σ H1 ⟨⟨v2, v3, v4, v5, rfl⟩, s1, _, tk, rows, hp1, cr, tr⟩
    rw [List.length_map, List.take_length] at cr tr
    try dsimp only
    exact ⟨_, rfl, q _ p tk _ s1 hp hp1 tr.new ⟨ys, rows, pm, so, cr, rfl⟩⟩
end
end K34

set_option Elab.async false
set_option linter.all false
set_option maxRecDepth 100000
set_option maxHeartbeats 4000000
namespace K34
open PySem PySem.Spec PyProof.Rows L2 Sr
/-! ### queues: what is kept (N: what is their own; H: where the items' tuples lie) -/
def QueR (K : PySem.W.Frag) (N H : Hp) (x : Addr) (hs : Hs) (its : Its) : Prop := ∃ dx c l kc us, N x = some (.ins (He.ga K "Queues") dx [("_holdings", .ref c), ("_items", .ref l)]) ∧ N c = some (.dK kc) ∧ HldR N kc hs ∧ N l = some (.lst us) ∧ IsA H us (its.map itD) ∧ goodH hs ∧ goodIts its
theorem its_tup (its : Its) : tupDs (its.map itD) = true := tupDs_of fun d m => by
  obtain ⟨it, _, rfl⟩ := List.mem_map.mp m
  show tupDs (it.map legT) = true
  exact tupDs_of fun d m => by
    obtain ⟨g, _, rfl⟩ := List.mem_map.mp m
    rfl
theorem QueR.keep {K : PySem.W.Frag} {N N' H H' : Hp} {x : Addr} {hs : Hs} {its : Its} (h : QueR K N H x hs its) (s : Same N N') (t : Tups H H') : QueR K N' H' x hs its := by
  obtain ⟨dx, c, l, kc, us, h1, h2, h3, h4, h5, h6⟩ := h
  exact ⟨dx, c, l, kc, us, s _ _ h1, s _ _ h2, h3.mono s, s _ _ h4, isA_tups t h5 (its_tup its), h6⟩
theorem QueR.mono {K : PySem.W.Frag} {H H' : Hp} {x : Addr} {hs : Hs} {its : Its} (h : QueR K H H x hs its) (s : Same H H') : QueR K H' H' x hs its := h.keep s (Tups.of s)
theorem same_free {H H2 : Hp} {p : Addr} {o : HO} (s : Same H H2) (h : H p = none) : Same H (upd H2 p o) := fun b u e => by
  rw [upd_ne fun z => by rw [z, h] at e; cases e]
  exact s _ _ e
theorem sq_ins {H : Hp} {x t : Addr} {c dx : Addr} {fs : List (Str × V)} {o : HO} {us : List V} (hx : H x = some (.ins c dx fs)) (h : H t = some (.lst us) ∨ H t = some (.tup us)) : (upd H x o) t = some (.lst us) ∨ (upd H x o) t = some (.tup us) := by
  have n : t ≠ x := by rcases h with h | h <;> exact ne_of h hx (by intro z; cases z)
  rw [upd_ne n]
  exact h
theorem ItsV.ins {H : Hp} {x : Addr} {c dx : Addr} {fs : List (Str × V)} {o : HO} (hx : H x = some (.ins c dx fs)) {v : V} {its : Its} (h : ItsV H v its) : ItsV (upd H x o) v its := by
  obtain ⟨t, us, e, h, p⟩ := h
  exact ⟨t, us, e, sq_ins hx h, L2.Paired.mapP p fun _ _ ⟨t2, us2, e2, h2, p2⟩ => ⟨t2, us2, e2, sq_ins hx h2, L2.Paired.mapP p2 fun _ _ ⟨t3, e3, h3⟩ => ⟨t3, e3, sq_ins hx h3⟩⟩⟩
structure Que (K : PySem.W.Frag) (mg : Str → Option Value) : Prop where
  cl : Cls K (He.ga K "Queues")
  nH : NoAttr K (He.ga K "Queues") "_holdings"
  nI : NoAttr K (He.ga K "Queues") "_items"
theorem zip_rel {α β : Type} {F : α → β → Prop} : ∀ {as : List α} {bs : List β}, Paired F as bs → ∀ p ∈ as.zip bs, F p.1 p.2
  | _, _, .nil, p, m => by cases m
  | _, _, .cons h r, p, m => by
    rw [List.zip_cons_cons] at m
    rcases List.mem_cons.mp m with rfl | m
    · exact h
    · exact zip_rel r p m
theorem gR_good {h0 : Hs} (g : goodH h0) (y : Str) : goodR (gR h0 y) := by
  unfold gR
  cases e : h0.lookup y with
  | none => exact ⟨List.nodup_nil, Nat.zero_le _, fun p m => by cases m⟩
  | some r => exact (g.2.2 _ (look_mem e)).2
theorem canRow_good {r0 r : Rw} (c : CanRow r0 r) (g : goodR r0) : goodR r := by
  obtain ⟨zs, p, s, rfl⟩ := c
  have nz : zs.Nodup := p.nodup_iff.mpr g.1
  have lz : zs.length ≤ 6 := by rw [p.length_eq, List.length_map]; exact g.2.1
  refine ⟨?_, ?_, fun q m => ?_⟩
  · rw [List.map_map]
    show ((zs.filter _).map id).Nodup
    rw [List.map_id]
    exact nz.filter _
  · rw [List.length_map]
    exact Nat.le_trans (List.length_filter_le _ _) lz
  · obtain ⟨z, mz, rfl⟩ := List.mem_map.mp m
    obtain ⟨m1, m2⟩ := List.mem_filter.mp mz
    obtain ⟨q, mq, eq⟩ := List.mem_map.mp (p.mem_iff.mp m1)
    refine ⟨?_, ?_⟩
    · show nameOk (.str z) = true
      rw [← eq]
      exact (g.2.2 q mq).1
    · have := of_decide_eq_true m2
      show 0 ≤ gC r0 z
      omega
theorem can_good {h0 h : Hs} (c : Can h0 h) (g : goodH h0) : goodH h := by
  obtain ⟨ys, rows, p, s, r, rfl⟩ := c
  have ny : ys.Nodup := p.nodup_iff.mpr g.1
  have ly : ys.length ≤ 6 := by rw [p.length_eq, List.length_map]; exact g.2.1
  have lr := Paired.length r
  refine ⟨?_, ?_, fun q m => ?_⟩
  · have sub : ((canZ ys rows).map (·.1)).Sublist ((ys.zip rows).map (·.1)) := List.Sublist.map _ List.filter_sublist
    rw [List.map_fst_zip (by omega)] at sub
    exact sub.nodup ny
  · unfold canZ
    have := List.length_filter_le (fun (p : Str × Rw) => !p.2.isEmpty) (ys.zip rows)
    rw [List.length_zip] at this
    omega
  · have m1 := (List.mem_filter.mp m).1
    have m2 := (List.of_mem_zip m1).1
    obtain ⟨q', mq, eq⟩ := List.mem_map.mp (p.mem_iff.mp m2)
    refine ⟨?_, canRow_good (zip_rel r q m1) (gR_good g q.1)⟩
    rw [← eq]
    exact (g.2.2 q' mq).1
def spQInit (K : PySem.W.Frag) : Sp := fun vs H Q _ => ∃ x a v kv hs its H0 dx, vs = [.ref x, .ref a, v] ∧ Same H0 H ∧ H0 x = none ∧ H x = some (.ins (He.ga K "Queues") dx []) ∧ H a = some (.dK kv) ∧ HldR H kv hs ∧ goodH hs ∧ ItsV H v its ∧ goodIts its ∧
  ∀ H' hs', Same H0 H' → Can hs hs' → QueR K (newH H0 H') H' x hs' its → Q .non H'
section
variable {P : Program} {w : World} {K : PySem.W.Frag} {mg : Str → Option Value} {base : Heap}
abbrev s_Queues___init__ : Stmt := inClass (top 17) 0
theorem sc_Queues___init__ : FnScope ["self", "holdings", "items"] ["self", "holdings", "items"] (defScope s_Queues___init__) := ⟨rfl, rfl, rfl, by decide +kernel, rfl, by decide +kernel, by decide +kernel⟩
theorem m_init (T : Txt K mg) (O : Que K mg) (D : DfnM K "Queues" "__init__" "Queues.__init__" s_Queues___init__) (C_check_holdings : Cal P w K mg base 3 "_check_holdings" ["holdings"] spCkH) (C_check_items : Cal P w K mg base 3 "_check_items" ["items"] spCkI) (C_told_holdings : Cal P w K mg base 1 "_told_holdings" ["holdings"] spToldH) (C_frozen : Cal P w K mg base 5 "frozen" ["thing"] (spFrz 3)) :
    CalM P w K mg base CX0 6 (He.fAd K ("Queues", some "__init__")) ["self", "holdings", "items"] (spQInit K) := by
  refine D.cal sc_Queues___init__ (fun _ _ _ _ _ _ us hl => match us, hl with | [_, _, _], _ => rfl) (fun vs H Q E h => ?_) fun cdv A outer s H vs Q E hr h => ?_
  · obtain ⟨x, a, v, kv, hs, its, H0, dx, rfl, _⟩ := h
    rfl
  obtain ⟨x, a, v, kv, hs, its, H0, dx, rfl, s0, x0, hx, ha, hh, g, hv, gi, q⟩ := h
  refine ⟨_, (pss_cons (ps_expr (pe_cal C_check_holdings hr (by first | decide | omega) (by rfl) (pa_cons (pv 1) pa_nil)))
      (pss_cons (ps_expr (pe_cal C_check_items hr (by first | decide | omega) (by rfl) (pa_cons (pv 2) pa_nil)))
      (pss_cons (ps_fld (pv 0) (pe_cal C_told_holdings hr (by first | decide | omega) (by rfl) (pa_cons (pv 1) pa_nil)) rfl)
      (pss_one (ps_fld (pv 0) (pe_callTy (T := "list") call_list_of (by rfl) T.list (by decide +kernel) (pa_cons (pe_cal C_frozen hr (by first | decide | omega) (by rfl) (pa_cons (pv 2) pa_nil)) pa_nil)) rfl))))), ?_⟩
  refine ⟨_, rfl, a, kv, hs, rfl, ha, hh, g, fun H1 s1 => ?_⟩
  refine ⟨_, rfl, v, its, rfl, hv.mono s1, gi, fun H2 s2 => ?_⟩
  have s12 := s1.trans s2
  refine ⟨_, rfl, a, kv, hs, rfl, s12 _ _ ha, hh.mono s12, g, fun H3 c tk hs' s3 hc htk ht can => ?_⟩
  have s13 := s12.trans s3
  have z3 : Same H0 H3 := s0.trans s13
  refine ⟨_, rfl, x, _, dx, [], rfl, s13 _ _ hx, O.cl, O.nH, by decide, ?_⟩
  have nx : c ≠ x := fun z => by rw [z, s12 _ _ hx] at hc; cases hc
  have off : ∀ b o, H3 b = some o → b ≠ x → (upd H3 x (.ins (He.ga K "Queues") dx (putF "_holdings" (.ref c) []))) b = some o := fun b o e n => by rw [upd_ne n]; exact e
  have hx4 : (upd H3 x (.ins (He.ga K "Queues") dx (putF "_holdings" (.ref c) []))) x = some (.ins (He.ga K "Queues") dx [("_holdings", .ref c)]) := upd_same
  have z4 : Same H0 (upd H3 x (.ins (He.ga K "Queues") dx (putF "_holdings" (.ref c) []))) := same_free z3 x0
  have c0 : H0 c = none := free_below (s0.trans s12) hc
  have ht4 : HldR (newH H0 (upd H3 x (.ins (He.ga K "Queues") dx (putF "_holdings" (.ref c) [])))) tk hs' := L2.Paired.mapP ht fun kv q ⟨e, d, kr, a1, b1, c1⟩ => ⟨e, d, kr, a1, by
    have n2 := new_no b1
    rw [new_at n2] at b1
    have n0 : H0 d = none := free_below (s0.trans s12) n2
    rw [new_at n0]
    exact off _ _ b1 (ne_of b1 (s13 _ _ hx) (by intro z; cases z)), c1⟩
  have hv4 := (hv.mono s13)
  have hv4 : ItsV (upd H3 x (.ins (He.ga K "Queues") dx (putF "_holdings" (.ref c) []))) v its := ItsV.ins (s13 _ _ hx) hv4
  have hc4 := off c _ htk nx
  generalize upd H3 x (.ins (He.ga K "Queues") dx (putF "_holdings" (.ref c) [])) = G at hx4 z4 ht4 hv4 hc4 ⊢
  obtain ⟨d, id_, _, ef, dp⟩ := hv4.is gi
  refine ⟨_, rfl, v, d, rfl, id_, dp, fun u H5 s5 iu => ?_⟩
  rw [ef] at iu
  cases iu with
  | tup hu ru zu =>
    rename_i tu us
    refine ⟨tu, us, rfl, .inr (SqT.of hu), fun l hl => ?_⟩
    have s6 := Same.up (o := .lst us) hl
    have s56 := s5.trans s6
    refine ⟨_, rfl, x, _, dx, [("_holdings", .ref c)], rfl, s56 _ _ hx4, O.cl, O.nI, show 1 < 1000 by decide, ?_⟩
    have l0 : H0 l = none := free_below (z4.trans s5) hl
    have nlx : l ≠ x := fun z => by rw [z, s5 _ _ hx4] at hl; cases hl
    have off2 : ∀ b o, (upd H5 l (.lst us)) b = some o → b ≠ x → (upd (upd H5 l (.lst us)) x (.ins (He.ga K "Queues") dx (putF "_items" (.ref l) [("_holdings", .ref c)]))) b = some o := fun b o e n => by rw [upd_ne n]; exact e
    refine q _ hs' (same_free (z4.trans s56) x0) can ⟨dx, c, l, tk, us, (new_at x0).trans upd_same, (new_at c0).trans (off2 _ _ (s56 _ _ hc4) nx), ?_, (new_at l0).trans (off2 _ _ upd_same nlx), isA_tups (tups_set fun xs e => ?_) ((ru.mono s6)) (its_tup its), can_good can g, gi⟩
    · exact L2.Paired.mapP ht4 fun kv q ⟨e, d, kr, a1, b1, c1⟩ => ⟨e, d, kr, a1, by
        have n2 := new_no b1
        rw [new_at n2] at b1 ⊢
        exact off2 _ _ (s56 _ _ b1) (ne_of b1 hx4 (by intro z; cases z)), c1⟩
    · rw [s56 _ _ hx4] at e
      cases e
end
end K34

set_option Elab.async false
set_option linter.all false
set_option maxRecDepth 100000
set_option maxHeartbeats 4000000
namespace K34
open PySem PySem.Spec PyProof.Rows L2 Sr
theorem mem_look {α : Type} {s : Str} {a : α} : ∀ {l : List (Str × α)}, (l.map (·.1)).Nodup → (s, a) ∈ l → l.lookup s = some a
  | p :: r, nd, m => by
    rw [List.map_cons] at nd
    obtain ⟨n1, n2⟩ := List.nodup_cons.mp nd
    rw [List.lookup_cons]
    rcases List.mem_cons.mp m with e | m
    · rw [← e, beq_self_eq_true]
    · have : s ≠ p.1 := fun e => n1 (by rw [← e]; exact List.mem_map.mpr ⟨_, m, rfl⟩)
      rw [beq_false_of_ne this]
      exact mem_look n2 m
theorem hs_again {hs : Hs} (nd : (hs.map (·.1)).Nodup) : (hs.map (·.1)).map (fun s => (s, gR hs s)) = hs := by
  rw [List.map_map]
  have : ∀ p ∈ hs, ((fun s => (s, gR hs s)) ∘ fun (p : Str × Rw) => p.1) p = p := fun p m => by
    show (p.1, gR hs p.1) = p
    unfold gR
    rw [mem_look nd (show (p.1, p.2) ∈ hs from m)]
    rfl
  rw [List.map_congr_left this]
  exact List.map_id _
/-! ### holdings() and all_items() -/
def spHold (K : PySem.W.Frag) : Sp := fun vs H Q _ => ∃ x hs its, vs = [.ref x] ∧ QueR K H H x hs its ∧ ∀ H' p kd, Same H H' → H p = none → H' p = some (.dK kd) → HldR (newH H H') kd hs → (kd.map (·.2)).Nodup → Q (.ref p) H'
def spItems (K : PySem.W.Frag) : Sp := fun vs H Q _ => ∃ x hs its, vs = [.ref x] ∧ QueR K H H x hs its ∧ ∀ p us, H p = none → IsA H us (its.map itD) → Q (.ref p) (upd H p (.lst us))
section
variable {P : Program} {w : World} {K : PySem.W.Frag} {mg : Str → Option Value} {base : Heap}
abbrev s_Queues_holdings : Stmt := inClass (top 17) 1
theorem sc_Queues_holdings : FnScope ["self", "member"] ["self"] (defScope s_Queues_holdings) := ⟨rfl, rfl, rfl, by decide +kernel, rfl, by decide +kernel, by decide +kernel⟩
theorem m_holdings (T : Txt K mg) (O : Que K mg) (D : DfnM K "Queues" "holdings" "Queues.holdings" s_Queues_holdings) : CalM P w K mg base CX0 1 (He.fAd K ("Queues", some "holdings")) ["self"] (spHold K) := by
  refine D.cal sc_Queues_holdings (fun _ _ _ _ _ _ us hl => match us, hl with | [_], _ => rfl) (fun vs H Q E h => ?_) fun cdv A outer s H vs Q E hr h => ?_
  · obtain ⟨x, hs, its, rfl, _⟩ := h
    rfl
  obtain ⟨x, hs, its, rfl, h, q⟩ := h
  obtain ⟨dx, c, l, kc, us, h1, h2, h3, h4, h5, g, gi⟩ := id h
  refine ⟨_, (pss_one (ps_ret (pe_lock (pe_dc (own := [("member", 1)]) (g := gName 1) (tt := tYes) rfl sc_Queues_holdings.nd (pi_keys (pe_fld (pv 0) rfl)) (blkOk_by (N := ["self", "member"]) (sc := defScope s_Queues_holdings) (by decide +kernel)) (fun _ _ _ _ _ => (pg_name (i := 1) sc_Queues_holdings.nd rfl (by first | exact Or.inl rfl | exact Or.inr rfl))) (fun _ _ _ _ _ => pts_nil) (fun _ _ _ _ _ => (pv 1)) (fun _ _ _ _ _ => (pe_callTy (T := "dict") call_dictD (by rfl) T.dict (by decide +kernel) (pa_cons (pe_dget (hu_of hr) (pe_fldK K rfl (pv 0) rfl) (pv 1) (fun _ _ => rfl)) pa_nil))))))), ?_⟩
  refine ⟨c, _, h2, trivial, fun od => ?_⟩
  have x1 : (upd H c (.frz od (.dK kc))) x = some (.ins (He.ga K "Queues") dx [("_holdings", .ref c), ("_items", .ref l)]) := by rw [upd_ne (ne_of h1 h2 (by intro z; cases z))]; exact h1
  have hF : (upd H c (.frz od (.dK kc))) c = some (.frz od (.dK kc)) := upd_same
  have bk : ∀ {H'}, Same (upd H c (.frz od (.dK kc))) H' → Same H (upd H' c (.dK kc)) := fun s => back_of h2 s
  have fz : ∀ b o, b ≠ c → H b = some o → (upd H c (.frz od (.dK kc))) b = some o := fun b o n e => by rw [upd_ne n]; exact e
  have none_ : ∀ b, (upd H c (.frz od (.dK kc))) b = none → H b = none := fun b e => by
    by_cases hb : b = c
    · rw [hb, hF] at e; cases e
    · rw [upd_ne hb] at e; exact e
  generalize upd H c (.frz od (.dK kc)) = F at x1 hF bk fz none_ ⊢
  have lk : kc.length = hs.length := Paired.length h3
  have ek := (keys_names (F := fun v (r : Rw) => ∃ d kr, v = .ref d ∧ H d = some (.dK kr) ∧ CoinsC kr r) h3).2
  refine ⟨_, rfl, x, _, dx, _, _, rfl, x1, O.cl, O.nH, rfl, c, od, rfl, .inl ⟨kc, hF, fun B hB => dc_textsN walk_keys (At := fun i x => ∃ k v, kc[i]? = some (k, v) ∧ x = kV k) (fun _ _ _ _ y => y) (hs.map (·.1)) (fun _ => true) (by rw [List.length_map, lk]) g.1 (sz (m := 60) (by rw [lk]; have := g.2.1; omega)) hB (fun H' s => s _ _ hF)
    (fun H' s v => ∃ d kr, v = .ref d ∧ F d = none ∧ d ≠ B ∧ H' d = some (.dK kr) ∧ CoinsC kr (gR hs s)) (fun _ _ _ _ e ⟨d, kr, a1, a2, a3, a4, a5⟩ => ⟨d, kr, a1, a2, a3, e _ _ a4, a5⟩) (fun _ _ _ ⟨d, kr, a1, a2, a3, a4, a5⟩ => ⟨d, a1, by rw [a4]; simp⟩) (fun _ _ _ _ _ e ⟨d, kr, a1, a2, a3, a4, a5⟩ => ⟨d, kr, a1, a2, a3, by rw [upd_ne a3]; exact a4, a5⟩)
    (fun i u y H2 R B' hi hu hy s2 nB kR kB => ?_) (fun H2 kvs s2 g2 e2 nv => ?_)⟩⟩
  · obtain ⟨k, v, hk, rfl⟩ := hu
    have em : (kc.map (·.1))[i]? = some k := by rw [List.getElem?_map, hk]; rfl
    rw [List.getElem?_map] at hy
    obtain ⟨p, hp, rfl⟩ := Option.map_eq_some_iff.mp hy
    rw [ek, List.getElem?_map, hp] at em
    obtain rfl : Sum.inr p.1 = k := Option.some.inj em
    obtain ⟨d, kr, ev, hd, cc, gr⟩ := h3.get g (List.mem_map.mpr ⟨p, List.mem_of_getElem? hp, rfl⟩)
    have ndc : d ≠ c := fun z => by
      rw [z, h2] at hd
      cases hd
      obtain ⟨_, d2, kr2, ev2, _⟩ := Paired.at2 h3 hk hp
      have ev2 : v = .ref d2 := ev2
      obtain ⟨b, hb⟩ : ∃ b, (gR hs p.1)[i]? = some b := by
        have h1 := (List.getElem?_eq_some_iff.mp hk).1
        have h2 := Paired.length cc
        exact ⟨(gR hs p.1)[i]'(by omega), List.getElem?_eq_getElem (by omega)⟩
      have := (Paired.at2 cc hk hb).2
      have : v = .int b.2 := this
      rw [ev2] at this
      cases this
    simp only [tYes, if_true]
    refine ⟨_, rfl, _, rfl, x, _, dx, _, _, rfl, s2 _ _ x1, O.cl, O.nH, rfl, _, rfl, c, .ref d, rfl, .inl ⟨kc, Sum.inr p.1, .inr ⟨od, s2 _ _ hF⟩, rfl, ev.symm⟩, d, kr, rfl, .inl (s2 _ _ (fz _ _ ndc hd)), fun q0 hq => kR rfl _ _ (Same.up hq) ⟨q0, kr, rfl, free_below s2 hq, fun z => nB (by rw [← z]; exact hq), upd_same, cc⟩ ⟨q0, rfl, hq⟩⟩
  · have hc2 := s2 _ _ hF
    have nB : B ≠ c := fun z => by rw [z, hF] at hB; cases hB
    rw [List.filter_eq_self.mpr fun _ _ => rfl] at e2
    refine ⟨hc2, q _ B kvs (bk s2) (none_ B hB) (by rw [upd_ne nB]; exact g2) ?_ nv⟩
    have e3 := pmap (f := fun s => (s, gR hs s)) (G := fun (kv : Key × V) (p : Str × Rw) => kv.1 = Sum.inr p.1 ∧ ∃ d kr, kv.2 = .ref d ∧ (newH H (upd H2 c (.dK kc))) d = some (.dK kr) ∧ CoinsC kr p.2) (fun kv s ⟨e, d, kr, a1, a2, a3, a4, a5⟩ => ⟨e, d, kr, a1, (new_at (none_ d a2)).trans (by
      rw [upd_ne fun z => by rw [z, hF] at a2; cases a2]
      exact a4), a5⟩) e2
    have eh : (hs.map (·.1)).map (fun s => (s, gR hs s)) = hs := hs_again g.1
    rw [eh] at e3
    exact e3
end
end K34

set_option Elab.async false
set_option linter.all false
set_option maxRecDepth 100000
set_option maxHeartbeats 4000000
namespace K34
open PySem PySem.Spec PyProof.Rows L2 Sr
/-! ### all_items() and _legs() -/
def legsOf (its : Its) : List Leg := its.flatten
theorem isA_snoc {H : Hp} {v : V} {d : Dt} (h : Is H v d) : ∀ {us : List V} {ds : List Dt}, IsA H us ds → IsA H (us ++ [v]) (ds ++ [d])
  | _, _, .nil => .cons h .nil
  | _, _, .cons a r => .cons a (isA_snoc h r)
theorem legs_len {its : Its} (g : goodIts its) : ∀ i, (legsOf (its.take i)).length ≤ 2 * i := by
  intro i
  induction i with
  | zero => exact Nat.le_refl _
  | succ i ih =>
    unfold legsOf at ih ⊢
    rw [List.take_add_one, List.flatten_append, List.length_append]
    cases e : its[i]? with
    | none => show _ + 0 ≤ _; omega
    | some it =>
      have := (g.2 it (List.mem_of_getElem? e)).1
      show _ + ([it].flatten).length ≤ _
      rw [List.flatten_singleton]
      omega
theorem legs_all {its : Its} (g : goodIts its) : (legsOf its).length ≤ 24 := by
  have h := legs_len g its.length
  rw [List.take_length] at h
  have := g.1
  omega
def spLegs (K : PySem.W.Frag) : Sp := fun vs H Q _ => ∃ x hs its, vs = [.ref x] ∧ QueR K H H x hs its ∧ ∀ H' p us, Same H H' → H p = none → H' p = some (.lst us) → IsA H' us ((legsOf its).map legT) → Q (.ref p) H'
section
variable {P : Program} {w : World} {K : PySem.W.Frag} {mg : Str → Option Value} {base : Heap}
abbrev s_Queues_all_items : Stmt := inClass (top 17) 2
theorem sc_Queues_all_items : FnScope ["self"] ["self"] (defScope s_Queues_all_items) := ⟨rfl, rfl, rfl, by decide +kernel, rfl, by decide +kernel, by decide +kernel⟩
theorem m_all_items (T : Txt K mg) (O : Que K mg) (D : DfnM K "Queues" "all_items" "Queues.all_items" s_Queues_all_items) : CalM P w K mg base CX0 1 (He.fAd K ("Queues", some "all_items")) ["self"] (spItems K) := by
  refine D.cal sc_Queues_all_items (fun _ _ _ _ _ _ us hl => match us, hl with | [_], _ => rfl) (fun vs H Q E h => ?_) fun cdv A outer s H vs Q E hr h => ?_
  · obtain ⟨x, hs, its, rfl, _⟩ := h
    rfl
  obtain ⟨x, hs, its, rfl, h, q⟩ := h
  obtain ⟨dx, c, l, kc, us, h1, h2, h3, h4, h5, g, gi⟩ := id h
  refine ⟨_, (pss_one (ps_ret (pe_callTy (T := "list") call_list_of (by rfl) T.list (by decide +kernel) (pa_cons (pe_fld (pv 0) rfl) pa_nil)))), ?_⟩
  exact ⟨_, rfl, x, _, dx, _, _, rfl, h1, O.cl, O.nI, rfl, l, us, rfl, .inl (SqL.of h4), fun p hp => q p us hp h5⟩
end
end K34

set_option Elab.async false
set_option linter.all false
set_option maxRecDepth 100000
set_option maxHeartbeats 4000000
namespace Sr
open PySem PySem.Spec PyProof.Rows L2
/-! ### == and != by an own __eq__, whatever it says -/
/-- what the right side may be: an instance, or a list -/
def EqRt (K : PySem.W.Frag) (C : Addr) (H : Hp) (y : V) : Prop := (∃ b C' dy gs, y = .ref b ∧ H b = some (.ins C' dy gs) ∧ PySem.W.notFirst K C (.ref C') = true) ∨ ∃ b ys, y = .ref b ∧ H b = some (.lst ys)
def rEqIns (K : PySem.W.Frag) (C : Addr) (sp : Sp) (E : XK) : R2 := fun x y H Q => ∃ a dx fs, x = .ref a ∧ H a = some (.ins C dx fs) ∧ EqRt K C H y ∧ sp [x, y] H Q E
theorem first_list {K : PySem.W.Frag} {C : Addr} : PySem.W.notFirst K C (.type "list") = true := by
  have e : fastBuiltinMro "list" = some [.type "list", .type "object"] := by decide +kernel
  have s : PySem.W.subIn K (.type "list") (.ref C) = some false := by
    show (fastBuiltinMro "list").map (·.contains (.ref C)) = some false
    rw [e]
    first
      | rfl
      | simp
  unfold PySem.W.notFirst
  rw [s]
  simp
theorem first_self {K : PySem.W.Frag} {C : Addr} : PySem.W.notFirst K C (.ref C) = true := by
  unfold PySem.W.notFirst
  simp
section
variable {X : Cx} {pins : List (Addr × Obj)} {σ : L2.St} {H : Hp} {s : Shared}
/-- the type of the right side -/
theorem EqRt.ty {C : Addr} {y : V} {u : Value} (I : L2.Inv X pins σ H s) (ry : L2.RelV y u) (h : EqRt X.K C H y) : ∃ tb, PySem.W.notFirst X.K C tb = true ∧ PySem.W.Looks (model X.prog X.w) s.heap (typeOf u) tb := by
  rcases h with ⟨b, C', dy, gs, rfl, hb, hn⟩ | ⟨b, ys, rfl, hb⟩
  · cases ry
    obtain ⟨mA, J, _⟩ := ins_get I.hok hb
    obtain ⟨od, J, _⟩ := J.look
    exact ⟨_, hn, J.type⟩
  · cases ry
    obtain ⟨_, its, n, _, hq⟩ := (show ObjOk X.prog X.w H s.heap b (.lst ys) from I.hok b _ hb)
    exact ⟨_, first_list, (PySem.W.Looks.ld (part := none) hq).andThen .now⟩
variable {CX : CXT} {k : Nat} {C f : Addr} {fd : FuncData} {ps : List Str} {sp : Sp} {E : XK}
theorem op_eqIns (F : FnOk X.prog X.w X.K X.mg X.base CX k f fd ps sp) (hr : Room k X.A) (hb : Binds X.K fd ps []) (hx : Passes CX X E) (hs : PySem.W.findIn X.K (.ref C) "__eq__" = some (some (.ref f))) (hf : PySem.W.isFn X.K (.ref f) = true) :
    OpR X (compareOp .Eq) (rEqIns X.K C sp E) := by
  intro pins s σ H x y v u Q I rx ry h
  obtain ⟨a, dx, fs, rfl, ha, hy, q⟩ := h
  cases rx
  obtain ⟨mA, J, _⟩ := ins_get I.hok ha
  obtain ⟨od, J, _⟩ := J.look
  obtain ⟨m, hF⟩ := I.fr
  obtain ⟨tb, hn, ht⟩ := hy.ty I ry
  show wpAny _ _ (richCompare .Eq (.ref a) u) _ _ _
  refine PySem.W.cmp_K (op := .Eq) (tb := tb) hr.units0 hF I.ok.mod.kin J ht hn hs hf ?_
  refine thn (run_fn (us := [.ref a, u]) (vs := [.ref a, y]) (dvs := []) (ds := []) F hr hb .nil hx I (.cons rfl (.cons ry .nil)) q) fun w s' z => ?_
  obtain ⟨z', H', I', rz, qz⟩ := z
  exact SlX.cmpback rz ⟨z', H', I', rz, qz⟩
/-- object.__ne__ asks the own __eq__ -/
theorem ne_entry {A : Around} {Em : Value → Shared → Prop} {x : Addr} {ox : Obj} {od : Option Obj} {y : Value} {Q : Fin → Shared → Prop} (hu : A.units < cLine) (Xk : X.K.In s.heap) (J : PySem.W.InstAt s.heap x ox C od)
    (hs : PySem.W.findIn X.K (.ref C) "__eq__" = some (some (.ref f))) (hf : PySem.W.isFn X.K (.ref f) = true)
    (h : wpAny (model X.prog X.w) A (call (.ref f) [.ref x, y]) (fun v s' => ∃ b, v = .bool b ∧ Q (.done (.ret (.bool (!b)))) s') Em s) : wpAny (model X.prog X.w) A (Builtin.«object.__ne__» ⟨[.ref x, y], []⟩) Q Em s := by
  have eq_ : wpAny (model X.prog X.w) A (callSpecialIfBound? (.ref x) (Str.ofString "__eq__") [y]) (fun r s' => ∃ b, r = some (.bool b) ∧ Q (.done (.ret (.bool (!b)))) s') Em s :=
    PySem.W.ifBound_K Xk J hs hf (thn h fun v s' ⟨b, e, q⟩ => ⟨b, by rw [e], q⟩)
  unfold Builtin.«object.__ne__»
  repeat (first
    | with_reducible refine wpAny_cRoomFor hu ?_
    | (refine wpAny_bind (m := callSpecialIfBound? (.ref x) (Str.ofString "__eq__") [y]) (thn eq_ fun r s' z => ?_)
       obtain ⟨b, rfl, q⟩ := z
       repeat (first | exact q | exact wpAny_pure q | exact wpAny_truthy_bool q | (refine wpAny_bind (m := truthy (.bool _)) (wpAny_truthy_bool ?_)) | wp_step))
    | wp_step)
/-- a special method that is a built-in of object, asked of an instance -/
theorem bound_ne {M : Model} {A : Around} {Em : Value → Shared → Prop} {x : Addr} {ox : Obj} {od : Option Obj} {args : List Value} {Q : Option Value → Shared → Prop} (Xk : X.K.In s.heap) (J : PySem.W.InstAt s.heap x ox C od)
    (hs : PySem.W.findIn X.K (.ref C) "__ne__" = some (some (.builtin "object.__ne__"))) (h : wpAny M A (call (.builtin "object.__ne__") (.ref x :: args)) (fun v => Q (some v)) Em s) : wpAny M A (callSpecialIfBound? (.ref x) "__ne__" args) Q Em s := by
  have out : wpAny M A (call (.builtin "object.__ne__") ([.ref x] ++ args) >>= fun v => pure (some v)) Q Em s := wpAny_bind (thn h fun v s' q => wpAny_pure q)
  have look := PySem.W.looks_findIn (M := M) Xk hs
  simp only [callSpecialIfBound?, bindSpecialIfBound?]
  refine wpAny_holding (wpAny_bind (wpAny_bind (wpAny_bind (J.type.here (look.here (wpAny_bind (wpAny_askSetting (wpAny_ite ?_))))))))
  split
  · exact wpAny_bind (wpAny_of_eq (PySem.F.cmp_object.ne.bind _) (wpAny_pure (by exact out)))
  · exact wpAny_tryCatch (wpAny_bind (wpAny_of_eq (PySem.F.cmp_object.ne.bind _) (wpAny_pure (by exact out))))
/-- the callee runs below a built-in -/
theorem run_in1 {Q : VK} {us : List Value} {vs : List V} (F : FnOk X.prog X.w X.K X.mg X.base CX k f fd ps sp) (hr : Room k X.A.in1) (hb : Binds X.K fd ps []) (hx : Passes CX X E) (I : L2.Inv X pins σ H s) (r : Vals vs us) (h : sp vs H Q E) :
    wpAny (model X.prog X.w) X.A.in1 (call (.ref f) us) (EP X pins σ Q) X.xe s := by
  have hl : us.length = ps.length := by rw [← r.length]; exact F.len _ _ _ _ h
  have bd : BindsTo s fd ⟨us, []⟩ (ps.zip us) := by
    have z := hb s us I.kIn (by simpa using hl)
    simpa using z
  refine wpAny_call (codeAny_mono (F.run X.A.in1 X.stack s H ⟨us, []⟩ us vs Q E hr I.env0.in1 bd r h) ?_)
  rintro (e | fl) s' hq
  · exact hx pins σ H s e s' I hq
  · cases fl with
    | ret w => exact I.after hq
    | _ => exact False.elim hq
/-- x != y -/
def rNeIns (K : PySem.W.Frag) (C : Addr) (sp : Sp) (E : XK) : R2 := fun x y H Q => ∃ a dx fs, x = .ref a ∧ H a = some (.ins C dx fs) ∧ EqRt K C H y ∧ sp [x, y] H (fun v H' => ∃ b, v = .bl b ∧ Q (.bl (!b)) H') E
theorem op_neIns (F : FnOk X.prog X.w X.K X.mg X.base CX k f fd ps sp) (hr : Room (k + 1) X.A) (hb : Binds X.K fd ps []) (hx : Passes CX X E) (hs : PySem.W.findIn X.K (.ref C) "__eq__" = some (some (.ref f))) (hf : PySem.W.isFn X.K (.ref f) = true)
    (hne : PySem.W.findIn X.K (.ref C) "__ne__" = some (some (.builtin "object.__ne__"))) (hm : PySem.W.mroIn X.K C (.type "object") = some true) :
    OpR X (compareOp .NotEq) (rNeIns X.K C sp E) := by
  intro pins s σ H x y v u Q I rx ry h
  obtain ⟨a, dx, fs, rfl, ha, hy, q⟩ := h
  cases rx
  obtain ⟨mA, J, _⟩ := ins_get I.hok ha
  obtain ⟨od, J, _⟩ := J.look
  obtain ⟨tb, hn, ht⟩ := hy.ty I ry
  have Xk := I.kIn
  show wpAny _ _ (richCompare .NotEq (.ref a) u) _ _ _
  have one : wpAny (model X.prog X.w) X.A (tryCompare (.ref a) (Str.ofString "__ne__") u) (fun r s' => ∃ v, r = some v ∧ EP X pins σ Q v s') X.xe s := by
    have own : wpAny (model X.prog X.w) X.A.in1 (call (.ref f) [.ref a, u]) (fun v s' => ∃ b, v = .bool b ∧ EP X pins σ Q (.bool (!b)) s') X.xe s := by
      refine thn (run_in1 (us := [.ref a, u]) (vs := [.ref a, y]) F hr.in1 hb hx I (.cons rfl (.cons ry .nil)) q) fun w s' z => ?_
      obtain ⟨z', H', I', rz, b, rfl, qz⟩ := z
      exact ⟨b, rz, .bl (!b), H', I', rfl, qz⟩
    unfold tryCompare
    refine wpAny_bind (bound_ne Xk J hne (wpAny_call (codeAny_call_builtin PySem.F.cmp_object.ne.plain PySem.F.cmpEntry_ne (PySem.W.check_slot PySem.F.cmpKind_ne PySem.F.cmpSplit_ne (J.type.andThen (PySem.W.looks_mroIn Xk hm)) (PySem.F.cmpArgs_ne _ _)
      (ne_entry hr.in1.units0 Xk J hs hf (thn own fun v s' z => ?_))))))
    obtain ⟨b, rfl, z⟩ := z
    exact ⟨b, rfl, wpAny_pure ⟨_, rfl, z⟩⟩
  unfold richCompare
  simp only [oneThing_ref]
  refine wpAny_holding (wpAny_bind (wpAny_cRoomFor hr.units0 ?_))
  refine wpAny_bind (J.type.here (wpAny_bind (ht.here ?_)))
  have sub : (Value.ref C != tb) = true → PySem.W.subIn X.K tb (.ref C) = some false := fun z => by
    rcases Bool.or_eq_true_iff.mp hn with e | e
    · rw [beq_iff_eq.mp e] at z; simp at z
    · exact beq_iff_eq.mp e
  split
  · next z =>
    refine wpAny_bind ((PySem.W.looks_subIn Xk (sub z)).here ?_)
    simp only [Bool.false_eq_true, if_false]
    refine wpAny_bind (thn one fun r s' z => ?_)
    obtain ⟨v, rfl, hq⟩ := z
    exact wpAny_pure hq
  · refine wpAny_bind (wpAny_pure ?_)
    simp only [Bool.false_eq_true, if_false]
    refine wpAny_bind (thn one fun r s' z => ?_)
    obtain ⟨v, rfl, hq⟩ := z
    exact wpAny_pure hq
/-- len(x) by an own __len__ -/
def rLenIns (C : Addr) (sp : Sp) (E : XK) : List V → Hp → VK → Prop := fun xs H Q => ∃ a dx fs, xs = [.ref a] ∧ H a = some (.ins C dx fs) ∧ sp [.ref a] H (fun v H' => ∃ n : Nat, v = .int (n : Nat) ∧ n ≤ 1000 ∧ Q (.int (n : Nat)) H') E
theorem call_lenIns (F : FnOk X.prog X.w X.K X.mg X.base CX k f fd ps sp) (hr : Room (k + 1) X.A) (hb : Binds X.K fd ps []) (hx : Passes CX X E) (hs : PySem.W.findIn X.K (.ref C) "__len__" = some (some (.ref f))) (hf : PySem.W.typeIn X.K (.ref f) = some (.type "function")) :
    CallR X (.builtin "len") (rLenIns C sp E) := by
  intro pins s σ H xs us Q I r h
  obtain ⟨a, dx, fs, rfl, ha, q⟩ := h
  obtain ⟨u, rfl, ru⟩ := r.one
  cases (show u = Value.ref a from ru)
  obtain ⟨mA, J, _⟩ := ins_get I.hok ha
  obtain ⟨od, J, _⟩ := J.look
  have own := run_in1 (us := [.ref a]) (vs := [.ref a]) F hr.in1 hb hx I (.cons rfl .nil) q
  refine Calls.call_function_entry kind_len plain_len entry_len (args_len1 _) ?_
  unfold Builtin.«len»
  refine wpAny_bind (m := oneArg "len" _) (wpAny_pure (wpAny_bind (m := callSpecial? (.ref a) (Str.ofString "__len__")) ?_))
  unfold callSpecial? specialOf
  refine wpAny_bind (wpAny_bind (J.type.here ((PySem.W.looks_findIn I.kIn hs).here ?_)))
  refine wpAny_holding (wpAny_bind ((PySem.W.bind_fn I.kIn (.ref a) hf).here (wpAny_bind (thn own fun w s' z => wpAny_pure ?_))))
  obtain ⟨z', H', I', rz, n, rfl, hn, qz⟩ := z
  obtain ⟨t, rfl⟩ := (show ∃ t, w = Value.int (n : Nat) t from rz)
  refine wpAny_bind (wpAny_holding (wpAny_pure (wpAny_bind (wpAny_letGo ?_))))
  show wpAny _ _ (if ((n : Nat) : Int) < 0 then _ else _) _ _ _
  rw [if_neg (by omega)]
  show wpAny _ _ (if ((n : Nat) : Int) ≥ 2 ^ 63 then _ else _) _ _ _
  rw [if_neg (by omega)]
  exact wpAny_bind (wpAny_mkInt (wpAny_pure ⟨_, rfl, .int (n : Nat), H', I'.tok _, ⟨_, rfl⟩, qz⟩))
end
end Sr

set_option Elab.async false
set_option linter.all false
set_option maxRecDepth 100000
set_option maxHeartbeats 4000000
namespace Sr
open PySem PySem.Spec PyProof.Rows L2
/-! ### == by an own __eq__, the right side of any common kind -/
theorem first_ty {K : PySem.W.Frag} {C : Addr} {n : String} {l : List Value} (e : fastBuiltinMro n = some l) (h : l.contains (.ref C) = false) : PySem.W.notFirst K C (.type n) = true := by
  have s : PySem.W.subIn K (.type n) (.ref C) = some false := by
    show (fastBuiltinMro n).map (·.contains (.ref C)) = some false
    rw [e, Option.map_some, h]
  unfold PySem.W.notFirst
  rw [s]
  simp
def EqRt2 (K : PySem.W.Frag) (C : Addr) (H : Hp) (y : V) : Prop := EqRt K C H y ∨ y = .non ∨ (∃ z, y = .str z) ∨ ∃ b kvs, y = .ref b ∧ H b = some (.dK kvs)
def rEqIns2 (K : PySem.W.Frag) (C : Addr) (sp : Sp) (E : XK) : R2 := fun x y H Q => ∃ a dx fs, x = .ref a ∧ H a = some (.ins C dx fs) ∧ EqRt2 K C H y ∧ sp [x, y] H Q E
section
variable {X : Cx} {pins : List (Addr × Obj)} {σ : L2.St} {H : Hp} {s : Shared}
theorem EqRt2.ty {C : Addr} {y : V} {u : Value} (I : L2.Inv X pins σ H s) (ry : L2.RelV y u) (h : EqRt2 X.K C H y) : ∃ tb, PySem.W.notFirst X.K C tb = true ∧ PySem.W.Looks (model X.prog X.w) s.heap (typeOf u) tb := by
  rcases h with h | rfl | ⟨z, rfl⟩ | ⟨b, kvs, rfl, hb⟩
  · exact h.ty I ry
  · cases ry
    exact ⟨.type "NoneType", first_ty (l := [.type "NoneType", .type "object"]) (by decide +kernel) (by first | rfl | simp), .now⟩
  · obtain ⟨t, rfl⟩ := ry
    exact ⟨.type "str", first_ty (l := [.type "str", .type "object"]) (by decide +kernel) (by first | rfl | simp), .now⟩
  · cases ry
    obtain ⟨_, _, vs, _, o, es, ep, hq, hc, _⟩ := (show ObjOk X.prog X.w H s.heap b (.dK kvs) from I.hok b _ hb)
    refine ⟨.type "dict", first_ty (l := [.type "dict", .type "object"]) (by decide +kernel) (by first | rfl | simp), ?_⟩
    rw [← hc.1]
    exact (PySem.W.Looks.ld (part := none) hq).andThen .now
variable {CX : CXT} {k : Nat} {C f : Addr} {fd : FuncData} {ps : List Str} {sp : Sp} {E : XK}
theorem op_eqIns2 (F : FnOk X.prog X.w X.K X.mg X.base CX k f fd ps sp) (hr : Room k X.A) (hb : Binds X.K fd ps []) (hx : Passes CX X E) (hs : PySem.W.findIn X.K (.ref C) "__eq__" = some (some (.ref f))) (hf : PySem.W.isFn X.K (.ref f) = true) :
    OpR X (compareOp .Eq) (rEqIns2 X.K C sp E) := by
  intro pins s σ H x y v u Q I rx ry h
  obtain ⟨a, dx, fs, rfl, ha, hy, q⟩ := h
  cases rx
  obtain ⟨mA, J, _⟩ := ins_get I.hok ha
  obtain ⟨od, J, _⟩ := J.look
  obtain ⟨m, hF⟩ := I.fr
  obtain ⟨tb, hn, ht⟩ := hy.ty I ry
  show wpAny _ _ (richCompare .Eq (.ref a) u) _ _ _
  refine PySem.W.cmp_K (op := .Eq) (tb := tb) hr.units0 hF I.ok.mod.kin J ht hn hs hf ?_
  refine thn (run_fn (us := [.ref a, u]) (vs := [.ref a, y]) (dvs := []) (ds := []) F hr hb .nil hx I (.cons rfl (.cons ry .nil)) q) fun w s' z => ?_
  obtain ⟨z', H', I', rz, qz⟩ := z
  exact SlX.cmpback rz ⟨z', H', I', rz, qz⟩
end
end Sr

set_option Elab.async false
set_option linter.all false
set_option maxRecDepth 100000
set_option maxHeartbeats 4000000
namespace Sr
open PySem PySem.Spec PyProof.Rows L2
/-! ### methods, len, ==, != of an instance, from CalM -/
theorem m0_ {X : Cx} {k j : Nat} {C f : Addr} {ps : List Str} {sp : Sp} {m : Str} {o : Expr} {ta : TE} {p apos : Pos} {pl : Sem Bool} (M : CalM X.prog X.w X.K X.mg X.base CX0 k f ps sp) (hr : Room j X.A) (hk : k ≤ j) (c : Cls X.K C) (hm : Meth X.K C m f) (he : PE X o ta)
    (ht : eval (.Call (.Attribute o m apos) [] [] p) X.env = (do
      let ov ← eval o X.env
      standAt apos.atName
      let (f, first) ← holding [ov] (getMethod ov m pl)
      callWith p f first (backTo p (starEach [] X.env)) (backToKw p (keywordEach [] X.env))) := by rfl) : PE X (.Call (.Attribute o m apos) [] [] p) (tMeth C m sp [] E0 ta tNil) := by
  obtain ⟨fd, F, kp, hb⟩ := M.ex
  exact pe_meth0 he c hm F (hr.mono hk) hb .nil pass0 ht
theorem mE_ {X : Cx} {K : PySem.W.Frag} {k j : Nat} {C f : Addr} {ps : List Str} {sp : Sp} {m : Str} {o e : Expr} {es : List Expr} {ta : TE} {t : TA} {p apos : Pos} {pl : Sem Bool} {E : XK} (M : CalM X.prog X.w K X.mg X.base (L2.CX X.prog X.w) k f ps sp) (hK : X.K = K) (hr : Room j X.A) (hk : k ≤ j) (c : Cls K C) (hm : Meth K C m f) (hx : Passes (L2.CX X.prog X.w) X E) (he : PE X o ta) (ha : PA X (e :: es) t)
    (hst : starEach (e :: es) X.env = (false, eval e X.env) :: starEach es X.env := by rfl) (hpl : (backTo p (starEach es X.env)).any (·.1) = false := by rfl)
    (ht : eval (.Call (.Attribute o m apos) (e :: es) [] p) X.env = (do
      let ov ← eval o X.env
      standAt apos.atName
      let (f, first) ← holding [ov] (getMethod ov m pl)
      callWith p f first (backTo p (starEach (e :: es) X.env)) (backToKw p (keywordEach [] X.env))) := by rfl) : PE X (.Call (.Attribute o m apos) (e :: es) [] p) (tMeth C m sp [] E ta t) := by
  subst hK
  obtain ⟨fd, F, kp, hb⟩ := M.ex
  exact pe_meth he c hm F (hr.mono hk) hb .nil hx ha hst hpl ht
theorem len_ {X : Cx} {k j : Nat} {C f : Addr} {ps : List Str} {sp : Sp} (M : CalM X.prog X.w X.K X.mg X.base CX0 k f ps sp) (hr : Room j X.A) (hk : k + 1 ≤ j) (hs : PySem.W.findIn X.K (.ref C) "__len__" = some (some (.ref f))) (hf : PySem.W.typeIn X.K (.ref f) = some (.type "function")) : CallR X (.builtin "len") (rLenIns C sp E0) := by
  obtain ⟨fd, F, kp, hb⟩ := M.ex
  exact call_lenIns F (hr.mono hk) hb pass0 hs hf
theorem eq_ {X : Cx} {K : PySem.W.Frag} {k j : Nat} {C f : Addr} {ps : List Str} {sp : Sp} (M : CalM X.prog X.w K X.mg X.base CX0 k f ps sp) (hK : X.K = K) (hr : Room j X.A) (hk : k ≤ j) (hs : PySem.W.findIn K (.ref C) "__eq__" = some (some (.ref f))) (hf : PySem.W.isFn K (.ref f) = true) :
    OpR X (compareOp .Eq) (rEqIns2 K C sp E0) := by
  subst hK
  obtain ⟨fd, F, kp, hb⟩ := M.ex
  exact op_eqIns2 F (hr.mono hk) hb pass0 hs hf
theorem ne_ {X : Cx} {k j : Nat} {C f : Addr} {ps : List Str} {sp : Sp} (M : CalM X.prog X.w X.K X.mg X.base CX0 k f ps sp) (hr : Room j X.A) (hk : k + 1 ≤ j) (hs : PySem.W.findIn X.K (.ref C) "__eq__" = some (some (.ref f))) (hf : PySem.W.isFn X.K (.ref f) = true)
    (hne : PySem.W.findIn X.K (.ref C) "__ne__" = some (some (.builtin "object.__ne__"))) (hm : PySem.W.mroIn X.K C (.type "object") = some true) : OpR X (compareOp .NotEq) (rNeIns X.K C sp E0) := by
  obtain ⟨fd, F, kp, hb⟩ := M.ex
  exact op_neIns F (hr.mono hk) hb pass0 hs hf hne hm
end Sr

set_option Elab.async false
set_option linter.all false
set_option maxRecDepth 100000
set_option maxHeartbeats 4000000
namespace K34
open PySem PySem.Spec PyProof.Rows L2 Sr
/-! ### members() and things() -/
theorem met_mem {xs : List Str} {s : Str} : ∀ {i : Nat}, i ≤ xs.length → (s ∈ met xs i ↔ s ∈ xs.take i)
  | 0, _ => by simp [met]
  | i + 1, h => by
    have lt : i < xs.length := h
    have ih := met_mem (xs := xs) (s := s) (i := i) (by omega)
    have e : xs.getD i Str.empty = xs[i] := by rw [List.getD_eq_getElem?_getD, List.getElem?_eq_getElem lt]; rfl
    have et : xs.take (i + 1) = xs.take i ++ [xs[i]] := by rw [List.take_succ, List.getElem?_eq_getElem lt]; rfl
    rw [← met_at, e, et, List.mem_append, List.mem_singleton]
    split
    · rename_i c
      obtain ⟨y, my, ey⟩ := List.any_eq_true.mp c
      obtain rfl : y = xs[i] := beq_iff_eq.mp ey
      rw [ih]
      refine ⟨.inl, fun z => z.elim id fun z => ?_⟩
      rw [z]
      exact (met_mem (by omega)).mp my
    · rw [List.mem_append, List.mem_singleton, ih]
theorem met_nd (xs : List Str) : ∀ i, (met xs i).Nodup
  | 0 => List.nodup_nil
  | i + 1 => by
    rw [← met_at]
    split
    · exact met_nd xs i
    · rename_i c
      refine List.nodup_append.mpr ⟨met_nd xs i, List.nodup_cons.mpr ⟨List.not_mem_nil, List.nodup_nil⟩, fun x m y my e => c (List.any_eq_true.mpr ⟨x, m, beq_iff_eq.mpr ?_⟩)⟩
      rw [e, List.mem_singleton.mp my]
/-- ascending, each once: the same as those -/
def SetOf (ys xs : List Str) : Prop := ys.Nodup ∧ PyProof.Rows.sortedS ys = true ∧ ∀ s, s ∈ ys ↔ s ∈ xs
theorem setOf_met {xs ys : List Str} (p : ys.Perm (met xs xs.length)) (so : PyProof.Rows.sortedS ys = true) : SetOf ys xs :=
  ⟨p.nodup_iff.mpr (met_nd xs _), so, fun s => by rw [p.mem_iff, met_mem (Nat.le_refl _), List.take_length]⟩
theorem setOf_one {xs xs' ys ys' : List Str} (a : SetOf ys xs) (b : SetOf ys' xs') (h : ∀ s, s ∈ xs ↔ s ∈ xs') : ys = ys' := by
  have p : ys.Perm ys' := (List.perm_ext_iff_of_nodup a.1 b.1).mpr fun s => by rw [a.2.2, b.2.2, h]
  exact sorted_one p (List.Perm.refl _) a.2.1 b.2.1
def sides (gs : List Leg) : List Str := gs.flatMap fun g => [g.1, g.2.2.2]
theorem sides_take {gs : List Leg} {i : Nat} {g : Leg} (h : gs[i]? = some g) : sides (gs.take (i + 1)) = sides (gs.take i) ++ [g.1, g.2.2.2] := by
  unfold sides
  rw [List.take_add_one, h, List.flatMap_append]
  rfl
theorem sides_len : ∀ gs : List Leg, (sides gs).length = 2 * gs.length
  | [] => rfl
  | g :: r => by
    show ([g.1, g.2.2.2] ++ sides r).length = _
    rw [List.length_append, sides_len r, List.length_cons]
    show 2 + 2 * r.length = 2 * (r.length + 1)
    omega
theorem leg_vals {H : Hp} {g : Leg} {vs : List V} (h : IsA H vs (legDs g)) : vs = legVs g := by
  cases h with
  | cons a h => cases a; cases h with
    | cons a h => cases a; cases h with
      | cons a h => cases a; cases h with
        | cons a h => cases a; cases h; rfl
theorem leg_at {H : Hp} {v : V} {g : Leg} (h : Is H v (legT g)) : ∃ t, v = .ref t ∧ H t = some (.tup (legVs g)) := by
  cases h with
  | tup hv rv zv => exact ⟨_, rfl, by rw [leg_vals rv] at hv; exact hv⟩
end K34

set_option Elab.async false
set_option linter.all false
set_option maxRecDepth 100000
set_option maxHeartbeats 4000000
namespace Sr
open PySem PySem.Spec PyProof.Rows L2
theorem look_rel {c : Str × NameKind → Bool} (hc : ∀ p, c p = true → p.2 = .free) {x : Str} : ∀ {names : List (Str × NameKind)}, names.lookup x = some .cell ∨ names.lookup x = some .free →
    (names.map fun p => if c p = true then (p.1, NameKind.cell) else p).lookup x = some .cell ∨ (names.map fun p => if c p = true then (p.1, NameKind.cell) else p).lookup x = some .free
  | [], h => by rcases h with h | h <;> cases h
  | (n, k) :: r, h => by
    rw [List.map_cons]
    rw [List.lookup_cons] at h
    by_cases e : x = n
    · subst e
      rw [beq_self_eq_true] at h
      by_cases q : c (x, k) = true
      · rw [if_pos q, List.lookup_cons, beq_self_eq_true]
        exact .inl rfl
      · rw [if_neg q, List.lookup_cons, beq_self_eq_true]
        exact h
    · rw [beq_false_of_ne e] at h
      have ih := look_rel hc h
      by_cases q : c (n, k) = true
      · rw [if_pos q, List.lookup_cons, beq_false_of_ne e]
        exact ih
      · rw [if_neg q, List.lookup_cons, beq_false_of_ne e]
        exact ih
/-- a block within a block: its free names are the outer block's -/
theorem blkOk_c {N : List Str} {sc1 scope : Scope} {own : List (Str × Nat)} {cl : List (Str × Addr)} {C : Addr} {env : Env} (h : blkC N sc1 scope own = true) : BlkOk N (compEnvC sc1 cl C env).scope scope own := by
  obtain ⟨h1, h2, h3, h4, h5⟩ := blkOk_by h
  refine ⟨h1, h2, h3, fun y hy e => ?_, h5⟩
  refine look_rel (c := fun p => p.2 == NameKind.free && env.scope.kind == .function && env.kindOf p.1 == some .cell) (fun p hp => ?_) (h4 y hy e)
  have := (Bool.and_eq_true_iff.mp (Bool.and_eq_true_iff.mp hp).1).1
  obtain ⟨n, k⟩ := p
  cases k <;> first | rfl | cases this
theorem cr_anyK {X : Cx} (K : PySem.W.Frag) (hK : X.K = K) (hc : X.calm = true) : CallR X (.builtin "any") (rAny K) := hK ▸ cr_any hc
theorem cr_allK {X : Cx} (K : PySem.W.Frag) (hK : X.K = K) (hc : X.calm = true) : CallR X (.builtin "all") (rAll K) := hK ▸ cr_all hc
end Sr

set_option Elab.async false
set_option linter.all false
set_option maxRecDepth 100000
set_option maxHeartbeats 4000000
namespace K34
open PySem PySem.Spec PyProof.Rows L2 Sr
theorem name_lay {s : Str} (h : nameOk (.str s) = true) : PyData.canLay0 (.str s) = true := by
  have hs : ∀ c ∈ signs.cps.toList, decide (c < 0x110000) = true := by decide +kernel
  have h2 := (Bool.and_eq_true_iff.mp h).2
  show s.cps.all (fun c => decide (c < 0x110000)) = true
  rw [← Array.all_toList]
  rw [List.all_eq_true] at h2 ⊢
  intro c m
  exact hs c (of_decide_eq_true (h2 c m))
mutual
theorem dp_mono {K : PySem.W.Frag} {H H' : Hp} (s : Same H H') : ∀ {v : V} {d : PyData}, Dp K H v d → Dp K H' v d
  | _, _, .non => .non
  | _, _, .bl b => .bl b
  | _, _, .int i => .int i
  | _, _, .str x => .str x
  | _, _, .lst h r => .lst (sql_mono s h) (dpA_mono s r)
  | _, _, .tup h r => .tup (sqt_mono s h) (dpA_mono s r)
theorem dpA_mono {K : PySem.W.Frag} {H H' : Hp} (s : Same H H') : ∀ {vs : List V} {ds : List PyData}, DpAll K H vs ds → DpAll K H' vs ds
  | _, _, .nil => .nil
  | _, _, .cons h r => .cons (dp_mono s h) (dpA_mono s r)
end
theorem name_shaped {s : Str} (h : nameOk (.str s) = true) : SeqAt.shaped (.str s) = true := by
  unfold SeqAt.shaped
  rw [name_lay h, Bool.true_and]
  exact decide_eq_true (Nat.zero_le 64)
/-! ### __len__ and queue(member, thing) -/
def spLen (K : PySem.W.Frag) : Sp := fun vs H Q _ => ∃ x hs its, vs = [.ref x] ∧ QueR K H H x hs its ∧ Q (.int its.length) H
def hitL (d1 d2 : PyData) (g : Leg) : Bool := PyData.eqv (.str g.1) d1 && PyData.eqv (.str g.2.1) d2
def queueOf (d1 d2 : PyData) (its : Its) : List Int := ((its.zipIdx).filter fun p => p.1.any (hitL d1 d2)).map fun p => (p.2 : Int)
def spQueue (K : PySem.W.Frag) : Sp := fun vs H Q _ => ∃ x v u hs its d1 d2, vs = [.ref x, v, u] ∧ QueR K H H x hs its ∧ Dp K H v d1 ∧ SeqAt.shaped d1 = true ∧ ((Dp K H u d2 ∧ SeqAt.shaped d2 = true) ∨ ∀ it ∈ its, ∀ g ∈ it, PyData.eqv (.str g.1) d1 = false) ∧
  ∀ H' p, Same H H' → H p = none → H' p = some (.lst ((queueOf d1 d2 its).map V.int)) → Q (.ref p) H'
section
variable {P : Program} {w : World} {K : PySem.W.Frag} {mg : Str → Option Value} {base : Heap}
abbrev s_Queues___len__ : Stmt := inClass (top 17) 9
theorem sc_Queues___len__ : FnScope ["self"] ["self"] (defScope s_Queues___len__) := ⟨rfl, rfl, rfl, by decide +kernel, rfl, by decide +kernel, by decide +kernel⟩
theorem m_len (T : Txt K mg) (O : Que K mg) (D : DfnM K "Queues" "__len__" "Queues.__len__" s_Queues___len__) : CalM P w K mg base CX0 1 (He.fAd K ("Queues", some "__len__")) ["self"] (spLen K) := by
  refine D.cal sc_Queues___len__ (fun _ _ _ _ _ _ us hl => match us, hl with | [_], _ => rfl) (fun vs H Q E h => ?_) fun cdv A outer s H vs Q E hr h => ?_
  · obtain ⟨x, hs, its, rfl, _⟩ := h
    rfl
  obtain ⟨x, hs, its, rfl, h, q⟩ := h
  obtain ⟨dx, c, l, kc, us, h1, h2, h3, h4, h5, g, gi⟩ := id h
  have lus : us.length = its.length := by rw [h5.len, List.length_map]
  rw [← lus] at q
  refine ⟨_, (pss_one (ps_ret (pe_callB (id := "len") call_len_seq (by rfl) T.len (by decide +kernel) (pa_cons (pe_fld (pv 0) rfl) pa_nil)))), ?_⟩
  exact ⟨_, rfl, x, _, dx, _, _, rfl, h1, O.cl, O.nI, rfl, l, us, rfl, .inl (SqL.of h4), q⟩
abbrev s_Queues_queue : Stmt := inClass (top 17) 5
theorem sc_Queues_queue : FnScope ["self", "member", "thing", "number", "item", "leg"] ["self", "member", "thing"] (defScope s_Queues_queue) := ⟨rfl, rfl, rfl, by decide +kernel, rfl, by decide +kernel, by decide +kernel⟩
theorem zip_take {α : Type} {l : List α} {i : Nat} {a : α} (h : l[i]? = some a) : (l.take (i + 1)).zipIdx = (l.take i).zipIdx ++ [(a, i)] := by
  have li := (List.getElem?_eq_some_iff.mp h).1
  rw [List.take_add_one, h, List.zipIdx_append, List.length_take, Nat.min_eq_left (by omega)]
  simp
theorem queue_take {d1 d2 : PyData} {its : Its} {i : Nat} {it : List Leg} (h : its[i]? = some it) : queueOf d1 d2 (its.take (i + 1)) = queueOf d1 d2 (its.take i) ++ (if it.any (hitL d1 d2) = true then [(i : Int)] else []) := by
  unfold queueOf
  rw [zip_take h, List.filter_append, List.map_append]
  congr 1
  rw [List.filter_cons]
  cases it.any (hitL d1 d2) <;> rfl
theorem queue_len (d1 d2 : PyData) (its : Its) : (queueOf d1 d2 its).length ≤ its.length := by
  unfold queueOf
  rw [List.length_map]
  refine Nat.le_trans (List.length_filter_le _ _) ?_
  rw [List.length_zipIdx]
  exact Nat.le_refl _
theorem m_queue (T : Txt K mg) (O : Que K mg) (D : DfnM K "Queues" "queue" "Queues.queue" s_Queues_queue) : CalM P w K mg base CX0 1 (He.fAd K ("Queues", some "queue")) ["self", "member", "thing"] (spQueue K) := by
  refine D.cal sc_Queues_queue (fun _ _ _ _ _ _ us hl => match us, hl with | [_, _, _], _ => rfl) (fun vs H Q E h => ?_) fun cdv A outer s H vs Q E hr h => ?_
  · obtain ⟨x, v, u, hs, its, d1, d2, rfl, _⟩ := h
    rfl
  obtain ⟨x, v, u, hs, its, d1, d2, rfl, h, i1, sh1, i2, q⟩ := h
  obtain ⟨dx, c, l, kc, us, h1, h2, h3, h4, h5, g, gi⟩ := id h
  refine ⟨_, (pss_one (ps_ret (pe_lc (own := [("number", 3), ("item", 4)]) (g := gTup K 2 (gCons (gName 3) (gCons (gName 4) gNil))) rfl sc_Queues_queue.nd (pi_enum (by rfl) T.enumerate (pa_cons (pe_fld (pv 0) rfl) pa_nil)) (blkOk_by (N := ["self", "member", "thing", "number", "item", "leg"]) (sc := defScope s_Queues_queue) (by decide +kernel)) (fun _ _ _ _ _ => (pg_tup rfl (pgs_cons (pg_name (i := 3) sc_Queues_queue.nd rfl (by first | exact Or.inl rfl | exact Or.inr rfl)) (pgs_cons (pg_name (i := 4) sc_Queues_queue.nd rfl (by first | exact Or.inl rfl | exact Or.inr rfl)) pgs_nil)))) (fun _ _ _ _ _ => (pts_one (pt_val (pe_callB (id := "any") (cr_anyK K rfl rfl) (by rfl) T.any (by decide +kernel) (pa_cons (pe_lc (own := [("leg", 5)]) (g := gName 5) (tt := tYes) rfl sc_Queues_queue.nd (pi_seqK K rfl (pv 4)) (blkOk_c (N := ["self", "member", "thing", "number", "item", "leg"]) (by decide +kernel)) (fun _ _ _ _ _ => (pg_name (i := 5) sc_Queues_queue.nd rfl (by first | exact Or.inl rfl | exact Or.inr rfl))) (fun _ _ _ _ _ => pts_nil) (fun _ _ _ _ _ => (pe_and (pe_cmpR (op_eqDK K rfl hr.units) (pe_ix (ix_tupK K rfl) (pv 5) pe_int (fun _ _ => rfl)) (pv 1) (nomark _)) (pe_one (pe_cmpR (op_eqDK K rfl hr.units) (pe_ix (ix_tupK K rfl) (pv 5) pe_int (fun _ _ => rfl)) (pv 2) (nomark _)))))) pa_nil))))) (fun _ _ _ _ _ => (pv 3))))), ?_⟩
  have lus : us.length = its.length := by rw [h5.len, List.length_map]
  refine ⟨_, rfl, x, _, dx, _, _, rfl, h1, O.cl, O.nI, rfl, l, us, rfl, SqL.of h4, fun B hB => ?_⟩
  have below : ∀ {H' : Hp} {o : HO}, Same H H' → Same H (upd H' B o) := fun {H' o} s c u e => by
    rw [upd_ne (ne_of_none e hB)]
    exact s _ _ e
  refine lc_it walk_enum (fun i H' => Same H H' ∧ H' B = some (.lst ((queueOf d1 d2 (its.take i)).map V.int))) ⟨below (Same.refl H), by rw [upd_same]; rfl⟩ (fun i H' _ pv => SqL.of (pv.1 _ _ h4)) (fun i w0 H2 H2' hi pv yy => ?_) fun H' pv => ?_
  · obtain ⟨T', x1, y1, rfl, hT, rfl, hx, hy⟩ := yy
    obtain ⟨s2, a2⟩ := pv
    obtain rfl : V.int (i : Nat) = x1 := Option.some.inj hx
    have li : i < its.length := by omega
    have hit : its[i]? = some its[i] := List.getElem?_eq_getElem li
    generalize its[i] = it at hit
    obtain ⟨gi1, gi2⟩ := gi.2 it (List.mem_of_getElem? hit)
    obtain ⟨d, e1, iv⟩ := h5.get hy
    rw [List.getElem?_map, hit] at e1
    obtain rfl : itD it = d := Option.some.inj e1
    have s3 : Same H2 _ := Same.up (o := .tup [.int (i : Nat), y1]) hT
    refine ⟨T', _, rfl, SqT.of upd_same, rfl, _, _, rfl, _, _, rfl, rfl, rfl, ?_⟩
    have a3 := s3 _ _ a2
    have s23 := s2.trans s3
    generalize upd H2 T' _ = G at s3 a3 s23 ⊢
    cases iv with
    | tup hv rv zv =>
      rename_i t ws
      have lw : ws.length = it.length := by rw [rv.len, List.length_map]
      refine ⟨_, rfl, t, rfl, .inr ⟨⟨_, SqT.of (s23 _ _ hv)⟩, fun B2 hB2 => lc_f walk_tup at_any it (fun g => V.bl (hitL d1 d2 g)) lw.symm (sz (m := 60) (by omega)) hB2 (fun H' s' => SqT.of (s' _ _ (s23 _ _ hv))) (fun j u0 gl H5 A lt hu hz s5 kA => ?_) (fun H5 s5 h5' => ?_)⟩⟩
      · obtain ⟨d3, e3, iv3⟩ := rv.get hu
        rw [List.getElem?_map, hz] at e3
        obtain rfl : legT gl = d3 := Option.some.inj e3
        obtain ⟨tg, rfl, htg⟩ := leg_at iv3
        have sH5 := s23.trans s5
        have mg2 := List.mem_of_getElem? hz
        have gg := gi2 gl mg2
        refine ⟨rfl, ?_⟩
        refine ⟨_, rfl, tg, _, 0, _, rfl, rfl, SqT.of (sH5 _ _ htg), rfl, _, rfl, .str gl.1, d1, .str _, dp_mono sH5 i1, name_shaped gg.1, sh1, _, rfl, ?_⟩
        cases e4 : PyData.eqv (.str gl.1) d1 with
        | false =>
          refine iteF ?_
          have eh : hitL d1 d2 gl = false := by unfold hitL; rw [e4, Bool.false_and]
          rw [eh] at kA
          exact kA _ (Same.refl _)
        | true =>
          rcases i2 with ⟨i2, sh2⟩ | i2
          · refine iteT ⟨_, rfl, tg, _, 1, _, rfl, rfl, SqT.of (sH5 _ _ htg), rfl, _, rfl, .str gl.2.1, d2, .str _, dp_mono sH5 i2, name_shaped gg.2.1, sh2, ?_⟩
            have eh : hitL d1 d2 gl = PyData.eqv (.str gl.2.1) d2 := by unfold hitL; rw [e4, Bool.true_and]
            rw [eh] at kA
            exact kA _ (Same.refl _)
          · rw [i2 it (List.mem_of_getElem? hit) gl mg2] at e4
            cases e4
      · refine ⟨B2, it.map (hitL d1 d2), rfl, SqL.of (by rw [h5', List.map_map]; rfl), _, rfl, ?_⟩
        have s235 := s23.trans s5
        have a5 := s5 _ _ a3
        have lq := queue_len d1 d2 (its.take i)
        rw [List.length_take] at lq
        have eq := queue_take (d1 := d1) (d2 := d2) hit
        have ea : (it.map (hitL d1 d2)).any id = it.any (hitL d1 d2) := by rw [List.any_map]; rfl
        rw [ea]
        cases e : it.any (hitL d1 d2) with
        | false =>
          rw [e, if_neg Bool.false_ne_true, List.append_nil] at eq
          exact iteF ⟨s235, by rw [eq]; exact a5⟩
        | true =>
          rw [e, if_pos rfl] at eq
          refine iteT ⟨_, rfl, _, a5, sz (m := 60) (by rw [List.length_map]; have := gi.1; omega), below s235, ?_⟩
          rw [upd_same, eq, List.map_append]
          rfl
  · obtain ⟨s', a'⟩ := pv
    rw [lus, List.take_length] at a'
    exact q H' B s' hB a'
end
end K34

set_option Elab.async false
set_option linter.all false
set_option maxRecDepth 100000
set_option maxHeartbeats 4000000
namespace K34
open PySem PySem.Spec PyProof.Rows L2 Sr
/-! ### Queues(..), first(many) -/
structure MkQ (P : Program) (w : World) (K : PySem.W.Frag) (mg : Str → Option Value) (base : Heap) : Prop where
  ex : CalM P w K mg base CX0 6 (He.fAd K ("Queues", some "__init__")) ["self", "holdings", "items"] (spQInit K)
  mk_ : Mk K (He.ga K "Queues") (He.fAd K ("Queues", some "__init__"))
  nm : mg "Queues" = some (.ref (He.ga K "Queues"))
theorem MkQ.pe {X : Cx} {K : PySem.W.Frag} {w : World} {j : Nat} {p pos : Pos} {e : Expr} {es : List Expr} {t : TA} (c : MkQ X.prog w K X.mg X.base) (hK : X.K = K) (hw : X.w = w) (hr : Room j X.A) (hk : 7 ≤ j) (hg : Gl X "Queues") (ha : PA X (e :: es) t)
    (he : starEach (e :: es) X.env = (false, eval e X.env) :: starEach es X.env := by rfl) (hpl : (backTo pos (starEach es X.env)).any (·.1) = false := by rfl) :
    PE X (.Call (.Name "Queues" p) (e :: es) [] pos) (tMake (He.ga K "Queues") (spQInit K) [] E0 t) := by
  subst hK
  subst hw
  obtain ⟨fd, F, kp, hb⟩ := c.ex.ex
  exact pe_make c.mk_ F (hr.mono hk) hg c.nm hb .nil pass0 ha (by decide) he hpl
theorem ok_queues {K : PySem.W.Frag} {H : Hp} {Q : Addr → Hp → Prop} {E : XK} {a : Addr} {v : V} {kv : List (Key × V)} {hs : Hs} {its : Its} (ha : H a = some (.dK kv)) (hh : HldR H kv hs) (g : goodH hs) (hv : ItsV H v its) (gi : goodIts its)
    (q : ∀ x H' hs', H x = none → Same H H' → Can hs hs' → QueR K (newH H H') H' x hs' its → Q x H') :
    ∀ x dx, H x = none → H dx = none → dx ≠ x → spQInit K (.ref x :: ([.ref a, v] ++ [])) (upd (upd H dx (.own x)) x (.ins (He.ga K "Queues") dx [])) (fun v H2 => v = .non ∧ Q x H2) E := by
  intro x dx hx hdx ne
  have s0 : Same H (upd (upd H dx (.own x)) x (.ins (He.ga K "Queues") dx [])) := (Same.up hdx).trans (Same.up (by rw [upd_ne fun z => ne z.symm]; exact hx))
  exact ⟨x, a, v, kv, hs, its, H, dx, rfl, s0, hx, upd_same, s0 _ _ ha, hh.mono s0, g, hv.mono s0, gi, fun H' hs' s can qr => ⟨rfl, q x H' hs' hx s can qr⟩⟩
theorem itm_of {H : Hp} {v : V} {it : List Leg} (h : Is H v (itD it)) : ItmV H v it := by
  have aux : ∀ {us : List V} {gs : List Leg}, IsA H us (gs.map legT) → Paired (LegV H) us gs := by
    intro us gs
    induction gs generalizing us with
    | nil => intro h; cases h; exact .nil
    | cons g r ih =>
      intro h
      cases h with
      | cons a b =>
        obtain ⟨t, e, ht⟩ := leg_at a
        exact .cons ⟨t, e, .inr ht⟩ (ih b)
  cases h with
  | tup hv rv zv => exact ⟨_, _, rfl, .inr hv, aux rv⟩
theorem itms_of {H : Hp} : ∀ {us : List V} {its : Its}, IsA H us (its.map itD) → Paired (ItmV H) us its
  | us, [], h => by cases h; exact .nil
  | us, it :: r, h => by
    cases h with
    | cons a b => exact .cons (itm_of a) (itms_of b)
/-- what is told of what was told -/
theorem pw_one {xs ys zs : List Str} (hx : xs.Perm zs) (hy : ys.Perm zs) (sx : xs.Pairwise leS) (sy : ys.Pairwise leS) : xs = ys := by
  refine List.Perm.eq_of_pairwise (le := leS) (fun a b _ _ h1 h2 => ?_) sx sy (hx.trans hy.symm)
  have e : a.cps.toList = b.cps.toList := List.le_antisymm h1 h2
  obtain ⟨⟨ca⟩⟩ := a
  obtain ⟨⟨cb⟩⟩ := b
  simp only at e
  rw [e]
theorem zip_again {α β : Type} : ∀ l : List (α × β), (l.map (·.1)).zip (l.map (·.2)) = l
  | [] => rfl
  | p :: r => by rw [List.map_cons, List.map_cons, List.zip_cons_cons, zip_again r]
theorem row_names {r0 r : Rw} (a : CanRow r0 r) (g : goodR r0) : (r.map (·.1)).Pairwise leS ∧ (r.map (·.1)).Nodup ∧ ∀ p ∈ r, 0 < p.2 := by
  obtain ⟨zs, p, s, rfl⟩ := a
  have e : ((zs.filter fun t => decide (0 < gC r0 t)).map fun t => (t, gC r0 t)).map (·.1) = zs.filter fun t => decide (0 < gC r0 t) := by
    rw [List.map_map]
    exact List.map_id _
  refine ⟨by rw [e]; exact (sorted_pw s).filter _, by rw [e]; exact (p.nodup_iff.mpr g.1).filter _, fun q m => ?_⟩
  obtain ⟨z, mz, rfl⟩ := List.mem_map.mp m
  exact of_decide_eq_true (List.mem_filter.mp mz).2
theorem row_self {r0 r r' : Rw} (a : CanRow r0 r) (g : goodR r0) (b : CanRow r r') : r' = r := by
  obtain ⟨pw, nd, pos⟩ := row_names a g
  obtain ⟨zs, p, s, rfl⟩ := b
  obtain rfl := pw_one p (List.Perm.refl _) (sorted_pw s) pw
  have ge : ∀ q ∈ r, gC r q.1 = q.2 := fun q m => by
    unfold gC
    rw [mem_look nd (show (q.1, q.2) ∈ r from m)]
    rfl
  rw [List.filter_eq_self.mpr fun z m => by
    obtain ⟨q, mq, rfl⟩ := List.mem_map.mp m
    rw [ge q mq]
    exact decide_eq_true (pos q mq), List.map_map]
  have : ∀ q ∈ r, ((fun t => (t, gC r t)) ∘ fun (q : Str × Int) => q.1) q = q := fun q m => by
    show (q.1, gC r q.1) = q
    rw [ge q m]
  rw [List.map_congr_left this]
  exact List.map_id _
theorem can_names {h0 h : Hs} (a : Can h0 h) (g : goodH h0) : (h.map (·.1)).Pairwise leS ∧ ∀ p ∈ h, CanRow (gR h0 p.1) p.2 ∧ p.2.isEmpty = false := by
  obtain ⟨ys, rows, p, s, r, rfl⟩ := a
  have lr := Paired.length r
  refine ⟨?_, fun q m => ?_⟩
  · have sub : ((canZ ys rows).map (·.1)).Sublist ((ys.zip rows).map (·.1)) := List.Sublist.map _ List.filter_sublist
    rw [List.map_fst_zip (by omega)] at sub
    exact (sorted_pw s).sublist sub
  · obtain ⟨m1, m2⟩ := List.mem_filter.mp m
    refine ⟨zip_rel r q m1, ?_⟩
    cases e : q.2.isEmpty with
    | false => rfl
    | true => rw [e] at m2; cases m2
theorem rows_self {F : Str → Rw} {G : Str → Rw} : ∀ {ys : List Str} {rs : List Rw}, Paired (fun y r => CanRow (F y) r) ys rs → (∀ y ∈ ys, CanRow (G y) (F y) ∧ goodR (G y)) → rs = ys.map F
  | _, _, .nil, _ => rfl
  | _, _, .cons (a := y) h r, k => by
    obtain ⟨k1, k2⟩ := k y List.mem_cons_self
    rw [row_self k1 k2 h, rows_self r fun z m => k z (List.mem_cons_of_mem _ m)]
    rfl
theorem can_self {h0 h h' : Hs} (a : Can h0 h) (g : goodH h0) (b : Can h h') : h' = h := by
  obtain ⟨pw, k⟩ := can_names a g
  have gh := can_good a g
  obtain ⟨ys, rows, p, s, r, rfl⟩ := b
  obtain rfl := pw_one p (List.Perm.refl _) (sorted_pw s) pw
  have ge : ∀ q ∈ h, gR h q.1 = q.2 := fun q m => by
    unfold gR
    rw [mem_look gh.1 (show (q.1, q.2) ∈ h from m)]
    rfl
  have er := rows_self (G := gR h0) r fun y m => by
    obtain ⟨q, mq, rfl⟩ := List.mem_map.mp m
    rw [ge q mq]
    exact ⟨(k q mq).1, gR_good g q.1⟩
  rw [er]
  unfold canZ
  have ez : (h.map (·.1)).zip ((h.map (·.1)).map (gR h)) = h := by
    have : (h.map (·.1)).map (gR h) = h.map (·.2) := by
      rw [List.map_map]
      exact List.map_congr_left fun q m => ge q m
    rw [this]
    exact zip_again h
  rw [ez]
  exact List.filter_eq_self.mpr fun q m => by rw [(k q m).2]; rfl
theorem cut_take (us : List V) {n : Nat} (h : n ≤ us.length) : cutV us none (some (n : Int)) = us.take n := by
  have e1 : HT.sIx us.length us.length (some (n : Int)) = n := by
    show (if (n : Int) < 0 then ((n : Int) + (us.length : Nat)).toNat else min (n : Int).toNat us.length) = n
    rw [if_neg (by omega)]
    omega
  unfold cutV
  rw [HT.sIx_none, e1, List.drop_zero, Nat.sub_zero]
theorem isA_take {H : Hp} : ∀ {us : List V} {ds : List Dt}, IsA H us ds → ∀ n, IsA H (us.take n) (ds.take n)
  | _, _, .nil, n => by rw [List.take_nil, List.take_nil]; exact .nil
  | _, _, .cons a r, 0 => .nil
  | _, _, .cons a r, n + 1 => .cons a (isA_take r n)
end K34

set_option Elab.async false
set_option linter.all false
set_option maxRecDepth 100000
set_option maxHeartbeats 4000000
namespace Sr
open PySem PySem.Spec PyProof.Rows L2
/-! ### == and != of two dicts whose values are plain data -/
def DcD (K : PySem.W.Frag) (H : Hp) (ks : List (Key × V)) (xs : List (Key × PyData)) : Prop := Paired (fun (kv : Key × V) (x : Key × PyData) => kv.1 = x.1 ∧ Dp K H kv.2 x.2 ∧ PyData.canLay0 x.2 = true ∧ PyData.depth x.2 ≤ 8) ks xs
def lookK (ys : List (Key × PyData)) (k : Key) : Option PyData := (ys.find? fun p => decide (p.1 = k)).map (·.2)
def hitK (ys : List (Key × PyData)) (p : Key × PyData) : Bool := match lookK ys p.1 with
  | some e => PyData.eqv p.2 e
  | none => false
def eqvK (xs ys : List (Key × PyData)) : Bool := xs.length == ys.length && xs.all (hitK ys)
theorem DcD.look {K : PySem.W.Frag} {H : Hp} {ks : List (Key × V)} {xs : List (Key × PyData)} (h : DcD K H ks xs) (k : Key) : (valV ks k = none ∧ lookK xs k = none) ∨ ∃ v d, valV ks k = some v ∧ lookK xs k = some d ∧ Dp K H v d ∧ PyData.canLay0 d = true ∧ PyData.depth d ≤ 8 := by
  unfold DcD at h
  induction h with
  | nil => exact .inl ⟨rfl, rfl⟩
  | @cons p x ps xs h t ih =>
    by_cases c : x.1 = k
    · exact .inr ⟨p.2, x.2, valV_pos (h.1.trans c), by simp [lookK, List.find?_cons, c], h.2⟩
    · have e1 := valV_neg (r := ps) (show ¬ p.1 = k from fun e => c (h.1.symm.trans e))
      have e2 : lookK (x :: xs) k = lookK xs k := by simp [lookK, List.find?_cons, c]
      rw [e1, e2]
      exact ih
theorem hits_dp {X : Cx} {pins : List (Addr × Obj)} {σ : L2.St} {H : Hp} {s : Shared} (I : Inv X pins σ H s) {A : Around} (hu : A.units + 8 < cLine) {ls : List (Key × V)} {ys : List (Key × PyData)} (dy : DcD X.K H ls ys) {vb : List (Key × Value)} (rb : KV ls vb) :
    ∀ {ks : List (Key × V)} {va : List (Key × Value)} {xs : List (Key × PyData)}, KV ks va → DcD X.K H ks xs → PySem.W.KeqHits A s vb va (xs.all (hitK ys)) := by
  intro ks va xs ra
  unfold KV at ra
  induction ra generalizing xs with
  | nil => intro h; cases h; exact .nil
  | @cons p q ps qs h t ih =>
    intro hd
    cases hd with
    | @cons _ x _ xs hx tx =>
      obtain ⟨h1, h2⟩ := h
      obtain ⟨k, v⟩ := q
      have h1' : p.1 = k := h1
      have ek : x.1 = k := hx.1.symm.trans h1'
      have rv := rb.val k
      rw [List.all_cons]
      rcases dy.look k with ⟨e1, e2⟩ | ⟨v', d, e1, e2, hd, cl, dp⟩
      · rw [e1] at rv
        have hn : valueAt vb k = none := by
          cases q : valueAt vb k with
          | none => rfl
          | some y => rw [q] at rv; exact rv.elim
        have hf : hitK ys x = false := by unfold hitK; rw [ek, e2]
        rw [hf, Bool.false_and]
        exact .miss hn
      · rw [e1] at rv
        obtain ⟨y, hy, ry⟩ := rv.some_of
        have hf : hitK ys x = PyData.eqv x.2 d := by unfold hitK; rw [ek, e2]
        rw [hf]
        obtain ⟨as, r1⟩ := Dp.reads I x.2 p.2 v hx.2.1 h2
        obtain ⟨bs, r2⟩ := Dp.reads I d v' y hd ry
        exact .hit hy (SeqAt.eqAt_reads x.2 d A s v y as bs r1 r2 hx.2.2.1 cl (by have := hx.2.2.2; omega)) (ih tx)
def rEqDc (K : PySem.W.Frag) : R2 := fun x y H Q => ∃ a b ks ls xs ys, x = .ref a ∧ y = .ref b ∧ H a = some (.dK ks) ∧ H b = some (.dK ls) ∧ DcD K H ks xs ∧ DcD K H ls ys ∧ Q (.bl (eqvK xs ys)) H
def rNeDc (K : PySem.W.Frag) : R2 := fun x y H Q => ∃ a b ks ls xs ys, x = .ref a ∧ y = .ref b ∧ H a = some (.dK ks) ∧ H b = some (.dK ls) ∧ DcD K H ks xs ∧ DcD K H ls ys ∧ Q (.bl (!eqvK xs ys)) H
theorem kv_len {ks : List (Key × V)} {va : List (Key × Value)} (h : KV ks va) : va.length = ks.length := h.length.symm
theorem op_eqDc {X : Cx} (hu : X.A.units + 64 < cLine) : OpR X (compareOp .Eq) (rEqDc X.K) := by
  intro pins s σ H x y v u Q I rx ry h
  obtain ⟨a, b, ks, ls, xs, ys, rfl, rfl, ea, eb, dx, dy, q⟩ := h
  cases rx
  cases ry
  obtain ⟨_, ya, va, ra, da⟩ := (show ObjOk X.prog X.w H s.heap a (.dK ks) from I.hok a _ ea)
  obtain ⟨_, yb, vb, rb, db⟩ := (show ObjOk X.prog X.w H s.heap b (.dK ls) from I.hok b _ eb)
  refine PySem.W.keq_eq (knd := mixKind X.prog X.w) ya yb da db (by omega) (fun _ => hits_dp I (by simp only [Around.in1_units]; omega) dy rb ra dx) (fin_bl I q ?_)
  rw [kv_len ra, kv_len rb, Paired.length dx, Paired.length dy]
  rfl
theorem op_neDc {X : Cx} (hu : X.A.units + 64 < cLine) : OpR X (compareOp .NotEq) (rNeDc X.K) := by
  intro pins s σ H x y v u Q I rx ry h
  obtain ⟨a, b, ks, ls, xs, ys, rfl, rfl, ea, eb, dx, dy, q⟩ := h
  cases rx
  cases ry
  obtain ⟨_, ya, va, ra, da⟩ := (show ObjOk X.prog X.w H s.heap a (.dK ks) from I.hok a _ ea)
  obtain ⟨_, yb, vb, rb, db⟩ := (show ObjOk X.prog X.w H s.heap b (.dK ls) from I.hok b _ eb)
  refine PySem.W.keq_ne (knd := mixKind X.prog X.w) ya yb da db (by omega) (fun _ => hits_dp I (by simp only [Around.in1_units]; omega) dy rb ra dx) (fin_bl I q ?_)
  rw [kv_len ra, kv_len rb, Paired.length dx, Paired.length dy]
  rfl
end Sr

set_option Elab.async false
set_option linter.all false
set_option maxRecDepth 100000
set_option maxHeartbeats 4000000
namespace Sr
open PySem PySem.Spec PyProof.Rows L2
/-! ### != of two tuples of dicts that hold the same plain data -/
section
open PySem.SeqAt PySem.AutoSeq1
open MeetsSeq MeetsSeq2 MeetsSeq3
variable {prog : Program} {w : World}
theorem tuple_neIn (l b : Addr) (items items2 : Array Value) (n n2 : Nat) (dd dd2 : Option Addr) (sl sl2 : Array (Option Value)) (hsz : items.size = items2.size) :
    MeetsIn prog w (Builtin.«tuple.__ne__» ⟨[.ref l, .ref b], []⟩)
      (fun A R s => s.heap.get? l = some { cls := .type "tuple", dict := dd, data := .seq items n, slots := sl } ∧ s.heap.get? b = some { cls := .type "tuple", dict := dd2, data := .seq items2 n2, slots := sl2 } ∧
        (∀ j (h1 : j < items.size) (h2 : j < items2.size), EqIn prog w A.in1 s items[j] items2[j] true) ∧
        R (.ok (.ret (.bool false))) s) :=
  .of_wp fun A R s h => by
    obtain ⟨hp, g, d, tk, os⟩ := s; obtain ⟨hl, hb, he, h⟩ := h
    have f2 := AutoSeq1.sub_tuple_tuple
    have hZ : (items.toList.zip items2.toList).length = items.size := by simp [hsz]
    wp_walk using wpAny_loadPart' hl, wpAny_loadPart' hb, wpAny_forIn_list _ (fun rest b s' => b.1 = none ∧ s' = ⟨hp, g, d, tk, os⟩ ∧ ∃ i, rest = (items.toList.zip items2.toList).drop i) _
    case turn =>
      rintro ⟨y, x⟩ rest b s' ⟨hb', rfl, i, hz⟩
      have hlt : i < (items.toList.zip items2.toList).length := by
        rcases Nat.lt_or_ge i (items.toList.zip items2.toList).length with h' | h'
        · exact h'
        · rw [List.drop_of_length_le h'] at hz; cases hz
      have h1 : i < items.size := hZ ▸ hlt
      have h2 : i < items2.size := hsz ▸ h1
      rw [List.drop_eq_getElem_cons hlt] at hz
      injection hz with hyx hrest
      have hy : y = items[i] := by have := congrArg Prod.fst hyx; simpa using this
      have hx : x = items2[i] := by have := congrArg Prod.snd hyx; simpa using this
      subst hy hx
      refine wpAny_bind (he i h1 h2 _ _ ?_)
      wp_walk
      exact ⟨rfl, rfl, i + 1, hrest⟩
    case fin =>
      rintro ⟨b1, b2⟩ s' ⟨hb', rfl, i, hz⟩
      simp only at hb'
      subst hb'
      wp_walk
      exact ⟨_, rfl, by simpa [Builtin.Tuple.tupleCompareSizes, bne, hsz] using h⟩
    case h =>
      exact ⟨rfl, rfl, 0, rfl⟩
theorem rcNeIn_tuples {A : Around} {s : Shared} {E : Value → Shared → Prop} {l b : Addr} {items items2 : Array Value} {Q : Value → Shared → Prop} (hl : s.heap.IsTuple l items) (hb : s.heap.IsTuple b items2) (hsz : items.size = items2.size) (hu : A.units < cLine)
    (he : ∀ j (h1 : j < items.size) (h2 : j < items2.size), EqIn prog w A.in1 s items[j] items2[j] true) (h : Q (.bool false) s) : wpAny (model prog w) A (richCompare .NotEq (.ref l) (.ref b)) Q E s := by
  obtain ⟨⟨cls, dd, data, sl⟩, ho, hc, n, hd⟩ := id hl
  obtain ⟨⟨cls2, dd2, data2, sl2⟩, ho2, hc2, n2, hd2⟩ := id hb
  simp only at hc hd hc2 hd2
  subst hc hd hc2 hd2
  exact wpAny_richCompare_same_room (T := "tuple") (op := .NotEq) ⟨_, ho, rfl⟩ ⟨_, ho2, rfl⟩ F.slot_tuple_ne (call_meetsIn F.slot_tuple_ne ⟨_, ho, rfl⟩ F.entry_tuple_ne (F.args_tuple_ne_2 _ _) (tuple_neIn l b items items2 n n2 dd dd2 sl sl2 hsz)
    ⟨ho, ho2, he, show Value.bool false ≠ Value.notImplemented ∧ Q (.bool false) s from ⟨(fun x => nomatch x), h⟩⟩) hu
end
/-- two dicts that hold the same -/
def SameDc (K : PySem.W.Frag) (H : Hp) (x y : V) : Prop := ∃ a b ks ls xs ys, x = .ref a ∧ y = .ref b ∧ H a = some (.dK ks) ∧ H b = some (.dK ls) ∧ DcD K H ks xs ∧ DcD K H ls ys ∧ eqvK xs ys = true
def rNeTup (K : PySem.W.Frag) : R2 := fun x y H Q => ∃ a b xs ys, x = .ref a ∧ y = .ref b ∧ H a = some (.tup xs) ∧ H b = some (.tup ys) ∧ Paired (SameDc K H) xs ys ∧ Q (.bl false) H
theorem same_eqIn {X : Cx} {pins : List (Addr × Obj)} {σ : L2.St} {H : Hp} {s : Shared} (I : Inv X pins σ H s) {A : Around} (hu : A.units + 16 < cLine) {x y : V} {v u : Value} (h : SameDc X.K H x y) (rx : RelV x v) (ry : RelV y u) : PySem.SeqAt.EqIn X.prog X.w A s v u true := by
  obtain ⟨a, b, ks, ls, xs, ys, rfl, rfl, ea, eb, dx, dy, q⟩ := h
  cases rx
  cases ry
  by_cases ne : a = b
  · subst ne
    exact (PySem.SeqAt.EqAt.same _).inModel _ _
  obtain ⟨_, ya, va, ra, da⟩ := (show ObjOk X.prog X.w H s.heap a (.dK ks) from I.hok a _ ea)
  obtain ⟨_, yb, vb, rb, db⟩ := (show ObjOk X.prog X.w H s.heap b (.dK ls) from I.hok b _ eb)
  refine PySem.SeqAt.EqIn.of_refs ne fun E Q hq => ?_
  refine PySem.W.keq_eq (knd := mixKind X.prog X.w) ya yb da db (by omega) (fun _ => hits_dp I (by simp only [Around.in1_units]; omega) dy rb ra dx) ?_
  rw [kv_len ra, kv_len rb, Paired.length dx, Paired.length dy]
  have e : (xs.length == ys.length && xs.all (hitK ys)) = true := q
  rw [e]
  exact hq
theorem vals_get : ∀ {xs : List V} {its : List Value}, Vals xs its → ∀ {j : Nat} (h : j < its.length), ∃ x, xs[j]? = some x ∧ RelV x its[j]
  | [], _, .nil, j, h => absurd h (Nat.not_lt_zero _)
  | _ :: _, _, .cons a r, 0, h => ⟨_, rfl, a⟩
  | _ :: _, _, .cons a r, j + 1, h => vals_get r (Nat.lt_of_succ_lt_succ h)
theorem op_neTup {X : Cx} (hu : X.A.units + 64 < cLine) : OpR X (compareOp .NotEq) (rNeTup X.K) := by
  intro pins s σ H x y v u Q I rx ry h
  obtain ⟨a, b, xs, ys, rfl, rfl, ea, eb, p, q⟩ := h
  cases rx
  cases ry
  obtain ⟨_, va, ra, ta⟩ := (show ObjOk X.prog X.w H s.heap a (.tup xs) from I.hok a _ ea)
  obtain ⟨_, vb, rb, tb⟩ := (show ObjOk X.prog X.w H s.heap b (.tup ys) from I.hok b _ eb)
  have la := Paired.length ra
  have lb := Paired.length rb
  have lp := Paired.length p
  refine rcNeIn_tuples (prog := X.prog) (w := X.w) ta tb (by simp only [List.size_toArray]; omega) (by omega) (fun j h1 h2 => ?_) (fin_bl I q rfl)
  simp only [List.size_toArray] at h1 h2
  obtain ⟨x, hx, rx⟩ := vals_get ra h1
  obtain ⟨y, hy, ry⟩ := vals_get rb h2
  simp only [List.getElem_toArray]
  exact same_eqIn I (by simp only [Around.in1_units]; omega) (Paired.at2 p hx hy) rx ry
end Sr

set_option Elab.async false
set_option linter.all false
set_option maxRecDepth 100000
set_option maxHeartbeats 4000000
namespace Sr
open PySem PySem.Spec PyProof.Rows L2
/-! ### == of two dicts whose values are dicts of plain data -/
def InnerE (K : PySem.W.Frag) (H : Hp) (x y : V) (b : Bool) : Prop := ∃ a c ks ls xs ys, x = .ref a ∧ y = .ref c ∧ H a = some (.dK ks) ∧ H c = some (.dK ls) ∧ DcD K H ks xs ∧ DcD K H ls ys ∧ b = eqvK xs ys ∧ (a = c → b = true)
theorem inner_eqIn {X : Cx} {pins : List (Addr × Obj)} {σ : L2.St} {H : Hp} {s : Shared} (I : Inv X pins σ H s) {A : Around} (hu : A.units + 16 < cLine) {x y : V} {b : Bool} {v u : Value} (h : InnerE X.K H x y b) (rx : RelV x v) (ry : RelV y u) : PySem.SeqAt.EqIn X.prog X.w A s v u b := by
  obtain ⟨a, c, ks, ls, xs, ys, rfl, rfl, ea, eb, dx, dy, rfl, hs⟩ := h
  cases rx
  cases ry
  by_cases ne : a = c
  · rw [hs ne]
    subst ne
    exact (PySem.SeqAt.EqAt.same _).inModel _ _
  obtain ⟨_, ya, va, ra, da⟩ := (show ObjOk X.prog X.w H s.heap a (.dK ks) from I.hok a _ ea)
  obtain ⟨_, yb, vb, rb, db⟩ := (show ObjOk X.prog X.w H s.heap c (.dK ls) from I.hok c _ eb)
  refine PySem.SeqAt.EqIn.of_refs ne fun E Q hq => ?_
  refine PySem.W.keq_eq (knd := mixKind X.prog X.w) ya yb da db (by omega) (fun _ => hits_dp I (by simp only [Around.in1_units]; omega) dy rb ra dx) ?_
  rw [kv_len ra, kv_len rb, Paired.length dx, Paired.length dy]
  exact hq
def rEqDD (K : PySem.W.Frag) : R2 := fun x y H Q => ∃ (a c : Addr) (ks ls : List (Key × V)) (e : Key → Bool), x = .ref a ∧ y = .ref c ∧ H a = some (.dK ks) ∧ H c = some (.dK ls) ∧ (∀ k v u, (k, v) ∈ ks → valV ls k = some u → InnerE K H v u (e k)) ∧ Q (.bl (ks.length == ls.length && ks.all fun p => (valV ls p.1).isSome && e p.1)) H
theorem kv_mem : ∀ {ks : List (Key × V)} {va : List (Key × Value)}, KV ks va → ∀ {k : Key} {v' : Value}, (k, v') ∈ va → ∃ v, (k, v) ∈ ks ∧ RelV v v'
  | _, _, .nil, _, _, m => by cases m
  | p :: _, q :: _, .cons h r, k, v', m => by
    rcases List.mem_cons.mp m with e | m
    · refine ⟨p.2, ?_, by rw [← show q.2 = v' by rw [← e]]; exact h.2⟩
      have : p.1 = k := h.1.trans (by rw [← e])
      rw [← this]
      exact List.mem_cons_self
    · obtain ⟨v, m2, r2⟩ := kv_mem r m
      exact ⟨v, List.mem_cons_of_mem _ m2, r2⟩
theorem kv_all {f : Key → Bool} : ∀ {ks : List (Key × V)} {va : List (Key × Value)}, KV ks va → (va.all fun p => f p.1) = ks.all fun p => f p.1
  | _, _, .nil => rfl
  | _, _, .cons h r => by
    rw [List.all_cons, List.all_cons, kv_all r, show _ = _ from h.1]
theorem op_eqDD {X : Cx} (hu : X.A.units + 64 < cLine) : OpR X (compareOp .Eq) (rEqDD X.K) := by
  intro pins s σ H x y v u Q I rx ry h
  obtain ⟨a, c, ks, ls, e, rfl, rfl, ea, eb, hi, q⟩ := h
  cases rx
  cases ry
  obtain ⟨_, ya, va, ra, da⟩ := (show ObjOk X.prog X.w H s.heap a (.dK ks) from I.hok a _ ea)
  obtain ⟨_, yb, vb, rb, db⟩ := (show ObjOk X.prog X.w H s.heap c (.dK ls) from I.hok c _ eb)
  have some_ : ∀ k, (PySem.valueAt vb k).isSome = (valV ls k).isSome := fun k => by
    have rv := rb.val k
    cases e1 : valV ls k with
    | none =>
      rw [e1] at rv
      cases q : PySem.valueAt vb k with
      | none => rfl
      | some y => rw [q] at rv; exact rv.elim
    | some w =>
      rw [e1] at rv
      obtain ⟨y, hy, _⟩ := rv.some_of
      rw [hy]
      rfl
  refine PySem.W.keq_eqIn (knd := mixKind X.prog X.w) (r := va.all fun p => (PySem.valueAt vb p.1).isSome && e p.1) ya yb da db (by omega) (fun _ => PySem.W.KeqHitsIn.of va fun k v' y' m hy => ?_) (fin_bl I q ?_)
  · obtain ⟨v, mv, rv⟩ := kv_mem ra m
    have rw2 := rb.val k
    cases e1 : valV ls k with
    | none =>
      rw [e1, hy] at rw2
      exact rw2.elim
    | some w =>
      rw [e1] at rw2
      obtain ⟨y2, hy2, ry2⟩ := rw2.some_of
      rw [hy] at hy2
      cases hy2
      exact inner_eqIn I (by simp only [Around.in1_units]; omega) (hi k v w mv e1) rv ry2
  · rw [kv_len ra, kv_len rb, kv_all (f := fun k => (PySem.valueAt vb k).isSome && e k) ra]
    congr 2
    funext p
    rw [some_]
end Sr

set_option Elab.async false
set_option linter.all false
set_option maxRecDepth 100000
set_option maxHeartbeats 4000000
namespace K34
open PySem PySem.Spec PyProof.Rows L2 Sr
/-! ### == of what is told, as data -/
def TL {α : Type} (l : List (Str × α)) : Prop := (l.map (·.1)).Nodup ∧ (l.map (·.1)).Pairwise leS
theorem nodup_same : ∀ {xs ys : List Str}, xs.Nodup → (∀ s ∈ xs, s ∈ ys) → xs.length = ys.length → ∀ s ∈ ys, s ∈ xs := by
  intro xs ys nx h l s ms
  by_cases c : s ∈ xs
  · exact c
  · have := nodup_len (xs := ys.erase s) nx fun z m => (List.mem_erase_of_ne (fun (e : z = s) => c (by rw [← e]; exact m))).mpr (h z m)
    have l2 := List.length_erase_of_mem ms
    have pos : 0 < ys.length := List.length_pos_of_mem ms
    omega
theorem key_one {α : Type} {l : List (Str × α)} (nd : (l.map (·.1)).Nodup) {a b : Str × α} (ma : a ∈ l) (mb : b ∈ l) (e : a.1 = b.1) : a = b := by
  have h1 := mem_look nd (show (a.1, a.2) ∈ l from ma)
  have h2 := mem_look nd (show (b.1, b.2) ∈ l from mb)
  rw [e, h2] at h1
  obtain ⟨a1, a2⟩ := a
  obtain ⟨b1, b2⟩ := b
  simp only at e h1
  rw [e, Option.some.inj h1]
theorem tl_one {α : Type} [DecidableEq α] {l l' : List (Str × α)} (a : TL l) (b : TL l') : (l.length == l'.length && l.all fun p => decide (l'.lookup p.1 = some p.2)) = decide (l = l') := by
  by_cases c : l = l'
  · subst c
    rw [decide_eq_true rfl, beq_self_eq_true, Bool.true_and, List.all_eq_true]
    intro p m
    exact decide_eq_true (mem_look a.1 m)
  · rw [decide_eq_false c]
    cases h : (l.length == l'.length && l.all fun p => decide (l'.lookup p.1 = some p.2)) with
    | false => rfl
    | true =>
      obtain ⟨h1, h2⟩ := Bool.and_eq_true_iff.mp h
      have hl : l.length = l'.length := beq_iff_eq.mp h1
      have sub : ∀ p ∈ l, p ∈ l' := fun p m => look_mem (of_decide_eq_true (List.all_eq_true.mp h2 p m))
      have subn : ∀ s ∈ l.map (·.1), s ∈ l'.map (·.1) := fun s m => by
        obtain ⟨p, mp, rfl⟩ := List.mem_map.mp m
        exact List.mem_map.mpr ⟨p, sub p mp, rfl⟩
      have back := nodup_same a.1 subn (by rw [List.length_map, List.length_map, hl])
      have pn : (l.map (·.1)).Perm (l'.map (·.1)) := (List.perm_ext_iff_of_nodup a.1 b.1).mpr fun s => ⟨subn s, back s⟩
      have en := pw_one pn (List.Perm.refl _) a.2 b.2
      refine absurd (List.ext_getElem? fun i => ?_) c
      have ei := congrArg (fun z : List Str => z[i]?) en
      simp only [List.getElem?_map] at ei
      cases x : l[i]? with
      | none =>
        rw [x] at ei
        cases y : l'[i]? with
        | none => rfl
        | some m' => rw [y] at ei; cases ei
      | some m =>
        rw [x] at ei
        cases y : l'[i]? with
        | none => rw [y] at ei; cases ei
        | some m' =>
          rw [y] at ei
          rw [key_one b.1 (sub m (List.mem_of_getElem? x)) (List.mem_of_getElem? y) (Option.some.inj ei)]
def rowP (r : Rw) : List (Key × PyData) := r.map fun p => (Sum.inr p.1, .int p.2)
theorem look_rowP (n : Str) : ∀ r : Rw, lookK (rowP r) (Sum.inr n) = (r.lookup n).map PyData.int
  | [] => rfl
  | p :: r => by
    have ih := look_rowP n r
    unfold lookK rowP at ih ⊢
    rw [List.map_cons, List.find?_cons, List.lookup_cons]
    by_cases c : n = p.1
    · subst c
      rw [decide_eq_true rfl, beq_self_eq_true]
      rfl
    · rw [decide_eq_false (fun e => c (Sum.inr.inj e).symm), beq_false_of_ne c]
      exact ih
theorem eqv_rowP (r r' : Rw) : eqvK (rowP r) (rowP r') = (r.length == r'.length && r.all fun p => decide (r'.lookup p.1 = some p.2)) := by
  unfold eqvK
  congr 1
  · unfold rowP; rw [List.length_map, List.length_map]
  · unfold rowP
    rw [List.all_map]
    congr 1
    funext p
    show hitK (rowP r') (Sum.inr p.1, .int p.2) = _
    unfold hitK
    rw [look_rowP]
    cases r'.lookup p.1 with
    | none => rfl
    | some i =>
      show (p.2 == i) = _
      by_cases c : p.2 = i
      · rw [c, beq_self_eq_true, decide_eq_true rfl]
      · rw [beq_false_of_ne c, decide_eq_false fun e => c (Option.some.inj e).symm]
theorem dcd_row {K : PySem.W.Frag} {H : Hp} {kr : List (Key × V)} {r : Rw} (h : CoinsC kr r) : DcD K H kr (rowP r) :=
  pmap (f := fun p : Str × Int => ((Sum.inr p.1, .int p.2) : Key × PyData)) (fun kv p h => ⟨h.1, by rw [h.2]; exact .int _, rfl, Nat.zero_le _⟩) h
def Told (hs : Hs) : Prop := ∃ h0, Can h0 hs ∧ goodH h0
theorem Told.tl {hs : Hs} (h : Told hs) : TL hs ∧ ∀ p ∈ hs, TL p.2 := by
  obtain ⟨h0, c, g⟩ := h
  obtain ⟨pw, k⟩ := can_names c g
  have gh := can_good c g
  refine ⟨⟨gh.1, pw⟩, fun p m => ?_⟩
  obtain ⟨a, b, _⟩ := row_names (k p m).1 (gR_good g p.1)
  exact ⟨b, a⟩
theorem told_eq {hs hs' : Hs} (a : Told hs) (b : Told hs') : (hs.length == hs'.length && hs.all fun p => (hs'.lookup p.1).isSome && eqvK (rowP p.2) (rowP (gR hs' p.1))) = decide (hs = hs') := by
  obtain ⟨a1, a2⟩ := a.tl
  obtain ⟨b1, b2⟩ := b.tl
  rw [← tl_one a1 b1]
  congr 1
  have : ∀ p ∈ hs, ((hs'.lookup p.1).isSome && eqvK (rowP p.2) (rowP (gR hs' p.1))) = decide (hs'.lookup p.1 = some p.2) := fun p m => by
    unfold gR
    cases e : hs'.lookup p.1 with
    | none => rfl
    | some r =>
      show (true && eqvK (rowP p.2) (rowP r)) = _
      rw [Bool.true_and, eqv_rowP, tl_one (a2 p m) (b2 _ (look_mem e))]
      by_cases c : p.2 = r
      · rw [decide_eq_true c, decide_eq_true (by rw [c])]
      · rw [decide_eq_false c, decide_eq_false fun e => c (Option.some.inj e).symm]
  rw [Bool.eq_iff_iff, List.all_eq_true, List.all_eq_true]
  exact ⟨fun h p m => by rw [← this p m]; exact h p m, fun h p m => by rw [this p m]; exact h p m⟩
end K34

set_option Elab.async false
set_option linter.all false
set_option maxRecDepth 100000
set_option maxHeartbeats 4000000
namespace K34
open PySem PySem.Spec PyProof.Rows L2 Sr
/-! ### the law's own queue -/
def spLawQ : Sp := fun vs H Q _ => ∃ (l : Addr) (us : List V) (its : Its) (a b : Str), vs = [.ref l, .str a, .str b] ∧ H l = some (.lst us) ∧ IsA H us (its.map itD) ∧ goodIts its ∧ SeqAt.shaped (.str a) = true ∧ SeqAt.shaped (.str b) = true ∧
  ∀ H' p, Same H H' → H p = none → H' p = some (.lst ((queueOf (.str a) (.str b) its).map V.int)) → Q (.ref p) H'
section
variable {P : Program} {w : World} {K : PySem.W.Frag} {mg : Str → Option Value} {base : Heap}
abbrev s__law_queue : Stmt := top 42
theorem sc__law_queue : FnScope ["items", "member", "thing", "k", "item", "leg"] ["items", "member", "thing"] (defScope s__law_queue) := ⟨rfl, rfl, rfl, by decide +kernel, rfl, by decide +kernel, by decide +kernel⟩
theorem c__law_queue (T : Txt K mg) (D : Dfn K mg "_law_queue" s__law_queue) : Cal P w K mg base 1 "_law_queue" ["items", "member", "thing"] spLawQ := by
  refine D.cal sc__law_queue (fun _ _ _ _ _ _ us hl => match us, hl with | [_, _, _], _ => rfl) (fun vs H Q E h => ?_) fun cdv A outer s H vs Q E hr h => ?_
  · obtain ⟨l, us, its, a, b, rfl, _⟩ := h
    rfl
  obtain ⟨l, us, its, a, b, rfl, h4, h5, gi, ga, gb, q⟩ := h
  have i1 : Dp K H (.str a) (.str a) := .str a
  have i2 : Dp K H (.str b) (.str b) := .str b
  have sh1 := ga
  have sh2 := gb
  generalize hd1 : PyData.str a = d1 at i1 sh1 q
  generalize hd2 : PyData.str b = d2 at i2 sh2 q
  refine ⟨_, (pss_one (ps_ret (pe_lc (own := [("k", 3), ("item", 4)]) (g := gTup K 2 (gCons (gName 3) (gCons (gName 4) gNil))) rfl sc__law_queue.nd (pi_enum (by rfl) T.enumerate (pa_cons (pv 0) pa_nil)) (blkOk_by (N := ["items", "member", "thing", "k", "item", "leg"]) (sc := defScope s__law_queue) (by decide +kernel)) (fun _ _ _ _ _ => (pg_tup rfl (pgs_cons (pg_name (i := 3) sc__law_queue.nd rfl (by first | exact Or.inl rfl | exact Or.inr rfl)) (pgs_cons (pg_name (i := 4) sc__law_queue.nd rfl (by first | exact Or.inl rfl | exact Or.inr rfl)) pgs_nil)))) (fun _ _ _ _ _ => (pts_one (pt_val (pe_callB (id := "any") (cr_anyK K rfl rfl) (by rfl) T.any (by decide +kernel) (pa_cons (pe_lc (own := [("leg", 5)]) (g := gName 5) (tt := tYes) rfl sc__law_queue.nd (pi_seqK K rfl (pv 4)) (blkOk_c (N := ["items", "member", "thing", "k", "item", "leg"]) (by decide +kernel)) (fun _ _ _ _ _ => (pg_name (i := 5) sc__law_queue.nd rfl (by first | exact Or.inl rfl | exact Or.inr rfl))) (fun _ _ _ _ _ => pts_nil) (fun _ _ _ _ _ => (pe_and (pe_cmpR (op_eqDK K rfl hr.units) (pe_ix (ix_tupK K rfl) (pv 5) pe_int (fun _ _ => rfl)) (pv 1) (nomark _)) (pe_one (pe_cmpR (op_eqDK K rfl hr.units) (pe_ix (ix_tupK K rfl) (pv 5) pe_int (fun _ _ => rfl)) (pv 2) (nomark _)))))) pa_nil))))) (fun _ _ _ _ _ => (pv 3))))), ?_⟩
  have lus : us.length = its.length := by rw [h5.len, List.length_map]
  refine ⟨_, rfl, l, us, rfl, SqL.of h4, fun B hB => ?_⟩
  have below : ∀ {H' : Hp} {o : HO}, Same H H' → Same H (upd H' B o) := fun {H' o} s c u e => by
    rw [upd_ne (ne_of_none e hB)]
    exact s _ _ e
  refine lc_it walk_enum (fun i H' => Same H H' ∧ H' B = some (.lst ((queueOf d1 d2 (its.take i)).map V.int))) ⟨below (Same.refl H), by rw [upd_same]; rfl⟩ (fun i H' _ pv => SqL.of (pv.1 _ _ h4)) (fun i w0 H2 H2' hi pv yy => ?_) fun H' pv => ?_
  · obtain ⟨T', x1, y1, rfl, hT, rfl, hx, hy⟩ := yy
    obtain ⟨s2, a2⟩ := pv
    obtain rfl : V.int (i : Nat) = x1 := Option.some.inj hx
    have li : i < its.length := by omega
    have hit : its[i]? = some its[i] := List.getElem?_eq_getElem li
    generalize its[i] = it at hit
    obtain ⟨gi1, gi2⟩ := gi.2 it (List.mem_of_getElem? hit)
    obtain ⟨d, e1, iv⟩ := h5.get hy
    rw [List.getElem?_map, hit] at e1
    obtain rfl : itD it = d := Option.some.inj e1
    have s3 : Same H2 _ := Same.up (o := .tup [.int (i : Nat), y1]) hT
    refine ⟨T', _, rfl, SqT.of upd_same, rfl, _, _, rfl, _, _, rfl, rfl, rfl, ?_⟩
    have a3 := s3 _ _ a2
    have s23 := s2.trans s3
    generalize upd H2 T' _ = G at s3 a3 s23 ⊢
    cases iv with
    | tup hv rv zv =>
      rename_i t ws
      have lw : ws.length = it.length := by rw [rv.len, List.length_map]
      refine ⟨_, rfl, t, rfl, .inr ⟨⟨_, SqT.of (s23 _ _ hv)⟩, fun B2 hB2 => lc_f walk_tup at_any it (fun g => V.bl (hitL d1 d2 g)) lw.symm (sz (m := 60) (by omega)) hB2 (fun H' s' => SqT.of (s' _ _ (s23 _ _ hv))) (fun j u0 gl H5 A lt hu hz s5 kA => ?_) (fun H5 s5 h5' => ?_)⟩⟩
      · obtain ⟨d3, e3, iv3⟩ := rv.get hu
        rw [List.getElem?_map, hz] at e3
        obtain rfl : legT gl = d3 := Option.some.inj e3
        obtain ⟨tg, rfl, htg⟩ := leg_at iv3
        have sH5 := s23.trans s5
        have mg2 := List.mem_of_getElem? hz
        have gg := gi2 gl mg2
        refine ⟨rfl, ?_⟩
        refine ⟨_, rfl, tg, _, 0, _, rfl, rfl, SqT.of (sH5 _ _ htg), rfl, _, rfl, .str gl.1, d1, .str _, dp_mono sH5 i1, name_shaped gg.1, sh1, _, rfl, ?_⟩
        cases e4 : PyData.eqv (.str gl.1) d1 with
        | false =>
          refine iteF ?_
          have eh : hitL d1 d2 gl = false := by unfold hitL; rw [e4, Bool.false_and]
          rw [eh] at kA
          exact kA _ (Same.refl _)
        | true =>
          refine iteT ⟨_, rfl, tg, _, 1, _, rfl, rfl, SqT.of (sH5 _ _ htg), rfl, _, rfl, .str gl.2.1, d2, .str _, dp_mono sH5 i2, name_shaped gg.2.1, sh2, ?_⟩
          have eh : hitL d1 d2 gl = PyData.eqv (.str gl.2.1) d2 := by unfold hitL; rw [e4, Bool.true_and]
          rw [eh] at kA
          exact kA _ (Same.refl _)
      · refine ⟨B2, it.map (hitL d1 d2), rfl, SqL.of (by rw [h5', List.map_map]; rfl), _, rfl, ?_⟩
        have s235 := s23.trans s5
        have a5 := s5 _ _ a3
        have lq := queue_len d1 d2 (its.take i)
        rw [List.length_take] at lq
        have eq := queue_take (d1 := d1) (d2 := d2) hit
        have ea : (it.map (hitL d1 d2)).any id = it.any (hitL d1 d2) := by rw [List.any_map]; rfl
        rw [ea]
        cases e : it.any (hitL d1 d2) with
        | false =>
          rw [e, if_neg Bool.false_ne_true, List.append_nil] at eq
          exact iteF ⟨s235, by rw [eq]; exact a5⟩
        | true =>
          rw [e, if_pos rfl] at eq
          refine iteT ⟨_, rfl, _, a5, sz (m := 60) (by rw [List.length_map]; have := gi.1; omega), below s235, ?_⟩
          rw [upd_same, eq, List.map_append]
          rfl
  · obtain ⟨s', a'⟩ := pv
    rw [lus, List.take_length] at a'
    exact q H' B s' hB a'
end
end K34

set_option Elab.async false
set_option linter.all false
set_option maxRecDepth 100000
set_option maxHeartbeats 4000000
namespace K34
open PySem PySem.Spec PyProof.Rows L2 Sr
theorem perm_pairs {α β : Type} {F : α → β → Prop} {as as' : List α} (p : as'.Perm as) : ∀ {bs : List β}, Paired F as bs → ∃ bs', Paired F as' bs' ∧ bs'.Perm bs := by
  induction p with
  | nil => intro bs h; exact ⟨bs, h, List.Perm.refl _⟩
  | cons x _ ih =>
    intro bs h
    cases h with
    | @cons _ b _ bs h t =>
      obtain ⟨bs', h1, h2⟩ := ih t
      exact ⟨b :: bs', .cons h h1, h2.cons b⟩
  | swap x y l =>
    intro bs h
    cases h with
    | @cons _ b _ bs h t =>
      cases t with
      | @cons _ c _ bs h2 t => exact ⟨c :: b :: bs, .cons h2 (.cons h t), List.Perm.swap b c bs⟩
  | trans _ _ ih1 ih2 =>
    intro bs h
    obtain ⟨b1, h1, p1⟩ := ih2 h
    obtain ⟨b2, h2, p2⟩ := ih1 h1
    exact ⟨b2, h2, p2.trans p1⟩
theorem pair_map {α β : Type} {f : β → α} : ∀ bs : List β, Paired (fun a b => a = f b) (bs.map f) bs
  | [] => .nil
  | b :: r => .cons rfl (pair_map r)
theorem map_pair {α β : Type} {f : β → α} : ∀ {as : List α} {bs : List β}, Paired (fun a b => a = f b) as bs → as = bs.map f
  | _, _, .nil => rfl
  | _, _, .cons h t => by rw [h, map_pair t]; rfl
theorem perm_map {α β : Type} {f : β → α} {as : List α} {bs : List β} (p : as.Perm (bs.map f)) : ∃ bs' : List β, as = bs'.map f ∧ bs'.Perm bs := by
  obtain ⟨bs', h1, h2⟩ := perm_pairs p (pair_map bs)
  exact ⟨bs', map_pair h1, h2⟩
/-! ### drawn items -/
def abc : List Str := ["a", "b", "c"]
def drawnL (g : Leg) : Prop := g.1 ∈ abc ∧ g.2.2.2 ∈ abc ∧ g.1 ≠ g.2.2.2 ∧ g.2.1 ∈ (["coin", "coin", "x"] : List Str) ∧ 1 ≤ g.2.2.1 ∧ g.2.2.1 ≤ 3
def drawnI (its : Its) : Prop := ∀ it ∈ its, it.length ≤ 2 ∧ ∀ g ∈ it, drawnL g
def spSomeI : Sp := fun vs H Q _ => ∃ (a : Addr) (n : Nat), vs = [.ref a, .int (n : Nat)] ∧ DnAt 0 H a ∧ n ≤ 6 ∧
  ∀ (l : Addr) (H' : Hp) (us : List V) (its : Its), DnAt 0 H' a → Same (rm H a) (rm H' a) → (rm H a) l = none → (rm H' a) l = some (.lst us) → IsA (rm H' a) us (its.map itD) → its.length = n → drawnI its → Q (.ref l) H'
section
variable {P : Program} {w : World} {K : PySem.W.Frag} {mg : Str → Option Value} {base : Heap}
abbrev s__law_some_items : Stmt := top 40
theorem sc__law_some_items : FnScope ["draws", "many", "found", "k", "legs", "turn", "pair"] ["draws", "many"] (defScope s__law_some_items) := ⟨rfl, rfl, rfl, by decide +kernel, rfl, by decide +kernel, by decide +kernel⟩
theorem c__law_some_items (T : Txt K mg) (D : Dfn K mg "_law_some_items" s__law_some_items) (C_law_draw : Cal P w K mg base 1 "_law_draw" ["draws", "many"] spDraw) (C_law_pick : Cal P w K mg base 2 "_law_pick" ["draws", "things"] (spPick K)) (C_law_mixed : Cal P w K mg base 2 "_law_mixed" ["draws", "things"] spMix) : Cal P w K mg base 3 "_law_some_items" ["draws", "many"] spSomeI := by
  refine D.cal sc__law_some_items (fun _ _ _ _ _ _ us hl => match us, hl with | [_, _], _ => rfl) (fun vs H Q E h => ?_) fun cdv A outer s H vs Q E hr h => ?_
  · obtain ⟨a, n, rfl, _⟩ := h
    rfl
  obtain ⟨a, n, rfl, hd, hn, q⟩ := h
  refine ⟨_, (pss_cons (ps_set (i := 2) sc__law_some_items.nd rfl (by first | exact Or.inl rfl | exact Or.inr rfl) (pe_lst pa_nil))
      (pss_cons (ps_for PassesOwn.never rfl (pi_range1 (by rfl) T.range (pa_cons (pv 1) pa_nil)) (pg_name (i := 3) sc__law_some_items.nd rfl (by first | exact Or.inl rfl | exact Or.inr rfl))
      (pss_cons (ps_set (i := 4) sc__law_some_items.nd rfl (by first | exact Or.inl rfl | exact Or.inr rfl) (pe_lst pa_nil))
      (pss_cons (ps_for PassesOwn.never rfl (pi_range1 (by rfl) T.range (pa_cons (pe_cal C_law_pick hr (by first | decide | omega) (by rfl) (pa_cons (pv 0) (pa_cons (pe_lst (pa_cons pe_int (pa_cons pe_int (pa_cons pe_int (pa_cons pe_int (pa_cons pe_int (pa_cons pe_int pa_nil))))))) pa_nil))) pa_nil)) (pg_name (i := 5) sc__law_some_items.nd rfl (by first | exact Or.inl rfl | exact Or.inr rfl))
      (pss_cons (ps_set (i := 6) sc__law_some_items.nd rfl (by first | exact Or.inl rfl | exact Or.inr rfl) (pe_slice sl_list (pe_cal C_law_mixed hr (by first | decide | omega) (by rfl) (pa_cons (pv 0) (pa_cons (pe_lst (pa_cons pe_str (pa_cons pe_str (pa_cons pe_str pa_nil)))) pa_nil))) po_none (po_some pe_int)))
      (pss_one (ps_expr (pe_bm PySem.F.plainAttrs_list PySem.F.slot_list_append PySem.F.type_list_append mt_append (pv 4) (pa_cons (pe_tup (pa_cons (pe_ix ix_list (pv 6) pe_int (fun _ _ => rfl)) (pa_cons (pe_cal C_law_pick hr (by first | decide | omega) (by rfl) (pa_cons (pv 0) (pa_cons (pe_lst (pa_cons pe_str (pa_cons pe_str (pa_cons pe_str pa_nil)))) pa_nil))) (pa_cons (pe_op op_add pe_int (pe_cal C_law_draw hr (by first | decide | omega) (by rfl) (pa_cons (pv 0) (pa_cons pe_int pa_nil)))) (pa_cons (pe_ix ix_list (pv 6) pe_int (fun _ _ => rfl)) pa_nil))))) pa_nil))))))
      (pss_one (ps_expr (pe_bm PySem.F.plainAttrs_list PySem.F.slot_list_append PySem.F.type_list_append mt_append (pv 2) (pa_cons (pe_callTy (T := "tuple") call_tuple_of (by rfl) T.tuple (by decide +kernel) (pa_cons (pv 4) pa_nil)) pa_nil)))))))
      (pss_one (ps_ret (pv 2))))), ?_⟩
  refine ⟨lineN (n := 0), fun f hf => ?_⟩
  have nf := hd.new hf
  have mf : (rm H a) f = none := by rw [rm_ne nf]; exact hf
  try dsimp only
  refine ⟨_, rfl, _, rfl, by omega, by omega, ?_⟩
  refine for_range (fun i σ H' => ∃ v3 v4 v5 v6 us its, σ = [some (.ref a), some (.int (n : Nat)), some (.ref f), v3, v4, v5, v6] ∧ DnAt 0 H' a ∧ Same (rm H a) (rm H' a) ∧ (rm H' a) f = some (.lst us) ∧ IsA (rm H' a) us (its.map itD) ∧ its.length = i ∧ drawnI its) ⟨_, _, _, _, [], [], rfl, hd.set nf, same_set (Same.refl _) mf, by rw [rm_ne nf, upd_same], .nil, rfl, fun it m => by cases m⟩ ?_ ?_
  rotate_left
  · rintro σ H1 ⟨v3, v4, v5, v6, us, its, rfl, d1, s1, f1, i1, l1, g1⟩
    try dsimp only
    exact ⟨_, rfl, q f H1 us its d1 s1 mf f1 i1 (by rw [l1]; exact Int.toNat_natCast n) g1⟩
  rintro i σ H1 hi ⟨v3, v4, v5, v6, us, its, rfl, d1, s1, f1, i1, l1, g1⟩
  have nfa : f ≠ a := nf
  refine ⟨lineN (n := 0), fun g0 hg0 => ?_⟩
  have ng := d1.new hg0
  have d2 : DnAt 0 (upd H1 g0 (.lst [])) a := d1.set ng
  have mg : (rm H1 a) g0 = none := by rw [rm_ne ng]; exact hg0
  have s2 : Same (rm H1 a) (rm (upd H1 g0 (.lst [])) a) := same_set (Same.refl _) mg
  have e2 : (rm (upd H1 g0 (.lst [])) a) g0 = some (.lst []) := by rw [rm_ne ng, upd_same]
  generalize upd H1 g0 (.lst []) = G at d2 s2 e2 ⊢
  try dsimp only
  refine ⟨_, rfl, lineN (n := 6), fun lo hlo => ?_⟩
  have nlo := d2.new hlo
  have d3 : DnAt 0 (upd G lo (.lst [.int 0, .int 1, .int 1, .int 1, .int 2, .int 2])) a := d2.set nlo
  have s3 : Same (rm G a) (rm (upd G lo (.lst [.int 0, .int 1, .int 1, .int 1, .int 2, .int 2])) a) := same_set (Same.refl _) (by rw [rm_ne nlo]; exact hlo)
  have e3 : (upd G lo (.lst [.int 0, .int 1, .int 1, .int 1, .int 2, .int 2])) lo = some (.lst [.int 0, .int 1, .int 1, .int 1, .int 2, .int 2]) := upd_same
  generalize upd G lo _ = G2 at d3 s3 e3 ⊢
  refine ⟨a, lo, _, 0, rfl, d3, by decide, nlo, .inl (SqL.of e3), by show 1 ≤ 6; decide, by show 6 < 1073741824; decide, fun k v o hv ho => ?_⟩
  obtain ⟨c, rfl, hc⟩ : ∃ c : Nat, v = .int (c : Nat) ∧ c ≤ 2 := by
    have m := List.mem_of_getElem? hv
    simp only [List.mem_cons, List.not_mem_nil, or_false] at m
    rcases m with rfl | rfl | rfl | rfl | rfl | rfl
    · exact ⟨0, rfl, by decide⟩
    · exact ⟨1, rfl, by decide⟩
    · exact ⟨1, rfl, by decide⟩
    · exact ⟨1, rfl, by decide⟩
    · exact ⟨2, rfl, by decide⟩
    · exact ⟨2, rfl, by decide⟩
  have d4 : DnAt 0 (upd G2 a o) a := DnAt.put ho
  have s4 : Same (rm H1 a) (rm (upd G2 a o) a) := s2.trans (s3.trans rm_put)
  have e4 : (rm (upd G2 a o) a) g0 = some (.lst []) := rm_put _ _ (s3 _ _ e2)
  generalize upd G2 a o = G3 at d4 s4 e4 ⊢
  refine ⟨_, rfl, by omega, by omega, ?_⟩
  refine for_range (fun j σ H' => ∃ v5 v6 ws gs, σ = [some (.ref a), some (.int (n : Nat)), some (.ref f), some (.int (0 + (i : Nat))), some (.ref g0), v5, v6] ∧ DnAt 0 H' a ∧ Same (rm H1 a) (rm H' a) ∧ (rm H' a) g0 = some (.lst ws) ∧ IsA (rm H' a) ws (gs.map legT) ∧ gs.length = j ∧ ∀ g ∈ gs, drawnL g) ⟨_, _, [], [], rfl, d4, s4, e4, .nil, rfl, fun g m => by cases m⟩ ?_ ?_
  · rintro j σ H5 hj ⟨v5', v6', ws, gs, rfl, d5, s5, e5, i5, l5, g5⟩
    refine ⟨_, rfl, lineN (n := 3), fun lp hlp => ?_⟩
    have nlp := d5.new hlp
    have d6 : DnAt 0 (upd H5 lp (.lst [.str "a", .str "b", .str "c"])) a := d5.set nlp
    have s6 : Same (rm H5 a) (rm (upd H5 lp (.lst [.str "a", .str "b", .str "c"])) a) := same_set (Same.refl _) (by rw [rm_ne nlp]; exact hlp)
    have e6 : (rm (upd H5 lp (.lst [.str "a", .str "b", .str "c"])) a) lp = some (.lst (abc.map V.str)) := by rw [rm_ne nlp, upd_same]; rfl
    generalize upd H5 lp _ = H6 at d6 s6 e6 ⊢
    refine ⟨a, lp, abc.map V.str, 0, rfl, d6, by decide, e6, by decide, fun p H7 ys d7 s7 p0 hp7 pm => ?_⟩
    obtain ⟨zs, rfl, pz⟩ := perm_map pm
    have lz : zs.length = 3 := pz.length_eq
    have nz : zs.Nodup := pz.nodup_iff.mpr (by decide +kernel)
    have mz : ∀ z ∈ zs, z ∈ abc := fun z m => pz.mem_iff.mp m
    match zs, lz with
    | [z1, z2, z3], _ =>
    refine ⟨_, rfl, p, _, rfl, SqL.of (rm_same _ _ hp7), fun p2 hp2 => ?_⟩
    have n12 : z1 ≠ z2 := fun e => (List.nodup_cons.mp nz).1 (by rw [e]; exact List.mem_cons_self)
    have m1 := mz z1 List.mem_cons_self
    have m2 := mz z2 (List.mem_cons_of_mem _ List.mem_cons_self)
    have ec : cutV ([z1, z2, z3].map V.str) none (some 2) = [.str z1, .str z2] := cut_take (n := 2) _ (show 2 ≤ 3 by decide)
    rw [ec]
    rw [ec] at *
    have np2 := d7.new hp2
    have d8 : DnAt 0 (upd H7 p2 (.lst [.str z1, .str z2])) a := (show DnAt 0 H7 a from d7).set np2
    have s8 : Same (rm H7 a) (rm (upd H7 p2 (.lst [.str z1, .str z2])) a) := same_set (Same.refl _) (by rw [rm_ne np2]; exact hp2)
    have e8 : (rm (upd H7 p2 (.lst [.str z1, .str z2])) a) p2 = some (.lst [.str z1, .str z2]) := by rw [rm_ne np2, upd_same]
    generalize upd H7 p2 (.lst [.str z1, .str z2]) = H8 at d8 s8 e8 ⊢
    have s58 := s6.trans (s7.trans s8)
    try dsimp only
    refine ⟨_, rfl, .inl ⟨rfl, _, SqL.of (rm_same _ _ (s58 _ _ e5))⟩, _, rfl, p2, _, 0, _, rfl, rfl, SqL.of (rm_same _ _ e8), rfl, _, rfl, lineN (n := 3), fun lt hlt => ?_⟩
    have nlt := d8.new hlt
    have d9 : DnAt 0 (upd H8 lt (.lst [.str "coin", .str "coin", .str "x"])) a := d8.set nlt
    have s9 : Same (rm H8 a) (rm (upd H8 lt (.lst [.str "coin", .str "coin", .str "x"])) a) := same_set (Same.refl _) (by rw [rm_ne nlt]; exact hlt)
    have e9 : (upd H8 lt (.lst [.str "coin", .str "coin", .str "x"])) lt = some (.lst ((["coin", "coin", "x"] : List Str).map V.str)) := upd_same
    generalize upd H8 lt _ = H9 at d9 s9 e9 ⊢
    refine ⟨a, lt, _, 0, rfl, d9, by decide, nlt, .inl (SqL.of e9), by decide, by decide, fun k2 v2 o2 hv2 ho2 => ?_⟩
    rw [List.getElem?_map] at hv2
    obtain ⟨th, hth, rfl⟩ := Option.map_eq_some_iff.mp hv2
    have mth := List.mem_of_getElem? hth
    have d10 : DnAt 0 (upd H9 a o2) a := DnAt.put ho2
    have s10 : Same (rm H9 a) (rm (upd H9 a o2) a) := rm_put
    generalize upd H9 a o2 = H10 at d10 s10 ⊢
    refine ⟨_, rfl, a, 3, 0, rfl, d10, by decide, by decide, by decide, fun r o3 r0 r1 ho3 => ?_⟩
    have d11 : DnAt 0 (upd H10 a o3) a := DnAt.put ho3
    have s11 : Same (rm H10 a) (rm (upd H10 a o3) a) := rm_put
    generalize upd H10 a o3 = H11 at d11 s11 ⊢
    have s8b := s9.trans (s10.trans s11)
    refine ⟨_, _, rfl, rfl, _, rfl, p2, _, 1, _, rfl, rfl, SqL.of (rm_same _ _ (s8b _ _ e8)), rfl, lineN (n := 4), fun t ht => ?_⟩
    have nt := d11.new ht
    have mt : (rm H11 a) t = none := by rw [rm_ne nt]; exact ht
    have s12 : Same (rm H11 a) (rm (upd H11 t (.tup [.str z1, .str th, .int (1 + r), .str z2])) a) := same_set (Same.refl _) mt
    have d12 : DnAt 0 (upd H11 t (.tup [.str z1, .str th, .int (1 + r), .str z2])) a := d11.set nt
    have t12 : (rm (upd H11 t (.tup [.str z1, .str th, .int (1 + r), .str z2])) a) t = some (.tup (legVs (z1, th, 1 + r, z2))) := by rw [rm_ne nt, upd_same]; rfl
    delta tNil
    dsimp only
    generalize upd H11 t _ = H12 at s12 d12 t12 ⊢
    have sA := s58.trans (s8b.trans s12)
    have e12 := sA _ _ e5
    have e12' := rm_same _ _ e12
    have lws : ws.length = gs.length := by rw [i5.len, List.length_map]
    have jc : j < c := by
      have : ((c : Nat) : Int).toNat = c := Int.toNat_natCast c
      omega
    have sq : Tups (rm H12 a) (rm (upd H12 g0 (.lst (ws ++ [.ref t]))) a) := fun b xs e => by
      have nb := rm_dif e
      rw [rm_ne nb] at e ⊢
      rw [upd_ne (ne_of e e12' (by intro z; cases z))]
      exact e
    have okn : ∀ s ∈ abc ++ (["coin", "coin", "x"] : List Str), s.length ≤ 1000 := by decide +kernel
    refine ⟨g0, ws, .ref t, rfl, rfl, e12', sz (m := 60) (by omega), ⟨_, _, ws ++ [.ref t], gs ++ [(z1, th, 1 + r, z2)], rfl, d12.set ng, same_set (s5.trans sA) mg, by rw [rm_ne ng, upd_same], ?_, by rw [List.length_append, l5]; rfl, fun g m => ?_⟩⟩
    · rw [List.map_append]
      refine isA_snoc (.tup (sq _ _ t12) (.cons (.str _ (okn _ (List.mem_append_left _ m1))) (.cons (.str _ (okn _ (List.mem_append_right _ mth))) (.cons (.int _) (.cons (.str _ (okn _ (List.mem_append_left _ m2))) .nil)))) (show 4 ≤ 60 by decide)) (isA_tups sq (i5.mono sA) (tupDs_of fun d m => by
        obtain ⟨g, _, rfl⟩ := List.mem_map.mp m
        rfl))
    · rcases List.mem_append.mp m with m | m
      · exact g5 g m
      · rw [List.mem_singleton.mp m]
        exact ⟨m1, m2, n12, mth, by show 1 ≤ 1 + r; omega, by show 1 + r ≤ 3; omega⟩
  · rintro σ H5 ⟨v5', v6', ws, gs, rfl, d5, s5, e5, i5, l5, g5⟩
    try dsimp only
    have e5' := rm_same _ _ e5
    have l5' : gs.length = c := by rw [l5]; exact Int.toNat_natCast c
    have lws : ws.length = gs.length := by rw [i5.len, List.length_map]
    have f5 := s5 _ _ f1
    have f5' := rm_same _ _ f5
    refine ⟨_, rfl, .inl ⟨rfl, _, SqL.of f5'⟩, _, rfl, g0, ws, rfl, .inl ⟨SqL.of e5', fun t ht => ?_⟩⟩
    delta tNil
    dsimp only
    have nt := d5.new ht
    have mt : (rm H5 a) t = none := by rw [rm_ne nt]; exact ht
    have s6 : Same (rm H5 a) (rm (upd H5 t (.tup ws)) a) := same_set (Same.refl _) mt
    have d6 : DnAt 0 (upd H5 t (.tup ws)) a := d5.set nt
    have t6 : (rm (upd H5 t (.tup ws)) a) t = some (.tup ws) := by rw [rm_ne nt, upd_same]
    generalize upd H5 t (.tup ws) = H6 at s6 d6 t6 ⊢
    have f6 := s6 _ _ f5
    have lus : us.length = its.length := by rw [i1.len, List.length_map]
    have ii : i < n := by
      have : ((n : Nat) : Int).toNat = n := Int.toNat_natCast n
      omega
    refine ⟨f, us, .ref t, rfl, rfl, rm_same _ _ f6, sz (m := 60) (by omega), ?_⟩
    have f6' := rm_same _ _ f6
    have sq : Tups (rm H6 a) (rm (upd H6 f (.lst (us ++ [.ref t]))) a) := fun b xs e => by
      have nb := rm_dif e
      rw [rm_ne nb] at e ⊢
      rw [upd_ne (ne_of e f6' (by intro z; cases z))]
      exact e
    refine ⟨_, _, _, _, us ++ [.ref t], its ++ [gs], rfl, d6.set nf, ?_, by rw [rm_ne nf, upd_same], ?_, by rw [List.length_append, l1]; rfl, fun it m => ?_⟩
    · exact same_set (s1.trans (s5.trans s6)) mf
    · rw [List.map_append]
      refine isA_snoc (.tup (sq _ _ t6) (isA_tups sq (i5.mono s6) ?_) (by omega)) (isA_tups sq (i1.mono (s5.trans s6)) (its_tup its))
      exact tupDs_of fun d m => by
        obtain ⟨g, _, rfl⟩ := List.mem_map.mp m
        rfl
    · rcases List.mem_append.mp m with m | m
      · exact g1 it m
      · rw [List.mem_singleton.mp m]
        exact ⟨by omega, g5⟩
end
end K34

set_option Elab.async false
set_option linter.all false
set_option maxRecDepth 100000
set_option maxHeartbeats 4000000
namespace K34
open PySem PySem.Spec PyProof.Rows L2 Sr
/-! ### drawn holdings -/
def coinx : List Str := ["coin", "x"]
def drawnR (r : Rw) : Prop := (r.map (·.1)).Nodup ∧ r.length ≤ 2 ∧ ∀ p ∈ r, p.1 ∈ coinx ∧ 0 ≤ p.2
def drawnH (hs : Hs) : Prop := (hs.map (·.1)).Nodup ∧ hs.length ≤ 3 ∧ ∀ p ∈ hs, p.1 ∈ abc ∧ drawnR p.2
theorem merge_nodup : ∀ {more acc : List (Key × V)}, ((acc ++ more).map (·.1)).Nodup → mergeK acc more = acc ++ more
  | [], acc, _ => by rw [List.append_nil]; rfl
  | p :: r, acc, h => by
    have nm : p.1 ∉ acc.map (·.1) := fun m => by
      rw [List.map_append, List.map_cons] at h
      exact (List.nodup_append.mp h).2.2 _ m _ List.mem_cons_self rfl
    have h2 : ((acc ++ [p] ++ r).map (·.1)).Nodup := by simpa using h
    have ih := merge_nodup h2
    show mergeK (L2.putK acc p.1 p.2) r = _
    rw [Sr.putK_new nm]
    rw [ih, List.append_assoc]
    rfl
theorem merge_nd {kvs : List (Key × V)} (h : (kvs.map (·.1)).Nodup) : mergeK [] kvs = kvs := by
  rw [merge_nodup]
  · rfl
  · rw [List.nil_append]
    exact h
theorem pairs_int2 {K : PySem.W.Frag} {H : Hp} : ∀ {acc : List V} {r : Rw}, Paired (fun v (q : Str × Int) => ∃ t, v = V.ref t ∧ H t = some (.tup [.str q.1, .int q.2])) acc r → ∃ (ts : List Addr) (kvs : List (Key × V)), acc = ts.map V.ref ∧ Paired (fun p kv => SqT K H p [kV kv.1, kv.2]) ts kvs ∧ CoinsC kvs r
  | _, _, .nil => ⟨[], [], rfl, .nil, .nil⟩
  | _, _, .cons (b := q) h r => by
    obtain ⟨ts, kvs, e1, e2, e3⟩ := pairs_int2 (K := K) r
    obtain ⟨t, h1, h2⟩ := h
    exact ⟨t :: ts, (Sum.inr q.1, .int q.2) :: kvs, by rw [h1, e1]; rfl, .cons (SqT.of h2) e2, .cons ⟨rfl, rfl⟩ e3⟩
theorem pair_mono {H H' : Hp} (s : ∀ b xs, H b = some (.tup xs) → H' b = some (.tup xs)) {acc : List V} {r : Rw} (h : Paired (fun v (q : Str × Int) => ∃ t, v = V.ref t ∧ H t = some (.tup [.str q.1, .int q.2])) acc r) : Paired (fun v (q : Str × Int) => ∃ t, v = V.ref t ∧ H' t = some (.tup [.str q.1, .int q.2])) acc r :=
  L2.Paired.mapP h fun _ _ ⟨t, e, x⟩ => ⟨t, e, s _ _ x⟩
theorem take_nd {zs : List Str} (nd : zs.Nodup) {i : Nat} {y : Str} (h : zs[i]? = some y) : y ∉ zs.take i := fun m => by
  obtain ⟨b, hb, eb⟩ := List.mem_take_iff_getElem.mp m
  have hi' : i < zs.length := (List.getElem?_eq_some_iff.mp h).1
  have e4 : zs[i] = y := (List.getElem?_eq_some_iff.mp h).2
  exact (List.pairwise_iff_getElem.mp nd) b i (by omega) hi' (by omega) (eb.trans e4.symm)
def spSomeH : Sp := fun vs H Q _ => ∃ (a : Addr), vs = [.ref a] ∧ DnAt 0 H a ∧
  ∀ (p : Addr) (H' : Hp) (kv : List (Key × V)) (hs : Hs), DnAt 0 H' a → Same (rm H a) (rm H' a) → (rm H a) p = none → (rm H' a) p = some (.dK kv) → HldR (rm H' a) kv hs → drawnH hs → Q (.ref p) H'
section
variable {P : Program} {w : World} {K : PySem.W.Frag} {mg : Str → Option Value} {base : Heap}
abbrev s__law_some_holdings : Stmt := top 41
theorem sc__law_some_holdings : FnScope ["draws", "found", "member", "row", "thing"] ["draws"] (defScope s__law_some_holdings) := ⟨rfl, rfl, rfl, by decide +kernel, rfl, by decide +kernel, by decide +kernel⟩
theorem c__law_some_holdings (T : Txt K mg) (D : Dfn K mg "_law_some_holdings" s__law_some_holdings) (C_law_draw : Cal P w K mg base 1 "_law_draw" ["draws", "many"] spDraw) (C_law_pick : Cal P w K mg base 2 "_law_pick" ["draws", "things"] (spPick K)) (C_law_mixed : Cal P w K mg base 2 "_law_mixed" ["draws", "things"] spMix) : Cal P w K mg base 3 "_law_some_holdings" ["draws"] spSomeH := by
  refine D.cal sc__law_some_holdings (fun _ _ _ _ _ _ us hl => match us, hl with | [_], _ => rfl) (fun vs H Q E h => ?_) fun cdv A outer s H vs Q E hr h => ?_
  · obtain ⟨a, rfl, _⟩ := h
    rfl
  obtain ⟨a, rfl, hd, q⟩ := h
  refine ⟨_, (pss_cons (ps_set (i := 1) sc__law_some_holdings.nd rfl (by first | exact Or.inl rfl | exact Or.inr rfl) pe_dnewK)
      (pss_cons (ps_for PassesOwn.never rfl (pi_list (pe_cal C_law_mixed hr (by first | decide | omega) (by rfl) (pa_cons (pv 0) (pa_cons (pe_lst (pa_cons pe_str (pa_cons pe_str (pa_cons pe_str pa_nil)))) pa_nil)))) (pg_name (i := 2) sc__law_some_holdings.nd rfl (by first | exact Or.inl rfl | exact Or.inr rfl))
      (pss_cons (ps_set (i := 3) sc__law_some_holdings.nd rfl (by first | exact Or.inl rfl | exact Or.inr rfl) (pe_callTy (T := "dict") (call_dictP rfl) (by rfl) T.dict (by decide +kernel) (pa_cons (pe_lc (own := [("thing", 4)]) (g := gName 4) rfl sc__law_some_holdings.nd (pi_tup (pe_tup (pa_cons pe_str (pa_cons pe_str pa_nil)))) (blkOk_by (N := ["draws", "found", "member", "row", "thing"]) (sc := defScope s__law_some_holdings) (by decide +kernel)) (fun _ _ _ _ _ => (pg_name (i := 4) sc__law_some_holdings.nd rfl (by first | exact Or.inl rfl | exact Or.inr rfl))) (fun _ _ _ _ _ => (pts_one (pt_cmpR op_gt (pe_cal C_law_draw hr (by first | decide | omega) (by rfl) (pa_cons (pv 0) (pa_cons pe_int pa_nil))) pe_int (nomark _)))) (fun _ _ _ _ _ => (pe_tup (pa_cons (pv 4) (pa_cons (pe_cal C_law_pick hr (by first | decide | omega) (by rfl) (pa_cons (pv 0) (pa_cons (pe_lst (pa_cons pe_int (pa_cons pe_int (pa_cons pe_int (pa_cons pe_int (pa_cons pe_int pa_nil)))))) pa_nil))) pa_nil))))) pa_nil)))
      (pss_one (ps_if (PW.pt (pw_or (pt_cmpR (op_neDc hr.units) (pv 3) pe_dnewK (nomark _)) (pw_or1 (pt_cmpR op_eq (pe_cal C_law_draw hr (by first | decide | omega) (by rfl) (pa_cons (pv 0) (pa_cons pe_int pa_nil))) pe_int (nomark _))))) (pss_one (ps_dput (hu_of hr) (pv 1) (pv 2) (pv 3) rfl)) pss_nil))))
      (pss_one (ps_ret (pv 1))))), ?_⟩
  refine fun p hp => ?_
  have np := hd.new hp
  have mp : (rm H a) p = none := by rw [rm_ne np]; exact hp
  try dsimp only
  have d1 : DnAt 0 (upd H p (.dK [])) a := hd.set np
  have s1 : Same (rm H a) (rm (upd H p (.dK [])) a) := same_set (Same.refl _) mp
  have e1 : (rm (upd H p (.dK [])) a) p = some (.dK []) := by rw [rm_ne np, upd_same]
  generalize upd H p (.dK []) = H1 at d1 s1 e1 ⊢
  refine ⟨_, rfl, lineN (n := 3), fun lo hlo => ?_⟩
  have nlo := d1.new hlo
  have d2 : DnAt 0 (upd H1 lo (.lst [.str "a", .str "b", .str "c"])) a := d1.set nlo
  have s2 : Same (rm H1 a) (rm (upd H1 lo (.lst [.str "a", .str "b", .str "c"])) a) := same_set (Same.refl _) (by rw [rm_ne nlo]; exact hlo)
  have e2 : (rm (upd H1 lo (.lst [.str "a", .str "b", .str "c"])) a) lo = some (.lst (abc.map V.str)) := by rw [rm_ne nlo, upd_same]; rfl
  generalize upd H1 lo _ = H2 at d2 s2 e2 ⊢
  refine ⟨a, lo, abc.map V.str, 0, rfl, d2, by decide, e2, by decide, fun k H3 ys d3 s3 k0 hk3 pm => ?_⟩
  obtain ⟨zs, rfl, pz⟩ := perm_map pm
  have lz : zs.length = 3 := pz.length_eq
  have nz : zs.Nodup := pz.nodup_iff.mpr (by decide +kernel)
  have mz : ∀ z ∈ zs, z ∈ abc := fun z m => pz.mem_iff.mp m
  have d3 : DnAt 0 H3 a := d3
  have s13 := s1.trans (s2.trans s3)
  have e3 := s3 _ _ (s2 _ _ e1)
  have nkp : k ≠ p := fun z => by rw [z, e3] at hk3; cases hk3
  have nka := rm_dif hk3
  refine ⟨k, rfl, ⟨_, SqL.of (rm_same _ _ hk3)⟩, for_it walk_list (fun i σ H' => (∃ v2 v3 v4, σ = [some (.ref a), some (.ref p), v2, v3, v4]) ∧ DnAt 0 H' a ∧ Same (rm H a) (rm H' a) ∧ (rm H' a) k = some (.lst (zs.map V.str)) ∧ ∃ tk hs, (rm H' a) p = some (.dK tk) ∧ (hs.map (·.1)).Sublist (zs.take i) ∧ (∀ q ∈ hs, drawnR q.2) ∧ TkR (rm H a) p (rm H' a) tk hs) ⟨⟨_, _, _, rfl⟩, d3, s13, hk3, [], [], e3, List.nil_sublist _, fun q m => (by cases m), .nil⟩ (fun i σ H' _ pp => SqL.of (rm_same _ _ pp.2.2.2.1)) ?_ ?_⟩
  rotate_left
  · rintro σ H4 ⟨⟨v2, v3, v4, rfl⟩, d4, s4, hk4, tk, hs, hp4, sub, gr, tr⟩
    rw [List.length_map, List.take_length] at sub
    try dsimp only
    refine ⟨_, rfl, q p H4 tk hs d4 s4 mp hp4 (tr.new.mono new_same) ⟨sub.nodup nz, ?_, fun r m => ⟨mz _ (sub.subset (List.mem_map.mpr ⟨r, m, rfl⟩)), gr r m⟩⟩⟩
    have := sub.length_le
    rw [List.length_map] at this
    omega
  rintro i u σ H4 H5 hi ⟨⟨v2, v3, v4, rfl⟩, d4, s4, hk4, tk, hs, hp4, sub, gr, tr⟩ ⟨rfl, hu⟩
  rw [List.length_map] at hi
  rw [List.getElem?_map] at hu
  obtain ⟨y, hy, rfl⟩ := Option.map_eq_some_iff.mp hu
  dsimp only [gName]
  refine ⟨two_line, fun tc htc => ?_⟩
  have ntc := d4.new htc
  have d5 : DnAt 0 (upd H5 tc (.tup [.str "coin", .str "x"])) a := d4.set ntc
  have mtc : (rm H5 a) tc = none := by rw [rm_ne ntc]; exact htc
  have s5 : Same (rm H5 a) (rm (upd H5 tc (.tup [.str "coin", .str "x"])) a) := same_set (Same.refl _) mtc
  have e5 : (rm (upd H5 tc (.tup [.str "coin", .str "x"])) a) tc = some (.tup (coinx.map V.str)) := by rw [rm_ne ntc, upd_same]; rfl
  generalize upd H5 tc _ = H6 at d5 s5 e5 ⊢
  refine ⟨tc, rfl, ⟨_, SqT.of (rm_same _ _ e5)⟩, fun B hB => ?_⟩
  have nB := d5.new hB
  have mB : (rm H6 a) B = none := by rw [rm_ne nB]; exact hB
  refine lc_it (walk_tup (xs := coinx.map V.str)) (fun j H' => DnAt 0 H' a ∧ Same (rm H6 a) (rm H' a) ∧ ∃ acc r, (rm H' a) B = some (.lst acc) ∧ Paired (fun v (q : Str × Int) => ∃ t, v = V.ref t ∧ (rm H' a) t = some (.tup [.str q.1, .int q.2])) acc r ∧ (r.map (·.1)).Sublist (coinx.take j) ∧ ∀ q ∈ r, 0 ≤ q.2) ⟨d5.set nB, same_set (Same.refl _) mB, [], [], by rw [rm_ne nB, upd_same], .nil, List.nil_sublist _, fun q m => (by cases m)⟩ (fun j H' _ pp => SqT.of (rm_same _ _ (pp.2.1 _ _ e5))) ?_ ?_
  · rintro j u H7 H8 hj ⟨d7, s7, acc, r, hB7, pr, subr, pos⟩ ⟨rfl, hu⟩
    obtain ⟨z, hz, rfl⟩ := Option.map_eq_some_iff.mp (by rw [List.getElem?_map] at hu; exact hu)
    have lc : coinx.length = 2 := rfl
    have lr := subr.length_le
    rw [List.length_map, List.length_take] at lr
    refine ⟨rfl, _, rfl, a, 3, 0, rfl, d7, by decide, by decide, by decide, fun rd o r1 r2 ho => ?_⟩
    have d8 : DnAt 0 (upd H8 a o) a := DnAt.put (n := 0) ho
    have s8 : Same (rm H8 a) (rm (upd H8 a o) a) := rm_put
    generalize upd H8 a o = H9 at d8 s8 ⊢
    have pr9 := pair_mono (fun b xs e => s8 _ _ e) pr
    have hB9 := s8 _ _ hB7
    refine ⟨_, _, rfl, rfl, _, rfl, ?_⟩
    have et : coinx.take (j + 1) = coinx.take j ++ [z] := by rw [List.take_add_one, hz]; rfl
    by_cases c : 0 < rd
    · rw [decide_eq_true c]
      refine iteT ⟨_, rfl, _, rfl, lineN (n := 5), fun lo hlo => ?_⟩
      have nlo := d8.new hlo
      have d10 : DnAt 0 (upd H9 lo (.lst [.int 0, .int 0, .int 1, .int 2, .int 3])) a := d8.set nlo
      have s10 : Same (rm H9 a) (rm (upd H9 lo (.lst [.int 0, .int 0, .int 1, .int 2, .int 3])) a) := same_set (Same.refl _) (by rw [rm_ne nlo]; exact hlo)
      have e10 : (upd H9 lo (.lst [.int 0, .int 0, .int 1, .int 2, .int 3])) lo = some (.lst [.int 0, .int 0, .int 1, .int 2, .int 3]) := upd_same
      generalize upd H9 lo _ = H10 at d10 s10 e10 ⊢
      refine ⟨a, lo, _, 0, rfl, d10, by decide, nlo, .inl (SqL.of e10), by show 1 ≤ 5; decide, by show 5 < 1073741824; decide, fun k2 v o hv ho => ?_⟩
      obtain ⟨n, rfl, hn⟩ : ∃ n : Int, v = .int n ∧ 0 ≤ n := by
        have m := List.mem_of_getElem? hv
        simp only [List.mem_cons, List.not_mem_nil, or_false] at m
        rcases m with rfl | rfl | rfl | rfl | rfl
        · exact ⟨0, rfl, by decide⟩
        · exact ⟨0, rfl, by decide⟩
        · exact ⟨1, rfl, by decide⟩
        · exact ⟨2, rfl, by decide⟩
        · exact ⟨3, rfl, by decide⟩
      have d11 : DnAt 0 (upd H10 a o) a := DnAt.put (n := 0) ho
      have s11 : Same (rm H9 a) (rm (upd H10 a o) a) := s10.trans rm_put
      generalize upd H10 a o = H11 at d11 s11 ⊢
      delta tNil
      dsimp only
      refine ⟨two_line, fun t ht => ?_⟩
      have nt := d11.new ht
      have d12 : DnAt 0 (upd H11 t (.tup [.str z, .int n])) a := d11.set nt
      have s12 : Same (rm H9 a) (rm (upd H11 t (.tup [.str z, .int n])) a) := same_set s11 (free_below s11 (by rw [rm_ne nt]; exact ht))
      have e12 : (rm (upd H11 t (.tup [.str z, .int n])) a) t = some (.tup [.str z, .int n]) := by rw [rm_ne nt, upd_same]
      generalize upd H11 t _ = H12 at d12 s12 e12 ⊢
      have hB12 := s12 _ _ hB9
      have sq : ∀ b xs, (rm H12 a) b = some (.tup xs) → (rm (upd H12 B (.lst (acc ++ [.ref t]))) a) b = some (.tup xs) := fun b xs e => by
        have nb := rm_dif e
        rw [rm_ne nb] at e ⊢
        rw [upd_ne (ne_of e (rm_same _ _ hB12) (by intro z; cases z))]
        exact e
      have lacc : acc.length = r.length := Paired.length pr
      refine ⟨acc, rm_same _ _ hB12, sz (m := 60) (by omega), d12.set nB, ?_, acc ++ [.ref t], r ++ [(z, n)], by rw [rm_ne nB, upd_same], ?_, ?_, ?_⟩
      · exact same_set (s7.trans (s8.trans s12)) mB
      · exact Sr.Paired.snoc (a := V.ref t) (b := (z, n)) (F := fun v (q : Str × Int) => ∃ t', v = V.ref t' ∧ (rm (upd H12 B (.lst (acc ++ [.ref t]))) a) t' = some (.tup [.str q.1, .int q.2])) ⟨t, rfl, sq _ _ e12⟩ (pair_mono (fun b xs e => sq _ _ (s12 _ _ e)) pr9)
      · rw [et, List.map_append]
        exact subr.append (List.Sublist.refl _)
      · intro q m
        rcases List.mem_append.mp m with m | m
        · exact pos q m
        · rw [List.mem_singleton.mp m]
          exact hn
    · rw [decide_eq_false c]
      refine iteF ⟨d8, s7.trans s8, acc, r, hB9, pr9, ?_, pos⟩
      rw [et]
      exact List.sublist_append_of_sublist_left subr
  · rintro H7 ⟨d7, s7, acc, r, hB7, pr, subr, pos⟩
    obtain ⟨ts, kvs, rfl, pp, ccD⟩ := pairs_int2 (K := K) pr
    have subr : (r.map (·.1)).Sublist coinx := subr
    have ndr : (r.map (·.1)).Nodup := subr.nodup (by decide +kernel)
    have ndk : (kvs.map (·.1)).Nodup := keys_nd (F := fun v i => v = V.int i) ccD ndr
    have lr := subr.length_le
    rw [List.length_map] at lr
    have lc : coinx.length = 2 := rfl
    delta tNil
    dsimp only
    refine ⟨B, ts, kvs, rfl, SqL.of (rm_same _ _ hB7), L2.Paired.mapP pp fun _ _ h => sqt_mono rm_same h, fun D hD => ?_⟩
    rw [merge_nd ndk]
    have nD := d7.new hD
    have d13 : DnAt 0 (upd H7 D (.dK kvs)) a := d7.set nD
    have mD : (rm H7 a) D = none := by rw [rm_ne nD]; exact hD
    have s13' : Same (rm H7 a) (rm (upd H7 D (.dK kvs)) a) := same_set (Same.refl _) mD
    have e13 : (rm (upd H7 D (.dK kvs)) a) D = some (.dK kvs) := by rw [rm_ne nD, upd_same]
    generalize upd H7 D (.dK kvs) = H13 at d13 s13' e13 ⊢
    have s46 := s5.trans s7
    have s413 := s46.trans s13'
    have hp13 := s413 _ _ hp4
    have nDp : D ≠ p := fun z => by rw [z, s46 _ _ hp4] at mD; cases mD
    have hD0 : (rm H a) D = none := free_below (s4.trans s46) mD
    have ntk : tk.length ≤ 3 := by
      have := sub.length_le
      rw [List.length_map, List.length_take] at this
      rw [Paired.length tr]
      omega
    have et : zs.take (i + 1) = zs.take i ++ [y] := by rw [List.take_add_one, hy]; rfl
    have dr : drawnR r := ⟨ndr, by omega, fun q m => ⟨subr.subset (List.mem_map.mpr ⟨q, m, rfl⟩), pos q m⟩⟩
    try dsimp only
    refine ⟨_, rfl, fun q1 hq1 => ⟨D, q1, kvs, [], rowP r, [], rfl, rfl, Same.up hq1 _ _ (rm_same _ _ e13), upd_same, dcd_row ccD, .nil, _, rfl, ?_⟩⟩
    have nq1 := d13.new hq1
    have d14 : DnAt 0 (upd H13 q1 (.dK [])) a := d13.set nq1
    have s14 : Same (rm H13 a) (rm (upd H13 q1 (.dK [])) a) := same_set (Same.refl _) (by rw [rm_ne nq1]; exact hq1)
    generalize upd H13 q1 (.dK []) = H14 at d14 s14 ⊢
    have ee : (!eqvK (rowP r) []) = !r.isEmpty := by cases r <;> rfl
    rw [ee]
    have ny : (Sum.inr y : Key) ∉ tk.map (·.1) := by
      have hk : tk.map (·.1) = hs.map fun q => (Sum.inr q.1 : Key) := tk_keys tr
      rw [hk]
      intro m
      obtain ⟨q, mq, e⟩ := List.mem_map.mp m
      have e2 : q.1 = y := Sum.inr.inj e
      exact take_nd nz hy (sub.subset (List.mem_map.mpr ⟨q, mq, e2⟩))
    have fin : ∀ {G : Hp}, DnAt 0 G a → Same (rm H14 a) (rm G a) → DnAt 0 (upd G p (.dK (putK tk (Sum.inr y) (.ref D)))) a ∧ Same (rm H a) (rm (upd G p (.dK (putK tk (Sum.inr y) (.ref D)))) a) ∧ (rm (upd G p (.dK (putK tk (Sum.inr y) (.ref D)))) a) k = some (.lst (zs.map V.str)) ∧ ∃ tk' hs', (rm (upd G p (.dK (putK tk (Sum.inr y) (.ref D)))) a) p = some (.dK tk') ∧ (hs'.map (·.1)).Sublist (zs.take (i + 1)) ∧ (∀ q ∈ hs', drawnR q.2) ∧ TkR (rm H a) p (rm (upd G p (.dK (putK tk (Sum.inr y) (.ref D)))) a) tk' hs' := fun {G} dG sG => by
      have s4G := s413.trans (s14.trans sG)
      refine ⟨dG.set np, same_set (s4.trans s4G) mp, ?_, tk ++ [(Sum.inr y, .ref D)], hs ++ [(y, r)], ?_, ?_, ?_, ?_⟩
      · rw [rm_set np, upd_ne nkp]
        exact s4G _ _ hk4
      · rw [rm_ne np, upd_same, Sr.putK_new ny]
      · rw [et, List.map_append]
        exact sub.append (List.Sublist.refl _)
      · intro q m
        rcases List.mem_append.mp m with m | m
        · exact gr q m
        · rw [List.mem_singleton.mp m]
          exact dr
      · rw [rm_set np]
        exact (tr.mono s4G).put.snoc nDp hD0 (by rw [upd_ne nDp]; exact sG _ _ (s14 _ _ e13)) ccD
    have skip : ∀ {G : Hp}, DnAt 0 G a → Same (rm H14 a) (rm G a) → DnAt 0 G a ∧ Same (rm H a) (rm G a) ∧ (rm G a) k = some (.lst (zs.map V.str)) ∧ ∃ tk' hs', (rm G a) p = some (.dK tk') ∧ (hs'.map (·.1)).Sublist (zs.take (i + 1)) ∧ (∀ q ∈ hs', drawnR q.2) ∧ TkR (rm H a) p (rm G a) tk' hs' := fun {G} dG sG => by
      have s4G := s413.trans (s14.trans sG)
      refine ⟨dG, s4.trans s4G, s4G _ _ hk4, tk, hs, s4G _ _ hp4, ?_, gr, tr.mono s4G⟩
      rw [et]
      exact List.sublist_append_of_sublist_left sub
    have cut1 : (rm H14 a) p = some (.dK tk) := s14 _ _ hp13
    cases em : r.isEmpty with
    | true =>
      refine iteF ⟨_, rfl, a, 2, 0, rfl, d14, by decide, by decide, by decide, fun rd o r1 r2 ho => ?_⟩
      have d15 : DnAt 0 (upd H14 a o) a := DnAt.put (n := 0) ho
      have s15 : Same (rm H14 a) (rm (upd H14 a o) a) := rm_put
      generalize upd H14 a o = H15 at d15 s15 ⊢
      refine ⟨rfl, _, rfl, ?_⟩
      by_cases c : V.int rd = V.int 0
      · rw [decide_eq_true c]
        exact iteT ⟨_, rfl, _, rfl, _, rfl, p, _, rfl, .inl ⟨tk, Sum.inr y, rm_same _ _ (s15 _ _ cut1), rfl, sz (m := 60) (by omega) (by decide), rfl⟩, ⟨_, _, _, rfl⟩, fin d15 s15⟩
      · rw [decide_eq_false c]
        exact iteF ⟨⟨_, _, _, rfl⟩, skip d15 s15⟩
    | false =>
      exact iteT ⟨_, rfl, _, rfl, _, rfl, p, _, rfl, .inl ⟨tk, Sum.inr y, rm_same _ _ cut1, rfl, sz (m := 60) (by omega) (by decide), rfl⟩, ⟨_, _, _, rfl⟩, fin d14 (Same.refl _)⟩
end
end K34

set_option Elab.async false
set_option linter.all false
set_option maxRecDepth 100000
set_option maxHeartbeats 4000000
namespace K34
open PySem PySem.Spec PyProof.Rows L2 Sr
/-! ### what is told of holdings, by the amounts alone -/
def amt (hs : Hs) (y t : Str) : Int := gC (gR hs y) t
def NR (r : Rw) : Prop := (r.map (·.1)).Nodup ∧ (r.map (·.1)).Pairwise leS ∧ ∀ p ∈ r, 0 < p.2
def NF (hs : Hs) : Prop := (hs.map (·.1)).Nodup ∧ (hs.map (·.1)).Pairwise leS ∧ ∀ p ∈ hs, NR p.2 ∧ p.2.isEmpty = false
theorem look_some {α : Type} {n : Str} : ∀ {l : List (Str × α)}, n ∈ l.map (·.1) → ∃ a, l.lookup n = some a ∧ (n, a) ∈ l
  | p :: r, m => by
    rw [List.lookup_cons]
    by_cases e : n = p.1
    · rw [e, beq_self_eq_true]
      exact ⟨p.2, rfl, List.mem_cons_self⟩
    · rw [beq_false_of_ne e]
      obtain ⟨a, h1, h2⟩ := look_some ((List.mem_cons.mp m).resolve_left e)
      exact ⟨a, h1, List.mem_cons_of_mem _ h2⟩
theorem look_none {α : Type} {n : Str} : ∀ {l : List (Str × α)}, n ∉ l.map (·.1) → l.lookup n = none
  | [], _ => rfl
  | p :: r, m => by
    rw [List.lookup_cons, beq_false_of_ne fun e => m (by rw [e]; exact List.mem_cons_self)]
    exact look_none fun h => m (List.mem_cons_of_mem _ h)
theorem gC_mem {r : Rw} {t : Str} (m : t ∈ r.map (·.1)) : (t, gC r t) ∈ r := by
  obtain ⟨a, h1, h2⟩ := look_some m
  unfold gC
  rw [h1]
  exact h2
theorem gC_no {r : Rw} {t : Str} (m : t ∉ r.map (·.1)) : gC r t = 0 := by
  unfold gC
  rw [look_none m]
  rfl
theorem gR_mem {h : Hs} {t : Str} (m : t ∈ h.map (·.1)) : (t, gR h t) ∈ h := by
  obtain ⟨a, h1, h2⟩ := look_some m
  unfold gR
  rw [h1]
  exact h2
theorem gR_no {h : Hs} {t : Str} (m : t ∉ h.map (·.1)) : gR h t = [] := by
  unfold gR
  rw [look_none m]
  rfl
theorem NR.mem {r : Rw} (h : NR r) {t : Str} : t ∈ r.map (·.1) ↔ 0 < gC r t := by
  constructor
  · intro m
    exact h.2.2 _ (gC_mem m)
  · intro p
    by_cases m : t ∈ r.map (·.1)
    · exact m
    · rw [gC_no m] at p
      exact absurd p (by omega)
theorem rw_again {r : Rw} (nd : (r.map (·.1)).Nodup) : (r.map (·.1)).map (fun s => (s, gC r s)) = r := by
  rw [List.map_map]
  have : ∀ p ∈ r, ((fun s => (s, gC r s)) ∘ fun (p : Str × Int) => p.1) p = p := fun p m => by
    show (p.1, gC r p.1) = p
    unfold gC
    rw [mem_look nd (show (p.1, p.2) ∈ r from m)]
    rfl
  rw [List.map_congr_left this]
  exact List.map_id _
theorem names_one {xs ys : List Str} (n1 : xs.Nodup) (n2 : ys.Nodup) (p1 : xs.Pairwise leS) (p2 : ys.Pairwise leS) (h : ∀ s, s ∈ xs ↔ s ∈ ys) : xs = ys :=
  pw_one ((List.perm_ext_iff_of_nodup n1 n2).mpr h) (List.Perm.refl _) p1 p2
theorem nr_one {r r' : Rw} (a : NR r) (b : NR r') (h : ∀ t, gC r t = gC r' t) : r = r' := by
  have e := names_one a.1 b.1 a.2.1 b.2.1 fun s => by rw [a.mem, b.mem, h]
  rw [← rw_again a.1, ← rw_again b.1, e]
  exact List.map_congr_left fun s _ => by rw [h]
theorem NF.mem {hs : Hs} (h : NF hs) {y : Str} : y ∈ hs.map (·.1) ↔ ∃ t, 0 < amt hs y t := by
  constructor
  · intro m
    obtain ⟨n, e⟩ := h.2.2 _ (gR_mem m)
    cases er : gR hs y with
    | nil => rw [er] at e; cases e
    | cons p r =>
      refine ⟨p.1, ?_⟩
      show 0 < gC (gR hs y) p.1
      exact n.mem.mp (by show p.1 ∈ (gR hs y).map (·.1); rw [er]; exact List.mem_cons_self)
  · rintro ⟨t, p⟩
    by_cases m : y ∈ hs.map (·.1)
    · exact m
    · unfold amt at p
      rw [gR_no m] at p
      exact absurd p (Int.lt_irrefl 0)
theorem nf_one {h h' : Hs} (a : NF h) (b : NF h') (e : ∀ y t, amt h y t = amt h' y t) : h = h' := by
  have en := names_one a.1 b.1 a.2.1 b.2.1 fun s => by
    rw [a.mem, b.mem]
    simp only [e]
  rw [← hs_again a.1, ← hs_again b.1, en]
  refine List.map_congr_left fun s m => ?_
  have m' : s ∈ h.map (·.1) := by rw [en]; exact m
  have : gR h s = gR h' s := nr_one (a.2.2 _ (gR_mem m')).1 (b.2.2 _ (gR_mem m)).1 fun t => e s t
  rw [this]
/-- what is told is of that form, and tells the amounts -/
theorem can_nf {h0 h : Hs} (c : Can h0 h) (g : goodH h0) : NF h := by
  have gh := can_good c g
  obtain ⟨pw, k⟩ := can_names c g
  refine ⟨gh.1, pw, fun p m => ⟨?_, (k p m).2⟩⟩
  obtain ⟨r1, r2, r3⟩ := row_names (k p m).1 (gR_good g p.1)
  exact ⟨r2, r1, r3⟩
theorem row_amt {r0 r : Rw} (c : CanRow r0 r) (g : goodR r0) (t : Str) : gC r t = gC r0 t := by
  have hn := row_names c g
  obtain ⟨zs, p, s, e⟩ := c
  have en : r.map (·.1) = zs.filter fun t => decide (0 < gC r0 t) := by
    rw [e, List.map_map]
    exact List.map_id _
  by_cases m : t ∈ r.map (·.1)
  · have h1 := gC_mem m
    rw [e] at h1
    obtain ⟨z, mz, e1⟩ := List.mem_map.mp h1
    have e2 : z = t := congrArg Prod.fst e1
    have e3 : gC r0 z = gC r t := by rw [e]; exact congrArg Prod.snd e1
    rw [← e3, e2]
  · rw [gC_no m]
    rw [en] at m
    by_cases m0 : t ∈ r0.map (·.1)
    · have h1 := gC_mem m0
      have h2 := (g.2.2 _ h1).2
      have h3 : ¬ 0 < gC r0 t := fun h => m (List.mem_filter.mpr ⟨p.mem_iff.mpr m0, decide_eq_true h⟩)
      have h2 : 0 ≤ gC r0 t := h2
      omega
    · rw [gC_no m0]
theorem can_amt {h0 h : Hs} (c : Can h0 h) (g : goodH h0) (y t : Str) : amt h y t = amt h0 y t := by
  by_cases m : y ∈ h.map (·.1)
  · obtain ⟨_, k⟩ := can_names c g
    exact row_amt (k _ (gR_mem m)).1 (gR_good g y) t
  · unfold amt
    rw [gR_no m]
    obtain ⟨ys, rows, p, s, r, e⟩ := c
    by_cases m0 : y ∈ h0.map (·.1)
    · obtain ⟨i, hi⟩ := List.mem_iff_getElem?.mp (p.mem_iff.mpr m0)
      have li := (List.getElem?_eq_some_iff.mp hi).1
      have lr := Paired.length r
      have hr : rows[i]? = some rows[i] := List.getElem?_eq_getElem (by omega)
      have cr := Paired.at2 r hi hr
      have me : (y, rows[i]) ∈ ys.zip rows := List.mem_iff_getElem?.mpr ⟨i, by rw [List.getElem?_zip_eq_some]; exact ⟨hi, hr⟩⟩
      have em : rows[i].isEmpty = true := by
        cases ee : rows[i].isEmpty with
        | true => rfl
        | false =>
          refine absurd ?_ m
          rw [e]
          exact List.mem_map.mpr ⟨_, List.mem_filter.mpr ⟨me, by show (!rows[i].isEmpty) = true; rw [ee]; rfl⟩, rfl⟩
      have ea := row_amt cr (gR_good g y) t
      rw [List.isEmpty_iff.mp em] at ea
      exact ea
    · rw [gR_no m0]
theorem drawnH_good {hs : Hs} (d : drawnH hs) : goodH hs ∧ hs.length ≤ 3 ∧ ∀ p ∈ hs, p.2.length ≤ 2 := by
  have ok : ∀ s ∈ abc ++ coinx, nameOk (.str s) = true := by decide +kernel
  refine ⟨⟨d.1, by have := d.2.1; omega, fun p m => ?_⟩, d.2.1, fun p m => (d.2.2 p m).2.2.1⟩
  obtain ⟨d1, d2, d3, d4⟩ := d.2.2 p m
  exact ⟨ok _ (List.mem_append_left _ d1), d2, by omega, fun q mq => ⟨ok _ (List.mem_append_right _ (d4 q mq).1), (d4 q mq).2⟩⟩
theorem can_small {h0 h : Hs} (c : Can h0 h) {k : Nat} (l : h0.length ≤ k) : h.length ≤ k := by
  obtain ⟨ys, rows, p, s, r, rfl⟩ := c
  have h1 := List.length_filter_le (fun (p : Str × Rw) => !p.2.isEmpty) (ys.zip rows)
  have h2 := p.length_eq
  rw [List.length_map] at h2
  unfold canZ
  rw [List.length_zip] at h1
  omega
theorem can_small2 {h0 h : Hs} (c : Can h0 h) (g : goodH h0) {k : Nat} (l : ∀ p ∈ h0, p.2.length ≤ k) : ∀ p ∈ h, p.2.length ≤ k := fun p m => by
  obtain ⟨_, h⟩ := can_names c g
  obtain ⟨zs, pz, _, e⟩ := (h p m).1
  have l0 : (gR h0 p.1).length ≤ k := by
    by_cases m0 : p.1 ∈ h0.map (·.1)
    · exact l _ (gR_mem m0)
    · rw [gR_no m0]
      exact Nat.zero_le _
  have h1 := List.length_filter_le (fun t => decide (0 < gC (gR h0 p.1) t)) zs
  have h2 := pz.length_eq
  rw [List.length_map] at h2
  rw [e, List.length_map]
  omega
theorem drawnI_good {its : Its} {n : Nat} (d : drawnI its) (l : its.length ≤ n) (h : n ≤ 12) : goodIts its := by
  have ok : ∀ s ∈ abc ++ (["coin", "coin", "x"] : List Str), nameOk (.str s) = true := by decide +kernel
  refine ⟨by omega, fun it m => ⟨(d it m).1, fun g mg => ?_⟩⟩
  obtain ⟨d1, d2, d3, d4, d5, _⟩ := (d it m).2 g mg
  exact ⟨ok _ (List.mem_append_left _ d1), ok _ (List.mem_append_right _ d4), ok _ (List.mem_append_left _ d2), d3, d5⟩
end K34

set_option Elab.async false
set_option linter.all false
set_option maxRecDepth 100000
set_option maxHeartbeats 4000000
namespace K34
open PySem PySem.Spec PyProof.Rows L2 Sr
/-! ### queues, gifts, incomes: the mathematics -/
abbrev Slot := Str × Str
def givB (g : Leg) (s : Slot) : Bool := decide (g.1 = s.1) && decide (g.2.1 = s.2)
def takB (g : Leg) (s : Slot) : Bool := decide (g.2.2.2 = s.1) && decide (g.2.1 = s.2)
def giv (it : List Leg) (s : Slot) : Int := ((it.filter fun g => givB g s).map fun g => g.2.2.1).sum
def tak (it : List Leg) (s : Slot) : Int := ((it.filter fun g => takB g s).map fun g => g.2.2.1).sum
def itA (its : Its) (k : Nat) : List Leg := its[k]?.getD []
/-- the numbers of the items in a queue -/
def qN (its : Its) (s : Slot) : List Nat := (List.range its.length).filter fun k => (itA its k).any fun g => givB g s
def gsum (its : Its) (s : Slot) (S : List Nat) : Int := (S.map fun k => giv (itA its k) s).sum
/-- what is given in a queue up to a number -/
def cum (its : Its) (s : Slot) (n : Nat) : Int := gsum its s ((qN its s).filter fun k => decide (k ≤ n))
def tsum (its : Its) (s : Slot) (S : List Nat) : Int := (S.map fun k => tak (itA its k) s).sum
def had (hs : Hs) (its : Its) (S : List Nat) (s : Slot) : Int := amt hs s.1 s.2 + tsum its s S
def rest (its : Its) (A : List Nat) : List Nat := (List.range its.length).filter fun k => decide (k ∉ A)
inductive Why where
  | behind (m : Nat)
  | short (s : Slot)
def okWhy (hs : Hs) (its : Its) (A : List Nat) (n : Nat) : Why → Prop
  | .behind m => m ∈ A ∧ m < n ∧ ∃ s, n ∈ qN its s ∧ m ∈ qN its s
  | .short s => n ∈ qN its s ∧ had hs its (rest its A) s < cum its s n
def papOk (hs : Hs) (its : Its) : List Nat → List (Nat × Why) → Prop
  | _, [] => True
  | A, (n, y) :: r => n < its.length ∧ n ∉ A ∧ okWhy hs its A n y ∧ papOk hs its (A ++ [n]) r
/-- what the law asks of a set: in each queue the ahead ones too, and there is enough -/
def feas (hs : Hs) (its : Its) (S : List Nat) : Prop := ∀ s, (qN its s).filter (fun k => decide (k ∈ S)) = (qN its s).take ((qN its s).filter fun k => decide (k ∈ S)).length ∧ gsum its s ((qN its s).filter fun k => decide (k ∈ S)) ≤ had hs its S s
theorem qN_rise (its : Its) (s : Slot) : (qN its s).Pairwise (· < ·) := List.pairwise_lt_range.filter _
theorem qN_lt {its : Its} {s : Slot} {n : Nat} (m : n ∈ qN its s) : n < its.length := List.mem_range.mp (List.mem_filter.mp m).1
theorem rest_mem {its : Its} {A : List Nat} {n : Nat} : n ∈ rest its A ↔ n < its.length ∧ n ∉ A := by
  unfold rest
  rw [List.mem_filter, List.mem_range]
  exact ⟨fun h => ⟨h.1, of_decide_eq_true h.2⟩, fun h => ⟨h.1, decide_eq_true h.2⟩⟩
theorem rest_nodup (its : Its) (A : List Nat) : (rest its A).Nodup := List.nodup_range.filter _
/-- positive amounts -/
def posL (its : Its) : Prop := ∀ it ∈ its, ∀ g ∈ it, 0 ≤ g.2.2.1
theorem sum_nn : ∀ {l : List Int}, (∀ x ∈ l, 0 ≤ x) → 0 ≤ l.sum
  | [], _ => Int.le_refl _
  | x :: r, h => by
    rw [List.sum_cons]
    have := h x List.mem_cons_self
    have := sum_nn fun y m => h y (List.mem_cons_of_mem _ m)
    omega
theorem itA_mem {its : Its} {k : Nat} {g : Leg} (m : g ∈ itA its k) : ∃ it ∈ its, g ∈ it := by
  unfold itA at m
  cases e : its[k]? with
  | none => rw [e] at m; cases m
  | some it => rw [e] at m; exact ⟨it, List.mem_of_getElem? e, m⟩
theorem giv_nn {its : Its} (p : posL its) (k : Nat) (s : Slot) : 0 ≤ giv (itA its k) s := sum_nn fun x m => by
  obtain ⟨g, mg, rfl⟩ := List.mem_map.mp m
  obtain ⟨it, mi, m2⟩ := itA_mem (List.mem_filter.mp mg).1
  exact p it mi g m2
theorem tak_nn {its : Its} (p : posL its) (k : Nat) (s : Slot) : 0 ≤ tak (itA its k) s := sum_nn fun x m => by
  obtain ⟨g, mg, rfl⟩ := List.mem_map.mp m
  obtain ⟨it, mi, m2⟩ := itA_mem (List.mem_filter.mp mg).1
  exact p it mi g m2
/-- a sum over fewer numbers is no greater -/
theorem sub_sum {f : Nat → Int} (nn : ∀ k, 0 ≤ f k) : ∀ {S T : List Nat}, S.Sublist T → (S.map f).sum ≤ (T.map f).sum
  | _, _, .slnil => Int.le_refl _
  | _, _, .cons a h => by
    rw [List.map_cons, List.sum_cons]
    have := sub_sum nn h
    have := nn a
    omega
  | _, _, .cons₂ a h => by
    rw [List.map_cons, List.map_cons, List.sum_cons, List.sum_cons]
    have := sub_sum nn h
    omega
theorem perm_sum {f : Nat → Int} {S T : List Nat} (p : S.Perm T) : (S.map f).sum = (T.map f).sum := by
  induction p with
  | nil => rfl
  | cons x _ ih => rw [List.map_cons, List.map_cons, List.sum_cons, List.sum_cons, ih]
  | swap x y l =>
    rw [List.map_cons, List.map_cons, List.map_cons, List.map_cons, List.sum_cons, List.sum_cons, List.sum_cons, List.sum_cons]
    omega
  | trans _ _ i1 i2 => exact i1.trans i2
theorem sub_set {f : Nat → Int} (nn : ∀ k, 0 ≤ f k) : ∀ {S T : List Nat}, S.Nodup → (∀ k ∈ S, k ∈ T) → (S.map f).sum ≤ (T.map f).sum
  | [], T, _, _ => sum_nn fun x m => by
    obtain ⟨k, _, rfl⟩ := List.mem_map.mp m
    exact nn k
  | x :: S, T, nd, h => by
    obtain ⟨n1, n2⟩ := List.nodup_cons.mp nd
    have mx := h x List.mem_cons_self
    rw [perm_sum (List.perm_cons_erase mx), List.map_cons, List.map_cons, List.sum_cons, List.sum_cons]
    have := sub_set nn n2 (T := T.erase x) fun k mk => by
      have : k ≠ x := fun e => n1 (by rw [← e]; exact mk)
      exact (List.mem_erase_of_ne this).mpr (h k (List.mem_cons_of_mem _ mk))
    omega
/-- an ascending list: those up to a number are the first ones -/
theorem rise_take {l : List Nat} (p : l.Pairwise (· < ·)) (P : Nat → Bool) (h : ∀ a ∈ l, ∀ b ∈ l, a < b → P b = true → P a = true) : l.filter P = l.take (l.filter P).length := by
  induction l with
  | nil => rfl
  | cons x r ih =>
    obtain ⟨p1, p2⟩ := List.pairwise_cons.mp p
    rw [List.filter_cons]
    cases e : P x with
    | true =>
      rw [if_pos rfl, List.length_cons, List.take_succ_cons, ← ih p2 fun a ma b mb => h a (List.mem_cons_of_mem _ ma) b (List.mem_cons_of_mem _ mb)]
    | false =>
      rw [if_neg Bool.false_ne_true]
      have : r.filter P = [] := List.filter_eq_nil_iff.mpr fun b mb hb => by
        have := h x List.mem_cons_self b (List.mem_cons_of_mem _ mb) (p1 b mb) hb
        rw [e] at this
        cases this
      rw [this]
      rfl
theorem take_below {l : List Nat} {P : Nat → Bool} (h : l.filter P = l.take (l.filter P).length) (p : l.Pairwise (· < ·)) {a b : Nat} (ma : a ∈ l) (mb : b ∈ l) (lt : a < b) (hb : P b = true) : P a = true := by
  have m : b ∈ l.take (l.filter P).length := by rw [← h]; exact List.mem_filter.mpr ⟨mb, hb⟩
  obtain ⟨j, hj, ej⟩ := List.mem_take_iff_getElem.mp m
  obtain ⟨i, hi, ei⟩ := List.getElem_of_mem ma
  have ij : i < j := by
    rcases Nat.lt_trichotomy i j with c | c | c
    · exact c
    · subst c
      rw [ei] at ej
      omega
    · have := (List.pairwise_iff_getElem.mp p) j i (by omega) hi c
      omega
  have : a ∈ l.take (l.filter P).length := by
    rw [← ei]
    exact List.mem_take_iff_getElem.mpr ⟨i, by omega, rfl⟩
  rw [← h] at this
  exact (List.mem_filter.mp this).2
/-- whatever waits is in no set that can be paid -/
theorem pap_apart {hs : Hs} {its : Its} (p : posL its) {R : List Nat} (f : feas hs its R) (nd : R.Nodup) (le : ∀ k ∈ R, k < its.length) : ∀ {A : List Nat} {l : List (Nat × Why)}, papOk hs its A l → (∀ k ∈ A, k ∉ R) → ∀ q ∈ l, q.1 ∉ R
  | _, [], _, _, q, m => by cases m
  | A, (n, y) :: r, ok, ap, q, m => by
    obtain ⟨h1, h2, h3, h4⟩ := ok
    have nR : n ∉ R := fun mR => by
      cases y with
      | behind mm =>
        obtain ⟨a1, a2, s, a3, a4⟩ := h3
        have := take_below (f s).1 (qN_rise its s) a4 a3 a2 (decide_eq_true mR)
        exact ap mm a1 (of_decide_eq_true this)
      | short s =>
        obtain ⟨a1, a2⟩ := h3
        obtain ⟨f1, f2⟩ := f s
        have c1 : cum its s n ≤ gsum its s ((qN its s).filter fun k => decide (k ∈ R)) := by
          refine sub_set (giv_nn p · s) (((qN_rise its s).imp (fun h => Nat.ne_of_lt h)).filter _) fun k mk => ?_
          obtain ⟨m1, m2⟩ := List.mem_filter.mp mk
          refine List.mem_filter.mpr ⟨m1, ?_⟩
          rcases Nat.lt_or_eq_of_le (of_decide_eq_true m2) with c | c
          · exact take_below f1 (qN_rise its s) m1 a1 c (decide_eq_true mR)
          · rw [c]
            exact decide_eq_true mR
        have c2 : had hs its R s ≤ had hs its (rest its A) s := by
          unfold had tsum
          have := sub_set (tak_nn p · s) nd (T := rest its A) fun k mk => rest_mem.mpr ⟨le k mk, fun z => ap k z mk⟩
          omega
        omega
    rcases List.mem_cons.mp m with rfl | m
    · exact nR
    · exact pap_apart p f nd le h4 (fun k mk => (List.mem_append.mp mk).elim (ap k) fun z => by rw [List.mem_singleton.mp z]; exact nR) q m
/-- what is left when nothing waits any more can be paid -/
theorem feas_rest {hs : Hs} {its : Its} (g : ∀ y t, 0 ≤ amt hs y t) (p : posL its) {A : List Nat} (no : ∀ n, n < its.length → n ∉ A → ∀ y, ¬ okWhy hs its A n y) : feas hs its (rest its A) := by
  intro s
  have pre : (qN its s).filter (fun k => decide (k ∈ rest its A)) = (qN its s).take ((qN its s).filter fun k => decide (k ∈ rest its A)).length := by
    refine rise_take (qN_rise its s) _ fun a ma b mb lt hb => decide_eq_true (rest_mem.mpr ⟨qN_lt ma, fun mA => ?_⟩)
    obtain ⟨b1, b2⟩ := rest_mem.mp (of_decide_eq_true hb)
    exact no b b1 b2 (.behind a) ⟨mA, lt, s, mb, ma⟩
  refine ⟨pre, ?_⟩
  rcases List.eq_nil_or_concat ((qN its s).filter fun k => decide (k ∈ rest its A)) with e | ⟨l, n, e⟩
  · rw [e]
    show (0 : Int) ≤ amt hs s.1 s.2 + tsum its s (rest its A)
    have h1 := g s.1 s.2
    have h2 : 0 ≤ tsum its s (rest its A) := sum_nn fun x m => by
      obtain ⟨k, _, rfl⟩ := List.mem_map.mp m
      exact tak_nn p k s
    omega
  · have mn : n ∈ (qN its s).filter fun k => decide (k ∈ rest its A) := by rw [e]; simp
    obtain ⟨m1, m2⟩ := List.mem_filter.mp mn
    obtain ⟨n1, n2⟩ := rest_mem.mp (of_decide_eq_true m2)
    have ns := no n n1 n2 (.short s)
    have c : gsum its s ((qN its s).filter fun k => decide (k ∈ rest its A)) ≤ cum its s n := by
      refine sub_set (giv_nn p · s) (((qN_rise its s).imp (fun h => Nat.ne_of_lt h)).filter _) fun k mk => ?_
      refine List.mem_filter.mpr ⟨(List.mem_filter.mp mk).1, decide_eq_true ?_⟩
      have rise : (l ++ [n]).Pairwise (· < ·) := by
        rw [← List.concat_eq_append, ← e]
        exact (qN_rise its s).filter _
      rw [e, List.concat_eq_append] at mk
      rcases List.mem_append.mp mk with mk | mk
      · exact Nat.le_of_lt ((List.pairwise_append.mp rise).2.2 k mk n List.mem_cons_self)
      · rw [List.mem_singleton.mp mk]
        exact Nat.le_refl _
    have : ¬ (had hs its (rest its A) s < cum its s n) := fun h => ns ⟨m1, h⟩
    omega
noncomputable def whyB (hs : Hs) (its : Its) (A : List Nat) (n : Nat) (y : Why) : Bool := @decide (okWhy hs its A n y) (Classical.propDecidable _)
theorem whyB_iff {hs : Hs} {its : Its} {A : List Nat} {n : Nat} {y : Why} : whyB hs its A n y = true ↔ okWhy hs its A n y := by
  unfold whyB
  exact @decide_eq_true_iff _ (Classical.propDecidable _)
theorem whyB_of {hs : Hs} {its : Its} {A : List Nat} {n : Nat} {y : Why} {b : Bool} (h : b = true ↔ okWhy hs its A n y) : b = whyB hs its A n y := by
  rw [Bool.eq_iff_iff, h, whyB_iff]
end K34

set_option Elab.async false
set_option linter.all false
set_option maxRecDepth 100000
set_option maxHeartbeats 4000000
namespace Sr
open PySem PySem.Spec PyProof.Rows L2
/-! ### dict comprehensions whose keys are tuples -/
/-- one entry, under a tuple's key -/
theorem put_dT {X : Cx} {pins : List (Addr × Obj)} {σ : L2.St} {H : Hp} {s : Shared} {E : Value → Shared → Prop} {D b : Addr} {kvs : List (List Key × V)} {k : List Key} {v : V} {r : Value} {Q : Unit → Shared → Prop} (hu : X.A.units + 1 < cLine)
    (I : L2.Inv X pins σ H s) (hD : H D = some (.dT kvs)) (hz : kvs.length < sizeLine) (eb : H b = some (.tup (k.map kV))) (rv : L2.RelV v r) (h : ∀ s', L2.Inv X pins σ (upd H D (.dT (putK kvs k v))) s' → Q () s') :
    wpAny (model X.prog X.w) X.A (dictSet D (.ref b) r) Q E s := by
  obtain ⟨z, hd, xs, rel, dd⟩ := dt_of I.hok hD
  have room : (tupleKind (mixKind X.prog X.w)).room X.A := show X.A.units < cLine by omega
  refine wpAny_dictSet_heap (hsz := (Paired.length rel) ▸ z) room (key_of I.hok eb) dd fun h' dd' same => h _ ?_
  obtain ⟨q, es, ep, hq, a2, a3, a4, _, a5⟩ := dd'
  have kept : KT (upd H D (.dT (putK kvs k v))) (putK kvs k v) (storedH xs k b r) := (rel.put k eb rv).keeps fun c ys ec => (upd_ne (ne_of ec hD (by intro z; cases z))).trans ec
  have small : (putK kvs k v).length ≤ sizeLine := Nat.le_trans (length_putK kvs k v) hz
  exact d_write I (by rw [hD]; trivial) same ⟨q, hq⟩ ⟨small, hd, _, kept, q, es, ep, hq, a2, a3, a4, a5⟩
/-- what one entry asks: a tuple as key, the dict as it stands, then on -/
def PutT (D : Addr) (y z : V) (H : Hp) (Nx : Hp → Prop) : Prop := ∃ kvs k b, y = .ref b ∧ H D = some (.dT kvs) ∧ H b = some (.tup (k.map kV)) ∧ kvs.length < sizeLine ∧ Nx (upd H D (.dT (putK kvs k z)))
/-- a walk's turns, each an entry or none -/
def DcW (J : It) (g : TG) (tt : TT) (tk tv : TE) (σ0 : L2.St) (vs : List Nat) (D : Addr) (q : Hp → Prop) (W : Nat → Nat → Hp → Prop) : Prop := ∀ i m H, W i m H →
  (J.stop i H ∧ q H) ∨ (J.go i H ∧ ∃ Nx : Hp → Prop, (∀ H', Nx H' → ∃ m', m' < m ∧ W (i + 1) m' H') ∧ ∀ x H', J.yld i H x H' → g x σ0 H' fun σ2 H2 => wipe σ2 vs = σ0 ∧ tt σ2 H2 fun b H3 =>
    if b = true then tk σ2 H3 fun y H4 => tv σ2 H4 fun z H5 => PutT D y z H5 Nx else Nx H3)
section
variable {B : Cx} {kx vx tg iter : Expr} {ifs : List Expr} {scope : Scope} {pos : Pos} {g : TG} {tt : TT} {tk tv : TE} {J : It} {fp : List Addr} {it D : Addr} {tn : Nat → Heap → Prop} {R : Result → Shared → Prop} {σ : L2.St} {vs : List Nat} {q : Hp → Prop} {W : Nat → Nat → Hp → Prop}
/-- the loop of the block B -/
theorem dcT_loop (hu : B.A.units + 1 < cLine) (hc : B.calm = true) (hx : B.xe = fun _ _ => False) (T : Turn B.prog B.w B.K tg J fp it tn) (pg : PG B tg g) (pt : PTs B ifs tt) (pk : PE B kx tk) (pv : PE B vx tv)
    (own : ∀ {σ' : L2.St} {H' : Hp} {s' : Shared}, L2.Inv B [] σ' H' s' → (∀ b ∈ fp, H' b = none) → ∀ b ∈ fp, FpOk B [] H' b) (w : DcW J g tt tk tv (wipe σ vs) vs D q W)
    (fin : ∀ s' H', L2.Inv B [] (wipe σ vs) H' s' → q H' → R (.ok .next) s') {m0 : Nat} {H0 : Hp} {s0 : Shared} (I0 : L2.Inv B [] (wipe σ vs) H0 s0) (t0 : tn 0 s0.heap) (n0 : ∀ b ∈ fp, H0 b = none) (w0 : W 0 m0 H0) :
    codeAny (model B.prog B.w) B.A (.compLoop (.DictComp kx vx [⟨tg, iter, ifs, 0⟩] scope pos) 0 (.ref it) (.ref D) B.env) R s0 := by
  let St (m : Nat) (s : Shared) : Prop := ∃ i H, L2.Inv B [] (wipe σ vs) H s ∧ tn i s.heap ∧ (∀ b ∈ fp, H b = none) ∧ W i m H
  refine compLoop_anyD St (fun m s hs => ?_) m0 ⟨0, H0, I0, t0, n0, w0⟩
  obtain ⟨i, H, I, t, n, wi⟩ := hs
  rcases w i m H wi with ⟨stop, hq⟩ | ⟨go, Nx, less, step⟩
  · refine thnF (T.done B rfl rfl rfl hc i [] s _ H (fun _ _ => False) I (own I n) t stop) ?_
    rintro _ s1 ⟨rfl, I1⟩
    exact fin s1 H I1 hq
  refine thnF (T.item B rfl rfl rfl hc i [] s _ H (fun _ _ => False) I (own I n) t go) ?_
  rintro _ s1 ⟨u, rfl, z1⟩
  refine thnF z1 ?_
  rintro _ s2 ⟨x, H2, I2, ru, y2, t2, n2⟩
  have live := T.obj _ _ t2
  have P2 := I2.pinned (own I2 n2) live
  have pgr := pg.run _ s2 _ H2 x u _ P2 ru (step x H2 y2)
  rw [hx] at pgr
  refine thnF pgr ?_
  rintro _ s3 ⟨σ3, H3, I3, back, z3⟩
  have ptr := pt.run _ s3 σ3 H3 _ I3 z3
  rw [hx] at ptr
  refine thnF ptr ?_
  rintro b s4 ⟨H4, I4, z4⟩
  -- the next turn begins
  have next : ∀ {s' : Shared} {H' : Hp}, L2.Inv B ([] ++ pinsAt fp s2.heap) σ3 H' s' → Nx H' → ∃ k, k < m ∧ St k s' := by
    intro s' H' I' nx
    obtain ⟨k, hk, wk⟩ := less H' nx
    have still : ∀ c ∈ fp, ∀ o, s2.heap.get? c = some o → s'.heap.get? c = some o ∧ H' c = none := fun c hc' o e =>
      have z := I'.pin (c, o) (List.mem_append_right _ (List.mem_append_right _ (mem_pinsAt hc' e)))
      ⟨z.1, z.2.1⟩
    refine ⟨k, hk, i + 1, H', ?_, T.keep _ _ _ t2 fun c hc' o e => (still c hc' o e).1, fun c hc' => ?_, wk⟩
    · refine (I'.unpinned (pins := [])).weak (by rw [← back, wipe_length]) fun j v e => ?_
      rw [← back] at e
      exact (wipe_some e).1
    · obtain ⟨o, e, _⟩ := live c hc'
      exact (still c hc' o e).2
  cases b with
  | false => exact next I4 z4
  | true =>
    have pkr := pk.run _ s4 σ3 H4 _ I4 z4
    rw [hx] at pkr
    refine thnF pkr ?_
    rintro _ s5 ⟨yk, H5, I5, rk, z5⟩
    have pvr := pv.run _ s5 σ3 H5 _ I5 z5
    rw [hx] at pvr
    refine thnF pvr ?_
    rintro _ s6 ⟨yv, H6, I6, rv, kvs, k, c, rfl, hD, hb, hz, nx⟩
    cases rk
    exact put_dT hu I6 hD hz hb rv fun s7 I7 => next I7 nx
end
section
variable {X : Cx}
/-- {k: v for target in iter if ..} with tuples as keys: D the new dict -/
def tDcT (wi : TI) (g : TG) (tt : TT) (tk tv : TE) (vs : List Nat) : TE := fun σ H Q => wi σ H fun J H1 => ∀ D, H1 D = none → ∃ W : Nat → Nat → Hp → Prop, (∃ m, W 0 m (upd H1 D (.dT []))) ∧ DcW J g tt tk tv (wipe σ vs) vs D (Q (.ref D)) W
abbrev Blk (X : Cx) (scope : Scope) {α : Type} (F : Cx → α → Prop) (a : α) : Prop := ∀ (s : Shared) (H : Hp) (C : Addr) (cl : List (Str × Addr)) (fp : List Addr), F (X.blk s H scope (compEnvC scope cl C X.env) fp) a
theorem pe_dcT {kx vx tg iter : Expr} {ifs : List Expr} {scope : Scope} {own : List (Str × Nat)} {pos : Pos} {wi : TI} {g : TG} {tt : TT} {tk tv : TE} (hu : X.A.units + 1 < cLine) (hc : X.calm = true) (hN : X.N.Nodup) (hi : PI X tg iter wi) (ok : BlkOk X.N X.env.scope scope own)
    (hg : Blk X scope (fun B => PG B tg) g) (ht : Blk X scope (fun B => PTs B ifs) tt) (hk : Blk X scope (fun B => PE B kx) tk) (hv : Blk X scope (fun B => PE B vx) tv) (hs : ∀ x, foldedSetIterable iter X.env x = pure x := by intro _; rfl) :
    PE X (.DictComp kx vx [⟨tg, iter, ifs, 0⟩] scope pos) (tDcT wi g tt tk tv (own.map (·.2))) := by
  refine ⟨fun pins s σ H Q I h => ?_⟩
  have cells : ∀ y ∈ scope.names, y.2 = .free → ∃ c, X.env.cells.lookup y.1 = some c := fun y hy e => I.ok.has _ (.imp id id (ok.free y hy e))
  rw [arm_eval_DictComp]
  refine wpAny_comprehension_free (use := none) rfl hs (closure_ok cells) ok.kind (fun y hy e => (ok.uniq y hy).trans (congrArg some e)) (thn (hi.run pins s σ H _ I h) fun xv s1 h1 => thn h1 ?_)
  rintro _ s2 ⟨it, fp, tn, J, H2, rfl, I2, T, t2, f2, q⟩
  refine wpAny_newObj_type (newEnv_comp ?_)
  have nD : H2 s2.heap.objs.size = none := I2.hok.fresh (Nat.le_refl _)
  obtain ⟨W, ⟨m0, w0⟩, w⟩ := q _ nD
  -- with the new dict
  have I3 : L2.Inv X pins σ (upd H2 s2.heap.objs.size (.dT [])) { s2 with heap := s2.heap.push { cls := .type "dict", data := .dict #[] } } := I2.laid (t' := s2.toks) (fun b o e => Heap.get?_push_of_some _ e) (Nat.le_refl _) (dt_empty s2.heap I2.big)
  have low : ∀ b ∈ fp, b < s2.heap.objs.size := fun b hb => (T.obj _ _ t2 b hb).elim fun o e => Heap.lt_size e.1
  have f3 : ∀ b ∈ fp, FpOk X pins (upd H2 s2.heap.objs.size (.dT [])) b ∧ b < (s2.heap.push { cls := .type "dict", data := .dict #[] }).objs.size := fun b hb =>
    ⟨⟨(upd_ne (Nat.ne_of_lt (low b hb))).trans (f2 b hb).1, (f2 b hb).2⟩, by rw [Heap.size_push]; exact Nat.lt_succ_of_lt (low b hb)⟩
  have I4 := block_start I3 ok hN f3
  have t4 : tn 0 (pushCells ((s2.heap.push { cls := .type "dict", data := .dict #[] }).push { cls := .type "dict", data := .dict #[] }) scope.names) :=
    T.keep _ _ _ t2 fun b _ o e => pushCells_keeps _ _ _ _ (Heap.get?_push_of_some _ (Heap.get?_push_of_some _ e))
  refine codeAny_compStart_dict ?_ (T.self X.A 0 _ _ _ t4 ?_) <;>
  · refine dcT_loop (B := X.blk _ _ scope _ fp) hu hc rfl T (hg _ _ _ _ _) (ht _ _ _ _ _) (hk _ _ _ _ _) (hv _ _ _ _ _) (fun {σ' H' s'} I' n b hb => ?_) w (fun s' H' I' hq => ?_) I4 t4 (fun b hb => (f3 b hb).1.1) w0
    · exact ⟨n b hb, (I'.ok.exf b hb).1, I'.ok.exfs b hb, .inl hb, (I'.ok.exf b hb).2, fun p hp => nomatch hp⟩
    · -- back in the def
      obtain ⟨m, hm, _⟩ := I'.loc
      have gone := I'.free
      have I5 : L2.Inv X pins σ H' s' := I3.call' (ch := fp) I'.os I'.base I'.hok I'.bare fun b hb => have f := (f3 b hb).1; ⟨f.2.2.2.1, f.2.1, f.2.2.2.2.1, f.2.2.2.2.2⟩
      have f5 : FpOk X pins H' (s2.heap.push { cls := .type "dict", data := .dict #[] }).objs.size := I3.fpOk (Nat.le_refl _) gone
      exact ⟨m, hm, fun h'' sb => ⟨.ref s2.heap.objs.size, H', I5.turned (t' := s'.toks) (fun b o hb e => (sb.2 b hb).trans e) f5.1 f5.2.1 f5.2.2.2.1 f5.2.2.2.2.1 f5.2.2.2.2.2, rfl, hq⟩⟩
end
/-- all entries of a walk that changes nothing else, keys all unlike -/
theorem dcT_pure {J : It} {n : Nat} {G : Hp → Prop} {Y : Nat → Hp → V → Hp → Prop} {At : Nat → V → Prop} (w : Walk J n G Y) (hy : ∀ i H x H', Y i H x H' → H' = H ∧ At i x) {g : TG} {tk tv : TE} {σ0 : L2.St} {vs : List Nat} {H : Hp} {D : Addr} {q : Hp → Prop}
    (kvs : List (List Key × V)) (hn : kvs.length = n) (hz : n < sizeLine) (nd : (kvs.map (·.1)).Nodup) (hD : H D = none) (hG : ∀ H', Same H H' → G H')
    (turn : ∀ (i : Nat) (x : V) (k : List Key) (v : V) (H1 : Hp) (R : V → V → Hp → Prop), i < n → At i x → kvs[i]? = some (k, v) → Same H H1 → (∀ H2 b, Same H1 H2 → H2 b = some (.tup (k.map kV)) → R (.ref b) v H2) →
      g x σ0 H1 fun σ2 H2 => wipe σ2 vs = σ0 ∧ tk σ2 H2 fun y H4 => tv σ2 H4 fun z H5 => R y z H5)
    (fin : ∀ H', Same H H' → H' D = some (.dT kvs) → q H') :
    ∃ W : Nat → Nat → Hp → Prop, (∃ m, W 0 m (upd H D (.dT []))) ∧ DcW J g tYes tk tv σ0 vs D q W := by
  refine ⟨fun i m H' => m = n - i ∧ i ≤ n ∧ Same H H' ∧ H' D = some (.dT (kvs.take i)), ⟨n, rfl, Nat.zero_le _, Same.up hD, by rw [upd_same]; rfl⟩, ?_⟩
  rintro i m H1 ⟨rfl, hi, s1, h1⟩
  by_cases lt : i < n
  · refine .inr ⟨w.goes i H1 lt (hG H1 s1), fun H' => Same H H' ∧ H' D = some (.dT (kvs.take (i + 1))), fun H' p => ⟨n - (i + 1), by omega, rfl, lt, p⟩, fun x H2 y => ?_⟩
    obtain ⟨rfl, ax⟩ := hy i H1 x H2 (w.yields i H1 x H2 lt (hG H1 s1) y)
    obtain ⟨⟨k, v⟩, e⟩ : ∃ kv, kvs[i]? = some kv := ⟨_, List.getElem?_eq_getElem (hn ▸ lt)⟩
    refine turn i x k v H2 (fun y z H5 => PutT D y z H5 _) lt ax e s1 fun H3 b s3 hb => ⟨_, k, b, rfl, s3 _ _ h1, hb, ?_, fun c o ec => ?_, ?_⟩
    · rw [List.length_take]
      omega
    · rw [upd_ne (ne_of_none ec hD)]
      exact s3 _ _ (s1 _ _ ec)
    · have split : kvs.take (i + 1) = kvs.take i ++ [(k, v)] := by rw [List.take_add_one, e]; rfl
      rw [upd_same, split]
      congr 2
      refine L2.putK_new _ (Option.eq_none_iff_forall_ne_some.mpr fun u eu => ?_)
      have m : k ∈ (kvs.take i).map (·.1) := List.mem_map.mpr ⟨_, val_mem eu, rfl⟩
      rw [← List.take_append_drop (i + 1) kvs, split, List.map_append, List.map_append] at nd
      have ap := (List.nodup_append.mp (List.nodup_append.mp nd).1).2.2
      exact ap _ m _ List.mem_cons_self rfl
  · obtain rfl : i = n := by omega
    refine .inl ⟨w.stops H1 (hG H1 s1), fin H1 s1 ?_⟩
    rw [h1, ← hn, List.take_length]
end Sr

set_option Elab.async false
set_option linter.all false
set_option maxRecDepth 100000
set_option maxHeartbeats 4000000
namespace Sr
open PySem PySem.Spec PyProof.Rows L2
/-! ### for v in d.values(), d a dict with tuples for keys, locked -/
def ItdT (d : Addr) (o : Obj) (kvs : List (List Key × V)) : It :=
  ⟨fun i H => H d = some (.frz o (.dT kvs)) ∧ i < kvs.length, fun i H x H' => H' = H ∧ ∃ k, kvs[i]? = some (k, x), fun i H => H d = some (.frz o (.dT kvs)) ∧ kvs.length ≤ i⟩
theorem walk_valuesT {d : Addr} {o : Obj} {kvs : List (List Key × V)} : Walk (ItdT d o kvs) kvs.length (fun H => H d = some (.frz o (.dT kvs))) (fun i H x H' => H' = H ∧ ∃ k, kvs[i]? = some (k, x)) :=
  ⟨fun _ _ hi q => ⟨q, hi⟩, fun _ q => ⟨q, Nat.le_refl _⟩, fun _ _ _ _ _ _ y => y⟩
theorem frzT_raw {X : Cx} {pins : List (Addr × Obj)} {σ : L2.St} {H : Hp} {s : Shared} {d : Addr} {o : Obj} {kvs : List (List Key × V)} (I : L2.Inv X pins σ H s) (h : H d = some (.frz o (.dT kvs))) :
    (d == sysModules) = false ∧ ∃ (es : Array DictEntry) (ep : Nat), o.data = .dict es ep ∧ s.heap.DictRaw d es ep ∧ es.size = kvs.length ∧ ∀ (i : Nat) (k : List Key) (v : V), kvs[i]? = some (k, v) → ∃ en, es[i]? = some en ∧ RelV v en.val := by
  obtain ⟨hat, z, hs, xs, pr, o2, es, ep, ho, hx, hdat, hen, _⟩ := (show ObjOk X.prog X.w H s.heap d (.frz o (.dT kvs)) from I.hok d _ h)
  rw [hat] at ho
  cases ho
  have n1 : es.size = xs.length := size_of_entries hen
  have n2 : kvs.length = xs.length := Paired.length pr
  refine ⟨hs, es, ep, hdat, ⟨o, hat, hx, hdat⟩, n1.trans n2.symm, fun i k v e => ?_⟩
  obtain ⟨x, hxi, _, _, rv⟩ := paired_get pr e
  have q := entry_at hen i
  rw [hxi] at q
  exact ⟨_, q, rv⟩
section
variable {P : Program} {w : World} {K : PySem.W.Frag} {tg : Expr} {d : Addr} {o : Obj} {es : Array DictEntry} {ep : Nat}
theorem turn_valuesT {kvs : List (List Key × V)} (r : Addr) (hes : o.data = .dict es ep) : Turn P w K tg (ItdT d o kvs) [r] r (fun i h => h.IsValIter r d i kvs.length ep) where
  mem := List.mem_singleton.mpr rfl
  obj := fun i h at_ b mb => by
    rw [List.mem_singleton.mp mb]
    obtain ⟨ob, e1, _, e2⟩ := at_
    exact ⟨ob, e1, fun v z => by rw [e2] at z; cases z⟩
  keep := fun i h h' at_ kp => at_.at fun ob e => kp r (List.mem_singleton.mpr rfl) ob e
  item := by
    intro X rfl1 rfl2 rfl3 calm j pins s σ H E I fo at_ go
    subst rfl1 rfl2 rfl3
    obtain ⟨frz, lt⟩ := go
    obtain ⟨g0, g1, g2, g3, g4, g5⟩ := fo r (List.mem_singleton.mpr rfl)
    obtain ⟨_, es2, ep2, dat, raw, size, vals⟩ := frzT_raw I frz
    obtain ⟨rfl, rfl⟩ := dict_ep hes dat
    obtain ⟨⟨k, v⟩, hk⟩ : ∃ p, kvs[j]? = some p := ⟨kvs[j], List.getElem?_eq_getElem lt⟩
    obtain ⟨en, hen, rv⟩ := vals j k v hk
    have lj : j < es2.size := by omega
    rw [← size] at at_
    refine wpAny_pyNext_values_item_raw at_ raw lj fun h2 at2 same => ?_
    have I2 : L2.Inv X pins σ H { s with heap := h2 } := I.turned (t' := s.toks) (fun b ob nb e => (same.2 b nb).trans e) g0 g1 g3 g4 g5
    obtain ⟨ob, e1, e2, e3⟩ := id at2
    have ev : es2[j].val = en.val := by rw [Array.getElem?_eq_getElem lj] at hen; rw [Option.some.inj hen]
    rw [size] at at2
    exact ⟨_, rfl, go_of (s := { s with heap := h2 }) e1 e2 e3 (by decide) ⟨v, H, I2, by rw [ev]; exact rv, ⟨rfl, k, hk⟩, at2, fun b mb => (fo b mb).1⟩⟩
  done := by
    intro X rfl1 rfl2 rfl3 calm j pins s σ H E I fo at_ go
    subst rfl1 rfl2 rfl3
    obtain ⟨frz, le⟩ := go
    obtain ⟨g0, g1, g2, g3, g4, g5⟩ := fo r (List.mem_singleton.mpr rfl)
    obtain ⟨_, es2, ep2, dat, raw, size, _⟩ := frzT_raw I frz
    obtain ⟨rfl, rfl⟩ := dict_ep hes dat
    rw [← size] at at_
    exact wpAny_pyNext_values_end_raw (I.ok.hd calm) at_ raw (by omega) fun h2 ext => ⟨rfl, I.turned (t' := s.toks) (fun b ob nb e => ext b ob nb e) g0 g1 g3 g4 g5⟩
  self := fun A i s Q E at_ q => wpAny_pyIter_valiter at_ q
end
def iValsT (td : TE) : TI := fun σ H R => td σ H fun x H1 => ∃ d o kvs, x = .ref d ∧ H1 d = some (.frz o (.dT kvs)) ∧ R (ItdT d o kvs) H1
theorem pi_valuesT {X : Cx} {tg e : Expr} {td : TE} {apos cpos : Pos} (he : PE X e td) (hb : attributeBase e "values" X.env (eval e X.env) = eval e X.env := by rfl) (hl : (apos.endLine == cpos.line) = true := by rfl) : PI X tg (.Call (.Attribute e "values" apos) [] [] cpos) (iValsT td) := by
  refine ⟨fun pins s σ H R I ask => ?_⟩
  refine wpAny_Call_method (T := "dict") (id := "dict.values") hb rfl hl PySem.F.plainAttrs_dict PySem.F.slot_dict_values PySem.F.type_dict_values (thn (he.run pins s σ H _ I ask) fun u s1 ⟨x, H1, I1, rx, d, o, kvs, ex, frz, more⟩ => ?_)
  subst ex
  obtain rfl : u = Value.ref d := rx
  obtain ⟨nosys, es, ep, dat, raw, size, _⟩ := frzT_raw I1 frz
  have ty : s1.TypeIs (.ref d) "dict" := let ⟨q, e1, e2, _⟩ := raw; ⟨q, e1, e2.1⟩
  refine ⟨ty, fun a ea => (by
    cases ea
    obtain ⟨q, e1, e2, _⟩ := raw
    exact ⟨q, e1, e2.2.1⟩), ?_⟩
  have I2 : L2.Inv X pins σ H1 { s1 with heap := s1.heap.push { cls := .type "dict_values", data := .fields #[.ref d] } } := I1.kept (t' := s1.toks) fun b ob e => Heap.get?_push_of_some _ e
  have last : wpAny (model X.prog X.w) X.A (pyIter (.ref s1.heap.objs.size)) (PIE X pins σ tg R) X.xe { s1 with heap := s1.heap.push { cls := .type "dict_values", data := .fields #[.ref d] } } := by
    refine wpAny_pyIter_values_raw (d := d) (es := es) (ep := ep) ⟨_, Heap.get?_push_size _ rfl, rfl, rfl⟩ (let ⟨q, e1, e2, e3⟩ := raw; ⟨q, Heap.get?_push_of_some _ e1, e2, e3⟩) (pi_one (tk := s1.toks) I2 _ (turn_valuesT _ dat) ⟨_, Heap.get?_push_size _ rfl, rfl, ?_⟩ more)
    rw [size]
    rfl
  show wpAny _ _ (callWith cpos (.builtin "dict.values") [.ref d] [] []) _ X.xe s1
  exact method_meetsIn PySem.F.slot_dict_values PySem.F.entry_dict_values rfl (PySem.evalArgs_none ⟨rfl, ty, PySem.F.args_dict_values_1 _, _, meets_dict_values_raw d nosys, ⟨es, ep, raw⟩, last⟩)
end Sr

set_option Elab.async false
set_option linter.all false
set_option maxRecDepth 100000
set_option maxHeartbeats 4000000
namespace Sr
open PySem PySem.Spec PyProof.Rows L2
/-! ### d.setdefault(k, v), d a dict with tuples for keys -/
theorem setd_T {X : Cx} {pins : List (Addr × Obj)} {σ : L2.St} {H : Hp} {s : Shared} {A : Around} {E : Value → Shared → Prop} {d b : Addr} {kvs : List (List Key × V)} {k : List Key} {z : V} {r : Value} {Q : Value → Shared → Prop} (hu : A.units + 1 < cLine) (I : L2.Inv X pins σ H s)
    (hd : H d = some (.dT kvs)) (hb : H b = some (.tup (k.map kV))) (rz : RelV z r) (le : kvs.length < sizeLine)
    (there : ∀ v, valV kvs k = some v → ∀ (w' : Value) (s' : Shared), L2.Inv X pins σ H s' → RelV v w' → Q w' s') (new : valV kvs k = none → ∀ (w' : Value) (s' : Shared), L2.Inv X pins σ (upd H d (.dT (putK kvs k z))) s' → RelV z w' → Q w' s') :
    wpAny (model X.prog X.w) A (call (.builtin "dict.setdefault") [.ref d, .ref b, r]) Q E s := by
  obtain ⟨_, nosys, xs, rel, at_⟩ := dt_of I.hok hd
  have n1 : kvs.length = xs.length := Paired.length rel
  have look := rel.val k
  refine call_setdefault_heap (tupleKind_room_in1 hu) (key_of I.hok hb) nosys at_ (fun p hp => ?_) (fun hn h2 at2 same => ?_) (by omega)
  · rw [hp] at look
    cases e : valV kvs k with
    | none => rw [e] at look; exact look.elim
    | some v =>
      rw [e] at look
      exact there v e _ _ (I.tok _) look
  · rw [hn] at look
    cases e : valV kvs k with
    | some v => rw [e] at look; exact look.elim
    | none =>
      have l2 : (putK kvs k z).length ≤ sizeLine := by
        have := length_putK kvs k z
        omega
      obtain ⟨q, es, ep, hq, x2, x3, x4, _, x5⟩ := at2
      refine new e _ _ (d_write I (by rw [hd]; exact True.intro) same ⟨q, hq⟩ ⟨l2, nosys, _, (rel.put k hb rz).keeps fun c ys ec => ?_, q, es, ep, hq, x2, x3, x4, x5⟩) rz
      rw [upd_ne (ne_of ec hd fun z => nomatch z)]
      exact ec
def tDSetdT (td ty tx : TE) : TE := fun σ H Q => td σ H fun x H1 => ∃ a, x = .ref a ∧ IsD H1 a ∧ ty σ H1 fun y H2 => tx σ H2 fun z H3 => ∃ (kvs : List (List Key × V)) (k : List Key) (b : Addr), H3 a = some (.dT kvs) ∧ y = .ref b ∧ H3 b = some (.tup (k.map kV)) ∧ kvs.length < sizeLine ∧
  (∀ v, valV kvs k = some v → Q v H3) ∧ (valV kvs k = none → Q z (upd H3 a (.dT (putK kvs k z))))
theorem pe_dsetdT {X : Cx} {o e f : Expr} {td ty tx : TE} {apos cpos : Pos} (hu : X.A.units + 1 < cLine) (ho : PE X o td) (he : PE X e ty) (hf : PE X f tx) (m : M2 X o "setdefault" apos e f cpos) : PE X (.Call (.Attribute o "setdefault" apos) [e, f] [] cpos) (tDSetdT td ty tx) := by
  refine ⟨fun pins s σ H Q I ask => ?_⟩
  refine wpAny_Call_method m.base m.few m.line PySem.F.plainAttrs_dict PySem.F.slot_dict_setdefault PySem.F.type_dict_setdefault (thn (ho.run pins s σ H _ I ask) fun u s1 ⟨x, H1, I1, rx, a, ex, dd, q1⟩ => ?_)
  subst ex
  obtain rfl : u = Value.ref a := rx
  obtain ⟨ty1, ty2, _⟩ := isD_at I1 dd
  refine ⟨ty1, ty2, ?_⟩
  rw [m.trees]
  refine Calls.callWith_builtin rfl (Calls.evalArgs_plain (Calls.spliced_cons (thn (he.run pins s1 σ H1 _ I1 q1) fun kv s2 ⟨y, H2, I2, ry, q2⟩ => Calls.spliced_cons (thn (hf.run pins s2 σ H2 _ I2 q2) fun zv s3 ⟨z, H3, I3, rz, kvs, k, b, ha, ey, hb, le, q3, q4⟩ => Calls.spliced_nil ?_))))
  subst ey
  obtain rfl : kv = Value.ref b := ry
  exact setd_T hu I3 ha hb rz le (fun v hv w' s4 I4 r4 => ⟨v, _, I4, r4, q3 v hv⟩) fun hn w' s4 I4 r4 => ⟨z, _, I4, r4, q4 hn⟩
end Sr

set_option Elab.async false
set_option linter.all false
set_option maxRecDepth 100000
set_option maxHeartbeats 4000000
namespace K34
open PySem PySem.Spec PyProof.Rows L2 Sr
/-! ### what Waits keeps -/
def sk (s : Slot) : List Key := [Sum.inr s.1, Sum.inr s.2]
def lineK (its : Its) (s : Slot) : List (Key × V) := (qN its s).map fun (k : Nat) => (Sum.inl ((k : Nat) : Int), V.int (cum its s k))
/-- the queues in the order in which they come first -/
def addS (acc : List Slot) (g : Leg) : List Slot := if (g.1, g.2.1) ∈ acc then acc else acc ++ [(g.1, g.2.1)]
def slotsOf (its : Its) : List Slot := its.flatten.foldl addS []
def AllN (its : Its) (kt : List (List Key × V)) : Prop := (∀ s, qN its s ≠ [] → sk s ∈ kt.map (·.1)) ∧ kt.map (·.1) = (slotsOf its).map sk
def NeedsE (M : Hp) (kt : List (List Key × V)) (its : Its) : Prop := kt.length ≤ 24 ∧ (kt.map (·.1)).Nodup ∧ (∀ q ∈ kt, ∃ s d, q = (sk s, .ref d) ∧ M d = some (.dK (lineK its s)) ∧ qN its s ≠ []) ∧ AllN its kt
def NeedsR (M : Hp) (dN : Addr) (its : Its) : Prop := ∃ kt : List (List Key × V), M dN = some (.dT kt) ∧ NeedsE M kt its
def TkP (M : Hp) (v : V) (g : Leg) : Prop := ∃ t t2, v = .ref t ∧ M t = some (.tup [.ref t2, .int g.2.2.1]) ∧ M t2 = some (.tup [.str g.2.2.2, .str g.2.1])
def TakesR (M : Hp) (dT : Addr) (its : Its) : Prop := ∃ kk : List (Key × V), M dT = some (.dK kk) ∧ kk.length ≤ 12 ∧ ∀ (k : Nat) it, its[k]? = some it → ∃ l us, valV kk (Sum.inl (k : Int)) = some (.ref l) ∧ M l = some (.lst us) ∧ Paired (TkP M) us it
def IncR (H : Hp) (dI : Addr) (f : Slot → Int) (its : Its) : Prop := ∃ kt : List (List Key × V), H dI = some (.dT kt) ∧ kt.length ≤ 100 ∧ (∀ s v, valV kt (sk s) = some v → v = .int (f s)) ∧ (∀ s, valV kt (sk s) = none → f s = 0) ∧ ∀ it ∈ its, ∀ g ∈ it, (valV kt (sk (g.2.2.2, g.2.1))).isSome = true
def asK (A : List Nat) : List (Key × V) := A.map fun (n : Nat) => (Sum.inl ((n : Nat) : Int), V.bl true)
structure WaiS (K : PySem.W.Frag) (M : Hp) (x dI dN dT dA : Addr) (its : Its) : Prop where
  at_ : ∃ dx, M x = some (.ins (He.ga K "Waits") dx [("_income", .ref dI), ("_needs", .ref dN), ("_takes", .ref dT), ("_aside", .ref dA)])
  needs : NeedsR M dN its
  takes : TakesR M dT its
  nI : M dI = none
  nA : M dA = none
/-- what changes: the incomes, what is set aside -/
structure WaiD (H : Hp) (dI dA : Addr) (hs : Hs) (its : Its) (A : List Nat) : Prop where
  inc : IncR H dI (had hs its (rest its A)) its
  asd : H dA = some (.dK (asK A))
  nd : A.Nodup
  lt : ∀ k ∈ A, k < its.length
  ne : dI ≠ dA
theorem rd_same {H H' : Hp} {a : Addr} {u : HO} (s : Same H H') (h : Rd H a u) : Rd H' a u := h.imp (s _ _) fun ⟨o, e⟩ => ⟨o, s _ _ e⟩
/-- the same while what is set aside is walked over -/
structure WaiL (H : Hp) (dI dA : Addr) (hs : Hs) (its : Its) (A : List Nat) : Prop where
  inc : IncR H dI (had hs its (rest its A)) its
  asd : Rd H dA (.dK (asK A))
  ne : dI ≠ dA
theorem WaiD.lock {H : Hp} {dI dA : Addr} {hs : Hs} {its : Its} {A : List Nat} (w : WaiD H dI dA hs its A) : WaiL H dI dA hs its A := ⟨w.inc, .inl w.asd, w.ne⟩
theorem IncR.mono {H H' : Hp} {dI : Addr} {f : Slot → Int} {its : Its} (h : IncR H dI f its) (e : ∀ o, H dI = some o → H' dI = some o) : IncR H' dI f its := by
  obtain ⟨kt, a, b⟩ := h
  exact ⟨kt, e _ a, b⟩
structure Wai (K : PySem.W.Frag) (mg : Str → Option Value) : Prop where
  cl : Cls K (He.ga K "Waits")
  nI : NoAttr K (He.ga K "Waits") "_income"
  nN : NoAttr K (He.ga K "Waits") "_needs"
  nT : NoAttr K (He.ga K "Waits") "_takes"
  nA : NoAttr K (He.ga K "Waits") "_aside"
theorem sum_ones : ∀ l : List Nat, (l.map fun _ => (1 : Int)).sum = (l.length : Int)
  | [] => rfl
  | _ :: r => by
    rw [List.map_cons, List.sum_cons, sum_ones r, List.length_cons]
    omega
theorem nodup_lt {A : List Nat} {n : Nat} (nd : A.Nodup) (h : ∀ k ∈ A, k < n) : A.length ≤ n := by
  have := sub_set (f := fun _ => 1) (fun _ => by decide) nd (T := List.range n) fun k m => List.mem_range.mpr (h k m)
  rw [sum_ones, sum_ones, List.length_range] at this
  omega
theorem rest_snoc {its : Its} {A : List Nat} {n : Nat} (ln : n < its.length) (nA : n ∉ A) : (rest its A).Perm (n :: rest its (A ++ [n])) := by
  refine (List.perm_ext_iff_of_nodup (rest_nodup its A) (List.nodup_cons.mpr ⟨fun m => ?_, rest_nodup its _⟩)).mpr fun k => ?_
  · exact (rest_mem.mp m).2 (by simp)
  · rw [List.mem_cons, rest_mem, rest_mem, List.mem_append, List.mem_singleton]
    constructor
    · rintro ⟨h1, h2⟩
      by_cases e : k = n
      · exact .inl e
      · exact .inr ⟨h1, fun h => h.elim h2 e⟩
    · rintro (rfl | ⟨h1, h2⟩)
      · exact ⟨ln, nA⟩
      · exact ⟨h1, fun h => h2 (.inl h)⟩
theorem had_aside (hs : Hs) {its : Its} {A : List Nat} {n : Nat} (ln : n < its.length) (nA : n ∉ A) (s : Slot) : had hs its (rest its (A ++ [n])) s = had hs its (rest its A) s - tak (itA its n) s := by
  unfold had tsum
  rw [perm_sum (rest_snoc ln nA), List.map_cons, List.sum_cons]
  omega
theorem tak_snoc (it : List Leg) (g : Leg) (s : Slot) : tak (it ++ [g]) s = tak it s + if takB g s = true then g.2.2.1 else 0 := by
  unfold tak
  rw [List.filter_append, List.map_append, List.sum_append]
  cases e : takB g s with
  | true => rw [List.filter_cons_of_pos (by exact e), if_pos rfl]; simp
  | false => rw [List.filter_cons_of_neg (by rw [e]; exact Bool.false_ne_true), if_neg Bool.false_ne_true]; simp
theorem putK_same_len {κ : Type} [DecidableEq κ] {kvs : List (κ × V)} {k : κ} {v y : V} (h : valV kvs k = some v) : (putK kvs k y).length = kvs.length := by
  unfold putK
  rw [if_pos]
  · rw [List.length_map]
  · unfold valV at h
    obtain ⟨p, hp, _⟩ := Option.map_eq_some_iff.mp h
    exact List.any_eq_true.mpr ⟨p, List.mem_of_find?_eq_some hp, decide_eq_true (by simpa using List.find?_some hp)⟩
theorem sk_inj {s s' : Slot} (h : sk s = sk s') : s = s' := by
  unfold sk at h
  injection h with h1 h2
  injection h2 with h2 _
  exact Prod.ext (Sum.inr.inj h1) (Sum.inr.inj h2)
theorem takB_iff {g : Leg} {s : Slot} : takB g s = true ↔ s = (g.2.2.2, g.2.1) := by
  unfold takB
  rw [Bool.and_eq_true, decide_eq_true_iff, decide_eq_true_iff]
  exact ⟨fun h => Prod.ext h.1.symm h.2.symm, fun h => ⟨by rw [h], by rw [h]⟩⟩
section
variable {P : Program} {w : World} {K : PySem.W.Frag} {mg : Str → Option Value} {base : Heap}
abbrev s_Waits_set_aside : Stmt := inClass (top 24) 1
theorem sc_Waits_set_aside : FnScope ["self", "number", "key", "many"] ["self", "number"] (defScope s_Waits_set_aside) := ⟨rfl, rfl, rfl, by decide +kernel, rfl, by decide +kernel, by decide +kernel⟩
def spAside (K : PySem.W.Frag) : Sp := fun vs H Q _ => ∃ (M : Hp) (x dI dN dT dA : Addr) (hs : Hs) (its : Its) (A : List Nat) (n : Nat), vs = [.ref x, .int (n : Nat)] ∧ Same M H ∧ WaiS K M x dI dN dT dA its ∧ goodIts its ∧ WaiD H dI dA hs its A ∧ n < its.length ∧ n ∉ A ∧
  ∀ H', (∀ b o, b ≠ dI → b ≠ dA → H b = some o → H' b = some o) → WaiD H' dI dA hs its (A ++ [n]) → Q .non H'
theorem m_set_aside (T : Txt K mg) (O : Wai K mg) (D : DfnM K "Waits" "set_aside" "Waits.set_aside" s_Waits_set_aside) : CalM P w K mg base CX0 1 (He.fAd K ("Waits", some "set_aside")) ["self", "number"] (spAside K) := by
  refine D.cal sc_Waits_set_aside (fun _ _ _ _ _ _ us hl => match us, hl with | [_, _], _ => rfl) (fun vs H Q E h => ?_) fun cdv A outer s H vs Q E hr h => ?_
  · obtain ⟨_, x, dI, dN, dT, dA, hs, its, A, n, rfl, _⟩ := h
    rfl
  obtain ⟨M, x, dI, dN, dT, dA, hs, its, As, n, rfl, sM, ws, gi, wd, ln, nA, q⟩ := h
  refine ⟨_, (pss_cons (ps_dput (hu_of hr) (pe_fld (pv 0) rfl) (pv 1) pe_bl rfl)
      (pss_one (ps_for PassesOwn.never rfl (pi_list (pe_dget (hu_of hr) (pe_fld (pv 0) rfl) (pv 1) (fun _ _ => rfl))) (pg_tup rfl (pgs_cons (pg_name (i := 2) sc_Waits_set_aside.nd rfl (by first | exact Or.inl rfl | exact Or.inr rfl)) (pgs_cons (pg_name (i := 3) sc_Waits_set_aside.nd rfl (by first | exact Or.inl rfl | exact Or.inr rfl)) pgs_nil)))
      (pss_one (ps_daug (hu_of hr) (pe_fld (pv 0) rfl) (pv 2) (pv 3) in_sub (fun _ _ _ => rfl)))))), ?_⟩
  obtain ⟨⟨dx, hx⟩, _, htk, nI, nAA⟩ := ws
  obtain ⟨hinc, hasd, ndA, ltA, neIA⟩ := wd
  have hx' := sM _ _ hx
  obtain ⟨kk, hk, lk, tk⟩ := htk
  have nxA : x ≠ dA := fun z => by rw [z, nAA] at hx; cases hx
  have nxI : x ≠ dI := fun z => by rw [z, nI] at hx; cases hx
  have lA : As.length ≤ 12 := Nat.le_trans (nodup_lt ndA ltA) gi.1
  have nk : (Sum.inl ((n : Nat) : Int) : Key) ∉ (asK As).map (·.1) := fun m => by
    unfold asK at m
    rw [List.map_map] at m
    obtain ⟨k, mk, e⟩ := List.mem_map.mp m
    have e : (Sum.inl ((k : Nat) : Int) : Key) = Sum.inl ((n : Nat) : Int) := e
    have : k = n := by
      have := Sum.inl.inj e
      omega
    exact nA (this ▸ mk)
  have eA : putK (asK As) (Sum.inl ((n : Nat) : Int)) (V.bl true) = asK (As ++ [n]) := by
    rw [Sr.putK_new nk]
    unfold asK
    rw [List.map_append]
    rfl
  refine ⟨_, rfl, x, _, dx, _, _, rfl, hx', O.cl, O.nA, rfl, _, rfl, dA, _, rfl, .inl ⟨asK As, Sum.inl ((n : Nat) : Int), hasd, rfl, sz (m := 60) (by unfold asK; rw [List.length_map]; omega) (by decide), rfl⟩, ?_⟩
  rw [eA]
  have up1 : ∀ b o, b ≠ dA → H b = some o → (upd H dA (.dK (asK (As ++ [n])))) b = some o := fun b o nb e => by rw [upd_ne nb]; exact e
  have a1 : (upd H dA (.dK (asK (As ++ [n])))) dA = some (.dK (asK (As ++ [n]))) := upd_same
  have i1 : IncR (upd H dA (.dK (asK (As ++ [n])))) dI (had hs its (rest its As)) its := by
    obtain ⟨kt, e1, e2⟩ := hinc
    exact ⟨kt, up1 _ _ neIA e1, e2⟩
  generalize upd H dA _ = G at up1 a1 i1 ⊢
  have old : ∀ b o, M b = some o → G b = some o := fun b o e => up1 b o (fun z => by rw [z, nAA] at e; cases e) (sM _ _ e)
  have hit : its[n]? = some (itA its n) := by
    unfold itA
    rw [List.getElem?_eq_getElem ln]
    rfl
  obtain ⟨l, us, hv, hl, pr⟩ := tk n _ hit
  have lus : us.length = (itA its n).length := Paired.length pr
  obtain ⟨gi1, gi2⟩ := gi.2 _ (List.mem_of_getElem? hit)
  try dsimp only
  refine ⟨_, rfl, x, _, dx, _, _, rfl, old _ _ hx, O.cl, O.nT, rfl, _, rfl, dT, _, rfl, .inl ⟨kk, Sum.inl ((n : Nat) : Int), .inl (old _ _ hk), rfl, hv.symm⟩, l, rfl, ⟨_, SqL.of (old _ _ hl)⟩, for_it (walk_list (xs := us)) (fun i σ H' => (∃ v2 v3, σ = [some (.ref x), some (.int (n : Nat)), v2, v3]) ∧ (∀ b o, b ≠ dI → G b = some o → H' b = some o) ∧ IncR H' dI (fun s => had hs its (rest its As) s - tak ((itA its n).take i) s) its) ⟨⟨_, _, rfl⟩, fun _ _ _ e => e, ?_⟩ (fun i σ H' _ pp => ?_) ?_ ?_⟩
  · have : (fun s => had hs its (rest its As) s - tak ((itA its n).take 0) s) = had hs its (rest its As) := funext fun s => by
      show had hs its (rest its As) s - 0 = _
      omega
    rw [this]
    exact i1
  · exact SqL.of (pp.2.1 _ _ (fun z => by rw [z, nI] at hl; cases hl) (old _ _ hl))
  · rintro i u σ H1 H2 hi ⟨⟨v2, v3, rfl⟩, kp, kt, hkt, lkt, val, non, some_⟩ ⟨rfl, hu⟩
    have keep : ∀ b o, M b = some o → H2 b = some o := fun b o e => kp b o (fun z => by rw [z, nI] at e; cases e) (old _ _ e)
    have hg : (itA its n)[i]? = some ((itA its n)[i]'(by omega)) := List.getElem?_eq_getElem _
    generalize (itA its n)[i]'(by omega) = g at hg
    obtain ⟨t1, t2, rfl, h1, h2⟩ := Paired.at2 pr hu hg
    have mg := List.mem_of_getElem? hg
    have so := some_ _ (List.mem_of_getElem? hit) g mg
    obtain ⟨v, hvv⟩ := Option.isSome_iff_exists.mp so
    obtain rfl := val _ _ hvv
    refine ⟨t1, _, rfl, SqT.of (keep _ _ h1), rfl, _, _, rfl, _, _, rfl, rfl, ?_⟩
    try dsimp only
    have et : (itA its n).take (i + 1) = (itA its n).take i ++ [g] := by rw [List.take_add_one, hg]; rfl
    refine ⟨_, rfl, x, _, dx, _, _, rfl, keep _ _ hx, O.cl, O.nI, rfl, _, rfl, dI, _, rfl, .inr ⟨kt, sk (g.2.2.2, g.2.1), t2, .inl hkt, rfl, keep _ _ h2, hvv.symm⟩, _, rfl, _, _, rfl, rfl, _, .inr ⟨kt, sk (g.2.2.2, g.2.1), t2, hkt, rfl, keep _ _ h2, sz (m := 200) (by omega), rfl⟩, ⟨_, _, rfl⟩, fun b o nb e => ?_, ?_⟩
    · rw [upd_ne nb]
      exact kp b o nb e
    · refine ⟨_, upd_same, ?_, fun s v hv => ?_, fun s hv => ?_, fun it mi g' mg' => ?_⟩
      · rw [putK_same_len hvv]
        exact lkt
      · rw [valV_put] at hv
        rw [et]
        dsimp only
        rw [tak_snoc]
        by_cases c : sk s = sk (g.2.2.2, g.2.1)
        · rw [if_pos c] at hv
          obtain rfl := sk_inj c
          rw [if_pos (takB_iff.mpr rfl), ← Option.some.inj hv]
          congr 1
          dsimp only
          omega
        · rw [if_neg c] at hv
          rw [if_neg fun h => c (by rw [takB_iff.mp h]), val s v hv]
          congr 1
          dsimp only
          omega
      · rw [valV_put] at hv
        by_cases c : sk s = sk (g.2.2.2, g.2.1)
        · rw [if_pos c] at hv
          cases hv
        · rw [if_neg c] at hv
          rw [et]
          dsimp only
          rw [tak_snoc, if_neg fun h => c (by rw [takB_iff.mp h])]
          have := non s hv
          dsimp only at this
          omega
      · rw [valV_put]
        split
        · rfl
        · exact some_ it mi g' mg'
  · rintro σ H1 ⟨⟨v2, v3, rfl⟩, kp, inc⟩
    rw [lus, List.take_length] at inc
    refine q H1 (fun b o n1 n2 e => kp b o n1 (up1 b o n2 e)) ⟨?_, kp _ _ neIA.symm a1, ?_, fun k m => ?_, neIA⟩
    · have : (fun s => had hs its (rest its As) s - tak (itA its n) s) = had hs its (rest its (As ++ [n])) := funext fun s => (had_aside hs ln nA s).symm
      rw [← this]
      exact inc
    · rw [List.nodup_append]
      exact ⟨ndA, by simp, fun a ha b hb e => nA (by rw [List.mem_singleton.mp hb] at e; rw [← e]; exact ha)⟩
    · rcases List.mem_append.mp m with m | m
      · exact ltA k m
      · rw [List.mem_singleton.mp m]
        exact ln
end
end K34

set_option Elab.async false
set_option linter.all false
set_option maxRecDepth 100000
set_option maxHeartbeats 4000000
namespace Sr
open PySem PySem.Spec PyProof.Rows L2
/-! ### what sums add up to -/
/-- what stands of k in rows -/
def tot {α κ : Type} [DecidableEq κ] (key : α → κ) (am : α → Int) (k : κ) : List α → Int
  | [] => 0
  | r :: t => (if key r = k then am r else 0) + tot key am k t
section
variable {α κ : Type} [DecidableEq κ] {key : α → κ} {am : α → Int}
theorem tot_app {k : κ} : ∀ {rs qs : List α}, tot key am k (rs ++ qs) = tot key am k rs + tot key am k qs
  | [], qs => (Int.zero_add _).symm
  | r :: t, qs => by
    show _ + tot key am k (t ++ qs) = _ + tot key am k t + _
    rw [tot_app, Int.add_assoc]
theorem val_bump {kvs : List (κ × V)} {j k : κ} {n : Int} : intOf (valV (bump kvs j n) k) = intOf (valV kvs k) + if j = k then n else 0 := by
  unfold bump
  rw [valV_put]
  by_cases e : k = j
  · rw [if_pos e, if_pos e.symm, e]
    rfl
  · rw [if_neg e, if_neg (fun z => e z.symm), Int.add_zero]
theorem sums_val (k : κ) : ∀ (rs : List α) (kvs : List (κ × V)), intOf (valV (rs.foldl (fun kvs r => bump kvs (key r) (am r)) kvs) k) = intOf (valV kvs k) + tot key am k rs
  | [], kvs => (Int.add_zero _).symm
  | r :: t, kvs => by
    show intOf (valV (t.foldl _ (bump kvs (key r) (am r))) k) = _ + (_ + tot key am k t)
    rw [sums_val k t, val_bump, Int.add_assoc]
/-- of all rows -/
theorem sums_tot (rs : List α) (k : κ) : intOf (valV (sums key am rs) k) = tot key am k rs := by
  have h := sums_val (key := key) (am := am) k rs []
  rw [show intOf (valV ([] : List (κ × V)) k) = 0 from rfl, Int.zero_add] at h
  exact h
theorem none_at {kvs : List (κ × V)} {k : κ} (h : valV kvs k = none) : ∀ e ∈ kvs, e.1 ≠ k := fun e m z => by
  unfold valV at h
  have := List.find?_eq_none.mp (Option.map_eq_none_iff.mp h) e m
  exact this (decide_eq_true z)
theorem has_iff {kvs : List (κ × V)} {k : κ} : k ∈ kvs.map (·.1) ↔ valV kvs k ≠ none := by
  constructor
  · intro h z
    obtain ⟨e, m, rfl⟩ := List.mem_map.mp h
    exact none_at z e m rfl
  · intro h
    obtain ⟨v, hv⟩ := Option.ne_none_iff_exists'.mp h
    exact List.mem_map.mpr ⟨_, val_mem hv, rfl⟩
theorem bump_has {kvs : List (κ × V)} {j k : κ} {n : Int} : valV (bump kvs j n) k ≠ none ↔ k = j ∨ valV kvs k ≠ none := by
  unfold bump
  rw [valV_put]
  split
  · next h => exact ⟨fun _ => .inl h, fun _ => by simp⟩
  · next h => exact ⟨.inr, fun z => z.resolve_left h⟩
/-- which keys stand in sums -/
theorem fold_has (k : κ) : ∀ (rs : List α) (kvs : List (κ × V)), valV (rs.foldl (fun kvs r => bump kvs (key r) (am r)) kvs) k ≠ none ↔ (∃ r ∈ rs, key r = k) ∨ valV kvs k ≠ none
  | [], kvs => ⟨.inr, fun h => h.resolve_left fun ⟨_, m, _⟩ => nomatch m⟩
  | q :: t, kvs => by
    show valV (t.foldl _ (bump kvs (key q) (am q))) k ≠ none ↔ _
    rw [fold_has k t, bump_has]
    constructor
    · rintro (⟨r, m, e⟩ | e | e)
      · exact .inl ⟨r, List.mem_cons_of_mem _ m, e⟩
      · exact .inl ⟨q, List.mem_cons_self, e.symm⟩
      · exact .inr e
    · rintro (⟨r, m, e⟩ | e)
      · rcases List.mem_cons.mp m with rfl | m
        · exact .inr (.inl e.symm)
        · exact .inl ⟨r, m, e⟩
      · exact .inr (.inr e)
theorem sums_has {rs : List α} {k : κ} : k ∈ (sums key am rs).map (·.1) ↔ ∃ r ∈ rs, key r = k := by
  rw [has_iff]
  have h := fold_has (key := key) (am := am) k rs []
  exact h.trans ⟨fun z => z.resolve_right (by simp [valV]), .inl⟩
end
/-- the sum of a function over keys -/
def sumOf {κ : Type} (f : κ → Int) : List κ → Int
  | [] => 0
  | k :: t => f k + sumOf f t
theorem sumOf_add {κ : Type} {f g : κ → Int} : ∀ {ks : List κ}, sumOf (fun k => f k + g k) ks = sumOf f ks + sumOf g ks
  | [] => rfl
  | k :: t => by
    show f k + g k + sumOf (fun k => f k + g k) t = (f k + sumOf f t) + (g k + sumOf g t)
    rw [sumOf_add]
    omega
theorem sumOf_zero {κ : Type} {f : κ → Int} : ∀ {ks : List κ}, (∀ k ∈ ks, f k = 0) → sumOf f ks = 0
  | [], _ => rfl
  | k :: t, h => by
    show f k + sumOf f t = 0
    rw [h k List.mem_cons_self, sumOf_zero fun j m => h j (List.mem_cons_of_mem _ m)]
    rfl
theorem sumOf_congr {κ : Type} {f g : κ → Int} : ∀ {ks : List κ}, (∀ k ∈ ks, f k = g k) → sumOf f ks = sumOf g ks
  | [], _ => rfl
  | k :: t, h => by
    show f k + sumOf f t = g k + sumOf g t
    rw [h k List.mem_cons_self, sumOf_congr fun j m => h j (List.mem_cons_of_mem _ m)]
/-- one key stands once -/
theorem sumOf_one {κ : Type} [DecidableEq κ] {j : κ} {n : Int} : ∀ {ks : List κ}, ks.Nodup → j ∈ ks → sumOf (fun k => if j = k then n else 0) ks = n
  | k :: t, nd, m => by
    have nd := List.nodup_cons.mp nd
    show (if j = k then n else 0) + sumOf _ t = n
    by_cases e : j = k
    · rw [if_pos e, sumOf_zero fun i mi => if_neg fun z => nd.1 (by rw [← e, z]; exact mi), Int.add_zero]
    · rw [if_neg e, sumOf_one nd.2 ((List.mem_cons.mp m).resolve_left e), Int.zero_add]
/-- what is dropped adds nothing -/
theorem sumOf_filter {κ : Type} {f : κ → Int} {p : κ → Bool} : ∀ {ks : List κ}, (∀ k ∈ ks, p k = false → f k = 0) → sumOf f (ks.filter p) = sumOf f ks
  | [], _ => rfl
  | k :: t, h => by
    have ih := sumOf_filter (f := f) (p := p) (ks := t) fun j m => h j (List.mem_cons_of_mem _ m)
    rw [List.filter_cons]
    cases c : p k with
    | true =>
      rw [if_pos rfl]
      show f k + sumOf f (t.filter p) = f k + sumOf f t
      rw [ih]
    | false =>
      rw [if_neg (by simp)]
      show sumOf f (t.filter p) = f k + sumOf f t
      rw [ih, h k List.mem_cons_self c, Int.zero_add]
section
variable {α κ μ : Type} [DecidableEq κ] [DecidableEq μ] {key : α → κ} {am : α → Int}
/-- rows told apart by a finer key add up to the same by a coarser one -/
theorem tot_fine {c : κ → μ} {m : μ} {ks : List κ} (nd : ks.Nodup) : ∀ {rs : List α}, (∀ r ∈ rs, key r ∈ ks) → sumOf (fun k => if c k = m then tot key am k rs else 0) ks = tot (fun r => c (key r)) am m rs
  | [], _ => sumOf_zero fun k _ => by simp only [tot, ite_self]
  | r :: t, h => by
    have ih := tot_fine (c := c) (m := m) nd (rs := t) fun q mq => h q (List.mem_cons_of_mem _ mq)
    show _ = (if c (key r) = m then am r else 0) + tot _ am m t
    rw [← ih]
    have e : sumOf (fun k => if key r = k then (if c (key r) = m then am r else 0) else 0) ks = if c (key r) = m then am r else 0 := sumOf_one nd (h r List.mem_cons_self)
    rw [← e, ← sumOf_add]
    refine sumOf_congr fun k _ => ?_
    show (if c k = m then (if key r = k then am r else 0) + tot key am k t else 0) = _
    by_cases z : key r = k
    · subst z
      by_cases y : c (key r) = m
      · simp [y]
      · simp [y]
    · simp [z]
theorem tot_keys {f : κ → Int} {c : κ → μ} {m : μ} : ∀ {ks : List κ}, tot c f m ks = sumOf (fun k => if c k = m then f k else 0) ks
  | [] => rfl
  | k :: t => by
    show _ + tot c f m t = _ + sumOf _ t
    rw [tot_keys]
end
end Sr

set_option Elab.async false
set_option linter.all false
set_option maxRecDepth 100000
set_option maxHeartbeats 4000000
namespace Sr
open PySem PySem.Spec PyProof.Rows L2
/-- a method with arguments that raises nothing, from CalM -/
theorem mA_ {X : Cx} {K : PySem.W.Frag} {k j : Nat} {C f : Addr} {ps : List Str} {sp : Sp} {m : Str} {o e : Expr} {es : List Expr} {ta : TE} {t : TA} {p apos : Pos} {pl : Sem Bool} (M : CalM X.prog X.w K X.mg X.base CX0 k f ps sp) (hK : X.K = K) (hr : Room j X.A) (hk : k ≤ j) (c : Cls K C) (hm : Meth K C m f) (he : PE X o ta) (ha : PA X (e :: es) t)
    (hst : starEach (e :: es) X.env = (false, eval e X.env) :: starEach es X.env := by rfl) (hpl : (backTo p (starEach es X.env)).any (·.1) = false := by rfl)
    (ht : eval (.Call (.Attribute o m apos) (e :: es) [] p) X.env = (do
      let ov ← eval o X.env
      standAt apos.atName
      let (f, first) ← holding [ov] (getMethod ov m pl)
      callWith p f first (backTo p (starEach (e :: es) X.env)) (backToKw p (keywordEach [] X.env))) := by rfl) : PE X (.Call (.Attribute o m apos) (e :: es) [] p) (tMeth C m sp [] E0 ta t) := by
  subst hK
  obtain ⟨fd, F, kp, hb⟩ := M.ex
  exact pe_meth he c hm F (hr.mono hk) hb .nil pass0 ha hst hpl ht
end Sr

set_option Elab.async false
set_option linter.all false
set_option maxRecDepth 100000
set_option maxHeartbeats 4000000
namespace K34
open PySem PySem.Spec PyProof.Rows L2 Sr
/-! ### is_aside, is_behind, is_short, why -/
theorem valV_map {α : Type} {f : α → Key} {g : α → V} (inj : ∀ a b, f a = f b → a = b) : ∀ {l : List α} {a : α}, a ∈ l → valV (l.map fun a => (f a, g a)) (f a) = some (g a)
  | b :: r, a, m => by
    rw [List.map_cons]
    by_cases e : f b = f a
    · rw [valV_pos e, inj b a e]
    · rw [valV_neg e]
      exact valV_map inj ((List.mem_cons.mp m).resolve_left fun z => e (by rw [z]))
theorem valV_map_none {α : Type} {f : α → Key} {g : α → V} {k : Key} : ∀ {l : List α}, (∀ a ∈ l, f a ≠ k) → valV (l.map fun a => (f a, g a)) k = none
  | [], _ => rfl
  | b :: r, h => by
    rw [List.map_cons, valV_neg (h b List.mem_cons_self)]
    exact valV_map_none fun a m => h a (List.mem_cons_of_mem _ m)
theorem inl_inj (a b : Nat) (e : (Sum.inl ((a : Nat) : Int) : Key) = Sum.inl ((b : Nat) : Int)) : a = b := by
  have := Sum.inl.inj e
  omega
theorem as_val (A : List Nat) (n : Nat) : (valV (asK A) (Sum.inl ((n : Nat) : Int))).isSome = decide (n ∈ A) := by
  by_cases m : n ∈ A
  · unfold asK
    rw [valV_map (f := fun (n : Nat) => (Sum.inl ((n : Nat) : Int) : Key)) (g := fun _ => V.bl true) inl_inj m, decide_eq_true m]
    rfl
  · unfold asK
    rw [valV_map_none (f := fun (n : Nat) => (Sum.inl ((n : Nat) : Int) : Key)) (g := fun _ => V.bl true) fun a ma e => m (inl_inj a n e ▸ ma), decide_eq_false m]
    rfl
theorem line_val (its : Its) (s : Slot) (n : Nat) : valV (lineK its s) (Sum.inl ((n : Nat) : Int)) = if n ∈ qN its s then some (.int (cum its s n)) else none := by
  unfold lineK
  by_cases m : n ∈ qN its s
  · rw [if_pos m, valV_map (f := fun (n : Nat) => (Sum.inl ((n : Nat) : Int) : Key)) (g := fun (k : Nat) => V.int (cum its s k)) inl_inj m]
  · rw [if_neg m, valV_map_none (f := fun (n : Nat) => (Sum.inl ((n : Nat) : Int) : Key)) (g := fun (k : Nat) => V.int (cum its s k)) fun a ma e => m (inl_inj a n e ▸ ma)]
def slotOf : List Key → Slot
  | [Sum.inr a, Sum.inr b] => (a, b)
  | _ => ("", "")
theorem slotOf_sk (s : Slot) : slotOf (sk s) = s := rfl
section
variable {P : Program} {w : World} {K : PySem.W.Frag} {mg : Str → Option Value} {base : Heap}
def spIsAside (K : PySem.W.Frag) : Sp := fun vs H Q _ => ∃ (M : Hp) (x dI dN dT dA : Addr) (hs : Hs) (its : Its) (A : List Nat) (n : Nat), vs = [.ref x, .int (n : Nat)] ∧ Same M H ∧ WaiS K M x dI dN dT dA its ∧ WaiL H dI dA hs its A ∧ Q (.bl (decide (n ∈ A))) H
def spBehind (K : PySem.W.Frag) : Sp := fun vs H Q _ => ∃ (M : Hp) (x dI dN dT dA : Addr) (hs : Hs) (its : Its) (A : List Nat) (n m : Nat), vs = [.ref x, .int (n : Nat), .int (m : Nat)] ∧ Same M H ∧ WaiS K M x dI dN dT dA its ∧ WaiL H dI dA hs its A ∧ ∀ b H', Same H H' → (b = true ↔ okWhy hs its A n (.behind m)) → Q (.bl b) H'
abbrev s_Waits_is_behind : Stmt := inClass (top 24) 3
theorem sc_Waits_is_behind : FnScope ["self", "number", "other", "line"] ["self", "number", "other"] (defScope s_Waits_is_behind) := ⟨rfl, rfl, rfl, by decide +kernel, rfl, by decide +kernel, by decide +kernel⟩
theorem m_is_behind (T : Txt K mg) (O : Wai K mg) (D : DfnM K "Waits" "is_behind" "Waits.is_behind" s_Waits_is_behind) : CalM P w K mg base CX0 1 (He.fAd K ("Waits", some "is_behind")) ["self", "number", "other"] (spBehind K) := by
  refine D.cal sc_Waits_is_behind (fun _ _ _ _ _ _ us hl => match us, hl with | [_, _, _], _ => rfl) (fun vs H Q E h => ?_) fun cdv A outer s H vs Q E hr h => ?_
  · obtain ⟨_, x, dI, dN, dT, dA, hs, its, A, n, m, rfl, _⟩ := h
    rfl
  obtain ⟨M, x, dI, dN, dT, dA, hs, its, As, n, m, rfl, sM, ws, wd, q⟩ := h
  obtain ⟨⟨dx, hx⟩, ⟨kt, hN, lk, ndk, ent, all⟩, _, nI, nAA⟩ := ws
  refine ⟨_, (pss_cons (ps_if (PW.pt (pw_or (pt_cmp (pc_dnotin (hu_of hr) (pv 2) (pe_fld (pv 0) rfl))) (pw_or1 (pt_cmpR op_ge (pv 2) (pv 1) (nomark _))))) (pss_one (ps_ret pe_bl)) pss_nil)
      (pss_one (ps_ret (pe_callB (id := "any") (cr_any rfl) (by rfl) T.any (by decide +kernel) (pa_cons (pe_lock (pe_lc (own := [("line", 3)]) (g := gName 3) (tt := tYes) rfl sc_Waits_is_behind.nd (pi_valuesT (pe_fld (pv 0) rfl)) (blkOk_by (N := ["self", "number", "other", "line"]) (sc := defScope s_Waits_is_behind) (by decide +kernel)) (fun _ _ _ _ _ => (pg_name (i := 3) sc_Waits_is_behind.nd rfl (by first | exact Or.inl rfl | exact Or.inr rfl))) (fun _ _ _ _ _ => pts_nil) (fun _ _ _ _ _ => (pe_and (pe_cmp (pc_din (hu_of hr) (pv 2) (pv 3)) rfl) (pe_one (pe_cmp (pc_din (hu_of hr) (pv 1) (pv 3)) rfl)))))) pa_nil))))), ?_⟩
  have hx' := sM _ _ hx
  refine ⟨_, rfl, _, rfl, x, _, dx, _, _, rfl, hx', O.cl, O.nA, rfl, dA, _, rfl, .inl ⟨asK As, Sum.inl ((m : Nat) : Int), wd.asd, rfl, rfl⟩, ?_⟩
  rw [as_val]
  by_cases mA : m ∈ As
  case neg =>
    rw [decide_eq_false mA]
    exact ⟨true, rfl, iteT (iteT (q false H (fun _ _ e => e) ⟨fun z => Bool.noConfusion z, fun z => absurd z.1 mA⟩))⟩
  rw [decide_eq_true mA]
  refine ⟨false, rfl, iteF ⟨_, rfl, _, rfl, _, _, rfl, rfl, _, rfl, ?_⟩⟩
  by_cases lt : m < n
  case neg =>
    rw [decide_eq_true (by omega)]
    exact iteT (q false H (fun _ _ e => e) ⟨fun z => Bool.noConfusion z, fun z => absurd z.2.1 lt⟩)
  rw [decide_eq_false (by omega)]
  refine iteF ?_
  refine ⟨dN, _, sM _ _ hN, trivial, fun od => ?_⟩
  have hF : (upd H dN (.frz od (.dT kt))) dN = some (.frz od (.dT kt)) := upd_same
  have kp : ∀ b o, b ≠ dN → M b = some o → (upd H dN (.frz od (.dT kt))) b = some o := fun b o nb e => by rw [upd_ne nb]; exact sM _ _ e
  have nxN : x ≠ dN := fun z => by rw [z, hN] at hx; cases hx
  have bk : ∀ {H'}, Same (upd H dN (.frz od (.dT kt))) H' → Same H (upd H' dN (.dT kt)) := fun s a o e => by
    by_cases ha : a = dN
    · rw [ha] at e ⊢
      rw [sM _ _ hN] at e
      cases e
      exact upd_same
    · rw [upd_ne ha]
      exact s _ _ (by rw [upd_ne ha]; exact e)
  generalize upd H dN (.frz od (.dT kt)) = F at hF kp bk ⊢
  let f : List Key × V → Bool := fun q => decide (m ∈ qN its (slotOf q.1)) && decide (n ∈ qN its (slotOf q.1))
  refine ⟨_, rfl, x, _, dx, _, _, rfl, kp _ _ nxN hx, O.cl, O.nN, rfl, dN, od, kt, rfl, hF, fun B hB => lc_f walk_valuesT (At := fun i _ x => ∃ k, kt[i]? = some (k, x)) (fun _ _ _ _ y => y) kt (fun q => V.bl (f q)) rfl (sz (m := 60) (by omega)) hB (fun H' s' => s' _ _ hF) (fun j u p H5 A lt hu hz s5 kA => ?_) (fun H5 s5 h5 => ?_)⟩
  · obtain ⟨k, hk⟩ := hu
    rw [hz] at hk
    obtain rfl := Option.some.inj hk
    obtain ⟨sl, d, e, hd, _⟩ := ent _ (List.mem_of_getElem? hz)
    cases e
    have ndN : d ≠ dN := fun z => by rw [z, hN] at hd; cases hd
    have h5 := s5 _ _ (kp _ _ ndN hd)
    refine ⟨rfl, ?_⟩
    refine ⟨_, rfl, _, rfl, d, _, rfl, .inl ⟨_, Sum.inl ((m : Nat) : Int), .inl h5, rfl, rfl⟩, _, rfl, ?_⟩
    have ef : f (sk sl, .ref d) = (decide (m ∈ qN its sl) && decide (n ∈ qN its sl)) := rfl
    rw [ef] at kA
    rw [line_val]
    by_cases mm : m ∈ qN its sl
    · rw [decide_eq_true mm, Bool.true_and] at kA
      rw [if_pos mm]
      refine iteT ⟨_, rfl, _, rfl, d, _, rfl, .inl ⟨_, Sum.inl ((n : Nat) : Int), .inl h5, rfl, rfl⟩, ?_⟩
      rw [line_val]
      by_cases mn : n ∈ qN its sl
      · rw [decide_eq_true mn] at kA
        rw [if_pos mn]
        exact kA _ (fun _ _ e => e)
      · rw [decide_eq_false mn] at kA
        rw [if_neg mn]
        exact kA _ (fun _ _ e => e)
    · rw [decide_eq_false mm, Bool.false_and] at kA
      rw [if_neg mm]
      exact iteF (kA _ (fun _ _ e => e))
  · have nB : B ≠ dN := fun z => by
        rw [z, hF] at hB
        cases hB
    refine ⟨s5 _ _ hF, B, kt.map f, rfl, SqL.of ?_, q _ _ (bk s5) ?_⟩
    · rw [upd_ne nB, h5, List.map_map]
      rfl
    · rw [List.any_map, List.any_eq_true]
      constructor
      · rintro ⟨p, mp, e⟩
        obtain ⟨sl, d, rfl, _, _⟩ := ent p mp
        obtain ⟨e1, e2⟩ := Bool.and_eq_true_iff.mp e
        exact ⟨mA, lt, sl, of_decide_eq_true e2, of_decide_eq_true e1⟩
      · rintro ⟨_, _, sl, e1, e2⟩
        obtain ⟨p, mp, ep⟩ := List.mem_map.mp (all.1 sl (List.ne_nil_of_mem e1))
        refine ⟨p, mp, ?_⟩
        show (decide (m ∈ qN its (slotOf p.1)) && decide (n ∈ qN its (slotOf p.1))) = true
        rw [ep, slotOf_sk, decide_eq_true e1, decide_eq_true e2]
        rfl
def spShort (K : PySem.W.Frag) : Sp := fun vs H Q _ => ∃ (M : Hp) (x dI dN dT dA : Addr) (hs : Hs) (its : Its) (A : List Nat) (n : Nat) (s : Slot), vs = [.ref x, .int (n : Nat), .str s.1, .str s.2] ∧ Same M H ∧ (∃ dx, M x = some (.ins (He.ga K "Waits") dx [("_income", .ref dI), ("_needs", .ref dN), ("_takes", .ref dT), ("_aside", .ref dA)])) ∧ (∃ kt, Rd H dN (.dT kt) ∧ NeedsE M kt its) ∧ WaiL H dI dA hs its A ∧ ∀ b H', Same H H' → (b = true ↔ okWhy hs its A n (.short s)) → Q (.bl b) H'
abbrev s_Waits_is_short : Stmt := inClass (top 24) 4
theorem sc_Waits_is_short : FnScope ["self", "number", "member", "thing", "line"] ["self", "number", "member", "thing"] (defScope s_Waits_is_short) := ⟨rfl, rfl, rfl, by decide +kernel, rfl, by decide +kernel, by decide +kernel⟩
theorem m_is_short (T : Txt K mg) (O : Wai K mg) (D : DfnM K "Waits" "is_short" "Waits.is_short" s_Waits_is_short) : CalM P w K mg base CX0 1 (He.fAd K ("Waits", some "is_short")) ["self", "number", "member", "thing"] (spShort K) := by
  refine D.cal sc_Waits_is_short (fun _ _ _ _ _ _ us hl => match us, hl with | [_, _, _, _], _ => rfl) (fun vs H Q E h => ?_) fun cdv A outer s H vs Q E hr h => ?_
  · obtain ⟨_, x, dI, dN, dT, dA, hs, its, A, n, sl, rfl, _⟩ := h
    rfl
  obtain ⟨M, x, dI, dN, dT, dA, hs, its, As, n, sl, rfl, sM, ⟨dx, hx⟩, ⟨kt, hN, lk, ndk, ent, all⟩, wd, q⟩ := h
  refine ⟨_, (pss_cons (ps_set (i := 4) sc_Waits_is_short.nd rfl (by first | exact Or.inl rfl | exact Or.inr rfl) (pe_dget2 (hu_of hr) (pe_fld (pv 0) rfl) (pe_tup (pa_cons (pv 2) (pa_cons (pv 3) pa_nil))) pe_dnewK ⟨rfl, by rfl, rfl, rfl⟩))
      (pss_one (ps_ret (pe_and (pe_cmp (pc_din (hu_of hr) (pv 1) (pv 4)) rfl) (pe_one (pe_cmpR op_lt (pe_dget2 (hu_of hr) (pe_fld (pv 0) rfl) (pe_tup (pa_cons (pv 2) (pa_cons (pv 3) pa_nil))) pe_int ⟨rfl, by rfl, rfl, rfl⟩) (pe_dget (hu_of hr) (pv 4) (pv 1) (fun _ _ => rfl)) (nomark _))))))), ?_⟩
  have hx' := sM _ _ hx
  obtain ⟨hinc, hasd, neIA⟩ := wd
  obtain ⟨ki, hki, lki, vi, ni, si⟩ := hinc
  try dsimp only
  delta tSeq tAsg
  dsimp only
  have main : ∀ (l : Addr) (H1 : Hp) (σ : L2.St), σ = [some (.ref x), some (.int (n : Nat)), some (.str sl.1), some (.str sl.2), some (.ref l)] → Same H H1 → H1 l = some (.dK (lineK its sl)) → tAndV (tDIn (tVar 1) (tVar 4)) (tOp (rI0 fun i j => V.bl (decide (i < j))) (tDGet2 (tFld K (tVar 0) "_income") (tTup (tCons (tVar 2) (tCons (tVar 3) tNil))) (tC (V.int 0))) (tDGet (tVar 4) (tVar 1))) σ H1 Q := by
    rintro l H1 _ rfl s1 hl
    refine ⟨_, rfl, _, rfl, l, _, rfl, .inl ⟨_, Sum.inl ((n : Nat) : Int), .inl hl, rfl, rfl⟩, _, rfl, ?_⟩
    rw [line_val]
    by_cases mn : n ∈ qN its sl
    case neg =>
      rw [if_neg mn]
      exact iteF (q false _ s1 ⟨fun z => Bool.noConfusion z, fun z => absurd z.1 mn⟩)
    rw [if_pos mn]
    refine iteT ⟨_, rfl, x, _, dx, _, _, rfl, s1 _ _ hx', O.cl, O.nI, rfl, dI, rfl, .inr ⟨_, .inl (s1 _ _ hki)⟩, _, rfl, _, rfl, lineN (n := 2), fun t ht => ?_⟩
    have s2 : Same H1 (upd H1 t (.tup [.str sl.1, .str sl.2])) := Same.up ht
    have ht' : (upd H1 t (.tup [.str sl.1, .str sl.2])) t = some (.tup ((sk sl).map kV)) := upd_same
    generalize upd H1 t _ = H2 at s2 ht' ⊢
    refine ⟨_, .inr ⟨ki, sk sl, t, .inl (s2 _ _ (s1 _ _ hki)), rfl, ht', rfl⟩, ?_⟩
    have eI : (valV ki (sk sl)).getD (.int 0) = .int (had hs its (rest its As) sl) := by
      cases e : valV ki (sk sl) with
      | none => rw [Option.getD_none, ni _ e]
      | some v => rw [Option.getD_some, vi _ _ e]
    rw [eI]
    refine ⟨_, rfl, _, rfl, l, _, rfl, .inl ⟨_, Sum.inl ((n : Nat) : Int), .inl (s2 _ _ hl), rfl, by rw [line_val, if_pos mn]⟩, _, _, rfl, rfl, q _ _ (s1.trans s2) ?_⟩
    rw [decide_eq_true_iff]
    exact ⟨fun h => ⟨mn, h⟩, fun h => h.2⟩
  refine ⟨_, rfl, x, _, dx, _, _, rfl, hx', O.cl, O.nN, rfl, dN, rfl, .inr ⟨_, hN⟩, _, rfl, _, rfl, lineN (n := 2), fun t ht => fun e he => ?_⟩
  have s1 : Same H (upd H t (.tup [.str sl.1, .str sl.2])) := Same.up ht
  have ht' : (upd H t (.tup [.str sl.1, .str sl.2])) t = some (.tup ((sk sl).map kV)) := upd_same
  generalize upd H t _ = H1 at s1 ht' he ⊢
  have s2 : Same H1 (upd H1 e (.dK [])) := Same.up he
  have he' : (upd H1 e (.dK [])) e = some (.dK []) := upd_same
  generalize upd H1 e _ = H2 at s2 he' ⊢
  refine ⟨_, .inr ⟨kt, sk sl, t, rd_same (s1.trans s2) hN, rfl, s2 _ _ ht', rfl⟩, ?_⟩
  cases ev : valV kt (sk sl) with
  | none =>
    have : qN its sl = [] := Classical.byContradiction fun c => by
      obtain ⟨p, mp, ep⟩ := List.mem_map.mp (all.1 sl c)
      exact none_at ev p mp ep
    refine main e H2 _ rfl (s1.trans s2) ?_
    rw [he']
    unfold lineK
    rw [this]
    rfl
  | some v =>
    obtain ⟨s', d, e2, hd, _⟩ := ent _ (val_mem ev)
    have e1 : sk sl = sk s' := congrArg Prod.fst e2
    have e2 := congrArg Prod.snd e2
    obtain rfl := sk_inj e1
    have e2 : v = .ref d := e2
    subst e2
    exact main d H2 _ rfl (s1.trans s2) ((s1.trans s2) _ _ (sM _ _ hd))
/-- a reason told -/
def WhyO (H : Hp) (t : Addr) : Why → Prop
  | .behind m => H t = some (.tup [.str "behind", .int (m : Nat)])
  | .short s => H t = some (.tup [.str "short", .str s.1, .str s.2])
structure WaiM (K : PySem.W.Frag) : Prop where
  set_aside : Meth K (He.ga K "Waits") "set_aside" (He.fAd K ("Waits", some "set_aside"))
  is_aside : Meth K (He.ga K "Waits") "is_aside" (He.fAd K ("Waits", some "is_aside"))
  is_behind : Meth K (He.ga K "Waits") "is_behind" (He.fAd K ("Waits", some "is_behind"))
  is_short : Meth K (He.ga K "Waits") "is_short" (He.fAd K ("Waits", some "is_short"))
  why : Meth K (He.ga K "Waits") "why" (He.fAd K ("Waits", some "why"))
noncomputable def whyF (hs : Hs) (its : Its) (A : List Nat) (n : Nat) : Option Why := match A.find? fun m => whyB hs its A n (.behind m) with
  | some m => some (.behind m)
  | none => match (slotsOf its).find? fun s => whyB hs its A n (.short s) with
    | some s => some (.short s)
    | none => none
theorem whyF_some {hs : Hs} {its : Its} {A : List Nat} {n : Nat} {y : Why} (h : whyF hs its A n = some y) : okWhy hs its A n y := by
  unfold whyF at h
  split at h
  · rename_i m e
    cases h
    exact whyB_iff.mp (List.find?_some (p := fun m => whyB hs its A n (.behind m)) e)
  · split at h
    · rename_i s e
      cases h
      exact whyB_iff.mp (List.find?_some (p := fun s => whyB hs its A n (.short s)) e)
    · cases h
theorem find_at {α : Type} {P : α → Bool} : ∀ {l : List α} {i : Nat} {a : α}, l[i]? = some a → P a = true → (∀ b ∈ l.take i, P b = false) → l.find? P = some a
  | x :: r, 0, a, h, p, _ => by
    obtain rfl := Option.some.inj h
    rw [List.find?_cons, p]
  | x :: r, i + 1, a, h, p, q => by
    rw [List.find?_cons, q x (by simp)]
    exact find_at (i := i) (by simpa using h) p fun b m => q b (by rw [List.take_succ_cons]; exact List.mem_cons_of_mem _ m)
theorem whyF_behind {hs : Hs} {its : Its} {A : List Nat} {n m i : Nat} (h : A[i]? = some m) (p : okWhy hs its A n (.behind m)) (no : ∀ b ∈ A.take i, ¬ okWhy hs its A n (.behind b)) : whyF hs its A n = some (.behind m) := by
  unfold whyF
  rw [find_at (P := fun m => whyB hs its A n (.behind m)) h (whyB_iff.mpr p) fun b mb => Bool.eq_false_iff.mpr fun z => no b mb (whyB_iff.mp z)]
theorem whyF_short {hs : Hs} {its : Its} {A : List Nat} {n : Nat} {sl : Slot} {kt : List (List Key × V)} {i : Nat} {v : V} (ord : kt.map (·.1) = (slotsOf its).map sk) (h : kt[i]? = some (sk sl, v)) (p : okWhy hs its A n (.short sl)) (noB : ∀ m ∈ A, ¬ okWhy hs its A n (.behind m)) (no : ∀ q ∈ kt.take i, ¬ okWhy hs its A n (.short (slotOf q.1))) : whyF hs its A n = some (.short sl) := by
  unfold whyF
  rw [List.find?_eq_none.mpr fun b mb z => noB b mb (whyB_iff.mp z)]
  have h1 : (kt.map (·.1))[i]? = some (sk sl) := by rw [List.getElem?_map, h]; rfl
  rw [ord, List.getElem?_map] at h1
  obtain ⟨s2, e2, e3⟩ := Option.map_eq_some_iff.mp h1
  obtain rfl := sk_inj e3
  have := find_at (P := fun s => whyB hs its A n (.short s)) e2 (whyB_iff.mpr p) fun b mb => Bool.eq_false_iff.mpr fun z => by
    have m1 : sk b ∈ ((slotsOf its).map sk).take i := by rw [← List.map_take]; exact List.mem_map.mpr ⟨b, mb, rfl⟩
    rw [← ord, ← List.map_take] at m1
    obtain ⟨q, mq, eq⟩ := List.mem_map.mp m1
    have := no q mq
    rw [eq, slotOf_sk] at this
    exact this (whyB_iff.mp z)
  dsimp only
  rw [this]
theorem whyF_none {hs : Hs} {its : Its} {A : List Nat} {n : Nat} (no : ∀ y, ¬ okWhy hs its A n y) : whyF hs its A n = none := by
  cases e : whyF hs its A n with
  | none => rfl
  | some y => exact absurd (whyF_some e) (no y)
def spWhy (K : PySem.W.Frag) : Sp := fun vs H Q _ => ∃ (M : Hp) (x dI dN dT dA : Addr) (hs : Hs) (its : Its) (A : List Nat) (n : Nat), vs = [.ref x, .int (n : Nat)] ∧ Same M H ∧ WaiS K M x dI dN dT dA its ∧ WaiD H dI dA hs its A ∧ its.length ≤ 12 ∧ (∀ H', Same H H' → (∀ y, ¬ okWhy hs its A n y) → whyF hs its A n = none → Q .non H') ∧ ∀ H' t y, Same H H' → H t = none → WhyO H' t y → whyF hs its A n = some y → Q (.ref t) H'
abbrev s_Waits_why : Stmt := inClass (top 24) 5
theorem sc_Waits_why : FnScope ["self", "number", "other", "member", "thing"] ["self", "number"] (defScope s_Waits_why) := ⟨rfl, rfl, rfl, by decide +kernel, rfl, by decide +kernel, by decide +kernel⟩
theorem m_why (T : Txt K mg) (O : Wai K mg) (OM : WaiM K) (D : DfnM K "Waits" "why" "Waits.why" s_Waits_why) (MB : CalM P w K mg base CX0 1 (He.fAd K ("Waits", some "is_behind")) ["self", "number", "other"] (spBehind K)) (MS : CalM P w K mg base CX0 1 (He.fAd K ("Waits", some "is_short")) ["self", "number", "member", "thing"] (spShort K)) : CalM P w K mg base CX0 2 (He.fAd K ("Waits", some "why")) ["self", "number"] (spWhy K) := by
  refine D.cal sc_Waits_why (fun _ _ _ _ _ _ us hl => match us, hl with | [_, _], _ => rfl) (fun vs H Q E h => ?_) fun cdv A outer s H vs Q E hr h => ?_
  · obtain ⟨_, x, dI, dN, dT, dA, hs, its, A, n, rfl, _⟩ := h
    rfl
  obtain ⟨M, x, dI, dN, dT, dA, hs, its, As, n, rfl, sM, ws, wd, li, qNo, qYes⟩ := h
  obtain ⟨⟨dx, hx⟩, ⟨kt, hN, lk, ndk, ent, all⟩, _, nI, nAA⟩ := id ws
  refine ⟨_, (pss_cons (ps_lock (ps_for PassesOwn.never rfl (pi_keys (pe_fld (pv 0) rfl)) (pg_name (i := 2) sc_Waits_why.nd rfl (by first | exact Or.inl rfl | exact Or.inr rfl))
      (pss_one (ps_if (pt_val (mA_ (K := K) MB rfl hr (by decide) O.cl OM.is_behind (pv 0) (pa_cons (pv 1) (pa_cons (pv 2) pa_nil)))) (pss_one (ps_ret (pe_tup (pa_cons pe_str (pa_cons (pv 2) pa_nil))))) pss_nil))))
      (pss_cons (ps_lock (ps_for PassesOwn.never rfl (pi_keys (pe_fld (pv 0) rfl)) (pg_tup rfl (pgs_cons (pg_name (i := 3) sc_Waits_why.nd rfl (by first | exact Or.inl rfl | exact Or.inr rfl)) (pgs_cons (pg_name (i := 4) sc_Waits_why.nd rfl (by first | exact Or.inl rfl | exact Or.inr rfl)) pgs_nil)))
      (pss_one (ps_if (pt_val (mA_ (K := K) MS rfl hr (by decide) O.cl OM.is_short (pv 0) (pa_cons (pv 1) (pa_cons (pv 3) (pa_cons (pv 4) pa_nil))))) (pss_one (ps_ret (pe_tup (pa_cons pe_str (pa_cons (pv 3) (pa_cons (pv 4) pa_nil)))))) pss_nil))))
      (pss_one (ps_ret pe_non)))), ?_⟩
  have hx' := sM _ _ hx
  obtain ⟨hinc, hasd, ndA, ltA, neIA⟩ := id wd
  try dsimp only
  refine cut_if (fun σ H' => (∃ v2 v3 v4, σ = [some (.ref x), some (.int (n : Nat)), v2, v3, v4]) ∧ Same H H' ∧ ∀ m ∈ As, ¬ okWhy hs its As n (.behind m)) ?_ fun rest => ?_
  rotate_left
  · refine ⟨dA, _, hasd, trivial, fun od => ?_⟩
    have hF : (upd H dA (.frz od (.dK (asK As)))) dA = some (.frz od (.dK (asK As))) := upd_same
    have kp : ∀ b o, b ≠ dA → H b = some o → (upd H dA (.frz od (.dK (asK As)))) b = some o := fun b o nb e => by rw [upd_ne nb]; exact e
    have bk : ∀ {H'}, Same (upd H dA (.frz od (.dK (asK As)))) H' → Same H (upd H' dA (.dK (asK As))) := fun s => back_of hasd s
    generalize upd H dA (.frz od (.dK (asK As))) = F at hF kp bk ⊢
    have sF : Same M F := fun b o e => kp b o (fun z => by rw [z, nAA] at e; cases e) (sM _ _ e)
    refine ⟨_, rfl, x, _, dx, _, _, rfl, sF _ _ hx, O.cl, O.nA, rfl, dA, od, rfl, .inl ⟨asK As, hF, for_it walk_keys (fun i σ H' => (∃ v2 v3 v4, σ = [some (.ref x), some (.int (n : Nat)), v2, v3, v4]) ∧ Same F H' ∧ ∀ m ∈ As.take i, ¬ okWhy hs its As n (.behind m)) ⟨⟨_, _, _, rfl⟩, fun _ _ e => e, fun _ m => by cases m⟩ (fun i σ H' _ pp => pp.2.1 _ _ hF) ?_ ?_⟩⟩
    · rintro i u σ H1 H2 hi ⟨⟨v2, v3, v4, rfl⟩, s1, no⟩ ⟨rfl, k, v, hk, rfl⟩
      unfold asK at hk
      rw [List.getElem?_map] at hk
      obtain ⟨m, hm, e⟩ := Option.map_eq_some_iff.mp hk
      cases e
      have sl : WaiL H2 dI dA hs its As := ⟨hinc.mono fun o e => s1 _ _ (kp _ _ neIA e), .inr ⟨od, s1 _ _ hF⟩, neIA⟩
      refine ⟨_, rfl, x, dx, _, rfl, s1 _ _ (sF _ _ hx), rfl, _, rfl, _, rfl, M, x, dI, dN, dT, dA, hs, its, As, n, m, rfl, sF.trans s1, ws, sl, fun b H3 s3 ib => ⟨b, rfl, ?_⟩⟩
      cases b with
      | true =>
        refine iteT ⟨_, rfl, lineN (n := 2), fun t ht => ⟨Same.up ht _ _ (s3 _ _ (s1 _ _ hF)), ?_⟩⟩
        have s4 := bk (s1.trans (s3.trans (Same.up (o := .tup [.str "behind", .int (m : Nat)]) ht)))
        have ne : t ≠ dA := fun z => by rw [z, s3 _ _ (s1 _ _ hF)] at ht; cases ht
        refine qYes _ t (.behind m) s4 ?_ ?_ (whyF_behind hm (ib.mp rfl) no)
        · exact Classical.byContradiction fun c => by
            obtain ⟨o, e⟩ := Option.ne_none_iff_exists'.mp c
            rw [s3 _ _ (s1 _ _ (kp _ _ ne e))] at ht
            cases ht
        · show upd _ _ _ _ = _
          rw [upd_ne ne]
          exact upd_same
      | false =>
        refine iteF ⟨⟨_, _, _, rfl⟩, s1.trans s3, fun m' mm => ?_⟩
        rw [List.take_add_one, hm] at mm
        rcases List.mem_append.mp mm with mm | mm
        · exact no m' mm
        · rw [List.mem_singleton.mp mm]
          exact fun h => Bool.noConfusion (ib.mpr h)
    · rintro σ H1 ⟨⟨v2, v3, v4, rfl⟩, s1, no⟩
      rw [show (asK As).length = As.length by unfold asK; rw [List.length_map], List.take_length] at no
      exact ⟨s1 _ _ hF, rest _ _ ⟨⟨_, _, _, rfl⟩, bk s1, no⟩⟩
  rintro σ G ⟨⟨v2, v3, v4, rfl⟩, sG, noB⟩
  try dsimp only
  refine cut_if (fun σ H' => (∃ v2 v3 v4, σ = [some (.ref x), some (.int (n : Nat)), v2, v3, v4]) ∧ Same H H' ∧ ∀ q ∈ kt, ¬ okWhy hs its As n (.short (slotOf q.1))) ?_ fun rest => ?_
  rotate_left
  · have hN' := sG _ _ (sM _ _ hN)
    refine ⟨dN, _, hN', trivial, fun od => ?_⟩
    have hF : (upd G dN (.frz od (.dT kt))) dN = some (.frz od (.dT kt)) := upd_same
    have kp : ∀ b o, b ≠ dN → G b = some o → (upd G dN (.frz od (.dT kt))) b = some o := fun b o nb e => by rw [upd_ne nb]; exact e
    have bk : ∀ {H'}, Same (upd G dN (.frz od (.dT kt))) H' → Same H (upd H' dN (.dT kt)) := fun s => sG.trans fun a o e => by
      by_cases ha : a = dN
      · rw [ha] at e ⊢
        rw [hN'] at e
        cases e
        exact upd_same
      · rw [upd_ne ha]
        exact s _ _ (by rw [upd_ne ha]; exact e)
    have sF : Same (upd M dN (.frz od (.dT kt))) (upd G dN (.frz od (.dT kt))) := fun b o e => by
      by_cases c : b = dN
      · subst c
        rw [upd_same] at e ⊢
        exact e
      · rw [upd_ne c] at e ⊢
        exact sG _ _ (sM _ _ e)
    generalize upd G dN (.frz od (.dT kt)) = F at hF kp bk sF ⊢
    have nxN : x ≠ dN := fun z => by rw [z, hN] at hx; cases hx
    have nIN : dI ≠ dN := fun z => by rw [← z, nI] at hN; cases hN
    have nAN : dA ≠ dN := fun z => by rw [← z, nAA] at hN; cases hN
    have hxM : (upd M dN (.frz od (.dT kt))) x = some (.ins (He.ga K "Waits") dx [("_income", .ref dI), ("_needs", .ref dN), ("_takes", .ref dT), ("_aside", .ref dA)]) := by rw [upd_ne nxN]; exact hx
    have neM : NeedsE (upd M dN (.frz od (.dT kt))) kt its := ⟨lk, ndk, fun q mq => by
      obtain ⟨sl, d, e, hd, nn⟩ := ent q mq
      exact ⟨sl, d, e, by rw [upd_ne fun z => by rw [z, hN] at hd; cases hd]; exact hd, nn⟩, all⟩
    refine ⟨_, rfl, x, _, dx, _, _, rfl, sF _ _ hxM, O.cl, O.nN, rfl, dN, od, rfl, .inr ⟨kt, hF, for_it walk_keysT (fun i σ H' => (∃ v2 v3 v4, σ = [some (.ref x), some (.int (n : Nat)), v2, v3, v4]) ∧ Same F H' ∧ ∀ q ∈ kt.take i, ¬ okWhy hs its As n (.short (slotOf q.1))) ⟨⟨_, _, _, rfl⟩, fun _ _ e => e, fun _ m => by cases m⟩ (fun i σ H' _ pp => pp.2.1 _ _ hF) ?_ ?_⟩⟩
    · rintro i u σ H1 H2 hi ⟨⟨v2, v3, v4, rfl⟩, s1, no⟩ ⟨rfl, k, v, qa, hk, rfl, hq⟩
      obtain ⟨sl, d, e, hd, nn⟩ := ent _ (List.mem_of_getElem? hk)
      cases e
      have wl : WaiL H2 dI dA hs its As := ⟨hinc.mono fun o e => s1 _ _ (kp _ _ nIN (sG _ _ e)), .inl (s1 _ _ (kp _ _ nAN (sG _ _ hasd))), neIA⟩
      refine ⟨qa, _, rfl, SqT.of hq, rfl, _, _, rfl, _, _, rfl, rfl, ?_⟩
      refine ⟨_, rfl, x, dx, _, rfl, s1 _ _ (sF _ _ hxM), rfl, _, rfl, _, rfl, _, rfl, _, x, dI, dN, dT, dA, hs, its, As, n, sl, rfl, sF.trans s1, ⟨dx, hxM⟩, ⟨kt, .inr ⟨od, s1 _ _ hF⟩, neM⟩, wl, fun b H3 s3 ib => ⟨b, rfl, ?_⟩⟩
      cases b with
      | true =>
        refine iteT ⟨_, rfl, _, rfl, lineN (n := 3), fun t ht => ⟨Same.up ht _ _ (s3 _ _ (s1 _ _ hF)), ?_⟩⟩
        have s4 := bk (s1.trans (s3.trans (Same.up (o := .tup [.str "short", .str sl.1, .str sl.2]) ht)))
        have ne : t ≠ dN := fun z => by rw [z, s3 _ _ (s1 _ _ hF)] at ht; cases ht
        refine qYes _ t (.short sl) s4 ?_ ?_ (whyF_short all.2 hk (ib.mp rfl) noB no)
        · exact Classical.byContradiction fun c => by
            obtain ⟨o, e⟩ := Option.ne_none_iff_exists'.mp c
            rw [s3 _ _ (s1 _ _ (kp _ _ ne (sG _ _ e)))] at ht
            cases ht
        · show upd _ _ _ _ = _
          rw [upd_ne ne]
          exact upd_same
      | false =>
        refine iteF ⟨⟨_, _, _, rfl⟩, s1.trans s3, fun q mm => ?_⟩
        rw [List.take_add_one, hk] at mm
        rcases List.mem_append.mp mm with mm | mm
        · exact no q mm
        · rw [List.mem_singleton.mp mm]
          exact fun h => Bool.noConfusion (ib.mpr h)
    · rintro σ H1 ⟨⟨v2, v3, v4, rfl⟩, s1, no⟩
      rw [List.take_length] at no
      exact ⟨s1 _ _ hF, rest [some (.ref x), some (.int (n : Nat)), v2, v3, v4] _ ⟨⟨v2, v3, v4, rfl⟩, bk s1, no⟩⟩
  rintro σ G2 ⟨⟨w2, w3, w4, rfl⟩, sG2, noS⟩
  have no : ∀ y, ¬ okWhy hs its As n y := fun y h => ?_
  · exact qNo G2 sG2 no (whyF_none no)
  cases y with
  | behind m => exact noB m h.1 h
  | short sl =>
    obtain ⟨p, mp, ep⟩ := List.mem_map.mp (all.1 sl (List.ne_nil_of_mem h.1))
    have := noS p mp
    rw [ep, slotOf_sk] at this
    exact this h
end
end K34

set_option Elab.async false
set_option linter.all false
set_option maxRecDepth 100000
set_option maxHeartbeats 4000000
namespace K34
open PySem PySem.Spec PyProof.Rows L2 Sr
/-! ### what Waits counts, item by item, leg by leg -/
theorem giv_app (a b : List Leg) (s : Slot) : giv (a ++ b) s = giv a s + giv b s := by
  unfold giv
  rw [List.filter_append, List.map_append, List.sum_append]
theorem tak_app (a b : List Leg) (s : Slot) : tak (a ++ b) s = tak a s + tak b s := by
  unfold tak
  rw [List.filter_append, List.map_append, List.sum_append]
theorem giv_one (g : Leg) (s : Slot) : giv [g] s = if givB g s = true then g.2.2.1 else 0 := by
  unfold giv
  cases e : givB g s with
  | true => rw [List.filter_cons_of_pos (by exact e), if_pos rfl]; simp
  | false => rw [List.filter_cons_of_neg (by rw [e]; exact Bool.false_ne_true), if_neg Bool.false_ne_true]; rfl
theorem tak_one (g : Leg) (s : Slot) : tak [g] s = if takB g s = true then g.2.2.1 else 0 := by
  have := tak_snoc [] g s
  rw [List.nil_append] at this
  rw [this]
  show (0 : Int) + _ = _
  omega
theorem giv_flat (s : Slot) : ∀ its : Its, (its.map fun it => giv it s).sum = giv its.flatten s
  | [] => rfl
  | it :: r => by rw [List.map_cons, List.sum_cons, List.flatten_cons, giv_app, giv_flat s r]
theorem tak_flat (s : Slot) : ∀ its : Its, (its.map fun it => tak it s).sum = tak its.flatten s
  | [] => rfl
  | it :: r => by rw [List.map_cons, List.sum_cons, List.flatten_cons, tak_app, tak_flat s r]
theorem giv_no {it : List Leg} {s : Slot} (h : (it.any fun g => givB g s) = false) : giv it s = 0 := by
  unfold giv
  rw [List.filter_eq_nil_iff.mpr fun g m e => by
    rw [List.any_eq_false] at h
    exact h g m e]
  rfl
theorem sum_any (its : Its) (s : Slot) : ∀ S : List Nat, gsum its s (S.filter fun k => (itA its k).any fun g => givB g s) = gsum its s S
  | [] => rfl
  | k :: S => by
    have ih := sum_any its s S
    unfold gsum at ih ⊢
    cases e : (itA its k).any fun g => givB g s with
    | true => rw [List.filter_cons_of_pos (by exact e), List.map_cons, List.map_cons, List.sum_cons, List.sum_cons, ih]
    | false =>
      rw [List.filter_cons_of_neg (by rw [e]; exact Bool.false_ne_true), List.map_cons, List.sum_cons, giv_no e, ih]
      omega
theorem range_map {α : Type} (f : List Leg → α) (its : Its) : (List.range its.length).map (fun k => f (itA its k)) = its.map f := by
  refine List.ext_getElem? fun i => ?_
  rw [List.getElem?_map, List.getElem?_map]
  by_cases c : i < its.length
  · rw [List.getElem?_range c, List.getElem?_eq_getElem c]
    show some (f (itA its i)) = some (f its[i])
    unfold itA
    rw [List.getElem?_eq_getElem c]
    rfl
  · rw [List.getElem?_eq_none (by rw [List.length_range]; omega), List.getElem?_eq_none (by omega)]
    rfl
theorem range_le (n : Nat) : ∀ m, (List.range m).filter (fun k => decide (k ≤ n)) = List.range (min m (n + 1))
  | 0 => by simp
  | m + 1 => by
    rw [List.range_succ, List.filter_append, range_le n m]
    by_cases c : m ≤ n
    · rw [List.filter_cons_of_pos (by exact decide_eq_true c), Nat.min_eq_left (by omega), Nat.min_eq_left (by omega), List.range_succ]
      rfl
    · rw [List.filter_cons_of_neg (by simpa using c), Nat.min_eq_right (by omega), Nat.min_eq_right (by omega)]
      simp
theorem itA_app {L M : Its} {k : Nat} (h : k < L.length) : itA (L ++ M) k = itA L k := by
  unfold itA
  rw [List.getElem?_append_left h]
theorem itA_last (L : Its) (p : List Leg) : itA (L ++ [p]) L.length = p := by
  unfold itA
  rw [List.getElem?_append_right (Nat.le_refl _), Nat.sub_self]
  rfl
theorem cum_flat (its : Its) (s : Slot) (n : Nat) : cum its s n = giv (its.take (n + 1)).flatten s := by
  unfold cum qN
  rw [List.filter_filter]
  rw [show (fun k => decide (k ≤ n) && (itA its k).any fun g => givB g s) = fun k => ((itA its k).any fun g => givB g s) && decide (k ≤ n) from funext fun k => Bool.and_comm _ _, ← List.filter_filter, sum_any, range_le, ← giv_flat, ← range_map (fun it => giv it s), List.length_take, Nat.min_comm]
  unfold gsum
  congr 1
  refine List.map_congr_left fun k m => ?_
  have := List.mem_range.mp m
  unfold itA
  rw [List.getElem?_take_of_lt (by omega)]
theorem tsum_flat (its : Its) (s : Slot) : tsum its s (List.range its.length) = tak its.flatten s := by
  unfold tsum
  rw [range_map (fun it => tak it s), tak_flat]
theorem rest_nil (its : Its) : rest its [] = List.range its.length := by
  unfold rest
  exact List.filter_eq_self.mpr fun k _ => by simp
theorem had_flat (hs : Hs) (its : Its) (s : Slot) : had hs its (rest its []) s = amt hs s.1 s.2 + tak its.flatten s := by
  unfold had
  rw [rest_nil, tsum_flat]
theorem qN_app (L : Its) (p : List Leg) (s : Slot) : qN (L ++ [p]) s = qN L s ++ if (p.any fun g => givB g s) = true then [L.length] else [] := by
  unfold qN
  rw [List.length_append, show L.length + [p].length = L.length + 1 from rfl, List.range_succ, List.filter_append]
  congr 1
  · refine List.filter_congr fun k m => ?_
    rw [itA_app (List.mem_range.mp m)]
  · cases e : p.any fun g => givB g s with
    | true => rw [List.filter_cons_of_pos (by rw [itA_last]; exact e), if_pos rfl]; rfl
    | false => rw [List.filter_cons_of_neg (by rw [itA_last, e]; exact Bool.false_ne_true), if_neg Bool.false_ne_true]; rfl
theorem line_app (L : Its) (p : List Leg) (s : Slot) : lineK (L ++ [p]) s = lineK L s ++ if (p.any fun g => givB g s) = true then [((Sum.inl ((L.length : Nat) : Int) : Key), V.int (giv (L ++ [p]).flatten s))] else [] := by
  unfold lineK
  rw [qN_app, List.map_append]
  congr 1
  · refine List.map_congr_left fun k m => ?_
    have := qN_lt m
    rw [cum_flat, cum_flat, List.take_append_of_le_length (by omega)]
  · split
    · rw [List.map_cons, List.map_nil, cum_flat, List.take_of_length_le (by rw [List.length_append]; exact Nat.le_refl _)]
    · rfl
theorem putK_last {κ : Type} [DecidableEq κ] {l : List (κ × V)} {k : κ} {v y : V} (h : k ∉ l.map (·.1)) : putK (l ++ [(k, v)]) k y = l ++ [(k, y)] := by
  unfold putK
  rw [if_pos (List.any_eq_true.mpr ⟨(k, v), by simp, by simp⟩), List.map_append]
  congr 1
  · refine (List.map_congr_left fun q m => ?_).trans (List.map_id _)
    rw [if_neg fun e => h (List.mem_map.mpr ⟨q, m, e⟩)]
    rfl
  · simp
theorem line_keys (its : Its) (s : Slot) : (lineK its s).map (·.1) = (qN its s).map fun (k : Nat) => (Sum.inl ((k : Nat) : Int) : Key) := by
  unfold lineK
  rw [List.map_map]
  rfl
theorem line_put (L : Its) (p : List Leg) (g : Leg) (s : Slot) (h : givB g s = true) : putK (lineK (L ++ [p]) s) (Sum.inl ((L.length : Nat) : Int)) (.int (giv (L ++ [p ++ [g]]).flatten s)) = lineK (L ++ [p ++ [g]]) s := by
  have no : (Sum.inl ((L.length : Nat) : Int) : Key) ∉ (lineK L s).map (·.1) := fun m => by
    rw [line_keys] at m
    obtain ⟨k, mk, e⟩ := List.mem_map.mp m
    have := inl_inj _ _ e
    have := qN_lt mk
    omega
  rw [line_app, line_app, if_pos (show ((p ++ [g]).any fun g => givB g s) = true by rw [List.any_append, List.any_cons, h]; simp)]
  split
  · exact putK_last no
  · rw [List.append_nil]
    exact Sr.putK_new no
theorem line_same (L : Its) (p : List Leg) (g : Leg) (s : Slot) (h : givB g s = false) : lineK (L ++ [p ++ [g]]) s = lineK (L ++ [p]) s := by
  rw [line_app, line_app, show ((p ++ [g]).any fun g => givB g s) = (p.any fun g => givB g s) by rw [List.any_append, List.any_cons, h]; simp]
  split
  · rw [List.flatten_append, List.flatten_append, List.flatten_singleton, List.flatten_singleton, ← List.append_assoc, giv_app _ [g], giv_one, h, if_neg Bool.false_ne_true, Int.add_zero]
  · rfl
theorem qN_same (L : Its) (p : List Leg) (g : Leg) (s : Slot) (h : givB g s = false) : qN (L ++ [p ++ [g]]) s = qN (L ++ [p]) s := by
  rw [qN_app, qN_app, show ((p ++ [g]).any fun g => givB g s) = (p.any fun g => givB g s) by rw [List.any_append, List.any_cons, h]; simp]
theorem qN_has (L : Its) (p : List Leg) (g : Leg) (s : Slot) (h : givB g s = true) : qN (L ++ [p ++ [g]]) s ≠ [] := by
  rw [qN_app, if_pos (show ((p ++ [g]).any fun g => givB g s) = true by rw [List.any_append, List.any_cons, h]; simp)]
  simp
theorem line_nil (L : Its) (s : Slot) : lineK (L ++ [[]]) s = lineK L s := by
  rw [line_app]
  simp
theorem qN_nil (L : Its) (s : Slot) : qN (L ++ [[]]) s = qN L s := by
  rw [qN_app]
  simp
theorem line_empty {its : Its} {s : Slot} (h : qN its s = []) : lineK its s = [] := by
  unfold lineK
  rw [h]
  rfl
theorem givB_iff {g : Leg} {s : Slot} : givB g s = true ↔ s = (g.1, g.2.1) := by
  unfold givB
  rw [Bool.and_eq_true, decide_eq_true_iff, decide_eq_true_iff]
  exact ⟨fun h => Prod.ext h.1.symm h.2.symm, fun h => ⟨by rw [h], by rw [h]⟩⟩
theorem slots_snoc (L : Its) (p : List Leg) (g : Leg) : slotsOf (L ++ [p ++ [g]]) = addS (slotsOf (L ++ [p])) g := by
  unfold slotsOf
  rw [List.flatten_append, List.flatten_append, List.flatten_singleton, List.flatten_singleton, ← List.append_assoc, List.foldl_append]
  rfl
theorem slots_nil (L : Its) : slotsOf (L ++ [[]]) = slotsOf L := by
  unfold slotsOf
  rw [List.flatten_append]
  simp
theorem giv_snoc (L : Its) (p : List Leg) (g : Leg) (s : Slot) : giv (L ++ [p ++ [g]]).flatten s = giv (L ++ [p]).flatten s + if s = (g.1, g.2.1) then g.2.2.1 else 0 := by
  rw [List.flatten_append, List.flatten_append, List.flatten_singleton, List.flatten_singleton, ← List.append_assoc, giv_app _ [g], giv_one]
  simp only [givB_iff]
theorem tak_snoc2 (L : Its) (p : List Leg) (g : Leg) (s : Slot) : tak (L ++ [p ++ [g]]).flatten s = tak (L ++ [p]).flatten s + if s = (g.2.2.2, g.2.1) then g.2.2.1 else 0 := by
  rw [List.flatten_append, List.flatten_append, List.flatten_singleton, List.flatten_singleton, ← List.append_assoc, tak_app _ [g], tak_one]
  simp only [takB_iff]
end K34

set_option Elab.async false
set_option linter.all false
set_option maxRecDepth 100000
set_option maxHeartbeats 4000000
namespace Sr
open PySem PySem.Spec PyProof.Rows L2
/-! ### the heap without some things of one's own -/
def off (S : List Addr) (H : Hp) : Hp := fun c => if c ∈ S then none else H c
theorem off_in {S : List Addr} {H : Hp} {c : Addr} (h : c ∈ S) : off S H c = none := if_pos h
theorem off_out {S : List Addr} {H : Hp} {c : Addr} (h : c ∉ S) : off S H c = H c := if_neg h
theorem off_le {S : List Addr} {H : Hp} : Same (off S H) H := fun c o e => by
  by_cases h : c ∈ S
  · rw [off_in h] at e; cases e
  · rwa [off_out h] at e
theorem Same.off {S : List Addr} {H H' : Hp} (s : Same H H') : Same (Sr.off S H) (Sr.off S H') := fun c o e => by
  by_cases h : c ∈ S
  · rw [off_in h] at e; cases e
  · rw [off_out h] at e ⊢; exact s _ _ e
theorem off_set {S : List Addr} {H : Hp} {c : Addr} {o : HO} (h : c ∈ S) : off S (upd H c o) = off S H := by
  funext b
  by_cases hb : b ∈ S
  · rw [off_in hb, off_in hb]
  · rw [off_out hb, off_out hb, upd_ne (by rintro rfl; exact hb h)]
theorem off_new {S : List Addr} {H : Hp} {p : Addr} (h : H p = none) : off S H p = none := by
  by_cases hp : p ∈ S
  · exact off_in hp
  · rw [off_out hp, h]
theorem Same.into {S : List Addr} {M H : Hp} (s : Same M H) (h : ∀ c ∈ S, M c = none) : Same M (Sr.off S H) := fun c o e => by
  have n : c ∉ S := fun m => by rw [h c m] at e; cases e
  rw [off_out n]
  exact s _ _ e
end Sr

set_option Elab.async false
set_option linter.all false
set_option maxRecDepth 100000
set_option maxHeartbeats 4000000
namespace K34
open PySem PySem.Spec PyProof.Rows L2 Sr
/-! ### Waits.__init__ -/
structure WL (B H : Hp) (dI dN dT dg : Addr) (hs : Hs) (its : Its) (a : Nat) : Prop where
  kp : ∀ c o, c ≠ dI → c ≠ dN → c ≠ dT → c ≠ dg → B c = some o → H c = some o
  inc : ∃ ki : List (List Key × V), H dI = some (.dT ki) ∧ ki.length ≤ 36 + a ∧ (∀ s, (valV ki (sk s)).getD (.int 0) = .int (amt hs s.1 s.2 + tak its.flatten s)) ∧ ∀ g ∈ its.flatten, (valV ki (sk (g.2.2.2, g.2.1))).isSome = true
  ned : ∃ kt : List (List Key × V), H dN = some (.dT kt) ∧ kt.length ≤ a ∧ (kt.map (·.1)).Nodup ∧ (kt.map (·.2)).Nodup ∧ (∀ q ∈ kt, ∃ s d, q = (sk s, .ref d) ∧ B d = none ∧ H d = some (.dK (lineK its s)) ∧ qN its s ≠ []) ∧ AllN its kt
  gv : ∃ kg : List (List Key × V), H dg = some (.dT kg) ∧ kg.length ≤ a ∧ ∀ s, (valV kg (sk s)).getD (.int 0) = .int (giv its.flatten s)
theorem snd_one {α β : Type} : ∀ {l : List (α × β)}, (l.map (·.2)).Nodup → ∀ {a b : α × β}, a ∈ l → b ∈ l → a.2 = b.2 → a = b
  | p :: r, nd, a, b, ma, mb, e => by
    rw [List.map_cons] at nd
    obtain ⟨n1, n2⟩ := List.nodup_cons.mp nd
    rcases List.mem_cons.mp ma with ea | ma2
    · rcases List.mem_cons.mp mb with eb | mb2
      · rw [ea, eb]
      · rw [ea] at e
        exact absurd (List.mem_map.mpr ⟨b, mb2, e.symm⟩) n1
    · rcases List.mem_cons.mp mb with eb | mb2
      · rw [eb] at e
        exact absurd (List.mem_map.mpr ⟨a, ma2, e⟩) n1
      · exact snd_one n2 ma2 mb2 e
theorem putK_fresh {κ : Type} [DecidableEq κ] {l : List (κ × V)} {k : κ} {y : V} (h : k ∉ l.map (·.1)) : putK l k y = l ++ [(k, y)] := by
  unfold putK
  rw [if_neg fun c => by
    obtain ⟨q, m, e⟩ := List.any_eq_true.mp c
    exact h (List.mem_map.mpr ⟨q, m, of_decide_eq_true e⟩)]
theorem line_len (its : Its) (s : Slot) : (lineK its s).length ≤ its.length := by
  unfold lineK qN
  rw [List.length_map]
  have := List.length_filter_le (fun k => (itA its k).any fun g => givB g s) (List.range its.length)
  rw [List.length_range] at this
  exact this
def bodyFor : Stmt → List Stmt
  | .For _ _ b .. => b
  | _ => []
section
variable {P : Program} {w : World} {K : PySem.W.Frag} {mg : Str → Option Value} {base : Heap}
abbrev s_Waits___init__ : Stmt := inClass (top 24) 0
theorem sc_Waits___init__ : FnScope ["self", "queues", "holdings", "member", "given", "thing", "number", "item", "giver", "many", "taker", "_"] ["self", "queues"] (defScope s_Waits___init__) := ⟨rfl, rfl, rfl, by decide +kernel, rfl, by decide +kernel, by decide +kernel⟩
abbrev itemBody : List Stmt := match defBody s_Waits___init__ with
  | _ :: _ :: _ :: _ :: _ :: _ :: _ :: x :: _ => bodyFor x
  | _ => []
abbrev legBody : List Stmt := match itemBody with
  | _ :: x :: _ => bodyFor x
  | _ => []
abbrev XW (P : Program) (w : World) (K : PySem.W.Frag) (mg : Str → Option Value) (base : Heap) (cdv : Value) (A : Around) (outer : List Env) (s : Shared) (H : Hp) (E : XK) : Cx :=
  (cxOf CX0 P w K mg base ["self", "queues", "holdings", "member", "given", "thing", "number", "item", "giver", "many", "taker", "_"] "Waits.__init__" (defScope s_Waits___init__) (He.fAd K ("Waits", some "__init__")) cdv A outer s H E).nox
theorem w_leg {cdv : Value} {A : Around} {outer : List Env} {s : Shared} {H : Hp} {E : XK} (T : Txt K mg) (O : Wai K mg) (hr : Room 1 (XW P w K mg base cdv A outer s H E).A) :
    ∃ t, PSs (XW P w K mg base cdv A outer s H E) legBody t ∧ ∀ (D : Ends) (B G : Hp) (x dx dI dN dT dA dg : Addr) (hs : Hs) (L : Its) (p : List Leg) (g : Leg) (a : Nat) (v1 v2 v3 v7 v11 : Option V),
      G x = some (.ins (He.ga K "Waits") dx [("_income", .ref dI), ("_needs", .ref dN), ("_takes", .ref dT), ("_aside", .ref dA)]) → a ≤ 24 → L.length ≤ 12 → G dT ≠ none → dI ≠ dN → dI ≠ dg → dN ≠ dg → B x ≠ none → B dI ≠ none → B dN ≠ none → B dg ≠ none → WL B G dI dN dT dg hs (L ++ [p]) a →
      (∀ H', (∀ c o, c ≠ dI → c ≠ dN → c ≠ dg → (∀ kk, o = .dK kk → B c ≠ none) → G c = some o → H' c = some o) → WL B H' dI dN dT dg hs (L ++ [p ++ [g]]) (a + 1) → D.nx [some (.ref x), v1, v2, v3, some (.ref dg), some (.str g.2.1), some (.int (L.length : Nat)), v7, some (.str g.1), some (.int g.2.2.1), some (.str g.2.2.2), v11] H') →
      t D [some (.ref x), v1, v2, v3, some (.ref dg), some (.str g.2.1), some (.int (L.length : Nat)), v7, some (.str g.1), some (.int g.2.2.1), some (.str g.2.2.2), v11] G := by
  refine ⟨_, (pss_cons (ps_dput (hu_of hr) (pv 4) (pe_tup (pa_cons (pv 8) (pa_cons (pv 5) pa_nil))) (pe_op op_add (pe_dget2 (hu_of hr) (pv 4) (pe_tup (pa_cons (pv 8) (pa_cons (pv 5) pa_nil))) pe_int ⟨rfl, by rfl, rfl, rfl⟩) (pv 9)) rfl)
      (pss_cons (ps_dput (hu_of hr) (pe_dsetdT (hu_of hr) (pe_fld (pv 0) rfl) (pe_tup (pa_cons (pv 8) (pa_cons (pv 5) pa_nil))) pe_dnewK ⟨rfl, by rfl, rfl, rfl⟩) (pv 6) (pe_dget (hu_of hr) (pv 4) (pe_tup (pa_cons (pv 8) (pa_cons (pv 5) pa_nil))) (fun _ _ => rfl)) rfl)
      (pss_one (ps_dput (hu_of hr) (pe_fld (pv 0) rfl) (pe_tup (pa_cons (pv 10) (pa_cons (pv 5) pa_nil))) (pe_op op_add (pe_dget2 (hu_of hr) (pe_fld (pv 0) rfl) (pe_tup (pa_cons (pv 10) (pa_cons (pv 5) pa_nil))) pe_int ⟨rfl, by rfl, rfl, rfl⟩) (pv 9)) rfl)))), ?_⟩
  intro D B G x dx dI dN dT dA dg hs L p g a v1 v2 v3 v7 v11 hx ha hL gT nIN nIg nNg bx bI bN bg W q
  obtain ⟨kp, ⟨ki, hI, lI, vI, sI⟩, ⟨kt, hN, lN, nd, nv, ent, all⟩, ⟨kg, hg, lg, vg⟩⟩ := W
  refine ⟨_, rfl, dg, rfl, .inr ⟨_, .inl hg⟩, _, rfl, _, rfl, lineN (n := 2), fun t1 h1 => ?_⟩
  have s1 : Same G (upd G t1 (.tup [.str g.1, .str g.2.1])) := Same.up h1
  have h1' : (upd G t1 (.tup [.str g.1, .str g.2.1])) t1 = some (.tup ((sk (g.1, g.2.1)).map kV)) := upd_same
  generalize upd G t1 _ = G1 at s1 h1' ⊢
  refine ⟨_, .inr ⟨kg, sk (g.1, g.2.1), t1, .inl (s1 _ _ hg), rfl, h1', rfl⟩, ?_⟩
  rw [vg]
  refine ⟨_, rfl, _, _, rfl, rfl, _, rfl, _, rfl, _, rfl, lineN (n := 2), fun t2 h2 => ?_⟩
  have s2 : Same G1 (upd G1 t2 (.tup [.str g.1, .str g.2.1])) := Same.up h2
  have h2' : (upd G1 t2 (.tup [.str g.1, .str g.2.1])) t2 = some (.tup ((sk (g.1, g.2.1)).map kV)) := upd_same
  generalize upd G1 t2 _ = G2 at s2 h2' ⊢
  have s02 := s1.trans s2
  have fin : ∀ (H6 : Hp) (kt2 : List (List Key × V)), (∀ c o, c ≠ dN → c ≠ dg → (∀ kk, o = .dK kk → B c ≠ none) → G2 c = some o → H6 c = some o) →
      H6 dg = some (.dT (putK kg (sk (g.1, g.2.1)) (.int (giv (L ++ [p]).flatten (g.1, g.2.1) + g.2.2.1)))) → H6 dN = some (.dT kt2) → kt2.length ≤ a + 1 → (kt2.map (·.1)).Nodup → (kt2.map (·.2)).Nodup → (∀ q ∈ kt2, ∃ s d, q = (sk s, .ref d) ∧ B d = none ∧ H6 d = some (.dK (lineK (L ++ [p ++ [g]]) s)) ∧ qN (L ++ [p ++ [g]]) s ≠ []) → AllN (L ++ [p ++ [g]]) kt2 →
      sDPut (tFld K (tVar 0) "_income") (tTup (tCons (tVar 10) (tCons (tVar 5) tNil))) (tOp (rI0 fun i j => V.int (i + j)) (tDGet2 (tFld K (tVar 0) "_income") (tTup (tCons (tVar 10) (tCons (tVar 5) tNil))) (tC (V.int 0))) (tVar 9)) D [some (.ref x), v1, v2, v3, some (.ref dg), some (.str g.2.1), some (.int (L.length : Nat)), v7, some (.str g.1), some (.int g.2.2.1), some (.str g.2.2.2), v11] H6 := by
    intro H6 kt2 k6 g6 n6 l6 nd6 nv6 ent6 all6
    have nkT : ∀ {kk : List (List Key × V)} {kk2 : List (Key × V)}, (HO.dT kk) = .dK kk2 → False := fun e => by cases e
    have x6 := k6 _ _ (fun z => by rw [z, hN] at hx; cases hx) (fun z => by rw [z, hg] at hx; cases hx) (fun kk e => by cases e) (s02 _ _ hx)
    have I6 := k6 _ _ nIN nIg (fun kk e => by cases e) (s02 _ _ hI)
    refine ⟨_, rfl, x, _, dx, _, _, rfl, x6, O.cl, O.nI, rfl, dI, rfl, .inr ⟨_, .inl I6⟩, _, rfl, _, rfl, lineN (n := 2), fun t3 h3 => ?_⟩
    have s3 : Same H6 (upd H6 t3 (.tup [.str g.2.2.2, .str g.2.1])) := Same.up h3
    have h3' : (upd H6 t3 (.tup [.str g.2.2.2, .str g.2.1])) t3 = some (.tup ((sk (g.2.2.2, g.2.1)).map kV)) := upd_same
    generalize upd H6 t3 _ = H7 at s3 h3' ⊢
    refine ⟨_, .inr ⟨ki, sk (g.2.2.2, g.2.1), t3, .inl (s3 _ _ I6), rfl, h3', rfl⟩, ?_⟩
    rw [vI]
    refine ⟨_, rfl, _, _, rfl, rfl, _, rfl, x, _, dx, _, _, rfl, s3 _ _ x6, O.cl, O.nI, rfl, _, rfl, _, rfl, lineN (n := 2), fun t4 h4 => ?_⟩
    have s4 : Same H7 (upd H7 t4 (.tup [.str g.2.2.2, .str g.2.1])) := Same.up h4
    have h4' : (upd H7 t4 (.tup [.str g.2.2.2, .str g.2.1])) t4 = some (.tup ((sk (g.2.2.2, g.2.1)).map kV)) := upd_same
    generalize upd H7 t4 _ = H8 at s4 h4' ⊢
    have s68 := s3.trans s4
    refine ⟨dI, _, rfl, .inr ⟨ki, sk (g.2.2.2, g.2.1), t4, s68 _ _ I6, rfl, h4', sz (m := 200) (by omega) (by decide), rfl⟩, ?_⟩
    have up : ∀ c o, c ≠ dI → H8 c = some o → (upd H8 dI (.dT (putK ki (sk (g.2.2.2, g.2.1)) (.int (amt hs g.2.2.2 g.2.1 + tak (L ++ [p]).flatten (g.2.2.2, g.2.1) + g.2.2.1))))) c = some o := fun c o n e => by rw [upd_ne n]; exact e
    have at_ : (upd H8 dI (.dT (putK ki (sk (g.2.2.2, g.2.1)) (.int (amt hs g.2.2.2 g.2.1 + tak (L ++ [p]).flatten (g.2.2.2, g.2.1) + g.2.2.1))))) dI = some (.dT (putK ki (sk (g.2.2.2, g.2.1)) (.int (amt hs g.2.2.2 g.2.1 + tak (L ++ [p]).flatten (g.2.2.2, g.2.1) + g.2.2.1)))) := upd_same
    refine q _ (fun c o n1 n2 n3 n4 e => up _ _ n1 (s68 _ _ (k6 _ _ n2 n3 n4 (s02 _ _ e)))) ⟨fun c o n1 n2 n3 n4 e => up _ _ n1 (s68 _ _ (k6 _ _ n2 n4 (fun kk _ z => by rw [z] at e; cases e) (s02 _ _ (kp _ _ n1 n2 n3 n4 e)))), ⟨_, at_, ?_, fun s => ?_, fun g' m => ?_⟩, ⟨kt2, up _ _ nIN.symm (s68 _ _ n6), l6, nd6, nv6, fun q' m => ?_, all6⟩, ⟨_, up _ _ nIg.symm (s68 _ _ g6), ?_, fun s => ?_⟩⟩
    · have := length_putK ki (sk (g.2.2.2, g.2.1)) (.int (amt hs g.2.2.2 g.2.1 + tak (L ++ [p]).flatten (g.2.2.2, g.2.1) + g.2.2.1))
      omega
    · rw [valV_put, tak_snoc2]
      by_cases c : s = (g.2.2.2, g.2.1)
      · rw [if_pos (by rw [c]), if_pos c, c, Option.getD_some]
        congr 1
        dsimp only
        omega
      · rw [if_neg fun z => c (sk_inj z), if_neg c, vI, Int.add_zero]
    · rw [valV_put]
      split
      · rfl
      · rename_i c
        refine sI g' ?_
        rw [List.flatten_append, List.flatten_singleton] at m ⊢
        rcases List.mem_append.mp m with m | m
        · exact List.mem_append.mpr (.inl m)
        · rcases List.mem_append.mp m with m | m
          · exact List.mem_append.mpr (.inr m)
          · rw [List.mem_singleton.mp m] at c
            exact absurd rfl c
    · obtain ⟨s', d, e1, e2, e3, e4⟩ := ent6 q' m
      exact ⟨s', d, e1, e2, up _ _ (fun z => by rw [z] at e2; exact bI e2) (s68 _ _ e3), e4⟩
    · have := length_putK kg (sk (g.1, g.2.1)) (.int (giv (L ++ [p]).flatten (g.1, g.2.1) + g.2.2.1))
      omega
    · rw [valV_put, giv_snoc]
      by_cases c : s = (g.1, g.2.1)
      · rw [if_pos (by rw [c]), if_pos c, c, Option.getD_some]
      · rw [if_neg fun z => c (sk_inj z), if_neg c, vg, Int.add_zero]
  refine ⟨dg, _, rfl, .inr ⟨kg, sk (g.1, g.2.1), t2, s02 _ _ hg, rfl, h2', sz (m := 60) (by omega) (by decide), rfl⟩, ?_⟩
  have up2 : ∀ c o, c ≠ dg → G2 c = some o → (upd G2 dg (.dT (putK kg (sk (g.1, g.2.1)) (.int (giv (L ++ [p]).flatten (g.1, g.2.1) + g.2.2.1))))) c = some o := fun c o n e => by rw [upd_ne n]; exact e
  have g3 : (upd G2 dg (.dT (putK kg (sk (g.1, g.2.1)) (.int (giv (L ++ [p]).flatten (g.1, g.2.1) + g.2.2.1))))) dg = some (.dT (putK kg (sk (g.1, g.2.1)) (.int (giv (L ++ [p]).flatten (g.1, g.2.1) + g.2.2.1)))) := upd_same
  try dsimp only
  generalize upd G2 dg _ = G3 at up2 g3 ⊢
  have nxg : x ≠ dg := fun z => by rw [z, hg] at hx; cases hx
  refine ⟨_, rfl, _, rfl, _, rfl, lineN (n := 2), fun t3 h3 => ?_⟩
  have s3 : Same G3 (upd G3 t3 (.tup [.str g.1, .str g.2.1])) := Same.up h3
  have h3' : (upd G3 t3 (.tup [.str g.1, .str g.2.1])) t3 = some (.tup ((sk (g.1, g.2.1)).map kV)) := upd_same
  generalize upd G3 t3 _ = G4 at s3 h3' ⊢
  refine ⟨dg, _, rfl, .inr ⟨_, sk (g.1, g.2.1), t3, .inl (s3 _ _ g3), rfl, h3', by rw [valV_put, if_pos rfl]⟩, ?_⟩
  have hN4 := s3 _ _ (up2 _ _ nNg (s02 _ _ hN))
  have x4 := s3 _ _ (up2 _ _ nxg (s02 _ _ hx))
  refine ⟨_, rfl, x, _, dx, _, _, rfl, x4, O.cl, O.nN, rfl, dN, rfl, .inr ⟨_, .inl hN4⟩, _, rfl, _, rfl, lineN (n := 2), fun t4 h4 => ?_⟩
  have s4 : Same G4 (upd G4 t4 (.tup [.str g.1, .str g.2.1])) := Same.up h4
  have h4' : (upd G4 t4 (.tup [.str g.1, .str g.2.1])) t4 = some (.tup ((sk (g.1, g.2.1)).map kV)) := upd_same
  generalize upd G4 t4 _ = G5 at s4 h4' ⊢
  intro e he
  have s5 : Same G5 (upd G5 e (.dK [])) := Same.up he
  have he' : (upd G5 e (.dK [])) e = some (.dK []) := upd_same
  have e4 : G4 e = none := free_below s4 he
  generalize upd G5 e _ = G6 at s5 he' ⊢
  have s46 := s4.trans s5
  have s36 := s3.trans s46
  have e3 : G3 e = none := free_below s3 e4
  have g2e : G2 e = none := Classical.byContradiction fun c => by
    obtain ⟨o, z⟩ := Option.ne_none_iff_exists'.mp c
    by_cases ce : e = dg
    · rw [ce, g3] at e3; cases e3
    · rw [up2 _ _ ce z] at e3; cases e3
  have ge : G e = none := free_below s02 g2e
  have nd_of : ∀ {d : Addr} {kk : List (Key × V)}, G d = some (.dK kk) → G6 d = some (.dK kk) := fun h => s36 _ _ (up2 _ _ (fun z => by rw [z, hg] at h; cases h) (s02 _ _ h))
  have old : ∀ c o, c ≠ dg → G2 c = some o → G6 c = some o := fun c o n z => s36 _ _ (up2 _ _ n z)
  have tt : givB g (g.1, g.2.1) = true := givB_iff.mpr rfl
  have put : ∀ (H5 : Hp) (d : Addr) (kt2 : List (List Key × V)), (∀ c o, c ≠ dN → G6 c = some o → H5 c = some o) → H5 d = some (.dK (lineK (L ++ [p]) (g.1, g.2.1))) → B d = none → H5 dN = some (.dT kt2) → kt2.length ≤ a + 1 → (kt2.map (·.1)).Nodup → (kt2.map (·.2)).Nodup → (sk (g.1, g.2.1), V.ref d) ∈ kt2 → (∀ q ∈ kt2, ∃ s d, q = (sk s, .ref d) ∧ B d = none ∧ H5 d = some (.dK (lineK (L ++ [p]) s)) ∧ (qN (L ++ [p]) s ≠ [] ∨ s = (g.1, g.2.1))) → (∀ s, qN (L ++ [p]) s ≠ [] → sk s ∈ kt2.map (·.1)) → kt2.map (·.1) = (slotsOf (L ++ [p ++ [g]])).map sk →
      DPut H5 d (.int (L.length : Nat)) (.int (giv (L ++ [p]).flatten (g.1, g.2.1) + g.2.2.1)) (upd H5 d (.dK (lineK (L ++ [p ++ [g]]) (g.1, g.2.1)))) ∧ sDPut (tFld K (tVar 0) "_income") (tTup (tCons (tVar 10) (tCons (tVar 5) tNil))) (tOp (rI0 fun i j => V.int (i + j)) (tDGet2 (tFld K (tVar 0) "_income") (tTup (tCons (tVar 10) (tCons (tVar 5) tNil))) (tC (V.int 0))) (tVar 9)) D [some (.ref x), v1, v2, v3, some (.ref dg), some (.str g.2.1), some (.int (L.length : Nat)), v7, some (.str g.1), some (.int g.2.2.1), some (.str g.2.2.2), v11] (upd H5 d (.dK (lineK (L ++ [p ++ [g]]) (g.1, g.2.1)))) := by
    intro H5 d kt2 k5 hd bd n5 l5 nd5 nv5 m5 ent5 all5 ord5
    have eg : giv (L ++ [p]).flatten (g.1, g.2.1) + g.2.2.1 = giv (L ++ [p ++ [g]]).flatten (g.1, g.2.1) := by rw [giv_snoc, if_pos rfl]
    refine ⟨.inl ⟨_, Sum.inl ((L.length : Nat) : Int), hd, rfl, ?_, ?_⟩, ?_⟩
    · have := line_len (L ++ [p]) (g.1, g.2.1)
      rw [List.length_append] at this
      exact sz (m := 60) (by have h : [p].length = 1 := rfl; omega) (by decide)
    · rw [eg, line_put L p g _ tt]
    · have up : ∀ c o, c ≠ d → H5 c = some o → (upd H5 d (.dK (lineK (L ++ [p ++ [g]]) (g.1, g.2.1)))) c = some o := fun c o n z => by rw [upd_ne n]; exact z
      refine fin _ kt2 (fun c o n1 n2 n3 z => up _ _ (fun y => ?_) (k5 _ _ n1 (old _ _ n2 z))) (up _ _ (fun y => ?_) (k5 _ _ nNg.symm (s36 _ _ g3))) (up _ _ (fun y => ?_) n5) l5 nd5 nv5 (fun q' m => ?_) ⟨fun s' ns => ?_, ord5⟩
      · have := k5 _ _ n1 (old _ _ n2 z)
        rw [y, hd] at this
        exact n3 _ (Option.some.inj this).symm (by rw [y]; exact bd)
      · rw [← y] at bd; exact bg bd
      · rw [← y] at bd; exact bN bd
      · obtain ⟨s', d', e1, e2, e3', e4'⟩ := ent5 q' m
        by_cases c : s' = (g.1, g.2.1)
        · subst c
          have : d' = d := by
            have h1 := val_nodup nd5 _ m
            have h2 := val_nodup nd5 _ m5
            rw [e1] at h1
            rw [h2] at h1
            cases h1
            rfl
          subst this
          exact ⟨_, d', e1, e2, upd_same, qN_has L p g _ tt⟩
        · have gf : givB g s' = false := by
            cases h : givB g s' with
            | false => rfl
            | true => exact absurd (givB_iff.mp h) c
          have : d' ≠ d := fun y => by
            subst y
            have := snd_one nv5 m m5 (by rw [e1])
            rw [e1] at this
            exact c (sk_inj (congrArg Prod.fst this))
          refine ⟨s', d', e1, e2, ?_, ?_⟩
          · rw [line_same L p g s' gf]
            exact up _ _ this e3'
          · rw [qN_same L p g s' gf]
            exact e4'.resolve_right c
      · by_cases c : s' = (g.1, g.2.1)
        · rw [c]
          exact List.mem_map.mpr ⟨_, m5, rfl⟩
        · have gf : givB g s' = false := by
            cases h : givB g s' with
            | false => rfl
            | true => exact absurd (givB_iff.mp h) c
          rw [qN_same L p g s' gf] at ns
          exact all5 s' ns
  refine ⟨kt, sk (g.1, g.2.1), t4, s46 _ _ hN4, rfl, s5 _ _ h4', sz (m := 60) (by omega) (by decide), fun v hv => ?_, fun hn => ?_⟩
  · obtain ⟨s', d, e1, e2, e3', e4'⟩ := ent _ (val_mem hv)
    have h1 : sk (g.1, g.2.1) = sk s' := congrArg Prod.fst e1
    have h2 : v = .ref d := congrArg Prod.snd e1
    obtain rfl := sk_inj h1
    subst h2
    have := put G6 d kt (fun c o _ z => z) (nd_of e3') e2 (s46 _ _ hN4) (by omega) nd nv (val_mem hv) (fun q' m => by
      obtain ⟨s', d', e1, e2, e3', e4'⟩ := ent q' m
      exact ⟨s', d', e1, e2, nd_of e3', .inl e4'⟩) all.1 (by
      rw [slots_snoc, all.2]
      have mk : sk (g.1, g.2.1) ∈ kt.map (·.1) := List.mem_map.mpr ⟨_, val_mem hv, rfl⟩
      rw [all.2] at mk
      obtain ⟨s2, ms, es⟩ := List.mem_map.mp mk
      rw [sk_inj es] at ms
      unfold addS
      rw [if_pos ms])
    exact ⟨_, rfl, d, _, rfl, this.1, this.2⟩
  · have ne : qN (L ++ [p]) (g.1, g.2.1) = [] := Classical.byContradiction fun c => by
      obtain ⟨q', m, e1⟩ := List.mem_map.mp (all.1 _ c)
      exact none_at hn q' m e1
    have neN : e ≠ dN := fun z => by rw [z, hN] at ge; cases ge
    have nk : sk (g.1, g.2.1) ∉ kt.map (·.1) := fun m => by
      obtain ⟨q', m, e1⟩ := List.mem_map.mp m
      exact none_at hn q' m e1
    have be : B e = none := Classical.byContradiction fun c => by
      obtain ⟨o, z⟩ := Option.ne_none_iff_exists'.mp c
      by_cases c1 : e = dI
      · rw [c1, hI] at ge; cases ge
      by_cases c3 : e = dT
      · rw [c3] at ge; exact gT ge
      by_cases c4 : e = dg
      · rw [c4, hg] at ge; cases ge
      rw [kp _ _ c1 neN c3 c4 z] at ge
      cases ge
    have pk : putK kt (sk (g.1, g.2.1)) (.ref e) = kt ++ [(sk (g.1, g.2.1), .ref e)] := putK_fresh nk
    rw [pk]
    have := put (upd G6 dN (.dT (kt ++ [(sk (g.1, g.2.1), V.ref e)]))) e _ (fun c o n z => by rw [upd_ne n]; exact z) (by rw [upd_ne neN, he', line_empty ne]) be upd_same (by rw [List.length_append]; exact Nat.succ_le_succ lN) ?_ ?_ (by simp) (fun q' m => ?_) (fun s' ns => ?_) (by
      rw [slots_snoc, List.map_append, all.2]
      have ms : (g.1, g.2.1) ∉ slotsOf (L ++ [p]) := fun m => nk (by rw [all.2]; exact List.mem_map.mpr ⟨_, m, rfl⟩)
      unfold addS
      rw [if_neg ms, List.map_append]
      rfl)
    · exact ⟨_, rfl, e, _, rfl, this.1, this.2⟩
    · rw [List.map_append]
      exact List.nodup_append.mpr ⟨nd, by simp, fun a ha b hb z => nk (by have hb : b = sk (g.1, g.2.1) := List.mem_singleton.mp hb; rw [← hb, ← z]; exact ha)⟩
    · rw [List.map_append]
      refine List.nodup_append.mpr ⟨nv, by simp, fun a' ha b hb z => ?_⟩
      obtain ⟨q', m, e1⟩ := List.mem_map.mp ha
      obtain ⟨s', d', e1', e2, e3', e4'⟩ := ent q' m
      rw [e1'] at e1
      rw [← e1, List.mem_singleton.mp hb] at z
      cases z
      rw [ge] at e3'
      cases e3'
    · rcases List.mem_append.mp m with m | m
      · obtain ⟨s', d', e1, e2, e3', e4'⟩ := ent q' m
        exact ⟨s', d', e1, e2, by rw [upd_ne fun z => by rw [z, hN] at e3'; cases e3']; exact nd_of e3', .inl e4'⟩
      · rw [List.mem_singleton.mp m]
        exact ⟨_, e, rfl, be, by rw [upd_ne neN, he', line_empty ne], .inr rfl⟩
    · rw [List.map_append]
      exact List.mem_append.mpr (.inl (all.1 s' ns))
end
end K34

set_option Elab.async false
set_option linter.all false
set_option maxRecDepth 100000
set_option maxHeartbeats 4000000
namespace K34
open PySem PySem.Spec PyProof.Rows L2 Sr
/-! ### Waits.__init__: an item -/
def TkN (B H : Hp) (v : V) (g : Leg) : Prop := ∃ t t2, v = .ref t ∧ B t = none ∧ B t2 = none ∧ H t = some (.tup [.ref t2, .int g.2.2.1]) ∧ H t2 = some (.tup [.str g.2.2.2, .str g.2.1])
def TkI (B H : Hp) (dT : Addr) (its : Its) : Prop := ∃ kk : List (Key × V), H dT = some (.dK kk) ∧ kk.length ≤ its.length ∧ (∀ q ∈ kk, ∃ k : Nat, q.1 = Sum.inl (k : Int) ∧ k < its.length) ∧ ∀ (k : Nat) it, its[k]? = some it → ∃ l us, valV kk (Sum.inl (k : Int)) = some (.ref l) ∧ B l = none ∧ H l = some (.lst us) ∧ Paired (TkN B H) us it
theorem TkI.keep {B H H' : Hp} {dT : Addr} {its : Its} (h : TkI B H dT its) (k1 : ∀ kk, H dT = some (.dK kk) → H' dT = some (.dK kk)) (k2 : ∀ c us, H c = some (.lst us) → H' c = some (.lst us)) (k3 : ∀ c us, H c = some (.tup us) → H' c = some (.tup us)) : TkI B H' dT its := by
  obtain ⟨kk, a, b, c, d⟩ := h
  refine ⟨kk, k1 _ a, b, c, fun k it e => ?_⟩
  obtain ⟨l, us, e1, e2, e3, e4⟩ := d k it e
  exact ⟨l, us, e1, e2, k2 _ _ e3, L2.Paired.mapP e4 fun _ _ ⟨t, t2, f1, f2, f3, f4, f5⟩ => ⟨t, t2, f1, f2, f3, k3 _ _ f4, k3 _ _ f5⟩⟩
theorem WL.next {B H : Hp} {dI dN dT dg : Addr} {hs : Hs} {L : Its} {a : Nat} (w : WL B H dI dN dT dg hs L a) : WL B H dI dN dT dg hs (L ++ [[]]) a := by
  have ef : (L ++ [[]]).flatten = L.flatten := by rw [List.flatten_append]; simp
  obtain ⟨kp, ⟨ki, hI, lI, vI, sI⟩, ⟨kt, hN, lN, nd, nv, ent, all⟩, ⟨kg, hg, lg, vg⟩⟩ := w
  refine ⟨kp, ⟨ki, hI, lI, fun s => by rw [ef]; exact vI s, fun g m => sI g (by rw [ef] at m; exact m)⟩, ⟨kt, hN, lN, nd, nv, fun q m => ?_, ⟨fun s n => all.1 s (by rw [qN_nil] at n; exact n), by rw [slots_nil]; exact all.2⟩⟩, ⟨kg, hg, lg, fun s => by rw [ef]; exact vg s⟩⟩
  obtain ⟨s, d, e1, e2, e3, e4⟩ := ent q m
  exact ⟨s, d, e1, e2, by rw [line_nil]; exact e3, by rw [qN_nil]; exact e4⟩
theorem WL.le {B H : Hp} {dI dN dT dg : Addr} {hs : Hs} {L : Its} {a b : Nat} (w : WL B H dI dN dT dg hs L a) (h : a ≤ b) : WL B H dI dN dT dg hs L b := by
  obtain ⟨kp, ⟨ki, hI, lI, rI⟩, ⟨kt, hN, lN, rN⟩, ⟨kg, hg, lg, rg⟩⟩ := w
  exact ⟨kp, ⟨ki, hI, by omega, rI⟩, ⟨kt, hN, by omega, rN⟩, ⟨kg, hg, by omega, rg⟩⟩
theorem WL.old {B H : Hp} {dI dN dT dg : Addr} {hs : Hs} {L : Its} {a : Nat} (w : WL B H dI dN dT dg hs L a) (hT : H dT ≠ none) {c : Addr} (h : H c = none) : B c = none := Classical.byContradiction fun n => by
  obtain ⟨o, z⟩ := Option.ne_none_iff_exists'.mp n
  obtain ⟨kp, ⟨ki, hI, _⟩, ⟨kt, hN, _⟩, ⟨kg, hg, _⟩⟩ := w
  by_cases c1 : c = dI
  · rw [c1, hI] at h; cases h
  by_cases c2 : c = dN
  · rw [c2, hN] at h; cases h
  by_cases c3 : c = dT
  · rw [c3] at h; exact hT h
  by_cases c4 : c = dg
  · rw [c4, hg] at h; cases h
  rw [kp _ _ c1 c2 c3 c4 z] at h
  cases h
theorem WL.move {B H H' : Hp} {dI dN dT dg : Addr} {hs : Hs} {L : Its} {a : Nat} (w : WL B H dI dN dT dg hs L a) (bT : B dT ≠ none) {kd : List (Key × V)} (hT : H dT = some (.dK kd)) (k : ∀ c o, c ≠ dT → H c = some o → H' c = some o) : WL B H' dI dN dT dg hs L a := by
  obtain ⟨kp, ⟨ki, hI, lI⟩, ⟨kt, hN, lN, nd, nv, ent, all⟩, ⟨kg, hg, lg⟩⟩ := w
  refine ⟨fun c o n1 n2 n3 n4 e => k _ _ n3 (kp c o n1 n2 n3 n4 e), ⟨ki, k _ _ (fun z => by rw [z, hT] at hI; cases hI) hI, lI⟩, ⟨kt, k _ _ (fun z => by rw [z, hT] at hN; cases hN) hN, lN, nd, nv, fun q m => ?_, all⟩, ⟨kg, k _ _ (fun z => by rw [z, hT] at hg; cases hg) hg, lg⟩⟩
  obtain ⟨s, d, e1, e2, e3, e4⟩ := ent q m
  exact ⟨s, d, e1, e2, k _ _ (fun z => by rw [z] at e2; exact bT e2) e3, e4⟩
theorem isA_at {H : Hp} {vs : List V} {ds : List Dt} {i : Nat} {x : V} {d : Dt} (h : IsA H vs ds) (hx : vs[i]? = some x) (hd : ds[i]? = some d) : Is H x d := by
  obtain ⟨e, he, hi⟩ := h.get hx
  rw [hd] at he
  cases he
  exact hi
section
variable {P : Program} {w : World} {K : PySem.W.Frag} {mg : Str → Option Value} {base : Heap}
theorem w_item {cdv : Value} {A : Around} {outer : List Env} {s : Shared} {H : Hp} {E : XK} (T : Txt K mg) (O : Wai K mg) (hr : Room 1 (XW P w K mg base cdv A outer s H E).A) :
    ∃ t, PSs (XW P w K mg base cdv A outer s H E) itemBody t ∧ ∀ (D : Ends) (B G : Hp) (x dx dI dN dT dA dg tu : Addr) (us : List V) (hs : Hs) (L : Its) (it : List Leg) (v1 v2 v3 v5 v8 v9 v10 v11 : Option V) (kd : List (Key × V)) (kI kN kG : List (List Key × V)),
      B x = some (.ins (He.ga K "Waits") dx [("_income", .ref dI), ("_needs", .ref dN), ("_takes", .ref dT), ("_aside", .ref dA)]) → L.length < 12 → it.length ≤ 2 → dI ≠ dN → dI ≠ dg → dN ≠ dg → B dI = some (.dT kI) → B dN = some (.dT kN) → B dg = some (.dT kG) → B dT = some (.dK kd) → B tu = some (.tup us) → IsA B us (it.map legT) → WL B G dI dN dT dg hs L (2 * L.length) → TkI B G dT L →
      (∀ H' v5' v8' v9' v10' , WL B H' dI dN dT dg hs (L ++ [it]) (2 * (L.length + 1)) → TkI B H' dT (L ++ [it]) → D.nx [some (.ref x), v1, v2, v3, some (.ref dg), v5', some (.int (L.length : Nat)), some (.ref tu), v8', v9', v10', v11] H') →
      t D [some (.ref x), v1, v2, v3, some (.ref dg), v5, some (.int (L.length : Nat)), some (.ref tu), v8, v9, v10, v11] G := by
  obtain ⟨tl, ptl, hl⟩ := w_leg (P := P) (w := w) (base := base) (cdv := cdv) (outer := outer) (s := s) (H := H) (E := E) T O hr
  refine ⟨_, (pss_cons (ps_dput (hu_of hr) (pe_fld (pv 0) rfl) (pv 6) (pe_lc (own := [("_", 11), ("thing", 5), ("many", 9), ("taker", 10)]) (g := gTup K 4 (gCons (gName 11) (gCons (gName 5) (gCons (gName 9) (gCons (gName 10) gNil))))) (tt := tYes) rfl sc_Waits___init__.nd (pi_tup (pv 7)) (blkOk_by (N := ["self", "queues", "holdings", "member", "given", "thing", "number", "item", "giver", "many", "taker", "_"]) (sc := defScope s_Waits___init__) (by decide +kernel)) (fun _ _ _ _ _ => (pg_tup rfl (pgs_cons (pg_name (i := 11) sc_Waits___init__.nd rfl (by first | exact Or.inl rfl | exact Or.inr rfl)) (pgs_cons (pg_name (i := 5) sc_Waits___init__.nd rfl (by first | exact Or.inl rfl | exact Or.inr rfl)) (pgs_cons (pg_name (i := 9) sc_Waits___init__.nd rfl (by first | exact Or.inl rfl | exact Or.inr rfl)) (pgs_cons (pg_name (i := 10) sc_Waits___init__.nd rfl (by first | exact Or.inl rfl | exact Or.inr rfl)) pgs_nil)))))) (fun _ _ _ _ _ => pts_nil) (fun _ _ _ _ _ => (pe_tup (pa_cons (pe_tup (pa_cons (pv 10) (pa_cons (pv 5) pa_nil))) (pa_cons (pv 9) pa_nil))))) rfl)
      (pss_one (ps_for PassesOwn.never rfl (pi_tup (pv 7)) (pg_tup rfl (pgs_cons (pg_name (i := 8) sc_Waits___init__.nd rfl (by first | exact Or.inl rfl | exact Or.inr rfl)) (pgs_cons (pg_name (i := 5) sc_Waits___init__.nd rfl (by first | exact Or.inl rfl | exact Or.inr rfl)) (pgs_cons (pg_name (i := 9) sc_Waits___init__.nd rfl (by first | exact Or.inl rfl | exact Or.inr rfl)) (pgs_cons (pg_name (i := 10) sc_Waits___init__.nd rfl (by first | exact Or.inl rfl | exact Or.inr rfl)) pgs_nil)))))
      ptl))), ?_⟩
  intro D B G x dx dI dN dT dA dg tu us hs L it v1 v2 v3 v5 v8 v9 v10 v11 kd kI kN kG hx hL hit nIN nIg nNg bI bN bg bT htu isu W TK q
  obtain ⟨kk, hT, lT, kT, vT⟩ := id TK
  have kpB : ∀ {G' : Hp} {L' : Its} {a : Nat} {c : Addr} {o : HO}, WL B G' dI dN dT dg hs L' a → B c = some o → (∀ k, o ≠ .dT k) → (∀ k, o ≠ .dK k) → G' c = some o := fun {G' L' a c o} w e n1 n2 => w.kp c o (fun z => by rw [z, bI] at e; exact n1 _ (Option.some.inj e).symm) (fun z => by rw [z, bN] at e; exact n1 _ (Option.some.inj e).symm) (fun z => by rw [z, bT] at e; exact n2 _ (Option.some.inj e).symm) (fun z => by rw [z, bg] at e; exact n1 _ (Option.some.inj e).symm) e
  have gx := kpB W hx (fun _ z => by cases z) (fun _ z => by cases z)
  have gt := kpB W htu (fun _ z => by cases z) (fun _ z => by cases z)
  have lus : us.length = it.length := by rw [isu.len, List.length_map]
  have tupB : ∀ {c : Addr} {xs : List V} {G' : Hp} {L' : Its} {a : Nat}, WL B G' dI dN dT dg hs L' a → B c = some (.tup xs) → G' c = some (.tup xs) := fun w e => kpB w e (fun _ z => by cases z) (fun _ z => by cases z)
  have leg : ∀ {i : Nat} {u : V} {g : Leg}, us[i]? = some u → it[i]? = some g → ∃ t, u = .ref t ∧ B t = some (.tup (legVs g)) := fun {i u g} hu hg => by
    have := isA_at isu hu (show (it.map legT)[i]? = some (legT g) by rw [List.getElem?_map, hg]; rfl)
    exact leg_at this
  have gT : G dT ≠ none := by rw [hT]; simp
  refine cut_if (fun σ H' => (∃ v5 v9 v10, σ = [some (.ref x), v1, v2, v3, some (.ref dg), v5, some (.int (L.length : Nat)), some (.ref tu), v8, v9, v10, v11]) ∧ WL B H' dI dN dT dg hs L (2 * L.length) ∧ TkI B H' dT (L ++ [it])) ?_ fun rest => ?_
  rotate_left
  · refine ⟨_, rfl, tu, rfl, ⟨_, SqT.of gt⟩, fun C hC => lc_gen walk_tup at_any it (fun _ => true) lus.symm (sz (m := 60) (by omega)) hC (fun H' s' => SqT.of (s' _ _ gt)) (Rel := fun H g y => ∃ t t2, y = .ref t ∧ G t = none ∧ G t2 = none ∧ H t = some (.tup [.ref t2, .int g.2.2.1]) ∧ H t2 = some (.tup [.str g.2.2.2, .str g.2.1])) (fun H1 H2 g y s ⟨t, t2, e1, e2, e3, e4, e5⟩ => ⟨t, t2, e1, e2, e3, s _ _ e4, s _ _ e5⟩) (fun H1 g y c c' hc ⟨t, t2, e1, e2, e3, e4, e5⟩ => ⟨t, t2, e1, e2, e3, by rw [upd_ne fun z => by rw [z, hc] at e4; cases e4]; exact e4, by rw [upd_ne fun z => by rw [z, hc] at e5; cases e5]; exact e5⟩) (fun j u g H1 A Bf lt hu hg s1 kA _ => ?_) (fun H1 acc s1 h1 pr => ?_)⟩
    · obtain ⟨t, rfl, ht⟩ := leg hu hg
      refine ⟨t, _, rfl, SqT.of (s1 _ _ (tupB W ht)), rfl, _, _, rfl, _, _, rfl, _, _, rfl, _, _, rfl, rfl, rfl, ?_⟩
      refine ⟨_, rfl, _, rfl, lineN (n := 2), fun t2 h2 => ⟨_, rfl, lineN (n := 2), fun t3 h3 => ?_⟩⟩
      have sa : Same H1 (upd H1 t2 (.tup [.str g.2.2.2, .str g.2.1])) := Same.up h2
      have sb := Same.up (o := .tup [.ref t2, .int g.2.2.1]) h3
      exact kA rfl _ _ (sa.trans sb) ⟨t3, t2, rfl, free_below (s1.trans sa) h3, free_below s1 h2, upd_same, sb _ _ upd_same⟩
    · have nTC : C ≠ dT := fun z => by rw [z, hT] at hC; cases hC
      have pk : putK kk (Sum.inl ((L.length : Nat) : Int)) (.ref C) = kk ++ [(Sum.inl ((L.length : Nat) : Int), .ref C)] := putK_fresh fun m => by
        obtain ⟨q', m, e1⟩ := List.mem_map.mp m
        obtain ⟨k, e2, lt⟩ := kT q' m
        have e1 : q'.1 = Sum.inl ((L.length : Nat) : Int) := e1
        rw [e2] at e1
        have := inl_inj _ _ e1
        omega
      refine ⟨_, rfl, x, _, dx, _, _, rfl, s1 _ _ gx, O.cl, O.nT, rfl, _, rfl, dT, _, rfl, .inl ⟨kk, Sum.inl ((L.length : Nat) : Int), s1 _ _ hT, rfl, sz (m := 60) (by omega) (by decide), rfl⟩, ?_⟩
      have up : ∀ c o, c ≠ dT → H1 c = some o → (upd H1 dT (.dK (putK kk (Sum.inl ((L.length : Nat) : Int)) (.ref C)))) c = some o := fun c o n e => by rw [upd_ne n]; exact e
      have hT2 : (upd H1 dT (.dK (putK kk (Sum.inl ((L.length : Nat) : Int)) (.ref C)))) dT = some (.dK (kk ++ [(Sum.inl ((L.length : Nat) : Int), .ref C)])) := by rw [pk]; exact upd_same
      generalize upd H1 dT _ = H2 at up hT2 ⊢
      have bT' : B dT ≠ none := by rw [bT]; simp
      refine rest _ _ ⟨⟨_, _, _, rfl⟩, W.move bT' hT fun c o n e => up _ _ n (s1 _ _ e), _, hT2, ?_, fun q' m => ?_, fun k it' e => ?_⟩
      · rw [List.length_append, List.length_append]
        exact Nat.succ_le_succ lT
      · rw [List.length_append]
        rcases List.mem_append.mp m with m | m
        · obtain ⟨k, e2, lt⟩ := kT q' m
          exact ⟨k, e2, by omega⟩
        · rw [List.mem_singleton.mp m]
          exact ⟨L.length, rfl, Nat.lt_succ_self _⟩
      · have nl : ∀ c us, H1 c = some (.lst us) → H2 c = some (.lst us) := fun c us e => up _ _ (fun z => by rw [z, s1 _ _ hT] at e; cases e) e
        have nt : ∀ c us, H1 c = some (.tup us) → H2 c = some (.tup us) := fun c us e => up _ _ (fun z => by rw [z, s1 _ _ hT] at e; cases e) e
        by_cases c : k < L.length
        · rw [List.getElem?_append_left c] at e
          obtain ⟨l, us', e1, e2, e3, e4⟩ := vT k it' e
          refine ⟨l, us', ?_, e2, nl _ _ (s1 _ _ e3), L2.Paired.mapP e4 fun _ _ ⟨t, t2, f1, f2, f3, f4, f5⟩ => ⟨t, t2, f1, f2, f3, nt _ _ (s1 _ _ f4), nt _ _ (s1 _ _ f5)⟩⟩
          rw [← pk, valV_put, if_neg fun z => by have := inl_inj _ _ z; omega]
          exact e1
        · have c2 := (List.getElem?_eq_some_iff.mp e).1
          rw [List.length_append] at c2
          have ck : k = L.length := by have h : [it].length = 1 := rfl; omega
          subst ck
          rw [List.getElem?_append_right (Nat.le_refl _), Nat.sub_self] at e
          obtain rfl := Option.some.inj e
          refine ⟨C, acc, by rw [← pk, valV_put, if_pos rfl], W.old gT hC, nl _ _ h1, ?_⟩
          rw [List.filter_eq_self.mpr fun _ _ => rfl] at pr
          exact L2.Paired.mapP pr fun _ _ ⟨t, t2, f1, f2, f3, f4, f5⟩ => ⟨t, t2, f1, W.old gT f2, W.old gT f3, nt _ _ f4, nt _ _ f5⟩
  rintro σ G1 ⟨⟨v5, v9, v10, rfl⟩, W1, TK1⟩
  have gt1 := tupB W1 htu
  refine ⟨_, rfl, tu, rfl, ⟨_, SqT.of gt1⟩, for_it (walk_tup (xs := us)) (fun j σ H' => (∃ v5 v8 v9 v10, σ = [some (.ref x), v1, v2, v3, some (.ref dg), v5, some (.int (L.length : Nat)), some (.ref tu), v8, v9, v10, v11]) ∧ WL B H' dI dN dT dg hs (L ++ [it.take j]) (2 * L.length + j) ∧ TkI B H' dT (L ++ [it])) ⟨⟨_, _, _, _, rfl⟩, by rw [List.take_zero]; exact W1.next, TK1⟩ (fun j σ H' _ pp => SqT.of (tupB pp.2.1 htu)) ?_ ?_⟩
  · rintro j u σ H1 H2 hj ⟨⟨v5, v8, v9, v10, rfl⟩, W2, TK2⟩ ⟨rfl, hu⟩
    have hg : it[j]? = some (it[j]'(by omega)) := List.getElem?_eq_getElem _
    generalize it[j]'(by omega) = g at hg
    obtain ⟨t, rfl, ht⟩ := leg hu hg
    have et : it.take (j + 1) = it.take j ++ [g] := by rw [List.take_add_one, hg]; rfl
    refine ⟨t, _, rfl, SqT.of (tupB W2 ht), rfl, _, _, rfl, _, _, rfl, _, _, rfl, _, _, rfl, rfl, ?_⟩
    obtain ⟨kk2, hT2, _⟩ := id TK2
    obtain ⟨_, ⟨ki2, hI2, _⟩, ⟨kt2, hN2, _⟩, ⟨kg2, hg2, _⟩⟩ := id W2
    refine hl _ B _ x dx dI dN dT dA dg hs L (it.take j) g (2 * L.length + j) v1 v2 v3 _ _ (kpB W2 hx (fun _ z => by cases z) (fun _ z => by cases z)) (by omega) (by omega) (by rw [hT2]; simp) nIN nIg nNg (by rw [hx]; simp) (by rw [bI]; simp) (by rw [bN]; simp) (by rw [bg]; simp) W2 fun H' k W3 => ⟨⟨_, _, _, _, rfl⟩, by rw [et]; exact W3, TK2.keep (fun kk e => k _ _ (ne_of hT2 hI2 fun z => by cases z) (ne_of hT2 hN2 fun z => by cases z) (ne_of hT2 hg2 fun z => by cases z) (fun _ _ => by rw [bT]; simp) e) (fun c us e => k _ _ (ne_of e hI2 fun z => by cases z) (ne_of e hN2 fun z => by cases z) (ne_of e hg2 fun z => by cases z) (fun _ z => by cases z) e) (fun c us e => k _ _ (ne_of e hI2 fun z => by cases z) (ne_of e hN2 fun z => by cases z) (ne_of e hg2 fun z => by cases z) (fun _ z => by cases z) e)⟩
  · rintro σ H' ⟨⟨v5, v8, v9, v10, rfl⟩, W2, TK2⟩
    rw [lus, List.take_length] at W2
    exact q _ _ _ _ _ (W2.le (by omega)) TK2
end
end K34

set_option Elab.async false
set_option linter.all false
set_option maxRecDepth 100000
set_option maxHeartbeats 4000000
namespace K34
open PySem PySem.Spec PyProof.Rows L2 Sr
/-! ### Waits.__init__: all items -/
structure QueM (K : PySem.W.Frag) : Prop where
  holdings : Meth K (He.ga K "Queues") "holdings" (He.fAd K ("Queues", some "holdings"))
  all_items : Meth K (He.ga K "Queues") "all_items" (He.fAd K ("Queues", some "all_items"))
  queue : Meth K (He.ga K "Queues") "queue" (He.fAd K ("Queues", some "queue"))
def wF (dI dN dT dA : Addr) : List (Str × V) := [("_income", .ref dI), ("_needs", .ref dN), ("_takes", .ref dT), ("_aside", .ref dA)]
theorem if_iff {p q : Prop} [Decidable p] [Decidable q] {α : Type} {a b : α} (h : p ↔ q) : (if p then a else b) = if q then a else b := by
  by_cases c : p
  · rw [if_pos c, if_pos (h.mp c)]
  · rw [if_neg c, if_neg fun z => c (h.mpr z)]
section
variable {P : Program} {w : World} {K : PySem.W.Frag} {mg : Str → Option Value} {base : Heap}
theorem w_b {cdv : Value} {A : Around} {outer : List Env} {s : Shared} {H : Hp} {E : XK} (T : Txt K mg) (O : Wai K mg) (OQ : Que K mg) (OM : QueM K) (MA : CalM P w K mg base CX0 1 (He.fAd K ("Queues", some "all_items")) ["self"] (spItems K)) (hr : Room 1 (XW P w K mg base cdv A outer s H E).A) :
    ∃ t, PSs (XW P w K mg base cdv A outer s H E) ((defBody s_Waits___init__).drop 6) t ∧ ∀ (D : Ends) (G : Hp) (x dx dI dN dT dA y : Addr) (hs : Hs) (its : Its) (v2 v3 v4 v5 v6 v7 v8 v9 v10 v11 : Option V) (ki : List (List Key × V)),
      G x = some (.ins (He.ga K "Waits") dx (wF dI dN dT dA)) → QueR K G G y hs its → dI ≠ dN → dT ≠ dA → G dI = some (.dT ki) → G dN = some (.dT []) → G dT = some (.dK []) → G dA = some (.dK []) → ki.length ≤ 36 → (∀ s, (valV ki (sk s)).getD (.int 0) = .int (amt hs s.1 s.2)) →
      (∀ H' B dg σ, G dg = none → Same G B → WL B H' dI dN dT dg hs its 24 → TkI B H' dT its → D.nx σ H') →
      t D [some (.ref x), some (.ref y), v2, v3, v4, v5, v6, v7, v8, v9, v10, v11] G := by
  obtain ⟨tl, ptl, hl⟩ := w_item (P := P) (w := w) (base := base) (cdv := cdv) (outer := outer) (s := s) (H := H) (E := E) T O hr
  refine ⟨_, (pss_cons (ps_set (i := 4) sc_Waits___init__.nd rfl (by first | exact Or.inl rfl | exact Or.inr rfl) pe_dnewT)
      (pss_one (ps_for PassesOwn.never rfl (pi_enum (by rfl) T.enumerate (pa_cons (m0_ MA hr (by decide) OQ.cl OM.all_items (pv 1)) pa_nil)) (pg_tup rfl (pgs_cons (pg_name (i := 6) sc_Waits___init__.nd rfl (by first | exact Or.inl rfl | exact Or.inr rfl)) (pgs_cons (pg_name (i := 7) sc_Waits___init__.nd rfl (by first | exact Or.inl rfl | exact Or.inr rfl)) pgs_nil)))
      ptl))), ?_⟩
  intro D G x dx dI dN dT dA y hs its v2 v3 v4 v5 v6 v7 v8 v9 v10 v11 ki hx qr nIN nTA hI hN hT hA lki vki q
  delta tSeq tAsg
  dsimp only
  intro dg hdg
  have s1 : Same G (upd G dg (.dT [])) := Same.up hdg
  have hg : (upd G dg (.dT [])) dg = some (.dT []) := upd_same
  generalize upd G dg _ = G1 at s1 hg ⊢
  obtain ⟨ddy, c, l, kc, us, h1, h2, h3, h4, h5, g, gi⟩ := id qr
  have h1' := s1 _ _ h1
  refine ⟨_, rfl, y, ddy, _, rfl, h1', rfl, y, hs, its, rfl, qr.mono s1, fun p us hp isu => ?_⟩
  have s2 : Same G1 (upd G1 p (.lst us)) := Same.up hp
  have hp' : (upd G1 p (.lst us)) p = some (.lst us) := upd_same
  have isu := isu.mono s2
  generalize upd G1 p _ = B at s2 hp' isu ⊢
  have s02 := s1.trans s2
  have nIg : dI ≠ dg := fun z => by rw [z, hdg] at hI; cases hI
  have nNg : dN ≠ dg := fun z => by rw [z, hdg] at hN; cases hN
  have lus : us.length = its.length := by rw [isu.len, List.length_map]
  have li := gi.1
  have bI := s02 _ _ hI
  have bN := s02 _ _ hN
  have bT := s02 _ _ hT
  have bx := s02 _ _ hx
  have bg := s2 _ _ hg
  have kpB : ∀ {G' : Hp} {L' : Its} {a : Nat} {c : Addr} {o : HO}, WL B G' dI dN dT dg hs L' a → B c = some o → (∀ k, o ≠ .dT k) → (∀ k, o ≠ .dK k) → G' c = some o := fun {G' L' a c o} w e n1 n2 => w.kp c o (fun z => by rw [z, bI] at e; exact n1 _ (Option.some.inj e).symm) (fun z => by rw [z, bN] at e; exact n1 _ (Option.some.inj e).symm) (fun z => by rw [z, bT] at e; exact n2 _ (Option.some.inj e).symm) (fun z => by rw [z, bg] at e; exact n1 _ (Option.some.inj e).symm) e
  refine ⟨p, us, rfl, SqL.of hp', for_it (walk_enum (xs := us)) (fun i σ H' => (∃ v5 v6 v7 v8 v9 v10, σ = [some (.ref x), some (.ref y), v2, v3, some (.ref dg), v5, v6, v7, v8, v9, v10, v11]) ∧ WL B H' dI dN dT dg hs (its.take i) (2 * i) ∧ TkI B H' dT (its.take i)) ⟨⟨_, _, _, _, _, _, rfl⟩, ?_, ?_⟩ (fun i σ H' _ pp => SqL.of (kpB pp.2.1 hp' (fun _ z => by cases z) (fun _ z => by cases z))) ?_ ?_⟩
  · refine ⟨fun _ _ _ _ _ _ e => e, ⟨ki, bI, by omega, fun s => ?_, fun g m => by cases m⟩, ⟨[], bN, Nat.zero_le _, List.nodup_nil, List.nodup_nil, fun _ m => (by cases m), ⟨fun s n => absurd rfl n, rfl⟩⟩, ⟨[], bg, Nat.zero_le _, fun s => rfl⟩⟩
    rw [vki s]
    show _ = V.int (amt hs s.1 s.2 + 0)
    rw [Int.add_zero]
  · exact ⟨[], bT, Nat.zero_le _, fun _ m => (by cases m), fun k it e => by simp at e⟩
  · rintro i u σ H2 H3 hi ⟨⟨v5, v6, v7, v8, v9, v10, rfl⟩, W, TK⟩ yy
    obtain ⟨T', x1, y1, rfl, hT', rfl, hx1, hy⟩ := yy
    obtain rfl : V.int (i : Nat) = x1 := Option.some.inj hx1
    have hit : its[i]? = some (its[i]'(by omega)) := List.getElem?_eq_getElem _
    generalize its[i]'(by omega) = it at hit
    obtain ⟨d, e1, iv⟩ := isu.get hy
    rw [List.getElem?_map, hit] at e1
    obtain rfl : itD it = d := Option.some.inj e1
    have s3 : Same H2 (upd H2 T' (.tup [.int (i : Nat), y1])) := Same.up hT'
    refine ⟨T', _, rfl, SqT.of upd_same, rfl, _, _, rfl, _, _, rfl, rfl, ?_⟩
    generalize upd H2 T' _ = H3 at s3 ⊢
    cases iv with
    | tup hv rv zv =>
    rename_i tu xs
    have li2 : (its.take i).length = i := by rw [List.length_take]; omega
    have et : its.take (i + 1) = its.take i ++ [it] := by rw [List.take_add_one, hit]; rfl
    have bT2 : B dT ≠ none := by rw [bT]; simp
    obtain ⟨kk, hTk, _⟩ := id TK
    have gi2 : ((i : Nat) : Int) = (((its.take i).length : Nat) : Int) := by rw [li2]
    rw [gi2]
    refine hl _ B H3 x dx dI dN dT dA dg tu xs hs (its.take i) it (some (.ref y)) v2 v3 v5 v8 v9 v10 v11 [] ki [] [] bx (by omega) (gi.2 it (List.mem_of_getElem? hit)).1 nIN nIg nNg bI bN bg bT hv rv (by rw [li2]; exact W.move bT2 hTk fun c o _ e => s3 _ _ e) (TK.keep (fun _ e => s3 _ _ e) (fun _ _ e => s3 _ _ e) (fun _ _ e => s3 _ _ e)) (fun H' v5' v8' v9' v10' W2 TK2 => ?_)
    exact ⟨⟨_, _, _, _, _, _, rfl⟩, by rw [et]; rw [li2] at W2; exact W2, by rw [et]; exact TK2⟩
  · rintro σ H' ⟨⟨v5, v6, v7, v8, v9, v10, rfl⟩, W, TK⟩
    rw [lus, List.take_length] at W TK
    exact q H' B dg _ hdg s02 (W.le (by omega)) TK
theorem w_a {cdv : Value} {A : Around} {outer : List Env} {s : Shared} {H : Hp} {E : XK} (T : Txt K mg) (O : Wai K mg) (OQ : Que K mg) (OM : QueM K) (MA : CalM P w K mg base CX0 1 (He.fAd K ("Queues", some "all_items")) ["self"] (spItems K)) (hr : Room 1 (XW P w K mg base cdv A outer s H E).A) :
    ∃ t, PSs (XW P w K mg base cdv A outer s H E) ((defBody s_Waits___init__).drop 5) t ∧ ∀ (D : Ends) (G : Hp) (x dx dI dN dT dA y p : Addr) (hs : Hs) (its : Its) (kd : List (Key × V)) (v3 v4 v5 v6 v7 v8 v9 v10 v11 : Option V),
      G x = some (.ins (He.ga K "Waits") dx (wF dI dN dT dA)) → QueR K G G y hs its → dI ≠ dN → dT ≠ dA → G dI = some (.dT []) → G dN = some (.dT []) → G dT = some (.dK []) → G dA = some (.dK []) → G p = some (.dK kd) → HldR G kd hs → goodH hs →
      (∀ G2 H' B dg σ, (∀ c o, c ≠ dI → G c = some o → G2 c = some o) → G2 dI ≠ none → G2 dg = none → Same G2 B → WL B H' dI dN dT dg hs its 24 → TkI B H' dT its → D.nx σ H') →
      t D [some (.ref x), some (.ref y), some (.ref p), v3, v4, v5, v6, v7, v8, v9, v10, v11] G := by
  obtain ⟨tl, ptl, hl⟩ := w_b (P := P) (w := w) (base := base) (cdv := cdv) (outer := outer) (s := s) (H := H) (E := E) T O OQ OM MA hr
  refine ⟨_, (pss_cons (ps_lock (ps_for PassesOwn.never rfl (pi_keys (pv 2)) (pg_name (i := 3) sc_Waits___init__.nd rfl (by first | exact Or.inl rfl | exact Or.inr rfl))
      (pss_one (ps_lock (ps_for PassesOwn.never rfl (pi_keys (pe_dget (hu_of hr) (pv 2) (pv 3) (fun _ _ => rfl))) (pg_name (i := 5) sc_Waits___init__.nd rfl (by first | exact Or.inl rfl | exact Or.inr rfl))
      (pss_one (ps_dput (hu_of hr) (pe_fld (pv 0) rfl) (pe_tup (pa_cons (pv 3) (pa_cons (pv 5) pa_nil))) (pe_dget (hu_of hr) (pe_dget (hu_of hr) (pv 2) (pv 3) (fun _ _ => rfl)) (pv 5) (fun _ _ => rfl)) rfl)))))))
      ptl), ?_⟩
  intro D G x dx dI dN dT dA y p hs its kd v3 v4 v5 v6 v7 v8 v9 v10 v11 hx qr nIN nTA hI hN hT hA hp hh g q
  have lk : kd.length = hs.length := Paired.length hh
  have ek := (keys_names (F := fun v (r : Rw) => ∃ d kr, v = .ref d ∧ G d = some (.dK kr) ∧ CoinsC kr r) hh).2
  have npI : p ≠ dI := fun z => by rw [z, hI] at hp; cases hp
  have nxp : x ≠ p := fun z => by rw [z, hp] at hx; cases hx
  have nxI : x ≠ dI := fun z => by rw [z, hI] at hx; cases hx
  refine cut_if (fun σ H' => (∃ v3 v4 v5, σ = [some (.ref x), some (.ref y), some (.ref p), v3, v4, v5, v6, v7, v8, v9, v10, v11]) ∧ (∀ c o, c ≠ dI → G c = some o → H' c = some o) ∧ ∃ ki : List (List Key × V), H' dI = some (.dT ki) ∧ ki.length ≤ 36 ∧ ∀ s, (valV ki (sk s)).getD (.int 0) = .int (amt hs s.1 s.2)) ?_ fun rest => ?_
  · rintro σ G2 ⟨⟨v3, v4, v5, rfl⟩, k2, ki, hI2, lki, vki⟩
    have q2 : QueR K G2 G2 y hs its := by
      obtain ⟨ddy, c, l, kc, us, h1, h2, h3, h4, h5, h6⟩ := id qr
      refine ⟨ddy, c, l, kc, us, k2 _ _ (fun z => by rw [z, hI] at h1; cases h1) h1, k2 _ _ (fun z => by rw [z, hI] at h2; cases h2) h2, L2.Paired.mapP h3 fun _ _ ⟨e, d, kr, a, b, cc⟩ => ⟨e, d, kr, a, k2 _ _ (fun z => by rw [z, hI] at b; cases b) b, cc⟩, k2 _ _ (fun z => by rw [z, hI] at h4; cases h4) h4, isA_tups (fun t xs e => k2 _ _ (fun z => by rw [z, hI] at e; cases e) e) h5 (its_tup its), h6⟩
    exact hl D G2 x dx dI dN dT dA y hs its _ _ _ _ _ _ _ _ _ _ ki (k2 _ _ nxI hx) q2 nIN nTA hI2 (k2 _ _ nIN.symm hN) (k2 _ _ (fun z => by rw [z, hI] at hT; cases hT) hT) (k2 _ _ (fun z => by rw [z, hI] at hA; cases hA) hA) lki vki (fun H' B dg σ n s W TK => q G2 H' B dg σ k2 (by rw [hI2]; simp) n s W TK)
  refine ⟨p, _, hp, trivial, fun od => ?_⟩
  have hF : (upd G p (.frz od (.dK kd))) p = some (.frz od (.dK kd)) := upd_same
  have fz : ∀ c o, c ≠ p → G c = some o → (upd G p (.frz od (.dK kd))) c = some o := fun c o n e => by rw [upd_ne n]; exact e
  have bk : ∀ {H'}, (∀ c o, c ≠ dI → (upd G p (.frz od (.dK kd))) c = some o → H' c = some o) → ∀ c o, c ≠ dI → G c = some o → (upd H' p (.dK kd)) c = some o := fun {H'} k c o n e => by
    by_cases hc : c = p
    · rw [hc] at e ⊢
      rw [hp] at e
      cases e
      exact upd_same
    · rw [upd_ne hc]
      exact k _ _ n (fz _ _ hc e)
  generalize upd G p (.frz od (.dK kd)) = F at hF fz bk ⊢
  refine ⟨_, rfl, p, od, rfl, .inl ⟨kd, hF, for_it walk_keys (fun i σ H' => (∃ v3 v4 v5, σ = [some (.ref x), some (.ref y), some (.ref p), v3, v4, v5, v6, v7, v8, v9, v10, v11]) ∧ (∀ c o, c ≠ dI → F c = some o → H' c = some o) ∧ ∃ ki : List (List Key × V), H' dI = some (.dT ki) ∧ ki.length ≤ 6 * i ∧ ∀ s, (valV ki (sk s)).getD (.int 0) = .int (if s.1 ∈ (hs.take i).map (·.1) then amt hs s.1 s.2 else 0)) ⟨⟨_, _, _, rfl⟩, fun _ _ _ e => e, [], fz _ _ npI.symm hI, Nat.zero_le _, fun s => rfl⟩ (fun i σ H' _ pp => pp.2.1 _ _ npI hF) ?_ ?_⟩⟩
  · rintro i u σ H1 H2 hi ⟨⟨v3, v4, v5, rfl⟩, k1, ki, hI1, lki, vki⟩ ⟨rfl, k, v, hk, rfl⟩
    have hz : hs[i]? = some (hs[i]'(by omega)) := List.getElem?_eq_getElem _
    generalize hs[i]'(by omega) = pm at hz
    have em : (kd.map (·.1))[i]? = some k := by rw [List.getElem?_map, hk]; rfl
    rw [ek, List.getElem?_map, hz] at em
    obtain rfl : Sum.inr pm.1 = k := Option.some.inj em
    have mm : pm.1 ∈ hs.map (·.1) := List.mem_map.mpr ⟨pm, List.mem_of_getElem? hz, rfl⟩
    obtain ⟨d, kr, ev, hd, cc, gr⟩ := hh.get g mm
    have ndI : d ≠ dI := fun z => by rw [z, hI] at hd; cases hd
    have ndp : d ≠ p := fun z => by
      rw [z, hp] at hd
      cases hd
      obtain ⟨_, d2, kr2, ev2, _⟩ := Paired.at2 hh hk hz
      have ev2 : v = .ref d2 := ev2
      obtain ⟨b, hb⟩ : ∃ b, (gR hs pm.1)[i]? = some b := by
        have h1 := (List.getElem?_eq_some_iff.mp hk).1
        have h2 := Paired.length cc
        exact ⟨(gR hs pm.1)[i]'(by omega), List.getElem?_eq_getElem (by omega)⟩
      have := (Paired.at2 cc hk hb).2
      have : v = .int b.2 := this
      rw [ev2] at this
      cases this
    have hd1 := k1 _ _ ndI (fz _ _ ndp hd)
    have lr : kr.length = (gR hs pm.1).length := Paired.length cc
    refine ⟨d, _, hd1, trivial, fun od2 => ?_⟩
    have hF2 : (upd H2 d (.frz od2 (.dK kr))) d = some (.frz od2 (.dK kr)) := upd_same
    have fz2 : ∀ c o, c ≠ d → H2 c = some o → (upd H2 d (.frz od2 (.dK kr))) c = some o := fun c o n e => by rw [upd_ne n]; exact e
    have bk2 : ∀ {H'}, (∀ c o, c ≠ dI → (upd H2 d (.frz od2 (.dK kr))) c = some o → H' c = some o) → ∀ c o, c ≠ dI → F c = some o → (upd H' d (.dK kr)) c = some o := fun {H'} k c o n e => by
      by_cases hc : c = d
      · rw [hc] at e ⊢
        rw [fz _ _ ndp hd] at e
        cases e
        exact upd_same
      · rw [upd_ne hc]
        exact k _ _ n (fz2 _ _ hc (k1 _ _ n e))
    have kF : ∀ c o, c ≠ dI → c ≠ d → F c = some o → (upd H2 d (.frz od2 (.dK kr))) c = some o := fun c o n1 n2 e => fz2 _ _ n2 (k1 _ _ n1 e)
    have hI2 : (upd H2 d (.frz od2 (.dK kr))) dI = some (.dT ki) := fz2 _ _ ndI.symm hI1
    generalize upd H2 d (.frz od2 (.dK kr)) = F2 at hF2 fz2 bk2 kF hI2 ⊢
    have gp : DGet F2 p (.str pm.1) (some (.ref d)) := .inl ⟨kd, Sum.inr pm.1, .inr ⟨od, kF _ _ npI ndp.symm hF⟩, rfl, ev.symm⟩
    refine ⟨_, rfl, _, rfl, p, _, rfl, gp, d, od2, rfl, .inl ⟨kr, hF2, for_it walk_keys (fun j σ H' => (∃ v4 v5, σ = [some (.ref x), some (.ref y), some (.ref p), some (.str pm.1), v4, v5, v6, v7, v8, v9, v10, v11]) ∧ (∀ c o, c ≠ dI → F2 c = some o → H' c = some o) ∧ ∃ ki : List (List Key × V), H' dI = some (.dT ki) ∧ ki.length ≤ 6 * i + j ∧ ∀ s, (valV ki (sk s)).getD (.int 0) = .int (if s.1 ∈ (hs.take i).map (·.1) ∨ (s.1 = pm.1 ∧ s.2 ∈ ((gR hs pm.1).take j).map (·.1)) then amt hs s.1 s.2 else 0)) ⟨⟨_, _, rfl⟩, fun _ _ _ e => e, ki, hI2, lki, fun s => ?_⟩ (fun i σ H' _ pp => pp.2.1 _ _ ndI hF2) ?_ ?_⟩⟩
    · rw [vki s]
      congr 1
      refine if_iff ⟨.inl, fun h => h.elim id fun h => by simp at h⟩
    · rintro j u σ H3 H4 hj ⟨⟨v4, v5, rfl⟩, k3, kj, hI3, lkj, vkj⟩ ⟨rfl, k', v', hk', rfl⟩
      have hy : (gR hs pm.1)[j]? = some ((gR hs pm.1)[j]'(by omega)) := List.getElem?_eq_getElem _
      generalize (gR hs pm.1)[j]'(by omega) = pt at hy
      obtain ⟨ek', ev'⟩ := Paired.at2 cc hk' hy
      have ek' : k' = Sum.inr pt.1 := ek'
      have ev' : v' = .int pt.2 := ev'
      subst ek'
      subst ev'
      have vv : valV kr (Sum.inr pt.1) = some (.int pt.2) := val_nodup (keys_nd (F := fun v i => v = V.int i) cc gr.1) _ (List.mem_of_getElem? hk')
      have ea : amt hs pm.1 pt.1 = pt.2 := by
        show gC (gR hs pm.1) pt.1 = pt.2
        unfold gC
        rw [mem_look gr.1 (show (pt.1, pt.2) ∈ gR hs pm.1 from List.mem_of_getElem? hy)]
        rfl
      have l6 := gr.2.1
      have li6 := g.2.1
      have k3F : ∀ c o, c ≠ dI → c ≠ d → F c = some o → H4 c = some o := fun c o n1 n2 e => k3 _ _ n1 (kF _ _ n1 n2 e)
      have hx4 := k3F _ _ nxI (fun z => by rw [z, hd] at hx; cases hx) (fz _ _ nxp hx)
      have gp4 : DGet H4 p (.str pm.1) (some (.ref d)) := .inl ⟨kd, Sum.inr pm.1, .inr ⟨od, k3F _ _ npI ndp.symm hF⟩, rfl, ev.symm⟩
      refine ⟨_, rfl, _, rfl, p, _, rfl, gp4, _, rfl, d, _, rfl, .inl ⟨kr, Sum.inr pt.1, .inr ⟨od2, k3 _ _ ndI hF2⟩, rfl, vv.symm⟩, ?_⟩
      refine ⟨_, rfl, x, _, dx, _, _, rfl, hx4, O.cl, O.nI, rfl, _, rfl, _, rfl, lineN (n := 2), fun t ht => ?_⟩
      have s4 : Same H4 (upd H4 t (.tup [.str pm.1, kV (Sum.inr pt.1)])) := Same.up ht
      have ht' : (upd H4 t (.tup [.str pm.1, kV (Sum.inr pt.1)])) t = some (.tup ((sk (pm.1, pt.1)).map kV)) := upd_same
      generalize upd H4 t _ = H5 at s4 ht' ⊢
      refine ⟨dI, _, rfl, .inr ⟨kj, sk (pm.1, pt.1), t, s4 _ _ hI3, rfl, ht', sz (m := 200) (by omega) (by decide), rfl⟩, ⟨_, _, rfl⟩, fun c o n e => by rw [upd_ne n]; exact s4 _ _ (k3 _ _ n e), _, upd_same, ?_, fun s => ?_⟩
      · have := length_putK kj (sk (pm.1, pt.1)) (.int pt.2)
        omega
      · have et : (gR hs pm.1).take (j + 1) = (gR hs pm.1).take j ++ [pt] := by rw [List.take_add_one, hy]; rfl
        rw [valV_put]
        by_cases c : s = (pm.1, pt.1)
        · rw [if_pos (by rw [c]), if_pos (.inr ⟨by rw [c], by rw [c, et]; simp⟩), c, Option.getD_some, ea]
        · rw [if_neg fun z => c (sk_inj z), vkj]
          congr 1
          refine if_iff ⟨fun h => h.elim .inl fun ⟨h1, h2⟩ => .inr ⟨h1, by rw [et, List.map_append]; exact List.mem_append.mpr (.inl h2)⟩, fun h => h.elim .inl fun ⟨h1, h2⟩ => ?_⟩
          rw [et, List.map_append] at h2
          rcases List.mem_append.mp h2 with h2 | h2
          · exact .inr ⟨h1, h2⟩
          · have h2 : s.2 = pt.1 := by simpa using h2
            exact absurd (Prod.ext h1 h2) c
    · rintro σ H' ⟨⟨v4, v5, rfl⟩, k3, kj, hI3, lkj, vkj⟩
      have nIF : dI ≠ d := ndI.symm
      refine ⟨k3 _ _ ndI hF2, ⟨_, _, _, rfl⟩, bk2 k3, kj, by rw [upd_ne nIF]; exact hI3, ?_, fun s => ?_⟩
      · have := gr.2.1
        rw [lr] at lkj
        omega
      · rw [vkj s, lr, List.take_length, show (hs.take (i + 1)).map (·.1) = (hs.take i).map (·.1) ++ [pm.1] by rw [List.take_add_one, hz, List.map_append]; rfl]
        congr 1
        by_cases c1 : s.1 ∈ (hs.take i).map (·.1)
        · rw [if_pos (.inl c1), if_pos (List.mem_append.mpr (.inl c1))]
        · by_cases c2 : s.1 = pm.1
          · rw [if_pos (show s.1 ∈ (hs.take i).map (·.1) ++ [pm.1] by rw [c2]; simp)]
            by_cases c3 : s.2 ∈ (gR hs pm.1).map (·.1)
            · rw [if_pos (.inr ⟨c2, c3⟩)]
            · rw [if_neg fun h => h.elim c1 fun h => c3 h.2]
              show 0 = gC (gR hs s.1) s.2
              rw [c2, gC_no c3]
          · rw [if_neg fun h => h.elim c1 fun h => c2 h.1, if_neg fun h => (List.mem_append.mp h).elim c1 fun h => c2 (by simpa using h)]
  · rintro σ H' ⟨⟨v3, v4, v5, rfl⟩, k1, ki, hI1, lki, vki⟩
    refine ⟨k1 _ _ npI hF, rest _ _ ⟨⟨_, _, _, rfl⟩, bk k1, ki, by rw [upd_ne npI.symm]; exact hI1, ?_, fun s => ?_⟩⟩
    · have := g.2.1
      omega
    · rw [vki s, lk, List.take_length]
      congr 1
      split
      · rfl
      · rename_i c
        show 0 = gC (gR hs s.1) s.2
        rw [gR_no c]
        rfl
end
end K34

set_option Elab.async false
set_option linter.all false
set_option maxRecDepth 100000
set_option maxHeartbeats 4000000
namespace K34
open PySem PySem.Spec PyProof.Rows L2 Sr
/-! ### Waits(queues) -/
def spWInit (K : PySem.W.Frag) : Sp := fun vs H Q _ => ∃ x y hs its H0 dx, vs = [.ref x, .ref y] ∧ Same H0 H ∧ H0 x = none ∧ H x = some (.ins (He.ga K "Waits") dx []) ∧ QueR K H0 H0 y hs its ∧
  ∀ H' dI dN dT dA, Same H0 H' → H0 dI = none → H0 dA = none → WaiS K (off [dI, dA] (newH H0 H')) x dI dN dT dA its → WaiD H' dI dA hs its [] → Q .non H'
section
variable {P : Program} {w : World} {K : PySem.W.Frag} {mg : Str → Option Value} {base : Heap}
theorem m_winit (T : Txt K mg) (O : Wai K mg) (OQ : Que K mg) (OM : QueM K) (D : DfnM K "Waits" "__init__" "Waits.__init__" s_Waits___init__) (MH : CalM P w K mg base CX0 1 (He.fAd K ("Queues", some "holdings")) ["self"] (spHold K)) (MA : CalM P w K mg base CX0 1 (He.fAd K ("Queues", some "all_items")) ["self"] (spItems K)) :
    CalM P w K mg base CX0 2 (He.fAd K ("Waits", some "__init__")) ["self", "queues"] (spWInit K) := by
  refine D.cal sc_Waits___init__ (fun _ _ _ _ _ _ us hl => match us, hl with | [_, _], _ => rfl) (fun vs H Q E h => ?_) fun cdv A outer s H vs Q E hr h => ?_
  · obtain ⟨x, y, hs, its, H0, dx, rfl, _⟩ := h
    rfl
  obtain ⟨x, y, hs, its, H0, dx, rfl, s0, x0, hx, qr, q⟩ := h
  obtain ⟨tl, ptl, hl⟩ := w_a (P := P) (w := w) (base := base) (cdv := cdv) (outer := outer) (s := s) (H := H) (E := E) T O OQ OM MA hr
  refine ⟨_, (pss_cons (ps_fld (pv 0) pe_dnewT rfl)
      (pss_cons (ps_fld (pv 0) pe_dnewT rfl)
      (pss_cons (ps_fld (pv 0) pe_dnewK rfl)
      (pss_cons (ps_fld (pv 0) pe_dnewK rfl)
      (pss_cons (ps_set (i := 2) sc_Waits___init__.nd rfl (by first | exact Or.inl rfl | exact Or.inr rfl) (m0_ MH hr (by decide) OQ.cl OM.holdings (pv 1)))
      ptl))))), ?_⟩
  have z0 := s0
  have hx0 := hx
  intro dI fdI
  have nxI : dI ≠ x := fun z => by rw [z, hx0] at fdI; cases fdI
  have edI : H0 dI = none := free_below z0 fdI
  have s1 : Same H (upd H dI (.dT [])) := Same.up fdI
  have hdI : (upd H dI (.dT [])) dI = some (.dT []) := upd_same
  generalize upd H dI (.dT []) = H1 at s1 hdI ⊢
  refine ⟨_, rfl, x, _, dx, [], rfl, s1 _ _ hx0, O.cl, O.nI, by decide, ?_⟩
  have up1 : ∀ c o, c ≠ x → H1 c = some o → (upd H1 x (.ins (He.ga K "Waits") dx (putF "_income" (.ref dI) []))) c = some o := fun c o m e => by rw [upd_ne m]; exact e
  have hx1 : (upd H1 x (.ins (He.ga K "Waits") dx (putF "_income" (.ref dI) []))) x = some (.ins (He.ga K "Waits") dx [("_income", .ref dI)]) := upd_same
  have z1 : Same H0 (upd H1 x (.ins (He.ga K "Waits") dx (putF "_income" (.ref dI) []))) := same_free (z0.trans s1) x0
  generalize upd H1 x (.ins (He.ga K "Waits") dx (putF "_income" (.ref dI) [])) = G1 at up1 hx1 z1 ⊢
  have hdI := up1 _ _ nxI hdI
  intro dN fdN
  have nIN : dI ≠ dN := fun z => by rw [z, fdN] at hdI; cases hdI
  have nxN : dN ≠ x := fun z => by rw [z, hx1] at fdN; cases fdN
  have edN : H0 dN = none := free_below z1 fdN
  have s2 : Same G1 (upd G1 dN (.dT [])) := Same.up fdN
  have hdN : (upd G1 dN (.dT [])) dN = some (.dT []) := upd_same
  generalize upd G1 dN (.dT []) = H2 at s2 hdN ⊢
  refine ⟨_, rfl, x, _, dx, [("_income", .ref dI)], rfl, s2 _ _ hx1, O.cl, O.nN, show 1 < 1000 by decide, ?_⟩
  have up2 : ∀ c o, c ≠ x → H2 c = some o → (upd H2 x (.ins (He.ga K "Waits") dx (putF "_needs" (.ref dN) [("_income", .ref dI)]))) c = some o := fun c o m e => by rw [upd_ne m]; exact e
  have hx2 : (upd H2 x (.ins (He.ga K "Waits") dx (putF "_needs" (.ref dN) [("_income", .ref dI)]))) x = some (.ins (He.ga K "Waits") dx [("_income", .ref dI), ("_needs", .ref dN)]) := upd_same
  have z2 : Same H0 (upd H2 x (.ins (He.ga K "Waits") dx (putF "_needs" (.ref dN) [("_income", .ref dI)]))) := same_free (z1.trans s2) x0
  generalize upd H2 x (.ins (He.ga K "Waits") dx (putF "_needs" (.ref dN) [("_income", .ref dI)])) = G2 at up2 hx2 z2 ⊢
  have hdI := up2 _ _ nxI (s2 _ _ hdI)
  have hdN := up2 _ _ nxN hdN
  intro dT fdT
  have nIT : dI ≠ dT := fun z => by rw [z, fdT] at hdI; cases hdI
  have nNT : dN ≠ dT := fun z => by rw [z, fdT] at hdN; cases hdN
  have nxT : dT ≠ x := fun z => by rw [z, hx2] at fdT; cases fdT
  have edT : H0 dT = none := free_below z2 fdT
  have s3 : Same G2 (upd G2 dT (.dK [])) := Same.up fdT
  have hdT : (upd G2 dT (.dK [])) dT = some (.dK []) := upd_same
  generalize upd G2 dT (.dK []) = H3 at s3 hdT ⊢
  refine ⟨_, rfl, x, _, dx, [("_income", .ref dI), ("_needs", .ref dN)], rfl, s3 _ _ hx2, O.cl, O.nT, show 2 < 1000 by decide, ?_⟩
  have up3 : ∀ c o, c ≠ x → H3 c = some o → (upd H3 x (.ins (He.ga K "Waits") dx (putF "_takes" (.ref dT) [("_income", .ref dI), ("_needs", .ref dN)]))) c = some o := fun c o m e => by rw [upd_ne m]; exact e
  have hx3 : (upd H3 x (.ins (He.ga K "Waits") dx (putF "_takes" (.ref dT) [("_income", .ref dI), ("_needs", .ref dN)]))) x = some (.ins (He.ga K "Waits") dx [("_income", .ref dI), ("_needs", .ref dN), ("_takes", .ref dT)]) := upd_same
  have z3 : Same H0 (upd H3 x (.ins (He.ga K "Waits") dx (putF "_takes" (.ref dT) [("_income", .ref dI), ("_needs", .ref dN)]))) := same_free (z2.trans s3) x0
  generalize upd H3 x (.ins (He.ga K "Waits") dx (putF "_takes" (.ref dT) [("_income", .ref dI), ("_needs", .ref dN)])) = G3 at up3 hx3 z3 ⊢
  have hdI := up3 _ _ nxI (s3 _ _ hdI)
  have hdN := up3 _ _ nxN (s3 _ _ hdN)
  have hdT := up3 _ _ nxT hdT
  intro dA fdA
  have nIA : dI ≠ dA := fun z => by rw [z, fdA] at hdI; cases hdI
  have nNA : dN ≠ dA := fun z => by rw [z, fdA] at hdN; cases hdN
  have nTA : dT ≠ dA := fun z => by rw [z, fdA] at hdT; cases hdT
  have nxA : dA ≠ x := fun z => by rw [z, hx3] at fdA; cases fdA
  have edA : H0 dA = none := free_below z3 fdA
  have s4 : Same G3 (upd G3 dA (.dK [])) := Same.up fdA
  have hdA : (upd G3 dA (.dK [])) dA = some (.dK []) := upd_same
  generalize upd G3 dA (.dK []) = H4 at s4 hdA ⊢
  refine ⟨_, rfl, x, _, dx, [("_income", .ref dI), ("_needs", .ref dN), ("_takes", .ref dT)], rfl, s4 _ _ hx3, O.cl, O.nA, show 3 < 1000 by decide, ?_⟩
  have up4 : ∀ c o, c ≠ x → H4 c = some o → (upd H4 x (.ins (He.ga K "Waits") dx (putF "_aside" (.ref dA) [("_income", .ref dI), ("_needs", .ref dN), ("_takes", .ref dT)]))) c = some o := fun c o m e => by rw [upd_ne m]; exact e
  have hx4 : (upd H4 x (.ins (He.ga K "Waits") dx (putF "_aside" (.ref dA) [("_income", .ref dI), ("_needs", .ref dN), ("_takes", .ref dT)]))) x = some (.ins (He.ga K "Waits") dx [("_income", .ref dI), ("_needs", .ref dN), ("_takes", .ref dT), ("_aside", .ref dA)]) := upd_same
  have z4 : Same H0 (upd H4 x (.ins (He.ga K "Waits") dx (putF "_aside" (.ref dA) [("_income", .ref dI), ("_needs", .ref dN), ("_takes", .ref dT)]))) := same_free (z3.trans s4) x0
  generalize upd H4 x (.ins (He.ga K "Waits") dx (putF "_aside" (.ref dA) [("_income", .ref dI), ("_needs", .ref dN), ("_takes", .ref dT)])) = G4 at up4 hx4 z4 ⊢
  have hdI := up4 _ _ nxI (s4 _ _ hdI)
  have hdN := up4 _ _ nxN (s4 _ _ hdN)
  have hdT := up4 _ _ nxT (s4 _ _ hdT)
  have hdA := up4 _ _ nxA hdA
  obtain ⟨ddy, c, l, kc, us, h1, h2, h3, h4, h5, g, gi⟩ := id qr
  refine ⟨_, rfl, y, ddy, _, rfl, z4 _ _ h1, rfl, y, hs, its, rfl, qr.mono z4, fun H5 p kd s5 hp hp5 hh nv => ?_⟩
  have hh5 : HldR H5 kd hs := hh.mono new_same
  have z5 := z4.trans s5
  refine hl _ H5 x dx dI dN dT dA y p hs its kd _ _ _ _ _ _ _ _ _ (s5 _ _ hx4) (qr.mono z5) nIN nTA (s5 _ _ hdI) (s5 _ _ hdN) (s5 _ _ hdT) (s5 _ _ hdA) hp5 hh5 g fun G6 H' B dg σ k6 g6I ng s6 W TK => ?_
  have hI5 := s5 _ _ hdI
  have hN5 := s5 _ _ hdN
  have hT5 := s5 _ _ hdT
  have hA5 := s5 _ _ hdA
  have hx5 := s5 _ _ hx4
  have nNT : dN ≠ dT := ne_of hN5 hT5 fun z => by cases z
  have nIT : dI ≠ dT := ne_of hI5 hT5 fun z => by cases z
  have gg : ∀ {c : Addr} {o : HO}, G6 c = some o → c ≠ dg := fun e z => by rw [z, ng] at e; cases e
  have kp : ∀ {c : Addr} {o : HO}, c ≠ dI → c ≠ dN → c ≠ dT → H5 c = some o → H' c = some o := fun n1 n2 n3 e => W.kp _ _ n1 n2 n3 (gg (k6 _ _ n1 e)) (s6 _ _ (k6 _ _ n1 e))
  have bI : B dI ≠ none := fun z => by
    obtain ⟨o, e⟩ := Option.ne_none_iff_exists'.mp g6I
    rw [s6 _ _ e] at z
    cases z
  have h0B : Same H0 B := fun c o e => s6 _ _ (k6 _ _ (fun z => by rw [z, edI] at e; cases e) (z5 _ _ e))
  have z' : Same H0 H' := fun c o e => kp (fun z => by rw [z, edI] at e; cases e) (fun z => by rw [z, edN] at e; cases e) (fun z => by rw [z, edT] at e; cases e) (z5 _ _ e)
  have mf : ∀ {c : Addr} {o : HO}, H0 c = none → c ≠ dI → c ≠ dA → H' c = some o → (off [dI, dA] (newH H0 H')) c = some o := fun {c o} e n1 n2 h => by
    rw [off_out fun m => by
      rcases List.mem_cons.mp m with m | m
      · exact n1 m
      · exact n2 (List.mem_singleton.mp m), new_at e]
    exact h
  have bA := s6 _ _ (k6 _ _ (ne_of hA5 hI5 fun z => by cases z) hA5)
  have li := gi.1
  obtain ⟨_, ⟨ki, hI', lI', vI', sI'⟩, ⟨kt, hN', lN', nd', nv', ent', all'⟩, _⟩ := id W
  obtain ⟨kk, hT', lT', _, vT'⟩ := id TK
  refine q H' dI dN dT dA z' edI edA ⟨⟨dx, mf x0 nxI.symm nxA.symm (kp nxI.symm nxN.symm nxT.symm hx5)⟩, ⟨kt, mf edN nIN.symm (ne_of hN5 hA5 fun z => by cases z) hN', lN', nd', fun q' m => ?_, all'⟩, ⟨kk, mf edT nIT.symm nTA hT', by omega, fun k it e => ?_⟩, off_in (by simp), off_in (by simp)⟩ ⟨⟨ki, hI', by omega, fun s v e => ?_, fun s e => ?_, fun it mi g mg => sI' g (List.mem_flatten.mpr ⟨it, mi, mg⟩)⟩, ?_, List.nodup_nil, fun _ m => (by cases m), ne_of hI5 hA5 fun z => by cases z⟩
  · obtain ⟨s', d, e1, e2, e3, e4⟩ := ent' q' m
    exact ⟨s', d, e1, mf (free_below h0B e2) (fun z => bI (by rw [← z]; exact e2)) (fun z => by rw [z, bA] at e2; cases e2) e3, e4⟩
  · obtain ⟨l', us', e1, e2, e3, e4⟩ := vT' k it e
    refine ⟨l', us', e1, mf (free_below h0B e2) (fun z => bI (by rw [← z]; exact e2)) (fun z => by rw [z, bA] at e2; cases e2) e3, L2.Paired.mapP e4 fun _ _ ⟨t, t2, f1, f2, f3, f4, f5⟩ => ⟨t, t2, f1, mf (free_below h0B f2) (fun z => bI (by rw [← z]; exact f2)) (fun z => by rw [z, bA] at f2; cases f2) f4, mf (free_below h0B f3) (fun z => bI (by rw [← z]; exact f3)) (fun z => by rw [z, bA] at f3; cases f3) f5⟩⟩
  · have := vI' s
    rw [e, Option.getD_some] at this
    rw [this, had_flat]
  · have := vI' s
    rw [e, Option.getD_none] at this
    rw [had_flat]
    exact (V.int.inj this).symm
  · exact kp (ne_of hA5 hI5 fun z => by cases z) (ne_of hA5 hN5 fun z => by cases z) nTA.symm hA5
structure MkW (P : Program) (w : World) (K : PySem.W.Frag) (mg : Str → Option Value) (base : Heap) : Prop where
  ex : CalM P w K mg base CX0 2 (He.fAd K ("Waits", some "__init__")) ["self", "queues"] (spWInit K)
  mk_ : Mk K (He.ga K "Waits") (He.fAd K ("Waits", some "__init__"))
  nm : mg "Waits" = some (.ref (He.ga K "Waits"))
theorem MkW.pe {X : Cx} {K : PySem.W.Frag} {w : World} {j : Nat} {p pos : Pos} {e : Expr} {es : List Expr} {t : TA} (c : MkW X.prog w K X.mg X.base) (hK : X.K = K) (hw : X.w = w) (hr : Room j X.A) (hk : 3 ≤ j) (hg : Gl X "Waits") (ha : PA X (e :: es) t)
    (he : starEach (e :: es) X.env = (false, eval e X.env) :: starEach es X.env := by rfl) (hpl : (backTo pos (starEach es X.env)).any (·.1) = false := by rfl) :
    PE X (.Call (.Name "Waits" p) (e :: es) [] pos) (tMake (He.ga K "Waits") (spWInit K) [] E0 t) := by
  subst hK
  subst hw
  obtain ⟨fd, F, kp, hb⟩ := c.ex.ex
  exact pe_make c.mk_ F (hr.mono hk) hg c.nm hb .nil pass0 ha (by decide) he hpl
theorem ok_waits {K : PySem.W.Frag} {H : Hp} {Q : Addr → Hp → Prop} {E : XK} {y : Addr} {hs : Hs} {its : Its} (qr : QueR K H H y hs its)
    (q : ∀ x H' dI dN dT dA, H x = none → Same H H' → H dI = none → H dA = none → WaiS K (off [dI, dA] (newH H H')) x dI dN dT dA its → WaiD H' dI dA hs its [] → Q x H') :
    ∀ x dx, H x = none → H dx = none → dx ≠ x → spWInit K (.ref x :: ([.ref y] ++ [])) (upd (upd H dx (.own x)) x (.ins (He.ga K "Waits") dx [])) (fun v H2 => v = .non ∧ Q x H2) E := by
  intro x dx hx hdx ne
  have s0 : Same H (upd (upd H dx (.own x)) x (.ins (He.ga K "Waits") dx [])) := (Same.up hdx).trans (Same.up (by rw [upd_ne fun z => ne z.symm]; exact hx))
  exact ⟨x, y, hs, its, H, dx, rfl, s0, hx, upd_same, qr, fun H' dI dN dT dA s1 n1 n2 w1 w2 => ⟨rfl, q x H' dI dN dT dA hx s1 n1 n2 w1 w2⟩⟩
end
end K34

set_option Elab.async false
set_option linter.all false
set_option maxRecDepth 100000
set_option maxHeartbeats 4000000
namespace K34
open PySem PySem.Spec PyProof.Rows L2 Sr
/-! ### _tell_some, paper -/
def RowO (H : Hp) (v : V) (r : Nat × Why) : Prop := ∃ t t2, v = .ref t ∧ H t = some (.tup [.int (r.1 : Nat), .ref t2]) ∧ WhyO H t2 r.2
theorem WhyO.keep {H H' : Hp} {t : Addr} {y : Why} (h : WhyO H t y) (k : ∀ us, H t = some (.tup us) → H' t = some (.tup us)) : WhyO H' t y := by
  cases y <;> exact k _ h
theorem WhyO.tup {H : Hp} {t : Addr} {y : Why} (h : WhyO H t y) : ∃ us, H t = some (.tup us) := by
  cases y <;> exact ⟨_, h⟩
theorem RowO.keep {H H' : Hp} {v : V} {r : Nat × Why} (h : RowO H v r) (k : ∀ b us, H b = some (.tup us) → H' b = some (.tup us)) : RowO H' v r := by
  obtain ⟨t, t2, a, b, c⟩ := h
  exact ⟨t, t2, a, k _ _ b, c.keep (k _)⟩
theorem pap_app {hs : Hs} {its : Its} : ∀ {A : List Nat} {l m : List (Nat × Why)}, papOk hs its A l → papOk hs its (A ++ l.map (·.1)) m → papOk hs its A (l ++ m)
  | A, [], m, _, h => by
    rw [List.map_nil, List.append_nil] at h
    exact h
  | A, (n, y) :: r, m, ⟨h1, h2, h3, h4⟩, h => ⟨h1, h2, h3, pap_app h4 (by rw [List.append_assoc]; exact h)⟩
/-- all but the two dicts that change -/
def Kp (dI dA : Addr) (H H' : Hp) : Prop := ∀ b o, b ≠ dI → b ≠ dA → H b = some o → H' b = some o
theorem Kp.refl {dI dA : Addr} {H : Hp} : Kp dI dA H H := fun _ _ _ _ e => e
theorem Kp.trans {dI dA : Addr} {H H' H2 : Hp} (a : Kp dI dA H H') (b : Kp dI dA H' H2) : Kp dI dA H H2 := fun c o n1 n2 e => b c o n1 n2 (a c o n1 n2 e)
theorem Kp.of {dI dA : Addr} {H H' : Hp} (s : Same H H') : Kp dI dA H H' := fun c o _ _ e => s c o e
theorem Kp.st {dI dA : Addr} {M H H' : Hp} (k : Kp dI dA H H') (s : Same M H) (nI : M dI = none) (nA : M dA = none) : Same M H' := fun c o e => k c o (fun z => by rw [z, nI] at e; cases e) (fun z => by rw [z, nA] at e; cases e) (s _ _ e)
theorem WaiD.tup {H : Hp} {dI dA : Addr} {hs : Hs} {its : Its} {A : List Nat} (w : WaiD H dI dA hs its A) {H' : Hp} (k : Kp dI dA H H') {b : Addr} {us : List V} (e : H b = some (.tup us)) : H' b = some (.tup us) := by
  obtain ⟨⟨kt, hI, _⟩, hA, _⟩ := w
  exact k _ _ (fun z => by rw [z, hI] at e; cases e) (fun z => by rw [z, hA] at e; cases e) e
theorem WaiD.lst {H : Hp} {dI dA : Addr} {hs : Hs} {its : Its} {A : List Nat} (w : WaiD H dI dA hs its A) {H' : Hp} (k : Kp dI dA H H') {b : Addr} {us : List V} (e : H b = some (.lst us)) : H' b = some (.lst us) := by
  obtain ⟨⟨kt, hI, _⟩, hA, _⟩ := w
  exact k _ _ (fun z => by rw [z, hI] at e; cases e) (fun z => by rw [z, hA] at e; cases e) e
theorem WaiD.same {H H' : Hp} {dI dA : Addr} {hs : Hs} {its : Its} {A : List Nat} (w : WaiD H dI dA hs its A) (s : Same H H') : WaiD H' dI dA hs its A := by
  obtain ⟨⟨kt, hI, r⟩, hA, r2, r3, r4⟩ := w
  exact ⟨⟨kt, s _ _ hI, r⟩, s _ _ hA, r2, r3, r4⟩
/-- what one round tells -/
noncomputable def tellF (hs : Hs) (its : Its) : List Nat → List Nat → List (Nat × Why)
  | _, [] => []
  | A, n :: r => if n ∈ A then tellF hs its A r else match whyF hs its A n with
    | none => tellF hs its A r
    | some y => (n, y) :: tellF hs its (A ++ [n]) r
def spTell (K : PySem.W.Frag) : Sp := fun vs H Q _ => ∃ (M : Hp) (y x dI dN dT dA : Addr) (hs : Hs) (its : Its) (A : List Nat), vs = [.ref y, .ref x] ∧ Same M H ∧ QueR K M M y hs its ∧ WaiS K M x dI dN dT dA its ∧ WaiD H dI dA hs its A ∧
  ∀ H' p us rows, Kp dI dA H H' → H p = none → H' p = some (.lst us) → Paired (RowO H') us rows → papOk hs its A rows → WaiD H' dI dA hs its (A ++ rows.map (·.1)) → (rows = [] → ∀ n, n < its.length → n ∉ A → ∀ y, ¬ okWhy hs its A n y) → rows = tellF hs its A (List.range its.length) → Q (.ref p) H'
structure QueL (K : PySem.W.Frag) : Prop where
  len : PySem.W.findIn K (.ref (He.ga K "Queues")) "__len__" = some (some (.ref (He.fAd K ("Queues", some "__len__"))))
  lenF : PySem.W.typeIn K (.ref (He.fAd K ("Queues", some "__len__"))) = some (.type "function")
section
variable {P : Program} {w : World} {K : PySem.W.Frag} {mg : Str → Option Value} {base : Heap}
end
end K34

set_option Elab.async false
set_option linter.all false
set_option maxRecDepth 100000
set_option maxHeartbeats 4000000
namespace K34
open PySem PySem.Spec PyProof.Rows L2 Sr
/-! ### paper -/
inductive Run (hs : Hs) (its : Its) : List Nat → List (Nat × Why) → Prop
  | done {A : List Nat} : tellF hs its A (List.range its.length) = [] → Run hs its A []
  | more {A : List Nat} {t r : List (Nat × Why)} : tellF hs its A (List.range its.length) = t → t ≠ [] → Run hs its (A ++ t.map (·.1)) r → Run hs its A (t ++ r)
theorem Run.one {hs : Hs} {its : Its} {A : List Nat} {r : List (Nat × Why)} (h : Run hs its A r) : ∀ {r' : List (Nat × Why)}, Run hs its A r' → r' = r := by
  induction h with
  | done e =>
    intro r' h'
    cases h' with
    | done _ => rfl
    | more e2 ne _ => exact absurd (e2.symm.trans e) ne
  | more e ne _ ih =>
    intro r' h'
    cases h' with
    | done e2 => exact absurd (e.symm.trans e2) ne
    | more e2 _ h2 =>
      rw [← e2, ← e]
      rw [← e2, e] at h2
      rw [ih h2]
def spPaper (K : PySem.W.Frag) : Sp := fun vs H Q _ => ∃ (y : Addr) (hs : Hs) (its : Its), vs = [.ref y] ∧ QueR K H H y hs its ∧
  ∀ H' p us rows, Same H H' → H p = none → H' p = some (.lst us) → Paired (RowO H') us rows → papOk hs its [] rows → (rows.map (·.1)).Nodup → (∀ n, n < its.length → n ∉ rows.map (·.1) → ∀ y, ¬ okWhy hs its (rows.map (·.1)) n y) → Run hs its [] rows → Q (.ref p) H'
theorem WaiS.up {K : PySem.W.Frag} {M M' : Hp} {x dI dN dT dA : Addr} {its : Its} (w : WaiS K M x dI dN dT dA its) (s : Same M M') (nI : M' dI = none) (nA : M' dA = none) : WaiS K M' x dI dN dT dA its := by
  obtain ⟨⟨dx, a⟩, ⟨kt, b1, b2, b3, b4, b5⟩, ⟨kk, c1, c2, c3⟩, _, _⟩ := w
  refine ⟨⟨dx, s _ _ a⟩, ⟨kt, s _ _ b1, b2, b3, fun q m => ?_, b5⟩, ⟨kk, s _ _ c1, c2, fun k it e => ?_⟩, nI, nA⟩
  · obtain ⟨sl, d, e1, e2, e3⟩ := b4 q m
    exact ⟨sl, d, e1, s _ _ e2, e3⟩
  · obtain ⟨l, us, e1, e2, e3⟩ := c3 k it e
    exact ⟨l, us, e1, s _ _ e2, L2.Paired.mapP e3 fun _ _ ⟨t, t2, f1, f2, f3⟩ => ⟨t, t2, f1, s _ _ f2, s _ _ f3⟩⟩
theorem pairs_app {α β : Type} {F : α → β → Prop} : ∀ {l : List α} {m : List β} {l2 : List α} {m2 : List β}, Paired F l m → Paired F l2 m2 → Paired F (l ++ l2) (m ++ m2)
  | _, _, _, _, .nil, h => h
  | _, _, _, _, .cons a r, h => .cons a (pairs_app r h)
section
variable {P : Program} {w : World} {K : PySem.W.Frag} {mg : Str → Option Value} {base : Heap}
end
end K34

set_option Elab.async false
set_option linter.all false
set_option maxRecDepth 100000
set_option maxHeartbeats 4000000
namespace K34
open PySem PySem.Spec PyProof.Rows L2 Sr
/-! ### papers as data -/
mutual
def pdD : Dt → PyData
  | .non => .none
  | .bl b => .bool b
  | .int i => .int i
  | .str s => .str s
  | .lst l => .list (pdDs l)
  | .tup l => .tuple (pdDs l)
  | .dic => .none
def pdDs : List Dt → List PyData
  | [] => []
  | d :: r => pdD d :: pdDs r
end
/-- plain data, not deep, no dict in it -/
def okD : Nat → Dt → Bool
  | n + 1, .lst l => l.all (okD n)
  | n + 1, .tup l => l.all (okD n)
  | _, .lst _ => false
  | _, .tup _ => false
  | _, .str s => PyData.canLay0 (.str s)
  | _, .dic => false
  | _, _ => true
theorem okD_isDp {K : PySem.W.Frag} {H : Hp} : ∀ (n : Nat) {v : V} {d : Dt}, Is H v d → okD n d = true → Dp K H v (pdD d) := by
  have list : ∀ (n : Nat) (ih : ∀ {v : V} {d : Dt}, Is H v d → okD n d = true → Dp K H v (pdD d)) {vs : List V} {ds : List Dt}, IsA H vs ds → ds.all (okD n) = true → DpAll K H vs (pdDs ds) := by
    intro n ih vs ds
    induction ds generalizing vs with
    | nil => intro h _; cases h; exact .nil
    | cons d r ihr =>
      intro h p
      cases h with
      | cons a b =>
        rw [List.all_cons] at p
        obtain ⟨p1, p2⟩ := Bool.and_eq_true_iff.mp p
        exact .cons (ih a p1) (ihr b p2)
  intro n
  induction n with
  | zero =>
    intro v d h p
    cases h with
    | non => exact .non
    | bl b => exact .bl b
    | int i => exact .int i
    | str s _ => exact .str s
    | lst _ _ _ => cases p
    | tup _ _ _ => cases p
    | dic _ => cases p
  | succ n ih =>
    intro v d h p
    cases h with
    | non => exact .non
    | bl b => exact .bl b
    | int i => exact .int i
    | str s _ => exact .str s
    | lst h r _ => exact .lst (SqL.of h) (list n ih r p)
    | tup h r _ => exact .tup (SqT.of h) (list n ih r p)
    | dic _ => cases p
theorem okD_lay : ∀ (n : Nat) (d : Dt), okD n d = true → PyData.canLay0 (pdD d) = true ∧ PyData.depth (pdD d) ≤ n := by
  have list : ∀ (n : Nat) (ih : ∀ (d : Dt), okD n d = true → PyData.canLay0 (pdD d) = true ∧ PyData.depth (pdD d) ≤ n) (ds : List Dt), ds.all (okD n) = true → PyData.canLayAll0 (pdDs ds) = true ∧ PyData.depthAll (pdDs ds) ≤ n := by
    intro n ih ds
    induction ds with
    | nil => exact fun _ => ⟨rfl, Nat.zero_le _⟩
    | cons d r ihr =>
      intro p
      rw [List.all_cons] at p
      obtain ⟨p1, p2⟩ := Bool.and_eq_true_iff.mp p
      obtain ⟨a1, a2⟩ := ih d p1
      obtain ⟨b1, b2⟩ := ihr p2
      refine ⟨?_, ?_⟩
      · show (PyData.canLay0 (pdD d) && PyData.canLayAll0 (pdDs r)) = true
        rw [a1, b1]; rfl
      · simp only [pdDs, PyData.depthAll]
        omega
  intro n
  induction n with
  | zero =>
    intro d p
    cases d with
    | lst _ => cases p
    | tup _ => cases p
    | str s => exact ⟨p, Nat.le_refl _⟩
    | _ => exact ⟨rfl, Nat.zero_le _⟩
  | succ n ih =>
    intro d p
    cases d with
    | lst l =>
      obtain ⟨a, b⟩ := list n ih l p
      refine ⟨a, ?_⟩
      simp only [pdD, PyData.depth]
      omega
    | tup l =>
      obtain ⟨a, b⟩ := list n ih l p
      refine ⟨a, ?_⟩
      simp only [pdD, PyData.depth]
      omega
    | str s => exact ⟨p, Nat.zero_le _⟩
    | _ => exact ⟨rfl, Nat.zero_le _⟩
theorem okD_shaped {n : Nat} {d : Dt} (h : okD n d = true) (hn : n ≤ 60) : SeqAt.shaped (pdD d) = true := by
  obtain ⟨a, b⟩ := okD_lay n d h
  unfold SeqAt.shaped
  rw [a, Bool.true_and]
  exact decide_eq_true (by omega)
def isS (m : Str) : Dt → Bool
  | .str s => decide (s = m)
  | _ => false
theorem isS_eq {m : Str} {d : Dt} (h : isS m d = true) : d = .str m := by
  cases d with
  | str s => rw [of_decide_eq_true h]
  | _ => cases h
theorem eqv_strR (a : Str) (d : Dt) : PyData.eqv (pdD d) (.str a) = isS a d := by
  cases d with
  | str s => show (s == a) = decide (s = a); by_cases c : s = a
             · rw [c, beq_self_eq_true, decide_eq_true rfl]
             · rw [beq_false_of_ne c, decide_eq_false c]
  | _ => rfl
theorem eqv_strL (a : Str) (d : Dt) : PyData.eqv (.str a) (pdD d) = isS a d := by
  cases d with
  | str s => show (a == s) = decide (s = a); by_cases c : s = a
             · rw [c, beq_self_eq_true, decide_eq_true rfl]
             · rw [beq_false_of_ne fun z => c z.symm, decide_eq_false c]
  | _ => rfl
def numOf (n : Nat) : Dt → Option Nat
  | .int i => if 0 ≤ i ∧ i < (n : Int) then some i.toNat else none
  | _ => none
noncomputable def isWhyL (hs : Hs) (its : Its) (A : List Nat) (n : Nat) : List Dt → Bool
  | [.str b, m] => decide (b = "behind") && match numOf its.length m with
    | some m => whyB hs its A n (.behind m)
    | none => false
  | [.str b, .str y, .str t] => decide (b = "short") && whyB hs its A n (.short (y, t))
  | _ => false
theorem isWhyL_behind (hs : Hs) (its : Its) (A : List Nat) (n : Nat) (d : Dt) : isWhyL hs its A n [.str "behind", d] = match numOf its.length d with
    | some m => whyB hs its A n (.behind m)
    | none => false := by
  cases d <;> rfl
theorem isWhyL_long (hs : Hs) (its : Its) (A : List Nat) (n : Nat) (d1 d2 : Dt) (ds : List Dt) : isWhyL hs its A n (.str "behind" :: d1 :: d2 :: ds) = false := by
  cases ds <;> cases d1 <;> cases d2 <;> rfl
theorem isWhyL_no {hs : Hs} {its : Its} {A : List Nat} {n : Nat} {d : Dt} {ds : List Dt} (h : isS "behind" d = false) (h2 : isS "short" d = false ∨ ds.length ≠ 2) : isWhyL hs its A n (d :: ds) = false := by
  unfold isWhyL
  split
  · rename_i b m e
    cases e
    have h : decide (b = Str.ofString "behind") = false := h
    rw [h, Bool.false_and]
  · rename_i b y t e
    cases e
    rcases h2 with h2 | h2
    · have h2 : decide (b = Str.ofString "short") = false := h2
      rw [h2, Bool.false_and]
    · exact absurd rfl h2
  · rfl
theorem isWhyL_short (hs : Hs) (its : Its) (A : List Nat) (n : Nat) (a b : Str) : isWhyL hs its A n [.str "short", .str a, .str b] = whyB hs its A n (.short (a, b)) := by
  show (decide (Str.ofString "short" = Str.ofString "short") && whyB hs its A n (.short (a, b))) = _
  rw [decide_eq_true rfl]
  rfl
theorem isWhyL_odd {hs : Hs} {its : Its} {A : List Nat} {n : Nat} {d1 d2 : Dt} (h : ∀ a b, ¬ (d1 = .str a ∧ d2 = .str b)) : isWhyL hs its A n [.str "short", d1, d2] = false := by
  unfold isWhyL
  split
  · rename_i e
    cases e
  · rename_i e
    cases e
    exact absurd ⟨rfl, rfl⟩ (h _ _)
  · rfl
noncomputable def isWhy (hs : Hs) (its : Its) (A : List Nat) (n : Nat) (d : Dt) : Bool := match seqOfD d with
  | some l => isWhyL hs its A n l
  | none => false
noncomputable def isPap (hs : Hs) (its : Its) : List Nat → List Dt → Bool
  | _, [] => true
  | A, d :: r => match seqOfD d with
    | some [x, w] => match numOf its.length x with
      | some n => decide (n ∉ A) && (isWhy hs its A n w && isPap hs its (A ++ [n]) r)
      | none => false
    | _ => false
noncomputable def isPaper (hs : Hs) (its : Its) (d : Dt) : Bool := match seqOfD d with
  | some l => isPap hs its [] l
  | none => false
theorem queue_mem {d1 d2 : PyData} {its : Its} {n : Nat} : ((n : Nat) : Int) ∈ queueOf d1 d2 its ↔ n < its.length ∧ (itA its n).any (hitL d1 d2) = true := by
  unfold queueOf
  rw [List.mem_map]
  constructor
  · rintro ⟨p, m, e⟩
    obtain ⟨m1, m2⟩ := List.mem_filter.mp m
    obtain ⟨it, k⟩ := p
    have e : k = n := by have e : ((k : Nat) : Int) = (n : Nat) := e; omega
    subst e
    have := List.mem_zipIdx_iff_getElem?.mp m1
    have this : its[k]? = some it := this
    refine ⟨(List.getElem?_eq_some_iff.mp this).1, ?_⟩
    unfold itA
    rw [this]
    exact m2
  · rintro ⟨h1, h2⟩
    refine ⟨(itA its n, n), List.mem_filter.mpr ⟨List.mem_zipIdx_iff_getElem?.mpr ?_, h2⟩, rfl⟩
    unfold itA
    show its[n]? = some _
    rw [List.getElem?_eq_getElem h1]
    rfl
theorem hit_giv (a b : Str) (g : Leg) : hitL (.str a) (.str b) g = givB g (a, b) := by
  unfold hitL givB
  have e1 := eqv_strL g.1 (.str a)
  have e2 := eqv_strL g.2.1 (.str b)
  have e1 : PyData.eqv (.str g.1) (.str a) = decide (a = g.1) := e1
  have e2 : PyData.eqv (.str g.2.1) (.str b) = decide (b = g.2.1) := e2
  rw [e1, e2, decide_eq_decide.mpr (eq_comm (a := a) (b := g.1)), decide_eq_decide.mpr (eq_comm (a := b) (b := g.2.1))]
theorem queue_str {a b : Str} {its : Its} {n : Nat} : ((n : Nat) : Int) ∈ queueOf (.str a) (.str b) its ↔ n ∈ qN its (a, b) := by
  rw [queue_mem]
  unfold qN
  rw [List.mem_filter, List.mem_range, show (hitL (.str a) (.str b)) = fun g => givB g (a, b) from funext fun g => hit_giv a b g]
theorem queue_odd {d1 d2 : Dt} {its : Its} {n : Nat} (m : ((n : Nat) : Int) ∈ queueOf (pdD d1) (pdD d2) its) : ∃ a b, d1 = .str a ∧ d2 = .str b := by
  obtain ⟨_, h⟩ := queue_mem.mp m
  obtain ⟨g, _, e⟩ := List.any_eq_true.mp h
  unfold hitL at e
  rw [eqv_strL, eqv_strL] at e
  obtain ⟨e1, e2⟩ := Bool.and_eq_true_iff.mp e
  exact ⟨_, _, isS_eq e1, isS_eq e2⟩
end K34

set_option Elab.async false
set_option linter.all false
set_option maxRecDepth 100000
set_option maxHeartbeats 4000000
namespace K34
open PySem PySem.Spec PyProof.Rows L2 Sr
/-! ### _is_number, _is_reason -/
theorem at_nat {xs : List V} {i : Nat} {u : V} (h : xs[i]? = some u) : atI xs (i : Int) = some u := by
  have hl := (List.getElem?_eq_some_iff.mp h).1
  unfold atI ixN
  simp [hl]
  exact (List.getElem?_eq_some_iff.mp h).2
theorem seq_of {K : PySem.W.Frag} {H : Hp} {v : V} {d : Dt} (i : Is H v d) (h : isSeq d = true) : ∃ a xs l, v = .ref a ∧ (SqL K H a xs ∨ SqT K H a xs) ∧ IsA H xs l ∧ xs.length ≤ 60 ∧ (d = .lst l ∨ d = .tup l) := by
  cases i with
  | lst a b c => exact ⟨_, _, _, rfl, .inl (SqL.of a), b, c, .inl rfl⟩
  | tup a b c => exact ⟨_, _, _, rfl, .inr (SqT.of a), b, c, .inr rfl⟩
  | _ => cases h
theorem ix_any {K : PySem.W.Frag} {H : Hp} {a : Addr} {xs : List V} {i : Int} {u : V} {Q : VK} (h : SqL K H a xs ∨ SqT K H a xs) (e : atI xs i = some u) (q : Q u H) : rIx K (.ref a) (.int i) H Q := by
  rcases h with h | h
  · exact .inl ⟨a, xs, i, u, rfl, rfl, h, e, q⟩
  · exact .inr (.inl ⟨a, xs, i, u, rfl, rfl, h, e, q⟩)
theorem seq_mono {K : PySem.W.Frag} {H H' : Hp} {a : Addr} {xs : List V} (e : Same H H') (h : SqL K H a xs ∨ SqT K H a xs) : SqL K H' a xs ∨ SqT K H' a xs := h.elim (fun h => .inl (sql_mono e h)) (fun h => .inr (sqt_mono e h))
def spNum (K : PySem.W.Frag) : Sp := fun vs H Q _ => ∃ y v hs its d, vs = [.ref y, v] ∧ QueR K H H y hs its ∧ Is H v d ∧ ∀ H', Same H H' → Q (.bl (numOf its.length d).isSome) H'
section
variable {P : Program} {w : World} {K : PySem.W.Frag} {mg : Str → Option Value} {base : Heap}
abbrev s__is_number : Stmt := top 29
theorem sc__is_number : FnScope ["queues", "thing"] ["queues", "thing"] (defScope s__is_number) := ⟨rfl, rfl, rfl, by decide +kernel, rfl, by decide +kernel, by decide +kernel⟩
theorem c__is_number (T : Txt K mg) (QL : QueL K) (D : Dfn K mg "_is_number" s__is_number) (ML : CalM P w K mg base CX0 1 (He.fAd K ("Queues", some "__len__")) ["self"] (spLen K)) (C_is_integer : Cal P w K mg base 1 "is_integer" ["thing"] (spB isInteger)) : Cal P w K mg base 3 "_is_number" ["queues", "thing"] (spNum K) := by
  refine D.cal sc__is_number (fun _ _ _ _ _ _ us hl => match us, hl with | [_, _], _ => rfl) (fun vs H Q E h => ?_) fun cdv A outer s H vs Q E hr h => ?_
  · obtain ⟨y, v, hs, its, d, rfl, _⟩ := h
    rfl
  obtain ⟨y, v, hs, its, d, rfl, qr, hv, q⟩ := h
  refine ⟨_, (pss_one (ps_ret (pe_and (pe_cal C_is_integer hr (by first | decide | omega) (by rfl) (pa_cons (pv 1) pa_nil)) (pe_one (pe_chain op_le op_lt pe_int (pv 1) (pe_callB (id := "len") (len_ ML hr (by decide) QL.len QL.lenF) (by rfl) T.len (by decide +kernel) (pa_cons (pv 0) pa_nil))))))), ?_⟩
  have gi : goodIts its := by obtain ⟨_, _, _, _, _, _, _, _, _, _, _, gi⟩ := id qr; exact gi
  have li := gi.1
  obtain ⟨dy, fs, hy⟩ : ∃ dy fs, H y = some (.ins (He.ga K "Queues") dy fs) := by obtain ⟨dy, _, _, _, _, h1, _⟩ := id qr; exact ⟨dy, _, h1⟩
  have key : ∀ b : Bool, (numOf its.length d).isSome = b → ∀ H', Same H H' → Q (.bl b) H' := fun b e => e ▸ q
  refine ⟨_, rfl, v, d, rfl, hv, fun H1 s1 => ⟨_, rfl, ?_⟩⟩
  cases hv with
  | int i =>
    refine (if_pos rfl).mpr ?_
    refine ⟨_, rfl, _, _, rfl, rfl, _, rfl, ?_⟩
    by_cases c : 0 ≤ i
    · rw [decide_eq_true c]
      refine (if_pos rfl).mpr ?_
      refine ⟨_, rfl, y, dy, fs, rfl, s1 _ _ hy, y, hs, its, rfl, qr.mono s1, its.length, rfl, by omega, _, _, rfl, rfl, key _ ?_ _ s1⟩
      show (if 0 ≤ i ∧ i < (its.length : Int) then some i.toNat else none).isSome = _
      by_cases c2 : i < (its.length : Int)
      · rw [if_pos ⟨c, c2⟩, decide_eq_true c2]; rfl
      · rw [if_neg fun z => c2 z.2, decide_eq_false c2]; rfl
    · rw [decide_eq_false c]
      refine (if_neg Bool.false_ne_true).mpr (key _ ?_ _ s1)
      show (if 0 ≤ i ∧ i < (its.length : Int) then some i.toNat else none).isSome = _
      rw [if_neg fun z => c z.1]; rfl
  | bl b => exact (if_neg Bool.false_ne_true).mpr (key _ rfl _ s1)
  | _ => exact (if_neg Bool.false_ne_true).mpr (key _ rfl _ s1)
theorem word_ok : SeqAt.shaped (.str "behind") = true ∧ SeqAt.shaped (.str "short") = true := by decide +kernel
theorem inV_int (n : Int) : ∀ l : List Int, inV (.int n) (l.map V.int) = decide (n ∈ l)
  | [] => rfl
  | x :: r => by
    have ih := inV_int n r
    unfold inV at ih ⊢
    rw [List.map_cons, List.any_cons, ih]
    show ((x == n) || decide (n ∈ r)) = _
    by_cases c : x = n
    · rw [c, beq_self_eq_true, Bool.true_or, decide_eq_true (by simp)]
    · rw [beq_false_of_ne c, Bool.false_or]
      exact decide_eq_decide.mpr ⟨fun m => by simp [m], fun m => (List.mem_cons.mp m).resolve_left fun z => c z.symm⟩
theorem flat_ints : ∀ l : List Int, (l.map V.int).all flatV = true
  | [] => rfl
  | _ :: r => flat_ints r
theorem str_at {H : Hp} {v : V} {s : Str} (h : Is H v (.str s)) : v = .str s := by
  cases h
  rfl
def spReason (K : PySem.W.Frag) : Sp := fun vs H Q _ => ∃ (M : Hp) (y x dI dN dT dA : Addr) (v : V) (hs : Hs) (its : Its) (A : List Nat) (n : Nat) (d : Dt), vs = [.ref y, .ref x, .int (n : Nat), v] ∧ Same M H ∧ QueR K M M y hs its ∧ WaiS K M x dI dN dT dA its ∧ WaiD H dI dA hs its A ∧ n < its.length ∧ Is H v d ∧ (d = .dic ∨ okD 6 d = true) ∧ ∀ H', Same H H' → Q (.bl (isWhy hs its A n d)) H'
end
end K34

set_option Elab.async false
set_option linter.all false
set_option maxRecDepth 100000
set_option maxHeartbeats 4000000
namespace Sr
open PySem PySem.Spec PyProof.Rows L2
/-! ### sorted(set(xs)) -/
theorem each_refs {H : Hp} : ∀ {L : List Pq}, (∀ q ∈ L, AtP H q.1 q.2) → PySem.W.EachIs (fun v b => ∃ q, v = Value.ref q ∧ AtP H q b) (L.map fun q => Value.ref q.1) (L.map (·.2))
  | [], _ => .nil
  | q :: L, h => .cons ⟨q.1, rfl, h q List.mem_cons_self⟩ (each_refs fun u m => h u (List.mem_cons_of_mem _ m))
theorem refs_of : ∀ {ks : List Pq} {us : List Value}, Vals (ks.map fun q => V.ref q.1) us → us = ks.map fun q => Value.ref q.1
  | [], _, .nil => rfl
  | q :: ks, _, .cons r t => by
    cases r
    rw [refs_of t, List.map_cons]
section
variable {X : Cx}
theorem pat_of {pins : List (Addr × Obj)} {σ : L2.St} {H : Hp} {s : Shared} (I : L2.Inv X pins σ H s) {q : Addr} {p : Str × Str} (h : AtP H q p) : PAt X.prog X.w s.heap p q := by
  have hs : SqT X.K H q ((pk p).map kV) := SqT.of h
  obtain ⟨its, r, ⟨o, ho, hc, n, hd⟩, _⟩ := I.tuple hs
  have e : ItemsAre (mixKind X.prog X.w) (pk p) its := by
    cases r with
    | cons r1 t => cases t with
      | cons r2 t => cases t with
        | nil => exact .cons (kV_is (k := Sum.inr p.1) r1) (.cons (kV_is (k := Sum.inr p.2) r2) .nil)
  exact ⟨o, its.toArray, n, ho, hc, hd, by simpa using e⟩
def tSortSet (K : PySem.W.Frag) (ta : TE) : TE := fun σ H Q => ta σ H fun x H1 => ∃ (l : Addr) (ks : List Pq), x = .ref l ∧ SqL K H1 l (ks.map fun q => V.ref q.1) ∧ (∀ q ∈ ks, AtP H1 q.1 q.2) ∧ ks.length < 64 ∧
  ∀ (bs : List (Str × Str)) qs p, bs.Nodup → bs.length ≤ ks.length → (∀ b, b ∈ bs ↔ b ∈ ks.map (·.2)) → Paired (AtP H1) qs (pSort bs) → H1 p = none → Q (.ref p) (upd H1 p (.lst (qs.map V.ref)))
theorem pe_sortSet {a : Expr} {ta : TE} {p p2 q pos : Pos} (hc : X.calm = true) (hu : X.A.units + 64 < cLine) (hg : Gl X "sorted") (hm : X.mg "sorted" = none) (hg2 : Gl X "set") (hm2 : X.mg "set" = none) (ha : PE X a ta)
    (na : starEach [a] X.env = (false, eval a X.env) :: starEach [] X.env := by rfl) : PE X (.Call (.Name "sorted" p) [.Call (.Name "set" p2) [a] [] q] [] pos) (tSortSet X.K ta) := by
  refine ⟨fun pins s σ H Q I h => ?_⟩
  refine Call_ (ld_blt (u := .builtin "sorted") I hg hm (by decide +kernel) ?_)
  refine PyProof.Rows.callWith_builtin1 (PyProof.Rows.args_cons ?_ rfl) rfl rfl
  refine Call_ (ld_blt (u := .type "set") I hg2 hm2 (by decide +kernel) ?_)
  refine PyProof.Rows.callWith_type1 (PyProof.Rows.args_cons (thn (ha.run pins s σ H _ I h) fun v s1 ⟨x, H1, I1, r1, q1⟩ => PyProof.Rows.args_nil ?_) na) na rfl
  obtain ⟨l, ks, rfl, hq, hk, few, q1⟩ := q1
  cases r1
  obtain ⟨its, r, pl, hz⟩ := I1.list hq
  have hit := refs_of r
  refine pairs_set (P := X.prog) (w := X.w) ks (I1.ok.hd hc) pl.isList (by simpa using hit) (fun q m => pat_of I1 (hk q m)) few (by omega) fun h' tk ⟨L, es, ep, t, R, g, keep⟩ => ?_
  refine PyProof.Rows.args_nil ?_
  have I2 : L2.Inv X pins σ H1 { s1 with heap := h', toks := tk } := I1.kept keep
  refine Calls.call_function_entry PyProof.Rows.kind_sorted PyProof.Rows.plain_sorted PyProof.Rows.entry_sorted (PyProof.Rows.args_sorted1 _) ?_
  unfold Builtin.«sorted»
  refine wpAny_bind (m := checkCount "sorted" 1 1 _) (wpAny_pure ?_)
  obtain ⟨o, ho, hex, hd⟩ := R.obj
  have Rf := R.few
  have Rl := PSet.len (s := { s1 with heap := h', toks := tk }) R
  refine wpAny_bind (collect_set (P := X.prog) (w := X.w) (A := X.A.in1) (I1.ok.hd hc) ⟨o, ho, hex.1, hd⟩ (PSet.fit (s := { s1 with heap := h', toks := tk }) R) (by unfold scanBound; omega) R.tab.ris R.ord fun s2 vs k2 hz2 g2 o2 pm => ?_)
  have hes : es.toList.map (·.2) = L.map fun q => Value.ref q.1 := by
    rw [R.ent, List.map_map]
    rfl
  rw [hes] at pm
  obtain ⟨L', pL, rfl⟩ := perm_lift pm L rfl
  have inks : ∀ q ∈ L', q ∈ ks := fun q m => List.mem_of_mem_take (g.old q (pL.mem_iff.mp m))
  have lL : L'.length < 64 := by rw [pL.length_eq]; exact Rf
  refine wpAny_bind (wpAny_newList ?_ (by rw [List.length_map, sizeLine_eq]; omega))
  have hoL : (s2.heap.push (seqObj "list" (L'.map fun q => Value.ref q.1).toArray 0)).get? s2.heap.objs.size = some (seqObj "list" (L'.map fun q => Value.ref q.1).toArray 0) := Heap.get?_push_size _ rfl
  have k3 : ∀ b o, h'.get? b = some o → (s2.heap.push (seqObj "list" (L'.map fun q => Value.ref q.1).toArray 0)).get? b = some o := fun b o e => Heap.get?_push_of_some _ (k2 b o e)
  have hok3 : HOk X.prog X.w H1 (s2.heap.push (seqObj "list" (L'.map fun q => Value.ref q.1).toArray 0)) := I2.hok.kept k3
  have e0 := each_refs fun q m => hk q (inks q m)
  have er : PySem.W.EachIs (fun v b => ∃ as, Reads (s2.heap.push (seqObj "list" (L'.map fun q => Value.ref q.1).toArray 0)) v (encP b) as ∧ s2.heap.objs.size ∉ as) (L'.map fun q => Value.ref q.1) (L'.map (·.2)) := e0.mono fun v b ⟨q, e, h⟩ => ⟨[], by rw [e]; exact reads_pair hok3 h, by simp⟩
  refine wpAny_bind (wpAny_holding (PySem.W.list_sort_data (s := { s2 with heap := s2.heap.push (seqObj "list" (L'.map fun q => Value.ref q.1).toArray 0) }) (enc := encP) hoL e0 er (PySem.W.AllAlike.of encP_alike) (PySem.W.Sortable.tuples fun b => ⟨_, _, rfl⟩) (by rw [List.length_map, sizeLine_eq]; omega) (fun b _ => ?_) fun out hlen eo => ?_))
  · have := encP_depth b
    simp only [Around.in1_units]
    omega
  obtain ⟨qs, e1, e2, e3⟩ := vals_of_each eo
  obtain ⟨e', he'⟩ := PyProof.Rows.sortedHeap_at (vs := L'.map fun q => Value.ref q.1) (out := out.toArray) hoL
  have hlen2 : (qs.map V.ref).length ≤ sizeLine := by
    rw [e2.length, hlen, List.length_map, sizeLine_eq]
    omega
  have kk : ∀ b o, h'.get? b = some o → (PyProof.Rows.sortedHeap (s2.heap.push (seqObj "list" (L'.map fun q => Value.ref q.1).toArray 0)) s2.heap.objs.size (L'.map fun q => Value.ref q.1) out.toArray).get? b = some o := fun b o e => by
    have hb : b < s2.heap.objs.size := Heap.lt_size (k2 b o e)
    rw [PyProof.Rows.sortedHeap_old (Nat.ne_of_lt hb) (by rw [size_push']; exact Nat.lt_succ_of_lt hb)]
    exact k3 b o e
  have hn : H1 s2.heap.objs.size = none := I2.hok.fresh hz2
  have J : L2.Inv X pins σ (upd H1 s2.heap.objs.size (.lst (qs.map V.ref))) { ({ s1 with heap := h', toks := tk } : Shared) with heap := PyProof.Rows.sortedHeap (s2.heap.push (seqObj "list" (L'.map fun q => Value.ref q.1).toArray 0)) s2.heap.objs.size (L'.map fun q => Value.ref q.1) out.toArray, gens := s2.gens, drawn := s2.drawn, toks := s2.toks } :=
    I2.call (ch := []) (Un.laid kk hz2 hn) (I2.hok.laid kk hz2 ⟨hlen2, out, e', e2, he'⟩) (by rw [g2]; exact I2.bare) (fun _ z => nomatch z)
  have es2 : s2 = { ({ s1 with heap := h', toks := tk } : Shared) with heap := s2.heap, gens := s2.gens, drawn := s2.drawn, toks := s2.toks } := by
    cases s2
    cases o2
    rfl
  refine wpAny_pure ⟨_, rfl, .ref s2.heap.objs.size, upd H1 s2.heap.objs.size (.lst (qs.map V.ref)), ?_, rfl, q1 (L'.map fun q : Pq => q.2) qs _ ((pL.map fun q : Pq => q.2).nodup_iff.mpr R.one) (by rw [List.length_map, pL.length_eq]; exact g.few) (fun b => ⟨fun m => ?_, fun m => ?_⟩) e3 hn⟩
  · rw [es2]
    exact J
  · obtain ⟨q, mq, e⟩ := List.mem_map.mp m
    exact List.mem_map.mpr ⟨q, inks q mq, e⟩
  · obtain ⟨q, mq, e⟩ := List.mem_map.mp m
    rw [(pL.map (·.2)).mem_iff, ← e]
    exact g.all q (by rw [List.take_length]; exact mq)
end
end Sr

set_option Elab.async false
set_option linter.all false
set_option maxRecDepth 100000
set_option maxHeartbeats 4000000
namespace K34
open PySem PySem.Spec PyProof.Rows L2 Sr
/-! ### the law's keys, what is given and taken -/
def KeyO (H : Hp) (v : V) (s : Slot) : Prop := ∃ t, v = .ref t ∧ H t = some (.tup [.str s.1, .str s.2])
def ItL (H : Hp) (l : Addr) (its : Its) : Prop := ∃ us, H l = some (.lst us) ∧ IsA H us (its.map itD)
theorem ItL.mono {H H' : Hp} (s : Same H H') {l : Addr} {its : Its} (h : ItL H l its) : ItL H' l its := by
  obtain ⟨us, a, b⟩ := h
  exact ⟨us, s _ _ a, b.mono s⟩
def spKeys : Sp := fun vs H Q _ => ∃ (l : Addr) (its : Its), vs = [.ref l] ∧ ItL H l its ∧ goodIts its ∧ ∀ H' p qs ss, Same H H' → H p = none → H' p = some (.lst qs) → Paired (KeyO H') qs ss → (∀ s, s ∈ ss ↔ qN its s ≠ []) → ss.length ≤ 24 → Q (.ref p) H'
def slG (g : Leg) : Slot := (g.1, g.2.1)
theorem qN_ne {its : Its} {s : Slot} : qN its s ≠ [] ↔ s ∈ (its.flatten.map slG) := by
  constructor
  · intro h
    obtain ⟨k, m⟩ := List.exists_mem_of_ne_nil _ h
    obtain ⟨m1, m2⟩ := List.mem_filter.mp m
    obtain ⟨g, mg, e⟩ := List.any_eq_true.mp m2
    obtain ⟨it, mi, mg2⟩ := itA_mem mg
    exact List.mem_map.mpr ⟨g, List.mem_flatten.mpr ⟨it, mi, mg2⟩, (givB_iff.mp e).symm⟩
  · intro m
    obtain ⟨g, mg, e⟩ := List.mem_map.mp m
    obtain ⟨it, mi, mg2⟩ := List.mem_flatten.mp mg
    obtain ⟨k, hk⟩ := List.mem_iff_getElem?.mp mi
    refine List.ne_nil_of_mem (a := k) (List.mem_filter.mpr ⟨List.mem_range.mpr (List.getElem?_eq_some_iff.mp hk).1, List.any_eq_true.mpr ⟨g, ?_, givB_iff.mpr e.symm⟩⟩)
    unfold itA
    rw [hk]
    exact mg2
theorem key_pq {H : Hp} : ∀ {acc : List V} {ss : List Slot}, Paired (KeyO H) acc ss → ∃ ks : List Pq, acc = ks.map (fun q => V.ref q.1) ∧ (∀ q ∈ ks, AtP H q.1 q.2) ∧ ks.map (·.2) = ss
  | _, _, .nil => ⟨[], rfl, (fun _ m => by cases m), rfl⟩
  | _, _, .cons (b := s) ⟨t, e, h⟩ r => by
    obtain ⟨ks, e1, e2, e3⟩ := key_pq r
    refine ⟨(t, s) :: ks, by rw [e, e1]; rfl, fun q m => ?_, by rw [List.map_cons, e3]⟩
    rcases List.mem_cons.mp m with rfl | m
    · exact h
    · exact e2 q m
theorem pq_key {H : Hp} : ∀ {qs : List Addr} {ss : List Slot}, Paired (AtP H) qs ss → Paired (KeyO H) (qs.map V.ref) ss
  | _, _, .nil => .nil
  | _, _, .cons h r => .cons ⟨_, rfl, h⟩ (pq_key r)
theorem its_at {H : Hp} {us : List V} {its : Its} (h : IsA H us (its.map itD)) {i : Nat} {u : V} {it : List Leg} (hu : us[i]? = some u) (hi : its[i]? = some it) : ∃ t xs, u = .ref t ∧ H t = some (.tup xs) ∧ IsA H xs (it.map legT) := by
  have := isA_at h hu (show (its.map itD)[i]? = some (itD it) by rw [List.getElem?_map, hi]; rfl)
  cases this with
  | tup a b c => exact ⟨_, _, rfl, a, b⟩
theorem legs_at {H : Hp} {xs : List V} {it : List Leg} (h : IsA H xs (it.map legT)) {i : Nat} {u : V} {g : Leg} (hu : xs[i]? = some u) (hg : it[i]? = some g) : ∃ t, u = .ref t ∧ H t = some (.tup (legVs g)) := by
  have := isA_at h hu (show (it.map legT)[i]? = some (legT g) by rw [List.getElem?_map, hg]; rfl)
  exact leg_at this
section
variable {P : Program} {w : World} {K : PySem.W.Frag} {mg : Str → Option Value} {base : Heap}
abbrev s__law_keys : Stmt := top 43
theorem sc__law_keys : FnScope ["items", "found", "item", "leg"] ["items"] (defScope s__law_keys) := ⟨rfl, rfl, rfl, by decide +kernel, rfl, by decide +kernel, by decide +kernel⟩
theorem c__law_keys (T : Txt K mg) (D : Dfn K mg "_law_keys" s__law_keys) : Cal P w K mg base 1 "_law_keys" ["items"] spKeys := by
  refine D.cal sc__law_keys (fun _ _ _ _ _ _ us hl => match us, hl with | [_], _ => rfl) (fun vs H Q E h => ?_) fun cdv A outer s H vs Q E hr h => ?_
  · obtain ⟨l, its, rfl, _⟩ := h
    rfl
  obtain ⟨l, its, rfl, ⟨us, hl, isu⟩, gi, q⟩ := h
  refine ⟨_, (pss_cons (ps_set (i := 1) sc__law_keys.nd rfl (by first | exact Or.inl rfl | exact Or.inr rfl) (pe_lst pa_nil))
      (pss_cons (ps_for PassesOwn.never rfl (pi_list (pv 0)) (pg_name (i := 2) sc__law_keys.nd rfl (by first | exact Or.inl rfl | exact Or.inr rfl))
      (pss_one (ps_expr (pe_bm PySem.F.plainAttrs_list PySem.F.slot_list_extend PySem.F.type_list_extend mt_extend (pv 1) (pa_cons (pe_lc (own := [("leg", 3)]) (g := gName 3) (tt := tYes) rfl sc__law_keys.nd (pi_tup (pv 2)) (blkOk_by (N := ["items", "found", "item", "leg"]) (sc := defScope s__law_keys) (by decide +kernel)) (fun _ _ _ _ _ => (pg_name (i := 3) sc__law_keys.nd rfl (by first | exact Or.inl rfl | exact Or.inr rfl))) (fun _ _ _ _ _ => pts_nil) (fun _ _ _ _ _ => (pe_tup (pa_cons (pe_ix (ix_tupK K rfl) (pv 3) pe_int (fun _ _ => rfl)) (pa_cons (pe_ix (ix_tupK K rfl) (pv 3) pe_int (fun _ _ => rfl)) pa_nil))))) pa_nil)))))
      (pss_one (ps_ret (pe_sortSet rfl hr.units (by rfl) T.sorted (by rfl) T.set (pv 1)))))), ?_⟩
  have lus : us.length = its.length := by rw [isu.len, List.length_map]
  have li := gi.1
  refine ⟨lineN (n := 0), fun f hf => ?_⟩
  have s1 : Same H (upd H f (.lst [])) := Same.up hf
  have hf1 : (upd H f (.lst [])) f = some (.lst []) := upd_same
  generalize upd H f (.lst []) = H1 at s1 hf1 ⊢
  try dsimp only
  refine ⟨_, rfl, l, rfl, ⟨_, SqL.of (s1 _ _ hl)⟩, for_it (walk_list (xs := us)) (fun i σ H' => (∃ v2 v3, σ = [some (.ref l), some (.ref f), v2, v3]) ∧ Same H H' ∧ ∃ acc, H' f = some (.lst acc) ∧ Paired (KeyO H') acc ((its.take i).flatten.map slG)) ⟨⟨_, _, rfl⟩, s1, [], hf1, .nil⟩ (fun i σ H' _ pp => SqL.of (pp.2.1 _ _ hl)) ?_ ?_⟩
  · rintro i u σ H2 H3 hi ⟨⟨v2, v3, rfl⟩, s2, acc, h2, pr⟩ ⟨rfl, hu⟩
    have hit : its[i]? = some (its[i]'(by omega)) := List.getElem?_eq_getElem _
    generalize its[i]'(by omega) = it at hit
    obtain ⟨t, xs, rfl, ht, ix⟩ := its_at isu hu hit
    have lit := (gi.2 it (List.mem_of_getElem? hit)).1
    have lxs : xs.length = it.length := by rw [ix.len, List.length_map]
    have ht3 := s2 _ _ ht
    have lacc := Paired.length pr
    rw [List.length_map] at lacc
    have la : ((its.take i).flatten).length ≤ 2 * i := legs_len gi i
    refine ⟨_, rfl, .inl ⟨rfl, _, SqL.of h2⟩, _, rfl, t, rfl, ⟨_, SqT.of ht3⟩, fun B hB => lc_gen walk_tup at_any it (fun _ => true) lxs.symm (sz (m := 60) (by omega)) hB (fun H' s' => SqT.of (s' _ _ ht3)) (Rel := fun H g v => KeyO H v (slG g)) (fun H1 H2 g y s ⟨t, e1, e2⟩ => ⟨t, e1, s _ _ e2⟩) (fun H1 g y c c' hc ⟨t, e1, e2⟩ => ⟨t, e1, by rw [upd_ne fun z => by rw [z, hc] at e2; cases e2]; exact e2⟩) (fun j u g H4 A Bf lt hu2 hg s4 kA _ => ?_) (fun H4 acc2 s4 h4 pr2 => ?_)⟩
    · obtain ⟨tg, rfl, htg⟩ := legs_at ix hu2 hg
      refine ⟨rfl, ?_⟩
      refine ⟨_, rfl, tg, _, 0, _, rfl, rfl, SqT.of (s4 _ _ (s2 _ _ htg)), rfl, _, rfl, tg, _, 1, _, rfl, rfl, SqT.of (s4 _ _ (s2 _ _ htg)), rfl, lineN (n := 2), fun t2 ht2 => ?_⟩
      exact kA rfl _ _ (Same.up ht2) ⟨t2, rfl, upd_same⟩
    · have h2' := s4 _ _ h2
      have l2 := Paired.length pr2
      rw [List.filter_eq_self.mpr fun _ _ => rfl] at l2 pr2
      refine ⟨f, B, acc, acc2, rfl, rfl, h2', h4, Nat.le_of_lt (sz (m := 60) (n := acc.length + acc2.length) (by omega)), ⟨_, _, rfl⟩, ?_, acc ++ acc2, upd_same, ?_⟩
      · exact fun c o e => by
          rw [upd_ne fun z => by rw [z, hf] at e; cases e]
          exact s4 _ _ (s2 _ _ e)
      · have upt : ∀ c xs, H4 c = some (.tup xs) → (upd H4 f (.lst (acc ++ acc2))) c = some (.tup xs) := fun c xs e => by rw [upd_ne fun z => by rw [z, h2'] at e; cases e]; exact e
        rw [List.take_add_one, hit, List.flatten_append, List.map_append]
        show Paired _ _ (_ ++ ([it].flatten).map slG)
        rw [List.flatten_singleton]
        refine pairs_app (L2.Paired.mapP pr fun _ _ ⟨t, e1, e2⟩ => ⟨t, e1, upt _ _ (s4 _ _ e2)⟩) ?_
        have := L2.Paired.mapP (G := fun v g => KeyO (upd H4 f (.lst (acc ++ acc2))) v (slG g)) pr2 fun _ _ ⟨t, e1, e2⟩ => ⟨t, e1, upt _ _ e2⟩
        exact pmap (f := slG) (fun _ _ h => h) this
  · rintro σ H2 ⟨⟨v2, v3, rfl⟩, s2, acc, h2, pr⟩
    rw [lus, List.take_length] at pr
    obtain ⟨ks, rfl, ak, ek⟩ := key_pq pr
    have lk : ks.length ≤ 24 := by
      have h := congrArg List.length ek
      rw [List.length_map, List.length_map] at h
      have := legs_all gi
      unfold legsOf at this
      omega
    refine ⟨_, rfl, f, ks, rfl, SqL.of h2, ak, by omega, fun bs qs p nb lb mb pq hp => ?_⟩
    have pq' := pq_key pq
    have ps := pSort_perm bs
    refine q _ p _ (pSort bs) (s2.trans (Same.up hp)) (free_below s2 hp) upd_same (L2.Paired.mapP pq' fun _ _ ⟨t, e1, e2⟩ => ⟨t, e1, Same.up hp _ _ e2⟩) (fun s => ?_) ?_
    · rw [qN_ne, ← ek, ← mb, ps.mem_iff]
    · rw [ps.length_eq]
      omega
end
end K34

set_option Elab.async false
set_option linter.all false
set_option maxRecDepth 100000
set_option maxHeartbeats 4000000
namespace K34
open PySem PySem.Spec PyProof.Rows L2 Sr
/-! ### what an item gives and takes, what a member has -/
def shS (s : Slot) : Prop := SeqAt.shaped (.str s.1) = true ∧ SeqAt.shaped (.str s.2) = true
def spGT (f : List Leg → Slot → Int) : Sp := fun vs H Q _ => ∃ (t ts : Addr) (xs : List V) (it : List Leg) (s : Slot), vs = [.ref t, .ref ts] ∧ H t = some (.tup xs) ∧ IsA H xs (it.map legT) ∧ H ts = some (.tup [.str s.1, .str s.2]) ∧ it.length ≤ 2 ∧ (∀ g ∈ it, shS (g.1, g.2.1) ∧ shS (g.2.2.2, g.2.1)) ∧ shS s ∧ ∀ H', Same H H' → Q (.int (f it s)) H'
def slP (s : Slot) : PyData := .tuple [.str s.1, .str s.2]
theorem slP_shaped {s : Slot} (h : shS s) : SeqAt.shaped (slP s) = true := by
  obtain ⟨h1, h2⟩ := h
  have a1 := (Bool.and_eq_true_iff.mp h1).1
  have a2 := (Bool.and_eq_true_iff.mp h2).1
  unfold SeqAt.shaped
  rw [Bool.and_eq_true]
  refine ⟨?_, decide_eq_true ?_⟩
  · show (PyData.canLay0 (.str s.1) && (PyData.canLay0 (.str s.2) && true)) = true
    rw [a1, a2]; rfl
  · show PyData.depth (.tuple [.str s.1, .str s.2]) ≤ 64
    simp [PyData.depth, PyData.depthAll]
theorem slP_eqv (a b : Slot) : PyData.eqv (slP a) (slP b) = decide (a = b) := by
  show ((a.1 == b.1) && ((a.2 == b.2) && true)) = _
  rw [Bool.and_true]
  by_cases c1 : a.1 = b.1
  · rw [c1, beq_self_eq_true, Bool.true_and]
    by_cases c2 : a.2 = b.2
    · rw [c2, beq_self_eq_true, decide_eq_true (Prod.ext c1 c2)]
    · rw [beq_false_of_ne c2, decide_eq_false fun z => c2 (by rw [z])]
  · rw [beq_false_of_ne c1, Bool.false_and, decide_eq_false fun z => c1 (by rw [z])]
theorem slP_dp {K : PySem.W.Frag} {H : Hp} {t : Addr} {s : Slot} (h : H t = some (.tup [.str s.1, .str s.2])) : Dp K H (.ref t) (slP s) := .tup (SqT.of h) (.cons (.str _) (.cons (.str _) .nil))
theorem eq_map {α : Type} {f : α → V} : ∀ {ys : List V} {l : List α}, Paired (fun y a => y = f a) ys l → ys = l.map f
  | _, _, .nil => rfl
  | _, _, .cons h r => by rw [h, eq_map r]; rfl
section
variable {P : Program} {w : World} {K : PySem.W.Frag} {mg : Str → Option Value} {base : Heap}
abbrev s__law_given : Stmt := top 44
theorem sc__law_given : FnScope ["item", "slot", "leg"] ["item", "slot"] (defScope s__law_given) := ⟨rfl, rfl, rfl, by decide +kernel, rfl, by decide +kernel, by decide +kernel⟩
theorem c__law_given (T : Txt K mg) (D : Dfn K mg "_law_given" s__law_given) : Cal P w K mg base 1 "_law_given" ["item", "slot"] (spGT giv) := by
  refine D.cal sc__law_given (fun _ _ _ _ _ _ us hl => match us, hl with | [_, _], _ => rfl) (fun vs H Q E h => ?_) fun cdv A outer s H vs Q E hr h => ?_
  · obtain ⟨t, ts, xs, it, sl, rfl, _⟩ := h
    rfl
  obtain ⟨t, ts, xs, it, sl, rfl, ht, ix, hts, lit, sg, ss, q⟩ := h
  refine ⟨_, (pss_one (ps_ret (pe_callB (id := "sum") (cr_sum rfl) (by rfl) T.sum (by decide +kernel) (pa_cons (pe_lc (own := [("leg", 2)]) (g := gName 2) rfl sc__law_given.nd (pi_tup (pv 0)) (blkOk_by (N := ["item", "slot", "leg"]) (sc := defScope s__law_given) (by decide +kernel)) (fun _ _ _ _ _ => (pg_name (i := 2) sc__law_given.nd rfl (by first | exact Or.inl rfl | exact Or.inr rfl))) (fun _ _ _ _ _ => (pts_one (pt_cmpR (op_eqDK K rfl hr.units) (pe_tup (pa_cons (pe_ix (ix_tupK K rfl) (pv 2) pe_int (fun _ _ => rfl)) (pa_cons (pe_ix (ix_tupK K rfl) (pv 2) pe_int (fun _ _ => rfl)) pa_nil))) (pv 1) (nomark _)))) (fun _ _ _ _ _ => (pe_ix (ix_tupK K rfl) (pv 2) pe_int (fun _ _ => rfl)))) pa_nil)))), ?_⟩
  have lxs : xs.length = it.length := by rw [ix.len, List.length_map]
  refine ⟨_, rfl, t, rfl, ⟨_, SqT.of ht⟩, fun B hB => lc_gen walk_tup at_any it (fun g => givB g sl) lxs.symm (sz (m := 60) (by omega)) hB (fun H' s' => SqT.of (s' _ _ ht)) (Rel := fun _ g y => y = .int g.2.2.1) (fun _ _ _ _ _ h => h) (fun _ _ _ _ _ _ h => h) (fun j u g H1 A Bf lt hu hg s1 kA kB => ?_) (fun H1 acc s1 h1 pr => ?_)⟩
  · obtain ⟨tg, rfl, htg⟩ := legs_at ix hu hg
    have h1 := s1 _ _ htg
    refine ⟨rfl, ?_⟩
    refine ⟨_, rfl, tg, _, 0, _, rfl, rfl, SqT.of h1, rfl, _, rfl, tg, _, 1, _, rfl, rfl, SqT.of h1, rfl, lineN (n := 2), fun t2 ht2 => ?_⟩
    have s2 : Same H1 (upd H1 t2 (.tup [.str g.1, .str g.2.1])) := Same.up ht2
    have h2 : (upd H1 t2 (.tup [.str g.1, .str g.2.1])) t2 = some (.tup [.str g.1, .str g.2.1]) := upd_same
    show _
    refine ⟨_, rfl, slP (g.1, g.2.1), slP sl, slP_dp (s := (g.1, g.2.1)) h2, slP_dp (s2 _ _ (s1 _ _ hts)), slP_shaped (sg g (List.mem_of_getElem? hg)).1, slP_shaped ss, _, rfl, ?_⟩
    rw [slP_eqv, show decide ((g.1, g.2.1) = sl) = givB g sl from Bool.eq_iff_iff.mpr (by rw [decide_eq_true_iff, givB_iff]; exact eq_comm)]
    cases e : givB g sl with
    | true => exact iteT ⟨_, rfl, tg, _, 2, _, rfl, rfl, SqT.of (s2 _ _ h1), rfl, kA e _ _ s2 rfl⟩
    | false => exact iteF (kB e _ s2)
  · rw [eq_map pr] at h1
    refine ⟨B, (it.filter fun (g : Leg) => givB g sl).map fun (g : Leg) => g.2.2.1, rfl, SqL.of ?_, q _ s1⟩
    rw [h1, List.map_map]
    rfl
abbrev s__law_taken : Stmt := top 45
theorem sc__law_taken : FnScope ["item", "slot", "leg"] ["item", "slot"] (defScope s__law_taken) := ⟨rfl, rfl, rfl, by decide +kernel, rfl, by decide +kernel, by decide +kernel⟩
theorem c__law_taken (T : Txt K mg) (D : Dfn K mg "_law_taken" s__law_taken) : Cal P w K mg base 1 "_law_taken" ["item", "slot"] (spGT tak) := by
  refine D.cal sc__law_taken (fun _ _ _ _ _ _ us hl => match us, hl with | [_, _], _ => rfl) (fun vs H Q E h => ?_) fun cdv A outer s H vs Q E hr h => ?_
  · obtain ⟨t, ts, xs, it, sl, rfl, _⟩ := h
    rfl
  obtain ⟨t, ts, xs, it, sl, rfl, ht, ix, hts, lit, sg, ss, q⟩ := h
  refine ⟨_, (pss_one (ps_ret (pe_callB (id := "sum") (cr_sum rfl) (by rfl) T.sum (by decide +kernel) (pa_cons (pe_lc (own := [("leg", 2)]) (g := gName 2) rfl sc__law_taken.nd (pi_tup (pv 0)) (blkOk_by (N := ["item", "slot", "leg"]) (sc := defScope s__law_taken) (by decide +kernel)) (fun _ _ _ _ _ => (pg_name (i := 2) sc__law_taken.nd rfl (by first | exact Or.inl rfl | exact Or.inr rfl))) (fun _ _ _ _ _ => (pts_one (pt_cmpR (op_eqDK K rfl hr.units) (pe_tup (pa_cons (pe_ix (ix_tupK K rfl) (pv 2) pe_int (fun _ _ => rfl)) (pa_cons (pe_ix (ix_tupK K rfl) (pv 2) pe_int (fun _ _ => rfl)) pa_nil))) (pv 1) (nomark _)))) (fun _ _ _ _ _ => (pe_ix (ix_tupK K rfl) (pv 2) pe_int (fun _ _ => rfl)))) pa_nil)))), ?_⟩
  have lxs : xs.length = it.length := by rw [ix.len, List.length_map]
  refine ⟨_, rfl, t, rfl, ⟨_, SqT.of ht⟩, fun B hB => lc_gen walk_tup at_any it (fun g => takB g sl) lxs.symm (sz (m := 60) (by omega)) hB (fun H' s' => SqT.of (s' _ _ ht)) (Rel := fun _ g y => y = .int g.2.2.1) (fun _ _ _ _ _ h => h) (fun _ _ _ _ _ _ h => h) (fun j u g H1 A Bf lt hu hg s1 kA kB => ?_) (fun H1 acc s1 h1 pr => ?_)⟩
  · obtain ⟨tg, rfl, htg⟩ := legs_at ix hu hg
    have h1 := s1 _ _ htg
    refine ⟨rfl, ?_⟩
    refine ⟨_, rfl, tg, _, 3, _, rfl, rfl, SqT.of h1, rfl, _, rfl, tg, _, 1, _, rfl, rfl, SqT.of h1, rfl, lineN (n := 2), fun t2 ht2 => ?_⟩
    have s2 : Same H1 (upd H1 t2 (.tup [.str g.2.2.2, .str g.2.1])) := Same.up ht2
    have h2 : (upd H1 t2 (.tup [.str g.2.2.2, .str g.2.1])) t2 = some (.tup [.str g.2.2.2, .str g.2.1]) := upd_same
    show _
    refine ⟨_, rfl, slP (g.2.2.2, g.2.1), slP sl, slP_dp (s := (g.2.2.2, g.2.1)) h2, slP_dp (s2 _ _ (s1 _ _ hts)), slP_shaped (sg g (List.mem_of_getElem? hg)).2, slP_shaped ss, _, rfl, ?_⟩
    rw [slP_eqv, show decide ((g.2.2.2, g.2.1) = sl) = takB g sl from Bool.eq_iff_iff.mpr (by rw [decide_eq_true_iff, takB_iff]; exact eq_comm)]
    cases e : takB g sl with
    | true => exact iteT ⟨_, rfl, tg, _, 2, _, rfl, rfl, SqT.of (s2 _ _ h1), rfl, kA e _ _ s2 rfl⟩
    | false => exact iteF (kB e _ s2)
  · rw [eq_map pr] at h1
    refine ⟨B, (it.filter fun (g : Leg) => takB g sl).map fun (g : Leg) => g.2.2.1, rfl, SqL.of ?_, q _ s1⟩
    rw [h1, List.map_map]
    rfl
end
end K34

set_option Elab.async false
set_option linter.all false
set_option maxRecDepth 100000
set_option maxHeartbeats 4000000
namespace K34
open PySem PySem.Spec PyProof.Rows L2 Sr
/-! ### what a member has -/
def shIts (its : Its) : Prop := ∀ it ∈ its, ∀ g ∈ it, shS (g.1, g.2.1) ∧ shS (g.2.2.2, g.2.1)
theorem good_sh {its : Its} (g : goodIts its) : shIts its := fun it mi g' mg => by
  obtain ⟨h1, h2, h3, _⟩ := (g.2 it mi).2 g' mg
  exact ⟨⟨name_shaped h1, name_shaped h2⟩, ⟨name_shaped h3, name_shaped h2⟩⟩
def nV (S : List Nat) : List V := S.map fun (k : Nat) => V.int (k : Nat)
def NumL (H : Hp) (a : Addr) (S : List Nat) : Prop := ∃ o, seqO (nV S) o ∧ H a = some o
theorem NumL.mono {H H' : Hp} (s : Same H H') {a : Addr} {S : List Nat} (h : NumL H a S) : NumL H' a S := by
  obtain ⟨o, x, y⟩ := h
  exact ⟨o, x, s _ _ y⟩
theorem nV_at {S : List Nat} {i : Nat} {u : V} (h : (nV S)[i]? = some u) : ∃ k, S[i]? = some k ∧ u = .int (k : Nat) := by
  unfold nV at h
  rw [List.getElem?_map] at h
  obtain ⟨k, e1, e2⟩ := Option.map_eq_some_iff.mp h
  exact ⟨k, e1, e2.symm⟩
theorem NumL.seq {K : PySem.W.Frag} {H : Hp} {a : Addr} {S : List Nat} (h : NumL H a S) : SqL K H a (nV S) ∨ SqT K H a (nV S) := by
  obtain ⟨o, x, y⟩ := h
  rcases x with rfl | rfl
  · exact .inl (SqL.of y)
  · exact .inr (SqT.of y)
def spHad (K : PySem.W.Frag) : Sp := fun vs H Q _ => ∃ (c l nn ts : Addr) (kv : List (Key × V)) (hs : Hs) (its : Its) (S : List Nat) (s : Slot), vs = [.ref c, .ref l, .ref nn, .ref ts] ∧ H c = some (.dK kv) ∧ HldR H kv hs ∧ goodH hs ∧ ItL H l its ∧ goodIts its ∧ NumL H nn S ∧ (∀ k ∈ S, k < its.length) ∧ S.length ≤ 12 ∧ H ts = some (.tup [.str s.1, .str s.2]) ∧ shS s ∧ ∀ H', Same H H' → Q (.int (had hs its S s)) H'
section
variable {P : Program} {w : World} {K : PySem.W.Frag} {mg : Str → Option Value} {base : Heap}
abbrev s__law_had : Stmt := top 46
theorem sc__law_had : FnScope ["holdings", "items", "numbers", "slot", "k"] ["holdings", "items", "numbers", "slot"] (defScope s__law_had) := ⟨rfl, rfl, rfl, by decide +kernel, rfl, by decide +kernel, by decide +kernel⟩
theorem c__law_had (T : Txt K mg) (D : Dfn K mg "_law_had" s__law_had) (C_law_taken : Cal P w K mg base 1 "_law_taken" ["item", "slot"] (spGT tak)) : Cal P w K mg base 2 "_law_had" ["holdings", "items", "numbers", "slot"] (spHad K) := by
  refine D.cal sc__law_had (fun _ _ _ _ _ _ us hl => match us, hl with | [_, _, _, _], _ => rfl) (fun vs H Q E h => ?_) fun cdv A outer s H vs Q E hr h => ?_
  · obtain ⟨c, l, nn, ts, kv, hs, its, S, sl, rfl, _⟩ := h
    rfl
  obtain ⟨c, l, nn, ts, kv, hs, its, S, sl, rfl, hc, hh, g, ⟨us, hl, isu⟩, gi, nl, lS, zS, hts, ss, q⟩ := h
  refine ⟨_, (pss_one (ps_ret (pe_op op_add (pe_dget2 (hu_of hr) (pe_dget2 (hu_of hr) (pv 0) (pe_ix ix_tup (pv 3) pe_int (fun _ _ => rfl)) pe_dnewK ⟨rfl, by rfl, rfl, rfl⟩) (pe_ix ix_tup (pv 3) pe_int (fun _ _ => rfl)) pe_int ⟨rfl, by rfl, rfl, rfl⟩) (pe_callB (id := "sum") (cr_sum rfl) (by rfl) T.sum (by decide +kernel) (pa_cons (pe_lc (own := [("k", 4)]) (g := gName 4) (tt := tYes) rfl sc__law_had.nd (pi_seq (pv 2)) (blkOk_by (N := ["holdings", "items", "numbers", "slot", "k"]) (sc := defScope s__law_had) (by decide +kernel)) (fun _ _ _ _ _ => (pg_name (i := 4) sc__law_had.nd rfl (by first | exact Or.inl rfl | exact Or.inr rfl))) (fun _ _ _ _ _ => pts_nil) (fun _ _ _ _ _ => (pe_cal C_law_taken hr (by first | decide | omega) (by rfl) (pa_cons (pe_ix (ix_listK K rfl) (pv 1) (pv 4) (fun _ _ => rfl)) (pa_cons (pv 3) pa_nil))))) pa_nil))))), ?_⟩
  have lus : us.length = its.length := by rw [isu.len, List.length_map]
  have li := gi.1
  obtain ⟨o, so, ho⟩ := nl
  obtain ⟨J, wJ, hJ⟩ := seq_walk (K := K) (a := nn) so
  have lnv : (nV S).length = S.length := by unfold nV; rw [List.length_map]
  have sum : ∀ (G : Hp) (i : Int), Same H G → (∀ H', Same H H' → Q (.int (i + tsum its sl S)) H') → tCB (rSum K) (tCons (tLc (iSeq K (tVar 2)) (gName 4) tYes (tCall (spGT tak) [] E0 (tCons (tOp (rIxL K) (tVar 1) (tVar 4)) (tCons (tVar 3) tNil))) (List.map (fun x => x.snd) [(Str.ofString "k", 4)])) tNil) [some (.ref c), some (.ref l), some (.ref nn), some (.ref ts), none] G (fun y H2 => (rI0 fun i j => V.int (i + j)) (.int i) y H2 Q) := by
    intro G i sG qq
    refine ⟨_, rfl, nn, rfl, hJ G _ (sG _ _ ho) fun B hB => lc_f wJ at_any S (fun k => V.int (tak (itA its k) sl)) lnv.symm (sz (m := 60) (by omega)) hB (fun H' s' => s' _ _ (sG _ _ ho)) (fun j u k H1 A lt hu hk s1 kA => ?_) (fun H1 s1 h1 => ?_)⟩
    · obtain ⟨k', e1, rfl⟩ := nV_at hu
      rw [hk] at e1
      obtain rfl := Option.some.inj e1
      have lk := lS k (List.mem_of_getElem? hk)
      have hit : its[k]? = some (itA its k) := by
        unfold itA
        rw [List.getElem?_eq_getElem lk]
        rfl
      have hus : us[k]? = some (us[k]'(by omega)) := List.getElem?_eq_getElem _
      obtain ⟨t, xs, eu, ht, ix⟩ := its_at isu hus hit
      have s2 := sG.trans s1
      refine ⟨rfl, ?_⟩
      refine ⟨_, rfl, _, rfl, l, us, _, _, rfl, rfl, SqL.of (s2 _ _ hl), at_nat hus, _, rfl, t, ts, xs, itA its k, sl, by rw [eu]; rfl, s2 _ _ ht, ix.mono s2, s2 _ _ hts, (gi.2 _ (List.mem_of_getElem? hit)).1, good_sh gi _ (List.mem_of_getElem? hit), ss, fun H3 s3 => kA _ s3⟩
    · refine ⟨B, S.map fun k => tak (itA its k) sl, rfl, SqL.of (by rw [h1, List.map_map]; rfl), i, _, rfl, rfl, qq _ (sG.trans s1)⟩
  refine ⟨_, rfl, c, rfl, .inl ⟨_, .inl hc⟩, _, rfl, ts, _, 0, _, rfl, rfl, SqT.of hts, rfl, fun e he => ?_⟩
  have s1 : Same H (upd H e (.dK [])) := Same.up he
  have he1 : (upd H e (.dK [])) e = some (.dK []) := upd_same
  generalize upd H e (.dK []) = H1 at s1 he1 ⊢
  refine ⟨_, .inl ⟨kv, Sum.inr sl.1, .inl (s1 _ _ hc), rfl, rfl⟩, ?_⟩
  obtain ⟨d, kr, e1, hd, e2⟩ : ∃ d kr, (valV kv (Sum.inr sl.1)).getD (.ref e) = .ref d ∧ H1 d = some (.dK kr) ∧ (valV kr (Sum.inr sl.2)).getD (.int 0) = .int (amt hs sl.1 sl.2) := by
    have ek := (keys_names (F := fun v (r : Rw) => ∃ d kr, v = .ref d ∧ H d = some (.dK kr) ∧ CoinsC kr r) hh).2
    by_cases m : sl.1 ∈ hs.map (·.1)
    · obtain ⟨d, kr, ev, hd, cc, gr⟩ := hh.get g m
      refine ⟨d, kr, by rw [ev]; rfl, s1 _ _ hd, ?_⟩
      rw [cc.val]
      show _ = V.int (gC (gR hs sl.1) sl.2)
      unfold gC
      cases (gR hs sl.1).lookup sl.2 <;> rfl
    · have : valV kv (Sum.inr sl.1) = none := by
        cases e : valV kv (Sum.inr sl.1) with
        | none => rfl
        | some v =>
          have mk : (Sum.inr sl.1 : Key) ∈ kv.map (·.1) := List.mem_map.mpr ⟨_, val_mem e, rfl⟩
          rw [ek] at mk
          obtain ⟨p, mp, ep⟩ := List.mem_map.mp mk
          exact absurd (List.mem_map.mpr ⟨p, mp, Sum.inr.inj ep⟩) m
      rw [this]
      refine ⟨e, [], rfl, he1, ?_⟩
      show V.int 0 = V.int (gC (gR hs sl.1) sl.2)
      rw [gR_no m]
      rfl
  dsimp only
  rw [e1]
  refine ⟨d, rfl, .inl ⟨_, .inl hd⟩, _, rfl, ts, _, 1, _, rfl, rfl, SqT.of (s1 _ _ hts), rfl, _, .inl ⟨kr, Sum.inr sl.2, .inl hd, rfl, rfl⟩, ?_⟩
  rw [e2]
  exact sum H1 _ s1 q
end
end K34

set_option Elab.async false
set_option linter.all false
set_option maxRecDepth 100000
set_option maxHeartbeats 4000000
namespace K34
open PySem PySem.Spec PyProof.Rows L2 Sr
/-! ### what can be paid -/
theorem queue_eq (a b : Str) (its : Its) : (queueOf (.str a) (.str b) its).map V.int = nV (qN its (a, b)) := by
  have ez : its.zipIdx = (List.range its.length).map fun k => (itA its k, k) := by
    refine List.ext_getElem? fun i => ?_
    rw [List.getElem?_map, List.getElem?_zipIdx]
    by_cases c : i < its.length
    · rw [List.getElem?_range c, List.getElem?_eq_getElem c]
      show some (its[i], 0 + i) = some (itA its i, i)
      unfold itA
      rw [List.getElem?_eq_getElem c, Nat.zero_add]
      rfl
    · rw [List.getElem?_eq_none (l := its) (by omega), List.getElem?_eq_none (by rw [List.length_range]; omega)]
      rfl
  unfold queueOf qN nV
  rw [ez, List.filter_map, List.map_map, List.map_map, show (hitL (.str a) (.str b)) = fun g => givB g (a, b) from funext fun g => hit_giv a b g]
  rfl
def iD (S : List Nat) : PyData := .list (S.map fun (k : Nat) => PyData.int (k : Nat))
theorem iD_dp {K : PySem.W.Frag} {H : Hp} {a : Addr} {S : List Nat} (h : H a = some (.lst (nV S))) : Dp K H (.ref a) (iD S) := by
  have : ∀ S : List Nat, DpAll K H (nV S) (S.map fun (k : Nat) => PyData.int (k : Nat)) := fun S => by
    induction S with
    | nil => exact .nil
    | cons k r ih => exact .cons (.int _) ih
  exact .lst (SqL.of h) (this S)
theorem iD_lay : ∀ S : List Nat, PyData.canLayAll0 (S.map fun (k : Nat) => PyData.int (k : Nat)) = true ∧ PyData.depthAll (S.map fun (k : Nat) => PyData.int (k : Nat)) ≤ 1
  | [] => ⟨rfl, by simp [PyData.depthAll]⟩
  | k :: r => by
    obtain ⟨a, b⟩ := iD_lay r
    refine ⟨?_, ?_⟩
    · show (true && PyData.canLayAll0 (r.map fun (k : Nat) => PyData.int (k : Nat))) = true
      rw [a]; rfl
    · simp only [List.map_cons, PyData.depthAll, PyData.depth]
      omega
theorem iD_shaped (S : List Nat) : SeqAt.shaped (iD S) = true := by
  obtain ⟨a, b⟩ := iD_lay S
  unfold SeqAt.shaped
  rw [Bool.and_eq_true]
  refine ⟨a, decide_eq_true ?_⟩
  show PyData.depth (.list _) ≤ 64
  simp only [PyData.depth]
  omega
theorem iD_eqv : ∀ S T : List Nat, PyData.eqv (iD S) (iD T) = decide (S = T) := by
  have : ∀ S T : List Nat, PyData.eqvAll (S.map fun (k : Nat) => PyData.int (k : Nat)) (T.map fun (k : Nat) => PyData.int (k : Nat)) = decide (S = T) := by
    intro S
    induction S with
    | nil =>
      intro T
      cases T <;> rfl
    | cons k r ih =>
      intro T
      cases T with
      | nil => rfl
      | cons m t =>
        show ((((k : Nat) : Int) == (m : Nat)) && PyData.eqvAll (r.map fun (k : Nat) => PyData.int (k : Nat)) (t.map fun (k : Nat) => PyData.int (k : Nat))) = _
        rw [ih t]
        by_cases c : k = m
        · subst c
          rw [beq_self_eq_true, Bool.true_and]
          exact decide_eq_decide.mpr ⟨fun h => by rw [h], fun h => (List.cons.inj h).2⟩
        · rw [beq_false_of_ne (fun z => c (by omega)), Bool.false_and, decide_eq_false fun h => c (List.cons.inj h).1]
  exact fun S T => this S T
def feasAt (hs : Hs) (its : Its) (S : List Nat) (s : Slot) : Prop := (qN its s).filter (fun k => decide (k ∈ S)) = (qN its s).take ((qN its s).filter fun k => decide (k ∈ S)).length ∧ gsum its s ((qN its s).filter fun k => decide (k ∈ S)) ≤ had hs its S s
noncomputable def feasB (hs : Hs) (its : Its) (S : List Nat) : Bool := @decide (feas hs its S) (Classical.propDecidable _)
theorem feasB_iff {hs : Hs} {its : Its} {S : List Nat} : feasB hs its S = true ↔ feas hs its S := by
  unfold feasB
  exact @decide_eq_true_iff _ (Classical.propDecidable _)
theorem good_pos {its : Its} (g : goodIts its) : posL its := fun it mi g' mg => by
  have := ((g.2 it mi).2 g' mg).2.2.2.2
  omega
theorem good_amt {hs : Hs} (g : goodH hs) (y t : Str) : 0 ≤ amt hs y t := by
  show 0 ≤ gC (gR hs y) t
  have gr := gR_good g y
  by_cases m : t ∈ (gR hs y).map (·.1)
  · exact (gr.2.2 _ (gC_mem m)).2
  · rw [gC_no m]
    exact Int.le_refl _
theorem feas_keys {hs : Hs} {its : Its} {S : List Nat} (g : goodH hs) (gi : goodIts its) (h : ∀ s, qN its s ≠ [] → feasAt hs its S s) : feas hs its S := fun s => by
  by_cases c : qN its s = []
  · rw [c]
    refine ⟨rfl, ?_⟩
    show (0 : Int) ≤ amt hs s.1 s.2 + tsum its s S
    have h1 := good_amt g s.1 s.2
    have h2 : 0 ≤ tsum its s S := sum_nn fun x m => by
      obtain ⟨k, _, rfl⟩ := List.mem_map.mp m
      exact tak_nn (good_pos gi) k s
    omega
  · exact h s c
def spCan (K : PySem.W.Frag) : Sp := fun vs H Q _ => ∃ (c l nn : Addr) (kv : List (Key × V)) (hs : Hs) (its : Its) (S : List Nat), vs = [.ref c, .ref l, .ref nn] ∧ H c = some (.dK kv) ∧ HldR H kv hs ∧ goodH hs ∧ ItL H l its ∧ goodIts its ∧ NumL H nn S ∧ (∀ k ∈ S, k < its.length) ∧ S.length ≤ 12 ∧ ∀ H', Same H H' → Q (.bl (feasB hs its S)) H'
theorem flat_nV : ∀ S : List Nat, (nV S).all flatV = true
  | [] => rfl
  | _ :: r => flat_nV r
theorem inV_nV (n : Nat) : ∀ S : List Nat, inV (.int (n : Nat)) (nV S) = decide (n ∈ S)
  | [] => rfl
  | x :: r => by
    have ih := inV_nV n r
    unfold inV at ih ⊢
    show (((x : Nat) : Int) == (n : Nat) || (nV r).any fun y => eqV y (.int (n : Nat))) = _
    rw [ih]
    by_cases c : x = n
    · rw [c, beq_self_eq_true, Bool.true_or, decide_eq_true (by simp)]
    · rw [beq_false_of_ne (fun z => c (by omega)), Bool.false_or]
      exact decide_eq_decide.mpr ⟨fun m => by simp [m], fun m => (List.mem_cons.mp m).resolve_left fun z => c z.symm⟩
section
variable {P : Program} {w : World} {K : PySem.W.Frag} {mg : Str → Option Value} {base : Heap}
abbrev s__law_can : Stmt := top 47
theorem sc__law_can : FnScope ["holdings", "items", "numbers", "slot", "row", "inner", "k"] ["holdings", "items", "numbers"] (defScope s__law_can) := ⟨rfl, rfl, rfl, by decide +kernel, rfl, by decide +kernel, by decide +kernel⟩
theorem c__law_can (T : Txt K mg) (D : Dfn K mg "_law_can" s__law_can) (C_law_keys : Cal P w K mg base 1 "_law_keys" ["items"] spKeys) (C_law_queue : Cal P w K mg base 1 "_law_queue" ["items", "member", "thing"] spLawQ) (C_law_given : Cal P w K mg base 1 "_law_given" ["item", "slot"] (spGT giv)) (C_law_had : Cal P w K mg base 2 "_law_had" ["holdings", "items", "numbers", "slot"] (spHad K)) : Cal P w K mg base 3 "_law_can" ["holdings", "items", "numbers"] (spCan K) := by
  refine D.cal sc__law_can (fun _ _ _ _ _ _ us hl => match us, hl with | [_, _, _], _ => rfl) (fun vs H Q E h => ?_) fun cdv A outer s H vs Q E hr h => ?_
  · obtain ⟨c, l, nn, kv, hs, its, S, rfl, _⟩ := h
    rfl
  obtain ⟨c, l, nn, kv, hs, its, S, rfl, hc, hh, g, itl, gi, nl, lS, zS, q⟩ := h
  refine ⟨_, (pss_cons (ps_for PassesOwn.never rfl (pi_list (pe_cal C_law_keys hr (by first | decide | omega) (by rfl) (pa_cons (pv 1) pa_nil))) (pg_name (i := 3) sc__law_can.nd rfl (by first | exact Or.inl rfl | exact Or.inr rfl))
      (pss_cons (ps_set (i := 4) sc__law_can.nd rfl (by first | exact Or.inl rfl | exact Or.inr rfl) (pe_cal C_law_queue hr (by first | decide | omega) (by rfl) (pa_cons (pv 1) (pa_cons (pe_ix ix_tup (pv 3) pe_int (fun _ _ => rfl)) (pa_cons (pe_ix ix_tup (pv 3) pe_int (fun _ _ => rfl)) pa_nil)))))
      (pss_cons (ps_setLc (i := 5) (own := [("k", 6)]) (g := gName 6) rfl sc__law_can.nd rfl rfl (sw_true rfl rfl rfl rfl) (pi_list (pv 4)) (blkOk_by (N := ["holdings", "items", "numbers", "slot", "row", "inner", "k"]) (sc := defScope s__law_can) (by decide +kernel)) (fun _ _ _ _ _ => (pg_name (i := 6) sc__law_can.nd rfl (by first | exact Or.inl rfl | exact Or.inr rfl))) (fun _ _ _ _ _ => (pts_one (pt_cmpR (op_in_seqK K rfl) (pv 6) (pv 2) (by rfl)))) (fun _ _ _ _ _ => (pv 6)))
      (pss_cons (ps_if (pt_cmpR (op_neD hr.units) (pv 5) (pe_slice sl_list (pv 4) po_none (po_some (pe_callB (id := "len") call_len_seq (by rfl) T.len (by decide +kernel) (pa_cons (pv 5) pa_nil)))) (nomark _)) (pss_one (ps_ret pe_bl)) pss_nil)
      (pss_one (ps_if (pt_cmpR op_gt (pe_callB (id := "sum") (cr_sum rfl) (by rfl) T.sum (by decide +kernel) (pa_cons (pe_lc (own := [("k", 6)]) (g := gName 6) (tt := tYes) rfl sc__law_can.nd (pi_list (pv 5)) (blkOk_by (N := ["holdings", "items", "numbers", "slot", "row", "inner", "k"]) (sc := defScope s__law_can) (by decide +kernel)) (fun _ _ _ _ _ => (pg_name (i := 6) sc__law_can.nd rfl (by first | exact Or.inl rfl | exact Or.inr rfl))) (fun _ _ _ _ _ => pts_nil) (fun _ _ _ _ _ => (pe_cal C_law_given hr (by first | decide | omega) (by rfl) (pa_cons (pe_ix (ix_listK K rfl) (pv 1) (pv 6) (fun _ _ => rfl)) (pa_cons (pv 3) pa_nil))))) pa_nil)) (pe_cal C_law_had hr (by first | decide | omega) (by rfl) (pa_cons (pv 0) (pa_cons (pv 1) (pa_cons (pv 2) (pa_cons (pv 3) pa_nil))))) (nomark _)) (pss_one (ps_ret pe_bl)) pss_nil))))))
      (pss_one (ps_ret pe_bl))), ?_⟩
  have li := gi.1
  have key : ∀ b : Bool, feasB hs its S = b → ∀ H', Same H H' → Q (.bl b) H' := fun b e => e ▸ q
  refine ⟨_, rfl, l, its, rfl, itl, gi, fun H1 p qs sls s1 hp hp1 pr ms lss => ?_⟩
  have lqs := Paired.length pr
  refine ⟨p, rfl, ⟨_, SqL.of hp1⟩, for_it (walk_list (xs := qs)) (fun i σ H' => (∃ v3 v4 v5 v6, σ = [some (.ref c), some (.ref l), some (.ref nn), v3, v4, v5, v6]) ∧ Same H1 H' ∧ ∀ s ∈ sls.take i, feasAt hs its S s) ⟨⟨_, _, _, _, rfl⟩, fun _ _ e => e, fun _ m => by simp at m⟩ (fun i σ H' _ pp => SqL.of (pp.2.1 _ _ hp1)) ?_ ?_⟩
  rotate_left
  · rintro σ H2 ⟨⟨v3, v4, v5, v6, rfl⟩, s2, fe⟩
    rw [lqs, List.take_length] at fe
    exact key true (feasB_iff.mpr (feas_keys g gi fun s n => fe s ((ms s).mpr n))) _ (s1.trans s2)
  rintro i u σ H2 H3 hi ⟨⟨v3, v4, v5, v6, rfl⟩, s2, fe⟩ ⟨rfl, hu⟩
  have hsl : sls[i]? = some (sls[i]'(by omega)) := List.getElem?_eq_getElem _
  generalize sls[i]'(by omega) = sl at hsl
  obtain ⟨ts, rfl, hts⟩ := Paired.at2 (F := KeyO H1) pr hu hsl
  have nq := (ms sl).mp (List.mem_of_getElem? hsl)
  have shs : shS sl := by
    obtain ⟨g', mg, e⟩ := List.mem_map.mp (qN_ne.mp nq)
    obtain ⟨it, mi, mg2⟩ := List.mem_flatten.mp mg
    rw [← e]
    exact (good_sh gi it mi g' mg2).1
  have s12 := s1.trans s2
  have hts3 := s2 _ _ hts
  obtain ⟨us, hl, isu⟩ := id itl
  have lus : us.length = its.length := by rw [isu.len, List.length_map]
  try dsimp only
  refine ⟨_, rfl, _, rfl, ts, _, 0, _, rfl, rfl, SqT.of hts3, rfl, _, rfl, ts, _, 1, _, rfl, rfl, SqT.of hts3, rfl, l, us, its, sl.1, sl.2, rfl, s12 _ _ hl, isu.mono s12, gi, shs.1, shs.2, fun H4 r s4 hr0 hr4 => ?_⟩
  rw [queue_eq] at hr4
  have lqn : (qN its sl).length ≤ 12 := by
    have := List.length_filter_le (fun k => (itA its k).any fun g => givB g sl) (List.range its.length)
    rw [List.length_range] at this
    unfold qN
    omega
  have lnv : ∀ T : List Nat, (nV T).length = T.length := fun T => by unfold nV; rw [List.length_map]
  have s14 := s12.trans s4
  have nl4 := nl.mono s14
  try dsimp only
  refine cut_if (fun σ H' => ∃ d, σ = [some (.ref c), some (.ref l), some (.ref nn), some (.ref ts), some (.ref r), some (.ref d), v6] ∧ Same H4 H' ∧ H' d = some (.lst (nV ((qN its sl).filter fun k => decide (k ∈ S))))) ?_ fun rest => ?_
  rotate_left
  · refine ⟨_, rfl, r, rfl, ⟨_, SqL.of hr4⟩, fun B hB => lc_gen walk_list at_any (qN its sl) (fun k => decide (k ∈ S)) (lnv _).symm (sz (m := 60) (by rw [lnv]; omega)) hB (fun H' s' => SqL.of (s' _ _ hr4)) (Rel := fun _ k y => y = .int (k : Nat)) (fun _ _ _ _ _ h => h) (fun _ _ _ _ _ _ h => h) (fun j u k H5 A Bf lt hu hk s5 kA kB => ?_) (fun H5 acc s5 h5 pr5 => ?_)⟩
    · obtain ⟨k', e1, rfl⟩ := nV_at hu
      rw [hk] at e1
      obtain rfl := Option.some.inj e1
      refine ⟨rfl, ?_⟩
      refine ⟨_, rfl, _, rfl, nn, nV S, rfl, (nl4.mono s5).seq, rfl, flat_nV S, _, rfl, ?_⟩
      rw [if_neg Bool.false_ne_true, inV_nV]
      cases e : decide (k ∈ S) with
      | true => exact iteT ⟨_, rfl, kA e _ _ (fun _ _ z => z) rfl⟩
      | false => exact iteF (kB e _ fun _ _ z => z)
    · rw [eq_map pr5] at h5
      exact rest _ _ ⟨B, rfl, s5, h5⟩
  rintro σ H5 ⟨d, rfl, s5, h5⟩
  have ln5 := lnv ((qN its sl).filter fun k => decide (k ∈ S))
  have hr5 := s5 _ _ hr4
  have s15 := s14.trans s5
  try dsimp only
  have fa_no : ¬ feasAt hs its S sl → feasB hs its S = false := fun n => Bool.eq_false_iff.mpr fun z => n (feasB_iff.mp z sl)
  refine cut_if (fun σ H' => σ = [some (.ref c), some (.ref l), some (.ref nn), some (.ref ts), some (.ref r), some (.ref d), v6] ∧ Same H5 H' ∧ (qN its sl).filter (fun k => decide (k ∈ S)) = (qN its sl).take ((qN its sl).filter fun k => decide (k ∈ S)).length) ?_ fun rest => ?_
  rotate_left
  · refine ⟨_, rfl, _, rfl, _, rfl, d, _, rfl, .inl (SqL.of h5), _, rfl, r, _, rfl, SqL.of hr5, fun f hf => ?_⟩
    have s6 : Same H5 (upd H5 f (.lst (cutV (nV (qN its sl)) none (some ((nV ((qN its sl).filter fun k => decide (k ∈ S))).length : Int))))) := Same.up hf
    have h6 : (upd H5 f (.lst (cutV (nV (qN its sl)) none (some ((nV ((qN its sl).filter fun k => decide (k ∈ S))).length : Int))))) f = some (.lst (nV ((qN its sl).take ((qN its sl).filter fun k => decide (k ∈ S)).length))) := by
      rw [upd_same, cut_to _ (by rw [lnv, lnv]; exact List.length_filter_le _ _), ln5]
      congr 2
      unfold nV
      rw [List.map_take]
    generalize upd H5 f _ = H6 at s6 h6 ⊢
    refine ⟨_, _, iD_dp (s6 _ _ h5), iD_dp h6, iD_shaped _, iD_shaped _, _, rfl, ?_⟩
    rw [iD_eqv]
    by_cases e : (qN its sl).filter (fun k => decide (k ∈ S)) = (qN its sl).take ((qN its sl).filter fun k => decide (k ∈ S)).length
    · rw [decide_eq_true e]
      exact iteF (rest _ _ ⟨rfl, s6, e⟩)
    · rw [decide_eq_false e]
      exact iteT (key _ (fa_no fun z => e z.1) _ (s15.trans s6))
  rintro σ H6 ⟨rfl, s6, ein⟩
  have h6 := s6 _ _ h5
  have s16 := s15.trans s6
  have mem_q : ∀ k ∈ (qN its sl).filter (fun k => decide (k ∈ S)), k < its.length := fun k m => qN_lt (List.mem_filter.mp m).1
  have lfl : ((qN its sl).filter fun k => decide (k ∈ S)).length ≤ 12 := Nat.le_trans (List.length_filter_le _ _) lqn
  generalize hT : (qN its sl).filter (fun k => decide (k ∈ S)) = T at h6 ein mem_q lfl
  try dsimp only
  refine ⟨_, rfl, d, rfl, ⟨_, SqL.of h6⟩, fun B hB => lc_f walk_list at_any T (fun k => V.int (giv (itA its k) sl)) (lnv T).symm (sz (m := 60) (by rw [lnv]; omega)) hB (fun H' s' => SqL.of (s' _ _ h6)) (fun j u k H7 A lt hu hk s7 kA => ?_) (fun H7 s7 h7 => ?_)⟩
  · obtain ⟨k', e1, rfl⟩ := nV_at hu
    rw [hk] at e1
    obtain rfl := Option.some.inj e1
    have lk := mem_q k (List.mem_of_getElem? hk)
    have hit : its[k]? = some (itA its k) := by
      unfold itA
      rw [List.getElem?_eq_getElem lk]
      rfl
    have hus : us[k]? = some (us[k]'(by omega)) := List.getElem?_eq_getElem _
    obtain ⟨t, xs, eu, ht, ix⟩ := its_at isu hus hit
    have s17 := s16.trans s7
    refine ⟨rfl, ?_⟩
    exact ⟨_, rfl, _, rfl, l, us, _, _, rfl, rfl, SqL.of (s17 _ _ hl), at_nat hus, _, rfl, t, ts, xs, itA its k, sl, by rw [eu]; rfl, s17 _ _ ht, ix.mono s17, (s4.trans (s5.trans (s6.trans s7))) _ _ hts3, (gi.2 _ (List.mem_of_getElem? hit)).1, good_sh gi _ (List.mem_of_getElem? hit), shs, fun H8 s8 => kA _ s8⟩
  · have s17 := s16.trans s7
    refine ⟨B, T.map fun k => giv (itA its k) sl, rfl, SqL.of (by rw [h7, List.map_map]; rfl), _, rfl, _, rfl, _, rfl, _, rfl, c, l, nn, ts, kv, hs, its, S, sl, rfl, s17 _ _ hc, hh.mono s17, g, itl.mono s17, gi, nl.mono s17, lS, zS, (s4.trans (s5.trans (s6.trans s7))) _ _ hts3, shs, fun H8 s8 => ⟨_, _, rfl, rfl, _, rfl, ?_⟩⟩
    show if decide (had hs its S sl < gsum its sl T) = true then _ else _
    by_cases lt : had hs its S sl < gsum its sl T
    · rw [decide_eq_true lt]
      refine iteT (key _ (fa_no fun z => ?_) _ (s17.trans s8))
      have := z.2
      rw [hT] at this
      omega
    · rw [decide_eq_false lt]
      refine iteF ⟨⟨_, _, _, _, rfl⟩, s2.trans (s4.trans (s5.trans (s6.trans (s7.trans s8)))), fun s m => ?_⟩
      rw [List.take_add_one, hsl] at m
      rcases List.mem_append.mp m with m | m
      · exact fe s m
      · rw [List.mem_singleton.mp m]
        refine ⟨by rw [hT]; exact ein, ?_⟩
        rw [hT]
        omega
end
end K34

set_option Elab.async false
set_option linter.all false
set_option maxRecDepth 100000
set_option maxHeartbeats 4000000
namespace Sr
open PySem PySem.Spec PyProof.Rows L2 LamX
open PySem.W (AllAlike Sortable EachIs KeyedOut SortsAt dataKind dataLe KeepsBut)
/-! ### sorted(xs, key=lambda y: ..): the calls may make things; the keys are data -/
section
variable {prog : Program} {w : World} {A : Around} {E : Value → Shared → Prop}
/-- the keys are asked for, one after another (Z: what stands between the calls), then all is sorted -/
theorem keyed_calls {s : Shared} {st box : Addr} {fv : Value} {vals : List Value} {keys : List PyData} {epo : Nat} {R : PySem.Fin → Shared → Prop} (Z : Nat → List Value → Shared → Prop) (start : Z 0 [] s)
    (here : ∀ i us s1, Z i us s1 → us.length = i ∧ s1.heap.get? box = some (seqObj "list" #[] epo) ∧ ∃ n, s1.heap.get? st = some (seqObj "list" us.toArray n))
    (ask : ∀ i v us s1, vals[i]? = some v → Z i us s1 → wpAny (model prog w) A (call fv [v]) (fun u s2 => (∃ n, s2.heap.get? st = some (seqObj "list" us.toArray n)) ∧ ∀ h, Heap.SameBut st s2.heap h → (∃ n, h.get? st = some (seqObj "list" (us ++ [u]).toArray n)) → Z (i + 1) (us ++ [u]) { s2 with heap := h }) (fun _ _ => False) s1)
    (told : ∀ us s1, Z vals.length us s1 → EachIs (fun v d => ∃ as, Reads s1.heap v d as) us keys) (al : AllAlike keys) (so : Sortable keys) (le : vals.length ≤ sizeLine) (un : ∀ d, d ∈ keys → A.units + d.depth < cLine) (ne : st ≠ box)
    (last : ∀ us s1 out n h t, Z vals.length us s1 → (∀ b o, b ≠ st → b ≠ box → s1.heap.get? b = some o → h.get? b = some o) → h.get? box = some (seqObj "list" (List.toArray out) n) → KeyedOut false keys vals out → R (.done (.ret .none)) { s1 with heap := h, toks := t }) :
    wpAny (model prog w) A (ksk_rest box fv false vals.toArray epo (.ref st)) R E s := by
  unfold ksk_rest
  refine wpAny_bind (wpAny_rule ?_)
  first
    | rw [List.forIn_toArray]
    | (rw [← Array.forIn_toList]; simp only [List.toList_toArray])
  refine wpAny_bind (ksk_fold (fun i s1 => ∃ us, Z i us s1) vals 0 s ⟨[], start⟩ ?_ ?_)
  · rintro j v s1 hv ⟨us, z⟩
    rw [Nat.zero_add] at z ⊢
    have lj : j < vals.length := (List.getElem?_eq_some_iff.mp hv).1
    obtain ⟨lu, _, _⟩ := here _ _ _ z
    refine wpAny_bind (wpAny_attempt (wpAny_mono (ask j v us s1 hv z) (fun u s2 hu => ?_) fun _ _ no => no.elim))
    obtain ⟨⟨n, e2⟩, more⟩ := hu
    try dsimp only
    refine wpAny_bind (listUpdate_at (f := fun x => x.push u) e2 rfl ?_ (by rw [List.size_toArray, lu]; omega) (by rw [Array.size_push, List.size_toArray, lu]; omega))
    obtain ⟨n2, e3⟩ : ∃ n2, (s2.heap.update st (Obj.mapSeq fun x => x.push u)).get? st = some (seqObj "list" (us.toArray.push u) n2) := ⟨_, get?_update_seq e2 fun x => x.push u⟩
    refine wpAny_pure ⟨rfl, us ++ [u], more _ (Heap.SameBut.update s2.heap st _) ⟨n2, ?_⟩⟩
    rw [e3]
    congr 2
    simp
  · rintro s1 ⟨us, z⟩
    rw [Nat.zero_add] at z
    obtain ⟨lu, eb, n, es⟩ := here _ _ _ z
    have rd := told us s1 z
    try dsimp only
    refine wpAny_bind (listItems_at es rfl ?_)
    obtain ⟨G, g1, g2⟩ := L2.restrict s1.heap fun b => decide (b ≠ st)
    have rd' : EachIs (fun v d => ∃ as, Reads s1.heap v d as) us.toArray.toList keys := by
      rw [List.toList_toArray]
      exact rd
    refine W.keyH_end (κ := dataKind s1.heap keys) (h₁ := G) (vs := vals) (b := false) (fun b o nb e => ?_) (g2 st (by simp)) es eb ne (SortsAt.data rd' al so un) (by rw [List.size_toArray]; exact lu) le fun h t m kp hb => ?_
    · by_cases hs : b = st
      · rw [hs, g2 st (by simp)] at e
        cases e
      · rw [← g1 b (by simp [hs])]
        exact e
    · refine last us s1 _ m h t z (fun b o n1 n2 e => kp b o n2 ?_) hb ⟨s1.heap, us.toArray.toList, al, rfl, rd'⟩
      rw [g1 b (by simp [n1])]
      exact e
/-- .. from the list's copy on: what stands then, and what is made by the way -/
theorem keyed_sort {s : Shared} {box : Addr} {fv : Addr} {vals : List Value} {keys : List PyData} {n0 : Nat} {R : PySem.Fin → Shared → Prop} (ho : s.heap.get? box = some (seqObj "list" vals.toArray n0))
    (al : AllAlike keys) (so : Sortable keys) (le : vals.length ≤ sizeLine) (un : ∀ d, d ∈ keys → A.units + d.depth < cLine)
    (rest : ∀ (h : Heap) (st epo t : Nat), st ≠ box → s.heap.get? st = none → (∀ b o, b ≠ box → s.heap.get? b = some o → h.get? b = some o) → s.heap.objs.size ≤ st → h.get? st = some (seqObj "list" #[] 0) → h.get? box = some (seqObj "list" #[] epo) →
      wpAny (model prog w) A (ksk_rest box (.ref fv) false vals.toArray epo (.ref st)) R E { s with heap := h, toks := s.toks }) :
    wpAny (model prog w) A (Builtin.«list.sort» ⟨[.ref box], [(Str.ofString "key", .ref fv)]⟩) R E s := by
  rw [ksk_t1]
  have lb : box < s.heap.objs.size := Heap.lt_size ho
  obtain ⟨epo, h1⟩ : ∃ epo, (s.heap.update box (Obj.mapSeq fun _ => (#[] : Array Value))).get? box = some (seqObj "list" #[] epo) := ⟨_, get?_update_seq ho fun _ => #[]⟩
  have sb := Heap.SameBut.update s.heap box (Obj.mapSeq fun _ => (#[] : Array Value))
  unfold ksk_tree
  refine wpAny_bind (listItems_at ho rfl (wpAny_bind (listUpdate_at ho rfl ?_ (by rw [List.size_toArray]; exact le) (Nat.zero_le _))))
  refine wpAny_bind (seqEpoch_at h1 rfl (wpAny_bind (wpAny_newTuple ?_ (by show vals.length ≤ _; exact le))))
  refine wpAny_bind (wpAny_newList (wpAny_holding ?_) (Nat.zero_le _))
  have sz : ((s.heap.update box (Obj.mapSeq fun _ => (#[] : Array Value))).push (seqObj "tuple" vals.toArray 0)).objs.size = s.heap.objs.size + 1 := by rw [size_push', Heap.size_update]
  refine rest _ _ epo 0 ?_ ?_ (fun b o nb e => ?_) ?_ (Heap.get?_push_size _ rfl) (Heap.get?_push_of_some _ (Heap.get?_push_of_some _ h1))
  · rw [sz]
    exact Nat.ne_of_gt (Nat.lt_succ_of_lt lb)
  · rw [sz]
    exact Heap.get?_none_of_le (Nat.le_succ _)
  · exact Heap.get?_push_of_some _ (Heap.get?_push_of_some _ ((sb.2 b nb).trans e))
  · rw [sz]
    exact Nat.le_succ _
end
end Sr

set_option Elab.async false
set_option linter.all false
set_option maxRecDepth 100000
set_option maxHeartbeats 4000000
namespace Sr
open PySem PySem.Spec PyProof.Rows L2 LamX
/-! ### a lambda of one parameter: its own name is the parameter, all else is captured or global -/
structure Lam1 (sc scope : Scope) (y : Str) : Prop where
  kind : scope.kind = .function
  co : scope.isCoroutine = false
  gen : scope.isGenerator = false
  here : scope.names.lookup y = some .local
  own : ∀ z ∈ scope.names, z.2 ≠ .cell ∧ (z.2 = .local → z.1 = y)
  free : ∀ z ∈ scope.names, z.2 = .free → sc.names.lookup z.1 = some .cell ∨ sc.names.lookup z.1 = some .free
def lam1B (sc scope : Scope) (y : Str) : Bool :=
  decide (scope.kind = .function) && (!scope.isCoroutine && (!scope.isGenerator && (decide (scope.names.lookup y = some .local) && scope.names.all fun z => !decide (z.2 = .cell) && ((!decide (z.2 = .local) || decide (z.1 = y)) && (!decide (z.2 = .free) || (decide (sc.names.lookup z.1 = some .cell) || decide (sc.names.lookup z.1 = some .free)))))))
theorem lam1_by {sc scope : Scope} {y : Str} (h : lam1B sc scope y = true) : Lam1 sc scope y := by
  unfold lam1B at h
  obtain ⟨h1, h⟩ := Bool.and_eq_true_iff.mp h
  obtain ⟨h2, h⟩ := Bool.and_eq_true_iff.mp h
  obtain ⟨h3, h⟩ := Bool.and_eq_true_iff.mp h
  obtain ⟨h4, h5⟩ := Bool.and_eq_true_iff.mp h
  rw [List.all_eq_true] at h5
  refine ⟨of_decide_eq_true h1, by simpa using h2, by simpa using h3, of_decide_eq_true h4, fun z m => ?_, fun z m e => ?_⟩
  · obtain ⟨a, b⟩ := Bool.and_eq_true_iff.mp (h5 z m)
    refine ⟨by simpa using a, fun e => ?_⟩
    obtain ⟨b, _⟩ := Bool.and_eq_true_iff.mp b
    simpa [e] using b
  · obtain ⟨_, b⟩ := Bool.and_eq_true_iff.mp (h5 z m)
    obtain ⟨_, b⟩ := Bool.and_eq_true_iff.mp b
    simpa [e] using b
theorem Lam1.has {X : Cx} {scope : Scope} {y : Str} (L : Lam1 X.env.scope scope y) (ok : X.Ok) : ∀ z ∈ scope.names, z.2 = .free → ∃ c, X.env.cells.lookup z.1 = some c := fun z m e =>
  (L.free z m e).elim (fun k => ok.has _ (.inl k)) fun k => ok.has _ (.inr k)
section
variable {X : Cx} {pins : List (Addr × Obj)} {σ : L2.St} {H : Hp} {s : Shared}
theorem lam1_start {A : Around} {E : XK} {scope : Scope} {y : Str} {j : Nat} {val : V} {u : Value} {f c' : Addr} {h1 : Heap} {tk : Nat} (I : Inv X pins σ H s) (L : Lam1 X.env.scope scope y) (e0 : Env0 X.prog X.w X.K X.mg X.base A X.stack s H) (hd : A.handled = none) (nd : X.N.Nodup) (hj : X.N[j]? = some y) (rv : RelV val u)
    (hns : h1.Ns s.heap.objs.size fun x => ([(y, u)] : List (Str × Value)).reverse.lookup x) (kp : ∀ b o, s.heap.get? b = some o → h1.get? b = some o) :
    Inv (lamCx X A X.stack s H E scope f c') [] (σ.set j (some val)) H { s with heap := h1, toks := tk } := by
  have hfree := L.has I.ok
  have up : ∀ {x c}, (cloFrom X.env.cells scope.names []).lookup x = some c → X.env.cells.lookup x = some c := fun {x c} e => by
    rcases cloFrom_mem (PySem.mem_of_lookup e) with hm | ⟨m, e2⟩
    · cases hm
    · obtain ⟨c1, hc⟩ := hfree _ m rfl
      have hc : X.env.cells.lookup x = some c1 := hc
      have : c = c1 := by
        rw [e2, hc] <;> rfl
      rw [this]
      exact hc
  have down : ∀ {x}, scope.names.lookup x = some .free → ∃ c, (cloFrom X.env.cells scope.names []).lookup x = some c := fun {x} hl =>
    mem_lookup (cloFrom_has (cells := X.env.cells) (acc := []) (PySem.mem_of_lookup hl : (x, NameKind.free) ∈ scope.names))
  have cellK : ∀ {c : Addr} {v : Option Value}, s.heap.IsCell c v → h1.IsCell c v := fun {c v} ⟨o, ho, hd⟩ => ⟨o, kp _ _ ho, hd⟩
  have none_ : ∀ b : Addr, b ∉ (lamCx X A X.stack s H E scope f c').ex := fun b z => absurd (show b ∈ ([] : List Addr) from z) (by simp)
  refine ⟨⟨e0.mod, L.kind, rfl, rfl, Nat.le_refl _, fun x z c e1 e2 => I.ok.inj x z c (up e1) (up e2), fun x hx => ?_, fun x c z _ => ?_, fun _ => hd, Around.frames_deeper e0.frames, .inr ⟨rfl, rfl⟩, fun b z => absurd z (none_ b), e0.bs, e0.bsz, fun b _ _ => none_ b,
      fun b z => absurd z (none_ b), e0.funs, e0.frf⟩,
    rfl, e0.bare, Un.kept kp, ⟨_, hns, fun i x v e1 e2 e3 => ?_⟩, fun x c e => ?_, e0.hok.fresh (Nat.le_refl _), fun x c e => I.freeC x c (up e), fun q hq => absurd (show q ∈ ([] : List (Addr × Obj)) ++ [] from hq) (by simp), e0.hok.kept kp, by rw [List.length_set]; exact I.len⟩
  · have hx : scope.names.lookup x = some .cell ∨ scope.names.lookup x = some .free := hx
    rcases hx with hx | hx
    · exact absurd rfl (L.own _ (PySem.mem_of_lookup hx)).1
    · exact down hx
  · have z : false = true := z
    cases z
  · have e1 : X.N[i]? = some x := e1
    have e3 : Vis scope x := e3
    rcases e3 with k | k | k
    · have exy : x = y := (L.own _ (PySem.mem_of_lookup k)).2 rfl
      subst exy
      have eij : i = j := nodup_ix nd e1 hj
      subst eij
      have li : i < σ.length := by
        rw [I.len]
        exact (List.getElem?_eq_some_iff.mp e1).1
      rw [List.getElem?_set_self li] at e2
      obtain rfl := Option.some.inj (Option.some.inj e2)
      refine ⟨u, rv, .inl ⟨k, ?_⟩⟩
      show List.lookup x [(x, u)] = some u
      rw [List.lookup_cons, beq_self_eq_true]
    · exact absurd rfl (L.own _ (PySem.mem_of_lookup k)).1
    · have ne : i ≠ j := fun z => by
        rw [z, hj] at e1
        obtain rfl := Option.some.inj e1
        rw [L.here] at k
        cases k
      rw [List.getElem?_set_ne (Ne.symm ne)] at e2
      obtain ⟨m, hn, hl⟩ := I.loc
      have hv := L.free _ (PySem.mem_of_lookup k) rfl
      obtain ⟨u2, r, q⟩ := hl i x v e1 e2 (hv.elim (fun k => .inr (.inl k)) fun k => .inr (.inr k))
      obtain ⟨c2, h2⟩ := down k
      refine ⟨u2, r, .inr ⟨.inr k, c2, h2, ?_⟩⟩
      rcases q with ⟨k', _⟩ | ⟨_, c3, e', z⟩
      · have k' : X.env.scope.names.lookup x = some .local := k'
        have hv : X.env.scope.names.lookup x = some .cell ∨ X.env.scope.names.lookup x = some .free := hv
        rw [k'] at hv
        rcases hv with z | z <;> cases z
      · rw [up h2] at e'
        cases e'
        exact cellK z
  · obtain ⟨v, z⟩ := I.cell x c (up e)
    exact ⟨v, cellK z⟩
/-- it is called, from within a built-in -/
theorem lam1_call {scope : Scope} {y : Str} {j k : Nat} {val : V} {u : Value} {f c' : Addr} {pm ctv : Value} {params : Arguments} {body : Expr} {tb : TE} {Q : VK} (I : Inv X pins σ H s) (L : Lam1 X.env.scope scope y)
    (hf : s.heap.get? f = some (PySem.W.kla_obj "<lambda>" (X.env.qual ++ "<lambda>") params body scope (cloFrom X.env.cells scope.names []) pm c' ctv)) (hco : H c' = some (CodeO c' (X.env.qual ++ "<lambda>")))
    (hbind : bindArgs (PySem.W.kla_fn "<lambda>" (X.env.qual ++ "<lambda>") params body scope (cloFrom X.env.cells scope.names []) pm (.ref c') ctv) ⟨[u], []⟩ = pure [(y, u)]) (hr : Room (k + 3) X.A) (nd : X.N.Nodup) (hj : X.N[j]? = some y) (rv : RelV val u)
    (hbody : ∀ (A : Around) (outer : List Env) (s : Shared) (H : Hp), Room k (A.deeper (lamEnv X scope s.heap.objs.size f c')) → PE (lamCx X A outer s H C8.E0 scope f c') body tb) (ht : tb (σ.set j (some val)) H Q) :
    wpAny (model X.prog X.w) X.A.in1.in1 (call (.ref f) [u]) (CE X.stack X.prog X.w H s Q) (fun _ _ => False) s := by
  have hr1 : Room (k + 1) X.A.in1.in1 := (hr.in1).in1
  obtain ⟨⟨oc, vs, t, hoc, hdc, hvc⟩, _, _⟩ := I.hok c' _ hco
  have e0 := (I.env0.in1).in1
  have rc : codeAny (model X.prog X.w) X.A.in1.in1 (.call (.ref f) ⟨[u], []⟩) (CR (L2.CX X.prog X.w) X.stack X.prog X.w H s Q C8.E0) s := by
    refine PySem.W.kla_callFunE hr1.depth hf rfl L.co L.gen rfl ⟨c', oc, vs, t, rfl, hoc, hdc, hvc⟩ ?_
    rw [hbind]
    refine wpAny_pure (wpAny_newFunctionEnv (fun z m => (L.own z m).1) (fun z m => ?_) (fun h1 hns hsb => ⟨I.nolimit.fresh _ hsb, ?_⟩) L.kind)
    · rw [List.mem_singleton.mp m]
      exact L.here
    have kp : ∀ b o, s.heap.get? b = some o → h1.get? b = some o := fun b o e => hsb.extBut b o (Nat.ne_of_lt (Heap.lt_size e)) (Heap.get?_push_of_some _ e)
    refine PySem.W.kla_codeExpr (wpAny_mono ((hbody _ X.stack s H (hr1.deeper _)).run [] _ _ H Q (lam1_start I L e0 hr1.hd nd hj rv hns kp) ht) (fun v s' hq => ?_) fun e s' hq => hq)
    obtain ⟨w', H', J, r, q⟩ := hq
    exact ⟨w', H', J.os, J.bare, J.base, J.hok, r, q⟩
  refine wpAny_call (codeAny_mono rc fun r s2 hq => ?_)
  cases r with
  | error e =>
    obtain ⟨_, _, _, _, _, _, _, _, _, _, _, _, no⟩ := (show L2.CX X.prog X.w X.stack H s C8.E0 e s2 from hq)
    exact no.elim
  | ok fl =>
    cases fl with
    | ret v => exact hq
    | next => exact False.elim hq
    | brk => exact False.elim hq
    | cont => exact False.elim hq
end
end Sr

set_option Elab.async false
set_option linter.all false
set_option maxRecDepth 100000
set_option maxHeartbeats 4000000
namespace Sr
open PySem PySem.Spec PyProof.Rows L2 LamX
open PySem.W (AllAlike Sortable EachIs KeyedOut SortsAt dataKind dataLe KeepsBut)
theorem each_ofP {α β : Type} {R : α → β → Prop} : ∀ {l : List α} {m : List β}, Paired R l m → EachIs R l m
  | _, _, .nil => .nil
  | _, _, .cons a r => .cons a (each_ofP r)
theorem of_each {α β : Type} {R : α → β → Prop} : ∀ {l : List α} {m : List β}, EachIs R l m → Paired R l m
  | _, _, .nil => .nil
  | _, _, .cons a r => .cons a (of_each r)
theorem paired_map2 {α β γ : Type} {R : α → γ → Prop} {f : β → γ} : ∀ {l : List α} {m : List β}, Paired (fun a b => R a (f b)) l m → Paired R l (m.map f)
  | _, _, .nil => .nil
  | _, _, .cons a r => .cons a (paired_map2 r)
theorem vals_to {f : β → V} : ∀ {zs : List β} {us : List Value}, Vals (zs.map f) us → Paired (fun u z => RelV (f z) u) us zs
  | [], _, .nil => .nil
  | _ :: _, _, .cons a r => .cons a (vals_to r)
theorem vals_from {f : β → V} : ∀ {zs : List β} {us : List Value}, Paired (fun u z => RelV (f z) u) us zs → Vals (zs.map f) us
  | _, _, .nil => .nil
  | _, _, .cons a r => .cons a (vals_from r)
theorem snocP {α β : Type} {F : α → β → Prop} {a : α} {b : β} (h : F a b) : ∀ {l : List α} {m : List β}, Paired F l m → Paired F (l ++ [a]) (m ++ [b])
  | _, _, .nil => .cons h .nil
  | _, _, .cons x r => .cons x (snocP h r)
/-- what is not in the first heap may be otherwise -/
theorem un_but {fs : List Addr} {H H' : Hp} {h0 h h' : Heap} (u : Un fs [] H H' h0 h) (k : ∀ b o, (∃ q, h0.get? b = some q) → h.get? b = some o → h'.get? b = some o) : Un fs [] H H' h0 h' where
  keep b o e n nf ne := k b o ⟨_, e⟩ (u.keep b o e n nf ne)
  slot b o e n nf ne := by
    obtain ⟨sl, e2⟩ := u.slot b o e n nf ne
    exact ⟨sl, k b _ ⟨_, e⟩ e2⟩
  free := u.free
  there b o e ne := by
    obtain ⟨o', e2⟩ := u.there b o e ne
    exact ⟨o', k b _ ⟨_, e⟩ e2⟩
  tups := u.tups
  frzs := u.frzs
  tbls := u.tbls
theorem un_upd {fs : List Addr} {H H' : Hp} {h0 h : Heap} {a : Addr} {o : HO} (u : Un fs [] H H' h0 h) (hn : H a = none) (h0n : h0.get? a = none) : Un fs [] H (upd H' a o) h0 h where
  keep := u.keep
  slot := u.slot
  free b o' e n ne := by
    rw [upd_ne fun z => by rw [z, h0n] at e; cases e]
    exact u.free b o' e n ne
  there := u.there
  tups b xs e := by
    rw [upd_ne fun z => by rw [z, hn] at e; cases e]
    exact u.tups b xs e
  frzs b q v e := by
    rw [upd_ne fun z => by rw [z, hn] at e; cases e]
    exact u.frzs b q v e
  tbls b ps e := by
    rw [upd_ne fun z => by rw [z, hn] at e; cases e]
    exact u.tbls b ps e
theorem hok_but {P : Program} {w : World} {H : Hp} {h h' : Heap} {st : Addr} (x : HOk P w H h) (n : H st = none) (k : ∀ b o, b ≠ st → h.get? b = some o → h'.get? b = some o) : HOk P w H h' := fun a o e =>
  (x a o e).stay (fun b u hb q => k b u (by
    rcases hb with z | z
    · rw [z]
      intro z2
      rw [z2, n] at e
      cases e
    · intro z2
      rw [z2, n] at z
      cases z) q) (fun _ q => q) fun _ _ q => q
mutual
theorem dp_keep {K : PySem.W.Frag} {H H' : Hp} (s : Same H H') : ∀ {v : V} {d : PyData}, Dp K H v d → Dp K H' v d
  | _, _, .non => .non
  | _, _, .bl b => .bl b
  | _, _, .int i => .int i
  | _, _, .str x => .str x
  | _, _, .lst h a => .lst (sql_mono s h) (dpA_keep s a)
  | _, _, .tup h a => .tup (sqt_mono s h) (dpA_keep s a)
theorem dpA_keep {K : PySem.W.Frag} {H H' : Hp} (s : Same H H') : ∀ {vs : List V} {ds : List PyData}, DpAll K H vs ds → DpAll K H' vs ds
  | _, _, .nil => .nil
  | _, _, .cons a r => .cons (dp_keep s a) (dpA_keep s r)
end
/-- what sorted(x, key=lambda y: ..) asks: zs the items and their keys -/
def sortRest (K : PySem.W.Frag) (T : List (Addr × Str)) (j : Nat) (tb : TE) (σ : L2.St) (Q : VK) (x : V) (H0 : Hp) : Prop := Tabs T H0 ∧ ∀ H1, ExtN H0 H1 → Tabs T H1 → ∃ (a : Addr) (zs : List (V × PyData)),
  x = .ref a ∧ SqL K H1 a (zs.map (·.1)) ∧ AllAlike (zs.map (·.2)) ∧ Sortable (zs.map (·.2)) ∧ (∀ z ∈ zs, z.2.depth ≤ 64) ∧
  (∀ z ∈ zs, ∀ H2, Same H1 H2 → tb (σ.set j (some z.1)) H2 fun v H3 => Same H2 H3 ∧ Dp K H3 v z.2) ∧
  ∀ H4 p, Same H1 H4 → H1 p = none → H4 p = none → Q (.ref p) (upd H4 p (.lst ((zs.mergeSort (dataLe false (·.2))).map (·.1))))
def tSortLam (K : PySem.W.Frag) (T : List (Addr × Str)) (j : Nat) (te tb : TE) : TE := fun σ H Q => te σ H (sortRest K T j tb σ Q)
section
variable {X : Cx}
theorem pe_sortLam (qn : Str) {T : List (Addr × Str)} {c P : Addr} {k j : Nat} {y : Str} {params : Arguments} {body : Expr} {scope : Scope} {e : Expr} {te tb : TE} {p lpos kpos pos : Pos} (TB : TabB X.base X.mg c P) (hcode : X.env.code = .ref c) (hmT : (P, qn ++ "<lambda>") ∈ T) (hu : ∀ q ∈ T, q.1 = P → q.2 = qn ++ "<lambda>") (hr : Room (k + 3) X.A) (nd : X.N.Nodup) (hj : X.N[j]? = some y) (he : PE X e te)
    (hbody : ∀ (A : Around) (outer : List Env) (s : Shared) (H : Hp) (f c' : Addr), Room k (A.deeper (lamEnv X scope s.heap.objs.size f c')) → PE (lamCx X A outer s H C8.E0 scope f c') body tb) (L : Lam1 X.env.scope scope y) (hg : Gl X "sorted") (hm : X.mg "sorted" = none)
    (hbind : ∀ (q : Str) (cl : List (Str × Addr)) (pm cv ctv u : Value), bindArgs (PySem.W.kla_fn "<lambda>" q params body scope cl pm cv ctv) ⟨[u], []⟩ = pure [(y, u)]) (hqn : X.env.qual = qn := by rfl) (hdef : defaultsOf params X.env = ([], []) := by rfl) (hv : bootBuiltins "sorted" = some (.builtin "sorted") := by decide +kernel)
    (hs1 : starEach [e] X.env = (false, eval e X.env) :: starEach [] X.env := by rfl) (hst : backTo pos (starEach [e] X.env) = (false, eval e X.env) :: backTo pos (starEach [] X.env) := by rfl) (hpl : (backTo pos (starEach [e] X.env)).any (·.1) = false := by rfl) :
    PE X (.Call (.Name "sorted" p) [e] [⟨some "key", .Lambda params body scope lpos, kpos⟩] pos) (tSortLam X.K T j te tb) := by
  subst hqn
  refine ⟨fun pins s σ H Q I h => ?_⟩
  refine wpAny_Call_Name_kw (ld_blt I hg hm hv ?_ (by decide) (by decide))
  refine PyProof.Rows.callWith_kw (thn ((pa_cons he pa_nil hs1).run pos pins s σ H (fun vs H' => match vs with | [x] => sortRest X.K T j tb σ Q x H' | _ => False) I h) fun us s0 ⟨vs, H0, I0, r0, q0⟩ => ?_) hst hpl (by rfl) (by rfl)
  obtain ⟨x, rfl⟩ : ∃ x, vs = [x] := by
    match vs, q0 with
    | [x], _ => exact ⟨x, rfl⟩
  obtain ⟨hT, q0⟩ := (show sortRest X.K T j tb σ Q x H0 from q0)
  obtain ⟨u0, rfl, ru0⟩ := vals1 r0
  show wpAny _ _ (evalAll ((do let v ← eval (.Lambda params body scope lpos) X.env; standAt pos; pure v) :: [])) _ _ s0
  refine wpAny_evalAll_cons (wpAny_bind (lam_make2 I0 TB hcode hmT hu hT hdef (L.has I0.ok) fun f c' pm ctv H1 s1 I1 eN T1 hf hfn hfr hco => wpAny_bind (wpAny_standAt (wpAny_pure ?_))))
  refine wpAny_evalAll_nil ?_
  obtain ⟨a, zs, rfl, hsq, al, so, dep, ask, fin⟩ := q0 H1 eN T1
  cases ru0
  obtain ⟨its, rv, hl, hz⟩ := I1.list hsq
  have lits : its.length = zs.length := by rw [← rv.length, List.length_map]
  have lez : its.length ≤ sizeLine := by rw [← rv.length]; exact hz
  have rv' : Paired (fun u (z : V × PyData) => RelV z.1 u) its zs := vals_to rv
  show wpAny _ _ (call (.builtin "sorted") [.ref a] [(Str.ofString "key", .ref f)]) _ _ s1
  refine W.sorted_of_sort hl.isList lez (ksk_s1 _ _) (fun _ => ksk_l1 _ _) fun E' => ?_
  have cAt := W.copyHeap_at s1.heap its
  have cLt := Heap.lt_size cAt
  have un0 := hr.un
  refine keyed_sort (vals := its) (keys := zs.map (·.2)) cAt al so lez (fun d md => ?_) fun h st epo t nsb fst kh szs hst hbox => ?_
  · obtain ⟨z, mz, rfl⟩ := List.mem_map.mp md
    have := dep z mz
    show X.A.units + 1 + 1 + z.2.depth < cLine
    omega
  have bigS : s1.heap.objs.size ≤ st := Nat.le_trans (Nat.le_trans (Nat.le_succ _) (Nat.le_of_lt cLt)) szs
  have bigB : s1.heap.objs.size ≤ s1.heap.objs.size + 1 := Nat.le_succ _
  have nS : s1.heap.get? st = none := Heap.get?_none_of_le bigS
  have nB : s1.heap.get? (s1.heap.objs.size + 1) = none := Heap.get?_none_of_le bigB
  have old : ∀ b o, s1.heap.get? b = some o → h.get? b = some o := fun b o e => kh b o (fun z => by rw [z, nB] at e; cases e) (W.copyHeap_old e)
  have nofr : ∀ b, s1.heap.objs.size ≤ b → b ∉ frs X.stack := fun b hb z => by
    rcases List.mem_cons.mp (I1.stkSub _ z) with e | e
    · have h1 := I1.lt
      rw [← e] at h1
      exact Nat.lt_irrefl _ (Nat.lt_of_lt_of_le h1 hb)
    · exact I1.nofs hb e
  have hB1 : H1 (s1.heap.objs.size + 1) = none := I1.hok.fresh bigB
  have hS1 : H1 st = none := I1.hok.fresh bigS
  have inv : ∀ (s2 : Shared) (H2 : Hp), s2.os = s1.os → AllBare s2.gens → Un (frs X.stack) [] H1 H2 s1.heap s2.heap → HOk X.prog X.w H2 s2.heap → Inv X pins σ H2 s2 := fun s2 H2 os bare un hok => by
    obtain ⟨hh, g, d, t, os'⟩ := s2
    obtain rfl : os' = s1.os := os
    exact I1.call (h' := hh) (g' := g) (d' := d) (t' := t) (ch := []) un hok bare (fun b z => absurd z (by simp))
  refine keyed_calls (keys := zs.map (·.2)) (fun i us s2 => us.length = i ∧ s2.heap.get? (s1.heap.objs.size + 1) = some (seqObj "list" #[] epo) ∧ (∃ n, s2.heap.get? st = some (seqObj "list" us.toArray n)) ∧ s2.os = s1.os ∧ AllBare s2.gens ∧ ∃ H2, Un (frs X.stack) [] H1 H2 s1.heap s2.heap ∧ HOk X.prog X.w H2 s2.heap ∧ Same H1 H2 ∧ H2 (s1.heap.objs.size + 1) = none ∧ H2 st = none ∧
    Paired (fun u (z : V × PyData) => ∃ v, RelV v u ∧ Dp X.K H2 v z.2) us (zs.take i)) ⟨rfl, hbox, ⟨0, hst⟩, rfl, I1.bare, H1, Un.kept old, I1.hok.kept old, Same.refl _, hB1, hS1, .nil⟩ (fun i us s2 z => ⟨z.1, z.2.1, z.2.2.1⟩) (fun i v us s2 hv z => ?_) (fun us s2 z => ?_) al so lez (fun d md => ?_) nsb (fun us s2 out n h2 t2 z kp hb ko => ?_)
  · obtain ⟨lu, eb, ⟨n, es⟩, os, bare, H2, un, hok, sm, nb2, ns2, pr⟩ := z
    have I2 := inv s2 H2 os bare un hok
    have li : i < its.length := (List.getElem?_eq_some_iff.mp hv).1
    have hz' : zs[i]? = some (zs[i]'(by omega)) := List.getElem?_eq_getElem _
    generalize zs[i]'(by omega) = zi at hz'
    have rvi : RelV zi.1 v := Paired.at2 (F := fun u (z : V × PyData) => RelV z.1 u) rv' hv hz'
    have fk := un.keep f _ hf hfn hfr (by simp)
    have run := lam1_call (tb := tb) (Q := fun v H3 => Same H2 H3 ∧ Dp X.K H3 v zi.2) I2 L fk (sm _ _ hco) (hbind _ _ _ _ _ _) hr nd hj rvi (fun A outer s H hr' => hbody A outer s H f c' hr') (ask zi (List.mem_of_getElem? hz') H2 sm)
    refine wpAny_mono run (fun u s3 hq => ?_) fun _ _ no => no
    obtain ⟨w', H3, os3, bare3, un3, hok3, r3, sm3, dp3⟩ := hq
    have es3 := un3.keep st _ es ns2 (nofr st bigS) (by simp)
    have eb3 := un3.keep _ _ eb nb2 (nofr _ bigB) (by simp)
    have ns3 := un3.free st _ es ns2 (by simp)
    have nb3 := un3.free _ _ eb nb2 (by simp)
    refine ⟨⟨n, es3⟩, fun h4 sb e4 => ⟨by rw [List.length_append, lu]; rfl, (sb.2 _ (Ne.symm nsb)).trans eb3, e4, os3.trans os, bare3, H3, ?_, hok_but hok3 ns3 (fun b o nb e => (sb.2 b nb).trans e), sm.trans sm3, nb3, ns3, ?_⟩⟩
    · refine un_but (un.trans un3) fun b o ⟨q, hq⟩ e => (sb.2 b fun z => ?_).trans e
      rw [z, nS] at hq
      cases hq
    · rw [List.take_add_one, hz']
      exact snocP (F := fun u (z : V × PyData) => ∃ v, RelV v u ∧ Dp X.K H3 v z.2) ⟨w', r3, dp3⟩ (L2.Paired.mapP pr fun u z ⟨v, r, d⟩ => ⟨v, r, dp_keep sm3 d⟩)
  · obtain ⟨lu, eb, _, os, bare, H2, un, hok, sm, nb2, ns2, pr⟩ := z
    have I2 := inv s2 H2 os bare un hok
    rw [lits, List.take_length] at pr
    exact each_ofP (paired_map2 (R := fun v d => ∃ as, Reads s2.heap v d as) (f := fun z : V × PyData => z.2) (L2.Paired.mapP pr fun u z ⟨v, r, d⟩ => Dp.reads I2 _ _ _ d r))
  · obtain ⟨z, mz, rfl⟩ := List.mem_map.mp md
    have := dep z mz
    show X.A.units + 1 + 1 + z.2.depth < cLine
    omega
  · obtain ⟨lu, eb, _, os, bare, H2, un, hok, sm, nb2, ns2, pr⟩ := z
    have eo := of_each (W.keyedOut_each (R := fun u (z : V × PyData) => RelV z.1 u) (fun z : V × PyData => z.2) ko (each_ofP rv'))
    have vo : Vals ((zs.mergeSort (dataLe false (·.2))).map (·.1)) out := vals_from eo
    obtain ⟨G, g1, g2⟩ := L2.restrict s2.heap fun b => decide (b ≠ st) && decide (b ≠ s1.heap.objs.size + 1)
    have hG : HOk X.prog X.w H2 G := by
      obtain ⟨G1, k1, k2⟩ := L2.restrict s2.heap fun b => decide (b ≠ st)
      refine hok_but (h := G1) (st := s1.heap.objs.size + 1) (hok_but (h := s2.heap) (st := st) hok ns2 fun b o nb e => (k1 b (decide_eq_true nb)).trans e) nb2 fun b o nb e => ?_
      by_cases hs : b = st
      · rw [hs, k2 st (decide_eq_false fun z => z rfl)] at e
        cases e
      · rw [g1 b (by rw [decide_eq_true hs, decide_eq_true nb]; rfl), ← k1 b (decide_eq_true hs)]
        exact e
    have Gh : ∀ b o, G.get? b = some o → h2.get? b = some o := fun b o e => by
      by_cases hs : b = st
      · rw [g2 b (by rw [decide_eq_false (p := b ≠ st) fun z => z hs, Bool.false_and])] at e
        cases e
      · by_cases hbx : b = s1.heap.objs.size + 1
        · rw [g2 b (by rw [decide_eq_false (p := b ≠ s1.heap.objs.size + 1) fun z => z hbx, Bool.and_false])] at e
          cases e
        · rw [g1 b (by rw [decide_eq_true hs, decide_eq_true hbx]; rfl)] at e
          exact kp b o hs hbx e
    have lo : ((zs.mergeSort (dataLe false (·.2))).map (·.1)).length ≤ sizeLine := by
      rw [List.length_map, List.length_mergeSort]
      rw [← lits]
      exact lez
    have okF : HOk X.prog X.w (upd H2 (s1.heap.objs.size + 1) (.lst ((zs.mergeSort (dataLe false (·.2))).map (·.1)))) h2 := hG.laidN Gh nb2 ⟨lo, out, n, vo, hb⟩
    have unF : Un (frs X.stack) [] H1 (upd H2 (s1.heap.objs.size + 1) (.lst ((zs.mergeSort (dataLe false (·.2))).map (·.1)))) s1.heap h2 := by
      refine un_upd (un_but un fun b o ⟨q, hq⟩ e => kp b o (fun z => ?_) (fun z => ?_) e) hB1 nB
      · rw [z, nS] at hq
        cases hq
      · rw [z, nB] at hq
        cases hq
    exact ⟨rfl, .ref _, _, inv _ _ os bare unF okF, rfl, fin H2 _ sm hB1 nb2⟩
end
end Sr

set_option Elab.async false
set_option linter.all false
set_option maxRecDepth 100000
set_option maxHeartbeats 4000000
namespace K34
open PySem PySem.Spec PyProof.Rows L2 Sr LamX
open PySem.W (AllAlike Sortable dataLe)
/-! ### all sets -/
theorem calT {P : Program} {w : World} {K : PySem.W.Frag} {mg : Str → Option Value} {base : Heap} {x : Str} {st : Stmt} {N ps : List Str} {k : Nat} {sp : Sp} (D : Dfn K mg x st) (S : FnScope N ps (defScope st))
    (hb : ∀ (kV doc pm : Value) (an : Option Addr) (cdv ct : Value) (us : List Value), us.length = ps.length → bindArgs (PySem.W.fnOf x x (defArgs st) (defBody st) (defScope st) .none kV doc pm an cdv ct) ⟨us, []⟩ = pure (ps.zip us))
    (len : ∀ vs H Q E, sp vs H Q E → vs.length = ps.length)
    (hbody : ∀ (A : Around) (outer : List Env) (s : Shared) (H : Hp) (vs : List V) (Q : VK) (E : XK), Room k (A.deeper (envOfC x (defScope st) s.heap.objs.size (He.ga K x) (.ref (He.codeOf K (x, none))))) → sp vs H Q E →
      ∃ t, PSs (cxOf CX0 P w K mg base N x (defScope st) (He.ga K x) (.ref (He.codeOf K (x, none))) A outer s H E) (defBody st) t ∧ t { nx := fun _ H' => Q .non H', rt := Q } (L2.start N vs) H) : Cal P w K mg base (k + 1) x ps sp := by
  obtain ⟨fd, F⟩ := D.fn
  exact ⟨He.ga K x, fd, fun_ok F S len hbody, D.at_, F.kp, F.bindsN hb⟩
theorem op_catAK {X : Cx} (K : PySem.W.Frag) (hK : X.K = K) : OpR X (binaryOp .Add) (rCatA K) := hK ▸ op_catA
def subsF (N : List Nat) : List (List Nat) := N.foldl (fun acc k => acc ++ acc.map fun S => S ++ [k]) [[]]
theorem subs_snoc (N : List Nat) (k : Nat) : subsF (N ++ [k]) = subsF N ++ (subsF N).map fun S => S ++ [k] := by
  unfold subsF
  rw [List.foldl_append]
  rfl
theorem snoc_ind {P : List Nat → Prop} (h0 : P []) (hs : ∀ M k, P M → P (M ++ [k])) (N : List Nat) : P N := by
  have : ∀ L : List Nat, P L.reverse := fun L => by
    induction L with
    | nil => exact h0
    | cons k r ih =>
      rw [List.reverse_cons]
      exact hs _ _ ih
  have h := this N.reverse
  rw [List.reverse_reverse] at h
  exact h
theorem subs_len (N : List Nat) : (subsF N).length = 2 ^ N.length := by
  refine snoc_ind (P := fun N => (subsF N).length = 2 ^ N.length) rfl (fun M k ih => ?_) N
  show (subsF (M ++ [k])).length = 2 ^ (M ++ [k]).length
  have ih : (subsF M).length = 2 ^ M.length := ih
  rw [subs_snoc, List.length_append, List.length_map, ih, List.length_append, show M.length + [k].length = M.length + 1 from rfl, Nat.pow_succ]
  omega
theorem subs_mem (N : List Nat) : ∀ S, S ∈ subsF N ↔ S.Sublist N := by
  refine snoc_ind (P := fun N => ∀ S, S ∈ subsF N ↔ S.Sublist N) (fun S => ?_) (fun M k ih S => ?_) N
  · rw [List.sublist_nil]
    show S ∈ [[]] ↔ _
    simp
  · rw [subs_snoc, List.mem_append, List.mem_map, List.sublist_append_iff]
    constructor
    · rintro (m | ⟨R, m, rfl⟩)
      · exact ⟨S, [], by simp, (ih S).mp m, List.nil_sublist _⟩
      · exact ⟨R, [k], rfl, (ih R).mp m, List.Sublist.refl _⟩
    · rintro ⟨l1, l2, rfl, h1, h2⟩
      cases l2 with
      | nil => exact .inl (by rw [List.append_nil]; exact (ih l1).mpr h1)
      | cons a r =>
        have : a :: r = [k] := by
          have h3 := h2.length_le
          cases r with
          | nil => rw [List.mem_singleton.mp (h2.subset List.mem_cons_self)]
          | cons _ _ => simp at h3
        exact .inr ⟨l1, (ih l1).mpr h1, by rw [this]⟩
def RowT (H : Hp) (v : V) (S : List Nat) : Prop := ∃ t, v = .ref t ∧ H t = some (.tup (nV S))
abbrev TS0 (P1 P2 : Addr) : List (Addr × Str) := [(P1, "_law_sets" ++ ".<locals>." ++ "<lambda>"), (P2, "_law_least" ++ ".<locals>." ++ "<lambda>")]
theorem ts_one {P1 P2 : Addr} (n : P1 ≠ P2) : ∀ q ∈ TS0 P1 P2, q.1 = P1 → q.2 = "_law_sets" ++ ".<locals>." ++ "<lambda>" := fun q m e => by
  rcases List.mem_cons.mp m with rfl | m
  · rfl
  · rw [List.mem_singleton.mp m] at e
    exact absurd e.symm n
theorem ts_two {P1 P2 : Addr} (n : P1 ≠ P2) : ∀ q ∈ TS0 P1 P2, q.1 = P2 → q.2 = "_law_least" ++ ".<locals>." ++ "<lambda>" := fun q m e => by
  rcases List.mem_cons.mp m with rfl | m
  · exact absurd e n
  · rw [List.mem_singleton.mp m]
def spSets (P1 P2 : Addr) : Sp := fun vs H Q _ => ∃ (l : Addr) (N : List Nat), vs = [.ref l] ∧ H l = some (.lst (nV N)) ∧ N.length ≤ 6 ∧ Tabs (TS0 P1 P2) H ∧
  ∀ H' p us rows, ExtN H H' → Tabs (TS0 P1 P2) H' → H' p = some (.lst us) → Paired (RowT H') us rows → rows.Perm (subsF N) → Q (.ref p) H'
def intsP (S : List Nat) : List PyData := S.map fun (k : Nat) => PyData.int (k : Nat)
def keyP (S : List Nat) : PyData := .tuple [.int (S.length : Nat), .tuple (intsP S)]
theorem ints_alike : ∀ S R : List Nat, PySem.W.alikeAll (intsP S) (intsP R) = true
  | [], _ => rfl
  | _ :: _, [] => rfl
  | _ :: s, _ :: r => ints_alike s r
theorem key_alike (S R : List Nat) : PySem.W.alike (keyP S) (keyP R) = true := by
  show (true && (PySem.W.alikeAll (intsP S) (intsP R) && true)) = true
  rw [ints_alike]
  rfl
theorem ints_dp (K : PySem.W.Frag) (H : Hp) : ∀ S : List Nat, DpAll K H (nV S) (intsP S)
  | [] => .nil
  | _ :: r => .cons (.int _) (ints_dp K H r)
theorem key_depth (S : List Nat) : (keyP S).depth ≤ 64 := by
  have := (iD_lay S).2
  show PyData.depth (.tuple [.int (S.length : Nat), .tuple (S.map fun (k : Nat) => PyData.int (k : Nat))]) ≤ 64
  simp only [PyData.depth, PyData.depthAll]
  omega
/-- items and their keys -/
theorem keyed {H : Hp} : ∀ {us : List V} {ss : List (List Nat)}, Paired (RowT H) us ss → ∃ zs : List (V × PyData), zs.map (·.1) = us ∧ ∀ z ∈ zs, ∃ S, RowT H z.1 S ∧ z.2 = keyP S
  | _, _, .nil => ⟨[], rfl, fun _ m => by cases m⟩
  | _, _, .cons (a := v) (b := S) h r => by
    obtain ⟨zs, e, g⟩ := keyed r
    refine ⟨(v, keyP S) :: zs, by rw [List.map_cons, e], fun z m => ?_⟩
    rcases List.mem_cons.mp m with rfl | m
    · exact ⟨S, h, rfl⟩
    · exact g z m
section
variable {P : Program} {w : World} {K : PySem.W.Frag} {mg : Str → Option Value} {base : Heap}
abbrev s__law_sets : Stmt := top 48
theorem sc__law_sets : FnScope ["numbers", "found", "k", "row"] ["numbers"] (defScope s__law_sets) := ⟨rfl, rfl, rfl, by decide +kernel, rfl, by decide +kernel, by decide +kernel⟩
theorem c__law_sets {P1 P2 : Addr} (nP : P1 ≠ P2) (T : Txt K mg) (TB : TabB base mg (He.codeOf K ("_law_sets", none)) P1) (D : Dfn K mg "_law_sets" s__law_sets) : Cal P w K mg base 5 "_law_sets" ["numbers"] (spSets P1 P2) := by
  refine calT D sc__law_sets (fun _ _ _ _ _ _ us hl => match us, hl with | [_], _ => rfl) (fun vs H Q E h => ?_) fun A outer s H vs Q E hr h => ?_
  · obtain ⟨l, N, rfl, _⟩ := h
    rfl
  obtain ⟨l, N, rfl, hl, lN, tab, q⟩ := h
  refine ⟨_, PSs.nox (pss_cons (ps_set (i := 1) sc__law_sets.nd rfl (by first | exact Or.inl rfl | exact Or.inr rfl) (pe_lst (pa_cons (pe_tup pa_nil) pa_nil)))
      (pss_cons (ps_for PassesOwn.never rfl (pi_list (pv 0)) (pg_name (i := 2) sc__law_sets.nd rfl (by first | exact Or.inl rfl | exact Or.inr rfl))
      (pss_one (ps_set (i := 1) sc__law_sets.nd rfl (by first | exact Or.inl rfl | exact Or.inr rfl) (pe_op op_cat (pv 1) (pe_lc (own := [("row", 3)]) (g := gName 3) (tt := tYes) rfl sc__law_sets.nd (pi_list (pv 1)) (blkOk_by (N := ["numbers", "found", "k", "row"]) (sc := defScope s__law_sets) (by decide +kernel)) (fun _ _ _ _ _ => (pg_name (i := 3) sc__law_sets.nd rfl (by first | exact Or.inl rfl | exact Or.inr rfl))) (fun _ _ _ _ _ => pts_nil) (fun _ _ _ _ _ => (pe_op (op_catAK K rfl) (pv 3) (pe_tup (pa_cons (pv 2) pa_nil)))))))))
      (pss_one (ps_ret (pe_sortLam ("_law_sets" ++ ".<locals>.") (j := 3) TB rfl (.head _) (ts_one nP) hr sc__law_sets.nd rfl (pv 1) (fun A outer s H f c' hr => (pe_tup (pa_cons (pe_callB (id := "len") (call_len_seqK K rfl) (by rfl) T.len (by decide +kernel) (pa_cons (pv 3) pa_nil)) (pa_cons (pv 3) pa_nil)))) (lam1_by (by show lam1B (defScope s__law_sets) _ _ = true; decide +kernel)) (by rfl) T.sorted (fun _ _ _ _ _ _ => rfl)))))), ?_⟩
  refine cut_if (fun σ H' => ∃ f t, σ = [some (.ref l), some (.ref f), none, none] ∧ Same H H' ∧ H' f = some (.lst [.ref t]) ∧ H' t = some (.tup [])) ?_ fun rest => ?_
  rotate_left
  · refine ⟨lineN (n := 0), fun t ht => ⟨lineN (n := 1), fun f hf => ?_⟩⟩
    exact rest _ _ ⟨f, t, rfl, (Same.up ht).trans (Same.up hf), upd_same, Same.up hf _ _ upd_same⟩
  rintro σ G ⟨f, t, rfl, sG, hf, ht⟩
  try dsimp only
  have lnv : ∀ T : List Nat, (nV T).length = T.length := fun T => by unfold nV; rw [List.length_map]
  refine cut_if (fun σ H' => ∃ f us v2, σ = [some (.ref l), some (.ref f), v2, none] ∧ Same H H' ∧ H' f = some (.lst us) ∧ Paired (RowT H') us (subsF N)) ?_ fun rest => ?_
  rotate_left
  · refine ⟨_, rfl, l, rfl, ⟨_, SqL.of (sG _ _ hl)⟩, for_it (walk_list (xs := nV N)) (fun i σ H' => ∃ f us v2, σ = [some (.ref l), some (.ref f), v2, none] ∧ Same H H' ∧ H' f = some (.lst us) ∧ Paired (RowT H') us (subsF (N.take i))) ⟨f, _, _, rfl, sG, hf, .cons ⟨t, rfl, ht⟩ .nil⟩ (fun i σ H' _ pp => by obtain ⟨_, _, _, _, s, _⟩ := pp; exact SqL.of (s _ _ hl)) ?_ ?_⟩
    · rintro i u σ H1 H2 hi ⟨f, us, v2, rfl, s1, h1, pr⟩ ⟨rfl, hu⟩
      obtain ⟨k, hk, rfl⟩ := nV_at hu
      have lp : us.length ≤ 64 := by
        rw [Paired.length pr, subs_len, List.length_take]
        have : 2 ^ (min i N.length) ≤ 2 ^ 6 := Nat.pow_le_pow_right (by decide) (by omega)
        exact this
      have ek : N.take (i + 1) = N.take i ++ [k] := by rw [List.take_add_one, hk]; rfl
      refine ⟨_, rfl, _, rfl, f, rfl, ⟨_, SqL.of h1⟩, fun B hB => lc_gen walk_list at_any (subsF (N.take i)) (fun _ => true) (Paired.length pr).symm (sz (m := 64) lp) hB (fun H' s' => SqL.of (s' _ _ h1)) (Rel := fun H S v => RowT H v (S ++ [k])) (fun H1 H2 g y s ⟨t, e1, e2⟩ => ⟨t, e1, s _ _ e2⟩) (fun H1 g y c c' hc ⟨t, e1, e2⟩ => ⟨t, e1, by rw [upd_ne fun z => by rw [z, hc] at e2; cases e2]; exact e2⟩) (fun j u S H3 A Bf lt hu2 hS s3 kA _ => ?_) (fun H3 acc s3 h3 pr3 => ?_)⟩
      · obtain ⟨tr, rfl, htr⟩ := Paired.at2 (F := RowT H2) pr hu2 hS
        refine ⟨rfl, ?_⟩
        refine ⟨_, rfl, _, rfl, lineN (n := 1), fun t2 ht2 => ?_⟩
        have s4 : Same H3 (upd H3 t2 (.tup [.int (k : Nat)])) := Same.up ht2
        have h4 : (upd H3 t2 (.tup [.int (k : Nat)])) t2 = some (.tup (nV [k])) := upd_same
        generalize upd H3 t2 _ = H4 at s4 h4 ⊢
        have app : nV S ++ nV [k] = nV (S ++ [k]) := by unfold nV; rw [List.map_append]
        refine ⟨tr, t2, nV S, nV [k], rfl, rfl, SqT.of (s4 _ _ (s3 _ _ htr)), SqT.of h4, ?_, ?_⟩
        · have hS' := (subs_mem _ _).mp (List.mem_of_getElem? hS)
          have := hS'.length_le
          rw [List.length_take] at this
          rw [lnv, lnv]
          exact Nat.le_of_lt (sz (m := 60) (n := S.length + 1) (by omega))
        · refine ⟨fun e => ?_, fun _ e => (by cases e), fun _ _ p hp => kA rfl _ _ (s4.trans (Same.up hp)) ⟨p, rfl, by rw [← app]; exact upd_same⟩⟩
          have eS : S = [] := by cases S with
            | nil => rfl
            | cons _ _ => cases e
          subst eS
          exact kA rfl _ _ s4 ⟨t2, rfl, h4⟩
      · rw [List.filter_eq_self.mpr fun _ _ => rfl] at pr3
        have la : acc.length ≤ 64 := by rw [Paired.length pr3, ← Paired.length pr]; exact lp
        have h1' := s3 _ _ h1
        refine ⟨f, B, us, acc, rfl, rfl, h1', h3, Nat.le_of_lt (sz (m := 200) (n := us.length + acc.length) (by omega)), fun p hp => ⟨p, us ++ acc, _, rfl, s1.trans (s3.trans (Same.up hp)), upd_same, ?_⟩⟩
        have sp := Same.up (o := .lst (us ++ acc)) hp
        rw [ek, subs_snoc]
        refine pairs_app (L2.Paired.mapP pr fun _ _ ⟨t, e1, e2⟩ => ⟨t, e1, sp _ _ (s3 _ _ e2)⟩) ?_
        exact pmap (f := fun S => S ++ [k]) (fun _ _ h => h) (L2.Paired.mapP (G := fun v S => RowT (upd H3 p (.lst (us ++ acc))) v (S ++ [k])) pr3 fun _ _ ⟨t, e1, e2⟩ => ⟨t, e1, sp _ _ e2⟩)
    · rintro σ H1 ⟨f, us, v2, rfl, s1, h1, pr⟩
      rw [lnv, List.take_length] at pr
      exact rest _ _ ⟨f, us, v2, rfl, s1, h1, pr⟩
  rintro σ G2 ⟨f, us, v2, rfl, s2, h2, pr⟩
  have lus : us.length ≤ 64 := by
    rw [Paired.length pr, subs_len]
    have : 2 ^ N.length ≤ 2 ^ 6 := Nat.pow_le_pow_right (by decide) lN
    exact this
  refine ⟨_, rfl, tab.ext s2, fun H1 eN T1 => ?_⟩
  have pr1 : Paired (RowT H1) us (subsF N) := L2.Paired.mapP pr fun _ _ ⟨t, e1, e2⟩ => ⟨t, e1, eN _ _ e2 (fun _ z => by cases z)⟩
  obtain ⟨zs, ez, gz⟩ := keyed pr1
  refine ⟨f, zs, rfl, by rw [ez]; exact SqL.of (eN _ _ h2 (fun _ z => by cases z)), fun d md d' md' => ?_, .inl fun d md => ?_, fun z mz => ?_, fun z mz H3 s3 => ?_, fun H4 p s4 n1 n4 => ?_⟩
  · obtain ⟨z, mz, rfl⟩ := List.mem_map.mp md
    obtain ⟨z', mz', rfl⟩ := List.mem_map.mp md'
    obtain ⟨S, _, e⟩ := gz z mz
    obtain ⟨S', _, e'⟩ := gz z' mz'
    rw [e, e']
    exact key_alike S S'
  · obtain ⟨z, mz, rfl⟩ := List.mem_map.mp md
    obtain ⟨S, _, e⟩ := gz z mz
    exact ⟨_, _, e⟩
  · obtain ⟨S, _, e⟩ := gz z mz
    rw [e]
    exact key_depth S
  · obtain ⟨S, ⟨t, e1, e2⟩, e⟩ := gz z mz
    rw [e, e1]
    have h3 := s3 _ _ e2
    have lS : (nV S).length = S.length := lnv S
    refine ⟨_, rfl, t, nV S, rfl, .inr (SqT.of h3), _, rfl, lineN (n := 2), fun p hp => ⟨Same.up hp, ?_⟩⟩
    refine .tup (SqT.of upd_same) (.cons ?_ (.cons (.tup (SqT.of (Same.up hp _ _ h3)) (ints_dp K _ S)) .nil))
    rw [lS]
    exact .int _
  · have pm : ((zs.mergeSort (dataLe false (·.2))).map (·.1)).Perm us := by
      rw [← ez]
      exact (List.mergeSort_perm zs _).map _
    obtain ⟨rows, h5, p5⟩ := perm_pairs pm pr1
    have sp := Same.up (o := .lst ((zs.mergeSort (dataLe false (·.2))).map (·.1))) n4
    have e4 : ExtN G2 H4 := eN.trans (ExtN.of s4)
    refine q _ p _ rows ((ExtN.of s2).trans (e4.trans (ExtN.of sp))) ((T1.ext s4).ext sp) upd_same (L2.Paired.mapP h5 fun _ _ ⟨t, e1, e2⟩ => ⟨t, e1, sp _ _ (s4 _ _ e2)⟩) p5
end
end K34

set_option Elab.async false
set_option linter.all false
set_option maxRecDepth 100000
set_option maxHeartbeats 4000000
namespace Sr
open PySem PySem.Spec PyProof.Rows L2
/-! ### set(xs) of a list of ints, sorted -/
section
variable {P : Program} {w : World} {A : Around} {E : Value → Shared → Prop} {s : Shared}
def ISetOut (w : World) (s : Shared) (ns : List Int) (h' : Heap) : Prop := ∃ n, SetR w h' s.heap.objs.size (fun j => decide (j ∈ ns)) n ∧ n ≤ ns.length ∧ ∀ b o, s.heap.get? b = some o → h'.get? b = some o
set_option maxHeartbeats 8000000 in
theorem ints_set {l : Addr} {items : Array Value} (ns : List Int) {Q : Value → Shared → Prop} (hh : A.handled = none) (hl : s.heap.IsList l items) (hit : PyProof.Rows.IntsAre items.toList ns) (few : ns.length < 4000)
    (h : ∀ (h' : Heap) (tk : Nat), ISetOut w s ns h' → Q (.ref s.heap.objs.size) { s with heap := h', toks := tk }) :
    wpAny (model P w) A (call (.type "set") [.ref l]) Q E s := by
  have isz : items.size = ns.length := by
    have z := PyProof.Rows.IntsAre.length hit
    rwa [Array.length_toList] at z
  obtain ⟨ol, hol, hcl, nl, hdl⟩ := id hl
  have lt : l < s.heap.objs.size := Heap.lt_size hol
  obtain ⟨c, tl, hmro⟩ := PySem.F.called_set.mro
  have a1 := PySem.F.called_set.made
  have a2 := PySem.F.called_set.sub
  have a3 := PySem.F.called_set.notType
  have a4 := PySem.F.called_set.canCreate
  have a5 := PySem.F.typeCall_set_1 (.ref l)
  refine wpAny_call (codeAny_of_tree ?_)
  show wpAny _ _ (callAny (.type "set") _) _ _ _
  refine wpAny_pure ⟨Code.quiet_builtin _ (by decide +kernel), codeAny_builtin PySem.F.entry_type_call ?_⟩
  rw [Around.under_plain (weight_type_call_type "set" [.ref l] []) rfl]
  repeat (any_goals (first | assumption | wp_step))
  refine codeAny_mono (code_set_led1 (.ref l) (E := E) (Q₁ := fun obj t => obj = .ref s.heap.objs.size ∧ t = { s with heap := s.heap.push (fresh0 w) }) ⟨rfl, rfl⟩) fun r t hr => ?_
  cases r with
  | error e => exact hr
  | ok fl =>
    cases fl with
    | ret obj =>
      obtain ⟨rfl, rfl⟩ := hr
      have b1 : (s.heap.push (fresh0 w)).get? s.heap.objs.size = some (fresh0 w) := Heap.get?_push_size _ rfl
      have b2 : Shared.TypeIs { s with heap := s.heap.push (fresh0 w) } (.ref s.heap.objs.size) "set" := ⟨_, b1, rfl⟩
      have b3 := PySem.F.called_set.init.lookup
      have b4 := PySem.F.called_set.init.bind (.ref s.heap.objs.size)
      repeat (any_goals (first | assumption | wp_step))
      refine codeAny_mono (codeAny_call_builtin (R := wants (fun r t => r = .none ∧ ∃ h' tk, t = { s with heap := h', toks := tk } ∧ ISetOut w s ns h') E) PySem.F.called_set.init.plain PySem.F.entry_set_init (check_set_init_1 b2 ?_)) fun r t hr => ?_
      · have c1 : Shared.TypeIs { s with heap := s.heap.push (fresh0 w) } (.ref l) "list" := ⟨ol, Heap.get?_push_of_some _ hol, hcl⟩
        have e1 := PySem.F.sub_list_set
        have e2 := PySem.F.sub_list_frozenset
        have e3 : (Value.type "list" == Value.type "dict") = false := by decide
        have il : (s.heap.push (fresh0 w)).IsList l items := hl.push _
        unfold Builtin.«set.__init__» noKeywords Builtin.Frozenset.updateFrom
        generalize hPI : pyIter = PI
        wp_walk
        subst hPI
        refine wpAny_pyIter_list il ?_
        have z1 : (s.heap.push (fresh0 w)).objs.size = s.heap.objs.size + 1 := Heap.size_push ..
        rw [z1]
        refine wpAny_bind (wpAny_runValue ?_)
        have nS : s.heap.objs.size ∉ [s.heap.objs.size + 1, l] := fun z => by
          rcases List.mem_cons.mp z with z | z
          · exact Nat.ne_of_lt (Nat.lt_succ_self _) z
          · exact Nat.ne_of_gt lt (List.mem_singleton.mp z)
        have ne : l ≠ s.heap.objs.size + 1 := Nat.ne_of_lt (Nat.lt_succ_of_lt lt)
        have free : ∀ b, s.heap.objs.size ≤ b → s.heap.get? b = none := fun b hb => by
          cases q : s.heap.get? b with
          | none => rfl
          | some o => exact absurd (Heap.lt_size q) (Nat.not_lt.mpr hb)
        have g2 : ((s.heap.push (fresh0 w)).push { cls := .type "list_iterator", data := .fields #[.ref l, .int 0 0] }).get? (s.heap.objs.size + 1) = some { cls := .type "list_iterator", data := .fields #[.ref l, .int 0 0] } := by
          have e := Heap.get?_push_size (s.heap.push (fresh0 w)) (o := { cls := .type "list_iterator", data := .fields #[.ref l, .int 0 0] }) rfl
          rwa [Heap.size_push] at e
        refine set_update_ints ((Walks.list (by simp [hh]) _ l ne items).toS) s.heap.objs.size nS ns isz (by unfold scanBound; omega) (fun i v hv => ?_) (items.size - 0) 0 _ rfl (Nat.zero_le _)
          ⟨⟨_, g2, rfl, rfl⟩, il.push _⟩ ⟨0, Nat.le_refl 0, setR_new_at (Heap.get?_push_of_some _ b1)⟩ fun s' c hm hc hS => ?_
        · have lt' : i < ns.length := by rw [← isz]; exact (Array.getElem?_eq_some_iff.mp hv).1
          obtain ⟨t, e⟩ := PyProof.Rows.IntsAre.int_at hit i v (by rw [Array.getElem?_toList]; exact hv)
          refine ⟨ns[i], t, List.getElem?_eq_getElem lt', ?_⟩
          rw [e, List.getD_eq_getElem?_getD, List.getElem?_eq_getElem lt'] <;> rfl
        · obtain ⟨h', g', d', tk', os'⟩ := s'
          obtain rfl : g' = s.gens := hm.gens
          obtain rfl : d' = s.drawn := hm.drawn
          obtain rfl : os' = s.os := hm.os
          show wpAny _ _ _ _ _ _
          refine wpAny_pure ?_
          show wpAny _ _ (ret Value.none) _ _ _
          rw [isz] at hc
          refine wpAny_pure ⟨rfl, h', tk', rfl, c, hS, hc, fun b o e => ?_⟩
          have lb : b < s.heap.objs.size := Heap.lt_size e
          refine hm.heap b o (fun z => ?_) (Heap.get?_push_of_some _ (Heap.get?_push_of_some _ e))
          simp only [List.mem_cons, List.not_mem_nil, or_false] at z
          rcases z with z | z
          · exact Nat.ne_of_lt lb z
          · exact Nat.ne_of_lt (Nat.lt_succ_of_lt lb) z
      · cases r with
        | error e => exact hr
        | ok fl =>
          cases fl with
          | ret r =>
            obtain ⟨rfl, h', tk, rfl, o⟩ := hr
            repeat (any_goals (first | assumption | wp_step))
            exact h _ _ o
          | _ => exact hr.elim
    | _ => exact hr.elim
end
section
variable {X : Cx}
def rSetI (K : PySem.W.Frag) (w : World) : List V → Hp → VK → Prop := fun xs H Q => ∃ (l : Addr) (ns : List Int), xs = [.ref l] ∧ SqL K H l (ns.map V.int) ∧ ns.length < 64 ∧ ∀ p n, H p = none → n ≤ ns.length → Q (.ref p) (upd H p (SetO w p (fun j => decide (j ∈ ns)) n))
theorem cr_setI (hc : X.calm = true) : CallR X (.type "set") (rSetI X.K X.w) := by
  intro pins s σ H xs us Q I r h
  obtain ⟨l, ns, rfl, hq, few, q⟩ := h
  rw [Vals.ref1 r]
  obtain ⟨its, rv, pl, hz⟩ := I.list hq
  refine ints_set ns (I.ok.hd hc) pl.isList (by simpa using ints_of_vals rv) (by omega) fun h' tk ⟨n, R, hn, keep⟩ => ?_
  exact ⟨.ref _, upd H s.heap.objs.size (SetO X.w s.heap.objs.size (fun j => decide (j ∈ ns)) n), I.laid (t' := tk) keep (Nat.le_refl _) (setO_new R), rfl, q _ n (I.hok.fresh (Nat.le_refl _)) hn⟩
/-- ints within a list are no more than it has -/
theorem ints_within : ∀ {ys T : List Int}, ys.Nodup → (∀ k ∈ ys, k ∈ T) → ys.length ≤ T.length
  | [], _, _, _ => Nat.zero_le _
  | y :: r, T, nd, h => by
    obtain ⟨n1, n2⟩ := List.nodup_cons.mp nd
    have my := h y List.mem_cons_self
    have ih := ints_within (T := T.erase y) n2 fun k m => (List.mem_erase_of_ne (fun (e : k = y) => n1 (by rw [← e]; exact m))).mpr (h k (List.mem_cons_of_mem _ m))
    have := List.length_erase_of_mem my
    have pos : 0 < T.length := List.length_pos_of_mem my
    rw [List.length_cons]
    omega
/-- a long list, few different ints -/
def rSetJ (K : PySem.W.Frag) (w : World) : List V → Hp → VK → Prop := fun xs H Q => ∃ (l : Addr) (ns : List Int), xs = [.ref l] ∧ SqL K H l (ns.map V.int) ∧ ns.length < 4000 ∧ ∀ p n, H p = none → (∀ T : List Int, (∀ k ∈ ns, k ∈ T) → n ≤ T.length) → Q (.ref p) (upd H p (SetO w p (fun j => decide (j ∈ ns)) n))
theorem cr_setJ (hc : X.calm = true) : CallR X (.type "set") (rSetJ X.K X.w) := by
  intro pins s σ H xs us Q I r h
  obtain ⟨l, ns, rfl, hq, few, q⟩ := h
  rw [Vals.ref1 r]
  obtain ⟨its, rv, pl, hz⟩ := I.list hq
  refine ints_set ns (I.ok.hd hc) pl.isList (by simpa using ints_of_vals rv) few fun h' tk ⟨n, R, hn, keep⟩ => ?_
  refine ⟨.ref _, upd H s.heap.objs.size (SetO X.w s.heap.objs.size (fun j => decide (j ∈ ns)) n), I.laid (t' := tk) keep (Nat.le_refl _) (setO_new R), rfl, q _ n (I.hok.fresh (Nat.le_refl _)) fun T hT => ?_⟩
  obtain ⟨o, es, ep, t, ho, _, _, _, nd, ks, _, _, ez, _⟩ := R
  rw [← ez, ← Array.length_toList, ← List.length_map (f := keyOf)]
  exact ints_within nd fun k m => hT k (of_decide_eq_true ((ks k).mpr m))
end
/-- ints that rise are told by what is among them -/
theorem rise_uniq : ∀ {l m : List Int}, l.Pairwise (· < ·) → m.Pairwise (· < ·) → (∀ k, k ∈ l ↔ k ∈ m) → l = m
  | [], [], _, _, _ => rfl
  | [], b :: m, _, _, h => absurd ((h b).mpr List.mem_cons_self) List.not_mem_nil
  | a :: l, [], _, _, h => absurd ((h a).mp List.mem_cons_self) List.not_mem_nil
  | a :: l, b :: m, p, q, h => by
    have p' := List.pairwise_cons.mp p
    have q' := List.pairwise_cons.mp q
    have e : a = b := by
      rcases List.mem_cons.mp ((h a).mp List.mem_cons_self) with e | e
      · exact e
      · rcases List.mem_cons.mp ((h b).mpr List.mem_cons_self) with f | f
        · exact f.symm
        · have h1 := q'.1 a e
          have h2 := p'.1 b f
          omega
    subst e
    rw [rise_uniq p'.2 q'.2 fun k => ⟨fun m1 => ?_, fun m1 => ?_⟩]
    · rcases List.mem_cons.mp ((h k).mp (List.mem_cons_of_mem _ m1)) with f | f
      · have := p'.1 k m1
        omega
      · exact f
    · rcases List.mem_cons.mp ((h k).mpr (List.mem_cons_of_mem _ m1)) with f | f
      · have := q'.1 k m1
        omega
      · exact f
end Sr

set_option Elab.async false
set_option linter.all false
set_option maxRecDepth 100000
set_option maxHeartbeats 4000000
namespace K34
open PySem PySem.Spec PyProof.Rows L2 Sr LamX
/-! ### all that can be paid, the greatest -/
theorem subs_nodup {N : List Nat} (h : N.Nodup) : (subsF N).Nodup := by
  revert h
  refine snoc_ind (P := fun N => N.Nodup → (subsF N).Nodup) (fun _ => by simp [subsF]) (fun M k ih h => ?_) N
  rw [List.nodup_append] at h
  obtain ⟨h1, h2, h3⟩ := h
  rw [subs_snoc, List.nodup_append]
  refine ⟨ih h1, ?_, fun a ha b hb e => ?_⟩
  · unfold List.Nodup
    rw [List.pairwise_map]
    exact (ih h1).imp fun n e => n (List.append_cancel_right e)
  · obtain ⟨S, mS, rfl⟩ := List.mem_map.mp hb
    have := ((subs_mem _ _).mp ha).subset (show k ∈ a by rw [e]; simp)
    exact h3 k this k (by simp) rfl
theorem rg_nV (n : Nat) : rgV 0 (n : Int) = nV (List.range n) := by
  unfold rgV nV
  rw [show ((n : Int) - 0).toNat = n by omega]
  refine List.map_congr_left fun i _ => ?_
  rw [Int.zero_add]
theorem HldR.ext {H H' : Hp} (e : ExtN H H') {kv : List (Key × V)} {hs : Hs} (h : HldR H kv hs) : HldR H' kv hs := L2.Paired.mapP h fun _ _ ⟨x, d, kr, a, b, c⟩ => ⟨x, d, kr, a, e _ _ b (fun _ z => by cases z), c⟩
theorem ItL.ext {H H' : Hp} (e : ExtN H H') {l : Addr} {its : Its} (h : ItL H l its) : ItL H' l its := by
  obtain ⟨us, a, b⟩ := h
  exact ⟨us, e _ _ a (fun _ z => by cases z), b.ext e⟩
theorem Tabs.butL {T : List (Addr × Str)} {H H' : Hp} {f : Addr} {xs : List V} (t : Tabs T H) (hf : H f = some (.lst xs)) (s : ∀ b o, b ≠ f → H b = some o → H' b = some o) : Tabs T H' := fun p hp => by
  obtain ⟨ps, h1, h2, h3⟩ := t p hp
  refine ⟨ps, s _ _ (fun z => by rw [z, hf] at h1; cases h1) h1, h2, fun pos cv hc => ?_⟩
  obtain ⟨c, e1, e2⟩ := h3 pos cv hc
  exact ⟨c, e1, s _ _ (fun z => by rw [z, hf] at e2; cases e2) e2⟩
theorem feas_nil {hs : Hs} {its : Its} (g : goodH hs) (gi : goodIts its) : feas hs its [] := fun s => by
  have e : (qN its s).filter (fun k => decide (k ∈ ([] : List Nat))) = [] := List.filter_eq_nil_iff.mpr fun k _ => by simp
  rw [e]
  refine ⟨rfl, ?_⟩
  show (0 : Int) ≤ amt hs s.1 s.2 + tsum its s []
  have h1 := good_amt g s.1 s.2
  show (0 : Int) ≤ amt hs s.1 s.2 + 0
  omega
theorem flat_len : ∀ {l : List (List Nat)}, (∀ S ∈ l, S.length ≤ 6) → l.flatten.length ≤ 6 * l.length
  | [], _ => Nat.le_refl _
  | S :: r, h => by
    have h1 := h S List.mem_cons_self
    have h2 := flat_len fun S m => h S (List.mem_cons_of_mem _ m)
    rw [List.flatten_cons, List.length_append, List.length_cons]
    omega
def spAllC (P1 P2 : Addr) : Sp := fun vs H Q _ => ∃ (c l : Addr) (kv : List (Key × V)) (hs : Hs) (its : Its), vs = [.ref c, .ref l] ∧ H c = some (.dK kv) ∧ HldR H kv hs ∧ goodH hs ∧ ItL H l its ∧ goodIts its ∧ its.length ≤ 6 ∧ Tabs (TS0 P1 P2) H ∧
  ∀ H' p us rows, ExtN H H' → Tabs (TS0 P1 P2) H' → H' p = some (.lst us) → Paired (RowT H') us rows → (∀ S, S ∈ rows ↔ S.Sublist (List.range its.length) ∧ feas hs its S) → rows.length ≤ 64 → rows.Nodup → Q (.ref p) H'
section
variable {P : Program} {w : World} {K : PySem.W.Frag} {mg : Str → Option Value} {base : Heap}
abbrev s__law_all_can : Stmt := top 49
theorem sc__law_all_can : FnScope ["holdings", "items", "row"] ["holdings", "items"] (defScope s__law_all_can) := ⟨rfl, rfl, rfl, by decide +kernel, rfl, by decide +kernel, by decide +kernel⟩
theorem c__law_all_can {P1 P2 : Addr} (T : Txt K mg) (D : Dfn K mg "_law_all_can" s__law_all_can) (C_law_sets : Cal P w K mg base 5 "_law_sets" ["numbers"] (spSets P1 P2)) (C_law_can : Cal P w K mg base 3 "_law_can" ["holdings", "items", "numbers"] (spCan K)) : Cal P w K mg base 6 "_law_all_can" ["holdings", "items"] (spAllC P1 P2) := by
  refine D.cal sc__law_all_can (fun _ _ _ _ _ _ us hl => match us, hl with | [_, _], _ => rfl) (fun vs H Q E h => ?_) fun cdv A outer s H vs Q E hr h => ?_
  · obtain ⟨c, l, kv, hs, its, rfl, _⟩ := h
    rfl
  obtain ⟨c, l, kv, hs, its, rfl, hc, hh, g, itl, gi, li, tab, q⟩ := h
  refine ⟨_, (pss_one (ps_ret (pe_lc (own := [("row", 2)]) (g := gName 2) rfl sc__law_all_can.nd (pi_list (pe_cal C_law_sets hr (by first | decide | omega) (by rfl) (pa_cons (pe_listRg rfl (by rfl) T.list (prg_1 (by rfl) T.range (pe_callB (id := "len") call_len_seq (by rfl) T.len (by decide +kernel) (pa_cons (pv 1) pa_nil)))) pa_nil))) (blkOk_by (N := ["holdings", "items", "row"]) (sc := defScope s__law_all_can) (by decide +kernel)) (fun _ _ _ _ _ => (pg_name (i := 2) sc__law_all_can.nd rfl (by first | exact Or.inl rfl | exact Or.inr rfl))) (fun _ _ _ _ _ => (pts_one (pt_val (pe_cal C_law_can hr (by first | decide | omega) (by rfl) (pa_cons (pv 0) (pa_cons (pv 1) (pa_cons (pv 2) pa_nil))))))) (fun _ _ _ _ _ => (pv 2))))), ?_⟩
  obtain ⟨us, hl, isu⟩ := id itl
  have lus : us.length = its.length := by rw [isu.len, List.length_map]
  have lnv : ∀ T : List Nat, (nV T).length = T.length := fun T => by unfold nV; rw [List.length_map]
  have er : rgV 0 (us.length : Int) = nV (List.range its.length) := by rw [lus, rg_nV]
  refine ⟨_, rfl, l, us, rfl, .inl (SqL.of hl), _, rfl, RgOk.of_le (by omega) (by omega) (by omega) (by omega), fun r hr0 => ?_⟩
  rw [er]
  have s1 : Same H (upd H r (.lst (nV (List.range its.length)))) := Same.up hr0
  have h1 : (upd H r (.lst (nV (List.range its.length)))) r = some (.lst (nV (List.range its.length))) := upd_same
  generalize upd H r _ = H1 at s1 h1 ⊢
  refine ⟨r, List.range its.length, rfl, h1, by rw [List.length_range]; exact li, tab.ext s1, fun H2 p vs2 rows2 e2 t2 hp2 pr2 pm => ?_⟩
  have lr : rows2.length ≤ 64 := by
    rw [pm.length_eq, subs_len, List.length_range]
    have : 2 ^ its.length ≤ 2 ^ 6 := Nat.pow_le_pow_right (by decide) li
    exact this
  have e12 : ExtN H H2 := (ExtN.of s1).trans e2
  have hc2 := e12 _ _ hc (fun _ z => by cases z)
  have hh2 := hh.ext e12
  have it2 := itl.ext e12
  have sub : ∀ S ∈ rows2, S.Sublist (List.range its.length) := fun S m => (subs_mem _ _).mp (pm.mem_iff.mp m)
  refine ⟨p, rfl, ⟨_, SqL.of hp2⟩, fun B hB => lc_gen walk_list at_any rows2 (fun S => feasB hs its S) (Paired.length pr2).symm (sz (m := 64) (by rw [Paired.length pr2]; exact lr)) hB (fun H' s' => SqL.of (s' _ _ hp2)) (Rel := fun H S v => RowT H v S) (fun H1 H2 g y s ⟨t, e1, e2⟩ => ⟨t, e1, s _ _ e2⟩) (fun H1 g y c c' hc ⟨t, e1, e2⟩ => ⟨t, e1, by rw [upd_ne fun z => by rw [z, hc] at e2; cases e2]; exact e2⟩) (fun j u S H3 A Bf lt hu hS s3 kA kB => ?_) (fun H3 acc s3 h3 pr3 => ?_)⟩
  · obtain ⟨t, rfl, ht⟩ := Paired.at2 (F := RowT H2) pr2 hu hS
    have mS := List.mem_of_getElem? hS
    have lS := (sub S mS).length_le
    rw [List.length_range] at lS
    refine ⟨rfl, ?_⟩
    refine ⟨_, rfl, _, rfl, _, rfl, c, l, t, kv, hs, its, S, rfl, s3 _ _ hc2, hh2.mono s3, g, it2.mono s3, gi, ⟨_, .inr rfl, s3 _ _ ht⟩, fun k m => List.mem_range.mp ((sub S mS).subset m), by omega, fun H4 s4 => ⟨_, rfl, ?_⟩⟩
    cases e : feasB hs its S with
    | true => exact iteT ⟨_, rfl, kA e _ _ s4 ⟨t, rfl, s4 _ _ (s3 _ _ ht)⟩⟩
    | false => exact iteF (kB e _ s4)
  · refine q H3 B acc (rows2.filter fun S => feasB hs its S) (e12.trans (ExtN.of s3)) (t2.ext s3) h3 pr3 (fun S => ?_) (Nat.le_trans (List.length_filter_le _ _) lr) ((pm.nodup_iff.mpr (subs_nodup List.nodup_range)).filter _)
    rw [List.mem_filter, pm.mem_iff, subs_mem, feasB_iff]
abbrev s__law_greatest : Stmt := top 50
theorem sc__law_greatest : FnScope ["holdings", "items", "found", "row"] ["holdings", "items"] (defScope s__law_greatest) := ⟨rfl, rfl, rfl, by decide +kernel, rfl, by decide +kernel, by decide +kernel⟩
def great (hs : Hs) (its : Its) (k : Nat) : Prop := ∃ S : List Nat, S.Sublist (List.range its.length) ∧ feas hs its S ∧ k ∈ S
def spGreat (P1 P2 : Addr) : Sp := fun vs H Q _ => ∃ (c l : Addr) (kv : List (Key × V)) (hs : Hs) (its : Its), vs = [.ref c, .ref l] ∧ H c = some (.dK kv) ∧ HldR H kv hs ∧ goodH hs ∧ ItL H l its ∧ goodIts its ∧ its.length ≤ 6 ∧ Tabs (TS0 P1 P2) H ∧
  ∀ H' p G, ExtN H H' → (∀ o, H p = some o → ∃ ps, o = .tbl ps) → Tabs (TS0 P1 P2) H' → H' p = some (.lst (nV G)) → (∀ k, k ∈ G ↔ great hs its k) → G.length ≤ 6 → G.Pairwise (· < ·) → Q (.ref p) H'
theorem c__law_greatest {P1 P2 : Addr} (T : Txt K mg) (D : Dfn K mg "_law_greatest" s__law_greatest) (C_law_all_can : Cal P w K mg base 6 "_law_all_can" ["holdings", "items"] (spAllC P1 P2)) : Cal P w K mg base 7 "_law_greatest" ["holdings", "items"] (spGreat P1 P2) := by
  refine D.cal sc__law_greatest (fun _ _ _ _ _ _ us hl => match us, hl with | [_, _], _ => rfl) (fun vs H Q E h => ?_) fun cdv A outer s H vs Q E hr h => ?_
  · obtain ⟨c, l, kv, hs, its, rfl, _⟩ := h
    rfl
  obtain ⟨c, l, kv, hs, its, rfl, hc, hh, g, itl, gi, li, tab, q⟩ := h
  refine ⟨_, (pss_cons (ps_set (i := 2) sc__law_greatest.nd rfl (by first | exact Or.inl rfl | exact Or.inr rfl) (pe_lst pa_nil))
      (pss_cons (ps_for PassesOwn.never rfl (pi_list (pe_cal C_law_all_can hr (by first | decide | omega) (by rfl) (pa_cons (pv 0) (pa_cons (pv 1) pa_nil)))) (pg_name (i := 3) sc__law_greatest.nd rfl (by first | exact Or.inl rfl | exact Or.inr rfl))
      (pss_one (ps_expr (pe_bm PySem.F.plainAttrs_list PySem.F.slot_list_extend PySem.F.type_list_extend mt_extend (pv 2) (pa_cons (pe_callTy (T := "list") call_list_of (by rfl) T.list (by decide +kernel) (pa_cons (pv 3) pa_nil)) pa_nil)))))
      (pss_one (ps_ret (pe_callB (id := "sorted") (cr_sortedSet rfl) (by rfl) T.sorted (by decide +kernel) (pa_cons (pe_callTy (T := "set") (cr_setJ rfl) (by rfl) T.set (by decide +kernel) (pa_cons (pv 2) pa_nil)) pa_nil)))))), ?_⟩
  have lnv : ∀ T : List Nat, (nV T).length = T.length := fun T => by unfold nV; rw [List.length_map]
  refine ⟨lineN (n := 0), fun f hf => ?_⟩
  have s1 : Same H (upd H f (.lst [])) := Same.up hf
  have hf1 : (upd H f (.lst [])) f = some (.lst []) := upd_same
  generalize upd H f (.lst []) = H1 at s1 hf1 ⊢
  try dsimp only
  refine ⟨_, rfl, _, rfl, c, l, kv, hs, its, rfl, s1 _ _ hc, hh.mono s1, g, itl.mono s1, gi, li, tab.ext s1, fun H2 p us rows e2 t2 hp2 pr mr lr _ => ?_⟩
  have e12 : ExtN H H2 := (ExtN.of s1).trans e2
  have hf2 := e2 _ _ hf1 (fun _ z => by cases z)
  have lS : ∀ S ∈ rows, S.length ≤ 6 := fun S m => by
    have := ((mr S).mp m).1.length_le
    rw [List.length_range] at this
    omega
  have lus := Paired.length pr
  have H2f : ∀ {H' : Hp} {xs : List V}, (∀ b o, b ≠ f → H2 b = some o → H' b = some o) → H2 p = some (.lst xs) → p ≠ f → H' p = some (.lst xs) := fun k e n => k _ _ n e
  have ntup : ∀ {H' : Hp} {b : Addr} {xs : List V}, (∀ b o, b ≠ f → H2 b = some o → H' b = some o) → H2 b = some (.tup xs) → H' b = some (.tup xs) := fun k e => k _ _ (fun z => by rw [z, hf2] at e; cases e) e
  by_cases npf : p = f
  · rw [npf, hf2] at hp2
    have eu : us = [] := by cases hp2; rfl
    rw [eu] at lus
    have er : rows = [] := List.length_eq_zero_iff.mp lus.symm
    have := (mr []).mpr ⟨List.nil_sublist _, feas_nil g gi⟩
    rw [er] at this
    cases this
  refine ⟨p, rfl, ⟨_, SqL.of hp2⟩, for_it (walk_list (xs := us)) (fun i σ H' => (∃ v3, σ = [some (.ref c), some (.ref l), some (.ref f), v3]) ∧ (∀ b o, b ≠ f → H2 b = some o → H' b = some o) ∧ H' f = some (.lst (nV (rows.take i).flatten))) ⟨⟨_, rfl⟩, fun _ _ _ e => e, hf2⟩ (fun i σ H' _ pp => SqL.of (H2f pp.2.1 hp2 npf)) ?_ ?_⟩
  · rintro i u σ H3 H4 hi ⟨⟨v3, rfl⟩, k3, h3⟩ ⟨rfl, hu⟩
    have hS : rows[i]? = some (rows[i]'(by omega)) := List.getElem?_eq_getElem _
    generalize rows[i]'(by omega) = S at hS
    obtain ⟨t, rfl, ht⟩ := Paired.at2 (F := RowT H2) pr hu hS
    have ht3 := ntup k3 ht
    have lF : (rows.take i).flatten.length ≤ 6 * i := by
      have h1 := flat_len (l := rows.take i) fun S m => lS S (List.mem_of_mem_take m)
      have h2 := List.length_take_le i rows
      omega
    have lSi := lS S (List.mem_of_getElem? hS)
    refine ⟨_, rfl, .inl ⟨rfl, _, SqL.of h3⟩, _, rfl, t, nV S, rfl, .inr (SqT.of ht3), fun q0 hq => ?_⟩
    have s4 := Same.up (o := .lst (nV S)) hq
    refine ⟨f, q0, _, _, rfl, rfl, s4 _ _ h3, upd_same, Nat.le_of_lt (sz (m := 500) (n := (nV (rows.take i).flatten).length + (nV S).length) (by rw [lnv, lnv]; omega)), ⟨_, rfl⟩, fun b o n e => by rw [upd_ne n]; exact s4 _ _ (k3 b o n e), ?_⟩
    rw [upd_same, List.take_add_one, hS, List.flatten_append]
    show some (HO.lst (nV _ ++ nV S)) = some (HO.lst (nV (_ ++ [S].flatten)))
    rw [List.flatten_singleton]
    unfold nV
    rw [List.map_append]
  · rintro σ H3 ⟨⟨v3, rfl⟩, k3, h3⟩
    rw [lus, List.take_length] at h3
    have ek : nV rows.flatten = (rows.flatten.map fun (k : Nat) => (k : Int)).map V.int := by unfold nV; rw [List.map_map]; rfl
    refine ⟨_, rfl, f, rows.flatten.map fun (k : Nat) => (k : Int), rfl, SqL.of (by rw [← ek]; exact h3), ?_, fun p2 n hp2' hn => ?_⟩
    · rw [List.length_map]
      have := flat_len lS
      omega
    have ok_r : ∀ k ∈ rows.flatten, k < its.length := fun k m => by
      obtain ⟨S, mS, mk⟩ := List.mem_flatten.mp m
      exact List.mem_range.mp (((mr S).mp mS).1.subset mk)
    have n6 : n ≤ its.length := by
      have := hn ((List.range its.length).map fun (k : Nat) => (k : Int)) fun k m => by
        obtain ⟨k', m', rfl⟩ := List.mem_map.mp m
        exact List.mem_map.mpr ⟨k', List.mem_range.mpr (ok_r k' m'), rfl⟩
      rw [List.length_map, List.length_range] at this
      exact this
    refine ⟨p2, _, n, rfl, upd_same, by omega, fun ns p3 pw mn ln hp3 => ?_⟩
    have mn' : ∀ k : Int, k ∈ ns ↔ ∃ k' : Nat, k' ∈ rows.flatten ∧ (k' : Int) = k := fun k => by
      rw [mn]
      show decide (k ∈ rows.flatten.map fun (k : Nat) => (k : Int)) = true ↔ _
      rw [decide_eq_true_iff, List.mem_map]
    have eG : ns = (ns.map Int.toNat).map fun (k : Nat) => (k : Int) := by
      rw [List.map_map]
      refine (List.map_id _).symm.trans (List.map_congr_left fun k m => ?_)
      obtain ⟨k', _, rfl⟩ := (mn' k).mp m
      show ((k' : Nat) : Int) = ((((k' : Nat) : Int).toNat : Nat) : Int)
      omega
    have s5 : ∀ b o, H3 b = some o → (upd (upd H3 p2 (SetO w p2 (fun j => decide (j ∈ rows.flatten.map fun (k : Nat) => (k : Int))) n)) p3 (.lst (ns.map V.int))) b = some o := fun b o e => (Same.up hp3) _ _ (Same.up hp2' _ _ e)
    refine q _ p3 (ns.map Int.toNat) (fun b o e nt => s5 _ _ (k3 _ _ (fun z => by rw [z, hf] at e; cases e) (e12 _ _ e nt))) (fun o e => Classical.byContradiction fun nt => by
      have h := Same.up (o := SetO w p2 (fun j => decide (j ∈ rows.flatten.map fun (k : Nat) => (k : Int))) n) hp2' _ _ (k3 _ _ (fun z => by rw [z, hf] at e; cases e) (e12 _ _ e fun ps z => nt ⟨ps, z⟩))
      cases hp3.symm.trans h) ((Tabs.butL t2 hf2 k3).ext s5) ?_ (fun k => ?_) (by rw [List.length_map]; omega) ?_
    · rw [upd_same]
      congr 2
      conv => lhs; rw [eG]
      unfold nV
      rw [List.map_map]
      rfl
    · constructor
      · intro m
        obtain ⟨i, mi, rfl⟩ := List.mem_map.mp m
        obtain ⟨k', m', rfl⟩ := (mn' i).mp mi
        obtain ⟨S, mS, mk⟩ := List.mem_flatten.mp m'
        obtain ⟨h1, h2⟩ := (mr S).mp mS
        exact ⟨S, h1, h2, mk⟩
      · rintro ⟨S, h1, h2, mk⟩
        exact List.mem_map.mpr ⟨(k : Int), (mn' _).mpr ⟨k, List.mem_flatten.mpr ⟨S, (mr S).mpr ⟨h1, h2⟩, mk⟩, rfl⟩, by omega⟩
    · rw [List.pairwise_map]
      refine List.Pairwise.imp_of_mem (fun {a b} ma mb h => ?_) pw
      obtain ⟨a', _, rfl⟩ := (mn' a).mp ma
      obtain ⟨b', _, rfl⟩ := (mn' b).mp mb
      show ((a' : Nat) : Int).toNat < ((b' : Nat) : Int).toNat
      omega
end
end K34

set_option Elab.async false
set_option linter.all false
set_option maxRecDepth 100000
set_option maxHeartbeats 4000000
namespace K34
open PySem PySem.Spec PyProof.Rows L2 Sr
/-! ### sets that can be paid: what does not wait -/
theorem tsum_perm {its : Its} {S T : List Nat} (nS : S.Nodup) (nT : T.Nodup) (h : ∀ k, k ∈ S ↔ k ∈ T) (s : Slot) : tsum its s S = tsum its s T := perm_sum ((List.perm_ext_iff_of_nodup nS nT).mpr h)
theorem feas_perm {hs : Hs} {its : Its} {S T : List Nat} (nS : S.Nodup) (nT : T.Nodup) (h : ∀ k, k ∈ S ↔ k ∈ T) : feas hs its S ↔ feas hs its T := by
  have e : (fun k => decide (k ∈ S)) = fun k => decide (k ∈ T) := funext fun k => by
    by_cases m : k ∈ S
    · rw [decide_eq_true m, decide_eq_true ((h k).mp m)]
    · rw [decide_eq_false m, decide_eq_false fun z => m ((h k).mpr z)]
  have t : ∀ s, had hs its S s = had hs its T s := fun s => by
    unfold had
    rw [tsum_perm nS nT h]
  unfold feas
  rw [e]
  constructor
  · intro f s
    rw [← t s]
    exact f s
  · intro f s
    rw [t s]
    exact f s
theorem feas_why {hs : Hs} {its : Its} (g : ∀ y t, 0 ≤ amt hs y t) (p : posL its) {A S : List Nat} (nS : S.Nodup) (lS : ∀ k ∈ S, k < its.length) (hA : ∀ k, k < its.length → (k ∈ A ↔ k ∉ S)) : feas hs its S ↔ ∀ n ∈ S, ∀ y, ¬ okWhy hs its A n y := by
  have hr : ∀ k, k ∈ rest its A ↔ k ∈ S := fun k => by
    rw [rest_mem]
    constructor
    · rintro ⟨l, n⟩
      exact Classical.byContradiction fun z => n ((hA k l).mpr z)
    · intro m
      exact ⟨lS k m, fun z => (hA k (lS k m)).mp z m⟩
  constructor
  · intro f n m y o
    have ap : ∀ k ∈ A, k < its.length → k ∉ S := fun k mA l => (hA k l).mp mA
    cases y with
    | behind b =>
      obtain ⟨a1, a2, s, a3, a4⟩ := o
      have := take_below (f s).1 (qN_rise its s) a4 a3 a2 (decide_eq_true m)
      exact ap b a1 (qN_lt a4) (of_decide_eq_true this)
    | short s =>
      obtain ⟨a1, a2⟩ := o
      obtain ⟨f1, f2⟩ := f s
      have c1 : cum its s n ≤ gsum its s ((qN its s).filter fun k => decide (k ∈ S)) := by
        refine sub_set (giv_nn p · s) (((qN_rise its s).imp (fun h => Nat.ne_of_lt h)).filter _) fun k mk => ?_
        obtain ⟨m1, m2⟩ := List.mem_filter.mp mk
        refine List.mem_filter.mpr ⟨m1, ?_⟩
        rcases Nat.lt_or_eq_of_le (of_decide_eq_true m2) with c | c
        · exact take_below f1 (qN_rise its s) m1 a1 c (decide_eq_true m)
        · rw [c]
          exact decide_eq_true m
      have c2 : had hs its S s = had hs its (rest its A) s := by
        unfold had
        rw [tsum_perm nS (rest_nodup its A) fun k => (hr k).symm]
      omega
  · intro no
    refine (feas_perm (rest_nodup its A) nS hr).mp (feas_rest g p fun n l nA => no n ?_)
    exact Classical.byContradiction fun z => nA ((hA n l).mpr z)
end K34

set_option Elab.async false
set_option linter.all false
set_option maxRecDepth 100000
set_option maxHeartbeats 4000000
namespace Sr
open PySem PySem.Spec PyProof.Rows L2
/-! ### set(xs) of a tuple of ints; how many there are -/
section
variable {P : Program} {w : World} {A : Around} {E : Value → Shared → Prop} {s : Shared}
set_option maxHeartbeats 8000000 in
theorem ints_setT {l : Addr} {items : Array Value} (ns : List Int) {Q : Value → Shared → Prop} (hh : A.handled = none) (hl : s.heap.IsTuple l items) (hit : PyProof.Rows.IntsAre items.toList ns) (few : ns.length < 4000)
    (h : ∀ (h' : Heap) (tk : Nat), ISetOut w s ns h' → Q (.ref s.heap.objs.size) { s with heap := h', toks := tk }) :
    wpAny (model P w) A (call (.type "set") [.ref l]) Q E s := by
  have isz : items.size = ns.length := by
    have z := PyProof.Rows.IntsAre.length hit
    rwa [Array.length_toList] at z
  obtain ⟨ol, hol, hcl, nl, hdl⟩ := id hl
  have lt : l < s.heap.objs.size := Heap.lt_size hol
  obtain ⟨c, tl, hmro⟩ := PySem.F.called_set.mro
  have a1 := PySem.F.called_set.made
  have a2 := PySem.F.called_set.sub
  have a3 := PySem.F.called_set.notType
  have a4 := PySem.F.called_set.canCreate
  have a5 := PySem.F.typeCall_set_1 (.ref l)
  refine wpAny_call (codeAny_of_tree ?_)
  show wpAny _ _ (callAny (.type "set") _) _ _ _
  refine wpAny_pure ⟨Code.quiet_builtin _ (by decide +kernel), codeAny_builtin PySem.F.entry_type_call ?_⟩
  rw [Around.under_plain (weight_type_call_type "set" [.ref l] []) rfl]
  repeat (any_goals (first | assumption | wp_step))
  refine codeAny_mono (code_set_led1 (.ref l) (E := E) (Q₁ := fun obj t => obj = .ref s.heap.objs.size ∧ t = { s with heap := s.heap.push (fresh0 w) }) ⟨rfl, rfl⟩) fun r t hr => ?_
  cases r with
  | error e => exact hr
  | ok fl =>
    cases fl with
    | ret obj =>
      obtain ⟨rfl, rfl⟩ := hr
      have b1 : (s.heap.push (fresh0 w)).get? s.heap.objs.size = some (fresh0 w) := Heap.get?_push_size _ rfl
      have b2 : Shared.TypeIs { s with heap := s.heap.push (fresh0 w) } (.ref s.heap.objs.size) "set" := ⟨_, b1, rfl⟩
      have b3 := PySem.F.called_set.init.lookup
      have b4 := PySem.F.called_set.init.bind (.ref s.heap.objs.size)
      repeat (any_goals (first | assumption | wp_step))
      refine codeAny_mono (codeAny_call_builtin (R := wants (fun r t => r = .none ∧ ∃ h' tk, t = { s with heap := h', toks := tk } ∧ ISetOut w s ns h') E) PySem.F.called_set.init.plain PySem.F.entry_set_init (check_set_init_1 b2 ?_)) fun r t hr => ?_
      · have c1 : Shared.TypeIs { s with heap := s.heap.push (fresh0 w) } (.ref l) "tuple" := ⟨ol, Heap.get?_push_of_some _ hol, hcl⟩
        have e1 := PySem.F.sub_tuple_set
        have e2 := PySem.F.sub_tuple_frozenset
        have e3 : (Value.type "tuple" == Value.type "dict") = false := by decide
        have il : (s.heap.push (fresh0 w)).IsTuple l items := hl.push _
        unfold Builtin.«set.__init__» noKeywords Builtin.Frozenset.updateFrom
        generalize hPI : pyIter = PI
        wp_walk
        subst hPI
        refine wpAny_pyIter_tuple il ?_
        have z1 : (s.heap.push (fresh0 w)).objs.size = s.heap.objs.size + 1 := Heap.size_push ..
        rw [z1]
        refine wpAny_bind (wpAny_runValue ?_)
        have nS : s.heap.objs.size ∉ [s.heap.objs.size + 1, l] := fun z => by
          rcases List.mem_cons.mp z with z | z
          · exact Nat.ne_of_lt (Nat.lt_succ_self _) z
          · exact Nat.ne_of_gt lt (List.mem_singleton.mp z)
        have ne : l ≠ s.heap.objs.size + 1 := Nat.ne_of_lt (Nat.lt_succ_of_lt lt)
        have free : ∀ b, s.heap.objs.size ≤ b → s.heap.get? b = none := fun b hb => by
          cases q : s.heap.get? b with
          | none => rfl
          | some o => exact absurd (Heap.lt_size q) (Nat.not_lt.mpr hb)
        have g2 : ((s.heap.push (fresh0 w)).push { cls := .type "tuple_iterator", data := .fields #[.ref l, .int 0 0] }).get? (s.heap.objs.size + 1) = some { cls := .type "tuple_iterator", data := .fields #[.ref l, .int 0 0] } := by
          have e := Heap.get?_push_size (s.heap.push (fresh0 w)) (o := { cls := .type "tuple_iterator", data := .fields #[.ref l, .int 0 0] }) rfl
          rwa [Heap.size_push] at e
        refine set_update_ints ((Walks.tuple (by simp [hh]) _ l ne items).toS) s.heap.objs.size nS ns isz (by unfold scanBound; omega) (fun i v hv => ?_) (items.size - 0) 0 _ rfl (Nat.zero_le _)
          ⟨⟨_, g2, rfl, rfl⟩, il.push _⟩ ⟨0, Nat.le_refl 0, setR_new_at (Heap.get?_push_of_some _ b1)⟩ fun s' c hm hc hS => ?_
        · have lt' : i < ns.length := by rw [← isz]; exact (Array.getElem?_eq_some_iff.mp hv).1
          obtain ⟨t, e⟩ := PyProof.Rows.IntsAre.int_at hit i v (by rw [Array.getElem?_toList]; exact hv)
          refine ⟨ns[i], t, List.getElem?_eq_getElem lt', ?_⟩
          rw [e, List.getD_eq_getElem?_getD, List.getElem?_eq_getElem lt'] <;> rfl
        · obtain ⟨h', g', d', tk', os'⟩ := s'
          obtain rfl : g' = s.gens := hm.gens
          obtain rfl : d' = s.drawn := hm.drawn
          obtain rfl : os' = s.os := hm.os
          show wpAny _ _ _ _ _ _
          refine wpAny_pure ?_
          show wpAny _ _ (ret Value.none) _ _ _
          rw [isz] at hc
          refine wpAny_pure ⟨rfl, h', tk', rfl, c, hS, hc, fun b o e => ?_⟩
          have lb : b < s.heap.objs.size := Heap.lt_size e
          refine hm.heap b o (fun z => ?_) (Heap.get?_push_of_some _ (Heap.get?_push_of_some _ e))
          simp only [List.mem_cons, List.not_mem_nil, or_false] at z
          rcases z with z | z
          · exact Nat.ne_of_lt lb z
          · exact Nat.ne_of_lt (Nat.lt_succ_of_lt lb) z
      · cases r with
        | error e => exact hr
        | ok fl =>
          cases fl with
          | ret r =>
            obtain ⟨rfl, h', tk, rfl, o⟩ := hr
            repeat (any_goals (first | assumption | wp_step))
            exact h _ _ o
          | _ => exact hr.elim
    | _ => exact hr.elim
end
section
variable {X : Cx}
/-- ints in a list or a tuple; as many as differ -/
def rSetN (K : PySem.W.Frag) (w : World) : List V → Hp → VK → Prop := fun xs H Q => ∃ (l : Addr) (ns : List Int), xs = [.ref l] ∧ (SqL K H l (ns.map V.int) ∨ SqT K H l (ns.map V.int)) ∧ ns.length < 64 ∧ ∀ p n, H p = none → n ≤ ns.length → (n = ns.length ↔ ns.Nodup) → Q (.ref p) (upd H p (SetO w p (fun j => decide (j ∈ ns)) n))
theorem dup_less : ∀ {ns : List Int}, ¬ ns.Nodup → ∃ T : List Int, T.length < ns.length ∧ ∀ k ∈ ns, k ∈ T
  | [], h => absurd List.nodup_nil h
  | a :: r, h => by
    by_cases m : a ∈ r
    · exact ⟨r, Nat.lt_succ_self _, fun k mk => by
        rcases List.mem_cons.mp mk with rfl | mk
        · exact m
        · exact mk⟩
    · obtain ⟨T, l, hT⟩ := dup_less (ns := r) fun n => h (List.nodup_cons.mpr ⟨m, n⟩)
      exact ⟨a :: T, Nat.succ_lt_succ l, fun k mk => by
        rcases List.mem_cons.mp mk with rfl | mk
        · exact List.mem_cons_self ..
        · exact List.mem_cons_of_mem _ (hT k mk)⟩
theorem count_of {ks ns : List Int} (nd : ks.Nodup) (h : ∀ k, k ∈ ks ↔ k ∈ ns) : ks.length = ns.length ↔ ns.Nodup := by
  constructor
  · intro e
    refine Classical.byContradiction fun n => ?_
    obtain ⟨T, l, hT⟩ := dup_less n
    have := ints_within nd fun k m => hT k ((h k).mp m)
    omega
  · intro n
    exact Nat.le_antisymm (ints_within nd fun k m => (h k).mp m) (ints_within n fun k m => (h k).mpr m)
theorem cr_setN (hc : X.calm = true) : CallR X (.type "set") (rSetN X.K X.w) := by
  intro pins s σ H xs us Q I r h
  obtain ⟨l, ns, rfl, hq, few, q⟩ := h
  rw [Vals.ref1 r]
  have fin : ∀ h' tk, ISetOut X.w s ns h' → ∃ v H', L2.Inv X pins σ H' { s with heap := h', toks := tk } ∧ RelV v (.ref s.heap.objs.size) ∧ Q v H' := fun h' tk ⟨n, R, hn, keep⟩ => by
    refine ⟨.ref _, upd H s.heap.objs.size (SetO X.w s.heap.objs.size (fun j => decide (j ∈ ns)) n), I.laid (t' := tk) keep (Nat.le_refl _) (setO_new R), rfl, q _ n (I.hok.fresh (Nat.le_refl _)) hn ?_⟩
    obtain ⟨o, es, ep, t, ho, _, _, _, nd, ks, _, _, ez, _⟩ := R
    rw [← ez, ← Array.length_toList, ← List.length_map (f := keyOf)]
    exact count_of nd fun k => ⟨fun m => of_decide_eq_true ((ks k).mpr m), fun m => (ks k).mp (decide_eq_true m)⟩
  rcases hq with hq | hq
  · obtain ⟨its, rv, pl, hz⟩ := I.list hq
    exact ints_set ns (I.ok.hd hc) pl.isList (by simpa using ints_of_vals rv) (by omega) fin
  · obtain ⟨its, rv, pl, hz⟩ := I.tuple hq
    exact ints_setT ns (I.ok.hd hc) (show s.heap.IsTuple l its.toArray from pl) (by simpa using ints_of_vals rv) (by omega) fin
/-- len of a set of ints -/
def rLenO (w : World) : List V → Hp → VK → Prop := fun xs H Q => ∃ (p : Addr) (S : Int → Bool) (n : Nat), xs = [.ref p] ∧ H p = some (SetO w p S n) ∧ n < 4000 ∧ Q (.int (n : Nat)) H
theorem cr_lenO : CallR X (.builtin "len") (rLenO X.w) := by
  intro pins s σ H xs us Q I r h
  obtain ⟨p, S, n, rfl, hp, hn, q⟩ := h
  rw [Vals.ref1 r]
  obtain ⟨o, es, ep, t, ho, hex, hd, _, _, _, _, hf, ez, _⟩ := (I.hok p _ hp).1
  exact call_len_set ho hex hd hf (by omega) ⟨.int n, H, I.tok _, ⟨_, by rw [ez]⟩, q⟩
end
end Sr

set_option Elab.async false
set_option linter.all false
set_option maxRecDepth 100000
set_option maxHeartbeats 4000000
namespace K34
open PySem PySem.Spec PyProof.Rows L2 Sr
/-! ### _is_feasible, is_feasible -/
def spIsF (K : PySem.W.Frag) : Sp := fun vs H Q _ => ∃ (y nn : Addr) (hs : Hs) (its : Its) (S : List Nat), vs = [.ref y, .ref nn] ∧ QueR K H H y hs its ∧ H nn = some (.lst (nV S)) ∧ S.Nodup ∧ (∀ k ∈ S, k < its.length) ∧ ∀ H', Same H H' → Q (.bl (feasB hs its S)) H'
section
variable {P : Program} {w : World} {K : PySem.W.Frag} {mg : Str → Option Value} {base : Heap}
abbrev s__is_feasible : Stmt := top 31
theorem sc__is_feasible : FnScope ["queues", "numbers", "waits", "number"] ["queues", "numbers"] (defScope s__is_feasible) := ⟨rfl, rfl, rfl, by decide +kernel, rfl, by decide +kernel, by decide +kernel⟩
theorem c__is_feasible (T : Txt K mg) (O : Wai K mg) (OQ : Que K mg) (OM : WaiM K) (QL : QueL K) (MkW0 : MkW P w K mg base) (D : Dfn K mg "_is_feasible" s__is_feasible) (ML : CalM P w K mg base CX0 1 (He.fAd K ("Queues", some "__len__")) ["self"] (spLen K)) (MW : CalM P w K mg base CX0 2 (He.fAd K ("Waits", some "why")) ["self", "number"] (spWhy K)) (MS : CalM P w K mg base CX0 1 (He.fAd K ("Waits", some "set_aside")) ["self", "number"] (spAside K)) :
    Cal P w K mg base 4 "_is_feasible" ["queues", "numbers"] (spIsF K) := by
  refine D.cal sc__is_feasible (fun _ _ _ _ _ _ us hl => match us, hl with | [_, _], _ => rfl) (fun vs H Q E h => ?_) fun cdv A outer s H vs Q E hr h => ?_
  · obtain ⟨y, nn, hs, its, S, rfl, _⟩ := h
    rfl
  obtain ⟨y, nn, hs, its, S, rfl, qr, hn, ndS, lS, q⟩ := h
  refine ⟨_, (pss_cons (ps_set (i := 2) sc__is_feasible.nd rfl (by first | exact Or.inl rfl | exact Or.inr rfl) (MkW.pe (K := K) (w := w) MkW0 rfl rfl hr (by decide) (by rfl) (pa_cons (pv 0) pa_nil)))
      (pss_cons (ps_for PassesOwn.never rfl (pi_range1 (by rfl) T.range (pa_cons (pe_callB (id := "len") (len_ ML hr (by decide) QL.len QL.lenF) (by rfl) T.len (by decide +kernel) (pa_cons (pv 0) pa_nil)) pa_nil)) (pg_name (i := 3) sc__is_feasible.nd rfl (by first | exact Or.inl rfl | exact Or.inr rfl))
      (pss_one (ps_if (pt_cmpR op_notIn_seq (pv 3) (pv 1) (by rfl)) (pss_one (ps_expr (mA_ (K := K) MS rfl hr (by decide) O.cl OM.set_aside (pv 2) (pa_cons (pv 3) pa_nil)))) pss_nil)))
      (pss_one (ps_ret (pe_callB (id := "all") (cr_all rfl) (by rfl) T.all (by decide +kernel) (pa_cons (pe_lc (own := [("number", 3)]) (g := gName 3) (tt := tYes) rfl sc__is_feasible.nd (pi_list (pv 1)) (blkOk_by (N := ["queues", "numbers", "waits", "number"]) (sc := defScope s__is_feasible) (by decide +kernel)) (fun _ _ _ _ _ => (pg_name (i := 3) sc__is_feasible.nd rfl (by first | exact Or.inl rfl | exact Or.inr rfl))) (fun _ _ _ _ _ => pts_nil) (fun _ _ _ _ _ => (pe_cmpR op_isN (mA_ (K := K) MW rfl hr (by decide) O.cl OM.why (pv 2) (pa_cons (pv 3) pa_nil)) pe_non (nomark _)))) pa_nil)))))), ?_⟩
  have gi : goodIts its := by obtain ⟨_, _, _, _, _, _, _, _, _, _, _, gi⟩ := id qr; exact gi
  have gh : goodH hs := by obtain ⟨_, _, _, _, _, _, _, _, _, _, gh, _⟩ := id qr; exact gh
  have li := gi.1
  refine ⟨_, rfl, ?_⟩
  delta tNil
  dsimp only
  refine ok_waits qr fun x H1 dI dN dT dA hx s1 nI nA ws wd => ?_
  obtain ⟨M, hM, eI, eA, sH, sW⟩ : ∃ M : Hp, Same M H1 ∧ M dI = none ∧ M dA = none ∧ Same H M ∧ Same (off [dI, dA] (newH H H1)) M := by
    refine ⟨off [dI, dA] H1, off_le, off_in (by simp), off_in (by simp), Same.into s1 fun c m => ?_, Same.off (new_same (H := H) (H' := H1))⟩
    rcases List.mem_cons.mp m with rfl | m
    · exact nI
    · rw [List.mem_singleton.mp m]; exact nA
  have qM := qr.mono sH
  have wM := ws.up sW eI eA
  have hnM := sH _ _ hn
  obtain ⟨dw, hxM⟩ := wM.at_
  have hyi : ∃ dy fs, M y = some (.ins (He.ga K "Queues") dy fs) := by obtain ⟨dy, _, _, _, _, h1, _⟩ := id qM; exact ⟨dy, _, h1⟩
  obtain ⟨dy, fs, hy⟩ := hyi
  have lS12 : S.length ≤ 12 := Nat.le_trans (nodup_lt ndS lS) li
  have lnv : (nV S).length = S.length := by unfold nV; rw [List.length_map]
  let As : Nat → List Nat := fun i => (List.range i).filter fun k => decide (k ∉ S)
  refine cut_if (fun σ H' => (∃ v3, σ = [some (.ref y), some (.ref nn), some (.ref x), v3]) ∧ Kp dI dA H1 H' ∧ WaiD H' dI dA hs its (As its.length)) ?_ fun rest => ?_
  rotate_left
  · refine ⟨_, rfl, y, dy, fs, rfl, hM _ _ hy, y, hs, its, rfl, qM.mono hM, its.length, rfl, by omega, _, rfl, by omega, by omega, ?_⟩
    refine for_range (fun i σ H' => (∃ v3, σ = [some (.ref y), some (.ref nn), some (.ref x), v3]) ∧ Kp dI dA H1 H' ∧ WaiD H' dI dA hs its (As i)) ⟨⟨_, rfl⟩, Kp.refl, wd⟩ ?_ ?_
    rotate_left
    · rintro σ H2 ⟨⟨v3, rfl⟩, k2, w2⟩
      exact rest _ _ ⟨⟨_, rfl⟩, k2, by simpa using w2⟩
    · rintro i σ H2 hi ⟨⟨v3, rfl⟩, k2, w2⟩
      have sM2 := k2.st hM eI eA
      have eAs : As (i + 1) = if i ∈ S then As i else As i ++ [i] := by
        show (List.range (i + 1)).filter _ = _
        rw [List.range_succ, List.filter_append]
        by_cases c : i ∈ S
        · rw [if_pos c, List.filter_cons_of_neg (by simp [c]), List.filter_nil, List.append_nil]
        · rw [if_neg c, List.filter_cons_of_pos (by simp [c]), List.filter_nil]
      rw [Int.zero_add]
      refine ⟨_, rfl, _, rfl, nn, nV S, rfl, .inl (SqL.of (sM2 _ _ hnM)), rfl, flat_nV S, _, rfl, ?_⟩
      rw [if_pos rfl, inV_nV]
      by_cases c : i ∈ S
      · rw [if_pos c] at eAs
        rw [decide_eq_true c]
        exact iteF ⟨⟨_, rfl⟩, k2, by rw [eAs]; exact w2⟩
      · rw [if_neg c] at eAs
        rw [decide_eq_false c]
        have nAi : i ∉ As i := fun m => by
          have := List.mem_range.mp (List.mem_filter.mp m).1
          omega
        refine iteT ⟨_, rfl, x, dw, _, rfl, sM2 _ _ hxM, rfl, _, rfl, M, x, dI, dN, dT, dA, hs, its, As i, i, rfl, sM2, wM, gi, w2, by omega, nAi, fun H3 k3 w3 => ?_⟩
        exact ⟨⟨_, rfl⟩, k2.trans k3, by rw [eAs]; exact w3⟩
  rintro σ H2 ⟨⟨v3, rfl⟩, k2, w2⟩
  have sM2 := k2.st hM eI eA
  try dsimp only
  have hA : ∀ k, k < its.length → (k ∈ As its.length ↔ k ∉ S) := fun k lk => by
    show k ∈ (List.range its.length).filter _ ↔ _
    rw [List.mem_filter, List.mem_range]
    exact ⟨fun h => of_decide_eq_true h.2, fun h => ⟨lk, decide_eq_true h⟩⟩
  have fw := feas_why (good_amt gh) (good_pos gi) ndS lS hA
  let noB : Nat → Bool := fun n => @decide (∀ y, ¬ okWhy hs its (As its.length) n y) (Classical.propDecidable _)
  have noT : ∀ n, noB n = true ↔ ∀ y, ¬ okWhy hs its (As its.length) n y := fun n => @decide_eq_true_iff _ (Classical.propDecidable _)
  refine ⟨_, rfl, nn, rfl, ⟨_, SqL.of (sM2 _ _ hnM)⟩, fun B hB => lc_f (walk_list (xs := nV S)) at_any S (fun n => V.bl (noB n)) lnv.symm (sz (m := 60) (by omega)) hB (fun H' s' => SqL.of (s' _ _ (sM2 _ _ hnM))) (fun j u n H3 A lt hu hk s3 kA => ?_) (fun H3 s3 h3 => ?_)⟩
  · obtain ⟨k', e1, rfl⟩ := nV_at hu
    rw [hk] at e1
    obtain rfl := Option.some.inj e1
    refine ⟨rfl, ?_⟩
    have s23 := sM2.trans s3
    refine ⟨_, rfl, x, dw, _, rfl, s23 _ _ hxM, rfl, _, rfl, M, x, dI, dN, dT, dA, hs, its, _, n, rfl, s23, wM, w2.same s3, li, fun H4 s4 no _ => ?_, fun H4 t y' s4 _ _ hf => ?_⟩
    · refine ⟨rfl, ?_⟩
      have := kA H4 s4
      rw [(noT n).mpr no] at this
      exact this
    · refine ⟨rfl, ?_⟩
      have := kA H4 s4
      have ff : noB n = false := Bool.eq_false_iff.mpr fun z => (noT n).mp z _ (whyF_some hf)
      rw [ff] at this
      exact this
  · refine ⟨B, S.map noB, rfl, SqL.of (by rw [h3, List.map_map]; rfl), ?_⟩
    have ea : (S.map noB).all id = feasB hs its S := by
      rw [Bool.eq_iff_iff, feasB_iff, fw, List.all_map, List.all_eq_true]
      exact ⟨fun h n m => (noT n).mp (h n m), fun h n m => (noT n).mpr (h n m)⟩
    rw [ea]
    exact q _ (fun b o e => (sM2.trans s3) _ _ (sH _ _ e))
end
end K34

set_option Elab.async false
set_option linter.all false
set_option maxRecDepth 100000
set_option maxHeartbeats 4000000
namespace K34
open PySem PySem.Spec PyProof.Rows L2 Sr
/-! ### is_feasible, _check_feasible -/
def numsOf (n : Nat) : List Dt → Option (List Nat)
  | [] => some []
  | d :: r => match numOf n d with
    | none => none
    | some k => (numsOf n r).map (k :: ·)
noncomputable def isFeasL (hs : Hs) (its : Its) (l : List Dt) : Bool := match numsOf its.length l with
  | some S => decide S.Nodup && feasB hs its S
  | none => false
noncomputable def isFeas (hs : Hs) (its : Its) (d : Dt) : Bool := match seqOfD d with
  | some l => isFeasL hs its l
  | none => false
theorem num_of' {n m : Nat} {d : Dt} (h : numOf n d = some m) : d = .int (m : Nat) ∧ m < n := by
  cases d with
  | int i =>
    have h : (if 0 ≤ i ∧ i < (n : Int) then some i.toNat else none) = some m := h
    by_cases c : 0 ≤ i ∧ i < (n : Int)
    · rw [if_pos c] at h
      have := Option.some.inj h
      exact ⟨congrArg Dt.int (by omega), by omega⟩
    · rw [if_neg c] at h; cases h
  | _ => cases h
theorem nums_all {n : Nat} : ∀ {l : List Dt}, (∃ S, numsOf n l = some S) ↔ l.all (fun d => (numOf n d).isSome) = true
  | [] => ⟨fun _ => rfl, fun _ => ⟨[], rfl⟩⟩
  | d :: r => by
    rw [List.all_cons, Bool.and_eq_true, ← nums_all (l := r)]
    have e0 : numsOf n (d :: r) = match numOf n d with
      | none => none
      | some k => (numsOf n r).map (k :: ·) := rfl
    rw [e0]
    cases e : numOf n d with
    | none => exact ⟨fun ⟨S, h⟩ => (by cases h), fun h => (by cases h.1)⟩
    | some k =>
      constructor
      · rintro ⟨S, h⟩
        obtain ⟨S', h', _⟩ := Option.map_eq_some_iff.mp h
        exact ⟨rfl, S', h'⟩
      · rintro ⟨_, S, h⟩
        exact ⟨k :: S, (congrArg (Option.map (k :: ·)) h)⟩
theorem isA_nums {H : Hp} {n : Nat} : ∀ {xs : List V} {l : List Dt} {S : List Nat}, IsA H xs l → numsOf n l = some S → xs = nV S ∧ ∀ k ∈ S, k < n
  | _, [], S, h, e => by
    cases h
    cases e
    exact ⟨rfl, fun _ m => by cases m⟩
  | _, d :: r, S, h, e => by
    unfold numsOf at e
    cases q : numOf n d with
    | none => rw [q] at e; cases e
    | some k =>
      rw [q] at e
      obtain ⟨S', h', e'⟩ := Option.map_eq_some_iff.mp e
      subst e'
      cases h with
      | cons h1 h2 =>
        obtain ⟨rfl, lk⟩ := num_of' q
        cases h1
        obtain ⟨rfl, a⟩ := isA_nums h2 h'
        exact ⟨rfl, fun z m => by
          rcases List.mem_cons.mp m with rfl | m
          · exact lk
          · exact a z m⟩
theorem seqD_of {d : Dt} (h : isSeq d = true) : ∃ l, seqOfD d = some l := by
  cases d with
  | lst l => exact ⟨l, rfl⟩
  | tup l => exact ⟨l, rfl⟩
  | _ => cases h
theorem seqD_no {d : Dt} (h : isSeq d = false) : seqOfD d = none := by
  cases d with
  | lst l => cases h
  | tup l => cases h
  | _ => rfl
def spFeas (K : PySem.W.Frag) : Sp := fun vs H Q _ => ∃ (y : Addr) (v : V) (hs : Hs) (its : Its) (d : Dt), vs = [.ref y, v] ∧ QueR K H H y hs its ∧ Is H v d ∧ ∀ H', Same H H' → Q (.bl (isFeas hs its d)) H'
section
variable {P : Program} {w : World} {K : PySem.W.Frag} {mg : Str → Option Value} {base : Heap}
abbrev s_is_feasible : Stmt := top 26
theorem sc_is_feasible : FnScope ["queues", "thing", "number"] ["queues", "thing"] (defScope s_is_feasible) := ⟨rfl, rfl, rfl, by decide +kernel, rfl, by decide +kernel, by decide +kernel⟩
theorem c_is_feasible (T : Txt K mg) (D : Dfn K mg "is_feasible" s_is_feasible) (C_is_list : Cal P w K mg base 1 "is_list" ["thing"] (spB isSeq)) (C_is_number : Cal P w K mg base 3 "_is_number" ["queues", "thing"] (spNum K)) (CF : Cal P w K mg base 4 "_is_feasible" ["queues", "numbers"] (spIsF K)) :
    Cal P w K mg base 5 "is_feasible" ["queues", "thing"] (spFeas K) := by
  have C_is_feasible := CF
  refine D.cal sc_is_feasible (fun _ _ _ _ _ _ us hl => match us, hl with | [_, _], _ => rfl) (fun vs H Q E h => ?_) fun cdv A outer s H vs Q E hr h => ?_
  · obtain ⟨y, v, hs, its, d, rfl, _⟩ := h
    rfl
  obtain ⟨y, v, hs, its, d, rfl, qr, iv, q⟩ := h
  refine ⟨_, (pss_cons (ps_if (PW.pt (pw_or (pt_not (pt_val (pe_cal C_is_list hr (by first | decide | omega) (by rfl) (pa_cons (pv 1) pa_nil)))) (pw_or1 (pt_not (pt_val (pe_callB (id := "all") (cr_all rfl) (by rfl) T.all (by decide +kernel) (pa_cons (pe_lc (own := [("number", 2)]) (g := gName 2) (tt := tYes) rfl sc_is_feasible.nd (pi_seq (pv 1)) (blkOk_by (N := ["queues", "thing", "number"]) (sc := defScope s_is_feasible) (by decide +kernel)) (fun _ _ _ _ _ => (pg_name (i := 2) sc_is_feasible.nd rfl (by first | exact Or.inl rfl | exact Or.inr rfl))) (fun _ _ _ _ _ => pts_nil) (fun _ _ _ _ _ => (pe_cal C_is_number hr (by first | decide | omega) (by rfl) (pa_cons (pv 0) (pa_cons (pv 2) pa_nil))))) pa_nil))))))) (pss_one (ps_ret pe_bl)) pss_nil)
      (pss_one (ps_ret (pe_and (pe_cmpR op_eq (pe_callB (id := "len") cr_lenO (by rfl) T.len (by decide +kernel) (pa_cons (pe_callTy (T := "set") (cr_setN rfl) (by rfl) T.set (by decide +kernel) (pa_cons (pv 1) pa_nil)) pa_nil)) (pe_callB (id := "len") call_len_seq (by rfl) T.len (by decide +kernel) (pa_cons (pv 1) pa_nil)) (nomark _)) (pe_one (pe_cal C_is_feasible hr (by first | decide | omega) (by rfl) (pa_cons (pv 0) (pa_cons (pe_callTy (T := "list") call_list_of (by rfl) T.list (by decide +kernel) (pa_cons (pv 1) pa_nil)) pa_nil)))))))), ?_⟩
  have gi : goodIts its := by obtain ⟨_, _, _, _, _, _, _, _, _, _, _, gi⟩ := id qr; exact gi
  have li := gi.1
  have done_ : isFeas hs its d = false → ∀ H', Same H H' → Q (.bl false) H' := fun e H' s => by
    rw [← e]
    exact q _ s
  refine cut_if (fun σ H' => σ = [some (.ref y), some v, none] ∧ Same H H' ∧ ∃ l S, seqOfD d = some l ∧ numsOf its.length l = some S) ?_ fun rest => ?_
  rotate_left
  · refine ⟨_, rfl, v, d, rfl, iv, fun H1 s1 => ⟨_, rfl, ?_⟩⟩
    cases hsq : isSeq d with
    | false =>
      refine iteT (done_ ?_ _ s1)
      unfold isFeas
      rw [seqD_no hsq]
    | true =>
      obtain ⟨l, el⟩ := seqD_of hsq
      obtain ⟨a, xs, o, rfl, ho, so, ia, lx⟩ := (iv.mono s1).seq el
      have ln := ia.len
      obtain ⟨J, wJ, hJ⟩ := seq_walk (K := K) (a := a) (xs := xs) so
      refine iteF ⟨_, rfl, a, rfl, hJ H1 _ ho fun B hB => lc_f wJ at_any l (fun x => V.bl (numOf its.length x).isSome) ln.symm (sz (m := 60) lx) hB (fun H' s' => s' _ _ ho) (fun j u x H3 A lt hu hx s3 kA => ?_) (fun H3 s3 h3 => ?_)⟩
      · exact ⟨rfl, _, rfl, _, rfl, y, u, hs, its, x, rfl, qr.mono (s1.trans s3), (isA_at ia hu hx).mono s3, fun H4 s4 => kA _ s4⟩
      · refine ⟨B, l.map fun x => (numOf its.length x).isSome, rfl, SqL.of (by rw [h3, List.map_map]; rfl), ?_⟩
        have ea : (l.map fun x => (numOf its.length x).isSome).all id = l.all fun x => (numOf its.length x).isSome := by rw [List.all_map]; rfl
        rw [ea]
        refine ⟨_, rfl, ?_⟩
        cases e : l.all fun x => (numOf its.length x).isSome with
        | true =>
          obtain ⟨S, eS⟩ := nums_all.mpr e
          exact iteF (rest _ _ ⟨rfl, s1.trans s3, l, S, el, eS⟩)
        | false =>
          refine iteT (done_ ?_ _ (s1.trans s3))
          unfold isFeas
          rw [el]
          show isFeasL hs its l = false
          unfold isFeasL
          cases q2 : numsOf its.length l with
          | none => rfl
          | some S =>
            have := nums_all.mp ⟨S, q2⟩
            rw [e] at this
            cases this
  rintro σ H1 ⟨rfl, s1, l, S, el, en⟩
  try dsimp only
  obtain ⟨a, xs, o, rfl, ho, so, ia, lx⟩ := (iv.mono s1).seq el
  obtain ⟨rfl, lS⟩ := isA_nums ia en
  have lnv : (nV S).length = S.length := by unfold nV; rw [List.length_map]
  have sq : ∀ {G : Hp}, Same H1 G → SqL K G a (nV S) ∨ SqT K G a (nV S) := fun {G} s => by
    have := s _ _ ho
    rcases so with rfl | rfl
    · exact .inl (SqL.of this)
    · exact .inr (SqT.of this)
  have eV : nV S = (S.map fun (k : Nat) => (k : Int)).map V.int := by unfold nV; rw [List.map_map]; rfl
  have eF : isFeas hs its d = (decide S.Nodup && feasB hs its S) := by
    unfold isFeas isFeasL
    rw [el]
    show (match numsOf its.length l with | some S => decide S.Nodup && feasB hs its S | none => false) = _
    rw [en]
  rw [eF] at q
  have ndm : (S.map fun (k : Nat) => (k : Int)).Nodup ↔ S.Nodup := by
    unfold List.Nodup
    rw [List.pairwise_map]
    exact ⟨fun h => h.imp fun n e => n (by rw [e]), fun h => h.imp fun n e => n (Int.ofNat.inj e)⟩
  refine ⟨_, rfl, a, S.map fun (k : Nat) => (k : Int), rfl, by rw [← eV]; exact sq (Same.refl _), by rw [List.length_map, ← lnv]; omega, fun p n hp hn hi => ?_⟩
  rw [List.length_map] at hn hi
  rw [ndm] at hi
  have s2 : ∀ o, Same H1 (upd H1 p o) := fun o => Same.up hp
  refine ⟨p, _, n, rfl, upd_same, by omega, ?_⟩
  refine ⟨_, rfl, a, nV S, rfl, sq (s2 _), ?_⟩
  refine ⟨rfl, _, rfl, ?_⟩
  by_cases nd : S.Nodup
  · rw [decide_eq_true (show V.int (n : Nat) = V.int ((nV S).length : Nat) by rw [lnv, hi.mpr nd])]
    rw [decide_eq_true nd, Bool.true_and] at q
    refine iteT ⟨_, rfl, _, rfl, a, nV S, rfl, sq (s2 _), fun f hf => ⟨y, f, hs, its, S, rfl, qr.mono (s1.trans ((s2 _).trans (Same.up hf))), upd_same, nd, lS, fun H' s' => q _ (s1.trans ((s2 _).trans ((Same.up hf).trans s')))⟩⟩
  · rw [decide_eq_false (show ¬ V.int (n : Nat) = V.int ((nV S).length : Nat) from fun z => nd (hi.mp (by have := V.int.inj z; rw [lnv] at this; omega)))]
    rw [decide_eq_false nd, Bool.false_and] at q
    exact iteF (q _ (s1.trans (s2 _)))
/-! ### _check_feasible -/
def spCkF (K : PySem.W.Frag) : Sp := fun vs H Q _ => ∃ (y : Addr) (v : V) (hs : Hs) (its : Its) (d : Dt), vs = [.ref y, v] ∧ QueR K H H y hs its ∧ Is H v d ∧ isFeas hs its d = true ∧ ∀ H', Same H H' → Q .non H'
abbrev s__check_feasible : Stmt := top 30
theorem sc__check_feasible : FnScope ["queues", "numbers"] ["queues", "numbers"] (defScope s__check_feasible) := ⟨rfl, rfl, rfl, by decide +kernel, rfl, by decide +kernel, by decide +kernel⟩
theorem c__check_feasible (T : Txt K mg) (D : Dfn K mg "_check_feasible" s__check_feasible) (C_is_feasible : Cal P w K mg base 5 "is_feasible" ["queues", "thing"] (spFeas K)) :
    Cal P w K mg base 6 "_check_feasible" ["queues", "numbers"] (spCkF K) := by
  refine D.cal sc__check_feasible (fun _ _ _ _ _ _ us hl => match us, hl with | [_, _], _ => rfl) (fun vs H Q E h => ?_) fun cdv A outer s H vs Q E hr h => ?_
  · obtain ⟨y, v, hs, its, d, rfl, _⟩ := h
    rfl
  obtain ⟨y, v, hs, its, d, rfl, qr, iv, ok, q⟩ := h
  refine ⟨_, (pss_one (ps_if (pt_not (pt_val (pe_cal C_is_feasible hr (by first | decide | omega) (by rfl) (pa_cons (pv 0) (pa_cons (pv 1) pa_nil))))) pss_never pss_nil)), ?_⟩
  refine ⟨_, rfl, _, rfl, y, v, hs, its, d, rfl, qr, iv, fun H' s => ⟨_, rfl, ?_⟩⟩
  rw [ok]
  exact iteF (q _ s)
/-! ### _has_all -/
def hasAll (c b : List Nat) : Bool := b.all fun k => decide (k ∈ c)
def spHas : Sp := fun vs H Q _ => ∃ (p q' : Addr) (c b : List Nat), vs = [.ref p, .ref q'] ∧ H p = some (.tup (nV c)) ∧ H q' = some (.tup (nV b)) ∧ b.length ≤ 60 ∧ ∀ H', Same H H' → Q (.bl (hasAll c b)) H'
abbrev s__has_all : Stmt := top 33
theorem sc__has_all : FnScope ["chosen", "bundle", "number"] ["chosen", "bundle"] (defScope s__has_all) := ⟨rfl, rfl, rfl, by decide +kernel, rfl, by decide +kernel, by decide +kernel⟩
theorem c__has_all (T : Txt K mg) (D : Dfn K mg "_has_all" s__has_all) : Cal P w K mg base 1 "_has_all" ["chosen", "bundle"] spHas := by
  refine D.cal sc__has_all (fun _ _ _ _ _ _ us hl => match us, hl with | [_, _], _ => rfl) (fun vs H Q E h => ?_) fun cdv A outer s H vs Q E hr h => ?_
  · obtain ⟨p, q', c, b, rfl, _⟩ := h
    rfl
  obtain ⟨p, q', c, b, rfl, hp, hq, lb, q⟩ := h
  refine ⟨_, (pss_one (ps_ret (pe_callB (id := "all") (cr_all rfl) (by rfl) T.all (by decide +kernel) (pa_cons (pe_lc (own := [("number", 2)]) (g := gName 2) (tt := tYes) rfl sc__has_all.nd (pi_tup (pv 1)) (blkOk_by (N := ["chosen", "bundle", "number"]) (sc := defScope s__has_all) (by decide +kernel)) (fun _ _ _ _ _ => (pg_name (i := 2) sc__has_all.nd rfl (by first | exact Or.inl rfl | exact Or.inr rfl))) (fun _ _ _ _ _ => pts_nil) (fun _ _ _ _ _ => (pe_cmpR (op_in_seqK K rfl) (pv 2) (pv 0) (by rfl)))) pa_nil)))), ?_⟩
  have lnv : (nV b).length = b.length := by unfold nV; rw [List.length_map]
  refine ⟨_, rfl, q', rfl, ⟨_, SqT.of hq⟩, fun B hB => lc_f (walk_tup (xs := nV b)) at_any b (fun k => V.bl (decide (k ∈ c))) lnv.symm (sz (m := 60) (by omega)) hB (fun H' s' => SqT.of (s' _ _ hq)) (fun j u k H3 A lt hu hk s3 kA => ?_) (fun H3 s3 h3 => ?_)⟩
  · obtain ⟨k', e1, rfl⟩ := nV_at hu
    rw [hk] at e1
    obtain rfl := Option.some.inj e1
    refine ⟨rfl, _, rfl, _, rfl, p, nV c, rfl, .inr (SqT.of (s3 _ _ hp)), rfl, flat_nV c, ?_⟩
    rw [if_neg Bool.false_ne_true, inV_nV]
    exact kA _ (Same.refl _)
  · refine ⟨B, b.map fun k => decide (k ∈ c), rfl, SqL.of (by rw [h3, List.map_map]; rfl), ?_⟩
    have ea : (b.map fun k => decide (k ∈ c)).all id = hasAll c b := by rw [List.all_map]; rfl
    rw [ea]
    exact q _ s3
end
end K34

set_option Elab.async false
set_option linter.all false
set_option maxRecDepth 100000
set_option maxHeartbeats 4000000
namespace K34
open PySem PySem.Spec PyProof.Rows L2 Sr
/-! ### _next_in_turn, in_turn -/
/-- one after another -/
inductive Ch (hs : Hs) (its : Its) : List Nat → Prop
  | nil : Ch hs its []
  | snoc {S : List Nat} {n : Nat} : Ch hs its S → n < its.length → n ∉ S → feas hs its (S ++ [n]) → Ch hs its (S ++ [n])
theorem Ch.nd {hs : Hs} {its : Its} {S : List Nat} (h : Ch hs its S) : S.Nodup ∧ ∀ k ∈ S, k < its.length := by
  induction h with
  | nil => exact ⟨List.nodup_nil, fun _ m => by cases m⟩
  | snoc h l n f ih =>
    refine ⟨?_, fun k m => ?_⟩
    · rw [List.nodup_append]
      exact ⟨ih.1, by simp, fun a ha b hb e => n (by rw [List.mem_singleton.mp hb] at e; rw [← e]; exact ha)⟩
    · rcases List.mem_append.mp m with m | m
      · exact ih.2 k m
      · rw [List.mem_singleton.mp m]; exact l
def Shut (hs : Hs) (its : Its) (S : List Nat) : Prop := ∀ n, n < its.length → n ∉ S → ¬ feas hs its (S ++ [n])
def spNext (K : PySem.W.Frag) : Sp := fun vs H Q _ => ∃ (y f : Addr) (hs : Hs) (its : Its) (S : List Nat), vs = [.ref y, .ref f] ∧ QueR K H H y hs its ∧ H f = some (.lst (nV S)) ∧ S.Nodup ∧ (∀ k ∈ S, k < its.length) ∧ (∀ H', Same H H' → Shut hs its S → Q .non H') ∧ ∀ H' n, Same H H' → n < its.length → n ∉ S → feas hs its (S ++ [n]) → Q (.int (n : Nat)) H'
section
variable {P : Program} {w : World} {K : PySem.W.Frag} {mg : Str → Option Value} {base : Heap}
abbrev s__next_in_turn : Stmt := top 32
theorem sc__next_in_turn : FnScope ["queues", "gone", "number"] ["queues", "gone"] (defScope s__next_in_turn) := ⟨rfl, rfl, rfl, by decide +kernel, rfl, by decide +kernel, by decide +kernel⟩
theorem c__next_in_turn (T : Txt K mg) (QL : QueL K) (D : Dfn K mg "_next_in_turn" s__next_in_turn) (ML : CalM P w K mg base CX0 1 (He.fAd K ("Queues", some "__len__")) ["self"] (spLen K)) (C_is_feasible : Cal P w K mg base 4 "_is_feasible" ["queues", "numbers"] (spIsF K)) :
    Cal P w K mg base 5 "_next_in_turn" ["queues", "gone"] (spNext K) := by
  refine D.cal sc__next_in_turn (fun _ _ _ _ _ _ us hl => match us, hl with | [_, _], _ => rfl) (fun vs H Q E h => ?_) fun cdv A outer s H vs Q E hr h => ?_
  · obtain ⟨y, f, hs, its, S, rfl, _⟩ := h
    rfl
  obtain ⟨y, f, hs, its, S, rfl, qr, hf, nd, lS, qN, qI⟩ := h
  refine ⟨_, (pss_cons (ps_for PassesOwn.never rfl (pi_range1 (by rfl) T.range (pa_cons (pe_callB (id := "len") (len_ ML hr (by decide) QL.len QL.lenF) (by rfl) T.len (by decide +kernel) (pa_cons (pv 0) pa_nil)) pa_nil)) (pg_name (i := 2) sc__next_in_turn.nd rfl (by first | exact Or.inl rfl | exact Or.inr rfl))
      (pss_one (ps_if (PW.pt (pw_and (pt_cmpR op_notIn_seq (pv 2) (pv 1) (by rfl)) (pw_and1 (pt_val (pe_cal C_is_feasible hr (by first | decide | omega) (by rfl) (pa_cons (pv 0) (pa_cons (pe_op op_cat (pv 1) (pe_lst (pa_cons (pv 2) pa_nil))) pa_nil))))))) (pss_one (ps_ret (pv 2))) pss_nil)))
      (pss_one (ps_ret pe_non))), ?_⟩
  have gi : goodIts its := by obtain ⟨_, _, _, _, _, _, _, _, _, _, _, gi⟩ := id qr; exact gi
  have li := gi.1
  obtain ⟨dy, fs, hy⟩ : ∃ dy fs, H y = some (.ins (He.ga K "Queues") dy fs) := by obtain ⟨dy, _, _, _, _, h1, _⟩ := id qr; exact ⟨dy, _, h1⟩
  have lS12 : S.length ≤ 12 := Nat.le_trans (nodup_lt nd lS) li
  have lnv : (nV S).length = S.length := by unfold nV; rw [List.length_map]
  refine ⟨_, rfl, y, dy, fs, rfl, hy, y, hs, its, rfl, qr, its.length, rfl, by omega, _, rfl, by omega, by omega, ?_⟩
  refine for_range (fun i σ H' => (∃ v2, σ = [some (.ref y), some (.ref f), v2]) ∧ Same H H' ∧ ∀ n, n < i → n ∉ S → ¬ feas hs its (S ++ [n])) ⟨⟨_, rfl⟩, Same.refl _, fun n h => absurd h (Nat.not_lt_zero n)⟩ ?_ ?_
  rotate_left
  · rintro σ H2 ⟨⟨v2, rfl⟩, s2, no⟩
    exact qN _ s2 fun n l m => no n (by simpa using l) m
  rintro i σ H2 hi ⟨⟨v2, rfl⟩, s2, no⟩
  rw [Int.zero_add]
  have li' : i < its.length := by simpa using hi
  refine ⟨_, rfl, _, rfl, f, nV S, rfl, .inl (SqL.of (s2 _ _ hf)), rfl, flat_nV S, _, rfl, ?_⟩
  rw [if_pos rfl, inV_nV]
  by_cases m : i ∈ S
  · rw [decide_eq_true m]
    refine iteF (iteF ⟨⟨_, rfl⟩, s2, fun n l mn => ?_⟩)
    rcases Nat.lt_or_eq_of_le (Nat.le_of_lt_succ l) with c | c
    · exact no n c mn
    · rw [c] at mn
      exact absurd m mn
  · rw [decide_eq_false m]
    have ndI : (S ++ [i]).Nodup := by
      rw [List.nodup_append]
      exact ⟨nd, by simp, fun a ha b hb e => m (by rw [List.mem_singleton.mp hb] at e; rw [← e]; exact ha)⟩
    have ltI : ∀ k ∈ S ++ [i], k < its.length := fun k mk => by
      rcases List.mem_append.mp mk with mk | mk
      · exact lS k mk
      · rw [List.mem_singleton.mp mk]; exact li'
    refine iteT ⟨_, rfl, _, rfl, _, rfl, lineN (n := 1), fun lo hlo => ?_⟩
    have s3 := Same.up (o := .lst [.int (i : Nat)]) hlo
    have e3 : (upd H2 lo (.lst [.int (i : Nat)])) lo = some (.lst [.int (i : Nat)]) := upd_same
    generalize upd H2 lo _ = H3 at s3 e3 ⊢
    refine ⟨f, lo, nV S, [.int (i : Nat)], rfl, rfl, s3 _ _ (s2 _ _ hf), e3, Nat.le_of_lt (sz (m := 60) (by rw [lnv]; show S.length + 1 ≤ 60; omega)), fun g hg => ?_⟩
    have s4 := Same.up (o := .lst (nV S ++ [.int (i : Nat)])) hg
    have e4 : (upd H3 g (.lst (nV S ++ [.int (i : Nat)]))) g = some (.lst (nV (S ++ [i]))) := by
      rw [upd_same]
      unfold nV
      rw [List.map_append]
      rfl
    generalize upd H3 g _ = H4 at s4 e4 ⊢
    have s24 := s2.trans (s3.trans s4)
    refine ⟨y, g, hs, its, S ++ [i], rfl, qr.mono s24, e4, ndI, ltI, fun H5 s5 => ⟨_, rfl, ?_⟩⟩
    cases e : feasB hs its (S ++ [i]) with
    | true => exact iteT ⟨_, rfl, qI _ i (s24.trans s5) li' m (feasB_iff.mp e)⟩
    | false =>
      refine iteF ⟨⟨_, rfl⟩, s24.trans s5, fun n l mn => ?_⟩
      rcases Nat.lt_or_eq_of_le (Nat.le_of_lt_succ l) with c | c
      · exact no n c mn
      · rw [c]
        intro z
        rw [feasB_iff.mpr z] at e
        cases e
def spTurn (K : PySem.W.Frag) : Sp := fun vs H Q _ => ∃ (y : Addr) (hs : Hs) (its : Its), vs = [.ref y] ∧ QueR K H H y hs its ∧ ∀ (H' : Hp) (p : Addr) (S : List Nat) (ns : List Int), Same H H' → H p = none → H' p = some (.lst (ns.map V.int)) → ns.Pairwise (· ≤ ·) → ns.Perm (S.map fun (k : Nat) => (k : Int)) → Ch hs its S → Shut hs its S → Q (.ref p) H'
abbrev s_in_turn : Stmt := top 27
theorem sc_in_turn : FnScope ["queues", "gone", "following"] ["queues"] (defScope s_in_turn) := ⟨rfl, rfl, rfl, by decide +kernel, rfl, by decide +kernel, by decide +kernel⟩
theorem c_in_turn (T : Txt K mg) (D : Dfn K mg "in_turn" s_in_turn) (C_next_in_turn : Cal P w K mg base 5 "_next_in_turn" ["queues", "gone"] (spNext K)) :
    Cal P w K mg base 6 "in_turn" ["queues"] (spTurn K) := by
  refine D.cal sc_in_turn (fun _ _ _ _ _ _ us hl => match us, hl with | [_], _ => rfl) (fun vs H Q E h => ?_) fun cdv A outer s H vs Q E hr h => ?_
  · obtain ⟨y, hs, its, rfl, _⟩ := h
    rfl
  obtain ⟨y, hs, its, rfl, qr, q⟩ := h
  refine ⟨_, (pss_cons (ps_set (i := 1) sc_in_turn.nd rfl (by first | exact Or.inl rfl | exact Or.inr rfl) (pe_lst pa_nil))
      (pss_cons (ps_set (i := 2) sc_in_turn.nd rfl (by first | exact Or.inl rfl | exact Or.inr rfl) (pe_cal C_next_in_turn hr (by first | decide | omega) (by rfl) (pa_cons (pv 0) (pa_cons (pv 1) pa_nil))))
      (pss_cons (ps_while PassesOwn.never (pt_cmpR op_notN (pv 2) pe_non (nomark _)) (pss_cons (ps_expr (pe_bm PySem.F.plainAttrs_list PySem.F.slot_list_append PySem.F.type_list_append mt_append (pv 1) (pa_cons (pv 2) pa_nil)))
      (pss_one (ps_set (i := 2) sc_in_turn.nd rfl (by first | exact Or.inl rfl | exact Or.inr rfl) (pe_cal C_next_in_turn hr (by first | decide | omega) (by rfl) (pa_cons (pv 0) (pa_cons (pv 1) pa_nil)))))))
      (pss_one (ps_ret (pe_callB (id := "sorted") cr_sorted (by rfl) T.sorted (by decide +kernel) (pa_cons (pv 1) pa_nil))))))), ?_⟩
  have gi : goodIts its := by obtain ⟨_, _, _, _, _, _, _, _, _, _, _, gi⟩ := id qr; exact gi
  have li := gi.1
  refine ⟨lineN (n := 0), fun f hf => ?_⟩
  have f0 := hf
  let Iv : L2.St → Hp → Prop := fun σ H' => ∃ v S, σ = [some (.ref y), some (.ref f), some v] ∧ Same H H' ∧ H' f = some (.lst (nV S)) ∧ Ch hs its S ∧ ((v = .non ∧ Shut hs its S) ∨ ∃ n : Nat, v = .int (n : Nat) ∧ n < its.length ∧ n ∉ S ∧ feas hs its (S ++ [n]))
  let mu : L2.St → Hp → Nat := fun σ H' => match H' f with | some (.lst us) => its.length - us.length | _ => 0
  have s1 : Same H (upd H f (.lst [])) := Same.up hf
  have e1 : (upd H f (.lst [])) f = some (.lst (nV [])) := upd_same
  generalize upd H f (.lst []) = H1 at s1 e1 ⊢
  try dsimp only
  refine cut_if Iv ?_ fun rest => ?_
  rotate_left
  · exact ⟨_, rfl, _, rfl, y, f, hs, its, [], rfl, qr.mono s1, e1, List.nodup_nil, (fun _ m => by cases m), fun H2 s2 sh => rest _ _ ⟨_, [], rfl, s1.trans s2, s2 _ _ e1, .nil, .inl ⟨rfl, sh⟩⟩, fun H2 n s2 l m fe => rest _ _ ⟨_, [], rfl, s1.trans s2, s2 _ _ e1, .nil, .inr ⟨n, rfl, l, m, fe⟩⟩⟩
  rintro σ H2 iv
  try dsimp only
  delta tSeq
  dsimp only
  refine while_by Iv mu iv ?_ ?_
  · rintro σ G ⟨v, S, rfl, sG, hfG, ch, hv⟩
    obtain ⟨nd, lt⟩ := ch.nd
    have lS12 : S.length ≤ 12 := Nat.le_trans (nodup_lt nd lt) li
    have lnv : (nV S).length = S.length := by unfold nV; rw [List.length_map]
    rcases hv with ⟨rfl, sh⟩ | ⟨n, rfl, l, m, fe⟩
    · refine ⟨_, rfl, rfl, _, rfl, iteF ?_⟩
      have eV : nV S = (S.map fun (k : Nat) => (k : Int)).map V.int := by unfold nV; rw [List.map_map]; rfl
      refine ⟨_, rfl, f, S.map fun (k : Nat) => (k : Int), rfl, SqL.of (by rw [← eV]; exact hfG), by rw [List.length_map]; omega, fun ns p pm so hp => ?_⟩
      exact q _ p S ns (sG.trans (Same.up hp)) (free_below sG hp) upd_same so pm ch sh
    · refine ⟨_, rfl, rfl, _, rfl, iteT ?_⟩
      refine ⟨_, rfl, .inl ⟨rfl, _, SqL.of hfG⟩, _, rfl, f, nV S, _, rfl, rfl, hfG, sz (m := 60) (by rw [lnv]; omega) (by decide), ?_⟩
      have up : ∀ c o, c ≠ f → G c = some o → (upd G f (.lst (nV S ++ [.int (n : Nat)]))) c = some o := fun c o n e => by rw [upd_ne n]; exact e
      have h4 : (upd G f (.lst (nV S ++ [.int (n : Nat)]))) f = some (.lst (nV (S ++ [n]))) := by
        rw [upd_same]
        unfold nV
        rw [List.map_append]
        rfl
      generalize upd G f (.lst (nV S ++ [.int (n : Nat)])) = G2 at up h4 ⊢
      have sG2 : Same H G2 := fun c o e => up _ _ (fun z => by rw [z, f0] at e; cases e) (sG _ _ e)
      have ch2 : Ch hs its (S ++ [n]) := .snoc ch l m fe
      obtain ⟨nd2, lt2⟩ := ch2.nd
      have dec : ∀ {H3 : Hp}, Same G2 H3 → (match H3 f with | some (.lst us) => its.length - us.length | _ => 0) < (match G f with | some (.lst us) => its.length - us.length | _ => 0) := fun {H3} s3 => by
        rw [s3 _ _ h4, hfG]
        show its.length - (nV (S ++ [n])).length < its.length - (nV S).length
        have := nodup_lt nd2 lt2
        unfold nV
        rw [List.length_map, List.length_map]
        rw [List.length_append] at this ⊢
        show its.length - (S.length + 1) < _
        have : S.length + 1 ≤ its.length := this
        omega
      exact ⟨_, rfl, _, rfl, y, f, hs, its, S ++ [n], rfl, qr.mono sG2, h4, nd2, lt2, fun H3 s3 sh => ⟨⟨_, S ++ [n], rfl, sG2.trans s3, s3 _ _ h4, ch2, .inl ⟨rfl, sh⟩⟩, dec s3⟩, fun H3 n3 s3 l3 m3 fe3 => ⟨⟨_, S ++ [n], rfl, sG2.trans s3, s3 _ _ h4, ch2, .inr ⟨n3, rfl, l3, m3, fe3⟩⟩, dec s3⟩⟩
  · rintro σ G Q1 Q2 hq ⟨v, e, k, c, tk, h⟩
    exact ⟨v, e, k, c, tk, hq _ _ h⟩
end
end K34

set_option Elab.async false
set_option linter.all false
set_option maxRecDepth 100000
set_option maxHeartbeats 4000000
namespace Sr
open PySem PySem.Spec PyProof.Rows L2
open Sem (wp)
/-! ### itertools.combinations(list, many) -/
theorem cb_mro : mroOf (.type "itertools.combinations") = pure [.type "itertools.combinations", .type "object"] := by rw [mroOf_type]; kernel_rfl
theorem cb_look : typeLookup (.type "itertools.combinations") "__new__" = pure (some (.builtin "itertools.combinations.__new__")) := by rw [typeLookup_type, builtinLookup_eq_fast]; kernel_rfl
theorem cb_sub : isSubtype (.type "itertools.combinations") (.type "itertools.combinations") = pure true := by rw [isSubtype_type]; kernel_rfl
theorem cb_init : Slot "itertools.combinations" "__init__" "object.__init__" := by
  refine .of (owner := "object") (n := "__init__") (by rw [typeLookup_type, builtinLookup_eq_fast]; kernel_rfl) (by decide +kernel) (by decide +kernel) (by decide +kernel) ?_ (by rw [isSubtype_type]; kernel_rfl)
  first
    | exact .inl (by decide +kernel)
    | exact .inr (by decide +kernel)
theorem cb_called : TypeCalled "itertools.combinations" "itertools.combinations.__new__" "object.__init__" :=
  ⟨by decide +kernel, by decide +kernel, ⟨_, _, cb_mro⟩, madeBy_type cb_mro cb_look (by decide +kernel), by decide +kernel, cb_sub, cb_init⟩
theorem cb_typeCall (a b : Value) : checkTypeCall "itertools.combinations" ⟨[a, b], []⟩ = pure () := by kernel_rfl
theorem cb_newCall (a b : Value) : checkBuiltinCall "itertools.combinations.__new__" ⟨[.type "itertools.combinations", a, b], []⟩ = pure () := by kernel_rfl
theorem cb_entry_new : entryFor table "itertools.combinations.__new__" = some Builtin.«itertools.combinations.__new__» := entryFor_of_tree (by kernel_rfl)
theorem cb_iter : Slot "itertools.combinations" "__iter__" "itertools.combinations.__iter__" := by
  refine .of (owner := "itertools.combinations") (n := "__iter__") (by rw [typeLookup_type, builtinLookup_eq_fast]; kernel_rfl) (by decide +kernel) (by decide +kernel) (by decide +kernel) ?_ cb_sub
  first
    | exact .inl (by decide +kernel)
    | exact .inr (by decide +kernel)
theorem cb_next : Slot "itertools.combinations" "__next__" "itertools.combinations.__next__" := by
  refine .of (owner := "itertools.combinations") (n := "__next__") (by rw [typeLookup_type, builtinLookup_eq_fast]; kernel_rfl) (by decide +kernel) (by decide +kernel) (by decide +kernel) ?_ cb_sub
  first
    | exact .inl (by decide +kernel)
    | exact .inr (by decide +kernel)
theorem cb_entry_iter : entryFor table "itertools.combinations.__iter__" = some Builtin.«dict_keyiterator.__iter__» := by
  refine entryFor_alias (id' := "dict_keyiterator.__iter__") (by kernel_rfl) ?_ (by decide +kernel) (by kernel_rfl)
  first
    | rfl
    | decide +kernel
    | (unfold String.splitOn; simp +decide [String.splitOnAux])
theorem cb_entry_next : entryFor table "itertools.combinations.__next__" = some Builtin.«itertools.combinations.__next__» := entryFor_of_tree (by kernel_rfl)
theorem cb_noDict : typeHasDict (.type "itertools.combinations") = false := by decide +kernel
theorem cb_name : "itertools." ++ "combinations" = "itertools.combinations" := by decide +kernel
end Sr

set_option Elab.async false
set_option linter.all false
set_option maxRecDepth 100000
set_option maxHeartbeats 4000000
namespace Sr
open PySem PySem.Spec PyProof.Rows L2
open Sem (wp)
/-- combinations under way: the pool, begun or not, the last one handed out, the places -/
abbrev IsComb (h : Heap) (it : Addr) (pool : Addr) (st : Int) (last : Value) (idx : List Nat) : Prop := h.get? it = some { cls := .type "itertools.combinations", dict := none, data := .fields ([.ref pool, .int st 0, last] ++ idx.map fun n : Nat => (Value.int (n : Int) 0)).toArray, slots := #[] }
abbrev cbPool (items : Array Value) : Obj := { cls := .type "tuple", data := .seq items }
abbrev cbObj (pool : Addr) (st : Int) (last : Value) (idx : List Nat) : Obj := { cls := .type "itertools.combinations", dict := none, data := .fields ([.ref pool, .int st 0, last] ++ idx.map fun n : Nat => (Value.int (n : Int) 0)).toArray, slots := #[] }
theorem cb_meets_new {l : Addr} {items : Array Value} (m : Nat) (t : Tok) (h1 : m ≤ items.size) (h2 : items.size < 1000) :
    Meets (Builtin.«itertools.combinations.__new__» ⟨[.type "itertools.combinations", .ref l, .int (m : Nat) t], []⟩)
      (fun A R s => s.heap.IsList l items ∧ ∀ h' : Heap, (∀ b o, s.heap.get? b = some o → h'.get? b = some o) →
        R (.ok (.ret (.ref (h'.push (cbPool items)).objs.size))) { s with heap := (h'.push (cbPool items)).push (cbObj h'.objs.size 0 .none (List.range m)) }) :=
  .of_wp fun prog w A R s h => by
    obtain ⟨hp, g, dd, tk, os⟩ := s
    obtain ⟨hl, h⟩ := h
    have hsub := cb_sub
    have hd := cb_noDict
    have hn := cb_name
    have c1 : ¬ ((decide ((m : Int) < -2 ^ 63) || decide ((m : Int) ≥ 2 ^ 63)) = true) := by
      have a : decide ((m : Int) < -2 ^ 63) = false := decide_eq_false (by omega)
      have b : decide ((m : Int) ≥ 2 ^ 63) = false := decide_eq_false (by omega)
      rw [a, b]
      decide
    repeat (first
      | wp_step
      | rw [hn]
      | simp only [List.head?_cons, Option.some_or, List.getElem?_cons_succ, List.getElem?_cons_zero, List.length_cons, List.length_nil, List.forIn_nil])
    rw [if_neg c1]
    refine wpAny_pure ?_
    obtain ⟨o, e1, e2, e3⟩ := hl
    refine wpAny_bind (wpAny_collect_seq l (.inl rfl) e1 e2 e3.choose_spec (fun h' kp => ?_) (by rw [sizeLine_eq]; omega))
    rw [if_neg (by omega), if_neg (by unfold Builtin.Itertools.itTooMany; simp; omega)]
    refine wpAny_bind (wpAny_newTuple ?_ (by rw [sizeLine_eq, Array.length_toList]; omega))
    refine wpAny_pure ?_
    refine wpAny_bind ?_
    unfold Builtin.Itertools.itNewRecord
    rw [hd]
    rw [if_pos (show (!false) = true from rfl)]
    dsimp only
    rw [if_neg (show ¬ ((m : Nat) : Int).toNat > items.toList.length by rw [Array.length_toList, Int.toNat_natCast]; omega), Int.toNat_natCast]
    refine wpAny_newObj_type ?_ ?_
    · exact wpAny_pure ⟨_, rfl, h h' kp⟩
    · show ([Value.ref h'.objs.size, rawInt 0, Value.none] ++ List.map (fun i : Nat => rawInt (i : Int)) (List.range m)).toArray.size ≤ _
      rw [List.size_toArray, List.length_append, List.length_map, List.length_range, sizeLine_eq]
      show 3 + m ≤ _
      omega
end Sr

set_option Elab.async false
set_option linter.all false
set_option maxRecDepth 100000
set_option maxHeartbeats 4000000
namespace Sr
open PySem PySem.Spec PyProof.Rows L2
open Sem (wp)
theorem cb_owner : Manifest.owners.lookup (String.ofList "itertools.combinations".toList) = some Manifest.sig_itertools_combinations := by kernel_rfl
theorem cb_args_iter (a : Value) : argsOk "itertools.combinations.__iter__" ⟨[a], []⟩ := by
  unfold argsOk
  rw [signature?_of (id := "itertools.combinations.__iter__") (n := "__iter__".toList.reverse) (o := "itertools.combinations".toList.reverse) (rows := Manifest.sig_itertools_combinations) (by kernel_rfl) (by kernel_rfl)]
  kernel_rfl
theorem cb_args_next (a : Value) : argsOk "itertools.combinations.__next__" ⟨[a], []⟩ := by
  unfold argsOk
  rw [signature?_of (id := "itertools.combinations.__next__") (n := "__next__".toList.reverse) (o := "itertools.combinations".toList.reverse) (rows := Manifest.sig_itertools_combinations) (by kernel_rfl) (by kernel_rfl)]
  kernel_rfl
end Sr

set_option Elab.async false
set_option linter.all false
set_option maxRecDepth 100000
set_option maxHeartbeats 4000000
namespace Sr
open PySem PySem.Spec PyProof.Rows L2
open Sem (wp)
/-- all choices of so many, in their order -/
def combs {α : Type} : Nat → List α → List (List α)
  | 0, _ => [[]]
  | _ + 1, [] => []
  | n + 1, x :: l => (combs n l).map (x :: ·) ++ combs (n + 1) l
abbrev cbO (pool : Addr) (st : Int) (last : Value) (idx : List Nat) : Obj := { cls := .type "itertools.combinations", dict := none, data := .fields ([.ref pool, .int st 0, last] ++ idx.map fun n : Nat => (Value.int (n : Int) 0)).toArray, slots := #[] }
section
variable {prog : Program} {w : World} {A : Around} {E : Value → Shared → Prop} {s : Shared}
theorem cb_pyIter {it pool : Addr} {st : Int} {last : Value} {idx : List Nat} {Q : Value → Shared → Prop} (hit : s.heap.get? it = some (cbO pool st last idx)) (h : Q (.ref it) s) : wpAny (model prog w) A (pyIter (.ref it)) Q E s := by
  have hT : s.TypeIs (.ref it) "itertools.combinations" := ⟨_, hit, rfl⟩
  refine wpAny_pyIter_slot hT cb_iter (wpAny_call_entry cb_iter hT cb_entry_iter ?_ (cb_args_iter _))
  show wpAny _ _ (ret (.ref it)) _ _ s
  exact wpAny_pure ⟨_, rfl, "itertools.combinations", _, hT, cb_next.lookup, h⟩
theorem cb_numbers {it pool : Addr} {st : Int} {last : Value} {idx : List Nat} {Q : List Nat → Shared → Prop} (hit : s.heap.get? it = some (cbO pool st last idx)) (h : Q idx s) : wpAny (model prog w) A (Builtin.Itertools.itNumbersFrom (.ref it) 3) Q E s := by
  unfold Builtin.Itertools.itNumbersFrom
  refine wpAny_bind (wpAny_load hit ?_)
  refine wpAny_pure ?_
  have key : ∀ f : Value → Nat, (∀ n : Nat, f (.int (n : Int) 0) = n) → List.map f (List.drop 3 (([Value.ref pool, .int st 0, last] ++ idx.map fun n : Nat => (Value.int (n : Int) 0)).toArray.toList)) = idx := fun f hf => by
    rw [List.toList_toArray]
    show List.map f (idx.map fun n : Nat => (Value.int (n : Int) 0)) = idx
    rw [List.map_map]
    refine (List.map_congr_left fun n _ => ?_).trans (List.map_id _)
    exact hf n
  show Q (List.map _ _) s
  rw [key]
  · exact h
  · intro n
    rfl
theorem cb_state {it pool : Addr} {st : Int} {last : Value} {idx : List Nat} {Q : Int → Shared → Prop} (hit : s.heap.get? it = some (cbO pool st last idx)) (h : Q st s) : wpAny (model prog w) A (Builtin.Itertools.itIntField (.ref it) 1) Q E s := by
  unfold Builtin.Itertools.itIntField
  exact wpAny_bind (wpAny_field hit rfl (x := .int st 0) rfl (wpAny_pure h))
/-- what a place list picks -/
def cbPick (items : Array Value) (idx : List Nat) : List Value := idx.map fun i => items.getD i .none
/-- a new tuple is handed out and kept -/
theorem cb_hand {it pool : Addr} {last : Value} {idx : List Nat} {items : Array Value} {n : Nat} {op : Obj} {pk : Sem Value} {R : PySem.Fin → Shared → Prop} (hit : s.heap.get? it = some (cbO pool 1 last idx)) (hp : s.heap.get? pool = some op) (hd : op.data = .seq items n) (hz : idx.length ≤ sizeLine)
    (hpk : pk = (Builtin.Itertools.itPoolItems (.ref pool) >>= fun xs => newTuple (cbPick xs idx)))
    (hQ : ∀ h' : Heap, h'.get? it = some (cbO pool 1 (.ref s.heap.objs.size) idx) → h'.get? s.heap.objs.size = some { cls := .type "tuple", data := .seq (cbPick items idx).toArray } → (∀ b o, b ≠ it → s.heap.get? b = some o → h'.get? b = some o) → R (.done (.ret (.ref s.heap.objs.size))) { s with heap := h' }) :
    wpAny (model prog w) A (pk >>= fun result => field (.ref it) 2 >>= fun before => setField (.ref it) 2 result >>= fun _ => letGo [before] [result] >>= fun _ => ret result) R E s := by
  subst hpk
  refine wpAny_bind (wpAny_bind ?_)
  unfold Builtin.Itertools.itPoolItems
  refine wpAny_bind (wpAny_seqItems hp hd (wpAny_pure ?_))
  refine wpAny_newTuple ?_ (by unfold cbPick; rw [List.length_map]; exact hz)
  have lt : it < s.heap.objs.size := Heap.lt_size hit
  have hit2 : (s.heap.push { cls := .type "tuple", data := .seq (cbPick items idx).toArray }).get? it = some (cbO pool 1 last idx) := Heap.get?_push_of_some _ hit
  have ht2 : (s.heap.push { cls := .type "tuple", data := .seq (cbPick items idx).toArray }).get? s.heap.objs.size = some { cls := .type "tuple", data := .seq (cbPick items idx).toArray } := Heap.get?_push_size _ rfl
  have kp2 : ∀ b o, s.heap.get? b = some o → (s.heap.push { cls := .type "tuple", data := .seq (cbPick items idx).toArray }).get? b = some o := fun b o e => Heap.get?_push_of_some _ e
  generalize s.heap.push _ = h2 at hit2 ht2 kp2 ⊢
  refine wpAny_bind (wpAny_field hit2 rfl (x := last) rfl ?_)
  refine wpAny_bind (wpAny_setField hit2 rfl (by simp) ?_)
  refine wpAny_bind (wpAny_letGo ?_)
  refine wpAny_pure ?_
  refine hQ _ (Heap.get?_update_self _ hit2 rfl) ?_ fun b o n e => ?_
  · show (h2.update it _).get? _ = _
    rw [Heap.get?_update_ne _ _ _ _ (Nat.ne_of_gt lt)]
    exact ht2
  · show (h2.update it _).get? _ = _
    rw [Heap.get?_update_ne _ _ _ _ n]
    exact kp2 _ _ e
/-- the first one -/
theorem cb_first {it pool : Addr} {idx : List Nat} {items : Array Value} {n : Nat} {op : Obj} {Q : Option Value → Shared → Prop} (hit : s.heap.get? it = some (cbO pool 0 .none idx)) (hp : s.heap.get? pool = some op) (hd : op.data = .seq items n) (hne : pool ≠ it) (hz : idx.length ≤ sizeLine)
    (hQ : ∀ h' : Heap, h'.get? it = some (cbO pool 1 (.ref s.heap.objs.size) idx) → h'.get? s.heap.objs.size = some { cls := .type "tuple", data := .seq (cbPick items idx).toArray } → (∀ b o, b ≠ it → s.heap.get? b = some o → h'.get? b = some o) → Q (some (.ref s.heap.objs.size)) { s with heap := h' }) : wpAny (model prog w) A (callSpecial? (.ref it) "__next__") Q E s := by
  have hT : s.TypeIs (.ref it) "itertools.combinations" := ⟨_, hit, rfl⟩
  refine wpAny_callSpecial?_slot (name := Str.ofString "__next__") hT cb_next (wpAny_call_entry cb_next hT cb_entry_next ?_ (cb_args_next _))
  show wpAny _ _ (field (.ref it) 0 >>= _) _ _ s
  refine wpAny_bind (wpAny_field hit rfl (x := .ref pool) rfl ?_)
  refine wpAny_bind (cb_numbers hit ?_)
  refine wpAny_bind (cb_state hit ?_)
  show wpAny _ _ (setField (.ref it) 1 (rawInt 1) >>= _) _ _ s
  refine wpAny_bind (wpAny_setField hit rfl (by simp) ?_)
  have hit2 : (s.heap.update it (Obj.mapFields fun x => x.setIfInBounds 1 (rawInt 1))).get? it = some (cbO pool 1 .none idx) := Heap.get?_update_self _ hit rfl
  have hp2 : (s.heap.update it (Obj.mapFields fun x => x.setIfInBounds 1 (rawInt 1))).get? pool = some op := by rw [Heap.get?_update_ne _ _ _ _ hne]; exact hp
  have kp : ∀ b o, b ≠ it → s.heap.get? b = some o → (s.heap.update it (Obj.mapFields fun x => x.setIfInBounds 1 (rawInt 1))).get? b = some o := fun b o n e => by rw [Heap.get?_update_ne _ _ _ _ n]; exact e
  have sz1 : (s.heap.update it (Obj.mapFields fun x => x.setIfInBounds 1 (rawInt 1))).objs.size = s.heap.objs.size := Heap.size_update ..
  generalize s.heap.update it _ = h1 at hit2 hp2 kp sz1 ⊢
  refine cb_hand (s := { s with heap := h1 }) hit2 hp2 hd hz rfl fun h' a b c => ?_
  show ∃ v, _ ∧ _
  refine ⟨_, rfl, ?_⟩
  have a' : h'.get? it = some (cbO pool 1 (.ref h1.objs.size) idx) := a
  have b' : h'.get? h1.objs.size = some { cls := .type "tuple", data := .seq (cbPick items idx).toArray } := b
  show Q (some (.ref h1.objs.size)) _
  rw [sz1] at a' b' ⊢
  exact hQ h' a' b' fun q o n e => c q o n (kp q o n e)
/-- the steps are as they are to be -/
def cbStep (step : List Nat → Option (List Nat)) : List (List Nat) → Bool
  | [] => true
  | [x] => (step x).isNone
  | x :: y :: r => decide (step x = some y) && cbStep step (y :: r)
theorem cb_ext (a b c : Value) (l m : List Value) : ([a, b, c] ++ l).toArray.extract 0 3 ++ m.toArray = ([a, b, c] ++ m).toArray := by
  apply Array.ext'
  simp [List.extract]
def CbGood (step : Nat → List Nat → Option (List Nat)) : Prop := ((List.range 9).all fun n => (List.range (n + 1)).all fun r => cbStep (step n) (combs r (List.range n))) = true
theorem cb_match {o : Option (List Nat)} {f : List Nat → Sem PySem.Fin} {g : Sem PySem.Fin} {R : PySem.Fin → Shared → Prop} (h1 : ∀ nx, o = some nx → wpAny (model prog w) A (f nx) R E s) (h2 : o = none → wpAny (model prog w) A g R E s) :
    wpAny (model prog w) A (match o with
      | some nx => f nx
      | none => g) R E s := by
  cases o with
  | some nx => exact h1 nx rfl
  | none => exact h2 rfl
/-- another one -/
theorem cb_more {it pool : Addr} {last : Value} {idx : List Nat} {items : Array Value} {n : Nat} {op : Obj} {Q : Option Value → Shared → Prop} (hit : s.heap.get? it = some (cbO pool 1 last idx)) (hp : s.heap.get? pool = some op) (hd : op.data = .seq items n) (hne : pool ≠ it) (hh : A.handled = none)
    (hQ : ∀ step : Nat → List Nat → Option (List Nat), CbGood step → (∀ nx, step items.size idx = some nx → nx.length ≤ 100 ∧ ∀ h' : Heap, h'.get? it = some (cbO pool 1 (.ref s.heap.objs.size) nx) → h'.get? s.heap.objs.size = some { cls := .type "tuple", data := .seq (cbPick items nx).toArray } → (∀ b o, b ≠ it → s.heap.get? b = some o → h'.get? b = some o) → Q (some (.ref s.heap.objs.size)) { s with heap := h' }) ∧
      (step items.size idx = none → ∀ (e : Addr) (h' : Heap) (oe : Obj), (∀ b o, b ≠ it → s.heap.get? b = some o → h'.get? b = some o) → h'.get? e = some oe → oe.cls = .type "StopIteration" → E (.ref e) { s with heap := h' })) : wpAny (model prog w) A (callSpecial? (.ref it) "__next__") Q E s := by
  have hT : s.TypeIs (.ref it) "itertools.combinations" := ⟨_, hit, rfl⟩
  refine wpAny_callSpecial?_slot (name := Str.ofString "__next__") hT cb_next (wpAny_call_entry cb_next hT cb_entry_next ?_ (cb_args_next _))
  show wpAny _ _ (field (.ref it) 0 >>= _) _ _ s
  refine wpAny_bind (wpAny_field hit rfl (x := .ref pool) rfl ?_)
  refine wpAny_bind (cb_numbers hit ?_)
  refine wpAny_bind (cb_state hit ?_)
  show wpAny _ _ (Builtin.Itertools.itPoolItems (.ref pool) >>= _) _ _ s
  refine wpAny_bind ?_
  unfold Builtin.Itertools.itPoolItems
  refine wpAny_bind (wpAny_seqItems hp hd (wpAny_pure ?_))
  dsimp only
  refine cb_match (fun nx e => ?_) (fun e => ?_)
  · obtain ⟨lz, z⟩ := (hQ _ (by unfold CbGood; decide +kernel)).1 nx e
    have hit2 : (s.heap.update it (Obj.mapFields fun fs => fs.extract 0 3 ++ (nx.map fun n : Nat => rawInt (n : Int)).toArray)).get? it = some (cbO pool 1 last nx) := by
      refine (Heap.get?_update_self _ hit rfl).trans ?_
      show some ({ cls := .type "itertools.combinations", data := .fields (([Value.ref pool, .int 1 0, last] ++ idx.map fun n : Nat => (Value.int (n : Int) 0)).toArray.extract 0 3 ++ (nx.map fun n : Nat => rawInt (n : Int)).toArray) } : Obj) = some _
      rw [cb_ext]
      rfl
    have hp2 : (s.heap.update it (Obj.mapFields fun fs => fs.extract 0 3 ++ (nx.map fun n : Nat => rawInt (n : Int)).toArray)).get? pool = some op := by rw [Heap.get?_update_ne _ _ _ _ hne]; exact hp
    have kp : ∀ b o, b ≠ it → s.heap.get? b = some o → (s.heap.update it (Obj.mapFields fun fs => fs.extract 0 3 ++ (nx.map fun n : Nat => rawInt (n : Int)).toArray)).get? b = some o := fun b o n e => by rw [Heap.get?_update_ne _ _ _ _ n]; exact e
    have sz1 : (s.heap.update it (Obj.mapFields fun fs => fs.extract 0 3 ++ (nx.map fun n : Nat => rawInt (n : Int)).toArray)).objs.size = s.heap.objs.size := Heap.size_update ..
    refine wpAny_bind ?_
    unfold Builtin.Itertools.itSetNumbersFrom
    refine wpAny_updateFields hit rfl ?_ ?_
    · generalize s.heap.update it _ = h1 at hit2 hp2 kp sz1 ⊢
      refine cb_hand (s := { s with heap := h1 }) hit2 hp2 hd (Nat.le_trans lz (by rw [sizeLine_eq]; decide)) rfl fun h' a b c => ?_
      show ∃ v, _ ∧ _
      refine ⟨_, rfl, ?_⟩
      have a' : h'.get? it = some (cbO pool 1 (.ref h1.objs.size) nx) := a
      have b' : h'.get? h1.objs.size = some { cls := .type "tuple", data := .seq (cbPick items nx).toArray } := b
      show Q (some (.ref h1.objs.size)) _
      rw [sz1] at a' b' ⊢
      exact z h' a' b' fun q o n e => c q o n (kp q o n e)
    · rw [cb_ext, List.size_toArray, List.length_append, List.length_map]
      show 3 + nx.length ≤ _
      rw [sizeLine_eq]
      omega
  · have z := (hQ _ (by unfold CbGood; decide +kernel)).2 e
    refine wpAny_bind (wpAny_setField hit rfl (by simp) ?_)
    have kp : ∀ b o, b ≠ it → s.heap.get? b = some o → (s.heap.update it (Obj.mapFields fun x => x.setIfInBounds 1 (rawInt 2))).get? b = some o := fun b o n e => by rw [Heap.get?_update_ne _ _ _ _ n]; exact e
    generalize s.heap.update it _ = h1 at kp ⊢
    exact DVw.raise_stop (s := { s with heap := h1 }) hh fun h' e oe k1 k2 k3 => z e h' oe (fun b o n q => k1 _ _ (kp b o n q)) k2 k3
end
end Sr

set_option Elab.async false
set_option linter.all false
set_option maxRecDepth 100000
set_option maxHeartbeats 4000000
namespace Sr
open PySem PySem.Spec PyProof.Rows L2
open Sem (wp)
theorem combs_map {α β : Type} (f : α → β) : ∀ (n : Nat) (l : List α), combs n (l.map f) = (combs n l).map (List.map f)
  | 0, l => by cases l <;> rfl
  | n + 1, [] => rfl
  | n + 1, x :: l => by
    show (combs n (l.map f)).map (f x :: ·) ++ combs (n + 1) (l.map f) = ((combs n l).map (x :: ·) ++ combs (n + 1) l).map (List.map f)
    rw [combs_map f n l, combs_map f (n + 1) l, List.map_append, List.map_map, List.map_map]
    rfl
theorem combs_sub {α : Type} : ∀ {n : Nat} {l c : List α}, c ∈ combs n l → c.Sublist l ∧ c.length = n
  | 0, l, c, h => by
    have : c = [] := by cases l <;> exact List.mem_singleton.mp h
    rw [this]
    exact ⟨List.nil_sublist _, rfl⟩
  | n + 1, [], c, h => by cases h
  | n + 1, x :: l, c, h => by
    rcases List.mem_append.mp h with h | h
    · obtain ⟨d, md, rfl⟩ := List.mem_map.mp h
      obtain ⟨a, b⟩ := combs_sub md
      exact ⟨a.cons₂ x, by rw [List.length_cons, b]⟩
    · obtain ⟨a, b⟩ := combs_sub h
      exact ⟨a.cons x, b⟩
def vPick (xs : List V) (idx : List Nat) : List V := idx.map fun i => xs.getD i .non
theorem combs_pick (n : Nat) (xs : List V) : combs n xs = (combs n (List.range xs.length)).map (vPick xs) := by
  have : xs = (List.range xs.length).map fun i => xs.getD i .non := by
    refine List.ext_getElem (by rw [List.length_map, List.length_range]) fun i h1 h2 => ?_
    rw [List.getElem_map, List.getElem_range, List.getD_eq_getElem?_getD, List.getElem?_eq_getElem h1]
    rfl
  conv => lhs; rw [this]
  rw [combs_map]
  rfl
theorem cbStep_at {st : List Nat → Option (List Nat)} : ∀ {L : List (List Nat)}, cbStep st L = true → ∀ {i : Nat} {x : List Nat}, L[i]? = some x → (L[i + 1]? = none → st x = none) ∧ ∀ y, L[i + 1]? = some y → st x = some y
  | [], _, i, x, h => by cases h
  | [a], c, i, x, h => by
    cases i with
    | zero =>
      cases h
      exact ⟨fun _ => Option.isNone_iff_eq_none.mp c, fun y e => by cases e⟩
    | succ i => cases h
  | a :: b :: r, c, i, x, h => by
    have c' : (decide (st a = some b) && cbStep st (b :: r)) = true := c
    rw [Bool.and_eq_true] at c'
    cases i with
    | zero =>
      cases h
      exact ⟨(fun e => by cases e), fun y e => by cases e; exact of_decide_eq_true c'.1⟩
    | succ i => exact cbStep_at c'.2 h
theorem combs_first : ∀ n r : Nat, n ≤ 8 → r ≤ n → (combs r (List.range n))[0]? = some (List.range r) := by
  have : ((List.range 9).all fun n => (List.range (n + 1)).all fun r => decide ((combs r (List.range n))[0]? = some (List.range r))) = true := by decide +kernel
  intro n r h1 h2
  have a := List.all_eq_true.mp this n (List.mem_range.mpr (by omega))
  exact of_decide_eq_true (List.all_eq_true.mp a r (List.mem_range.mpr (by omega)))
theorem good_at {step : Nat → List Nat → Option (List Nat)} (g : CbGood step) {n r : Nat} (h1 : n ≤ 8) (h2 : r ≤ n) : cbStep (step n) (combs r (List.range n)) = true :=
  List.all_eq_true.mp (List.all_eq_true.mp g n (List.mem_range.mpr (by omega))) r (List.mem_range.mpr (by omega))
theorem vals_pick {xs : List V} {us : List Value} (rv : Vals xs us) : ∀ {idx : List Nat}, (∀ i ∈ idx, i < xs.length) → Vals (vPick xs idx) (cbPick us.toArray idx)
  | [], _ => .nil
  | i :: r, h => by
    have li := h i (List.mem_cons_self ..)
    obtain ⟨u, hu, ru⟩ := rv.get (List.getElem?_eq_getElem li)
    refine .cons ?_ (vals_pick rv fun j m => h j (List.mem_cons_of_mem _ m))
    have e1 : xs.getD i .non = xs[i] := by rw [List.getD_eq_getElem?_getD, List.getElem?_eq_getElem li]; rfl
    have e2 : us.toArray.getD i .none = u := by
      rw [Array.getD_eq_getD_getElem?, List.getElem?_toArray, hu]
      rfl
    show RelV (xs.getD i .non) (us.toArray.getD i .none)
    rw [e1, e2]
    exact ru
section
variable {prog : Program} {w : World} {A : Around} {E : Value → Shared → Prop} {s : Shared}
theorem call_comb {l : Addr} {items : Array Value} {m : Nat} {t : Tok} {Q : Value → Shared → Prop} (hl : s.heap.IsList l items) (h1 : m ≤ items.size) (h2 : items.size < 1000)
    (h : ∀ (h0 h' : Heap) (pool it : Addr), (∀ b o, s.heap.get? b = some o → h0.get? b = some o) → h'.get? it = some (cbO pool 0 .none (List.range m)) → h'.get? pool = some { cls := .type "tuple", data := .seq items } → pool ≠ it → h0.objs.size ≤ pool → h0.objs.size ≤ it → (∀ b o, h0.get? b = some o → h'.get? b = some o) → Q (.ref it) { s with heap := h' }) :
    wpAny (model prog w) A (call (.type "itertools.combinations") [.ref l, .int (m : Nat) t]) Q E s := by
  refine callType_new cb_called (by decide +kernel) (cb_typeCall _ _) (cb_newCall _ _) (fun obj => F.args_object_init_3 obj _ _) cb_entry_new (cb_meets_new m t h1 h2) ⟨hl, fun h' kp => ?_⟩
  have z1 : (h'.push (cbPool items)).objs.size = h'.objs.size + 1 := Heap.size_push ..
  have ho : ((h'.push (cbPool items)).push (cbObj h'.objs.size 0 .none (List.range m))).get? (h'.push (cbPool items)).objs.size = some (cbO h'.objs.size 0 .none (List.range m)) := Heap.get?_push_size _ rfl
  have hp : ((h'.push (cbPool items)).push (cbObj h'.objs.size 0 .none (List.range m))).get? h'.objs.size = some (cbPool items) := Heap.get?_push_of_some _ (Heap.get?_push_size _ rfl)
  show _ ∧ _
  refine ⟨⟨_, ho, rfl⟩, ?_⟩
  exact h h' _ h'.objs.size _ kp ho hp (by rw [z1]; show h'.objs.size ≠ h'.objs.size + 1; exact Nat.ne_of_lt (Nat.lt_succ_self _)) (Nat.le_refl _) (by rw [z1]; exact Nat.le_succ _) fun b o e => Heap.get?_push_of_some _ (Heap.get?_push_of_some _ e)
/-- the next one, or none -/
theorem cb_pyNext {it pool : Addr} {r i : Nat} {items : Array Value} {op : Obj} {k : Nat} {Q : Option Value → Shared → Prop} (hp : s.heap.get? pool = some op) (hd : op.data = .seq items k) (hne : pool ≠ it) (hh : A.in1.handled = none) (hn : items.size ≤ 8) (hr : r ≤ items.size)
    (st : match i with
      | 0 => s.heap.get? it = some (cbO pool 0 .none (List.range r))
      | i + 1 => ∃ last x, (combs r (List.range items.size))[i]? = some x ∧ s.heap.get? it = some (cbO pool 1 last x))
    (h1 : ∀ nx, (combs r (List.range items.size))[i]? = some nx → ∀ h' : Heap, h'.get? it = some (cbO pool 1 (.ref s.heap.objs.size) nx) → h'.get? s.heap.objs.size = some { cls := .type "tuple", data := .seq (cbPick items nx).toArray } → (∀ b o, b ≠ it → s.heap.get? b = some o → h'.get? b = some o) → Q (some (.ref s.heap.objs.size)) { s with heap := h' })
    (h2 : (combs r (List.range items.size))[i]? = none → ∀ h' : Heap, (∀ b o, b ≠ it → s.heap.get? b = some o → h'.get? b = some o) → Q none { s with heap := h' }) : wpAny (model prog w) A (pyNext (.ref it)) Q E s := by
  unfold pyNext
  refine wpAny_bind (wpAny_attempt ?_)
  cases i with
  | zero =>
    refine cb_first st hp hd hne (by rw [List.length_range, sizeLine_eq]; omega) fun h' a b c => ?_
    exact wpAny_pure (h1 _ (combs_first _ _ hn hr) h' a b c)
  | succ i =>
    obtain ⟨last, x, hx, hit⟩ := st
    refine cb_more hit hp hd hne hh fun step g => ⟨fun nx e => ?_, fun e p h' oe kp k2 k3 => ?_⟩
    · obtain ⟨a, b⟩ := cbStep_at (good_at g hn hr) hx
      cases q : (combs r (List.range items.size))[i + 1]? with
      | none =>
        rw [a q] at e
        cases e
      | some y =>
        rw [b y q] at e
        cases e
        have := (combs_sub (List.mem_of_getElem? q)).2
        exact ⟨by omega, fun h' a b c => wpAny_pure (h1 _ q h' a b c)⟩
    · obtain ⟨a, b⟩ := cbStep_at (good_at g hn hr) hx
      cases q : (combs r (List.range items.size))[i + 1]? with
      | some y =>
        rw [b y q] at e
        cases e
      | none =>
        refine wpAny_bind (wpAny_isInstance (T := "StopIteration") (b := true) ⟨oe, k2, k3⟩ isSubtype_stop ?_)
        exact wpAny_pure (h2 q _ kp)
end
end Sr

set_option Elab.async false
set_option linter.all false
set_option maxRecDepth 100000
set_option maxHeartbeats 4000000
namespace Sr
open PySem PySem.Spec PyProof.Rows L2
open Sem (wp)
/-- each choice in a new tuple -/
def Itc (xs : List V) (r : Nat) : It :=
  ⟨fun i _ => i < (combs r xs).length, fun i H v H' => ∃ T c, v = .ref T ∧ H T = none ∧ H' = upd H T (.tup c) ∧ (combs r xs)[i]? = some c, fun i _ => (combs r xs).length ≤ i⟩
theorem turn_comb {P : Program} {w : World} {K : PySem.W.Frag} {tg : Expr} {it pool : Addr} {xs : List V} {us : List Value} {r : Nat} (rv : Vals xs us) (l8 : xs.length ≤ 8) (lr : r ≤ xs.length) (hne : pool ≠ it) :
    Turn P w K tg (Itc xs r) [it, pool] it (fun i h => h.get? pool = some { cls := .type "tuple", data := .seq us.toArray } ∧ (match i with
      | 0 => h.get? it = some (cbO pool 0 .none (List.range r))
      | i + 1 => ∃ last x, (combs r (List.range us.toArray.size))[i]? = some x ∧ h.get? it = some (cbO pool 1 last x))) where
  mem := by simp
  obj := fun i h st b hb => by
    have e' : b = it ∨ b = pool := by simpa using hb
    rcases e' with z | z
    · cases i with
      | zero => rw [z]; exact ⟨_, st.2, fun v q => nomatch q⟩
      | succ i => obtain ⟨last, x, _, h2⟩ := st.2; rw [z]; exact ⟨_, h2, fun v q => nomatch q⟩
    · rw [z]; exact ⟨_, st.1, fun v q => nomatch q⟩
  keep := fun i h h' st k => by
    refine ⟨k pool (by simp) _ st.1, ?_⟩
    cases i with
    | zero => exact k it (by simp) _ st.2
    | succ i => obtain ⟨last, x, h1, h2⟩ := st.2; exact ⟨last, x, h1, k it (by simp) _ h2⟩
  item := by
    intro X hP hw hK hc i pins s σ H E I hf st hg
    subst hP hw hK
    have ls : us.toArray.size = xs.length := by rw [List.size_toArray, rv.length]
    have le : (combs r xs).length = (combs r (List.range us.toArray.size)).length := by rw [combs_pick, List.length_map, ls]
    refine cb_pyNext st.1 rfl hne (I.ok.hd hc) (by omega) (by omega) st.2 (fun nx e h' a b c => ?_) (fun e => absurd e ?_)
    · have hs := combs_sub (List.mem_of_getElem? e)
      refine ⟨_, rfl, go_of a rfl rfl (by decide +kernel) ?_⟩
      have hv : Vals (vPick xs nx) (cbPick us.toArray nx) := vals_pick rv fun j m => by
        have := List.mem_range.mp (hs.1.subset m)
        omega
      have new : ObjOk X.prog X.w (upd H s.heap.objs.size (.tup (vPick xs nx))) h' s.heap.objs.size (.tup (vPick xs nx)) :=
        ⟨by unfold vPick; rw [List.length_map, hs.2, sizeLine_eq]; omega, cbPick us.toArray nx, hv, ⟨_, b, rfl, _, rfl⟩⟩
      have I1 : L2.Inv X pins σ (upd H s.heap.objs.size (.tup (vPick xs nx))) { s with heap := h' } :=
        I.turnedNew (t' := s.toks) (ch := [it]) (fun q o n x => c q o (fun z => n (by simp [z])) x) (fun q m => hf q (by rw [List.mem_singleton.mp m]; simp)) (Nat.le_refl _) new
      refine ⟨.ref s.heap.objs.size, _, I1, rfl, ⟨_, vPick xs nx, rfl, I.hok.fresh (Nat.le_refl _), rfl, ?_⟩, ⟨c pool _ hne st.1, ?_⟩, fun q hb => ?_⟩
      · rw [combs_pick, List.getElem?_map, ← ls, e]
        rfl
      · exact ⟨_, nx, e, a⟩
      · have hl : q < s.heap.objs.size := by
          have e' : q = it ∨ q = pool := by simpa using hb
          rcases e' with z | z
          · rw [z]
            cases i with
            | zero => exact Heap.lt_size st.2
            | succ i => obtain ⟨_, _, _, h2⟩ := st.2; exact Heap.lt_size h2
          · rw [z]; exact Heap.lt_size st.1
        rw [upd_ne (Nat.ne_of_lt hl)]
        exact (hf q hb).1
    · have hg : i < (combs r xs).length := hg
      rw [List.getElem?_eq_none_iff]
      omega
  done := by
    intro X hP hw hK hc i pins s σ H E I hf st hg
    subst hP hw hK
    have ls : us.toArray.size = xs.length := by rw [List.size_toArray, rv.length]
    have le : (combs r xs).length = (combs r (List.range us.toArray.size)).length := by rw [combs_pick, List.length_map, ls]
    have hg : (combs r xs).length ≤ i := hg
    refine cb_pyNext st.1 rfl hne (I.ok.hd hc) (by omega) (by omega) st.2 (fun nx e => ?_) (fun e h' k => ?_)
    · have := (List.getElem?_eq_some_iff.mp e).1
      omega
    · obtain ⟨f0, f1, f2, f3, f4, f5⟩ := hf it (by simp)
      exact ⟨rfl, I.turned (t' := s.toks) (fun b o hb q => k b o hb q) f0 f1 f3 f4 f5⟩
  self := fun A i s Q E st h => by
    cases i with
    | zero => exact cb_pyIter st.2 h
    | succ i => obtain ⟨_, _, _, h2⟩ := st.2; exact cb_pyIter h2 h
def iComb (K : PySem.W.Frag) (ta : TA) : TI := fun σ H R => ta σ H fun vs H1 => ∃ a xs r, vs = [.ref a, .int (r : Nat)] ∧ SqL K H1 a xs ∧ xs.length ≤ 8 ∧ r ≤ xs.length ∧ R (Itc xs r) H1
theorem pi_comb {X : Cx} {tg e e2 : Expr} {ta : TA} {p pos : Pos} (hg : Gl X "combinations") (hm : X.mg "combinations" = some (.type "itertools.combinations")) (ha : PA X [e, e2] ta)
    (hs : starEach [e, e2] X.env = (false, eval e X.env) :: starEach [e2] X.env := by rfl) (hpl : (backTo pos (starEach [e2] X.env)).any (·.1) = false := by rfl) : PI X tg (.Call (.Name "combinations" p) [e, e2] [] pos) (iComb X.K ta) := by
  refine ⟨fun pins s σ H R I h => ?_⟩
  refine Call_ (ld_glob I hg hm (PyProof.Rows.callWith_type1 (thn (ha.run pos pins s σ H _ I h) fun us s1 ⟨vs, H1, I1, r1, q1⟩ => ?_) hs hpl))
  obtain ⟨a, xs, r, ex, hq, l8, lr, q⟩ := q1
  subst ex
  cases r1 with
  | cons ra rr =>
  cases rr with
  | cons rb rr =>
  cases rr
  cases ra
  obtain ⟨t, rfl⟩ := rb
  obtain ⟨its, rv, p', hz⟩ := I1.list hq
  have ln := rv.length
  refine call_comb p'.isList (by rw [List.size_toArray]; omega) (by rw [List.size_toArray]; omega) fun h0 h' pool it k0 hi hp hne l1 l2 k1 => cb_pyIter hi ?_
  have I2 : L2.Inv X pins σ H1 { s1 with heap := h0 } := I1.kept (t' := s1.toks) k0
  have I3 : L2.Inv X pins σ H1 { s1 with heap := h' } := I2.kept (t' := s1.toks) k1
  refine ⟨it, [it, pool], _, _, H1, rfl, I3, turn_comb rv l8 lr hne, ⟨hp, hi⟩, fun b hb => ?_, q⟩
  have hle : h0.objs.size ≤ b := by
    have e' : b = it ∨ b = pool := by simpa using hb
    rcases e' with z | z
    · rw [z]; exact l2
    · rw [z]; exact l1
  exact I2.fpOk hle (I2.hok.fresh hle)
def YComb (cs : List (List V)) (i : Nat) (H : Hp) (v : V) (H' : Hp) : Prop := ∃ T c, v = .ref T ∧ H T = none ∧ H' = upd H T (.tup c) ∧ cs[i]? = some c
theorem walk_comb {xs : List V} {r : Nat} : Walk (Itc xs r) (combs r xs).length (fun _ => True) (YComb (combs r xs)) := by
  refine ⟨fun i _ hi _ => hi, fun _ _ => Nat.le_refl _, fun i H v H' _ _ y => y⟩
end Sr

set_option Elab.async false
set_option linter.all false
set_option maxRecDepth 100000
set_option maxHeartbeats 4000000
namespace K34
open PySem PySem.Spec PyProof.Rows L2 Sr
/-! ### bundles -/
theorem op_notIn_seqK {X : Cx} (K : PySem.W.Frag) (hK : X.K = K) : OpR X (compareOp .NotIn) (rIn K true) := hK ▸ op_notIn_seq
theorem ix_seqK {X : Cx} (K : PySem.W.Frag) (hK : X.K = K) : IxR X (rIx K) := hK ▸ ix_seq
noncomputable def bstep (hs : Hs) (its : Its) (S : List Nat) (found : List (List Nat)) (c : List Nat) : List (List Nat) := if found.any (hasAll c) = true then found else if feasB hs its (S ++ c) = true then found ++ [c] else found
noncomputable def bunL (hs : Hs) (its : Its) (S : List Nat) (m : Nat) (found : List (List Nat)) : List (List Nat) := (combs (m + 1) (rest its S)).foldl (bstep hs its S) found
noncomputable def bunF (hs : Hs) (its : Its) (S : List Nat) : List (List Nat) := (List.range (rest its S).length).foldl (fun found m => bunL hs its S m found) []
noncomputable def foF (hs : Hs) (its : Its) (S : List Nat) (i : Nat) : List (List Nat) := (List.range i).foldl (fun found m => bunL hs its S m found) []
theorem foF_succ (hs : Hs) (its : Its) (S : List Nat) (i : Nat) : foF hs its S (i + 1) = bunL hs its S i (foF hs its S i) := by
  unfold foF
  rw [List.range_succ, List.foldl_append]
  rfl
theorem bstep_mem {hs : Hs} {its : Its} {S b : List Nat} : ∀ {l r : List (List Nat)}, b ∈ l.foldl (bstep hs its S) r → b ∈ r ∨ b ∈ l
  | [], _, h => .inl h
  | c :: l, r, h => by
    rcases bstep_mem (l := l) h with h | h
    · unfold bstep at h
      split at h
      · exact .inl h
      · split at h
        · rcases List.mem_append.mp h with h | h
          · exact .inl h
          · exact .inr (by rw [List.mem_singleton.mp h]; exact List.mem_cons_self ..)
        · exact .inl h
    · exact .inr (List.mem_cons_of_mem _ h)
theorem bstep_len {hs : Hs} {its : Its} {S : List Nat} : ∀ (l r : List (List Nat)), (l.foldl (bstep hs its S) r).length ≤ r.length + l.length
  | [], _ => Nat.le_refl _
  | c :: l, r => by
    have h1 := bstep_len (hs := hs) (its := its) (S := S) l (bstep hs its S r c)
    have h2 : (bstep hs its S r c).length ≤ r.length + 1 := by
      unfold bstep
      split
      · omega
      · split
        · rw [List.length_append]; exact Nat.le_refl _
        · omega
    rw [List.length_cons]
    show (l.foldl (bstep hs its S) (bstep hs its S r c)).length ≤ _
    omega
theorem combs_count {α : Type} : ∀ (r : Nat) (l : List α), (combs r l).length ≤ 2 ^ l.length
  | 0, l => by cases l <;> exact Nat.one_le_two_pow
  | r + 1, [] => Nat.zero_le _
  | r + 1, x :: l => by
    show ((combs r l).map (x :: ·) ++ combs (r + 1) l).length ≤ _
    have h1 := combs_count r l
    have h2 := combs_count (r + 1) l
    rw [List.length_append, List.length_map, List.length_cons, Nat.pow_succ]
    omega
theorem fo_mem {hs : Hs} {its : Its} {S b : List Nat} : ∀ {i : Nat}, b ∈ foF hs its S i → ∃ m, m < i ∧ b ∈ combs (m + 1) (rest its S)
  | 0, h => by cases h
  | i + 1, h => by
    rw [foF_succ] at h
    rcases bstep_mem h with h | h
    · obtain ⟨m, l, e⟩ := fo_mem h
      exact ⟨m, by omega, e⟩
    · exact ⟨i, Nat.lt_succ_self _, h⟩
theorem fo_len {hs : Hs} {its : Its} {S : List Nat} : ∀ i : Nat, (foF hs its S i).length ≤ i * 2 ^ (rest its S).length
  | 0 => Nat.zero_le _
  | i + 1 => by
    rw [foF_succ]
    have h1 := bstep_len (hs := hs) (its := its) (S := S) (combs (i + 1) (rest its S)) (foF hs its S i)
    have h2 := fo_len (hs := hs) (its := its) (S := S) i
    have h3 := combs_count (i + 1) (rest its S)
    rw [Nat.succ_mul]
    show ((combs (i + 1) (rest its S)).foldl (bstep hs its S) (foF hs its S i)).length ≤ _
    omega
theorem combs_nV (r : Nat) (L : List Nat) : combs r (nV L) = (combs r L).map nV := combs_map _ r L
def spBun (K : PySem.W.Frag) : Sp := fun vs H Q _ => ∃ (y : Addr) (v : V) (hs : Hs) (its : Its) (d : Dt) (l : List Dt) (S : List Nat), vs = [.ref y, v] ∧ QueR K H H y hs its ∧ its.length ≤ 8 ∧ Is H v d ∧ seqOfD d = some l ∧ numsOf its.length l = some S ∧ S.Nodup ∧ feas hs its S ∧
  ∀ (H' : Hp) (p : Addr) (us : List V), Same H H' → H p = none → H' p = some (.lst us) → Paired (RowT H') us (bunF hs its S) → Q (.ref p) H'
section
variable {P : Program} {w : World} {K : PySem.W.Frag} {mg : Str → Option Value} {base : Heap}
abbrev s_bundles : Stmt := top 28
theorem sc_bundles : FnScope ["queues", "numbers", "gone", "left", "found", "many", "chosen", "number", "bundle"] ["queues", "numbers"] (defScope s_bundles) := ⟨rfl, rfl, rfl, by decide +kernel, rfl, by decide +kernel, by decide +kernel⟩
theorem c_bundles (T : Txt K mg) (hCo : mg "combinations" = some (.type "itertools.combinations")) (QL : QueL K) (D : Dfn K mg "bundles" s_bundles) (ML : CalM P w K mg base CX0 1 (He.fAd K ("Queues", some "__len__")) ["self"] (spLen K)) (C_check_feasible : Cal P w K mg base 6 "_check_feasible" ["queues", "numbers"] (spCkF K)) (C_is_feasible : Cal P w K mg base 4 "_is_feasible" ["queues", "numbers"] (spIsF K)) (C_has_all : Cal P w K mg base 1 "_has_all" ["chosen", "bundle"] spHas) :
    Cal P w K mg base 7 "bundles" ["queues", "numbers"] (spBun K) := by
  refine D.cal sc_bundles (fun _ _ _ _ _ _ us hl => match us, hl with | [_, _], _ => rfl) (fun vs H Q E h => ?_) fun cdv A outer s H vs Q E hr h => ?_
  · obtain ⟨y, v, hs, its, d, l, S, rfl, _⟩ := h
    rfl
  obtain ⟨y, v, hs, its, d, l, S, rfl, qr, l8, iv, el, en, nd, fe, q⟩ := h
  refine ⟨_, (pss_cons (ps_expr (pe_cal C_check_feasible hr (by first | decide | omega) (by rfl) (pa_cons (pv 0) (pa_cons (pv 1) pa_nil))))
      (pss_cons (ps_set (i := 2) sc_bundles.nd rfl (by first | exact Or.inl rfl | exact Or.inr rfl) (pe_callTy (T := "list") call_list_of (by rfl) T.list (by decide +kernel) (pa_cons (pv 1) pa_nil)))
      (pss_cons (ps_setLc (i := 3) (own := [("number", 7)]) (g := gName 7) rfl sc_bundles.nd rfl rfl (sw_true rfl rfl rfl rfl) (pi_range1 (by rfl) T.range (pa_cons (pe_callB (id := "len") (len_ ML hr (by decide) QL.len QL.lenF) (by rfl) T.len (by decide +kernel) (pa_cons (pv 0) pa_nil)) pa_nil)) (blkOk_by (N := ["queues", "numbers", "gone", "left", "found", "many", "chosen", "number", "bundle"]) (sc := defScope s_bundles) (by decide +kernel)) (fun _ _ _ _ _ => (pg_name (i := 7) sc_bundles.nd rfl (by first | exact Or.inl rfl | exact Or.inr rfl))) (fun _ _ _ _ _ => (pts_one (pt_cmpR (op_notIn_seqK K rfl) (pv 7) (pv 2) (by rfl)))) (fun _ _ _ _ _ => (pv 7)))
      (pss_cons (ps_set (i := 4) sc_bundles.nd rfl (by first | exact Or.inl rfl | exact Or.inr rfl) (pe_lst pa_nil))
      (pss_cons (ps_for PassesOwn.never rfl (pi_range2 (by rfl) T.range (pa_cons pe_int (pa_cons (pe_op op_add (pe_callB (id := "len") call_len_seq (by rfl) T.len (by decide +kernel) (pa_cons (pv 3) pa_nil)) pe_int) pa_nil))) (pg_name (i := 5) sc_bundles.nd rfl (by first | exact Or.inl rfl | exact Or.inr rfl))
      (pss_one (ps_for PassesOwn.never rfl (pi_comb (by rfl) hCo (pa_cons (pv 3) (pa_cons (pv 5) pa_nil))) (pg_name (i := 6) sc_bundles.nd rfl (by first | exact Or.inl rfl | exact Or.inr rfl))
      (pss_one (ps_if (PW.pt (pw_and (pt_not (pt_val (pe_callB (id := "any") (cr_any rfl) (by rfl) T.any (by decide +kernel) (pa_cons (pe_lc (own := [("bundle", 8)]) (g := gName 8) (tt := tYes) rfl sc_bundles.nd (pi_list (pv 4)) (blkOk_by (N := ["queues", "numbers", "gone", "left", "found", "many", "chosen", "number", "bundle"]) (sc := defScope s_bundles) (by decide +kernel)) (fun _ _ _ _ _ => (pg_name (i := 8) sc_bundles.nd rfl (by first | exact Or.inl rfl | exact Or.inr rfl))) (fun _ _ _ _ _ => pts_nil) (fun _ _ _ _ _ => (pe_cal C_has_all hr (by first | decide | omega) (by rfl) (pa_cons (pv 6) (pa_cons (pv 8) pa_nil))))) pa_nil)))) (pw_and1 (pt_val (pe_cal C_is_feasible hr (by first | decide | omega) (by rfl) (pa_cons (pv 0) (pa_cons (pe_op op_cat (pv 2) (pe_callTy (T := "list") call_list_of (by rfl) T.list (by decide +kernel) (pa_cons (pv 6) pa_nil))) pa_nil))))))) (pss_one (ps_expr (pe_bm PySem.F.plainAttrs_list PySem.F.slot_list_append PySem.F.type_list_append mt_append (pv 4) (pa_cons (pv 6) pa_nil)))) pss_nil)))))
      (pss_one (ps_ret (pv 4)))))))), ?_⟩
  have gi : goodIts its := by obtain ⟨_, _, _, _, _, _, _, _, _, _, _, gi⟩ := id qr; exact gi
  have li := gi.1
  obtain ⟨dy, fs, hy⟩ : ∃ dy fs, H y = some (.ins (He.ga K "Queues") dy fs) := by obtain ⟨dy, _, _, _, _, h1, _⟩ := id qr; exact ⟨dy, _, h1⟩
  have okF : isFeas hs its d = true := by
    unfold isFeas
    rw [el]
    show isFeasL hs its l = true
    unfold isFeasL
    rw [en]
    show (decide S.Nodup && feasB hs its S) = true
    rw [decide_eq_true nd, feasB_iff.mpr fe]
    rfl
  obtain ⟨a, xs, o, rfl, ho, so, ia, lx⟩ := iv.seq el
  obtain ⟨rfl, lS⟩ := isA_nums ia en
  have lS8 : S.length ≤ 8 := Nat.le_trans (nodup_lt nd lS) l8
  have lnv : ∀ T : List Nat, (nV T).length = T.length := fun T => by unfold nV; rw [List.length_map]
  refine cut_if (fun σ H' => σ = [some (.ref y), some (.ref a), none, none, none, none, none, none, none] ∧ Same H H') ?_ fun rest_ => ?_
  rotate_left
  · exact ⟨_, rfl, _, rfl, y, .ref a, hs, its, d, rfl, qr, iv, okF, fun H' s => rest_ _ _ ⟨rfl, s⟩⟩
  rintro σ H1 ⟨rfl, s1⟩
  try dsimp only
  refine cut_if (fun σ H' => ∃ g, σ = [some (.ref y), some (.ref a), some (.ref g), none, none, none, none, none, none] ∧ Same H H' ∧ H' g = some (.lst (nV S))) ?_ fun rest_ => ?_
  rotate_left
  · refine ⟨_, rfl, a, nV S, rfl, ?_, fun g hg => rest_ _ _ ⟨g, rfl, s1.trans (Same.up hg), upd_same⟩⟩
    have := s1 _ _ ho
    rcases so with rfl | rfl
    · exact .inl (SqL.of this)
    · exact .inr (SqT.of this)
  rintro σ H2 ⟨g, rfl, s2, hg⟩
  clear s1
  try dsimp only
  refine cut_if (fun σ H' => ∃ lf v7, σ = [some (.ref y), some (.ref a), some (.ref g), some (.ref lf), none, none, none, v7, none] ∧ Same H H' ∧ H' g = some (.lst (nV S)) ∧ H' lf = some (.lst (nV (rest its S)))) ?_ fun rest_ => ?_
  rotate_left
  · refine ⟨_, rfl, y, dy, fs, rfl, s2 _ _ hy, y, hs, its, rfl, qr.mono s2, its.length, rfl, by omega, _, rfl, by omega, by omega, fun B hB => lc_gen walk_range (At := fun i _ x => x = .int (0 + (i : Nat))) (fun _ _ _ _ y => y) (List.range its.length) (fun k => decide (k ∉ S)) (by rw [List.length_range]; exact (Int.toNat_natCast _).symm) (sz (m := 60) (by omega)) hB (fun H' s' => trivial) (Rel := fun _ k y => y = .int (k : Nat)) (fun _ _ _ _ _ h => h) (fun _ _ _ _ _ _ h => h) (fun j u k H5 A Bf lt hu hk s5 kA kB => ?_) (fun H5 acc s5 h5 pr5 => ?_)⟩
    · obtain rfl : j = k := by
        have := (List.getElem?_eq_some_iff.mp hk).2
        rw [List.getElem_range] at this
        exact this
      subst hu
      rw [Int.zero_add]
      refine ⟨rfl, ?_⟩
      refine ⟨_, rfl, _, rfl, g, nV S, rfl, .inl (SqL.of (s5 _ _ hg)), rfl, flat_nV S, _, rfl, ?_⟩
      rw [if_pos rfl, inV_nV]
      by_cases m : j ∈ S
      · rw [decide_eq_true m]
        exact iteF (kB (decide_eq_false fun z => z m) _ fun _ _ z => z)
      · rw [decide_eq_false m]
        exact iteT ⟨_, rfl, kA (decide_eq_true m) _ _ (fun _ _ z => z) rfl⟩
    · rw [eq_map pr5] at h5
      exact rest_ _ _ ⟨B, _, rfl, s2.trans s5, s5 _ _ hg, h5⟩
  rintro σ H3 ⟨lf, v7, rfl, s3, hg3, hl3⟩
  clear s2 hg
  try dsimp only
  refine cut_if (fun σ H' => ∃ p, σ = [some (.ref y), some (.ref a), some (.ref g), some (.ref lf), some (.ref p), none, none, v7, none] ∧ H3 p = none ∧ Same H3 H' ∧ H' p = some (.lst [])) ?_ fun rest_ => ?_
  rotate_left
  · exact ⟨lineN (n := 0), fun p hp => rest_ _ _ ⟨p, rfl, hp, Same.up hp, upd_same⟩⟩
  rintro σ H4 ⟨p, rfl, p3, s34, hp4⟩
  try dsimp only
  have p0 : H p = none := free_below s3 p3
  generalize hL : rest its S = L at hl3
  have ndL : L.Nodup := by rw [← hL]; exact rest_nodup its S
  have memL : ∀ k ∈ L, k < its.length ∧ k ∉ S := fun k m => rest_mem.mp (by rw [hL]; exact m)
  have lL8 : L.length ≤ 8 := Nat.le_trans (nodup_lt ndL fun k m => (memL k m).1) l8
  have old : ∀ {G : Hp}, (∀ b o, b ≠ p → H4 b = some o → G b = some o) → Same H G ∧ G g = some (.lst (nV S)) ∧ G lf = some (.lst (nV L)) := fun {G} kb => by
    refine ⟨fun b o e => kb _ _ (fun z => by rw [z, p0] at e; cases e) (s34 _ _ (s3 _ _ e)), kb _ _ (fun z => by rw [z, p3] at hg3; cases hg3) (s34 _ _ hg3), kb _ _ (fun z => by rw [z, p3] at hl3; cases hl3) (s34 _ _ hl3)⟩
  refine cut_if (fun σ H' => (∃ v5 v6 v8, σ = [some (.ref y), some (.ref a), some (.ref g), some (.ref lf), some (.ref p), v5, v6, v7, v8]) ∧ (∀ b o, b ≠ p → H4 b = some o → H' b = some o) ∧ ∃ us, H' p = some (.lst us) ∧ Paired (RowT H') us (bunF hs its S)) ?_ fun rest_ => ?_
  rotate_left
  · obtain ⟨sA, gA, lA⟩ := old (G := H4) fun _ _ _ e => e
    refine ⟨_, rfl, lf, nV L, rfl, .inl (SqL.of lA), _, _, rfl, rfl, ?_⟩
    rw [lnv]
    refine ⟨_, _, rfl, ⟨by omega, by omega, by omega, by omega⟩, ?_⟩
    let fo : Nat → List (List Nat) := foF hs its S
    refine for_it walk_range (fun i σ H' => (∃ v5 v6 v8, σ = [some (.ref y), some (.ref a), some (.ref g), some (.ref lf), some (.ref p), v5, v6, v7, v8]) ∧ (∀ b o, b ≠ p → H4 b = some o → H' b = some o) ∧ ∃ us, H' p = some (.lst us) ∧ Paired (RowT H') us (fo i)) ⟨⟨_, _, _, rfl⟩, fun _ _ _ e => e, [], hp4, .nil⟩ (fun _ _ _ _ _ => trivial) ?_ ?_
    rotate_left
    · rintro σ H5 ⟨⟨v5, v6, v8, rfl⟩, kb, us, h5, pr⟩
      refine rest_ _ _ ⟨⟨_, _, _, rfl⟩, kb, us, h5, ?_⟩
      have e : ((L.length : Nat) : Int) + 1 - 1 = (L.length : Nat) := by omega
      rw [e, Int.toNat_natCast] at pr
      show Paired _ us ((List.range (rest its S).length).foldl (fun found m => bunL hs its S m found) [])
      rw [hL]
      exact pr
    rintro i x σ H5 H6 hi ⟨⟨v5, v6, v8, rfl⟩, kb, us, h5, pr⟩ ⟨rfl, rfl⟩
    have hi : i < L.length := by omega
    obtain ⟨sA5, gA5, lA5⟩ := old kb
    refine ⟨_, rfl, _, rfl, lf, nV L, i + 1, (by show [V.ref lf, V.int (1 + ((i : Nat) : Int))] = [V.ref lf, V.int (((i + 1 : Nat)) : Int)]; rw [Int.natCast_add, Int.add_comm]; rfl), SqL.of lA5, by rw [lnv]; exact lL8, by rw [lnv]; exact hi, ?_⟩
    refine for_it walk_comb (fun j σ H' => (∃ v6 v8, σ = [some (.ref y), some (.ref a), some (.ref g), some (.ref lf), some (.ref p), some (.int (1 + (i : Nat))), v6, v7, v8]) ∧ (∀ b o, b ≠ p → H4 b = some o → H' b = some o) ∧ ∃ us, H' p = some (.lst us) ∧ Paired (RowT H') us (((combs (i + 1) L).take j).foldl (bstep hs its S) (fo i))) ⟨⟨_, _, rfl⟩, kb, us, h5, pr⟩ (fun _ _ _ _ _ => trivial) ?_ ?_
    rotate_left
    · rintro σ H7 ⟨⟨v6, v8, rfl⟩, kb, us, h7, pr⟩
      refine ⟨⟨_, _, _, rfl⟩, kb, us, h7, ?_⟩
      rw [combs_nV, List.length_map, List.take_length] at pr
      show Paired _ us (foF hs its S (i + 1))
      rw [foF_succ]
      unfold bunL
      rw [hL]
      exact pr
    rintro j x σ H7 H8 hj ⟨⟨v6, v8, rfl⟩, kb, us, h7, pr⟩ ⟨t, cV, rfl, ht, rfl, hc⟩
    rw [combs_nV, List.getElem?_map] at hc
    obtain ⟨c, hc', rfl⟩ := Option.map_eq_some_iff.mp hc
    have etk : (combs (i + 1) L).take (j + 1) = (combs (i + 1) L).take j ++ [c] := by
      rw [List.take_add_one, hc']
      rfl
    rw [etk, List.foldl_append]
    have hb8 : ∀ b ∈ ((combs (i + 1) L).take j).foldl (bstep hs its S) (fo i), b.length ≤ 8 := fun b mb => by
      have sub : b.Sublist L := by
        rcases bstep_mem mb with mb | mb
        · obtain ⟨m, _, e⟩ := fo_mem mb
          rw [hL] at e
          exact (combs_sub e).1
        · exact (combs_sub (List.mem_of_mem_take mb)).1
      exact Nat.le_trans sub.length_le lL8
    have hlen : (((combs (i + 1) L).take j).foldl (bstep hs its S) (fo i)).length ≤ 5000 := by
      have h1 := bstep_len (hs := hs) (its := its) (S := S) ((combs (i + 1) L).take j) (fo i)
      have h2 := fo_len (hs := hs) (its := its) (S := S) i
      have h3 := combs_count (i + 1) L
      have h4 : ((combs (i + 1) L).take j).length ≤ (combs (i + 1) L).length := List.length_take_le' ..
      have h5 : 2 ^ L.length ≤ 2 ^ 8 := Nat.pow_le_pow_right (by decide) lL8
      have h6 : i * 2 ^ L.length ≤ 8 * 2 ^ 8 := Nat.mul_le_mul (by omega) h5
      rw [hL] at h2
      have h2 : (fo i).length ≤ i * 2 ^ L.length := h2
      omega
    generalize ((combs (i + 1) L).take j).foldl (bstep hs its S) (fo i) = rows at pr hb8 hlen ⊢
    have s8 : Same H7 (upd H7 t (.tup (nV c))) := Same.up ht
    have e8 : (upd H7 t (.tup (nV c))) t = some (.tup (nV c)) := upd_same
    generalize upd H7 t (.tup (nV c)) = H8 at s8 e8 ⊢
    have kb8 : ∀ b o, b ≠ p → H4 b = some o → H8 b = some o := fun b o n e => s8 _ _ (kb b o n e)
    have h8 := s8 _ _ h7
    have pr8 : Paired (RowT H8) us rows := L2.Paired.mapP pr fun _ _ ⟨t, e, h⟩ => ⟨t, e, s8 _ _ h⟩
    obtain ⟨sc, lc⟩ := combs_sub (List.mem_of_getElem? hc')
    have lus := Paired.length pr8
    refine ⟨_, rfl, p, rfl, ⟨_, SqL.of h8⟩, fun B hB => lc_f (walk_list (xs := us)) at_any rows (fun b => V.bl (hasAll c b)) lus.symm (sz (m := 5000) (by omega)) hB (fun H' s' => SqL.of (s' _ _ h8)) (fun k u b H9 A lt hu hbk s9 kA => ?_) (fun H9 s9 h9 => ?_)⟩
    · obtain ⟨t2, rfl, ht2⟩ := Paired.at2 (F := RowT H8) pr8 hu hbk
      refine ⟨rfl, _, rfl, _, rfl, t, t2, c, b, rfl, s9 _ _ e8, s9 _ _ ht2, Nat.le_trans (hb8 b (List.mem_of_getElem? hbk)) (by decide), fun H' s' => kA _ s'⟩
    · refine ⟨B, rows.map fun b => hasAll c b, rfl, SqL.of (by rw [h9, List.map_map]; rfl), ?_⟩
      have ea : (rows.map fun b => hasAll c b).any id = rows.any (hasAll c) := by rw [List.any_map]; rfl
      rw [ea]
      refine ⟨_, rfl, ?_⟩
      have kb9 : ∀ b o, b ≠ p → H4 b = some o → H9 b = some o := fun b o n e => s9 _ _ (kb8 b o n e)
      have hp9 := s9 _ _ h8
      have pr9 : Paired (RowT H9) us rows := L2.Paired.mapP pr8 fun _ _ ⟨t, e, h⟩ => ⟨t, e, s9 _ _ h⟩
      show _
      cases eA : rows.any (hasAll c) with
      | true =>
        have eb : List.foldl (bstep hs its S) rows [c] = rows := by
          show bstep hs its S rows c = rows
          unfold bstep
          rw [if_pos eA]
        rw [eb]
        exact iteF (iteF ⟨⟨_, _, rfl⟩, kb9, us, hp9, pr9⟩)
      | false =>
        obtain ⟨sA9, gA9, lA9⟩ := old kb9
        have c8 : c.length ≤ 8 := Nat.le_trans sc.length_le lL8
        have memC : ∀ k ∈ c, k < its.length ∧ k ∉ S := fun k m => memL k (sc.subset m)
        have ndSC : (S ++ c).Nodup := by
          rw [List.nodup_append]
          exact ⟨nd, sc.nodup ndL, fun a ha b hb e => (memC b hb).2 (by rw [← e]; exact ha)⟩
        have ltSC : ∀ k ∈ S ++ c, k < its.length := fun k m => by
          rcases List.mem_append.mp m with m | m
          · exact lS k m
          · exact (memC k m).1
        refine iteT ⟨_, rfl, _, rfl, _, rfl, t, nV c, rfl, .inr (SqT.of (s9 _ _ e8)), fun lo hlo => ?_⟩
        have s10 := Same.up (o := .lst (nV c)) hlo
        have e10 : (upd H9 lo (.lst (nV c))) lo = some (.lst (nV c)) := upd_same
        generalize upd H9 lo _ = H10 at s10 e10 ⊢
        refine ⟨g, lo, nV S, nV c, rfl, rfl, s10 _ _ gA9, e10, Nat.le_of_lt (sz (m := 60) (by rw [lnv, lnv]; omega)), fun z hz => ?_⟩
        have s11 := Same.up (o := .lst (nV S ++ nV c)) hz
        have e11 : (upd H10 z (.lst (nV S ++ nV c))) z = some (.lst (nV (S ++ c))) := by
          rw [upd_same]
          unfold nV
          rw [List.map_append]
        generalize upd H10 z _ = H11 at s11 e11 ⊢
        refine ⟨y, z, hs, its, S ++ c, rfl, qr.mono (sA9.trans (s10.trans s11)), e11, ndSC, ltSC, fun H12 s12 => ⟨_, rfl, ?_⟩⟩
        have s912 : Same H9 H12 := s10.trans (s11.trans s12)
        have hp12 := s912 _ _ hp9
        have kb12 : ∀ b o, b ≠ p → H4 b = some o → H12 b = some o := fun b o n e => s912 _ _ (kb9 b o n e)
        have pr12 : Paired (RowT H12) us rows := L2.Paired.mapP pr9 fun _ _ ⟨t, e, h⟩ => ⟨t, e, s912 _ _ h⟩
        cases eF : feasB hs its (S ++ c) with
        | false =>
          have eb : List.foldl (bstep hs its S) rows [c] = rows := by
            show bstep hs its S rows c = rows
            unfold bstep
            rw [if_neg (by rw [eA]; exact Bool.false_ne_true), if_neg (by rw [eF]; exact Bool.false_ne_true)]
          rw [eb]
          exact iteF ⟨⟨_, _, rfl⟩, kb12, us, hp12, pr12⟩
        | true =>
          have eb : List.foldl (bstep hs its S) rows [c] = rows ++ [c] := by
            show bstep hs its S rows c = rows ++ [c]
            unfold bstep
            rw [if_neg (by rw [eA]; exact Bool.false_ne_true), if_pos eF]
          rw [eb]
          refine iteT ⟨_, rfl, .inl ⟨rfl, _, SqL.of hp12⟩, _, rfl, p, us, _, rfl, rfl, hp12, sz (m := 6000) (by omega), ⟨_, _, rfl⟩, fun b o n e => by rw [upd_ne n]; exact kb12 b o n e, us ++ [.ref t], upd_same, ?_⟩
          have tupk : ∀ b xs, H12 b = some (.tup xs) → (upd H12 p (.lst (us ++ [.ref t]))) b = some (.tup xs) := fun b xs e => by rw [upd_ne fun z => by rw [z, hp12] at e; cases e]; exact e
          exact Sr.Paired.snoc (F := RowT (upd H12 p (.lst (us ++ [.ref t])))) (a := .ref t) (b := c) ⟨t, rfl, tupk _ _ (s912 _ _ (s9 _ _ e8))⟩ (L2.Paired.mapP pr12 fun _ _ ⟨t, e, h⟩ => ⟨t, e, tupk _ _ h⟩)
  rintro σ H5 ⟨⟨v5, v6, v8, rfl⟩, kb, us, h5, pr⟩
  exact ⟨_, rfl, q _ p us (old kb).1 p0 h5 pr⟩
end
end K34

set_option Elab.async false
set_option linter.all false
set_option maxRecDepth 100000
set_option maxHeartbeats 4000000
namespace K34
open PySem PySem.Spec PyProof.Rows L2 Sr
/-! ### the law's own: one by one -/
def spOne : Sp := fun vs H Q _ => ∃ (a c l : Addr) (kv : List (Key × V)) (hs : Hs) (its : Its), vs = [.ref a, .ref c, .ref l] ∧ DnAt 0 H a ∧ (rm H a) c = some (.dK kv) ∧ HldR (rm H a) kv hs ∧ goodH hs ∧ ItL (rm H a) l its ∧ goodIts its ∧ its.length ≤ 6 ∧
  ∀ (H' : Hp) (p : Addr) (S : List Nat) (ns : List Int), DnAt 0 H' a → Same (rm H a) (rm H' a) → (rm H' a) p = some (.lst (ns.map V.int)) → ns.Pairwise (· ≤ ·) → ns.Perm (S.map fun (k : Nat) => (k : Int)) → Ch hs its S → Shut hs its S → Q (.ref p) H'
section
variable {P : Program} {w : World} {K : PySem.W.Frag} {mg : Str → Option Value} {base : Heap}
abbrev s__law_one_by_one : Stmt := top 51
theorem sc__law_one_by_one : FnScope ["draws", "holdings", "items", "found", "able", "some", "k"] ["draws", "holdings", "items"] (defScope s__law_one_by_one) := ⟨rfl, rfl, rfl, by decide +kernel, rfl, by decide +kernel, by decide +kernel⟩
theorem c__law_one_by_one (T : Txt K mg) (D : Dfn K mg "_law_one_by_one" s__law_one_by_one) (C_law_pick : Cal P w K mg base 2 "_law_pick" ["draws", "things"] (spPick K)) (C_law_can : Cal P w K mg base 3 "_law_can" ["holdings", "items", "numbers"] (spCan K)) : Cal P w K mg base 4 "_law_one_by_one" ["draws", "holdings", "items"] spOne := by
  refine D.cal sc__law_one_by_one (fun _ _ _ _ _ _ us hl => match us, hl with | [_, _, _], _ => rfl) (fun vs H Q E h => ?_) fun cdv A outer s H vs Q E hr h => ?_
  · obtain ⟨a, c, l, kv, hs, its, rfl, _⟩ := h
    rfl
  obtain ⟨a, c, l, kv, hs, its, rfl, d0, hc, hh, gh, itl, gi, l6, q⟩ := h
  refine ⟨_, (pss_cons (ps_asg (pe_tup (pa_cons (pe_lst pa_nil) (pa_cons pe_bl pa_nil))) (pg_tup rfl (pgs_cons (pg_name (i := 3) sc__law_one_by_one.nd rfl (by first | exact Or.inl rfl | exact Or.inr rfl)) (pgs_cons (pg_name (i := 4) sc__law_one_by_one.nd rfl (by first | exact Or.inl rfl | exact Or.inr rfl)) pgs_nil))))
      (pss_cons (ps_while PassesOwn.never (pt_val (pv 4)) (pss_cons (ps_setLc (i := 5) (own := [("k", 6)]) (g := gName 6) rfl sc__law_one_by_one.nd rfl rfl (sw_true rfl rfl rfl rfl) (pi_range1 (by rfl) T.range (pa_cons (pe_callB (id := "len") call_len_seq (by rfl) T.len (by decide +kernel) (pa_cons (pv 2) pa_nil)) pa_nil)) (blkOk_by (N := ["draws", "holdings", "items", "found", "able", "some", "k"]) (sc := defScope s__law_one_by_one) (by decide +kernel)) (fun _ _ _ _ _ => (pg_name (i := 6) sc__law_one_by_one.nd rfl (by first | exact Or.inl rfl | exact Or.inr rfl))) (fun _ _ _ _ _ => (pts_one (PW.pt (pw_and (pt_cmpR (op_notIn_seqK K rfl) (pv 6) (pv 3) (by rfl)) (pw_and1 (pt_val (pe_cal C_law_can hr (by first | decide | omega) (by rfl) (pa_cons (pv 1) (pa_cons (pv 2) (pa_cons (pe_op op_cat (pv 3) (pe_lst (pa_cons (pv 6) pa_nil))) pa_nil)))))))))) (fun _ _ _ _ _ => (pv 6)))
      (pss_cons (ps_set (i := 4) sc__law_one_by_one.nd rfl (by first | exact Or.inl rfl | exact Or.inr rfl) (pe_cmpR (op_neD hr.units) (pv 5) (pe_lst pa_nil) (nomark _)))
      (pss_one (ps_set (i := 3) sc__law_one_by_one.nd rfl (by first | exact Or.inl rfl | exact Or.inr rfl) (pe_ifExp (pt_val (pv 4)) (pe_op op_cat (pv 3) (pe_lst (pa_cons (pe_cal C_law_pick hr (by first | decide | omega) (by rfl) (pa_cons (pv 0) (pa_cons (pv 5) pa_nil))) pa_nil))) (pv 3)))))))
      (pss_one (ps_ret (pe_callB (id := "sorted") cr_sorted (by rfl) T.sorted (by decide +kernel) (pa_cons (pv 3) pa_nil)))))), ?_⟩
  obtain ⟨us, hl, isu⟩ := id itl
  have lus : us.length = its.length := by rw [isu.len, List.length_map]
  have li := gi.1
  have lnv : ∀ T : List Nat, (nV T).length = T.length := fun T => by unfold nV; rw [List.length_map]
  let Iv : L2.St → Hp → Prop := fun σ G => ∃ (f : Addr) (S : List Nat) (ab : Bool) (v5 v6 : Option V), σ = [some (.ref a), some (.ref c), some (.ref l), some (.ref f), some (.bl ab), v5, v6] ∧ DnAt 0 G a ∧ Same (rm H a) (rm G a) ∧ (rm G a) f = some (.lst (nV S)) ∧ Ch hs its S ∧ (ab = false → Shut hs its S)
  let mu : L2.St → Hp → Nat := fun σ G => match σ with
    | [_, _, _, some (.ref f), some (.bl true), _, _] => match rm G a f with
      | some (.lst us) => 1 + (its.length - us.length)
      | _ => 0
    | _ => 0
  refine cut_if Iv ?_ fun rest_ => ?_
  rotate_left
  · refine ⟨lineN (n := 0), fun f hf => ⟨lineN (n := 2), fun t ht => ?_⟩⟩
    have nf := d0.new hf
    have d1 : DnAt 0 (upd H f (.lst [])) a := d0.set nf
    have s1 : Same (rm H a) (rm (upd H f (.lst [])) a) := Same.rm (Same.up hf)
    have e1 : (rm (upd H f (.lst [])) a) f = some (.lst (nV [])) := by rw [rm_ne nf]; exact upd_same
    generalize upd H f (.lst []) = H1 at d1 s1 e1 ht ⊢
    have s2 := Same.up (o := .tup [.ref f, .bl true]) ht
    have e2 : (upd H1 t (.tup [.ref f, .bl true])) t = some (.tup [.ref f, .bl true]) := upd_same
    generalize upd H1 t _ = H2 at s2 e2 ⊢
    exact ⟨t, _, rfl, SqT.of e2, rfl, _, _, rfl, _, _, rfl, rfl, rest_ _ _ ⟨f, [], true, _, _, rfl, d1.up s2, s1.trans (Same.rm s2), (Same.rm (a := a) s2) _ _ e1, .nil, (fun z => by cases z)⟩⟩
  rintro σ H2 iv
  try dsimp only
  delta tSeq
  dsimp only
  refine while_by Iv mu iv ?_ ?_
  · rintro σ G ⟨f, S, ab, v5, v6, rfl, dG, sG, hf, ch, sh⟩
    obtain ⟨nd, lt⟩ := ch.nd
    have lS6 : S.length ≤ 6 := Nat.le_trans (nodup_lt nd lt) l6
    cases ab with
    | false =>
      refine ⟨_, rfl, false, rfl, iteF ?_⟩
      have eV : nV S = (S.map fun (k : Nat) => (k : Int)).map V.int := by unfold nV; rw [List.map_map]; rfl
      refine ⟨_, rfl, f, S.map fun (k : Nat) => (k : Int), rfl, SqL.of (by rw [← eV]; exact rm_same _ _ hf), by rw [List.length_map]; omega, fun ns p pm so hp => ?_⟩
      have np := dG.new hp
      exact q _ p S ns (dG.set np) (sG.trans (Same.rm (Same.up hp))) (by rw [rm_ne np]; exact upd_same) so pm ch (sh rfl)
    | true =>
      refine ⟨_, rfl, true, rfl, iteT ?_⟩
      let pF : Nat → Bool := fun k => decide (k ∉ S) && feasB hs its (S ++ [k])
      have hlG := rm_same _ _ (sG _ _ hl)
      have hcG := rm_same _ _ (sG _ _ hc)
      have hhG := (hh.mono sG).mono rm_same
      have itG := (itl.mono sG).mono rm_same
      have hfG := rm_same _ _ hf
      refine ⟨_, rfl, l, us, rfl, .inl (SqL.of hlG), _, rfl, by omega, by omega, fun B hB => lc_gen walk_range (At := fun i _ x => x = .int (0 + (i : Nat))) (fun _ _ _ _ y => y) (List.range its.length) pF (by rw [List.length_range, lus]; exact (Int.toNat_natCast _).symm) (sz (m := 60) (by rw [lus]; omega)) hB (fun H' s' => trivial) (Rel := fun _ k y => y = .int (k : Nat)) (fun _ _ _ _ _ h => h) (fun _ _ _ _ _ _ h => h) (fun j u k H5 A Bf lt2 hu hk s5 kA kB => ?_) (fun H5 acc s5 h5 pr5 => ?_)⟩
      · obtain rfl : j = k := by
          have := (List.getElem?_eq_some_iff.mp hk).2
          rw [List.getElem_range] at this
          exact this
        have lj : j < its.length := by
          have := (List.getElem?_eq_some_iff.mp hk).1
          rw [List.length_range] at this
          exact this
        subst hu
        rw [Int.zero_add]
        refine ⟨rfl, ?_⟩
        refine ⟨_, rfl, _, rfl, f, nV S, rfl, .inl (SqL.of (s5 _ _ hfG)), rfl, flat_nV S, _, rfl, ?_⟩
        rw [if_pos rfl, inV_nV]
        by_cases m : j ∈ S
        · rw [decide_eq_true m]
          have : pF j = false := by
            show (decide (j ∉ S) && _) = false
            rw [decide_eq_false fun z => z m, Bool.false_and]
          exact iteF (iteF (kB this _ fun _ _ z => z))
        · rw [decide_eq_false m]
          have ep : pF j = feasB hs its (S ++ [j]) := by
            show (decide (j ∉ S) && _) = _
            rw [decide_eq_true m, Bool.true_and]
          refine iteT ⟨_, rfl, _, rfl, _, rfl, _, rfl, lineN (n := 1), fun lo hlo => ?_⟩
          have s6 := Same.up (o := .lst [.int (j : Nat)]) hlo
          have e6 : (upd H5 lo (.lst [.int (j : Nat)])) lo = some (.lst [.int (j : Nat)]) := upd_same
          generalize upd H5 lo _ = H6 at s6 e6 ⊢
          refine ⟨f, lo, nV S, [.int (j : Nat)], rfl, rfl, s6 _ _ (s5 _ _ hfG), e6, Nat.le_of_lt (sz (m := 60) (by rw [lnv]; show S.length + 1 ≤ 60; omega)), fun g hg => ?_⟩
          have s7 := Same.up (o := .lst (nV S ++ [.int (j : Nat)])) hg
          have e7 : (upd H6 g (.lst (nV S ++ [.int (j : Nat)]))) g = some (.lst (nV (S ++ [j]))) := by
            rw [upd_same]
            unfold nV
            rw [List.map_append]
            rfl
          generalize upd H6 g _ = H7 at s7 e7 ⊢
          have s57 := s5.trans (s6.trans s7)
          refine ⟨c, l, g, kv, hs, its, S ++ [j], rfl, s57 _ _ hcG, hhG.mono s57, gh, itG.mono s57, gi, ⟨_, .inl rfl, e7⟩, fun k mk => ?_, by rw [List.length_append]; show S.length + 1 ≤ 12; omega, fun H8 s8 => ⟨_, rfl, ?_⟩⟩
          · rcases List.mem_append.mp mk with mk | mk
            · exact lt k mk
            · rw [List.mem_singleton.mp mk]; exact lj
          · cases e : feasB hs its (S ++ [j]) with
            | true => exact iteT ⟨_, rfl, kA (ep.trans e) _ _ (s6.trans (s7.trans s8)) rfl⟩
            | false => exact iteF (kB (ep.trans e) _ (s6.trans (s7.trans s8)))
      · rw [eq_map pr5] at h5
        have h5 : H5 B = some (.lst (nV ((List.range its.length).filter pF))) := h5
        have d5 := dG.up s5
        have memF : ∀ k, k ∈ (List.range its.length).filter pF ↔ k < its.length ∧ k ∉ S ∧ feas hs its (S ++ [k]) := fun k => by
          rw [List.mem_filter, List.mem_range]
          show _ ∧ (decide (k ∉ S) && feasB hs its (S ++ [k])) = true ↔ _
          rw [Bool.and_eq_true, decide_eq_true_iff, feasB_iff]
        have lenF : ((List.range its.length).filter pF).length ≤ 6 := by
          have := List.length_filter_le pF (List.range its.length)
          rw [List.length_range] at this
          omega
        generalize (List.range its.length).filter pF = F at h5 memF lenF
        refine ⟨_, rfl, lineN (n := 0), fun e he => ?_⟩
        have s6 := Same.up (o := .lst []) he
        have e6 : (upd H5 e (.lst [])) e = some (.lst (nV [])) := upd_same
        generalize upd H5 e _ = H6 at s6 e6 ⊢
        refine ⟨iD F, iD [], iD_dp (s6 _ _ h5), iD_dp e6, iD_shaped _, iD_shaped _, ?_⟩
        rw [iD_eqv]
        have d6 := d5.up s6
        have s06 : Same (rm H a) (rm H6 a) := sG.trans (Same.rm (s5.trans s6))
        have hf6 : (rm H6 a) f = some (.lst (nV S)) := (Same.rm (a := a) (s5.trans s6)) _ _ hf
        by_cases eF : F = []
        · rw [decide_eq_true eF]
          refine ⟨_, rfl, false, rfl, iteF ⟨_, rfl, ?_⟩⟩
          refine ⟨⟨f, S, false, _, _, rfl, d6, s06, hf6, ch, fun _ n l' m' fe => ?_⟩, ?_⟩
          · have := (memF n).mpr ⟨l', m', fe⟩
            rw [eF] at this
            cases this
          · show 0 < (match rm G a f with | some (.lst us) => 1 + (its.length - us.length) | _ => 0)
            rw [hf]
            show 0 < 1 + _
            omega
        · rw [decide_eq_false eF]
          have lp : 1 ≤ F.length := List.length_pos_iff.mpr eF
          have nBa : B ≠ a := dG.new hB
          refine ⟨_, rfl, true, rfl, iteT ⟨_, rfl, _, rfl, _, rfl, a, B, nV F, 0, rfl, d6, by decide, nBa, .inl (SqL.of (s6 _ _ h5)), by rw [lnv]; exact lp, by rw [lnv]; omega, fun i v o hv ho => ?_⟩⟩
          obtain ⟨k, hk, rfl⟩ := nV_at hv
          obtain ⟨lk, mk, fk⟩ := (memF k).mp (List.mem_of_getElem? hk)
          have d7 : DnAt 0 (upd H6 a o) a := DnAt.put (n := 0) ho
          have s7 : Same (rm H6 a) (rm (upd H6 a o) a) := rm_put
          generalize upd H6 a o = H7 at d7 s7 ⊢
          refine ⟨lineN (n := 1), fun lo hlo => ?_⟩
          have s8 := Same.up (o := .lst [.int (k : Nat)]) hlo
          have e8 : (upd H7 lo (.lst [.int (k : Nat)])) lo = some (.lst [.int (k : Nat)]) := upd_same
          generalize upd H7 lo _ = H8 at s8 e8 ⊢
          have d8 := d7.up s8
          have s68 := s7.trans (Same.rm (a := a) s8)
          refine ⟨f, lo, nV S, [.int (k : Nat)], rfl, rfl, rm_same _ _ (s68 _ _ hf6), e8, Nat.le_of_lt (sz (m := 60) (by rw [lnv]; show S.length + 1 ≤ 60; omega)), fun f2 hf2 => ?_⟩
          have n2 := d8.new hf2
          have s9 := Same.up (o := .lst (nV S ++ [.int (k : Nat)])) hf2
          have e9 : (upd H8 f2 (.lst (nV S ++ [.int (k : Nat)]))) f2 = some (.lst (nV (S ++ [k]))) := by
            rw [upd_same]
            unfold nV
            rw [List.map_append]
            rfl
          generalize upd H8 f2 _ = H9 at s9 e9 ⊢
          have ch2 : Ch hs its (S ++ [k]) := .snoc ch lk mk fk
          have e9' : (rm H9 a) f2 = some (.lst (nV (S ++ [k]))) := by rw [rm_ne n2]; exact e9
          refine ⟨⟨f2, S ++ [k], true, _, _, rfl, d8.up s9, s06.trans (s68.trans (Same.rm s9)), e9', ch2, (fun z => by cases z)⟩, ?_⟩
          show (match rm H9 a f2 with | some (.lst us) => 1 + (its.length - us.length) | _ => 0) < (match rm G a f with | some (.lst us) => 1 + (its.length - us.length) | _ => 0)
          rw [e9', hf]
          show 1 + (its.length - (nV (S ++ [k])).length) < 1 + (its.length - (nV S).length)
          obtain ⟨nd2, lt2⟩ := ch2.nd
          have := nodup_lt nd2 lt2
          rw [lnv, lnv]
          rw [List.length_append] at this ⊢
          have : S.length + 1 ≤ its.length := this
          show 1 + (its.length - (S.length + 1)) < _
          omega
  · rintro σ G Q1 Q2 hq ⟨v, e, k, tk, h⟩
    exact ⟨v, e, k, tk, hq _ _ h⟩
end
end K34

set_option Elab.async false
set_option linter.all false
set_option maxRecDepth 100000
set_option maxHeartbeats 4000000
namespace K34
open PySem PySem.Spec PyProof.Rows L2 Sr LamX
/-! ### the law's own: the least further sets -/
theorem pi_tupK {X : Cx} (K : PySem.W.Frag) (hK : X.K = K) {tg l : Expr} {tl : TE} (hl : PE X l tl) : PI X tg l (iTup K tl) := hK ▸ pi_tup hl
def moreF (rows : List (List Nat)) (R : List Nat) : List (List Nat) := (rows.filter fun o => decide (R.length < o.length) && hasAll o R).map fun o => o.filter fun k => decide (k ∉ R)
def lstep (found : List (List Nat)) (c : List Nat) : List (List Nat) := if found.any (hasAll c) = true then found else found ++ [c]
def kle (S R : List Nat) : Prop := PySem.W.dataLt (keyP R) (keyP S) = false
def dk : PyData → List Nat
  | .tuple [_, .tuple l] => l.map fun
    | .int i => i.toNat
    | _ => 0
  | _ => []
theorem dk_key (S : List Nat) : dk (keyP S) = S := by
  show (intsP S).map _ = S
  unfold intsP
  rw [List.map_map]
  refine (List.map_congr_left fun k _ => ?_).trans (List.map_id _)
  show ((k : Nat) : Int).toNat = k
  omega
theorem keyed2 {H : Hp} : ∀ {us : List V} {ss : List (List Nat)}, Paired (RowT H) us ss → ∃ zs : List (V × PyData), zs.map (·.1) = us ∧ zs.map (fun z => dk z.2) = ss ∧ ∀ z ∈ zs, RowT H z.1 (dk z.2) ∧ z.2 = keyP (dk z.2)
  | _, _, .nil => ⟨[], rfl, rfl, fun _ m => by cases m⟩
  | _, _, .cons (a := v) (b := S) h r => by
    obtain ⟨zs, e, e2, g⟩ := keyed2 r
    refine ⟨(v, keyP S) :: zs, by rw [List.map_cons, e], by rw [List.map_cons, e2, dk_key], fun z m => ?_⟩
    rcases List.mem_cons.mp m with rfl | m
    · rw [dk_key]
      exact ⟨h, rfl⟩
    · exact g z m
theorem sorted_rows {H : Hp} {zs : List (V × PyData)} {ss : List (List Nat)} (e2 : zs.map (fun z => dk z.2) = ss) (g : ∀ z ∈ zs, RowT H z.1 (dk z.2) ∧ z.2 = keyP (dk z.2)) : ∃ srt : List (List Nat), Paired (RowT H) ((zs.mergeSort (PySem.W.dataLe false (·.2))).map (·.1)) srt ∧ srt.Perm ss ∧ srt.Pairwise kle := by
  have pm := List.mergeSort_perm zs (PySem.W.dataLe false (·.2))
  have TL : PySem.W.TotalLe (PySem.W.dataLe false fun b : V × PyData => b.2) := PySem.W.sortLe_total _ _ _
  have pw : (zs.mergeSort (PySem.W.dataLe false (·.2))).Pairwise fun a b => PySem.W.dataLe false (·.2) a b = true := List.pairwise_mergeSort TL.trans (fun a b => by simpa using TL.total a b) zs
  have mem : ∀ z ∈ zs.mergeSort (PySem.W.dataLe false (·.2)), RowT H z.1 (dk z.2) ∧ z.2 = keyP (dk z.2) := fun z m => g z (pm.mem_iff.mp m)
  refine ⟨(zs.mergeSort (PySem.W.dataLe false (·.2))).map fun z => dk z.2, ?_, ?_, ?_⟩
  · generalize zs.mergeSort (PySem.W.dataLe false (·.2)) = Zs at mem
    induction Zs with
    | nil => exact .nil
    | cons z r ih => exact .cons (mem z (List.mem_cons_self ..)).1 (ih fun z m => mem z (List.mem_cons_of_mem _ m))
  · rw [← e2]
    exact pm.map _
  · rw [List.pairwise_map]
    refine List.Pairwise.imp_of_mem (fun {a b} ma mb h => ?_) pw
    have h : (!PySem.W.dataLt b.2 a.2) = true := h
    rw [(mem a ma).2, (mem b mb).2] at h
    show PySem.W.dataLt (keyP (dk b.2)) (keyP (dk a.2)) = false
    exact Bool.not_eq_true' _ ▸ h
theorem moreF_snoc (l : List (List Nat)) (S R : List Nat) : moreF (l ++ [S]) R = moreF l R ++ if (decide (R.length < S.length) && hasAll S R) = true then [S.filter fun k => decide (k ∉ R)] else [] := by
  unfold moreF
  rw [List.filter_append, List.map_append]
  congr 1
  by_cases c : (decide (R.length < S.length) && hasAll S R) = true
  · rw [if_pos c, List.filter_cons, if_pos c]
    rfl
  · rw [if_neg c, List.filter_cons, if_neg c]
    rfl
def spLeast (P1 P2 : Addr) : Sp := fun vs H Q _ => ∃ (e r : Addr) (us : List V) (rows : List (List Nat)) (R : List Nat), vs = [.ref e, .ref r] ∧ H e = some (.lst us) ∧ Paired (RowT H) us rows ∧ rows.length ≤ 64 ∧ (∀ S ∈ rows, S.length ≤ 6) ∧ H r = some (.tup (nV R)) ∧ R.length ≤ 6 ∧ Tabs (TS0 P1 P2) H ∧
  ∀ (H' : Hp) (p : Addr) (us' : List V) (srt : List (List Nat)), ExtN H H' → (∀ o, H p = some o → ∃ ps, o = .tbl ps) → Tabs (TS0 P1 P2) H' → H' p = some (.lst us') → Paired (RowT H') us' (srt.foldl lstep []) → srt.Perm (moreF rows R) → srt.Pairwise kle → Q (.ref p) H'
section
variable {P : Program} {w : World} {K : PySem.W.Frag} {mg : Str → Option Value} {base : Heap}
abbrev s__law_least : Stmt := top 52
theorem sc__law_least : FnScope ["every", "row", "more", "other", "found", "one", "k", "fewer", "some"] ["every", "row"] (defScope s__law_least) := ⟨rfl, rfl, rfl, by decide +kernel, rfl, by decide +kernel, by decide +kernel⟩
theorem c__law_least {P1 P2 : Addr} (nP : P1 ≠ P2) (T : Txt K mg) (TB : TabB base mg (He.codeOf K ("_law_least", none)) P2) (D : Dfn K mg "_law_least" s__law_least) : Cal P w K mg base 5 "_law_least" ["every", "row"] (spLeast P1 P2) := by
  refine calT D sc__law_least (fun _ _ _ _ _ _ us hl => match us, hl with | [_, _], _ => rfl) (fun vs H Q E h => ?_) fun A outer s H vs Q E hr h => ?_
  · obtain ⟨e, r, us, rows, R, rfl, _⟩ := h
    rfl
  obtain ⟨e, r, us, rows, R, rfl, he, pr, lr, l6, hR, lR, tab, q⟩ := h
  refine ⟨_, PSs.nox (pss_cons (ps_set (i := 2) sc__law_least.nd rfl (by first | exact Or.inl rfl | exact Or.inr rfl) (pe_lst pa_nil))
      (pss_cons (ps_for PassesOwn.never rfl (pi_list (pv 0)) (pg_name (i := 3) sc__law_least.nd rfl (by first | exact Or.inl rfl | exact Or.inr rfl))
      (pss_one (ps_if (PW.pt (pw_and (pt_cmpR op_gt (pe_callB (id := "len") call_len_seq (by rfl) T.len (by decide +kernel) (pa_cons (pv 3) pa_nil)) (pe_callB (id := "len") call_len_seq (by rfl) T.len (by decide +kernel) (pa_cons (pv 1) pa_nil)) (nomark _)) (pw_and1 (pt_val (pe_callB (id := "all") (cr_all rfl) (by rfl) T.all (by decide +kernel) (pa_cons (pe_lc (own := [("k", 6)]) (g := gName 6) (tt := tYes) rfl sc__law_least.nd (pi_tup (pv 1)) (blkOk_by (N := ["every", "row", "more", "other", "found", "one", "k", "fewer", "some"]) (sc := defScope s__law_least) (by decide +kernel)) (fun _ _ _ _ _ => (pg_name (i := 6) sc__law_least.nd rfl (by first | exact Or.inl rfl | exact Or.inr rfl))) (fun _ _ _ _ _ => pts_nil) (fun _ _ _ _ _ => (pe_cmpR (op_in_seqK K rfl) (pv 6) (pv 3) (by rfl)))) pa_nil)))))) (pss_one (ps_expr (pe_bm PySem.F.plainAttrs_list PySem.F.slot_list_append PySem.F.type_list_append mt_append (pv 2) (pa_cons (pe_callTy (T := "tuple") call_tuple_of (by rfl) T.tuple (by decide +kernel) (pa_cons (pe_lc (own := [("k", 6)]) (g := gName 6) rfl sc__law_least.nd (pi_tup (pv 3)) (blkOk_by (N := ["every", "row", "more", "other", "found", "one", "k", "fewer", "some"]) (sc := defScope s__law_least) (by decide +kernel)) (fun _ _ _ _ _ => (pg_name (i := 6) sc__law_least.nd rfl (by first | exact Or.inl rfl | exact Or.inr rfl))) (fun _ _ _ _ _ => (pts_one (pt_cmpR (op_notIn_seqK K rfl) (pv 6) (pv 1) (by rfl)))) (fun _ _ _ _ _ => (pv 6))) pa_nil)) pa_nil)))) pss_nil)))
      (pss_cons (ps_set (i := 4) sc__law_least.nd rfl (by first | exact Or.inl rfl | exact Or.inr rfl) (pe_lst pa_nil))
      (pss_cons (ps_for PassesOwn.never rfl (pi_list (pe_sortLam ("_law_least" ++ ".<locals>.") (j := 8) TB rfl (.tail _ (.head _)) (ts_two nP) hr sc__law_least.nd rfl (pv 2) (fun A outer s H f c' hr => (pe_tup (pa_cons (pe_callB (id := "len") (call_len_seqK K rfl) (by rfl) T.len (by decide +kernel) (pa_cons (pv 8) pa_nil)) (pa_cons (pv 8) pa_nil)))) (lam1_by (by show lam1B (defScope s__law_least) _ _ = true; decide +kernel)) (by rfl) T.sorted (fun _ _ _ _ _ _ => rfl))) (pg_name (i := 5) sc__law_least.nd rfl (by first | exact Or.inl rfl | exact Or.inr rfl))
      (pss_one (ps_if (pt_not (pt_val (pe_callB (id := "any") (cr_any rfl) (by rfl) T.any (by decide +kernel) (pa_cons (pe_lc (own := [("fewer", 7)]) (g := gName 7) (tt := tYes) rfl sc__law_least.nd (pi_list (pv 4)) (blkOk_by (N := ["every", "row", "more", "other", "found", "one", "k", "fewer", "some"]) (sc := defScope s__law_least) (by decide +kernel)) (fun _ _ _ _ _ => (pg_name (i := 7) sc__law_least.nd rfl (by first | exact Or.inl rfl | exact Or.inr rfl))) (fun _ _ _ _ _ => pts_nil) (fun _ _ _ _ _ => (pe_callB (id := "all") (cr_allK K rfl rfl) (by rfl) T.all (by decide +kernel) (pa_cons (pe_lc (own := [("k", 6)]) (g := gName 6) (tt := tYes) rfl sc__law_least.nd (pi_tupK K rfl (pv 7)) (blkOk_c (N := ["every", "row", "more", "other", "found", "one", "k", "fewer", "some"]) (by decide +kernel)) (fun _ _ _ _ _ => (pg_name (i := 6) sc__law_least.nd rfl (by first | exact Or.inl rfl | exact Or.inr rfl))) (fun _ _ _ _ _ => pts_nil) (fun _ _ _ _ _ => (pe_cmpR (op_in_seqK K rfl) (pv 6) (pv 5) (by rfl)))) pa_nil)))) pa_nil)))) (pss_one (ps_expr (pe_bm PySem.F.plainAttrs_list PySem.F.slot_list_append PySem.F.type_list_append mt_append (pv 4) (pa_cons (pv 5) pa_nil)))) pss_nil)))
      (pss_one (ps_ret (pv 4))))))), ?_⟩
  have lnv : ∀ T : List Nat, (nV T).length = T.length := fun T => by unfold nV; rw [List.length_map]
  have lus := Paired.length pr
  refine cut_if (fun σ H' => ∃ m, σ = [some (.ref e), some (.ref r), some (.ref m), none, none, none, none, none, none] ∧ H m = none ∧ Same H H' ∧ H' m = some (.lst [])) ?_ fun rest_ => ?_
  rotate_left
  · exact ⟨lineN (n := 0), fun m hm => rest_ _ _ ⟨m, rfl, hm, Same.up hm, upd_same⟩⟩
  rintro σ H1 ⟨m, rfl, m0, s1, hm1⟩
  try dsimp only
  have keepS : ∀ {G : Hp}, (∀ b o, b ≠ m → H1 b = some o → G b = some o) → Same H G := fun {G} kb b o x => kb _ _ (fun z => by rw [z, m0] at x; cases x) (s1 _ _ x)
  refine cut_if (fun σ H' => ∃ v3 v6 mus, σ = [some (.ref e), some (.ref r), some (.ref m), v3, none, none, v6, none, none] ∧ Same H H' ∧ H' m = some (.lst mus) ∧ Paired (RowT H') mus (moreF rows R)) ?_ fun rest_ => ?_
  rotate_left
  · refine ⟨_, rfl, e, rfl, ⟨_, SqL.of (s1 _ _ he)⟩, for_it (walk_list (xs := us)) (fun i σ H' => (∃ v3 v6, σ = [some (.ref e), some (.ref r), some (.ref m), v3, none, none, v6, none, none]) ∧ (∀ b o, b ≠ m → H1 b = some o → H' b = some o) ∧ ∃ mus, H' m = some (.lst mus) ∧ Paired (RowT H') mus (moreF (rows.take i) R)) ⟨⟨_, _, rfl⟩, fun _ _ _ x => x, [], hm1, .nil⟩ (fun i σ H' _ pp => SqL.of (keepS pp.2.1 _ _ he)) ?_ ?_⟩
    rotate_left
    · rintro σ H2 ⟨⟨v3, v6, rfl⟩, kb, mus, h2, pm⟩
      rw [lus, List.take_length] at pm
      exact rest_ _ _ ⟨_, _, mus, rfl, keepS kb, h2, pm⟩
    rintro i u σ H2 H3 hi ⟨⟨v3, v6, rfl⟩, kb, mus, h2, pm⟩ ⟨rfl, hu⟩
    have hS : rows[i]? = some (rows[i]'(by omega)) := List.getElem?_eq_getElem _
    generalize rows[i]'(by omega) = S at hS
    obtain ⟨t, rfl, ht⟩ := Paired.at2 (F := RowT H) pr hu hS
    have etk : rows.take (i + 1) = rows.take i ++ [S] := by rw [List.take_add_one, hS]; rfl
    rw [etk]
    have sH := keepS kb
    have lS := l6 S (List.mem_of_getElem? hS)
    have lm : mus.length ≤ 64 := by
      rw [Paired.length pm]
      unfold moreF
      rw [List.length_map]
      have h1 := List.length_filter_le (fun o => decide (R.length < o.length) && hasAll o R) (rows.take i)
      have h2 := List.length_take_le i rows
      have h3 : (rows.take i).length ≤ rows.length := List.length_take_le' ..
      omega
    refine ⟨_, rfl, t, nV S, rfl, .inr (SqT.of (sH _ _ ht)), _, rfl, r, nV R, rfl, .inr (SqT.of (sH _ _ hR)), _, _, rfl, rfl, _, rfl, ?_⟩
    rw [lnv, lnv]
    have stay : ∀ {G : Hp}, (decide (R.length < S.length) && hasAll S R) = false → Same H3 G → ∀ v6' : Option V, (∃ v3 v6, ([some (.ref e), some (.ref r), some (.ref m), some (.ref t), none, none, v6', none, none] : L2.St) = [some (.ref e), some (.ref r), some (.ref m), v3, none, none, v6, none, none]) ∧ (∀ b o, b ≠ m → H1 b = some o → G b = some o) ∧ ∃ mus, G m = some (.lst mus) ∧ Paired (RowT G) mus (moreF (rows.take i ++ [S]) R) := fun {G} c s v6' => by
      refine ⟨⟨_, _, rfl⟩, fun b o n x => s _ _ (kb b o n x), mus, s _ _ h2, ?_⟩
      rw [moreF_snoc, if_neg (by rw [c]; exact Bool.false_ne_true), List.append_nil]
      exact L2.Paired.mapP pm fun _ _ ⟨t, x, y⟩ => ⟨t, x, s _ _ y⟩
    by_cases c1 : R.length < S.length
    · rw [decide_eq_true (show ((R.length : Nat) : Int) < ((S.length : Nat) : Int) by omega)]
      refine iteT ⟨_, rfl, r, rfl, ⟨_, SqT.of (sH _ _ hR)⟩, fun B hB => lc_f (walk_tup (xs := nV R)) at_any R (fun k => V.bl (decide (k ∈ S))) (lnv R).symm (sz (m := 60) (by rw [lnv]; omega)) hB (fun H' s' => SqT.of (s' _ _ (sH _ _ hR))) (fun j u k H4 A lt hu hk s4 kA => ?_) (fun H4 s4 h4 => ?_)⟩
      · obtain ⟨k', e1, rfl⟩ := nV_at hu
        rw [hk] at e1
        obtain rfl := Option.some.inj e1
        refine ⟨rfl, _, rfl, _, rfl, t, nV S, rfl, .inr (SqT.of (s4 _ _ (sH _ _ ht))), rfl, flat_nV S, ?_⟩
        rw [if_neg Bool.false_ne_true, inV_nV]
        exact kA _ (Same.refl _)
      · refine ⟨B, R.map fun k => decide (k ∈ S), rfl, SqL.of (by rw [h4, List.map_map]; rfl), ?_⟩
        have ea : (R.map fun k => decide (k ∈ S)).all id = hasAll S R := by rw [List.all_map]; rfl
        rw [ea]
        refine ⟨_, rfl, ?_⟩
        cases c2 : hasAll S R with
        | false => exact iteF (stay (by rw [c2, Bool.and_false]) s4 _)
        | true =>
          refine iteT ?_
          have ht4 := s4 _ _ (sH _ _ ht)
          have hm4 := s4 _ _ h2
          refine ⟨_, rfl, .inl ⟨rfl, _, SqL.of hm4⟩, _, rfl, t, rfl, ⟨_, SqT.of ht4⟩, fun B2 hB2 => lc_gen walk_tup at_any S (fun k => decide (k ∉ R)) (lnv S).symm (sz (m := 60) (by rw [lnv]; omega)) hB2 (fun H' s' => SqT.of (s' _ _ ht4)) (Rel := fun _ k y => y = .int (k : Nat)) (fun _ _ _ _ _ h => h) (fun _ _ _ _ _ _ h => h) (fun j u k H5 A Bf lt2 hu hk s5 kA kB => ?_) (fun H5 acc s5 h5 pr5 => ?_)⟩
          · obtain ⟨k', e1, rfl⟩ := nV_at hu
            rw [hk] at e1
            obtain rfl := Option.some.inj e1
            refine ⟨rfl, _, rfl, _, rfl, r, nV R, rfl, .inr (SqT.of (s5 _ _ (s4 _ _ (sH _ _ hR)))), rfl, flat_nV R, _, rfl, ?_⟩
            rw [if_pos rfl, inV_nV]
            by_cases mR : k ∈ R
            · rw [decide_eq_true mR]
              exact iteF (kB (decide_eq_false fun z => z mR) _ fun _ _ z => z)
            · rw [decide_eq_false mR]
              exact iteT ⟨_, rfl, kA (decide_eq_true mR) _ _ (fun _ _ z => z) rfl⟩
          · rw [eq_map pr5] at h5
            have h5 : H5 B2 = some (.lst (nV (S.filter fun k => decide (k ∉ R)))) := h5
            refine ⟨B2, _, rfl, .inl ⟨SqL.of h5, fun tt htt => ?_⟩⟩
            have s6 := Same.up (o := .tup (nV (S.filter fun k => decide (k ∉ R)))) htt
            have e6 : (upd H5 tt (.tup (nV (S.filter fun k => decide (k ∉ R))))) tt = some (.tup (nV (S.filter fun k => decide (k ∉ R)))) := upd_same
            generalize upd H5 tt _ = H6 at s6 e6 ⊢
            have s36 : Same H3 H6 := s4.trans (s5.trans s6)
            have hm6 := s36 _ _ h2
            refine ⟨m, mus, _, rfl, rfl, hm6, sz (m := 64) lm, ⟨_, _, rfl⟩, fun b o n x => by rw [upd_ne n]; exact s36 _ _ (kb b o n x), mus ++ [.ref tt], upd_same, ?_⟩
            rw [moreF_snoc, if_pos (by rw [c2, decide_eq_true c1]; rfl)]
            have tupk : ∀ b xs, H6 b = some (.tup xs) → (upd H6 m (.lst (mus ++ [.ref tt]))) b = some (.tup xs) := fun b xs x => by rw [upd_ne fun z => by rw [z, hm6] at x; cases x]; exact x
            exact Sr.Paired.snoc (F := RowT (upd H6 m (.lst (mus ++ [.ref tt])))) ⟨tt, rfl, tupk _ _ e6⟩ (L2.Paired.mapP pm fun _ _ ⟨t, x, y⟩ => ⟨t, x, tupk _ _ (s36 _ _ y)⟩)
    · rw [decide_eq_false (show ¬ ((R.length : Nat) : Int) < ((S.length : Nat) : Int) by omega)]
      exact iteF (iteF (stay (by rw [decide_eq_false c1, Bool.false_and]) (Same.refl _) _))
  rintro σ H2 ⟨v3, v6, mus, rfl, s2, h2, pm⟩
  try dsimp only
  refine cut_if (fun σ H' => ∃ f, σ = [some (.ref e), some (.ref r), some (.ref m), v3, some (.ref f), none, v6, none, none] ∧ H2 f = none ∧ Same H2 H' ∧ H' f = some (.lst [])) ?_ fun rest_ => ?_
  rotate_left
  · exact ⟨lineN (n := 0), fun f hf => rest_ _ _ ⟨f, rfl, hf, Same.up hf, upd_same⟩⟩
  rintro σ H3 ⟨f, rfl, f2, s23, hf3⟩
  try dsimp only
  have s3 := s2.trans s23
  have f0 : H f = none := free_below s2 f2
  have lmo : (moreF rows R).length ≤ 64 := by
    unfold moreF
    rw [List.length_map]
    exact Nat.le_trans (List.length_filter_le _ _) lr
  refine ⟨_, rfl, tab.ext s3, fun H4 eN T4 => ?_⟩
  have pm4 : Paired (RowT H4) mus (moreF rows R) := L2.Paired.mapP pm fun _ _ ⟨t, x, y⟩ => ⟨t, x, eN _ _ (s23 _ _ y) (fun _ z => by cases z)⟩
  obtain ⟨zs, ez, e2, gz⟩ := keyed2 pm4
  refine ⟨m, zs, rfl, by rw [ez]; exact SqL.of (eN _ _ (s23 _ _ h2) (fun _ z => by cases z)), fun d md d' md' => ?_, .inl fun d md => ?_, fun z mz => ?_, fun z mz H5 s5 => ?_, fun H5 p s5 n1 n5 => ?_⟩
  · obtain ⟨z, mz, rfl⟩ := List.mem_map.mp md
    obtain ⟨z', mz', rfl⟩ := List.mem_map.mp md'
    rw [(gz z mz).2, (gz z' mz').2]
    exact key_alike _ _
  · obtain ⟨z, mz, rfl⟩ := List.mem_map.mp md
    exact ⟨_, _, (gz z mz).2⟩
  · rw [(gz z mz).2]
    exact key_depth _
  · obtain ⟨⟨t, x, y⟩, eS⟩ := gz z mz
    rw [eS, x]
    have h5 := s5 _ _ y
    generalize dk z.2 = S at h5
    have lS : (nV S).length = S.length := lnv S
    refine ⟨_, rfl, t, nV S, rfl, .inr (SqT.of h5), _, rfl, lineN (n := 2), fun p hp => ⟨Same.up hp, ?_⟩⟩
    refine .tup (SqT.of upd_same) (.cons ?_ (.cons (.tup (SqT.of (Same.up hp _ _ h5)) (ints_dp K _ S)) .nil))
    rw [lS]
    exact .int _
  · obtain ⟨srt, ps, pms, pws⟩ := sorted_rows e2 gz
    generalize (zs.mergeSort (PySem.W.dataLe false (·.2))).map (·.1) = sv at ps
    have s6 := Same.up (o := .lst sv) n5
    have e6 : (upd H5 p (.lst sv)) p = some (.lst sv) := upd_same
    generalize upd H5 p (.lst sv) = H6 at s6 e6 ⊢
    have s46 : Same H4 H6 := s5.trans s6
    have e36 : ExtN H3 H6 := eN.trans (ExtN.of s46)
    have ps6 : Paired (RowT H6) sv srt := L2.Paired.mapP ps fun _ _ ⟨t, x, y⟩ => ⟨t, x, s46 _ _ y⟩
    have hf6 := e36 _ _ hf3 (fun _ z => by cases z)
    have lsv := Paired.length ps6
    have lsr : srt.length ≤ 64 := by rw [pms.length_eq]; exact lmo
    have npf : p ≠ f := fun z => by
      have x := s5 _ _ (eN _ _ hf3 (fun _ z => by cases z))
      rw [← z, n5] at x
      cases x
    have T6 : Tabs (TS0 P1 P2) H6 := T4.ext s46
    have fin : ∀ {G : Hp} {fus : List V}, (∀ b o, b ≠ f → H6 b = some o → G b = some o) → G f = some (.lst fus) → Paired (RowT G) fus (srt.foldl lstep []) → Q (.ref f) G := fun {G fus} kb hg pf => by
      refine q G f fus srt (fun b o x n => kb _ _ (fun z => by rw [z, f0] at x; cases x) (e36 _ _ (s3 _ _ x) n)) (fun o x => by rw [f0] at x; cases x) (Tabs.butL T6 hf6 kb) hg pf pms pws
    refine ⟨p, rfl, ⟨_, SqL.of e6⟩, for_it (walk_list (xs := sv)) (fun i σ H' => (∃ v5 v6 v7, σ = [some (.ref e), some (.ref r), some (.ref m), v3, some (.ref f), v5, v6, v7, none]) ∧ (∀ b o, b ≠ f → H6 b = some o → H' b = some o) ∧ ∃ fus, H' f = some (.lst fus) ∧ Paired (RowT H') fus ((srt.take i).foldl lstep [])) ⟨⟨_, _, _, rfl⟩, fun _ _ _ x => x, [], hf6, .nil⟩ (fun i σ H' _ pp => SqL.of (pp.2.1 _ _ npf e6)) ?_ ?_⟩
    rotate_left
    · rintro σ H7 ⟨⟨v5, v6, v7, rfl⟩, kb, fus, h7, pf⟩
      rw [lsv, List.take_length] at pf
      exact ⟨_, rfl, fin kb h7 pf⟩
    rintro i u σ H7 H8 hi ⟨⟨v5, v6, v7, rfl⟩, kb, fus, h7, pf⟩ ⟨rfl, hu⟩
    have hS : srt[i]? = some (srt[i]'(by omega)) := List.getElem?_eq_getElem _
    generalize srt[i]'(by omega) = c at hS
    obtain ⟨t, rfl, ht⟩ := Paired.at2 (F := RowT H6) ps6 hu hS
    have etk : srt.take (i + 1) = srt.take i ++ [c] := by rw [List.take_add_one, hS]; rfl
    rw [etk, List.foldl_append]
    have tup6 : ∀ b xs, H6 b = some (.tup xs) → H8 b = some (.tup xs) := fun b xs x => kb _ _ (fun z => by rw [z, hf6] at x; cases x) x
    have mem6 : ∀ b ∈ srt, b.length ≤ 6 := fun b mb => by
      obtain ⟨o, mo, rfl⟩ := List.mem_map.mp (pms.mem_iff.mp mb)
      exact Nat.le_trans (List.length_filter_le _ _) (l6 o (List.mem_filter.mp mo).1)
    have hb8 : ∀ b ∈ (srt.take i).foldl lstep [], b.length ≤ 6 := fun b mb => by
      have sub : ∀ (l r : List (List Nat)), b ∈ l.foldl lstep r → b ∈ r ∨ b ∈ l := fun l => by
        induction l with
        | nil => exact fun r h => .inl h
        | cons c l ih =>
          intro r h
          rcases ih _ h with h | h
          · unfold lstep at h
            split at h
            · exact .inl h
            · rcases List.mem_append.mp h with h | h
              · exact .inl h
              · exact .inr (by rw [List.mem_singleton.mp h]; exact List.mem_cons_self ..)
          · exact .inr (List.mem_cons_of_mem _ h)
      rcases sub _ _ mb with x | x
      · cases x
      · exact mem6 b (List.mem_of_mem_take x)
    have hlen : ((srt.take i).foldl lstep []).length ≤ 64 := by
      have sub : ∀ (l r : List (List Nat)), (l.foldl lstep r).length ≤ r.length + l.length := fun l => by
        induction l with
        | nil => exact fun r => Nat.le_refl _
        | cons c l ih =>
          intro r
          have h1 := ih (lstep r c)
          have h2 : (lstep r c).length ≤ r.length + 1 := by
            unfold lstep
            split
            · omega
            · rw [List.length_append]; exact Nat.le_refl _
          rw [List.length_cons]
          show (l.foldl lstep (lstep r c)).length ≤ _
          omega
      have h1 := sub (srt.take i) []
      have h2 : (srt.take i).length ≤ srt.length := List.length_take_le' ..
      have h3 : ([] : List (List Nat)).length = 0 := rfl
      omega
    generalize (srt.take i).foldl lstep [] = fr at pf hb8 hlen ⊢
    have lfu := Paired.length pf
    refine ⟨_, rfl, f, rfl, ⟨_, SqL.of h7⟩, fun B hB => lc_f (walk_list (xs := fus)) at_any fr (fun b => V.bl (hasAll c b)) lfu.symm (sz (m := 64) (by omega)) hB (fun H' s' => SqL.of (s' _ _ h7)) (fun k u b H9 A lt hu hbk s9 kA => ?_) (fun H9 s9 h9 => ?_)⟩
    · obtain ⟨t2, rfl, ht2⟩ := Paired.at2 (F := RowT H8) pf hu hbk
      have lb := hb8 b (List.mem_of_getElem? hbk)
      refine ⟨rfl, _, rfl, t2, rfl, ⟨_, SqT.of (s9 _ _ ht2)⟩, fun B2 hB2 => lc_f (walk_tup (xs := nV b)) at_any b (fun k => V.bl (decide (k ∈ c))) (lnv b).symm (sz (m := 60) (by rw [lnv]; omega)) hB2 (fun H' s' => SqT.of (s' _ _ (s9 _ _ ht2))) (fun j u k H10 A2 lt2 hu2 hk s10 kA2 => ?_) (fun H10 s10 h10 => ?_)⟩
      · obtain ⟨k', e1, rfl⟩ := nV_at hu2
        rw [hk] at e1
        obtain rfl := Option.some.inj e1
        refine ⟨rfl, _, rfl, _, rfl, t, nV c, rfl, .inr (SqT.of (s10 _ _ (s9 _ _ (tup6 _ _ ht)))), rfl, flat_nV c, ?_⟩
        rw [if_neg Bool.false_ne_true, inV_nV]
        exact kA2 _ (Same.refl _)
      · refine ⟨B2, b.map fun k => decide (k ∈ c), rfl, SqL.of (by rw [h10, List.map_map]; rfl), ?_⟩
        have ea : (b.map fun k => decide (k ∈ c)).all id = hasAll c b := by rw [List.all_map]; rfl
        rw [ea]
        exact kA _ s10
    · refine ⟨B, fr.map fun b => hasAll c b, rfl, SqL.of (by rw [h9, List.map_map]; rfl), ?_⟩
      have ea : (fr.map fun b => hasAll c b).any id = fr.any (hasAll c) := by rw [List.any_map]; rfl
      rw [ea]
      refine ⟨_, rfl, ?_⟩
      have kb9 : ∀ b o, b ≠ f → H6 b = some o → H9 b = some o := fun b o n x => s9 _ _ (kb b o n x)
      have hf9 := s9 _ _ h7
      cases eA : fr.any (hasAll c) with
      | true =>
        have eb : List.foldl lstep fr [c] = fr := by
          show lstep fr c = fr
          unfold lstep
          rw [if_pos eA]
        rw [eb]
        exact iteF ⟨⟨_, _, _, rfl⟩, kb9, fus, hf9, L2.Paired.mapP pf fun _ _ ⟨t, x, y⟩ => ⟨t, x, s9 _ _ y⟩⟩
      | false =>
        have eb : List.foldl lstep fr [c] = fr ++ [c] := by
          show lstep fr c = _
          unfold lstep
          rw [if_neg (by rw [eA]; exact Bool.false_ne_true)]
        rw [eb]
        refine iteT ⟨_, rfl, .inl ⟨rfl, _, SqL.of hf9⟩, _, rfl, f, fus, _, rfl, rfl, hf9, sz (m := 64) (by omega), ⟨_, _, _, rfl⟩, fun b o n x => by rw [upd_ne n]; exact kb9 b o n x, fus ++ [.ref t], upd_same, ?_⟩
        have tupk : ∀ b xs, H9 b = some (.tup xs) → (upd H9 f (.lst (fus ++ [.ref t]))) b = some (.tup xs) := fun b xs x => by rw [upd_ne fun z => by rw [z, hf9] at x; cases x]; exact x
        exact Sr.Paired.snoc (F := RowT (upd H9 f (.lst (fus ++ [.ref t])))) ⟨t, rfl, tupk _ _ (s9 _ _ (tup6 _ _ ht))⟩ (L2.Paired.mapP pf fun _ _ ⟨t, x, y⟩ => ⟨t, x, tupk _ _ (s9 _ _ y)⟩)
end
end K34

set_option Elab.async false
set_option linter.all false
set_option maxRecDepth 100000
set_option maxHeartbeats 4000000
namespace K34
open PySem PySem.Spec PyProof.Rows L2 Sr
/-! ### what the law compares, without a heap -/
def allC (L : List Nat) : List (List Nat) := (List.range L.length).flatMap fun m => combs (m + 1) L
theorem bun_all (hs : Hs) (its : Its) (S : List Nat) : bunF hs its S = (allC (rest its S)).foldl (bstep hs its S) [] := by
  unfold bunF allC
  rw [List.foldl_flatMap]
  rfl
theorem step_feas {hs : Hs} {its : Its} {S : List Nat} : ∀ (l f : List (List Nat)), l.foldl (bstep hs its S) f = (l.filter fun c => feasB hs its (S ++ c)).foldl lstep f
  | [], _ => rfl
  | c :: l, f => by
    show l.foldl (bstep hs its S) (bstep hs its S f c) = _
    rw [step_feas l]
    cases e : feasB hs its (S ++ c) with
    | true =>
      rw [List.filter_cons, if_pos e]
      show _ = (l.filter _).foldl lstep (lstep f c)
      congr 1
      unfold bstep lstep
      rw [if_pos e]
    | false =>
      rw [List.filter_cons, if_neg (by rw [e]; exact Bool.false_ne_true)]
      congr 1
      unfold bstep
      split
      · rfl
      · rw [if_neg (by rw [e]; exact Bool.false_ne_true)]
theorem bun_eq (hs : Hs) (its : Its) (S : List Nat) : bunF hs its S = ((allC (rest its S)).filter fun c => feasB hs its (S ++ c)).foldl lstep [] := by
  rw [bun_all, step_feas]
/-! the order -/
def iL (S : List Nat) : List Int := S.map fun (k : Nat) => (k : Int)
theorem iL_inj {S R : List Nat} (h : iL S = iL R) : S = R := by
  unfold iL at h
  exact List.map_inj_right (fun _ _ e => Int.ofNat.inj e) |>.mp h
theorem key_lt (S R : List Nat) : PySem.W.dataLt (keyP S) (keyP R) = decide (S.length < R.length ∨ (S.length = R.length ∧ iL S < iL R)) := by
  have e1 : ∀ S : List Nat, intsP S = (iL S).map PyData.int := fun S => by
    unfold intsP iL
    rw [List.map_map]
    rfl
  have al : PySem.W.alike (.tuple (intsP S)) (.tuple (intsP R)) = true := by
    have := ints_alike S R
    simpa [PySem.W.alike] using this
  unfold keyP
  rw [PySem.W.dataLt_pair (by simp [PySem.W.alike]) al, PySem.W.dataLt_int, PySem.W.dataLt_tuple]
  have e2 : PyProof.Rows.lexLt PyProof.Rows.itemOrd (PySem.W.keyToksAll (intsP S)) (PySem.W.keyToksAll (intsP R)) = decide (iL S < iL R) := by
    rw [e1, e1]
    exact PySem.W.dataLt_ints (iL S) (iL R)
  have e3 : PyData.eqv (.int (S.length : Nat)) (.int (R.length : Nat)) = decide (S.length = R.length) := by
    show (((S.length : Nat) : Int) == ((R.length : Nat) : Int)) = _
    by_cases c : S.length = R.length
    · rw [c]; simp
    · rw [decide_eq_false c]; simp; omega
  have e4 : PyData.eqv (.tuple (intsP S)) (.tuple (intsP R)) = decide (S = R) := iD_eqv S R
  rw [e2, e3, e4]
  by_cases c1 : S.length = R.length
  · rw [if_pos (decide_eq_true c1)]
    by_cases c2 : S = R
    · subst c2
      rw [if_pos (decide_eq_true rfl), decide_eq_false]
      rintro (h | h)
      · omega
      · exact List.lt_irrefl _ h.2
    · rw [if_neg (by rw [decide_eq_false c2]; exact Bool.false_ne_true)]
      congr 1
      exact propext ⟨fun h => .inr ⟨c1, h⟩, fun h => h.elim (fun h => by omega) (·.2)⟩
  · rw [if_neg (by rw [decide_eq_false c1]; exact Bool.false_ne_true)]
    congr 1
    exact propext ⟨fun h => .inl (by omega), fun h => h.elim (fun h => by omega) (fun h => absurd h.1 c1)⟩
def klt (S R : List Nat) : Prop := S.length < R.length ∨ (S.length = R.length ∧ iL S < iL R)
theorem kle_iff {S R : List Nat} : kle S R ↔ ¬ klt R S := by
  unfold kle klt
  rw [key_lt, decide_eq_false_iff_not]
theorem klt_le {S R : List Nat} (h : klt S R) : kle S R := by
  rw [kle_iff]
  rintro (g | g) <;> rcases h with h | h
  · omega
  · omega
  · omega
  · exact List.lt_asymm h.2 g.2
theorem klt_ne {S R : List Nat} (h : klt S R) : S ≠ R := by
  rintro rfl
  rcases h with h | h
  · omega
  · exact List.lt_irrefl _ h.2
theorem kle_anti {S R : List Nat} (h : kle S R) (g : kle R S) : S = R := by
  rw [kle_iff] at h g
  unfold klt at h g
  have l : S.length = R.length := by
    rcases Nat.lt_trichotomy S.length R.length with c | c | c
    · exact absurd (.inl c) g
    · exact c
    · exact absurd (.inl c) h
  refine iL_inj (List.le_antisymm ?_ ?_)
  · exact List.not_lt.mp fun z => h (.inr ⟨l.symm, z⟩)
  · exact List.not_lt.mp fun z => g (.inr ⟨l, z⟩)
theorem combs_lex : ∀ {r : Nat} {L : List Nat}, L.Pairwise (· < ·) → (combs r L).Pairwise fun a b => iL a < iL b
  | 0, L, _ => by cases L <;> exact List.pairwise_singleton _ _
  | r + 1, [], _ => List.Pairwise.nil
  | r + 1, x :: l, h => by
    obtain ⟨h1, h2⟩ := List.pairwise_cons.mp h
    show ((combs r l).map (x :: ·) ++ combs (r + 1) l).Pairwise _
    rw [List.pairwise_append]
    refine ⟨?_, combs_lex h2, fun a ma b mb => ?_⟩
    · rw [List.pairwise_map]
      exact (combs_lex (r := r) h2).imp fun {a b} g => List.cons_lt_cons_iff.mpr (.inr ⟨rfl, g⟩)
    · obtain ⟨a', _, rfl⟩ := List.mem_map.mp ma
      obtain ⟨sb, lb⟩ := combs_sub mb
      cases b with
      | nil => cases lb
      | cons y b' =>
        have := h1 y (sb.subset (List.mem_cons_self ..))
        exact List.cons_lt_cons_iff.mpr (.inl (show ((x : Nat) : Int) < ((y : Nat) : Int) by omega))
theorem allC_klt {L : List Nat} (h : L.Pairwise (· < ·)) : (allC L).Pairwise klt := by
  unfold allC
  rw [List.pairwise_flatMap]
  refine ⟨fun m _ => ?_, List.pairwise_lt_range.imp fun {a b} lt x hx y hy => .inl ?_⟩
  · refine List.Pairwise.imp_of_mem (fun {a b} ma mb g => .inr ⟨?_, g⟩) (combs_lex h)
    rw [(combs_sub ma).2, (combs_sub mb).2]
  · rw [(combs_sub hx).2, (combs_sub hy).2]
    omega
theorem combs_all {α : Type} : ∀ {c l : List α}, c.Sublist l → c ∈ combs c.length l
  | [], l, _ => by cases l <;> exact List.mem_singleton.mpr rfl
  | x :: c, [], h => by cases h
  | x :: c, y :: l, h => by
    show x :: c ∈ (combs c.length l).map (y :: ·) ++ combs (c.length + 1) l
    cases h with
    | cons _ h => exact List.mem_append_right _ (combs_all h)
    | cons_cons _ h => exact List.mem_append_left _ (List.mem_map.mpr ⟨c, combs_all h, rfl⟩)
theorem allC_mem {L c : List Nat} : c ∈ allC L ↔ c.Sublist L ∧ c ≠ [] := by
  unfold allC
  rw [List.mem_flatMap]
  constructor
  · rintro ⟨m, _, h⟩
    obtain ⟨a, b⟩ := combs_sub h
    exact ⟨a, fun z => by rw [z] at b; cases b⟩
  · rintro ⟨h, n⟩
    have l := h.length_le
    have p : 0 < c.length := List.length_pos_iff.mpr n
    refine ⟨c.length - 1, List.mem_range.mpr (by omega), ?_⟩
    rw [Nat.sub_add_cancel p]
    exact combs_all h
theorem filter_in {l c : List Nat} (h : c.Sublist l) (nd : l.Nodup) : l.filter (fun k => decide (k ∈ c)) = c := by
  induction h with
  | slnil => rfl
  | @cons c l a h ih =>
    obtain ⟨n1, n2⟩ := List.nodup_cons.mp nd
    rw [List.filter_cons, if_neg (by rw [decide_eq_false fun m => n1 (h.subset m)]; exact Bool.false_ne_true)]
    exact ih n2
  | @cons_cons c l a h ih =>
    obtain ⟨n1, n2⟩ := List.nodup_cons.mp nd
    rw [List.filter_cons, if_pos (decide_eq_true (List.mem_cons_self ..))]
    congr 1
    refine (List.filter_congr fun k mk => ?_).trans (ih n2)
    have : k ≠ a := fun e => n1 (by rw [← e]; exact mk)
    simp [this]
/-- the least further sets, both ways -/
theorem least_eq {hs : Hs} {its : Its} {rows srt : List (List Nat)} {R : List Nat} (nd : rows.Nodup) (mr : ∀ S, S ∈ rows ↔ S.Sublist (List.range its.length) ∧ feas hs its S) (nR : R.Nodup) (lR : ∀ k ∈ R, k < its.length) (pm : srt.Perm (moreF rows R)) (pw : srt.Pairwise kle) :
    srt.foldl lstep [] = bunF hs its R := by
  rw [bun_eq]
  congr 1
  have rise : (rest its R).Pairwise (· < ·) := List.pairwise_lt_range.filter _
  have kc : ((allC (rest its R)).filter fun c => feasB hs its (R ++ c)).Pairwise klt := (allC_klt rise).filter _
  have has : ∀ {o : List Nat}, hasAll o R = true ↔ ∀ k ∈ R, k ∈ o := fun {o} => by
    unfold hasAll
    rw [List.all_eq_true]
    exact ⟨fun h k m => of_decide_eq_true (h k m), fun h k m => decide_eq_true (h k m)⟩
  have inR : ∀ {o : List Nat}, o ∈ rows → o.Sublist (List.range its.length) := fun m => ((mr _).mp m).1
  have cut_ : ∀ {o : List Nat}, o.Sublist (List.range its.length) → (o.filter fun k => decide (k ∉ R)).Sublist (rest its R) := fun h => h.filter _
  have ndO : ∀ {o : List Nat}, o.Sublist (List.range its.length) → o.Nodup := fun h => h.nodup List.nodup_range
  have memO : ∀ {o : List Nat}, (∀ k ∈ R, k ∈ o) → ∀ k, k ∈ R ++ (o.filter fun k => decide (k ∉ R)) ↔ k ∈ o := fun {o} h k => by
    rw [List.mem_append, List.mem_filter]
    constructor
    · rintro (m | m)
      · exact h k m
      · exact m.1
    · intro m
      by_cases c : k ∈ R
      · exact .inl c
      · exact .inr ⟨m, decide_eq_true c⟩
  have ndA : ∀ {o : List Nat}, o.Nodup → (R ++ (o.filter fun k => decide (k ∉ R))).Nodup := fun {o} h => by
    rw [List.nodup_append]
    refine ⟨nR, h.filter _, fun a ha b hb e => ?_⟩
    have := of_decide_eq_true (List.mem_filter.mp hb).2
    exact this (by rw [← e]; exact ha)
  have ndM : (moreF rows R).Nodup := by
    unfold moreF
    unfold List.Nodup
    rw [List.pairwise_map]
    refine List.Pairwise.imp_of_mem (fun {a b} ma mb n e => n ?_) (nd.filter _)
    obtain ⟨ma, ca⟩ := List.mem_filter.mp ma
    obtain ⟨mb, cb⟩ := List.mem_filter.mp mb
    rw [Bool.and_eq_true] at ca cb
    have h1 := memO (has.mp ca.2)
    have h2 := memO (has.mp cb.2)
    rw [← filter_in (inR ma) List.nodup_range, ← filter_in (inR mb) List.nodup_range]
    refine List.filter_congr fun k _ => ?_
    have : k ∈ a ↔ k ∈ b := by rw [← h1 k, ← h2 k, e]
    by_cases c : k ∈ a
    · rw [decide_eq_true c, decide_eq_true (this.mp c)]
    · rw [decide_eq_false c, decide_eq_false fun z => c (this.mpr z)]
  refine List.Perm.eq_of_pairwise (le := kle) (fun a b _ _ h g => kle_anti h g) pw (kc.imp klt_le) (pm.trans ((List.perm_ext_iff_of_nodup ndM (kc.imp klt_ne)).mpr fun c => ?_))
  unfold moreF
  rw [List.mem_map, List.mem_filter, allC_mem]
  constructor
  · rintro ⟨o, mo, rfl⟩
    obtain ⟨mo, co⟩ := List.mem_filter.mp mo
    rw [Bool.and_eq_true] at co
    have hR := has.mp co.2
    have lo := of_decide_eq_true co.1
    refine ⟨⟨cut_ (inR mo), fun z => ?_⟩, feasB_iff.mpr ((feas_perm (ndA (ndO (inR mo))) (ndO (inR mo)) (memO hR)).mpr ((mr o).mp mo).2)⟩
    have p : (R ++ (o.filter fun k => decide (k ∉ R))).Perm o := (List.perm_ext_iff_of_nodup (ndA (ndO (inR mo))) (ndO (inR mo))).mpr (memO hR)
    have := p.length_eq
    rw [z, List.append_nil] at this
    omega
  · rintro ⟨⟨sc, nc⟩, f⟩
    have f := feasB_iff.mp f
    have cR : ∀ k ∈ c, k < its.length ∧ k ∉ R := fun k m => rest_mem.mp (sc.subset m)
    have ndc : c.Nodup := sc.nodup (rest_nodup its R)
    have ndRc : (R ++ c).Nodup := by
      rw [List.nodup_append]
      exact ⟨nR, ndc, fun a ha b hb e => (cR b hb).2 (by rw [← e]; exact ha)⟩
    have mO : ∀ k, k ∈ (List.range its.length).filter (fun k => decide (k ∈ R ++ c)) ↔ k ∈ R ++ c := fun k => by
      rw [List.mem_filter, List.mem_range, decide_eq_true_iff]
      refine ⟨(·.2), fun m => ⟨?_, m⟩⟩
      rcases List.mem_append.mp m with m | m
      · exact lR k m
      · exact (cR k m).1
    have sO : ((List.range its.length).filter (fun k => decide (k ∈ R ++ c))).Sublist (List.range its.length) := List.filter_sublist
    have p := (List.perm_ext_iff_of_nodup (ndO sO) ndRc).mpr mO
    refine ⟨(List.range its.length).filter (fun k => decide (k ∈ R ++ c)), List.mem_filter.mpr ⟨(mr _).mpr ⟨sO, (feas_perm (ndO sO) ndRc mO).mpr f⟩, ?_⟩, ?_⟩
    · rw [Bool.and_eq_true]
      refine ⟨decide_eq_true ?_, has.mpr fun k m => (mO k).mpr (List.mem_append_left _ m)⟩
      rw [p.length_eq, List.length_append]
      have : 0 < c.length := List.length_pos_iff.mpr nc
      omega
    · rw [List.filter_filter]
      have sub : c.Sublist (List.range its.length) := sc.trans List.filter_sublist
      refine (List.filter_congr fun k _ => ?_).trans (filter_in sub List.nodup_range)
      by_cases m : k ∈ c
      · rw [decide_eq_true (cR k m).2, decide_eq_true (List.mem_append_right R m), decide_eq_true m]
        rfl
      · rw [decide_eq_false m]
        by_cases mR : k ∈ R
        · rw [decide_eq_false fun z => z mR, Bool.false_and]
        · rw [decide_eq_false fun z => (List.mem_append.mp z).elim mR m, Bool.and_false]
end K34

set_option Elab.async false
set_option linter.all false
set_option maxRecDepth 100000
set_option maxHeartbeats 4000000
namespace K34
open PySem PySem.Spec PyProof.Rows L2 Sr
theorem why_less {hs : Hs} {its : Its} (p : posL its) {A B : List Nat} (h : ∀ k ∈ A, k ∈ B) {n : Nat} {y : Why} (o : okWhy hs its A n y) : okWhy hs its B n y := by
  cases y with
  | behind m => exact ⟨h _ o.1, o.2⟩
  | short s =>
    refine ⟨o.1, ?_⟩
    have o2 := o.2
    have : had hs its (rest its B) s ≤ had hs its (rest its A) s := by
      unfold had tsum
      have := sub_set (tak_nn p · s) (rest_nodup its B) (T := rest its A) fun k mk => rest_mem.mpr ⟨(rest_mem.mp mk).1, fun z => (rest_mem.mp mk).2 (h k z)⟩
      omega
    omega
theorem feas_union {hs : Hs} {its : Its} (g : ∀ y t, 0 ≤ amt hs y t) (p : posL its) {S T U : List Nat} (nS : S.Nodup) (lS : ∀ k ∈ S, k < its.length) (nT : T.Nodup) (lT : ∀ k ∈ T, k < its.length) (nU : U.Nodup) (hU : ∀ k, k ∈ U ↔ k ∈ S ∨ k ∈ T) (fS : feas hs its S) (fT : feas hs its T) : feas hs its U := by
  have lU : ∀ k ∈ U, k < its.length := fun k m => ((hU k).mp m).elim (lS k) (lT k)
  have co : ∀ W : List Nat, ∀ k, k < its.length → (k ∈ rest its W ↔ k ∉ W) := fun W k l => by rw [rest_mem]; exact ⟨(·.2), fun m => ⟨l, m⟩⟩
  rw [feas_why g p nU lU (co U)]
  intro n m y o
  rcases (hU n).mp m with m | m
  · refine (feas_why g p nS lS (co S)).mp fS n m y (why_less p (fun k mk => ?_) o)
    exact rest_mem.mpr ⟨(rest_mem.mp mk).1, fun z => (rest_mem.mp mk).2 ((hU k).mpr (.inl z))⟩
  · refine (feas_why g p nT lT (co T)).mp fT n m y (why_less p (fun k mk => ?_) o)
    exact rest_mem.mpr ⟨(rest_mem.mp mk).1, fun z => (rest_mem.mp mk).2 ((hU k).mpr (.inr z))⟩
theorem ch_feas {hs : Hs} {its : Its} (g : goodH hs) (gi : goodIts its) {S : List Nat} (h : Ch hs its S) : feas hs its S := by
  cases h with
  | nil => exact feas_nil g gi
  | snoc _ _ _ f => exact f
/-- one after another ends in the same set -/
theorem ch_in {hs : Hs} {its : Its} (g : goodH hs) (gi : goodIts its) {S R : List Nat} (h : Ch hs its S) (cR : Ch hs its R) (sR : Shut hs its R) : ∀ k ∈ S, k ∈ R := by
  induction h with
  | nil => exact fun k m => by cases m
  | @snoc S n h l nS f ih =>
    intro k m
    rcases List.mem_append.mp m with m | m
    · exact ih k m
    · rw [List.mem_singleton.mp m]
      refine Classical.byContradiction fun z => sR n l z ?_
      obtain ⟨nd, lt⟩ := cR.nd
      obtain ⟨nd2, lt2⟩ := (Ch.snoc h l nS f).nd
      have ndU : (R ++ [n]).Nodup := by
        rw [List.nodup_append]
        exact ⟨nd, by simp, fun a ha b hb e => z (by rw [List.mem_singleton.mp hb] at e; rw [← e]; exact ha)⟩
      refine feas_union (good_amt g) (good_pos gi) nd lt nd2 lt2 ndU (fun k => ?_) (ch_feas g gi cR) f
      rw [List.mem_append, List.mem_append]
      constructor
      · rintro (x | x)
        · exact .inl x
        · exact .inr (.inr x)
      · rintro (x | x | x)
        · exact .inl x
        · exact .inl (ih k x)
        · exact .inr x
theorem feas_great {hs : Hs} {its : Its} {S : List Nat} (nS : S.Nodup) (lS : ∀ k ∈ S, k < its.length) (f : feas hs its S) : ∀ k ∈ S, great hs its k := fun k m => by
  have mO : ∀ k, k ∈ (List.range its.length).filter (fun k => decide (k ∈ S)) ↔ k ∈ S := fun k => by
    rw [List.mem_filter, List.mem_range, decide_eq_true_iff]
    exact ⟨(·.2), fun m => ⟨lS k m, m⟩⟩
  refine ⟨(List.range its.length).filter (fun k => decide (k ∈ S)), List.filter_sublist, ?_, (mO k).mpr m⟩
  exact (feas_perm (List.nodup_range.filter _) nS mO).mpr f
/-- all that is great can be paid together -/
theorem great_feas {hs : Hs} {its : Its} (g : goodH hs) (gi : goodIts its) {G : List Nat} (nG : G.Nodup) (hG : ∀ k, k ∈ G ↔ great hs its k) : feas hs its G ∧ ∀ k ∈ G, k < its.length := by
  have lt : ∀ k ∈ G, k < its.length := fun k m => by
    obtain ⟨S, s, _, mk⟩ := (hG k).mp m
    exact List.mem_range.mp (s.subset mk)
  refine ⟨?_, lt⟩
  have main : ∀ T : List Nat, (∀ k ∈ T, k ∈ G) → ∃ U, U.Nodup ∧ (∀ k ∈ U, k < its.length) ∧ feas hs its U ∧ ∀ k ∈ T, k ∈ U := fun T => by
    induction T with
    | nil => exact fun _ => ⟨[], List.nodup_nil, (fun _ m => by cases m), feas_nil g gi, fun _ m => by cases m⟩
    | cons x T ih =>
      intro h
      obtain ⟨U, a, b, c, d⟩ := ih fun k m => h k (List.mem_cons_of_mem _ m)
      obtain ⟨S, s, f, mk⟩ := (hG x).mp (h x (List.mem_cons_self ..))
      have nS := s.nodup List.nodup_range
      have lS : ∀ k ∈ S, k < its.length := fun k m => List.mem_range.mp (s.subset m)
      have mO : ∀ k, k ∈ (List.range its.length).filter (fun k => decide (k ∈ U ∨ k ∈ S)) ↔ k ∈ U ∨ k ∈ S := fun k => by
        rw [List.mem_filter, List.mem_range, decide_eq_true_iff]
        exact ⟨(·.2), fun m => ⟨m.elim (b k) (lS k), m⟩⟩
      refine ⟨_, List.nodup_range.filter _, fun k m => List.mem_range.mp (List.mem_filter.mp m).1, feas_union (good_amt g) (good_pos gi) a b nS lS (List.nodup_range.filter _) mO c f, fun k m => (mO k).mpr ?_⟩
      rcases List.mem_cons.mp m with rfl | m
      · exact .inr mk
      · exact .inl (d k m)
  obtain ⟨U, a, b, c, d⟩ := main G fun _ m => m
  refine (feas_perm a nG fun k => ⟨fun m => (hG k).mpr (feas_great a b c k m), d k⟩).mp c
theorem lstep_mem {b : List Nat} : ∀ {l r : List (List Nat)}, b ∈ l.foldl lstep r → b ∈ r ∨ b ∈ l
  | [], _, h => .inl h
  | c :: l, r, h => by
    rcases lstep_mem (l := l) h with h | h
    · unfold lstep at h
      split at h
      · exact .inl h
      · rcases List.mem_append.mp h with h | h
        · exact .inl h
        · exact .inr (by rw [List.mem_singleton.mp h]; exact List.mem_cons_self ..)
    · exact .inr (List.mem_cons_of_mem _ h)
theorem lstep_grow : ∀ {l r : List (List Nat)} {b : List Nat}, b ∈ r → b ∈ l.foldl lstep r
  | [], _, _, h => h
  | c :: l, r, b, h => by
    refine lstep_grow (l := l) ?_
    unfold lstep
    split
    · exact h
    · exact List.mem_append_left _ h
theorem bun_mem {hs : Hs} {its : Its} {S c : List Nat} (h : c ∈ bunF hs its S) : c.Sublist (rest its S) ∧ c ≠ [] ∧ feas hs its (S ++ c) := by
  rw [bun_eq] at h
  rcases lstep_mem h with h | h
  · cases h
  · obtain ⟨a, b⟩ := List.mem_filter.mp h
    obtain ⟨x, y⟩ := allC_mem.mp a
    exact ⟨x, y, feasB_iff.mp b⟩
theorem bun_nil {hs : Hs} {its : Its} (g : goodH hs) (gi : goodIts its) {S : List Nat} (nS : S.Nodup) (lS : ∀ k ∈ S, k < its.length) (f : feas hs its S) {G : List Nat} (nG : G.Nodup) (hG : ∀ k, k ∈ G ↔ great hs its k) : bunF hs its S = [] ↔ ∀ k, k ∈ S ↔ k ∈ G := by
  obtain ⟨fG, lG⟩ := great_feas g gi nG hG
  have sub : ∀ k ∈ S, k ∈ G := fun k m => (hG k).mpr (feas_great nS lS f k m)
  constructor
  · intro e
    have no : ∀ c, c ∈ allC (rest its S) → ¬ feas hs its (S ++ c) := fun c m z => by
      rw [bun_eq] at e
      have mf : c ∈ (allC (rest its S)).filter fun c => feasB hs its (S ++ c) := List.mem_filter.mpr ⟨m, feasB_iff.mpr z⟩
      cases q : (allC (rest its S)).filter fun c => feasB hs its (S ++ c) with
      | nil => rw [q] at mf; cases mf
      | cons x l =>
        rw [q] at e
        have : x ∈ (x :: l).foldl lstep [] := lstep_grow (l := l) (List.mem_singleton.mpr rfl)
        rw [e] at this
        cases this
    refine fun k => ⟨sub k, fun m => Classical.byContradiction fun z => ?_⟩
    have mO : ∀ k, k ∈ (rest its S).filter (fun k => decide (k ∈ G)) ↔ k ∉ S ∧ k ∈ G := fun k => by
      rw [List.mem_filter, rest_mem, decide_eq_true_iff]
      exact ⟨fun h => ⟨h.1.2, h.2⟩, fun h => ⟨⟨lG k h.2, h.1⟩, h.2⟩⟩
    refine no ((rest its S).filter fun k => decide (k ∈ G)) (allC_mem.mpr ⟨List.filter_sublist, fun e => ?_⟩) ((feas_perm ?_ nG fun k => ?_).mpr fG)
    · have := (mO k).mpr ⟨z, m⟩
      rw [e] at this
      cases this
    · rw [List.nodup_append]
      exact ⟨nS, (rest_nodup its S).filter _, fun a ha b hb e => ((mO b).mp hb).1 (by rw [← e]; exact ha)⟩
    · rw [List.mem_append, mO]
      exact ⟨fun h => h.elim (sub k) (·.2), fun h => by by_cases c : k ∈ S; exact .inl c; exact .inr ⟨c, h⟩⟩
  · intro e
    cases q : bunF hs its S with
    | nil => rfl
    | cons c l =>
      have m : c ∈ bunF hs its S := by rw [q]; exact List.mem_cons_self ..
      obtain ⟨sc, nc, fc⟩ := bun_mem m
      have ndc : c.Nodup := sc.nodup (rest_nodup its S)
      have cS : ∀ k ∈ c, k < its.length ∧ k ∉ S := fun k m => rest_mem.mp (sc.subset m)
      cases c with
      | nil => exact absurd rfl nc
      | cons x c =>
        have nd : (S ++ x :: c).Nodup := by
          rw [List.nodup_append]
          exact ⟨nS, ndc, fun a ha b hb e => (cS b hb).2 (by rw [← e]; exact ha)⟩
        have := feas_great nd (fun k m => by
          rcases List.mem_append.mp m with m | m
          · exact lS k m
          · exact (cS k m).1) fc x (by simp)
        exact absurd ((e x).mpr ((hG x).mpr this)) (cS x (List.mem_cons_self ..)).2
end K34

set_option Elab.async false
set_option linter.all false
set_option maxRecDepth 100000
set_option maxHeartbeats 4000000
namespace K34
open PySem PySem.Spec PyProof.Rows L2 Sr
theorem within {α : Type} [DecidableEq α] : ∀ {ys T : List α}, ys.Nodup → (∀ k ∈ ys, k ∈ T) → ys.length ≤ T.length
  | [], _, _, _ => Nat.zero_le _
  | y :: r, T, nd, h => by
    obtain ⟨n1, n2⟩ := List.nodup_cons.mp nd
    have my := h y List.mem_cons_self
    have ih := within (T := T.erase y) n2 fun k m => (List.mem_erase_of_ne (fun (e : k = y) => n1 (by rw [← e]; exact m))).mpr (h k (List.mem_cons_of_mem _ m))
    have := List.length_erase_of_mem my
    have pos : 0 < T.length := List.length_pos_of_mem my
    rw [List.length_cons]
    omega
def Far (a b : List Nat) : Prop := hasAll b a = false ∧ a.length ≤ b.length
theorem lstep_far : ∀ {l f : List (List Nat)}, f.Pairwise Far → l.Pairwise (fun a b => a.length ≤ b.length) → (∀ a ∈ f, ∀ b ∈ l, a.length ≤ b.length) → (l.foldl lstep f).Pairwise Far
  | [], _, h, _, _ => h
  | c :: l, f, h, p, q => by
    obtain ⟨p1, p2⟩ := List.pairwise_cons.mp p
    show (l.foldl lstep (lstep f c)).Pairwise Far
    unfold lstep
    split
    · exact lstep_far h p2 fun a ma b mb => q a ma b (List.mem_cons_of_mem _ mb)
    · rename_i nc
      have nc : f.any (hasAll c) = false := by simpa using nc
      refine lstep_far ?_ p2 fun a ma b mb => ?_
      · rw [List.pairwise_append]
        refine ⟨h, List.pairwise_singleton _ _, fun a ma b mb => ?_⟩
        rw [List.mem_singleton.mp mb]
        exact ⟨Bool.eq_false_iff.mpr fun z => by rw [List.any_eq_false] at nc; exact nc a ma z, q a ma c (List.mem_cons_self ..)⟩
      · rcases List.mem_append.mp ma with ma | ma
        · exact q a ma b (List.mem_cons_of_mem _ mb)
        · rw [List.mem_singleton.mp ma]
          exact p1 b mb
theorem has_iff {b a : List Nat} : hasAll b a = true ↔ ∀ k ∈ a, k ∈ b := by
  unfold hasAll
  rw [List.all_eq_true]
  exact ⟨fun h k m => of_decide_eq_true (h k m), fun h k m => decide_eq_true (h k m)⟩
theorem far_ne {x : Nat} {a b : List Nat} (h : Far a b) (e : (a.filter fun k => decide (k ≠ x)) = b.filter fun k => decide (k ≠ x)) : False := by
  have mm : ∀ k, k ≠ x → (k ∈ a ↔ k ∈ b) := fun k n => by
    have h1 : k ∈ (a.filter fun k => decide (k ≠ x)) ↔ k ∈ a := by rw [List.mem_filter, decide_eq_true_iff]; exact ⟨(·.1), fun m => ⟨m, n⟩⟩
    have h2 : k ∈ (b.filter fun k => decide (k ≠ x)) ↔ k ∈ b := by rw [List.mem_filter, decide_eq_true_iff]; exact ⟨(·.1), fun m => ⟨m, n⟩⟩
    rw [← h1, ← h2, e]
  by_cases xa : x ∈ a
  · by_cases xb : x ∈ b
    · have : hasAll b a = true := has_iff.mpr fun k m => by
        by_cases c : k = x
        · rw [c]; exact xb
        · exact (mm k c).mp m
      rw [h.1] at this
      cases this
    · have eb : (b.filter fun k => decide (k ≠ x)) = b := List.filter_eq_self.mpr fun k m => decide_eq_true fun z => xb (by rw [← z]; exact m)
      have la : (a.filter fun k => decide (k ≠ x)).length < a.length := List.length_filter_lt_length_iff_exists.mpr ⟨x, xa, by simp⟩
      rw [e, eb] at la
      have := h.2
      omega
  · have : hasAll b a = true := has_iff.mpr fun k m => (mm k fun z => xa (by rw [← z]; exact m)).mp m
    rw [h.1] at this
    cases this
theorem bun_len {hs : Hs} {its : Its} {S : List Nat} (l6 : its.length ≤ 6) : (bunF hs its S).length ≤ 32 := by
  have rise : (rest its S).Pairwise (· < ·) := List.pairwise_lt_range.filter _
  have far : (bunF hs its S).Pairwise Far := by
    rw [bun_eq]
    refine lstep_far List.Pairwise.nil (((allC_klt rise).filter _).imp fun {a b} h => ?_) fun a m => by cases m
    rcases h with h | h <;> omega
  have mem := fun c (m : c ∈ bunF hs its S) => (bun_mem m).1
  cases q : rest its S with
  | nil =>
    have : bunF hs its S = [] := by
      cases e : bunF hs its S with
      | nil => rfl
      | cons c l =>
        obtain ⟨a, b, _⟩ := bun_mem (show c ∈ bunF hs its S by rw [e]; exact List.mem_cons_self ..)
        rw [q] at a
        exact absurd (List.sublist_nil.mp a) b
    rw [this]
    exact Nat.zero_le _
  | cons x L =>
    rw [q] at rise
    have nx : ∀ k ∈ L, k ≠ x := fun k m => by
      have := (List.pairwise_cons.mp rise).1 k m
      omega
    have nd : ((bunF hs its S).map fun c => c.filter fun k => decide (k ≠ x)).Nodup := by
      unfold List.Nodup
      rw [List.pairwise_map]
      exact far.imp fun h e => far_ne h e
    have sub : ∀ c ∈ (bunF hs its S).map (fun c => c.filter fun k => decide (k ≠ x)), c ∈ subsF L := fun c m => by
      obtain ⟨d, md, rfl⟩ := List.mem_map.mp m
      rw [subs_mem]
      have := mem d md
      rw [q] at this
      have h2 := this.filter fun k => decide (k ≠ x)
      rw [List.filter_cons, if_neg (by simp), List.filter_eq_self.mpr fun k m => decide_eq_true (nx k m)] at h2
      exact h2
    have := within nd sub
    rw [List.length_map, subs_len] at this
    have lr : (rest its S).length ≤ 6 := by
      unfold rest
      have := List.length_filter_le (fun k => decide (k ∉ S)) (List.range its.length)
      rw [List.length_range] at this
      omega
    rw [q, List.length_cons] at lr
    have : 2 ^ L.length ≤ 2 ^ 5 := Nat.pow_le_pow_right (by decide) (by omega)
    have e : 2 ^ 5 = 32 := rfl
    omega
theorem nat_of {ns : List Int} {S : List Nat} (p : ns.Perm (S.map fun (k : Nat) => (k : Int))) (s : ns.Pairwise (· ≤ ·)) : ∃ S' : List Nat, ns.map V.int = nV S' ∧ S'.Perm S ∧ S'.Pairwise (· ≤ ·) := by
  have nn : ∀ i ∈ ns, ∃ k : Nat, k ∈ S ∧ i = (k : Nat) := fun i m => by
    obtain ⟨k, mk, e⟩ := List.mem_map.mp (p.mem_iff.mp m)
    exact ⟨k, mk, e.symm⟩
  have e : ns = (ns.map Int.toNat).map fun (k : Nat) => (k : Int) := by
    rw [List.map_map]
    refine (List.map_id _).symm.trans (List.map_congr_left fun i m => ?_)
    obtain ⟨k, _, rfl⟩ := nn i m
    show ((k : Nat) : Int) = ((((k : Nat) : Int).toNat : Nat) : Int)
    omega
  refine ⟨ns.map Int.toNat, ?_, ?_, ?_⟩
  · conv => lhs; rw [e]
    unfold nV
    rw [List.map_map]
    rfl
  · have := p.map Int.toNat
    rw [List.map_map] at this
    refine this.trans ?_
    rw [show (Int.toNat ∘ fun (k : Nat) => (k : Int)) = id from funext fun k => by show ((k : Nat) : Int).toNat = k; omega, List.map_id]
  · rw [List.pairwise_map]
    exact s.imp fun {a b} h => by omega
theorem sort_one {S T G : List Nat} (p : T.Perm S) (sT : T.Pairwise (· ≤ ·)) (nS : S.Nodup) (sG : G.Pairwise (· < ·)) : T = G ↔ ∀ k, k ∈ S ↔ k ∈ G := by
  constructor
  · rintro rfl k
    exact p.symm.mem_iff
  · intro h
    refine List.Perm.eq_of_pairwise (le := fun a b => a ≤ b) (fun a b _ _ x y => by omega) sT (sG.imp fun h => Nat.le_of_lt h) (p.trans ((List.perm_ext_iff_of_nodup nS (sG.imp fun h => Nat.ne_of_lt h)).mpr h))
/-- rows of numbers as data -/
def rowsD (rows : List (List Nat)) : Dt := .lst (rows.map fun c => .tup (c.map fun k => .int (k : Nat)))
theorem isA_ints {H : Hp} : ∀ S : List Nat, IsA H (nV S) (S.map fun k => Dt.int (k : Nat))
  | [] => .nil
  | _ :: r => .cons (.int _) (isA_ints r)
theorem rows_is {H : Hp} {p : Addr} {us : List V} {rows : List (List Nat)} (hp : H p = some (.lst us)) (pr : Paired (RowT H) us rows) (lr : rows.length ≤ 60) (lc : ∀ c ∈ rows, c.length ≤ 60) : Is H (.ref p) (rowsD rows) := by
  have aux : ∀ {us : List V} {rows : List (List Nat)}, Paired (RowT H) us rows → (∀ c ∈ rows, c.length ≤ 60) → IsA H us (rows.map fun c => .tup (c.map fun k => .int (k : Nat))) := fun {us rows} pr => by
    induction pr with
    | nil => exact fun _ => .nil
    | cons h r ih =>
      intro lc
      obtain ⟨t, rfl, ht⟩ := h
      refine .cons (.tup ht (isA_ints _) ?_) (ih fun c m => lc c (List.mem_cons_of_mem _ m))
      unfold nV
      rw [List.length_map]
      exact lc _ (List.mem_cons_self ..)
  exact .lst hp (aux pr lc) (by rw [Paired.length pr]; exact lr)
end K34

set_option Elab.async false
set_option linter.all false
set_option maxRecDepth 100000
set_option maxHeartbeats 4000000
namespace Sr
open PySem PySem.Spec PyProof.Rows L2
open Sem (wp)
/-! ### sorted(xs) of a tuple of ints -/
theorem sorted_tup {P : Program} {w : World} {A : Around} {E : Value → Shared → Prop} {s : Shared} {l : Addr} {o : Obj} {n : Nat} {vs : List Value} {ns : List Int} {Q : Value → Shared → Prop} (ho : s.heap.get? l = some o) (hc : o.cls = .type "tuple") (hd : o.data = .seq vs.toArray n) (hI : IntsAre vs ns) (few : vs.length < 64)
    (h : ∀ (h0 h' : Heap) (out : Array Value) (ns' : List Int) (e : Nat), (∀ b o, s.heap.get? b = some o → h0.get? b = some o) → (∀ b o, h0.get? b = some o → h'.get? b = some o) → h'.get? h0.objs.size = some (seqObj "list" out e) → IntsAre out.toList ns' → ns'.Perm ns → ns'.Pairwise (· ≤ ·) → Q (.ref h0.objs.size) { s with heap := h' }) :
    wpAny (model P w) A (call (.builtin "sorted") [.ref l]) Q E s := by
  refine Calls.call_function_entry kind_sorted plain_sorted entry_sorted (args_sorted1 _) ?_
  unfold Builtin.«sorted»
  refine wpAny_bind (m := checkCount "sorted" 1 1 _)
    (wpAny_pure ?_)
  refine wpAny_bind (wpAny_collect_seq l (.inr rfl) ho hc hd (fun h0 kp => ?_) (by rw [sizeLine_eq, List.size_toArray]; omega))
  rw [show vs.toArray.toList = vs from List.toList_toArray ..]
  refine wpAny_bind (wpAny_newList ?_)
  have hL : (h0.push (seqObj "list" vs.toArray 0)).get? h0.objs.size = some (seqObj "list" vs.toArray 0) := Heap.get?_push_size _ rfl
  have kL : ∀ b o, h0.get? b = some o → (h0.push (seqObj "list" vs.toArray 0)).get? b = some o := fun b o e => Heap.get?_push_of_some _ e
  have zL : (h0.push (seqObj "list" vs.toArray 0)).objs.size = h0.objs.size + 1 := Heap.size_push ..
  show wpAny _ _ _ _ _ { s with heap := h0.push (seqObj "list" vs.toArray 0) }
  generalize h0.push (seqObj "list" vs.toArray 0) = h1 at hL kL zL ⊢
  refine wpAny_bind (wpAny_holding (wpAny_call_entry slot_list_sort ⟨_, hL, rfl⟩ entry_list_sort ?_ (args_list_sort _)))
  refine list_sort_tree hL hI few fun out ns' a1 a2 a3 => ?_
  refine ⟨_, rfl, wpAny_pure ⟨_, rfl, ?_⟩⟩
  obtain ⟨e, he⟩ := sortedHeap_at (vs := vs) (out := out) hL
  refine h h0 _ out ns' e kp (fun b o x => ?_) he a1 a2 a3
  have lt : b < h0.objs.size := Heap.lt_size x
  rw [sortedHeap_old (Nat.ne_of_lt lt) (show b < h1.objs.size by rw [zL]; exact Nat.lt_succ_of_lt lt)]
  exact kL b o x
section
variable {X : Cx}
def rSortTup (K : PySem.W.Frag) : List V → Hp → VK → Prop := fun vs H Q => ∃ (a : Addr) (ns : List Int), vs = [V.ref a] ∧ SqT K H a (ns.map V.int) ∧ ns.length < 64 ∧ ∀ (ns' : List Int) (p : Addr), ns'.Perm ns → ns'.Pairwise (· ≤ ·) → H p = none → Q (.ref p) (upd H p (.lst (ns'.map V.int)))
theorem cr_sortTup : CallR X (.builtin "sorted") (rSortTup X.K) := by
  intro pins s σ H vs us Q I r h
  obtain ⟨a, ns, rfl, hs, few, q⟩ := h
  obtain ⟨its, rv, ⟨o, ho, hc, n, hd⟩, _⟩ := I.tuple hs
  rw [Vals.ref1 r]
  have hi := rv.ints
  refine sorted_tup ho hc hd hi (by rw [hi.length]; exact few) fun h0 h' out ns' e k0 k1 hn i1 pm so => ?_
  have I1 : L2.Inv X pins σ H { s with heap := h0 } := I.kept (t' := s.toks) k0
  have hlen : (ns'.map V.int).length ≤ sizeLine := by rw [List.length_map, pm.length_eq, sizeLine_eq]; omega
  exact ⟨.ref _, upd H h0.objs.size (.lst (ns'.map V.int)), I1.laid (t' := s.toks) k1 (Nat.le_refl _) ⟨hlen, out.toList, e, vals_of_ints i1, hn⟩, rfl, q ns' _ pm so (I1.hok.fresh (Nat.le_refl _))⟩
end
end Sr

set_option Elab.async false
set_option linter.all false
set_option maxRecDepth 100000
set_option maxHeartbeats 4000000
namespace K34
open PySem PySem.Spec PyProof.Rows L2 Sr LamX
/-! ### a tuple's things in a drawn order -/
def spMixT : Sp := fun vs H Q _ => ∃ (a l : Addr) (xs : List V) (n : Nat), vs = [.ref a, .ref l] ∧ DnAt n H a ∧ n ≤ 1000000 ∧ (rm H a) l = some (.tup xs) ∧ xs.length ≤ 60 ∧
  ∀ (p : Addr) (H' : Hp) (ys : List V), DnAt (n + xs.length) H' a → Same (rm H a) (rm H' a) → (rm H a) p = none → (rm H' a) p = some (.lst ys) → ys.Perm xs → Q (.ref p) H'
section
variable {P : Program} {w : World} {K : PySem.W.Frag} {mg : Str → Option Value} {base : Heap}
theorem c__law_mixedT (T : Txt K mg) (D : Dfn K mg "_law_mixed" s__law_mixed) (C_law_draw : Cal P w K mg base 1 "_law_draw" ["draws", "many"] spDraw) : Cal P w K mg base 2 "_law_mixed" ["draws", "things"] spMixT := by
  refine D.cal sc__law_mixed (fun _ _ _ _ _ _ us hl => match us, hl with | [_, _], _ => rfl) (fun vs H Q E h => ?_) fun cdv A outer s H vs Q E hr h => ?_
  · obtain ⟨a, l, xs, n, rfl, _⟩ := h
    rfl
  obtain ⟨a, l, xs, n, rfl, hd, hb, hl, hz, q⟩ := h
  refine ⟨_, (pss_cons (ps_set (i := 2) sc__law_mixed.nd rfl (by first | exact Or.inl rfl | exact Or.inr rfl) (pe_callTy (T := "list") call_list_of (by rfl) T.list (by decide +kernel) (pa_cons (pv 1) pa_nil)))
      (pss_one (ps_ret (pe_lc (own := [("k", 3)]) (g := gName 3) (tt := tYes) rfl sc__law_mixed.nd (pi_range1 (by rfl) T.range (pa_cons (pe_callB (id := "len") call_len_seq (by rfl) T.len (by decide +kernel) (pa_cons (pv 2) pa_nil)) pa_nil)) (blkOk_by (N := ["draws", "things", "left", "k"]) (sc := defScope s__law_mixed) (by decide +kernel)) (fun _ _ _ _ _ => (pg_name (i := 3) sc__law_mixed.nd rfl (by first | exact Or.inl rfl | exact Or.inr rfl))) (fun _ _ _ _ _ => pts_nil) (fun _ _ _ _ _ => (pe_bmK K rfl PySem.F.plainAttrs_list PySem.F.slot_list_pop PySem.F.type_list_pop mt_popAt (pv 2) (pa_cons (pe_cal C_law_draw hr (by first | decide | omega) (by rfl) (pa_cons (pv 0) (pa_cons (pe_callB (id := "len") (call_len_seqK K rfl) (by rfl) T.len (by decide +kernel) (pa_cons (pv 2) pa_nil)) pa_nil))) pa_nil))))))), ?_⟩
  have hl0 := rm_same _ _ hl
  have nla : l ≠ a := fun z => by rw [z, rm_at] at hl; cases hl
  refine ⟨_, rfl, _, _, rfl, .inr (SqT.of hl0), fun m hm => ?_⟩
  have sm := Same.up (H := H) (o := .lst xs) hm
  have nma := hd.new hm
  have d1 := hd.up sm
  have mm : (rm H a) m = none := by rw [rm_ne nma]; exact hm
  refine ⟨_, rfl, m, _, rfl, .inl (SqL.of upd_same), _, rfl, by omega, by omega, fun D hD => ?_⟩
  have nDa := d1.new hD
  have nDm : D ≠ m := fun z => by rw [z, upd_same] at hD; cases hD
  have hD0 : H D = none := by rw [upd_ne nDm] at hD; exact hD
  have mD : (rm H a) D = none := by rw [rm_ne nDa]; exact hD0
  refine lc_it walk_range (fun i H' => DnAt (n + i) H' a ∧ Same (rm H a) (rm H' a) ∧ ∃ ls acc, H' m = some (.lst ls) ∧ H' D = some (.lst acc) ∧ (acc ++ ls).Perm xs ∧ acc.length = i) ⟨d1.set nDa, same_set (Same.rm sm) mD, xs, [], (upd_ne nDm.symm).trans upd_same, upd_same, List.Perm.refl _, rfl⟩ (fun _ _ _ _ => trivial) (fun i x H1 H2 hi p y => ?_) fun H' p => ?_
  · obtain ⟨rfl, rfl⟩ := y
    obtain ⟨d2, s2, ls, acc, hm2, hD2, pm, la⟩ := p
    have hi' : i < xs.length := by omega
    have ll : acc.length + ls.length = xs.length := by rw [← List.length_append, pm.length_eq]
    refine ⟨rfl, _, rfl, .inl ⟨rfl, _, SqL.of hm2⟩, _, rfl, _, rfl, m, _, rfl, .inl (SqL.of hm2), a, _, n + i, rfl, d2, by omega, by omega, by omega, fun k o q0 q1 ho => ?_⟩
    have lt : k.toNat < ls.length := by omega
    have hy : ls[k.toNat]? = some ls[k.toNat] := List.getElem?_eq_getElem lt
    have pm1 := erase_perm hy
    refine ⟨m, ls, k, k.toNat, ls[k.toNat], rfl, rfl, (upd_ne nma).trans hm2, by omega, by omega, PySem.StrLaws.seqIndex_nonneg q0 (by omega), hy, acc, (upd_ne nDm).trans ((upd_ne nDa).trans hD2), sz (m := 60) (by omega), ?_⟩
    refine ⟨((DnAt.put ho).set nma).set nDa, same_set (same_set (s2.trans rm_put) mm) mD, ls.eraseIdx k.toNat, acc ++ [ls[k.toNat]], (upd_ne nDm.symm).trans upd_same, upd_same, ?_, by rw [List.length_append, la]; rfl⟩
    rw [List.append_assoc]
    exact (List.Perm.append_left acc pm1.symm).trans pm
  · obtain ⟨d2, s2, ls, acc, hm2, hD2, pm, la⟩ := p
    have e0 : ls = [] := by
      have := pm.length_eq
      rw [List.length_append] at this
      exact List.length_eq_zero_iff.mp (by omega)
    subst e0
    rw [List.append_nil] at pm
    exact q D H' acc (d2.le (by omega)) s2 mD (by rw [rm_ne nDa]; exact hD2) pm
end
def spLaw (K : PySem.W.Frag) (P1 P2 : Addr) : Sp := fun vs H Q _ => ∃ (l : Addr) (ns : List Int), vs = [.ref l] ∧ SqL K H l (ns.map V.int) ∧ H P1 = some (.tbl #[]) ∧ H P2 = some (.tbl #[]) ∧ ∀ H', Q (.bl true) H'
def LawInv (K : PySem.W.Frag) (P1 P2 l : Addr) (ns : List Int) (σ : L2.St) (H' : Hp) : Prop :=
  (∃ v1 v2 v3 v4 v5 v6 v7 v8 v9 v10 v11, σ = [some (.ref l), v1, v2, v3, v4, v5, v6, v7, v8, v9, v10, v11]) ∧ SqL K H' l (ns.map V.int) ∧ Tabs (TS0 P1 P2) H'
/-- names of a turn -/
structure Bx where
  l0 : Addr
  a : Addr
  x : Addr
  hd : Addr
  li : Addr
  ev : Addr
  P1 : Addr
  P2 : Addr
  kv : List (Key × V)
  hs : Hs
  hs' : Hs
  its : Its
  us : List V
  rows : List (List Nat)
  ns : List Int
/-- what hangs on no heap -/
structure Fx (b : Bx) : Prop where
  gh : goodH b.hs
  can : Can b.hs b.hs'
  gi : goodIts b.its
  li : b.its.length ≤ 6
  mr : ∀ S, S ∈ b.rows ↔ S.Sublist (List.range b.its.length) ∧ feas b.hs b.its S
  nd : b.rows.Nodup
  lr : b.rows.length ≤ 64
theorem feas_amt' {hs h0 : Hs} (e : ∀ y t, amt hs y t = amt h0 y t) {its : Its} {S : List Nat} : feas hs its S ↔ feas h0 its S := by
  have h : ∀ s, had hs its S s = had h0 its S s := fun s => by
    unfold had
    rw [e]
  unfold feas
  constructor
  · intro f s
    rw [← h s]
    exact f s
  · intro f s
    rw [h s]
    exact f s
theorem Fx.feas {b : Bx} (F : Fx b) {S : List Nat} : K34.feas b.hs' b.its S ↔ K34.feas b.hs b.its S := feas_amt' fun y t => can_amt F.can F.gh y t
theorem Fx.gh' {b : Bx} (F : Fx b) : goodH b.hs' := can_good F.can F.gh
/-- what lies in M -/
structure Fa (K : PySem.W.Frag) (b : Bx) (M : Hp) : Prop where
  sql : SqL K M b.l0 (b.ns.map V.int)
  que : QueR K M M b.x b.hs' b.its
  hd : M b.hd = some (.dK b.kv)
  hld : HldR M b.kv b.hs
  itl : ItL M b.li b.its
  ev : M b.ev = some (.lst b.us)
  pr : Paired (RowT M) b.us b.rows
theorem QueR.ext {K : PySem.W.Frag} {H H' : Hp} {x : Addr} {hs : Hs} {its : Its} (h : QueR K H H x hs its) (e : ExtN H H') : QueR K H' H' x hs its := by
  obtain ⟨dx, c, l, kc, us, h1, h2, h3, h4, h5, h6, h7⟩ := h
  exact ⟨dx, c, l, kc, us, e _ _ h1 (fun _ z => by cases z), e _ _ h2 (fun _ z => by cases z), h3.ext e, e _ _ h4 (fun _ z => by cases z), h5.ext e, h6, h7⟩
theorem Fa.ext {K : PySem.W.Frag} {b : Bx} {M M' : Hp} (f : Fa K b M) (e : ExtN M M') : Fa K b M' :=
  ⟨sql_ext e f.sql, f.que.ext e, e _ _ f.hd (fun _ z => by cases z), f.hld.ext e, f.itl.ext e, e _ _ f.ev (fun _ z => by cases z), L2.Paired.mapP f.pr fun _ _ ⟨t, x, y⟩ => ⟨t, x, e _ _ y (fun _ z => by cases z)⟩⟩
theorem Fa.mono {K : PySem.W.Frag} {b : Bx} {M M' : Hp} (f : Fa K b M) (s : Same M M') : Fa K b M' := f.ext (.of s)
theorem ext_rm {H H' : Hp} {a : Addr} (e : ExtN H H') : ExtN (rm H a) (rm H' a) := fun b o h n => by
  have nb : b ≠ a := fun z => by rw [z, rm_at] at h; cases h
  rw [rm_ne nb] at h ⊢
  exact e _ _ h n
theorem DnAt.ext {n : Nat} {H H' : Hp} {a : Addr} (d : DnAt n H a) (e : ExtN H H') : DnAt n H' a := by
  obtain ⟨o, h, r⟩ := d
  exact ⟨o, e _ _ h (fun ps z => by obtain ⟨x, y, u, e2, _⟩ := r; rw [z] at e2; cases e2), r⟩
theorem tabs_draws {T : List (Addr × Str)} {H H' : Hp} {a : Addr} (t : Tabs T H) (d : DnAt 0 H a) (s : Same (rm H a) (rm H' a)) : Tabs T H' :=
  ((Tabs.off t d.at_).ext s).ext rm_same
/-- what stands through a turn -/
structure Sx (K : PySem.W.Frag) (b : Bx) (H : Hp) : Prop where
  dr : DnAt 0 H b.a
  tab : Tabs (TS0 b.P1 b.P2) H
  fa : Fa K b (rm H b.a)
theorem Sx.same {K : PySem.W.Frag} {b : Bx} {H H' : Hp} (X : Sx K b H) (s : Same H H') : Sx K b H' := ⟨X.dr.up s, X.tab.ext s, X.fa.mono (Same.rm s)⟩
theorem Sx.draws {K : PySem.W.Frag} {b : Bx} {H H' : Hp} (X : Sx K b H) (d : DnAt 0 H' b.a) (s : Same (rm H b.a) (rm H' b.a)) : Sx K b H' := ⟨d, tabs_draws X.tab X.dr s, X.fa.mono s⟩
theorem Sx.ext {K : PySem.W.Frag} {b : Bx} {H H' : Hp} (X : Sx K b H) (e : ExtN H H') (t : Tabs (TS0 b.P1 b.P2) H') : Sx K b H' := ⟨X.dr.ext e, t, X.fa.ext (ext_rm e)⟩
theorem Sx.f {K : PySem.W.Frag} {b : Bx} {H : Hp} (X : Sx K b H) : Fa K b H := X.fa.mono rm_same
section
variable {P : Program} {w : World} {K : PySem.W.Frag} {mg : Str → Option Value} {base : Heap}
abbrev s_law : Stmt := top 53
theorem sc_law : FnScope ["script", "turn", "draws", "again", "holdings", "items", "queues", "every", "row", "greatest", "heard", "k"] ["script"] (defScope s_law) := ⟨rfl, rfl, rfl, by decide +kernel, rfl, by decide +kernel, by decide +kernel⟩
/-- what the law leans on -/
structure LawC (P : Program) (w : World) (K : PySem.W.Frag) (mg : Str → Option Value) (base : Heap) (P1 P2 : Addr) : Prop where
  T : Txt K mg
  O : Que K mg
  MkQ0 : MkQ P w K mg base
  C_law_source : Cal P w K mg base 1 "_law_source" ["script", "turn"] (spSource K)
  C_law_draw : Cal P w K mg base 1 "_law_draw" ["draws", "many"] spDraw
  C_law_pick : Cal P w K mg base 2 "_law_pick" ["draws", "things"] (spPick K)
  C_law_same : Cal P w K mg base 3 "_law_same" ["found", "due"] (spDeep 2)
  C_law_mixed : Cal P w K mg base 2 "_law_mixed" ["draws", "things"] spMixT
  C_law_some_items : Cal P w K mg base 3 "_law_some_items" ["draws", "many"] spSomeI
  C_law_some_holdings : Cal P w K mg base 3 "_law_some_holdings" ["draws"] spSomeH
  C_law_all_can : Cal P w K mg base 6 "_law_all_can" ["holdings", "items"] (spAllC P1 P2)
  C_law_greatest : Cal P w K mg base 7 "_law_greatest" ["holdings", "items"] (spGreat P1 P2)
  C_law_one_by_one : Cal P w K mg base 4 "_law_one_by_one" ["draws", "holdings", "items"] spOne
  C_law_least : Cal P w K mg base 5 "_law_least" ["every", "row"] (spLeast P1 P2)
  C_in_turn : Cal P w K mg base 6 "in_turn" ["queues"] (spTurn K)
  C_bundles : Cal P w K mg base 7 "bundles" ["queues", "numbers"] (spBun K)
abbrev XL (P : Program) (w : World) (K : PySem.W.Frag) (mg : Str → Option Value) (base : Heap) (A : Around) (outer : List Env) (s : Shared) (H : Hp) (E : XK) : Cx := Cx.nox (cxOf CX0 P w K mg base ["script", "turn", "draws", "again", "holdings", "items", "queues", "every", "row", "greatest", "heard", "k"] "law" (defScope s_law) (He.ga K "law") (.ref (He.codeOf K ("law", none))) A outer s H E)
abbrev lawBody : List Stmt := match defBody s_law with
  | x :: _ => bodyFor x
  | _ => []
theorem la_e {P1 P2 : Addr} {A : Around} {outer : List Env} {s : Shared} {H : Hp} {E : XK} (C : LawC P w K mg base P1 P2) (hr : Room 13 (XL P w K mg base A outer s H E).A) :
    ∃ t, PSs (XL P w K mg base A outer s H E) (lawBody.drop 9) t ∧ ∀ (D : Ends) (b : Bx) (r g : Addr) (R Gs : List Nat) (v1 v3 v10 v11 : Option V) (G : Hp), Sx K b G → Fx b → (rm G b.a) r = some (.tup (nV R)) → (rm G b.a) g = some (.lst (nV Gs)) → R.Nodup → R.length ≤ 6 → (∀ k, k ∈ Gs ↔ great b.hs b.its k) → Gs.Pairwise (· < ·) → (∀ k, k ∈ R ↔ k ∈ Gs) →
      (∀ σ H', LawInv K b.P1 b.P2 b.l0 b.ns σ H' → D.nx σ H') →
      t D [some (.ref b.l0), v1, some (.ref b.a), v3, some (.ref b.hd), some (.ref b.li), some (.ref b.x), some (.ref b.ev), some (.ref r), some (.ref g), v10, v11] G := by
  obtain ⟨T, O, MkQ0, C_law_source, C_law_draw, C_law_pick, C_law_same, C_law_mixed, C_law_some_items, C_law_some_holdings, C_law_all_can, C_law_greatest, C_law_one_by_one, C_law_least, C_in_turn, C_bundles⟩ := C
  refine ⟨_, (pss_cons (ps_if (pt_cmpR (op_neD hr.units) (pe_callB (id := "sorted") cr_sortTup (by rfl) T.sorted (by decide +kernel) (pa_cons (pv 8) pa_nil)) (pv 9) (nomark _)) (pss_one (ps_ret pe_bl)) pss_nil)
      (pss_one (ps_if (pt_not (pt_val (pe_callB (id := "all") (cr_all rfl) (by rfl) T.all (by decide +kernel) (pa_cons (pe_lc (own := [("k", 11)]) (g := gName 11) (tt := tYes) rfl sc_law.nd (pi_list (pe_cal C_in_turn hr (by first | decide | omega) (by rfl) (pa_cons (pv 6) pa_nil))) (blkOk_by (N := ["script", "turn", "draws", "again", "holdings", "items", "queues", "every", "row", "greatest", "heard", "k"]) (sc := defScope s_law) (by decide +kernel)) (fun _ _ _ _ _ => (pg_name (i := 11) sc_law.nd rfl (by first | exact Or.inl rfl | exact Or.inr rfl))) (fun _ _ _ _ _ => pts_nil) (fun _ _ _ _ _ => (pe_cmpR (op_in_seqK K rfl) (pv 11) (pv 9) (by rfl)))) pa_nil)))) (pss_one (ps_ret pe_bl)) pss_nil))), ?_⟩
  intro D b r g R Gs v1 v3 v10 v11 G X F hR hg nR lR hG sG eq q
  have eV : nV R = (R.map fun (k : Nat) => (k : Int)).map V.int := by unfold nV; rw [List.map_map]; rfl
  refine cut_if (fun σ H' => σ = [some (.ref b.l0), v1, some (.ref b.a), v3, some (.ref b.hd), some (.ref b.li), some (.ref b.x), some (.ref b.ev), some (.ref r), some (.ref g), v10, v11] ∧ Sx K b H' ∧ (rm H' b.a) g = some (.lst (nV Gs))) ?_ fun rest_ => ?_
  rotate_left
  · refine ⟨_, rfl, r, R.map fun (k : Nat) => (k : Int), rfl, SqT.of (by rw [← eV]; exact rm_same _ _ hR), by rw [List.length_map]; omega, fun ns p pm so hp => ?_⟩
    obtain ⟨S', e', pS, sS⟩ := nat_of pm so
    rw [e']
    have s1 := Same.up (o := .lst (nV S')) hp
    have e1 : (upd G p (.lst (nV S'))) p = some (.lst (nV S')) := upd_same
    generalize upd G p _ = G1 at s1 e1 ⊢
    refine ⟨_, rfl, iD S', iD Gs, iD_dp e1, iD_dp (s1 _ _ (rm_same _ _ hg)), iD_shaped _, iD_shaped _, ?_⟩
    rw [iD_eqv, decide_eq_true ((sort_one pS sS nR sG).mpr eq)]
    exact ⟨_, rfl, iteF (rest_ _ _ ⟨rfl, X.same s1, (Same.rm (a := b.a) s1) _ _ hg⟩)⟩
  rintro σ G1 ⟨rfl, X1, hg1⟩
  try dsimp only
  refine ⟨_, rfl, b.x, b.hs', b.its, rfl, X1.f.que, fun G2 p S ns s2 p0 hp so pm ch sh => ?_⟩
  obtain ⟨S', e', pS, sS⟩ := nat_of pm so
  rw [e'] at hp
  have X2 := X1.same s2
  have hg2 := s2 _ _ (rm_same _ _ hg1)
  obtain ⟨ndS, ltS⟩ := ch.nd
  have inG : ∀ k ∈ S', k ∈ Gs := fun k m => by
    have mS := pS.mem_iff.mp m
    exact (hG k).mpr (feas_great ndS ltS (F.feas.mp (ch_feas F.gh' F.gi ch)) k mS)
  have lS6 : S'.length ≤ 6 := by
    rw [pS.length_eq]
    exact Nat.le_trans (nodup_lt ndS ltS) F.li
  have lnv : ∀ T : List Nat, (nV T).length = T.length := fun T => by unfold nV; rw [List.length_map]
  refine ⟨p, rfl, ⟨_, SqL.of hp⟩, fun B hB => lc_f (walk_list (xs := nV S')) at_any S' (fun k => V.bl true) (lnv S').symm (sz (m := 60) (by rw [lnv]; omega)) hB (fun H' s' => SqL.of (s' _ _ hp)) (fun j u k H3 A lt hu hk s3 kA => ?_) (fun H3 s3 h3 => ?_)⟩
  · obtain ⟨k', e1, rfl⟩ := nV_at hu
    rw [hk] at e1
    obtain rfl := Option.some.inj e1
    refine ⟨rfl, _, rfl, _, rfl, g, nV Gs, rfl, .inl (SqL.of (s3 _ _ hg2)), rfl, flat_nV Gs, ?_⟩
    rw [if_neg Bool.false_ne_true, inV_nV, decide_eq_true (inG k (List.mem_of_getElem? hk))]
    exact kA _ (Same.refl _)
  · have ha : ((S'.map fun _ => true).all id) = true := List.all_eq_true.mpr fun x m => by
      obtain ⟨_, _, rfl⟩ := List.mem_map.mp m
      rfl
    refine ⟨B, S'.map fun _ => true, rfl, SqL.of (by rw [h3, List.map_map]; rfl), ?_⟩
    rw [ha]
    have X3 := X2.same s3
    exact ⟨_, rfl, iteF (q _ _ ⟨⟨_, _, _, _, _, _, _, _, _, _, _, rfl⟩, X3.f.sql, X3.tab⟩)⟩
end
end K34

set_option Elab.async false
set_option linter.all false
set_option maxRecDepth 100000
set_option maxHeartbeats 4000000
namespace K34
open PySem PySem.Spec PyProof.Rows L2 Sr LamX
theorem nums_ints {n : Nat} : ∀ {R : List Nat}, (∀ k ∈ R, k < n) → numsOf n (R.map fun k => Dt.int (k : Nat)) = some R
  | [], _ => rfl
  | k :: r, h => by
    have lk := h k (List.mem_cons_self ..)
    have e : numOf n (.int (k : Nat)) = some k := by
      show (if (0 : Int) ≤ (k : Nat) ∧ ((k : Nat) : Int) < (n : Int) then some ((k : Nat) : Int).toNat else none) = _
      rw [if_pos ⟨by omega, by omega⟩, Int.toNat_natCast]
    show (match numOf n (.int (k : Nat)) with
      | none => none
      | some k => (numsOf n (r.map fun k => Dt.int (k : Nat))).map (k :: ·)) = _
    rw [e, nums_ints fun z m => h z (List.mem_cons_of_mem _ m)]
    rfl
theorem bun_perm {hs h0 : Hs} {its : Its} (e : ∀ S, feas hs its S ↔ feas h0 its S) {R R2 : List Nat} (p : R2.Perm R) (nR : R.Nodup) : bunF hs its R2 = bunF h0 its R := by
  have er : rest its R2 = rest its R := by
    unfold rest
    refine List.filter_congr fun k _ => ?_
    have : k ∈ R2 ↔ k ∈ R := p.mem_iff
    by_cases c : k ∈ R
    · rw [decide_eq_false (show ¬ k ∉ R2 from fun z => z (this.mpr c)), decide_eq_false (show ¬ k ∉ R from fun z => z c)]
    · rw [decide_eq_true (show k ∉ R2 from fun z => c (this.mp z)), decide_eq_true c]
  rw [bun_eq, bun_eq, er]
  congr 1
  refine List.filter_congr fun c mc => ?_
  have sc := (allC_mem.mp mc).1
  have ndc : c.Nodup := sc.nodup (rest_nodup its R)
  have cR : ∀ k ∈ c, k ∉ R := fun k m => (rest_mem.mp (sc.subset m)).2
  have nd : (R ++ c).Nodup := by
    rw [List.nodup_append]
    exact ⟨nR, ndc, fun a ha b hb e => cR b hb (by rw [← e]; exact ha)⟩
  have pp : (R2 ++ c).Perm (R ++ c) := p.append_right c
  rw [Bool.eq_iff_iff, feasB_iff, feasB_iff, feas_perm (pp.nodup_iff.mpr nd) nd fun k => pp.mem_iff, e]
theorem dep_rows (rows : List (List Nat)) : Dep 2 (rowsD rows) := by
  refine .lst _ _ fun d m => ?_
  obtain ⟨c, _, rfl⟩ := List.mem_map.mp m
  refine .tup _ _ fun d m => ?_
  obtain ⟨k, _, rfl⟩ := List.mem_map.mp m
  exact .int _ _
theorem ok_rows (rows : List (List Nat)) : okD 2 (rowsD rows) = true := by
  refine List.all_eq_true.mpr fun d m => ?_
  obtain ⟨c, _, rfl⟩ := List.mem_map.mp m
  refine List.all_eq_true.mpr fun d m => ?_
  obtain ⟨k, _, rfl⟩ := List.mem_map.mp m
  rfl
theorem rows_eqv (rows : List (List Nat)) : PyData.eqv (pdD (rowsD rows)) (iD []) = decide (rows = []) := by
  cases rows with
  | nil => rfl
  | cons c r =>
    rw [decide_eq_false (by simp)]
    rfl
theorem perm_nV {ys : List V} {R : List Nat} (p : ys.Perm (nV R)) : ∃ R2, ys = nV R2 ∧ R2.Perm R := by
  have pr : Paired (fun (v : V) (k : Nat) => v = .int (k : Nat)) (nV R) R := by
    clear p
    induction R with
    | nil => exact .nil
    | cons k r ih => exact .cons rfl ih
  obtain ⟨R2, h, q⟩ := perm_pairs p pr
  refine ⟨R2, ?_, q⟩
  clear p q pr
  induction h with
  | nil => rfl
  | cons h _ ih => rw [h, ih]; rfl
theorem all_in {R : List Nat} {n : Nat} (nd : R.Nodup) (lt : ∀ k ∈ R, k < n) (h : n ≤ R.length) : ∀ k, k < n → k ∈ R := fun k l => Classical.byContradiction fun z => by
  have := within (List.nodup_cons.mpr ⟨z, nd⟩) (T := List.range n) fun j m => by
    rcases List.mem_cons.mp m with rfl | m
    · exact List.mem_range.mpr l
    · exact List.mem_range.mpr (lt j m)
  rw [List.length_cons, List.length_range] at this
  omega
section
variable {P : Program} {w : World} {K : PySem.W.Frag} {mg : Str → Option Value} {base : Heap}
theorem la_d {P1 P2 : Addr} {A : Around} {outer : List Env} {s : Shared} {H : Hp} {E : XK} (C : LawC P w K mg base P1 P2) (hr : Room 13 (XL P w K mg base A outer s H E).A) :
    ∃ t, PSs (XL P w K mg base A outer s H E) (lawBody.drop 8) t ∧ ∀ (D : Ends) (b : Bx) (r g : Addr) (R Gs : List Nat) (v1 v3 v10 v11 : Option V) (G : Hp), b.P1 = P1 → b.P2 = P2 → Sx K b G → Fx b → (rm G b.a) r = some (.tup (nV R)) → (rm G b.a) g = some (.lst (nV Gs)) → R.Nodup → (∀ k ∈ R, k < b.its.length) → feas b.hs b.its R → (∀ k, k ∈ Gs ↔ great b.hs b.its k) → Gs.Pairwise (· < ·) →
      (∀ σ H', LawInv K b.P1 b.P2 b.l0 b.ns σ H' → D.nx σ H') →
      t D [some (.ref b.l0), v1, some (.ref b.a), v3, some (.ref b.hd), some (.ref b.li), some (.ref b.x), some (.ref b.ev), some (.ref r), some (.ref g), v10, v11] G := by
  obtain ⟨tt, pt, ht⟩ := la_e C (outer := outer) (H := H) (E := E) hr
  obtain ⟨T, O, MkQ0, C_law_source, C_law_draw, C_law_pick, C_law_same, C_law_mixed, C_law_some_items, C_law_some_holdings, C_law_all_can, C_law_greatest, C_law_one_by_one, C_law_least, C_in_turn, C_bundles⟩ := C
  refine ⟨_, (pss_cons (ps_for PassesOwn.never rfl (pi_range1 (by rfl) T.range (pa_cons (pe_callB (id := "len") call_len_seq (by rfl) T.len (by decide +kernel) (pa_cons (pv 5) pa_nil)) pa_nil)) (pg_name (i := 3) sc_law.nd rfl (by first | exact Or.inl rfl | exact Or.inr rfl))
      (pss_cons (ps_set (i := 10) sc_law.nd rfl (by first | exact Or.inl rfl | exact Or.inr rfl) (pe_cal C_bundles hr (by first | decide | omega) (by rfl) (pa_cons (pv 6) (pa_cons (pe_cal C_law_pick hr (by first | decide | omega) (by rfl) (pa_cons (pv 2) (pa_cons (pe_lst (pa_cons (pv 8) (pa_cons (pe_cal C_law_mixed hr (by first | decide | omega) (by rfl) (pa_cons (pv 2) (pa_cons (pv 8) pa_nil))) pa_nil))) pa_nil))) pa_nil))))
      (pss_cons (ps_if (PW.pt (pw_or (pt_not (pt_val (pe_cal C_law_same hr (by first | decide | omega) (by rfl) (pa_cons (pv 10) (pa_cons (pe_cal C_law_least hr (by first | decide | omega) (by rfl) (pa_cons (pv 7) (pa_cons (pv 8) pa_nil))) pa_nil))))) (pw_or1 (pt_cmpR op_ne (pe_cmpR (op_eqD hr.units) (pv 10) (pe_lst pa_nil) (nomark _)) (pe_cmpR (op_eqD hr.units) (pe_callB (id := "sorted") cr_sortTup (by rfl) T.sorted (by decide +kernel) (pa_cons (pv 8) pa_nil)) (pv 9) (nomark _)) (nomark _))))) (pss_one (ps_ret pe_bl)) pss_nil)
      (pss_one (ps_set (i := 8) sc_law.nd rfl (by first | exact Or.inl rfl | exact Or.inr rfl) (pe_ifExp (pt_cmpR (op_neD hr.units) (pv 10) (pe_lst pa_nil) (nomark _)) (pe_callTy (T := "tuple") call_tuple_of (by rfl) T.tuple (by decide +kernel) (pa_cons (pe_callB (id := "sorted") cr_sorted (by rfl) T.sorted (by decide +kernel) (pa_cons (pe_op op_cat (pe_callTy (T := "list") call_list_of (by rfl) T.list (by decide +kernel) (pa_cons (pv 8) pa_nil)) (pe_callTy (T := "list") call_list_of (by rfl) T.list (by decide +kernel) (pa_cons (pe_cal C_law_pick hr (by first | decide | omega) (by rfl) (pa_cons (pv 2) (pa_cons (pv 10) pa_nil))) pa_nil))) pa_nil)) pa_nil)) (pv 8)))))))
      pt), ?_⟩
  intro D b r g R Gs v1 v3 v10 v11 G eP1 eP2 X F hR hg nR lR fR hG sG q
  subst eP1 eP2
  obtain ⟨us0, hl0, isu0⟩ := id X.f.itl
  have lus : us0.length = b.its.length := by rw [isu0.len, List.length_map]
  have lnv : ∀ T : List Nat, (nV T).length = T.length := fun T => by unfold nV; rw [List.length_map]
  have li := F.li
  have nG : Gs.Nodup := sG.imp fun h => Nat.ne_of_lt h
  let Iv : Nat → L2.St → Hp → Prop := fun i σ G => ∃ (r : Addr) (R : List Nat) (v3 v10 v11 : Option V), σ = [some (.ref b.l0), v1, some (.ref b.a), v3, some (.ref b.hd), some (.ref b.li), some (.ref b.x), some (.ref b.ev), some (.ref r), some (.ref g), v10, v11] ∧ Sx K b G ∧ (rm G b.a) r = some (.tup (nV R)) ∧ (rm G b.a) g = some (.lst (nV Gs)) ∧ R.Nodup ∧ (∀ k ∈ R, k < b.its.length) ∧ feas b.hs b.its R ∧ ((∀ k, k ∈ R ↔ k ∈ Gs) ∨ i ≤ R.length)
  refine cut_if (fun σ H' => ∃ (r : Addr) (R : List Nat) (v3 v10 v11 : Option V), σ = [some (.ref b.l0), v1, some (.ref b.a), v3, some (.ref b.hd), some (.ref b.li), some (.ref b.x), some (.ref b.ev), some (.ref r), some (.ref g), v10, v11] ∧ Sx K b H' ∧ (rm H' b.a) r = some (.tup (nV R)) ∧ (rm H' b.a) g = some (.lst (nV Gs)) ∧ R.Nodup ∧ (∀ k ∈ R, k < b.its.length) ∧ feas b.hs b.its R ∧ ∀ k, k ∈ R ↔ k ∈ Gs) ?_ fun rest_ => ?_
  rotate_left
  · refine ⟨_, rfl, b.li, us0, rfl, .inl (SqL.of hl0), _, rfl, by omega, by omega, ?_⟩
    refine for_range Iv ⟨r, R, v3, v10, v11, rfl, X, hR, hg, nR, lR, fR, .inr (Nat.zero_le _)⟩ ?_ ?_
    rotate_left
    · rintro σ G1 ⟨r, R, v3, v10, v11, rfl, X1, hR1, hg1, nR, lR, fR, h⟩
      refine rest_ _ _ ⟨r, R, v3, v10, v11, rfl, X1, hR1, hg1, nR, lR, fR, ?_⟩
      rcases h with h | h
      · exact h
      · have h : b.its.length ≤ R.length := by rw [lus] at h; simpa using h
        intro k
        refine ⟨fun m => (hG k).mpr (feas_great nR lR fR k m), fun m => all_in nR lR h k ?_⟩
        obtain ⟨S, s, _, mk⟩ := (hG k).mp m
        exact List.mem_range.mp (s.subset mk)
    rintro i σ G1 hi ⟨r, R, v3, v10, v11, rfl, X1, hR1, hg1, nR, lR, fR, hi2⟩
    have lR6 : R.length ≤ 6 := Nat.le_trans (nodup_lt nR lR) li
    refine cut_if (fun σ H' => ∃ (q : Addr) (us2 : List V) (v3 : Option V), σ = [some (.ref b.l0), v1, some (.ref b.a), v3, some (.ref b.hd), some (.ref b.li), some (.ref b.x), some (.ref b.ev), some (.ref r), some (.ref g), some (.ref q), v11] ∧ Sx K b H' ∧ (rm H' b.a) r = some (.tup (nV R)) ∧ (rm H' b.a) g = some (.lst (nV Gs)) ∧ (rm H' b.a) q = some (.lst us2) ∧ Paired (RowT (rm H' b.a)) us2 (bunF b.hs b.its R)) ?_ fun rest_ => ?_
    rotate_left
    · refine ⟨_, rfl, _, rfl, _, rfl, _, rfl, _, rfl, b.a, r, nV R, 0, rfl, X1.dr, by decide, hR1, by rw [lnv]; omega, fun p G2 ys d2 s2 m2 e2 pm => ?_⟩
      obtain ⟨R2, rfl, p2⟩ := perm_nV pm
      have X2 := X1.draws (show DnAt 0 G2 b.a from d2) s2
      refine ⟨lineN (n := 2), fun lo hlo => ?_⟩
      have s3 := Same.up (o := .lst [.ref r, .ref p]) hlo
      have e3 : (upd G2 lo (.lst [.ref r, .ref p])) lo = some (.lst [.ref r, .ref p]) := upd_same
      have nlo := X2.dr.new hlo
      generalize upd G2 lo _ = G3 at s3 e3 ⊢
      have X3 := X2.same s3
      refine ⟨b.a, lo, [.ref r, .ref p], 0, rfl, X3.dr, by decide, nlo, .inl (SqL.of e3), by show 1 ≤ 2; decide, by show 2 < 1073741824; decide, fun j v o hv ho => ?_⟩
      have d4 : DnAt 0 (upd G3 b.a o) b.a := DnAt.put (n := 0) ho
      have s4 : Same (rm G3 b.a) (rm (upd G3 b.a o) b.a) := rm_put
      generalize upd G3 b.a o = G4 at d4 s4 ⊢
      have X4 := X3.draws d4 s4
      have s14 : Same (rm G1 b.a) (rm G4 b.a) := s2.trans ((Same.rm s3).trans s4)
      have s24 : Same (rm G2 b.a) (rm G4 b.a) := (Same.rm s3).trans s4
      obtain ⟨dd, ll, R3, hIs, hsq, hnum, hp⟩ : ∃ (dd : Dt) (ll : List Dt) (R3 : List Nat), Is G4 v dd ∧ seqOfD dd = some ll ∧ numsOf b.its.length ll = some R3 ∧ R3.Perm R := by
        have m := List.mem_of_getElem? hv
        simp only [List.mem_cons, List.not_mem_nil, or_false] at m
        rcases m with rfl | rfl
        · exact ⟨.tup (R.map fun k => .int (k : Nat)), _, R, .tup (rm_same _ _ (s14 _ _ hR1)) (isA_ints R) (by rw [lnv]; omega), rfl, nums_ints lR, List.Perm.refl _⟩
        · exact ⟨.lst (R2.map fun k => .int (k : Nat)), _, R2, .lst (rm_same _ _ (s24 _ _ e2)) (isA_ints R2) (by rw [lnv, p2.length_eq]; omega), rfl, nums_ints fun k m => lR k (p2.mem_iff.mp m), p2⟩
      have fR3 : feas b.hs' b.its R3 := F.feas.mpr ((feas_perm (hp.nodup_iff.mpr nR) nR fun k => hp.mem_iff).mpr fR)
      refine ⟨b.x, v, b.hs', b.its, dd, ll, R3, rfl, X4.f.que, by omega, hIs, hsq, hnum, hp.nodup_iff.mpr nR, fR3, fun G5 q us2 s5 q0 hq pr => ?_⟩
      rw [bun_perm (fun S => F.feas) hp nR] at pr
      have X5 := X4.same s5
      have nq := X4.dr.new q0
      have s15 := s14.trans (Same.rm s5)
      refine rest_ _ _ ⟨q, us2, _, rfl, X5, s15 _ _ hR1, s15 _ _ hg1, by rw [rm_ne nq]; exact hq, L2.Paired.mapP pr fun _ _ ⟨t, x, y⟩ => ⟨t, x, ?_⟩⟩
      rw [rm_ne fun z => ?_]
      · exact y
      · obtain ⟨o, ea, x1, y1, z1, e6, _⟩ := id X5.dr
        rw [z, ea, e6] at y
        cases y
    rintro σ G2 ⟨q2, us2, v3', rfl, X2, hR2, hg2, hq2, pr2⟩
    try dsimp only
    have bl := bun_len (hs := b.hs) (its := b.its) (S := R) li
    have bm := fun c (m : c ∈ bunF b.hs b.its R) => bun_mem m
    have bn := bun_nil F.gh F.gi nR lR fR nG hG
    have cl : ∀ c ∈ bunF b.hs b.its R, c.length ≤ 6 := fun c m => by
      have h1 := (bm c m).1.length_le
      have h2 : (rest b.its R).length ≤ b.its.length := by
        unfold rest
        have := List.length_filter_le (fun k => decide (k ∉ R)) (List.range b.its.length)
        rw [List.length_range] at this
        exact this
      omega
    have isB : ∀ {G : Hp}, ExtN (rm G2 b.a) G → Is G (.ref q2) (rowsD (bunF b.hs b.its R)) := fun {G} e => rows_is (e _ _ hq2 (fun _ z => by cases z)) (L2.Paired.mapP pr2 fun _ _ ⟨t, x, y⟩ => ⟨t, x, e _ _ y (fun _ z => by cases z)⟩) (by omega) fun c m => Nat.le_trans (cl c m) (by decide)
    have eV : nV R = (R.map fun (k : Nat) => (k : Int)).map V.int := by unfold nV; rw [List.map_map]; rfl
    refine cut_if (fun σ H' => σ = [some (.ref b.l0), v1, some (.ref b.a), v3', some (.ref b.hd), some (.ref b.li), some (.ref b.x), some (.ref b.ev), some (.ref r), some (.ref g), some (.ref q2), v11] ∧ ExtN G2 H' ∧ Tabs (TS0 b.P1 b.P2) H') ?_ fun rest_ => ?_
    rotate_left
    · have evG := X2.f.ev
      have lS : ∀ S ∈ b.rows, S.length ≤ 6 := fun S m => by
        have := ((F.mr S).mp m).1.length_le
        rw [List.length_range] at this
        omega
      refine ⟨_, rfl, _, rfl, _, rfl, b.ev, r, b.us, b.rows, R, rfl, evG, X2.f.pr, F.lr, lS, rm_same _ _ hR2, lR6, X2.tab, fun G3 p us3 srt e3 np t3 hp pr3 pms pws => ?_⟩
      rw [least_eq F.nd F.mr nR lR pms pws] at pr3
      have e23 : ExtN (rm G2 b.a) G3 := (ExtN.of rm_same).trans e3
      refine ⟨.ref q2, .ref p, rowsD (bunF b.hs b.its R), rfl, isB e23, rows_is hp pr3 (by omega) fun c m => Nat.le_trans (cl c m) (by decide), dep_rows _, fun G4 s4 => ⟨_, rfl, iteF ?_⟩⟩
      have e24 : ExtN (rm G2 b.a) G4 := e23.trans (ExtN.of s4)
      refine ⟨_, rfl, lineN (n := 0), fun e he => ?_⟩
      have s5 := Same.up (o := .lst []) he
      have e5 : (upd G4 e (.lst [])) e = some (.lst (nV [])) := upd_same
      generalize upd G4 e _ = G5 at s5 e5 ⊢
      have e25 : ExtN (rm G2 b.a) G5 := e24.trans (ExtN.of s5)
      have okr := ok_rows (bunF b.hs b.its R)
      refine ⟨pdD (rowsD (bunF b.hs b.its R)), iD [], okD_isDp 2 (isB e25) okr, iD_dp e5, okD_shaped okr (by decide), iD_shaped _, ?_⟩
      rw [rows_eqv]
      have hR5 := e25 _ _ hR2 (fun _ z => by cases z)
      have hg5 := e25 _ _ hg2 (fun _ z => by cases z)
      refine ⟨_, rfl, r, R.map fun (k : Nat) => (k : Int), rfl, SqT.of (by rw [← eV]; exact hR5), by rw [List.length_map]; omega, fun ns p2 pm so hp2 => ?_⟩
      obtain ⟨S', e', pS, sS⟩ := nat_of pm so
      rw [e']
      have s6 := Same.up (o := .lst (nV S')) hp2
      have e6 : (upd G5 p2 (.lst (nV S'))) p2 = some (.lst (nV S')) := upd_same
      generalize upd G5 p2 _ = G6 at s6 e6 ⊢
      refine ⟨_, rfl, iD S', iD Gs, iD_dp e6, iD_dp (s6 _ _ hg5), iD_shaped _, iD_shaped _, ?_⟩
      rw [iD_eqv]
      have same : decide (bunF b.hs b.its R = []) = decide (S' = Gs) := by
        rw [Bool.eq_iff_iff, decide_eq_true_iff, decide_eq_true_iff, bn, sort_one pS sS nR sG]
      rw [same]
      refine ⟨rfl, _, rfl, ?_⟩
      rw [decide_eq_true rfl]
      exact iteF (rest_ _ _ ⟨rfl, e3.trans (ExtN.of (s4.trans (s5.trans s6))), t3.ext (s4.trans (s5.trans s6))⟩)
    rintro σ G3 ⟨rfl, e3, t3⟩
    try dsimp only
    have X3 := X2.ext e3 t3
    have er := ext_rm (a := b.a) e3
    have hR3 := er _ _ hR2 (fun _ z => by cases z)
    have hg3 := er _ _ hg2 (fun _ z => by cases z)
    have hq3 := er _ _ hq2 (fun _ z => by cases z)
    have okr := ok_rows (bunF b.hs b.its R)
    refine ⟨_, rfl, lineN (n := 0), fun e he => ?_⟩
    have s4 := Same.up (o := .lst []) he
    have e4 : (upd G3 e (.lst [])) e = some (.lst (nV [])) := upd_same
    generalize upd G3 e _ = G4 at s4 e4 ⊢
    have X4 := X3.same s4
    have s34 := Same.rm (a := b.a) s4
    refine ⟨pdD (rowsD (bunF b.hs b.its R)), iD [], okD_isDp 2 (isB (er.trans (ExtN.of (s34.trans rm_same)))) okr, iD_dp e4, okD_shaped okr (by decide), iD_shaped _, ?_⟩
    rw [rows_eqv]
    refine ⟨_, rfl, ?_⟩
    by_cases c : bunF b.hs b.its R = []
    · rw [decide_eq_true c]
      exact iteF ⟨_, rfl, r, R, _, _, _, rfl, X4, s34 _ _ hR3, s34 _ _ hg3, nR, lR, fR, .inl (bn.mp c)⟩
    · rw [decide_eq_false c]
      have hR4 := s34 _ _ hR3
      have hg4 := s34 _ _ hg3
      have hq4 := s34 _ _ hq3
      have pr4 : Paired (RowT (rm G4 b.a)) us2 (bunF b.hs b.its R) := L2.Paired.mapP pr2 fun _ _ ⟨t, x, y⟩ => ⟨t, x, s34 _ _ (er _ _ y (fun _ z => by cases z))⟩
      have lub := Paired.length pr4
      have lp : 1 ≤ (bunF b.hs b.its R).length := List.length_pos_iff.mpr c
      refine iteT ⟨_, rfl, r, nV R, rfl, .inr (SqT.of (rm_same _ _ hR4)), fun l1 hl1 => ?_⟩
      have s5 := Same.up (o := .lst (nV R)) hl1
      have e5 : (upd G4 l1 (.lst (nV R))) l1 = some (.lst (nV R)) := upd_same
      have n1 := X4.dr.new hl1
      generalize upd G4 l1 _ = G5 at s5 e5 ⊢
      have X5 := X4.same s5
      have nq : q2 ≠ b.a := fun z => by rw [z, rm_at] at hq4; cases hq4
      refine ⟨_, rfl, _, rfl, b.a, q2, us2, 0, rfl, X5.dr, by decide, nq, .inl (SqL.of (s5 _ _ (rm_same _ _ hq4))), by rw [lub]; exact lp, by omega, fun j v o hv ho => ?_⟩
      have hc : (bunF b.hs b.its R)[j]? = some ((bunF b.hs b.its R)[j]'(by
        have := (List.getElem?_eq_some_iff.mp hv).1
        omega)) := List.getElem?_eq_getElem _
      generalize (bunF b.hs b.its R)[j]'_ = cc at hc
      obtain ⟨t, rfl, ht⟩ := Paired.at2 (F := RowT (rm G4 b.a)) pr4 hv hc
      obtain ⟨sc, nc, fc⟩ := bm cc (List.mem_of_getElem? hc)
      have lc := cl cc (List.mem_of_getElem? hc)
      have d6 : DnAt 0 (upd G5 b.a o) b.a := DnAt.put (n := 0) ho
      have s6 : Same (rm G5 b.a) (rm (upd G5 b.a o) b.a) := rm_put
      generalize upd G5 b.a o = G6 at d6 s6 ⊢
      have X6 := X5.draws d6 s6
      have s46 : Same (rm G4 b.a) (rm G6 b.a) := (Same.rm s5).trans s6
      have e6 : (rm G6 b.a) l1 = some (.lst (nV R)) := s6 _ _ (by rw [rm_ne n1]; exact e5)
      refine ⟨t, nV cc, rfl, .inr (SqT.of (rm_same _ _ (s46 _ _ ht))), fun l2 hl2 => ?_⟩
      have s7 := Same.up (o := .lst (nV cc)) hl2
      have e7 : (upd G6 l2 (.lst (nV cc))) l2 = some (.lst (nV cc)) := upd_same
      generalize upd G6 l2 _ = G7 at s7 e7 ⊢
      refine ⟨l1, l2, nV R, nV cc, rfl, rfl, s7 _ _ (rm_same _ _ e6), e7, Nat.le_of_lt (sz (m := 60) (by rw [lnv, lnv]; omega)), fun l3 hl3 => ?_⟩
      have s8 := Same.up (o := .lst (nV R ++ nV cc)) hl3
      have e8 : (upd G7 l3 (.lst (nV R ++ nV cc))) l3 = some (.lst (((R ++ cc).map fun (k : Nat) => (k : Int)).map V.int)) := by
        rw [upd_same]
        unfold nV
        rw [List.map_map, List.map_append]
        rfl
      generalize upd G7 l3 _ = G8 at s8 e8 ⊢
      refine ⟨l3, (R ++ cc).map fun (k : Nat) => (k : Int), rfl, SqL.of e8, by rw [List.length_map, List.length_append]; omega, fun ns p pm so hp => ?_⟩
      obtain ⟨S', e', pS, sS⟩ := nat_of pm so
      rw [e']
      have s9 := Same.up (o := .lst (nV S')) hp
      have e9 : (upd G8 p (.lst (nV S'))) p = some (.lst (nV S')) := upd_same
      generalize upd G8 p _ = G9 at s9 e9 ⊢
      refine ⟨p, nV S', rfl, .inl ⟨SqL.of e9, fun tt htt => ?_⟩⟩
      have X9 := X6.same (s7.trans (s8.trans s9))
      have s10 := Same.up (o := .tup (nV S')) htt
      have e10 : (upd G9 tt (.tup (nV S'))) tt = some (.tup (nV S')) := upd_same
      have nt := X9.dr.new htt
      generalize upd G9 tt _ = G10 at s10 e10 ⊢
      have ndc : cc.Nodup := sc.nodup (rest_nodup b.its R)
      have cR : ∀ k ∈ cc, k < b.its.length ∧ k ∉ R := fun k m => rest_mem.mp (sc.subset m)
      have ndA : (R ++ cc).Nodup := by
        rw [List.nodup_append]
        exact ⟨nR, ndc, fun a ha b hb e => (cR b hb).2 (by rw [← e]; exact ha)⟩
      have ltA : ∀ k ∈ R ++ cc, k < b.its.length := fun k m => by
        rcases List.mem_append.mp m with m | m
        · exact lR k m
        · exact (cR k m).1
      have nS' := pS.nodup_iff.mpr ndA
      have s4e : Same (rm G4 b.a) (rm G10 b.a) := s46.trans (Same.rm (s7.trans (s8.trans (s9.trans s10))))
      refine ⟨tt, S', _, _, _, rfl, X9.same s10, by rw [rm_ne nt]; exact e10, s4e _ _ hg4, nS', fun k m => ltA k (pS.mem_iff.mp m), (feas_perm nS' ndA fun k => pS.mem_iff).mpr fc, ?_⟩
      have lc1 : 0 < cc.length := List.length_pos_iff.mpr nc
      rcases hi2 with h | h
      · exact absurd (bn.mpr h) c
      · refine .inr ?_
        rw [pS.length_eq, List.length_append]
        omega
  rintro σ G1 ⟨r, R, v3, v10, v11, rfl, X1, hR1, hg1, nR, lR, fR, eq⟩
  exact ht D b r g R Gs _ _ _ _ _ X1 F hR1 hg1 nR (Nat.le_trans (nodup_lt nR lR) F.li) hG sG eq q
end
end K34

set_option Elab.async false
set_option linter.all false
set_option maxRecDepth 100000
set_option maxHeartbeats 4000000
namespace K34
open PySem PySem.Spec PyProof.Rows L2 Sr LamX
theorem ch_amt {hs h0 : Hs} {its : Its} (e : ∀ S, feas hs its S ↔ feas h0 its S) {S : List Nat} (h : Ch hs its S) : Ch h0 its S := by
  induction h with
  | nil => exact .nil
  | snoc _ l n f ih => exact .snoc ih l n ((e _).mp f)
theorem Sx.free {K : PySem.W.Frag} {b : Bx} {H H' : Hp} {p : Addr} {o : HO} (X : Sx K b H) (s : Same H H') (n : H p = none) : Sx K b (upd H' p o) := X.same (Same.set s n)
theorem one_sorted {ns ms : List Int} {S T : List Nat} (pn : ns.Perm (S.map fun (k : Nat) => (k : Int))) (sn : ns.Pairwise (· ≤ ·)) (pm : ms.Perm (T.map fun (k : Nat) => (k : Int))) (sm : ms.Pairwise (· ≤ ·)) (nS : S.Nodup) (nT : T.Nodup) (h : ∀ k, k ∈ S ↔ k ∈ T) : ns = ms := by
  have p : S.Perm T := (List.perm_ext_iff_of_nodup nS nT).mpr h
  exact List.Perm.eq_of_pairwise (le := fun a b => a ≤ b) (fun a b _ _ x y => by omega) sn sm (pn.trans ((p.map _).trans pm.symm))
section
variable {P : Program} {w : World} {K : PySem.W.Frag} {mg : Str → Option Value} {base : Heap}
theorem la_c {P1 P2 : Addr} {A : Around} {outer : List Env} {s : Shared} {H : Hp} {E : XK} (C : LawC P w K mg base P1 P2) (hr : Room 13 (XL P w K mg base A outer s H E).A) :
    ∃ t, PSs (XL P w K mg base A outer s H E) (lawBody.drop 3) t ∧ ∀ (D : Ends) (b : Bx) (v1 v3 v8 v9 v10 v11 : Option V) (G : Hp), b.P1 = P1 → b.P2 = P2 → Sx K b G → Fx b →
      (∀ σ H', LawInv K b.P1 b.P2 b.l0 b.ns σ H' → D.nx σ H') →
      t D [some (.ref b.l0), v1, some (.ref b.a), v3, some (.ref b.hd), some (.ref b.li), some (.ref b.x), some (.ref b.ev), v8, v9, v10, v11] G := by
  obtain ⟨tt, pt, ht⟩ := la_d C (outer := outer) (H := H) (E := E) hr
  obtain ⟨T, O, MkQ0, C_law_source, C_law_draw, C_law_pick, C_law_same, C_law_mixed, C_law_some_items, C_law_some_holdings, C_law_all_can, C_law_greatest, C_law_one_by_one, C_law_least, C_in_turn, C_bundles⟩ := C
  refine ⟨_, (pss_cons (ps_if (pt_not (pt_val (pe_cal C_law_same hr (by first | decide | omega) (by rfl) (pa_cons (pe_cal C_in_turn hr (by first | decide | omega) (by rfl) (pa_cons (pv 6) pa_nil)) (pa_cons (pe_cal C_law_one_by_one hr (by first | decide | omega) (by rfl) (pa_cons (pv 2) (pa_cons (pv 4) (pa_cons (pv 5) pa_nil)))) pa_nil))))) (pss_one (ps_ret pe_bl)) pss_nil)
      (pss_cons (ps_expr (pe_bm PySem.F.plainAttrs_list PySem.F.slot_list_append PySem.F.type_list_append mt_append (pe_cal C_in_turn hr (by first | decide | omega) (by rfl) (pa_cons (pv 6) pa_nil)) (pa_cons pe_str pa_nil)))
      (pss_cons (ps_expr (pe_bm PySem.F.plainAttrs_list PySem.F.slot_list_append PySem.F.type_list_append mt_append (pe_cal C_bundles hr (by first | decide | omega) (by rfl) (pa_cons (pv 6) (pa_cons (pe_tup pa_nil) pa_nil))) (pa_cons pe_str pa_nil)))
      (pss_cons (ps_asg (pe_tup (pa_cons (pe_cal C_law_pick hr (by first | decide | omega) (by rfl) (pa_cons (pv 2) (pa_cons (pe_lst (pa_cons (pe_tup pa_nil) (pa_cons (pe_cal C_law_pick hr (by first | decide | omega) (by rfl) (pa_cons (pv 2) (pa_cons (pv 7) pa_nil))) pa_nil))) pa_nil))) (pa_cons (pe_cal C_law_greatest hr (by first | decide | omega) (by rfl) (pa_cons (pv 4) (pa_cons (pv 5) pa_nil))) pa_nil))) (pg_tup rfl (pgs_cons (pg_name (i := 8) sc_law.nd rfl (by first | exact Or.inl rfl | exact Or.inr rfl)) (pgs_cons (pg_name (i := 9) sc_law.nd rfl (by first | exact Or.inl rfl | exact Or.inr rfl)) pgs_nil))))
      (pss_cons (ps_if (pt_cmpR (op_neD hr.units) (pe_cal C_bundles hr (by first | decide | omega) (by rfl) (pa_cons (pv 6) (pa_cons (pv 9) pa_nil))) (pe_lst pa_nil) (nomark _)) (pss_one (ps_ret pe_bl)) pss_nil)
      pt))))), ?_⟩
  intro D b v1 v3 v8 v9 v10 v11 G eP1 eP2 X F q
  subst eP1 eP2
  have li := F.li
  have lnv : ∀ T : List Nat, (nV T).length = T.length := fun T => by unfold nV; rw [List.length_map]
  refine cut_if (fun σ H' => σ = [some (.ref b.l0), v1, some (.ref b.a), v3, some (.ref b.hd), some (.ref b.li), some (.ref b.x), some (.ref b.ev), v8, v9, v10, v11] ∧ Sx K b H') ?_ fun rest_ => ?_
  rotate_left
  · refine ⟨_, rfl, b.x, b.hs', b.its, rfl, X.f.que, fun G1 p S ns s1 p0 hp so pm ch sh => ?_⟩
    have X1 := X.same s1
    have np := X.dr.new p0
    refine ⟨_, rfl, _, rfl, _, rfl, b.a, b.hd, b.li, b.kv, b.hs, b.its, rfl, X1.dr, X1.fa.hd, X1.fa.hld, F.gh, X1.fa.itl, F.gi, li, fun G2 p2 S2 ns2 d2 s2 hp2 so2 pm2 ch2 sh2 => ?_⟩
    have X2 := X1.draws d2 s2
    have ch' := ch_amt (fun S => F.feas) ch
    have sh' : Shut b.hs b.its S := fun n l m f => sh n l m (F.feas.mpr f)
    have eqn : ns = ns2 := one_sorted pm so pm2 so2 ch.nd.1 ch2.nd.1 fun k => ⟨ch_in F.gh F.gi ch' ch2 sh2 k, ch_in F.gh F.gi ch2 ch' sh' k⟩
    obtain ⟨S', e', pS, sS⟩ := nat_of pm so
    have lS : S'.length ≤ 6 := by
      rw [pS.length_eq]
      exact Nat.le_trans (nodup_lt ch.nd.1 ch.nd.2) li
    have hpa : G2 p = some (.lst (nV S')) := by
      rw [← e']
      exact rm_same _ _ (s2 _ _ (by rw [rm_ne np]; exact hp))
    have hpb : G2 p2 = some (.lst (nV S')) := by
      rw [← e', eqn]
      exact rm_same _ _ hp2
    refine ⟨.ref p, .ref p2, .lst (S'.map fun k => .int (k : Nat)), rfl, .lst hpa (isA_ints S') (by rw [lnv]; omega), .lst hpb (isA_ints S') (by rw [lnv]; omega), .lst _ _ fun d m => ?_, fun G3 s3 => ⟨_, rfl, iteF (rest_ _ _ ⟨rfl, X2.same s3⟩)⟩⟩
    obtain ⟨k, _, rfl⟩ := List.mem_map.mp m
    exact .int _ _
  rintro σ G1 ⟨rfl, X1⟩
  clear X
  try dsimp only
  refine cut_if (fun σ H' => σ = [some (.ref b.l0), v1, some (.ref b.a), v3, some (.ref b.hd), some (.ref b.li), some (.ref b.x), some (.ref b.ev), v8, v9, v10, v11] ∧ Sx K b H') ?_ fun rest_ => ?_
  rotate_left
  · refine ⟨_, rfl, b.x, b.hs', b.its, rfl, X1.f.que, fun G2 p S ns s2 p0 hp so pm ch sh => ?_⟩
    have l6 : ns.length ≤ 6 := by
      rw [pm.length_eq, List.length_map]
      exact Nat.le_trans (nodup_lt ch.nd.1 ch.nd.2) li
    exact ⟨.inl ⟨rfl, _, SqL.of hp⟩, p, ns.map V.int, _, rfl, rfl, hp, sz (m := 60) (by rw [List.length_map]; omega) (by decide), rest_ _ _ ⟨rfl, X1.free s2 p0⟩⟩
  rintro σ G2 ⟨rfl, X2⟩
  clear X1
  try dsimp only
  refine cut_if (fun σ H' => σ = [some (.ref b.l0), v1, some (.ref b.a), v3, some (.ref b.hd), some (.ref b.li), some (.ref b.x), some (.ref b.ev), v8, v9, v10, v11] ∧ Sx K b H') ?_ fun rest_ => ?_
  rotate_left
  · refine ⟨_, rfl, lineN (n := 0), fun t ht => ?_⟩
    have s3 := Same.up (o := .tup []) ht
    have e3 : (upd G2 t (.tup [])) t = some (.tup []) := upd_same
    generalize upd G2 t _ = G3 at s3 e3 ⊢
    have X3 := X2.same s3
    refine ⟨b.x, .ref t, b.hs', b.its, .tup [], [], [], rfl, X3.f.que, by omega, .tup e3 .nil (Nat.zero_le _), rfl, rfl, List.nodup_nil, feas_nil F.gh' F.gi, fun G4 p us s4 p0 hp pr => ?_⟩
    have := bun_len (hs := b.hs') (its := b.its) (S := []) li
    have lu := Paired.length pr
    exact ⟨.inl ⟨rfl, _, SqL.of hp⟩, p, us, _, rfl, rfl, hp, sz (m := 60) (by omega) (by decide), rest_ _ _ ⟨rfl, X3.free s4 p0⟩⟩
  rintro σ G3 ⟨rfl, X3⟩
  clear X2
  try dsimp only
  have nev : b.ev ≠ b.a := fun z => by
    have := X3.fa.ev
    rw [z, rm_at] at this
    cases this
  have lr := F.lr
  have lru := Paired.length X3.fa.pr
  have lp : 1 ≤ b.rows.length := List.length_pos_of_mem ((F.mr []).mpr ⟨List.nil_sublist _, feas_nil F.gh F.gi⟩)
  refine cut_if (fun σ H' => ∃ (r g : Addr) (R Gs : List Nat), σ = [some (.ref b.l0), v1, some (.ref b.a), v3, some (.ref b.hd), some (.ref b.li), some (.ref b.x), some (.ref b.ev), some (.ref r), some (.ref g), v10, v11] ∧ Sx K b H' ∧ (rm H' b.a) r = some (.tup (nV R)) ∧ (rm H' b.a) g = some (.lst (nV Gs)) ∧ R.Nodup ∧ (∀ k ∈ R, k < b.its.length) ∧ feas b.hs b.its R ∧ (∀ k, k ∈ Gs ↔ great b.hs b.its k) ∧ Gs.Pairwise (· < ·) ∧ Gs.length ≤ 6) ?_ fun rest_ => ?_
  rotate_left
  · refine ⟨_, rfl, lineN (n := 0), fun t0 ht0 => ?_⟩
    have s4 := Same.up (o := .tup []) ht0
    have e4 : (upd G3 t0 (.tup [])) t0 = some (.tup (nV [])) := upd_same
    have n0 := X3.dr.new ht0
    generalize upd G3 t0 (.tup []) = G4 at s4 e4 ⊢
    have X4 := X3.same s4
    refine ⟨_, rfl, _, rfl, b.a, b.ev, b.us, 0, rfl, X4.dr, by decide, nev, .inl (SqL.of X4.f.ev), by omega, by omega, fun i v o hv ho => ?_⟩
    have hc : b.rows[i]? = some (b.rows[i]'(by
      have := (List.getElem?_eq_some_iff.mp hv).1
      omega)) := List.getElem?_eq_getElem _
    generalize b.rows[i]'_ = S at hc
    obtain ⟨t, rfl, ht⟩ := Paired.at2 (F := RowT (rm G4 b.a)) X4.fa.pr hv hc
    have d5 : DnAt 0 (upd G4 b.a o) b.a := DnAt.put (n := 0) ho
    have s5 : Same (rm G4 b.a) (rm (upd G4 b.a o) b.a) := rm_put
    generalize upd G4 b.a o = G5 at d5 s5 ⊢
    have X5 := X4.draws d5 s5
    refine ⟨lineN (n := 2), fun lo hlo => ?_⟩
    have s6 := Same.up (o := .lst [.ref t0, .ref t]) hlo
    have e6 : (upd G5 lo (.lst [.ref t0, .ref t])) lo = some (.lst [.ref t0, .ref t]) := upd_same
    have nlo := X5.dr.new hlo
    generalize upd G5 lo _ = G6 at s6 e6 ⊢
    have X6 := X5.same s6
    refine ⟨b.a, lo, [.ref t0, .ref t], 0, rfl, X6.dr, by decide, nlo, .inl (SqL.of e6), by show 1 ≤ 2; decide, by show 2 < 1073741824; decide, fun j rv o2 hrv ho2 => ?_⟩
    have d7 : DnAt 0 (upd G6 b.a o2) b.a := DnAt.put (n := 0) ho2
    have s7 : Same (rm G6 b.a) (rm (upd G6 b.a o2) b.a) := rm_put
    generalize upd G6 b.a o2 = G7 at d7 s7 ⊢
    have X7 := X6.draws d7 s7
    have s47 : Same (rm G4 b.a) (rm G7 b.a) := s5.trans ((Same.rm s6).trans s7)
    obtain ⟨r, R, rfl, hR, nR, lR, fR⟩ : ∃ (r : Addr) (R : List Nat), rv = .ref r ∧ (rm G7 b.a) r = some (.tup (nV R)) ∧ R.Nodup ∧ (∀ k ∈ R, k < b.its.length) ∧ feas b.hs b.its R := by
      have m := List.mem_of_getElem? hrv
      simp only [List.mem_cons, List.not_mem_nil, or_false] at m
      rcases m with rfl | rfl
      · exact ⟨t0, [], rfl, s47 _ _ (by rw [rm_ne n0]; exact e4), List.nodup_nil, (fun _ m => by cases m), feas_nil F.gh F.gi⟩
      · obtain ⟨s', f'⟩ := (F.mr S).mp (List.mem_of_getElem? hc)
        exact ⟨t, S, rfl, s47 _ _ ht, s'.nodup List.nodup_range, fun k m => List.mem_range.mp (s'.subset m), f'⟩
    refine ⟨_, rfl, _, rfl, b.hd, b.li, b.kv, b.hs, b.its, rfl, X7.f.hd, X7.f.hld, F.gh, X7.f.itl, F.gi, li, X7.tab, fun G8 g Gs e8 ng t8 hg mg_ lg sg => ?_⟩
    have X8 := X7.ext e8 t8
    have er := ext_rm (a := b.a) e8
    have nga : g ≠ b.a := fun z => by
      obtain ⟨o, ea, x1, y1, z1, e2, _⟩ := id X7.dr
      obtain ⟨ps, e5⟩ := ng o (by rw [z]; exact ea)
      rw [e2] at e5
      cases e5
    refine ⟨two_line, fun tp htp => ?_⟩
    have s9 := Same.up (o := .tup [.ref r, .ref g]) htp
    have e9 : (upd G8 tp (.tup [.ref r, .ref g])) tp = some (.tup [.ref r, .ref g]) := upd_same
    generalize upd G8 tp _ = G9 at s9 e9 ⊢
    have r9 := Same.rm (a := b.a) s9
    exact ⟨tp, _, rfl, SqT.of e9, rfl, _, _, rfl, _, _, rfl, rfl, rest_ _ _ ⟨r, g, R, Gs, rfl, X8.same s9, r9 _ _ (er _ _ hR (fun _ z => by cases z)), r9 _ _ (by rw [rm_ne nga]; exact hg), nR, lR, fR, mg_, sg, lg⟩⟩
  rintro σ G4 ⟨r, g, R, Gs, rfl, X4, hR, hg, nR, lR, fR, hG, sG, lg⟩
  clear X3 lru
  try dsimp only
  have nG : Gs.Nodup := sG.imp fun h => Nat.ne_of_lt h
  obtain ⟨fG, ltG⟩ := great_feas F.gh F.gi nG hG
  refine cut_if (fun σ H' => σ = [some (.ref b.l0), v1, some (.ref b.a), v3, some (.ref b.hd), some (.ref b.li), some (.ref b.x), some (.ref b.ev), some (.ref r), some (.ref g), v10, v11] ∧ Same G4 H') ?_ fun rest_ => ?_
  rotate_left
  · refine ⟨_, rfl, _, rfl, b.x, .ref g, b.hs', b.its, .lst (Gs.map fun k => .int (k : Nat)), _, Gs, rfl, X4.f.que, by omega, .lst (rm_same _ _ hg) (isA_ints Gs) (by rw [lnv]; omega), rfl, nums_ints ltG, nG, F.feas.mpr fG, fun G5 p us s5 p0 hp pr => ?_⟩
    have eB : bunF b.hs' b.its Gs = [] := by
      rw [bun_perm (fun S => F.feas) (List.Perm.refl Gs) nG]
      exact (bun_nil F.gh F.gi nG ltG fG nG hG).mpr fun k => Iff.rfl
    rw [eB] at pr
    cases pr
    refine ⟨lineN (n := 0), fun e he => ?_⟩
    have s6 := Same.up (o := .lst []) he
    have e6 : (upd G5 e (.lst [])) e = some (.lst (nV [])) := upd_same
    generalize upd G5 e _ = G6 at s6 e6 ⊢
    refine ⟨iD [], iD [], iD_dp (s6 _ _ hp), iD_dp e6, iD_shaped _, iD_shaped _, ?_⟩
    rw [iD_eqv, decide_eq_true rfl]
    exact ⟨_, rfl, iteF (rest_ _ _ ⟨rfl, s5.trans s6⟩)⟩
  rintro σ G5 ⟨rfl, s5⟩
  have r5 := Same.rm (a := b.a) s5
  exact ht D b r g R Gs _ _ _ _ _ rfl rfl (X4.same s5) F (r5 _ _ hR) (r5 _ _ hg) nR lR fR hG sG q
end
end K34

set_option Elab.async false
set_option linter.all false
set_option maxRecDepth 100000
set_option maxHeartbeats 4000000
namespace K34
open PySem PySem.Spec PyProof.Rows L2 Sr LamX
section
variable {P : Program} {w : World} {K : PySem.W.Frag} {mg : Str → Option Value} {base : Heap}
theorem la_a {P1 P2 : Addr} {A : Around} {outer : List Env} {s : Shared} {H : Hp} {E : XK} (C : LawC P w K mg base P1 P2) (hr : Room 13 (XL P w K mg base A outer s H E).A) :
    ∃ t, PSs (XL P w K mg base A outer s H E) lawBody t ∧ ∀ (D : Ends) (l0 : Addr) (ns : List Int) (i : Int) (v2 v3 v4 v5 v6 v7 v8 v9 v10 v11 : Option V) (G : Hp), SqL K G l0 (ns.map V.int) → Tabs (TS0 P1 P2) G → 0 ≤ i →
      (∀ σ H', LawInv K P1 P2 l0 ns σ H' → D.nx σ H') →
      t D [some (.ref l0), some (.int i), v2, v3, v4, v5, v6, v7, v8, v9, v10, v11] G := by
  obtain ⟨tt, pt, ht⟩ := la_c C (outer := outer) (H := H) (E := E) hr
  obtain ⟨T, O, MkQ0, C_law_source, C_law_draw, C_law_pick, C_law_same, C_law_mixed, C_law_some_items, C_law_some_holdings, C_law_all_can, C_law_greatest, C_law_one_by_one, C_law_least, C_in_turn, C_bundles⟩ := C
  refine ⟨_, (pss_cons (ps_set (i := 2) sc_law.nd rfl (by first | exact Or.inl rfl | exact Or.inr rfl) (pe_cal C_law_source hr (by first | decide | omega) (by rfl) (pa_cons (pv 0) (pa_cons (pv 1) pa_nil))))
      (pss_cons (ps_par (i := 4) (j := 5) (by rfl) sc_law.nd rfl rfl (by decide) rfl rfl (pa_cons (pe_cal C_law_some_holdings hr (by first | decide | omega) (by rfl) (pa_cons (pv 2) pa_nil)) (pa_cons (pe_cal C_law_some_items hr (by first | decide | omega) (by rfl) (pa_cons (pv 2) (pa_cons (pe_op op_add pe_int (pe_cal C_law_draw hr (by first | decide | omega) (by rfl) (pa_cons (pv 2) (pa_cons pe_int pa_nil)))) pa_nil))) pa_nil)) (by rfl))
      (pss_cons (ps_par (i := 6) (j := 7) (by rfl) sc_law.nd rfl rfl (by decide) rfl rfl (pa_cons (MkQ.pe (K := K) (w := w) MkQ0 rfl rfl hr (by decide) (by rfl) (pa_cons (pv 4) (pa_cons (pv 5) pa_nil))) (pa_cons (pe_cal C_law_all_can hr (by first | decide | omega) (by rfl) (pa_cons (pv 4) (pa_cons (pv 5) pa_nil))) pa_nil)) (by rfl))
      pt))), ?_⟩
  intro D l0 ns i v2 v3 v4 v5 v6 v7 v8 v9 v10 v11 G hsq ht0 hi q
  refine cut_if (fun σ H' => ∃ a, σ = [some (.ref l0), some (.int i), some (.ref a), v3, v4, v5, v6, v7, v8, v9, v10, v11] ∧ DnAt 0 H' a ∧ SqL K (rm H' a) l0 (ns.map V.int) ∧ Tabs (TS0 P1 P2) H') ?_ fun rest => ?_
  rotate_left
  · exact ⟨_, rfl, _, rfl, l0, i, ns, rfl, hsq, hi, fun a o ha ho => rest _ _ ⟨a, rfl, DnAt.put ho, sql_mono (rm_new ha) hsq, ht0.ext (Same.up ha)⟩⟩
  rintro σ G0 ⟨a, rfl, d0, sq0, t0⟩
  try dsimp only
  refine cut_if (fun σ H' => ∃ hd li kv us hs its, σ = [some (.ref l0), some (.int i), some (.ref a), v3, some (.ref hd), some (.ref li), v6, v7, v8, v9, v10, v11] ∧ DnAt 0 H' a ∧ SqL K (rm H' a) l0 (ns.map V.int) ∧ Tabs (TS0 P1 P2) H' ∧ (rm H' a) hd = some (.dK kv) ∧ HldR (rm H' a) kv hs ∧ drawnH hs ∧ (rm H' a) li = some (.lst us) ∧ IsA (rm H' a) us (its.map itD) ∧ its.length ≤ 6 ∧ drawnI its) ?_ fun rest => ?_
  rotate_left
  · refine ⟨_, rfl, a, rfl, d0, fun hd G1 kv hs d1 s1 m1 e1 h1 dh => ?_⟩
    refine ⟨_, rfl, _, rfl, a, 5, 0, rfl, d1, by decide, by decide, by decide, fun r o r1 r2 ho => ?_⟩
    have d2 : DnAt 0 (upd G1 a o) a := DnAt.put (n := 0) ho
    have s2 : Same (rm G1 a) (rm (upd G1 a o) a) := rm_put
    generalize upd G1 a o = G2 at d2 s2 ⊢
    obtain ⟨n, rfl⟩ := Int.eq_ofNat_of_zero_le r1
    delta tNil
    dsimp only
    refine ⟨2, (n : Int), rfl, rfl, a, 2 + n, rfl, d2, by omega, fun li G3 us its d3 s3 m3 e3 i3 l3 g3 => ?_⟩
    have s13 := s2.trans s3
    exact ⟨_, _, rfl, rest _ _ ⟨hd, li, kv, us, hs, its, rfl, d3, sql_mono (s1.trans s13) sq0, tabs_draws t0 d0 (s1.trans s13), s13 _ _ e1, h1.mono s13, dh, e3, i3, by omega, g3⟩⟩
  rintro σ G1 ⟨hd, li, kv, us, hs, its, rfl, d1, sq1, t1, ehd, hh, dh, eli, isl, l6, di⟩
  clear sq0 d0 t0 hsq ht0
  try dsimp only
  have gh := (drawnH_good dh).1
  have gi := drawnI_good di l6 (by decide)
  refine cut_if (fun σ H' => ∃ x ev hs' us2 rows, σ = [some (.ref l0), some (.int i), some (.ref a), v3, some (.ref hd), some (.ref li), some (.ref x), some (.ref ev), v8, v9, v10, v11] ∧ Sx K ⟨l0, a, x, hd, li, ev, P1, P2, kv, hs, hs', its, us2, rows, ns⟩ H' ∧ Fx ⟨l0, a, x, hd, li, ev, P1, P2, kv, hs, hs', its, us2, rows, ns⟩) ?_ fun rest => ?_
  rotate_left
  · refine ⟨_, rfl, _, rfl, ok_queues (rm_same _ _ ehd) (hh.mono rm_same) gh (v := .ref li) (its := its) ⟨li, us, rfl, .inl (rm_same _ _ eli), itms_of (isl.mono rm_same)⟩ gi fun x G2 hs' hx s2 can qr => ?_⟩
    have d2 := d1.up s2
    have t2 := t1.ext s2
    have s12 : Same (rm G1 a) (rm G2 a) := Same.rm s2
    have q2 : QueR K (rm G2 a) (rm G2 a) x hs' its := qr.keep (fun b o e => by
      rw [rm_ne (d1.new (new_no e))]
      exact new_same _ _ e) (fun b xs e => by
      rw [rm_ne fun z => ?_]
      · exact e
      · obtain ⟨o, ea, x1, y1, z1, e2, _⟩ := id d2
        rw [z, ea, e2] at e
        cases e)
    refine ⟨_, rfl, _, rfl, hd, li, kv, hs, its, rfl, rm_same _ _ (s12 _ _ ehd), (hh.mono s12).mono rm_same, gh, ⟨us, rm_same _ _ (s12 _ _ eli), (isl.mono s12).mono rm_same⟩, gi, l6, t2, fun G3 ev us2 rows e3 t3 hev pr mr lr nd => ?_⟩
    have d3 := d2.ext e3
    have er := ext_rm (a := a) e3
    have npr : ∀ {b : Addr} {xs : List V}, G3 b = some (.tup xs) → b ≠ a := fun {b xs} e z => by
      obtain ⟨o, ea, x1, y1, z1, e2, _⟩ := id d3
      rw [z, ea, e2] at e
      cases e
    have nev : ev ≠ a := fun z => by
      obtain ⟨o, ea, x1, y1, z1, e2, _⟩ := id d3
      rw [z, ea, e2] at hev
      cases hev
      cases pr with
      | cons h _ =>
        obtain ⟨t, e, _⟩ := h
        cases e
    have k3 : ∀ {b : Addr} {o : HO}, (rm G1 a) b = some o → (∀ ps, o ≠ .tbl ps) → (rm G3 a) b = some o := fun h n => er _ _ (s12 _ _ h) n
    refine ⟨_, _, rfl, rest _ _ ⟨x, ev, hs', us2, rows, rfl, ⟨d3, t3, ⟨sql_ext er (sql_mono s12 sq1), q2.ext er, k3 ehd (fun _ z => by cases z), (hh.mono s12).ext er, ⟨us, k3 eli (fun _ z => by cases z), (isl.mono s12).ext er⟩, by rw [rm_ne nev]; exact hev, L2.Paired.mapP pr fun _ _ ⟨t, x, y⟩ => ⟨t, x, by rw [rm_ne (npr y)]; exact y⟩⟩⟩, ⟨gh, can, gi, l6, mr, nd, lr⟩⟩⟩
  rintro σ G2 ⟨x, ev, hs', us2, rows, rfl, X, F⟩
  exact ht D _ _ _ _ _ _ _ _ rfl rfl X F q
theorem c_law {P1 P2 : Addr} {fd : FuncData} (C : LawC P w K mg base P1 P2) (DL : FunD K "law" "law" (defArgs s_law) (defBody s_law) (defScope s_law) [] [] (He.ga K "law") fd) : FnOk P w K mg base CX0 14 (He.ga K "law") fd ["script"] (spLaw K P1 P2) := by
  refine fun_ok DL sc_law (fun vs H Q E h => ?_) fun A outer s H vs Q E hr h => ?_
  · obtain ⟨l, ns, rfl, _⟩ := h
    rfl
  obtain ⟨l, ns, rfl, hs, h1, h2, q⟩ := h
  have t0 : Tabs (TS0 P1 P2) H := fun p hp => by
    rcases List.mem_cons.mp hp with rfl | hp
    · exact TabS.nil h1
    · rw [List.mem_singleton.mp hp]
      exact TabS.nil h2
  obtain ⟨tt, pt, ht⟩ := la_a C (A := A) (outer := outer) (s := s) (H := H) (E := E) hr
  obtain ⟨T, O, MkQ0, C_law_source, C_law_draw, C_law_pick, C_law_same, C_law_mixed, C_law_some_items, C_law_some_holdings, C_law_all_can, C_law_greatest, C_law_one_by_one, C_law_least, C_in_turn, C_bundles⟩ := C
  refine ⟨_, PSs.nox (pss_cons (ps_for PassesOwn.never rfl (pi_range1 (by rfl) T.range (pa_cons (pe_op op_add pe_int (pe_callB (id := "min") (call_min2 rfl) (by rfl) T.min (by decide +kernel) (pa_cons (pe_callB (id := "len") call_len_seq (by rfl) T.len (by decide +kernel) (pa_cons (pv 0) pa_nil)) (pa_cons pe_int pa_nil)))) pa_nil)) (pg_name (i := 1) sc_law.nd rfl (by first | exact Or.inl rfl | exact Or.inr rfl))
      pt)
      (pss_one (ps_ret pe_bl))), ?_⟩
  refine ⟨_, rfl, l, _, rfl, .inl hs, _, _, rfl, _, _, rfl, rfl, _, rfl, ?_, ?_, ?_⟩
  · split <;> omega
  · split <;> omega
  refine for_range (fun _ => LawInv K P1 P2 l ns) ⟨⟨_, _, _, _, _, _, _, _, _, _, _, rfl⟩, hs, t0⟩ ?_ ?_
  rotate_left
  · rintro σ H1 ⟨⟨v1, v2, v3, v4, v5, v6, v7, v8, v9, v10, v11, rfl⟩, _⟩
    try dsimp only
    exact q _
  rintro i σ H1 hi ⟨⟨v1, v2, v3, v4, v5, v6, v7, v8, v9, v10, v11, rfl⟩, sq, tb⟩
  exact ht _ _ _ _ _ _ _ _ _ _ _ _ _ _ _ sq tb (by omega) fun σ H' h => h
end
end K34

set_option Elab.async false
set_option linter.all false
set_option maxRecDepth 100000
set_option maxHeartbeats 0
namespace K34
open PySem PySem.Spec PyProof.Rows L2 Sr
/-! ### the head -/
def dd (x : Str) (i : Nat) : He.DefD := ⟨(x, none), x, x, defArgs (top i), defBody (top i), defScope (top i), [], []⟩
def dm (c m qual : Str) (st : Stmt) : He.DefD := ⟨(c, some m), m, qual, defArgs st, defBody st, defScope st, [], []⟩
def fn : List He.DefD := [dd "is_integer" 5, dd "is_list" 6, dd "is_name" 7, dd "frozen" 8, dd "_check_holdings" 18, dd "_is_held" 19, dd "_check_items" 20, dd "_is_leg" 21, dd "_told_holdings" 22, dd "is_feasible" 26, dd "in_turn" 27, dd "bundles" 28, dd "_is_number" 29, dd "_check_feasible" 30, dd "_is_feasible" 31, dd "_next_in_turn" 32, dd "_has_all" 33, dd "_law_source" 35, dd "_law_draw" 36, dd "_law_pick" 37, dd "_law_mixed" 38, dd "_law_same" 39, dd "_law_some_items" 40, dd "_law_some_holdings" 41, dd "_law_queue" 42, dd "_law_keys" 43, dd "_law_given" 44, dd "_law_taken" 45, dd "_law_had" 46, dd "_law_can" 47, dd "_law_sets" 48, dd "_law_all_can" 49, dd "_law_greatest" 50, dd "_law_one_by_one" 51, dd "_law_least" 52, dd "law" 53, dm "Queues" "__init__" "Queues.__init__" s_Queues___init__, dm "Queues" "holdings" "Queues.holdings" s_Queues_holdings, dm "Queues" "all_items" "Queues.all_items" s_Queues_all_items, dm "Queues" "queue" "Queues.queue" s_Queues_queue, dm "Queues" "__len__" "Queues.__len__" s_Queues___len__, dm "Waits" "__init__" "Waits.__init__" s_Waits___init__, dm "Waits" "set_aside" "Waits.set_aside" s_Waits_set_aside, dm "Waits" "is_behind" "Waits.is_behind" s_Waits_is_behind, dm "Waits" "is_short" "Waits.is_short" s_Waits_is_short, dm "Waits" "why" "Waits.why" s_Waits_why]
def fa : List He.Fa := [.glo "is_integer", .glo "is_list", .glo "is_name", .glo "frozen", .glo "_check_holdings", .glo "_is_held", .glo "_check_items", .glo "_is_leg", .glo "_told_holdings", .glo "is_feasible", .glo "in_turn", .glo "bundles", .glo "_is_number", .glo "_check_feasible", .glo "_is_feasible", .glo "_next_in_turn", .glo "_has_all", .glo "_law_source", .glo "_law_draw", .glo "_law_pick", .glo "_law_mixed", .glo "_law_same", .glo "_law_some_items", .glo "_law_some_holdings", .glo "_law_queue", .glo "_law_keys", .glo "_law_given", .glo "_law_taken", .glo "_law_had", .glo "_law_can", .glo "_law_sets", .glo "_law_all_can", .glo "_law_greatest", .glo "_law_one_by_one", .glo "_law_least", .glo "law", .free "len", .free "isinstance", .free "all", .free "range", .free "sorted", .free "list", .free "tuple", .free "min", .free "int", .free "str", .free "bool", .free "dict", .free "zip", .free "enumerate", .str "SIGNS" signs, .int "LONGEST" 8, .free "max", .free "sum", .free "set", .free "any", .free "abs", .glo "Queues", .glo "Waits", .cls "Queues", .noat "Queues" "_holdings", .noat "Queues" "_items", .cls "Waits", .noat "Waits" "_income", .noat "Waits" "_needs", .noat "Waits" "_takes", .noat "Waits" "_aside", .meth "Queues" "holdings", .meth "Queues" "all_items", .meth "Queues" "queue", .meth "Waits" "set_aside", .meth "Waits" "is_aside", .meth "Waits" "is_behind", .meth "Waits" "is_short", .meth "Waits" "why", .mkr "Queues", .mkr "Waits"]
def ts : List He.Tab := []
def tf : List He.Defn := [("_law_sets", none), ("_law_least", none)]
def ex (K : PySem.W.Frag) : Bool := decide (PySem.W.findIn K (.ref (He.ga K "Queues")) "__len__" = some (some (.ref (He.fAd K ("Queues", some "__len__"))))) && (decide (PySem.W.typeIn K (.ref (He.fAd K ("Queues", some "__len__"))) = some (.type "function")) && (decide (PySem.W.nsIn K mainGlobals "combinations" = some (some (.type "itertools.combinations"))) && (decide ((He.cT K ("_law_sets", none)).2 ≠ (He.cT K ("_law_least", none)).2))))
abbrev R : PySem.W.OpenRow := PySem.W.OpenLaw.row PySem.Challenge.rw_seatroads_k34_whole_turns_and_bundles
abbrev hk : PySem.W.Hook := He.hookX 6 fa fn ts tf ex
def ob (s : PySem.W.SharedT) : He.AlX := He.obsX 6 fa fn ts tf ex (HandSHeadRun.getT s)
theorem ob_eq (s : PySem.W.SharedT) : ob s = hk.obs s.abs := He.obsX_eq (HandSHeadRun.getT_eq s)
def loose0 : List Str := ["is_integer", "is_list", "is_name", "frozen", "_check_holdings", "_is_held", "_check_items", "_is_leg", "_told_holdings", "is_feasible", "in_turn", "bundles", "_is_number", "_check_feasible", "_is_feasible", "_next_in_turn", "_has_all", "_law_source", "_law_draw", "_law_pick", "_law_mixed", "_law_same", "_law_some_items", "_law_some_holdings"]
def loose1 : List Str := ["_law_queue", "_law_keys", "_law_given", "_law_taken", "_law_had", "_law_can", "_law_sets", "_law_all_can", "_law_greatest", "_law_one_by_one", "_law_least", "_wall", "combinations", "SIGNS", "LONGEST", "OfficeError", "Queues", "Waits", "BadNumber", "BadName", "BadHoldings", "BadItem", "NotFeasible"]
def loose : List Str := loose0 ++ loose1
theorem run (w : World) : HandSHeadRun.RunEqI R (PySem.W.view R.prog [0, 53]) hk ob 60000 loose w := by
  delta HandSHeadRun.RunEqI
  kernel_rfl
end K34

set_option Elab.async false
set_option linter.all false
set_option maxRecDepth 100000
set_option maxHeartbeats 4000000
namespace K34
open PySem PySem.Spec PyProof.Rows L2 Sr LamX
theorem facts {l : PySem.W.OpenLaw} {w : World} {K : PySem.W.Frag} {h : Heap} {mg : Str → Option Value} {f : Addr} (X : K.In h) (G : h.Ns mainGlobals mg) (hfa : mg ("law" : Str) = some (.ref f)) (c : He.SaysX fa fn ts tf ex w h K) : LawAtS l w K CX0 14 63 "script" mg f h := by
  have cd : He.SaysD fa fn K := c.t.d
  have e := hfa.symm.trans (He.glo_ok X G (cd.fact 35 (f := .glo "law") rfl))
  cases e
  obtain ⟨x0, y1⟩ := He.ba c.more
  obtain ⟨x1, y2⟩ := He.ba y1
  obtain ⟨x2, y3⟩ := He.ba y2
  have blen := of_decide_eq_true x0
  have blf := of_decide_eq_true x1
  have bcomb := of_decide_eq_true x2
  have bnP := of_decide_eq_true y3
  have D_is_integer : Dfn K mg "is_integer" s_is_integer := ⟨cd.def_ 0 (d := dd "is_integer" 5) rfl, He.glo_ok X G (cd.fact 0 (f := .glo "is_integer") rfl)⟩
  have D_is_list : Dfn K mg "is_list" s_is_list := ⟨cd.def_ 1 (d := dd "is_list" 6) rfl, He.glo_ok X G (cd.fact 1 (f := .glo "is_list") rfl)⟩
  have D_is_name : Dfn K mg "is_name" s_is_name := ⟨cd.def_ 2 (d := dd "is_name" 7) rfl, He.glo_ok X G (cd.fact 2 (f := .glo "is_name") rfl)⟩
  have D_frozen : Dfn K mg "frozen" s_frozen := ⟨cd.def_ 3 (d := dd "frozen" 8) rfl, He.glo_ok X G (cd.fact 3 (f := .glo "frozen") rfl)⟩
  have D__check_holdings : Dfn K mg "_check_holdings" s__check_holdings := ⟨cd.def_ 4 (d := dd "_check_holdings" 18) rfl, He.glo_ok X G (cd.fact 4 (f := .glo "_check_holdings") rfl)⟩
  have D__is_held : Dfn K mg "_is_held" s__is_held := ⟨cd.def_ 5 (d := dd "_is_held" 19) rfl, He.glo_ok X G (cd.fact 5 (f := .glo "_is_held") rfl)⟩
  have D__check_items : Dfn K mg "_check_items" s__check_items := ⟨cd.def_ 6 (d := dd "_check_items" 20) rfl, He.glo_ok X G (cd.fact 6 (f := .glo "_check_items") rfl)⟩
  have D__is_leg : Dfn K mg "_is_leg" s__is_leg := ⟨cd.def_ 7 (d := dd "_is_leg" 21) rfl, He.glo_ok X G (cd.fact 7 (f := .glo "_is_leg") rfl)⟩
  have D__told_holdings : Dfn K mg "_told_holdings" s__told_holdings := ⟨cd.def_ 8 (d := dd "_told_holdings" 22) rfl, He.glo_ok X G (cd.fact 8 (f := .glo "_told_holdings") rfl)⟩
  have D_is_feasible : Dfn K mg "is_feasible" s_is_feasible := ⟨cd.def_ 9 (d := dd "is_feasible" 26) rfl, He.glo_ok X G (cd.fact 9 (f := .glo "is_feasible") rfl)⟩
  have D_in_turn : Dfn K mg "in_turn" s_in_turn := ⟨cd.def_ 10 (d := dd "in_turn" 27) rfl, He.glo_ok X G (cd.fact 10 (f := .glo "in_turn") rfl)⟩
  have D_bundles : Dfn K mg "bundles" s_bundles := ⟨cd.def_ 11 (d := dd "bundles" 28) rfl, He.glo_ok X G (cd.fact 11 (f := .glo "bundles") rfl)⟩
  have D__is_number : Dfn K mg "_is_number" s__is_number := ⟨cd.def_ 12 (d := dd "_is_number" 29) rfl, He.glo_ok X G (cd.fact 12 (f := .glo "_is_number") rfl)⟩
  have D__check_feasible : Dfn K mg "_check_feasible" s__check_feasible := ⟨cd.def_ 13 (d := dd "_check_feasible" 30) rfl, He.glo_ok X G (cd.fact 13 (f := .glo "_check_feasible") rfl)⟩
  have D__is_feasible : Dfn K mg "_is_feasible" s__is_feasible := ⟨cd.def_ 14 (d := dd "_is_feasible" 31) rfl, He.glo_ok X G (cd.fact 14 (f := .glo "_is_feasible") rfl)⟩
  have D__next_in_turn : Dfn K mg "_next_in_turn" s__next_in_turn := ⟨cd.def_ 15 (d := dd "_next_in_turn" 32) rfl, He.glo_ok X G (cd.fact 15 (f := .glo "_next_in_turn") rfl)⟩
  have D__has_all : Dfn K mg "_has_all" s__has_all := ⟨cd.def_ 16 (d := dd "_has_all" 33) rfl, He.glo_ok X G (cd.fact 16 (f := .glo "_has_all") rfl)⟩
  have D__law_source : Dfn K mg "_law_source" s__law_source := ⟨cd.def_ 17 (d := dd "_law_source" 35) rfl, He.glo_ok X G (cd.fact 17 (f := .glo "_law_source") rfl)⟩
  have D__law_draw : Dfn K mg "_law_draw" s__law_draw := ⟨cd.def_ 18 (d := dd "_law_draw" 36) rfl, He.glo_ok X G (cd.fact 18 (f := .glo "_law_draw") rfl)⟩
  have D__law_pick : Dfn K mg "_law_pick" s__law_pick := ⟨cd.def_ 19 (d := dd "_law_pick" 37) rfl, He.glo_ok X G (cd.fact 19 (f := .glo "_law_pick") rfl)⟩
  have D__law_mixed : Dfn K mg "_law_mixed" s__law_mixed := ⟨cd.def_ 20 (d := dd "_law_mixed" 38) rfl, He.glo_ok X G (cd.fact 20 (f := .glo "_law_mixed") rfl)⟩
  have D__law_same : Dfn K mg "_law_same" s__law_same := ⟨cd.def_ 21 (d := dd "_law_same" 39) rfl, He.glo_ok X G (cd.fact 21 (f := .glo "_law_same") rfl)⟩
  have D__law_some_items : Dfn K mg "_law_some_items" s__law_some_items := ⟨cd.def_ 22 (d := dd "_law_some_items" 40) rfl, He.glo_ok X G (cd.fact 22 (f := .glo "_law_some_items") rfl)⟩
  have D__law_some_holdings : Dfn K mg "_law_some_holdings" s__law_some_holdings := ⟨cd.def_ 23 (d := dd "_law_some_holdings" 41) rfl, He.glo_ok X G (cd.fact 23 (f := .glo "_law_some_holdings") rfl)⟩
  have D__law_queue : Dfn K mg "_law_queue" s__law_queue := ⟨cd.def_ 24 (d := dd "_law_queue" 42) rfl, He.glo_ok X G (cd.fact 24 (f := .glo "_law_queue") rfl)⟩
  have D__law_keys : Dfn K mg "_law_keys" s__law_keys := ⟨cd.def_ 25 (d := dd "_law_keys" 43) rfl, He.glo_ok X G (cd.fact 25 (f := .glo "_law_keys") rfl)⟩
  have D__law_given : Dfn K mg "_law_given" s__law_given := ⟨cd.def_ 26 (d := dd "_law_given" 44) rfl, He.glo_ok X G (cd.fact 26 (f := .glo "_law_given") rfl)⟩
  have D__law_taken : Dfn K mg "_law_taken" s__law_taken := ⟨cd.def_ 27 (d := dd "_law_taken" 45) rfl, He.glo_ok X G (cd.fact 27 (f := .glo "_law_taken") rfl)⟩
  have D__law_had : Dfn K mg "_law_had" s__law_had := ⟨cd.def_ 28 (d := dd "_law_had" 46) rfl, He.glo_ok X G (cd.fact 28 (f := .glo "_law_had") rfl)⟩
  have D__law_can : Dfn K mg "_law_can" s__law_can := ⟨cd.def_ 29 (d := dd "_law_can" 47) rfl, He.glo_ok X G (cd.fact 29 (f := .glo "_law_can") rfl)⟩
  have D__law_sets : Dfn K mg "_law_sets" s__law_sets := ⟨cd.def_ 30 (d := dd "_law_sets" 48) rfl, He.glo_ok X G (cd.fact 30 (f := .glo "_law_sets") rfl)⟩
  have D__law_all_can : Dfn K mg "_law_all_can" s__law_all_can := ⟨cd.def_ 31 (d := dd "_law_all_can" 49) rfl, He.glo_ok X G (cd.fact 31 (f := .glo "_law_all_can") rfl)⟩
  have D__law_greatest : Dfn K mg "_law_greatest" s__law_greatest := ⟨cd.def_ 32 (d := dd "_law_greatest" 50) rfl, He.glo_ok X G (cd.fact 32 (f := .glo "_law_greatest") rfl)⟩
  have D__law_one_by_one : Dfn K mg "_law_one_by_one" s__law_one_by_one := ⟨cd.def_ 33 (d := dd "_law_one_by_one" 51) rfl, He.glo_ok X G (cd.fact 33 (f := .glo "_law_one_by_one") rfl)⟩
  have D__law_least : Dfn K mg "_law_least" s__law_least := ⟨cd.def_ 34 (d := dd "_law_least" 52) rfl, He.glo_ok X G (cd.fact 34 (f := .glo "_law_least") rfl)⟩
  obtain ⟨fd, DL⟩ := cd.def_ 35 (d := dd "law" 53) rfl
  have DM_Queues___init__ : DfnM K "Queues" "__init__" "Queues.__init__" s_Queues___init__ := ⟨cd.def_ 36 (d := dm "Queues" "__init__" "Queues.__init__" s_Queues___init__) rfl⟩
  have DM_Queues_holdings : DfnM K "Queues" "holdings" "Queues.holdings" s_Queues_holdings := ⟨cd.def_ 37 (d := dm "Queues" "holdings" "Queues.holdings" s_Queues_holdings) rfl⟩
  have DM_Queues_all_items : DfnM K "Queues" "all_items" "Queues.all_items" s_Queues_all_items := ⟨cd.def_ 38 (d := dm "Queues" "all_items" "Queues.all_items" s_Queues_all_items) rfl⟩
  have DM_Queues_queue : DfnM K "Queues" "queue" "Queues.queue" s_Queues_queue := ⟨cd.def_ 39 (d := dm "Queues" "queue" "Queues.queue" s_Queues_queue) rfl⟩
  have DM_Queues___len__ : DfnM K "Queues" "__len__" "Queues.__len__" s_Queues___len__ := ⟨cd.def_ 40 (d := dm "Queues" "__len__" "Queues.__len__" s_Queues___len__) rfl⟩
  have DM_Waits___init__ : DfnM K "Waits" "__init__" "Waits.__init__" s_Waits___init__ := ⟨cd.def_ 41 (d := dm "Waits" "__init__" "Waits.__init__" s_Waits___init__) rfl⟩
  have DM_Waits_set_aside : DfnM K "Waits" "set_aside" "Waits.set_aside" s_Waits_set_aside := ⟨cd.def_ 42 (d := dm "Waits" "set_aside" "Waits.set_aside" s_Waits_set_aside) rfl⟩
  have DM_Waits_is_behind : DfnM K "Waits" "is_behind" "Waits.is_behind" s_Waits_is_behind := ⟨cd.def_ 43 (d := dm "Waits" "is_behind" "Waits.is_behind" s_Waits_is_behind) rfl⟩
  have DM_Waits_is_short : DfnM K "Waits" "is_short" "Waits.is_short" s_Waits_is_short := ⟨cd.def_ 44 (d := dm "Waits" "is_short" "Waits.is_short" s_Waits_is_short) rfl⟩
  have DM_Waits_why : DfnM K "Waits" "why" "Waits.why" s_Waits_why := ⟨cd.def_ 45 (d := dm "Waits" "why" "Waits.why" s_Waits_why) rfl⟩
  have T : Txt K mg := ⟨He.free_ok X G (cd.fact 36 (f := .free "len") rfl), He.free_ok X G (cd.fact 37 (f := .free "isinstance") rfl), He.free_ok X G (cd.fact 38 (f := .free "all") rfl), He.free_ok X G (cd.fact 39 (f := .free "range") rfl), He.free_ok X G (cd.fact 40 (f := .free "sorted") rfl), He.free_ok X G (cd.fact 41 (f := .free "list") rfl), He.free_ok X G (cd.fact 42 (f := .free "tuple") rfl), He.free_ok X G (cd.fact 43 (f := .free "min") rfl), He.free_ok X G (cd.fact 44 (f := .free "int") rfl), He.free_ok X G (cd.fact 45 (f := .free "str") rfl), He.free_ok X G (cd.fact 46 (f := .free "bool") rfl), He.free_ok X G (cd.fact 47 (f := .free "dict") rfl), He.free_ok X G (cd.fact 48 (f := .free "zip") rfl), He.free_ok X G (cd.fact 49 (f := .free "enumerate") rfl), He.str_ok X G (cd.fact 50 (f := .str "SIGNS" signs) rfl), He.int_ok X G (cd.fact 51 (f := .int "LONGEST" 8) rfl), He.free_ok X G (cd.fact 52 (f := .free "max") rfl), He.free_ok X G (cd.fact 53 (f := .free "sum") rfl), He.free_ok X G (cd.fact 54 (f := .free "set") rfl), He.free_ok X G (cd.fact 55 (f := .free "any") rfl), He.free_ok X G (cd.fact 56 (f := .free "abs") rfl)⟩
  have hCo : mg "combinations" = some (.type "itertools.combinations") := PySem.W.mg_of X G bcomb
  have N_Queues := He.glo_ok X G (cd.fact 57 (f := .glo "Queues") rfl)
  have N_Waits := He.glo_ok X G (cd.fact 58 (f := .glo "Waits") rfl)
  have O : Que K mg := ⟨He.cls_ok (cd.fact 59 (f := .cls "Queues") rfl), He.noat_ok (cd.fact 60 (f := .noat "Queues" "_holdings") rfl), He.noat_ok (cd.fact 61 (f := .noat "Queues" "_items") rfl)⟩
  have OW : Wai K mg := ⟨He.cls_ok (cd.fact 62 (f := .cls "Waits") rfl), He.noat_ok (cd.fact 63 (f := .noat "Waits" "_income") rfl), He.noat_ok (cd.fact 64 (f := .noat "Waits" "_needs") rfl), He.noat_ok (cd.fact 65 (f := .noat "Waits" "_takes") rfl), He.noat_ok (cd.fact 66 (f := .noat "Waits" "_aside") rfl)⟩
  have M_holdings : Meth K (He.ga K "Queues") "holdings" (He.fAd K ("Queues", some "holdings")) := He.meth_ok (cd.fact 67 (f := .meth "Queues" "holdings") rfl)
  have M_all_items : Meth K (He.ga K "Queues") "all_items" (He.fAd K ("Queues", some "all_items")) := He.meth_ok (cd.fact 68 (f := .meth "Queues" "all_items") rfl)
  have M_queue : Meth K (He.ga K "Queues") "queue" (He.fAd K ("Queues", some "queue")) := He.meth_ok (cd.fact 69 (f := .meth "Queues" "queue") rfl)
  have W_set_aside : Meth K (He.ga K "Waits") "set_aside" (He.fAd K ("Waits", some "set_aside")) := He.meth_ok (cd.fact 70 (f := .meth "Waits" "set_aside") rfl)
  have W_is_aside : Meth K (He.ga K "Waits") "is_aside" (He.fAd K ("Waits", some "is_aside")) := He.meth_ok (cd.fact 71 (f := .meth "Waits" "is_aside") rfl)
  have W_is_behind : Meth K (He.ga K "Waits") "is_behind" (He.fAd K ("Waits", some "is_behind")) := He.meth_ok (cd.fact 72 (f := .meth "Waits" "is_behind") rfl)
  have W_is_short : Meth K (He.ga K "Waits") "is_short" (He.fAd K ("Waits", some "is_short")) := He.meth_ok (cd.fact 73 (f := .meth "Waits" "is_short") rfl)
  have W_why : Meth K (He.ga K "Waits") "why" (He.fAd K ("Waits", some "why")) := He.meth_ok (cd.fact 74 (f := .meth "Waits" "why") rfl)
  have QM : QueM K := ⟨M_holdings, M_all_items, M_queue⟩
  have QL : QueL K := ⟨blen, blf⟩
  have OM : WaiM K := ⟨W_set_aside, W_is_aside, W_is_behind, W_is_short, W_why⟩
  have Mo : Mk K (He.ga K "Queues") (He.fAd K ("Queues", some "__init__")) := He.mkr_ok (cd.fact 75 (f := .mkr "Queues") rfl)
  have MoW : Mk K (He.ga K "Waits") (He.fAd K ("Waits", some "__init__")) := He.mkr_ok (cd.fact 76 (f := .mkr "Waits") rfl)
  have b := FunD.bindsA (ps := ["script"]) DL fun _ _ _ _ _ _ us hl => match us, hl with | [_], _ => rfl
  refine ⟨fd, [He.cT K ("_law_sets", none), He.cT K ("_law_least", none)], spLaw K ((He.cT K ("_law_sets", none)).2) ((He.cT K ("_law_least", none)).2), ?_, ?_, ?_, fun s v => b s [v] rfl, fun H a ns hl _ hT hS => ⟨a, ns, rfl, hS, hT _ List.mem_cons_self, hT _ (List.mem_cons_of_mem _ List.mem_cons_self), fun _ => rfl⟩, fun base _ _ TB => ?_⟩
  · intro p hp
    rcases List.mem_cons.mp hp with rfl | hp
    · exact c.empty _ List.mem_cons_self
    · rw [List.mem_singleton.mp hp]
      exact c.empty _ (List.mem_cons_of_mem _ List.mem_cons_self)
  · intro p hp
    rcases List.mem_cons.mp hp with rfl | hp
    · exact c.out _ List.mem_cons_self
    · rw [List.mem_singleton.mp hp]
      exact c.out _ (List.mem_cons_of_mem _ List.mem_cons_self)
  · intro p hp
    rcases List.mem_cons.mp hp with rfl | hp
    · exact PySem.W.codeHd_of_K X (c.hd _ List.mem_cons_self)
    · rw [List.mem_singleton.mp hp]
      exact PySem.W.codeHd_of_K X (c.hd _ (List.mem_cons_of_mem _ List.mem_cons_self))
  have TB1 := TB _ List.mem_cons_self
  have TB2 := TB _ (List.mem_cons_of_mem _ List.mem_cons_self)
  have C_is_integer := c_is_integer (P := l.prog) (w := w) (base := base) T D_is_integer
  have C_is_list := c_is_list (P := l.prog) (w := w) (base := base) T D_is_list
  have C_is_name := c_is_name (P := l.prog) (w := w) (base := base) T D_is_name
  have C_frozen := c_frozen T D_frozen C_is_list 3
  have C_is_leg := c__is_leg T D__is_leg C_is_list C_is_name C_is_integer
  have C_cki := c__check_items T D__check_items C_is_list C_is_leg
  have C_is_held := c__is_held T D__is_held C_is_name C_is_integer
  have C_ckh := c__check_holdings T D__check_holdings C_is_name C_is_held
  have C_told := c__told_holdings (P := l.prog) (w := w) (base := base) T D__told_holdings
  have MkQ0 : MkQ l.prog w K mg base := ⟨m_init T O DM_Queues___init__ C_ckh C_cki C_told C_frozen, Mo, N_Queues⟩
  have MH := m_holdings (P := l.prog) (w := w) (base := base) T O DM_Queues_holdings
  have MA := m_all_items (P := l.prog) (w := w) (base := base) T O DM_Queues_all_items
  have ML := m_len (P := l.prog) (w := w) (base := base) T O DM_Queues___len__
  have MSA := m_set_aside (P := l.prog) (w := w) (base := base) T OW DM_Waits_set_aside
  have MIB := m_is_behind (P := l.prog) (w := w) (base := base) T OW DM_Waits_is_behind
  have MIS := m_is_short (P := l.prog) (w := w) (base := base) T OW DM_Waits_is_short
  have MW := m_why T OW OM DM_Waits_why MIB MIS
  have MkW0 : MkW l.prog w K mg base := ⟨m_winit T OW O QM DM_Waits___init__ MH MA, MoW, N_Waits⟩
  have C_num := c__is_number T QL D__is_number ML C_is_integer
  have C_isf := c__is_feasible T OW O OM QL MkW0 D__is_feasible ML MW MSA
  have C_feas := c_is_feasible T D_is_feasible C_is_list C_num C_isf
  have C_ckf := c__check_feasible T D__check_feasible C_feas
  have C_has := c__has_all (P := l.prog) (w := w) (base := base) T D__has_all
  have C_next := c__next_in_turn T QL D__next_in_turn ML C_isf
  have C_turn := c_in_turn T D_in_turn C_next
  have C_bun := c_bundles T hCo QL D_bundles ML C_ckf C_isf C_has
  have C_src := c__law_source (P := l.prog) (w := w) (base := base) T D__law_source
  have C_draw := c__law_draw (P := l.prog) (w := w) (base := base) T D__law_draw
  have C_pick := c__law_pick T D__law_pick C_draw
  have C_mix := c__law_mixed T D__law_mixed C_draw
  have C_mixT := c__law_mixedT T D__law_mixed C_draw
  have C_same := c__law_same_deep (P := l.prog) (w := w) (base := base) T D__law_same 2
  have C_si := c__law_some_items T D__law_some_items C_draw C_pick C_mix
  have C_sh := c__law_some_holdings T D__law_some_holdings C_draw C_pick C_mix
  have C_q := c__law_queue (P := l.prog) (w := w) (base := base) T D__law_queue
  have C_keys := c__law_keys (P := l.prog) (w := w) (base := base) T D__law_keys
  have C_giv := c__law_given (P := l.prog) (w := w) (base := base) T D__law_given
  have C_tak := c__law_taken (P := l.prog) (w := w) (base := base) T D__law_taken
  have C_had := c__law_had T D__law_had C_tak
  have C_can := c__law_can T D__law_can C_keys C_q C_giv C_had
  have C_sets := c__law_sets (P := l.prog) (w := w) bnP T TB1 D__law_sets
  have C_all := c__law_all_can T D__law_all_can C_sets C_can
  have C_gr := c__law_greatest T D__law_greatest C_all
  have C_one := c__law_one_by_one T D__law_one_by_one C_pick C_can
  have C_least := c__law_least (P := l.prog) (w := w) bnP T TB2 D__law_least
  exact c_law ⟨T, O, MkQ0, C_src, C_draw, C_pick, C_same, C_mixT, C_si, C_sh, C_all, C_gr, C_one, C_least, C_turn, C_bun⟩ DL
end K34
open PySem PySem.W PySem.Calls PyProof.Rows
theorem PySem.Challenge.cw_seatroads_k34_whole_turns_and_bundles_holds : PySem.Challenge.rw_seatroads_k34_whole_turns_and_bundles.Holds := by
  w_on; o_law
  refine HandSHeadRun.head_imp (r := OpenLaw.row PySem.Challenge.rw_seatroads_k34_whole_turns_and_bundles) (q := view (OpenLaw.row PySem.Challenge.rw_seatroads_k34_whole_turns_and_bundles).prog [0, 53]) (H := K34.hk) (ob := K34.ob) (M := 60000) (loose := K34.loose) (d := HandSHeadRun.topDef (OpenLaw.row PySem.Challenge.rw_seatroads_k34_whole_turns_and_bundles).prog 53) (kwd := []) K34.ob_eq
    K34.run (by kernel_rfl) (by kernel_rfl) (by kernel_rfl) (by rfl) (by first | assumption | decide +kernel) (by decide +kernel) ⟨rfl, rfl, rfl, rfl, rfl, by decide +kernel⟩ ?hw ?hc
  case hw => w_witness2
  case hc =>
    refine LamX.walk_ofTsE (l := PySem.Challenge.rw_seatroads_k34_whole_turns_and_bundles) (n := 63) (k := 14) (x := "script") (CX := fun _ => L2.CX0) rfl (by decide) (by kernel_rfl) ⟨rfl, by decide, by decide⟩ ?F (fun _ _ _ _ _ z => z)
    intro w mg fa h Y G hmg0
    obtain ⟨K, KX, c⟩ := Y
    have hmg : mg ("law" : PySem.Str) = some (.ref fa) := by
      have e : (HandSHeadRun.topDef (OpenLaw.row PySem.Challenge.rw_seatroads_k34_whole_turns_and_bundles).prog 53).name = ("law" : PySem.Str) := by kernel_rfl
      rw [← e]
      exact hmg0
    exact ⟨K, KX, K34.facts KX G hmg c⟩
