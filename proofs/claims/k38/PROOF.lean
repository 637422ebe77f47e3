import PyProof.Rows.All
import Wide.All
import OpenK.AllK
import Wide.FinOn
import KE.KStateDown
import HandS.ForMost
import HandS.Defaults
import HandS.IsInst
import HandS.CallLocal
import HandS.TupAny
import HandS.NoneIn
import HandS.Strs
import HandS.TryOnly
import HandS.Head0
import HandS.Head1
import HandS.Head2
import HandS.HeadEnd
import HandS.HeadHook1
import HandS.HeadHook2
import HandS.HeadHook3
import HandS.HeadHook4
import HandS.ListItems
import HandS.More
import HandS.Walk
import HandS.DictComp
import HandS.Zip
import KE.SortData
import HandS.Conv
import KE.KDictPairs
import HandS.Exc
import HandS.TryMany
import HandS.ExcInit
import HandS.ExcField
import KE.GoesEnum
import HandS.Lambda
import HandS.EndTab
import HandS.Deep
import HandS.WordsDict
import HandS.SlotsOwn
import HandS.TupSets
import HandS.SetFor
import KE.KEqDict
import KE.KEqNest
import HandS.Style
import PyProof.NeKinds
import HandS.Finally
import HandS.HeadWalk
import PySem.Challenge.RW_seatroads_k38_debts_told_and_refused
set_option Elab.async false
set_option linter.all false
set_option maxRecDepth 100000
set_option maxHeartbeats 4000000
namespace Sr
open PySem PySem.Spec PyProof.Rows L2

/-- a def of the top that may be called: its promise, its name -/
structure Cal (P : Program) (w : World) (K : PySem.W.Frag) (mg : Str → Option Value) (base : Heap) (k : Nat) (x : Str) (ps : List Str) (sp : Sp) : Prop where
  ex : ∃ (f : Addr) (fd : FuncData), FnOk P w K mg base CX0 k f fd ps sp ∧ mg x = some (.ref f) ∧ PySem.W.keepIn K (.ref f) = true ∧ Binds K fd ps []

theorem pe_cal {X : Cx} {k k' : Nat} {x : Str} {ps : List Str} {sp : Sp} {p pos : Pos} {e : Expr} {es : List Expr} {t : TA} (C : Cal X.prog X.w X.K X.mg X.base k x ps sp) (hr : Room k' X.A) (hk : k ≤ k') (hg : Gl X x) (ha : PA X (e :: es) t)
    (hdb : (x == ("__debug__" : Str)) = false := by decide) (he : starEach (e :: es) X.env = (false, eval e X.env) :: starEach es X.env := by rfl) (hpl : (backTo pos (starEach es X.env)).any (·.1) = false := by rfl) :
    PE X (.Call (.Name x p) (e :: es) [] pos) (tCall sp [] E0 t) := by
  obtain ⟨f, fd, F, hm, hkp, hb⟩ := C.ex
  exact pe_call F (hr.mono hk) hg hm hkp hb .nil pass0 ha hdb he hpl

/-- a def of the top as the head tells it -/
structure Dfn (K : PySem.W.Frag) (mg : Str → Option Value) (x : Str) (st : Stmt) : Prop where
  fn : ∃ fd, FunD K x x (defArgs st) (defBody st) (defScope st) [] [] (He.ga K x) fd
  at_ : mg x = some (.ref (He.ga K x))

theorem Dfn.cal {P : Program} {w : World} {K : PySem.W.Frag} {mg : Str → Option Value} {base : Heap} {x : Str} {st : Stmt} {N ps : List Str} {k : Nat} {sp : Sp} (D : Dfn K mg x st) (S : FnScope N ps (defScope st))
    (hb : ∀ (kV doc pm : Value) (an : Option Addr) (cdv ct : Value) (us : List Value), us.length = ps.length → bindArgs (PySem.W.fnOf x x (defArgs st) (defBody st) (defScope st) .none kV doc pm an cdv ct) ⟨us, []⟩ = pure (ps.zip us))
    (len : ∀ vs H Q E, sp vs H Q E → vs.length = ps.length)
    (body : ∀ (cdv : Value) (A : Around) (outer : List Env) (s : Shared) (H : Hp) (vs : List V) (Q : VK) (E : XK), Room k (A.deeper (envOfC x (defScope st) s.heap.objs.size (He.ga K x) cdv)) → sp vs H Q E →
      ∃ t, PSs (cxOf CX0 P w K mg base N x (defScope st) (He.ga K x) cdv A outer s H E).nox (defBody st) t ∧ t { nx := fun _ H' => Q .non H', rt := Q } (start N vs) H) :
    Cal P w K mg base (k + 1) x ps sp := by
  obtain ⟨fd, F⟩ := D.fn
  refine ⟨_, fd, F.ok S len fun cdv A outer s H vs Q E hr h => ?_, D.at_, F.kp, F.bindsN hb⟩
  obtain ⟨t, h1, h2⟩ := body cdv A outer s H vs Q E hr h
  exact ⟨t, PSs.nox h1, h2⟩

/-- a method of a class of the top -/
structure CalM (P : Program) (w : World) (K : PySem.W.Frag) (mg : Str → Option Value) (base : Heap) (CX : CXT) (k : Nat) (f : Addr) (ps : List Str) (sp : Sp) : Prop where
  ex : ∃ fd : FuncData, FnOk P w K mg base CX k f fd ps sp ∧ PySem.W.keepIn K (.ref f) = true ∧ Binds K fd ps []
/-- a method as the head tells it -/
structure DfnM (K : PySem.W.Frag) (c m qual : Str) (st : Stmt) : Prop where
  fn : ∃ fd, FunD K m qual (defArgs st) (defBody st) (defScope st) [] [] (He.fAd K (c, some m)) fd
theorem DfnM.cal {P : Program} {w : World} {K : PySem.W.Frag} {mg : Str → Option Value} {base : Heap} {c m qual : Str} {st : Stmt} {N ps : List Str} {k : Nat} {sp : Sp} (D : DfnM K c m qual st) (S : FnScope N ps (defScope st))
    (hb : ∀ (kV doc pm : Value) (an : Option Addr) (cdv ct : Value) (us : List Value), us.length = ps.length → bindArgs (PySem.W.fnOf m qual (defArgs st) (defBody st) (defScope st) .none kV doc pm an cdv ct) ⟨us, []⟩ = pure (ps.zip us))
    (len : ∀ vs H Q E, sp vs H Q E → vs.length = ps.length)
    (body : ∀ (cdv : Value) (A : Around) (outer : List Env) (s : Shared) (H : Hp) (vs : List V) (Q : VK) (E : XK), Room k (A.deeper (envOfC qual (defScope st) s.heap.objs.size (He.fAd K (c, some m)) cdv)) → sp vs H Q E →
      ∃ t, PSs (cxOf CX0 P w K mg base N qual (defScope st) (He.fAd K (c, some m)) cdv A outer s H E).nox (defBody st) t ∧ t { nx := fun _ H' => Q .non H', rt := Q } (start N vs) H) :
    CalM P w K mg base CX0 (k + 1) (He.fAd K (c, some m)) ps sp := by
  obtain ⟨fd, F⟩ := D.fn
  refine ⟨fd, F.ok S len fun cdv A outer s H vs Q E hr h => ?_, F.kp, F.bindsN hb⟩
  obtain ⟨t, h1, h2⟩ := body cdv A outer s H vs Q E hr h
  exact ⟨t, PSs.nox h1, h2⟩

/-- x in o, o an instance whose class says __contains__ -/
structure Has (K : PySem.W.Frag) (C f : Addr) : Prop where
  at_ : PySem.W.findIn K (.ref C) "__contains__" = some (some (.ref f))
  ty : PySem.W.typeIn K (.ref f) = some (.type "function")
def rInOwn (C : Addr) (sp : Sp) (E : XK) (neg : Bool) : R2 := fun x y H Q => ∃ a dx fs, y = .ref a ∧ H a = some (.ins C dx fs) ∧ sp [y, x] H (fun v H' => ∃ b, v = .bl b ∧ Q (.bl (if neg then !b else b)) H') E

theorem own_in {X : Cx} {CX : CXT} {k : Nat} {C f : Addr} {fd : FuncData} {ps : List Str} {sp : Sp} {E : XK} (F : FnOk X.prog X.w X.K X.mg X.base CX k f fd ps sp) (hr : Room k X.A) (hs : Has X.K C f) (hb : Binds X.K fd ps []) (hx : Passes CX X E)
    {pins : List (Addr × Obj)} {s : Shared} {σ : L2.St} {H : Hp} {x y : V} {v u : Value} {Q : Bool → Shared → Prop} (I : Inv X pins σ H s) (rx : RelV x v) (ry : RelV y u)
    (h : ∃ a dx fs, y = .ref a ∧ H a = some (.ins C dx fs) ∧ sp [y, x] H (fun v H' => ∃ b, v = .bl b ∧ ∀ s', Inv X pins σ H' s' → Q b s') E) :
    wpAny (model X.prog X.w) X.A (contains u v) Q X.xe s := by
  obtain ⟨a, dx, fs, rfl, ha, hsp⟩ := h
  cases ry
  obtain ⟨mA, J, _⟩ := ins_get I.hok ha
  obtain ⟨od, J, _⟩ := J.look
  unfold contains
  refine wpAny_holding ?_
  rw [stdlibNamesSay?_ref]
  refine wpAny_bind ?_
  unfold specialOf
  refine wpAny_bind (J.type.here ?_)
  refine (PySem.W.looks_findIn I.kIn hs.at_).here ?_
  show wpAny _ _ (if (some (Value.ref f) == some Value.none) = true then _ else _) _ _ _
  rw [if_neg (by simp)]
  refine wpAny_bind ?_
  unfold callSpecialUnlessNone?
  refine wpAny_bind ?_
  unfold specialOf
  refine wpAny_bind (J.type.here ?_)
  refine (PySem.W.looks_findIn I.kIn hs.at_).here ?_
  refine wpAny_holding ?_
  refine wpAny_bind ((PySem.W.bind_fn I.kIn (.ref a) hs.ty).here ?_)
  show wpAny _ _ (if (Value.ref f == Value.none) = true then _ else _) _ _ _
  rw [if_neg (by simp)]
  refine wpAny_bind ?_
  have r2 : Vals [V.ref a, x] [Value.ref a, v] := .cons rfl (.cons rx .nil)
  refine thn (run_fn (dvs := []) (ds := []) F hr hb .nil hx I r2 hsp) fun r s1 hq => ?_
  obtain ⟨z, H1, I1, rz, b, ez, hb1⟩ := hq
  subst ez
  obtain rfl : r = Value.bool b := rz
  exact wpAny_pure (wpAny_truthy_bool (hb1 s1 I1))

theorem op_inOwn {X : Cx} {CX : CXT} {k : Nat} {C f : Addr} {fd : FuncData} {ps : List Str} {sp : Sp} {E : XK} (F : FnOk X.prog X.w X.K X.mg X.base CX k f fd ps sp) (hr : Room k X.A) (hs : Has X.K C f) (hb : Binds X.K fd ps []) (hx : Passes CX X E)
    (hm : ∀ x y H Q Q' E, (∀ v H', Q v H' → Q' v H') → sp [x, y] H Q E → sp [x, y] H Q' E) :
    OpR X (compareOp .In) (rInOwn C sp E false) := by
  intro pins s σ H x y v u Q I rx ry h
  obtain ⟨a, dx, fs, e, ha, hsp⟩ := h
  show wpAny _ _ (do return Value.bool (← contains u v)) _ _ _
  refine wpAny_bind (own_in F hr hs hb hx (Q := fun b s' => wpAny (model X.prog X.w) X.A (pure (Value.bool b)) (EP X pins σ Q) X.xe s') I rx ry ⟨a, dx, fs, e, ha, hm _ _ _ _ _ _ (fun z H' hz => ?_) hsp⟩)
  obtain ⟨b, rfl, hq⟩ := hz
  exact ⟨b, rfl, fun s' I' => wpAny_pure ⟨.bl b, H', I', rfl, hq⟩⟩
theorem op_has {X : Cx} {k k' : Nat} {C f : Addr} {ps : List Str} {sp : Sp} (M : CalM X.prog X.w X.K X.mg X.base CX0 k f ps sp) (hr : Room k' X.A) (hk : k ≤ k') (hs : Has X.K C f)
    (hm : ∀ x y H Q Q' E, (∀ v H', Q v H' → Q' v H') → sp [x, y] H Q E → sp [x, y] H Q' E) : OpR X (compareOp .In) (rInOwn C sp E0 false) := by
  obtain ⟨fd, F, _, hb⟩ := M.ex
  exact op_inOwn F (hr.mono hk) hs hb pass0 hm
end Sr

set_option Elab.async false
set_option linter.all false
set_option maxRecDepth 100000
set_option maxHeartbeats 4000000
namespace Sr
open PySem PySem.Spec PyProof.Rows L2
open PySem.SeqAt
/-! ### set(texts): how many unlike ones -/
/-- the unlike texts among the first i, in the order in which they are met -/
def met (xs : List Str) : Nat → List Str
  | 0 => []
  | i + 1 => if (met xs i).any (· == xs.getD i Str.empty) = true then met xs i else met xs i ++ [xs.getD i Str.empty]
theorem met_le (xs : List Str) : ∀ i, (met xs i).length ≤ i
  | 0 => Nat.le_refl _
  | i + 1 => by
    have := met_le xs i
    unfold met
    split
    · omega
    · rw [List.length_append]; simp; omega
theorem met_any (xs : List Str) (i : Nat) (k : Str) : ((met xs i).any (· == k) || decide (k = xs.getD i Str.empty)) = (met xs (i + 1)).any (· == k) := by
  show _ = (if (met xs i).any (· == xs.getD i Str.empty) = true then met xs i else met xs i ++ [xs.getD i Str.empty]).any (· == k)
  split
  · rename_i h
    by_cases e : k = xs.getD i Str.empty
    · rw [e, h]; rfl
    · rw [decide_eq_false e, Bool.or_false]
  · rw [List.any_append]
    by_cases e : k = xs.getD i Str.empty
    · subst e; simp
    · rw [decide_eq_false e]
      have : (xs.getD i Str.empty == k) = false := by
        rw [beq_eq_false_iff_ne]; exact fun z => e z.symm
      simp only [List.any_cons, List.any_nil, this, Bool.or_false]
theorem met_len (xs : List Str) (i : Nat) : (if ((met xs i).any (· == xs.getD i Str.empty)) = true then (met xs i).length else (met xs i).length + 1) = (met xs (i + 1)).length := by
  show _ = (if (met xs i).any (· == xs.getD i Str.empty) = true then met xs i else met xs i ++ [xs.getD i Str.empty]).length
  split <;> rename_i h
  · rfl
  · rw [List.length_append]; rfl
abbrev nset (led : Bool) : Obj := { cls := .type "set", dict := none, data := .set #[] 0 (.fresh 0 0 led) }
section
variable {prog : Program} {w : World} {A : Around} {R : Result → Shared → Prop} {I : Addr} {fp wr : List Addr} {G : Array GenState → Array GenState → Prop} {n : Nat} {P : Nat → Value → Prop} {Stt : Nat → Shared → Prop}
theorem texts_loop (W : WalksS prog w A.in1 I fp wr G n P Stt) (S : Addr) (hSf : S ∉ fp) (xs : List Str) (hv : ∀ i v, P i v → ∃ t, v = .str (xs.getD i Str.empty) t) (hb : n + 1 < scanBound) (d : Nat) :
    ∀ (i : Nat) (s : Shared), n = i + d → Stt i s → s.heap.SetOf (PySem.strKind prog w) S (fun k => (met xs i).any (· == k)) (met xs i).length →
      (∀ s', Moved (S :: wr) G s s' → s'.heap.SetOf (PySem.strKind prog w) S (fun k => (met xs n).any (· == k)) (met xs n).length → R (.ok (.ret .none)) s') →
      codeAny (model prog w) A (.builtin "set.update.loop" ⟨[.ref S, .ref I], []⟩) R s := by
  have out : S ∉ wr := fun h => hSf (W.sub _ h)
  have more : ∀ b ∈ wr, b ∈ S :: wr := fun b h => List.mem_cons_of_mem _ h
  have moves : ∀ (s s' : Shared) (i : Nat), Moved wr G s s' → s.heap.SetOf (PySem.strKind prog w) S (fun k => (met xs i).any (· == k)) (met xs i).length →
      s'.heap.SetOf (PySem.strKind prog w) S (fun k => (met xs i).any (· == k)) (met xs i).length := fun s s' i hm ⟨o, es, ep, t, ho, r⟩ => ⟨o, es, ep, t, hm.heap S _ out ho, r⟩
  induction d with
  | zero =>
    intro i s hd hs hS hR
    obtain rfl : n = i := hd
    refine codeAny_builtin PyProof.Rows.F.entry_set_update_loop ?_
    rw [Around.under_plainId PyProof.Rows.F.plain_set_update_loop _]
    show wpAny _ A.in1 (pyNext (.ref I) >>= _) _ _ s
    refine wpAny_bind (W.done s _ _ hs fun s' hm => ?_)
    show wpAny _ A.in1 (ret Value.none) _ _ s'
    exact wpAny_pure (hR s' (hm.mono more) (moves s s' _ hm hS))
  | succ d ih =>
    intro i s hd hs hS hR
    have lt : i < n := by omega
    refine codeAny_builtin PyProof.Rows.F.entry_set_update_loop ?_
    rw [Around.under_plainId PyProof.Rows.F.plain_set_update_loop _]
    show wpAny _ A.in1 (pyNext (.ref I) >>= _) _ _ s
    refine wpAny_bind (W.item i s _ _ lt hs fun v s' hP hs' hm => ?_)
    obtain ⟨t, rfl⟩ := hv i v hP
    have hS' := moves s s' i hm hS
    show wpAny _ A.in1 (holding [Value.str (xs.getD i Str.empty) t] (setAdd S _) >>= _) _ _ s'
    refine wpAny_bind (wpAny_holding ?_)
    unfold setAdd
    refine wpAny_holding (wpAny_bind ((PySem.strKind prog w).pyHash (k := xs.getD i Str.empty) (strKind_is _ _ _ _) ?_))
    have room : (met xs i).length + 1 < scanBound := by have := met_le xs i; omega
    refine wpAny_setAddHashed_of (knd := PySem.strKind prog w) (s := { s' with toks := s'.toks + 1 }) (strKind_is _ _ _ _) rfl hS' room fun h' hsb hS2 => ?_
    have hS3 : h'.SetOf (PySem.strKind prog w) S (fun k => (met xs (i + 1)).any (· == k)) (met xs (i + 1)).length :=
      PyProof.Rows.SetOf_congr hS2 (fun k => met_any xs i k) (met_len xs i)
    refine wpAny_pure ⟨plainId_quiet PyProof.Rows.F.plain_set_update_loop _, ih (i + 1) _ (by omega) (W.frame _ s' _ _ hs' (Nat.le_succ _) fun b hb o e => ?_) hS3 fun s2 hm2 hS4 => ?_⟩
    · rw [hsb.2 b (fun h : b = S => hSf (by rw [← h]; exact hb))]
      exact e
    · refine hR s2 (Moved.trans W.gtrans ((hm.mono more).then_heap (Nat.le_succ _) fun b o hb e => ?_) hm2) hS4
      rw [hsb.2 b (fun h : b = S => hb (by rw [h]; exact List.mem_cons_self))]
      exact e
end
/-- what set(l) leaves -/
def SetOut (prog : Program) (w : World) (s : Shared) (xs : List Str) (n : Nat) (h' : Heap) : Prop :=
  h'.SetOf (PySem.strKind prog w) s.heap.objs.size (fun k => (met xs n).any (· == k)) (met xs n).length ∧ ∀ b o, b < s.heap.objs.size → s.heap.get? b = some o → h'.get? b = some o
section
variable {prog : Program} {w : World} {A : Around} {E : Value → Shared → Prop} {s : Shared}
theorem texts_set {l : Addr} {items : Array Value} {xs : List Str} {Q : Value → Shared → Prop} {ty : String} {walk : Obj} {wr : List Addr} {G : Array GenState → Array GenState → Prop} {Stt : Nat → Shared → Prop}
    (hl : s.heap.get? l ≠ none) (hi : PyProof.Rows.StrsAre items.toList xs) (hb : items.size + 1 < scanBound)
    (e1 : isSubtype (.type ty) (.type "set") = pure false) (e2 : isSubtype (.type ty) (.type "frozenset") = pure false) (e3 : (Value.type ty == Value.type "dict") = false)
    (hty : ∀ led, Shared.TypeIs { s with heap := s.heap.push (nset led) } (.ref l) ty)
    (hit : ∀ (led : Bool) (A : Around) (Q : Value → Shared → Prop) (E : Value → Shared → Prop), (∀ s' : Shared, s' = { s with heap := (s.heap.push (nset led)).push walk } → Q (.ref (s.heap.objs.size + 1)) s') → wpAny (model prog w) A (pyIter (.ref l)) Q E { s with heap := s.heap.push (nset led) })
    (hW : WalksS prog w A.in1.in1.in1 (s.heap.objs.size + 1) [s.heap.objs.size + 1, l] wr G items.size (fun i v => items[i]? = some v) Stt)
    (hG : ∀ a b, G a b → b = a)
    (hwr : ∀ b ∈ wr, b = s.heap.objs.size + 1)
    (hst : ∀ led, Stt 0 { s with heap := (s.heap.push (nset led)).push walk })
    (h : ∀ (h' : Heap) (tk : Nat), SetOut prog w s xs items.size h' → Q (.ref s.heap.objs.size) { s with heap := h', toks := tk }) :
    wpAny (model prog w) A (call (.type "set") [.ref l]) Q E s := by
  have lt : l < s.heap.objs.size := by
    cases e : s.heap.get? l with
    | none => exact absurd e hl
    | some o => exact Heap.lt_size e
  obtain ⟨c, tl, hmro⟩ := PySem.F.called_set.mro
  have a1 := PySem.F.called_set.made
  have a2 := PySem.F.called_set.sub
  have a3 := PySem.F.called_set.notType
  have a4 := PySem.F.called_set.canCreate
  have a5 := PySem.F.typeCall_set_1 (.ref l)
  refine wpAny_call (codeAny_of_tree ?_)
  show wpAny _ _ (callAny (.type "set") _) _ _ _
  refine wpAny_pure ⟨Code.quiet_builtin _ (by decide +kernel), codeAny_builtin PySem.F.entry_type_call ?_⟩
  rw [Around.under_plain (weight_type_call_type "set" [.ref l] []) rfl]
  repeat (any_goals (first | assumption | wp_step))
  refine codeAny_mono (code_set_new_1 (.ref l) (E := E) (Q₁ := fun obj t => ∃ led : Bool, obj = .ref s.heap.objs.size ∧ t = { s with heap := s.heap.push (nset led) }) fun led => ⟨led, rfl, rfl⟩) fun r t hr => ?_
  cases r with
  | error e => exact hr
  | ok fl =>
    cases fl with
    | ret obj =>
      obtain ⟨led, rfl, rfl⟩ := hr
      have b1 : (s.heap.push (nset led)).get? s.heap.objs.size = some (nset led) := Heap.get?_push_size _ rfl
      have b2 : Shared.TypeIs { s with heap := s.heap.push (nset led) } (.ref s.heap.objs.size) "set" := ⟨_, b1, rfl⟩
      have b3 := PySem.F.called_set.init.lookup
      have b4 := PySem.F.called_set.init.bind (.ref s.heap.objs.size)
      repeat (any_goals (first | assumption | wp_step))
      refine codeAny_mono (codeAny_call_builtin (R := wants (fun r t => r = .none ∧ ∃ h' tk, t = { s with heap := h', toks := tk } ∧ SetOut prog w s xs items.size h') E) PySem.F.called_set.init.plain PySem.F.entry_set_init (check_set_init_1 b2 ?_)) fun r t hr => ?_
      · have c1 := hty led
        unfold Builtin.«set.__init__» noKeywords Builtin.Frozenset.updateFrom
        generalize hPI : pyIter = PI
        wp_walk
        subst hPI
        refine hit led _ _ _ fun s' e => ?_
        subst e
        refine wpAny_bind (wpAny_runValue ?_)
        have nS : s.heap.objs.size ∉ [s.heap.objs.size + 1, l] := fun z => by
          rcases List.mem_cons.mp z with z | z
          · exact Nat.ne_of_lt (Nat.lt_succ_self _) z
          · exact Nat.ne_of_gt lt (List.mem_singleton.mp z)
        have hsz : xs.length = items.size := by rw [← PyProof.Rows.StrsAre.len_eq hi, Array.length_toList]
        have hS0 : ((s.heap.push (nset led)).push walk).SetOf (PySem.strKind prog w) s.heap.objs.size (fun k => (met xs 0).any (· == k)) (met xs 0).length := by
          have g : ((s.heap.push (nset led)).push walk).get? s.heap.objs.size = some (nset led) := Heap.get?_push_of_some _ b1
          exact PyProof.Rows.SetOf_congr ((PyProof.Rows.setObjOf_fresh (knd := PySem.strKind prog w) led).setOf g (by unfold scanBound; omega)) (fun _ => rfl) rfl
        refine texts_loop hW s.heap.objs.size nS xs (fun i v hv => SS.strs_at hi i v (by rw [Array.getElem?_toList]; exact hv)) hb items.size 0 _ (by omega) (hst led) hS0 fun s' hm hS' => ?_
        obtain ⟨h', g', d', tk', os'⟩ := s'
        obtain rfl : g' = s.gens := hG _ _ hm.gens
        obtain rfl : d' = s.drawn := hm.drawn
        obtain rfl : os' = s.os := hm.os
        show wpAny _ _ _ _ _ _
        refine wpAny_pure ?_
        show wpAny _ _ (ret Value.none) _ _ _
        refine wpAny_pure ⟨rfl, h', tk', rfl, hS', fun b o hb e => ?_⟩
        refine hm.heap b o ?_ (Heap.get?_push_of_some _ (Heap.get?_push_of_some _ e))
        intro z
        rcases List.mem_cons.mp z with z | z
        · exact Nat.ne_of_lt hb z
        · exact Nat.ne_of_lt (Nat.lt_succ_of_lt hb) (hwr b z)
      · cases r with
        | error e => exact hr
        | ok fl =>
          cases fl with
          | ret r =>
            obtain ⟨rfl, h', tk, rfl, o⟩ := hr
            repeat (any_goals (first | assumption | wp_step))
            exact h _ _ o
          | _ => exact hr.elim
    | _ => exact hr.elim
end

end Sr

set_option Elab.async false
set_option linter.all false
set_option maxRecDepth 100000
set_option maxHeartbeats 4000000
namespace Sr
open PySem PySem.Spec PyProof.Rows L2
open PySem.SeqAt

section
variable {X : Cx}
def tLenSetT (K : PySem.W.Frag) (ta : TE) : TE := fun σ H Q => ta σ H fun x H1 => ∃ (l : Addr) (xs : List Str), x = .ref l ∧ (SqL K H1 l (xs.map V.str) ∨ SqT K H1 l (xs.map V.str)) ∧ xs.length ≤ 60 ∧ Q (.int (met xs xs.length).length) H1
theorem pe_lenSetT {a : Expr} {ta : TE} {p p2 q pos : Pos} (hc : X.calm = true) (hg : Gl X "len") (hm : X.mg "len" = none) (hg2 : Gl X "set") (hm2 : X.mg "set" = none) (ha : PE X a ta)
    (na : starEach [a] X.env = (false, eval a X.env) :: starEach [] X.env := by rfl) : PE X (.Call (.Name "len" p) [.Call (.Name "set" p2) [a] [] q] [] pos) (tLenSetT X.K ta) := by
  refine ⟨fun pins s σ H Q I h => ?_⟩
  refine Call_ (ld_blt I hg hm boot_len ?_)
  refine PyProof.Rows.callWith_builtin1 (PyProof.Rows.args_cons ?_ rfl) rfl rfl
  refine Call_ (ld_blt (u := .type "set") I hg2 hm2 (by decide +kernel) ?_)
  refine PyProof.Rows.callWith_type1 (PyProof.Rows.args_cons (thn (ha.run pins s σ H _ I h) fun v s1 ⟨x, H1, I1, r1, q1⟩ => PyProof.Rows.args_nil ?_) na) na rfl
  obtain ⟨l, xs, rfl, hq, h1, q1⟩ := q1
  cases r1
  have fin : ∀ (its : List Value), Vals (xs.map V.str) its → ∀ (h' : Heap) (tk : Nat), SetOut X.prog X.w s1 xs its.toArray.size h' →
      wpAny (model X.prog X.w) X.A (spliced (backTo pos (starEach [] X.env))) (fun vs s₂ => wpAny (model X.prog X.w) X.A (call (.builtin "len") (Value.ref s1.heap.objs.size :: vs)) (EP X pins σ Q) X.xe s₂) X.xe { s1 with heap := h', toks := tk } := fun its r h' tk ⟨hS, hk⟩ => by
    refine PyProof.Rows.args_nil ?_
    have hl : its.toArray.size = xs.length := by rw [List.size_toArray, ← r.length, List.length_map]
    rw [hl] at hS
    have := met_le xs xs.length
    obtain ⟨o, es, ep, t, ho, hex, hd, _, _, _, hf, hn⟩ := hS
    have I2 : Inv X pins σ H1 { s1 with heap := h', toks := tk } := I1.kept fun b o e => hk b o (Heap.lt_size e) e
    exact call_len_set ho hex hd hf (by rw [hn] <;> omega) ⟨.int _, H1, I2.tok _, ⟨_, by rw [hn]⟩, q1⟩
  have zz : ∀ its : List Value, Vals (xs.map V.str) its → its.toArray.size + 1 < scanBound := fun its r => by
    rw [List.size_toArray, ← r.length, List.length_map]; unfold scanBound; omega
  have lts : ∀ {o : Obj}, s1.heap.get? l = some o → l < s1.heap.objs.size := fun e => Heap.lt_size e
  have hh : ∀ A : Around, A.handled = none → A.in1.in1.in1.handled = none := fun A h => by simp [h]
  have g2 : ∀ (led : Bool) (o : Obj) (ho : o.isFreed = false), ((s1.heap.push (nset led)).push o).get? (s1.heap.objs.size + 1) = some o := fun led o ho => by
    have e := Heap.get?_push_size (s1.heap.push (nset led)) ho
    rwa [Heap.size_push] at e
  have it : ∀ (led : Bool) (o : Obj) (Q : Value → Shared → Prop), (∀ s' : Shared, s' = { s1 with heap := (s1.heap.push (nset led)).push o } → Q (.ref (s1.heap.objs.size + 1)) s') → Q (.ref (s1.heap.push (nset led)).objs.size) { s1 with heap := (s1.heap.push (nset led)).push o } := fun led o Q k => by
    rw [Heap.size_push]
    exact k _ rfl
  rcases hq with hq | hq
  · obtain ⟨its, r, pl, hz⟩ := I1.list hq
    obtain ⟨ol, e, ec, nn, ed⟩ := pl.isList
    have il : s1.heap.IsList l its.toArray := ⟨ol, e, ec, nn, ed⟩
    have ne : l ≠ s1.heap.objs.size + 1 := Nat.ne_of_lt (Nat.lt_succ_of_lt (lts e))
    exact texts_set (ty := "list") (walk := { cls := .type "list_iterator", data := .fields #[.ref l, .int 0 0] }) (by rw [e]; simp) (by simpa using strsAre_of r) (zz its r) PySem.F.sub_list_set PySem.F.sub_list_frozenset (by decide) (fun led => ⟨_, Heap.get?_push_of_some _ e, ec⟩)
      (fun led A Q E k => wpAny_pyIter_list (il.push _) (it led _ Q k)) ((Walks.list (hh _ (I1.ok.hd hc)) _ l ne its.toArray).toS) (fun a b e => e) (fun b hb => List.mem_singleton.mp hb) (fun led => ⟨⟨_, g2 led _ rfl, rfl, rfl⟩, (il.push _).push _⟩) fun h' tk o => fin its r h' tk o
  · obtain ⟨its, r, pl, hz⟩ := I1.tuple hq
    have il : s1.heap.IsTuple l its.toArray := pl
    obtain ⟨ol, e, ec, nn, ed⟩ := pl
    have ne : l ≠ s1.heap.objs.size + 1 := Nat.ne_of_lt (Nat.lt_succ_of_lt (lts e))
    exact texts_set (ty := "tuple") (walk := { cls := .type "tuple_iterator", data := .fields #[.ref l, .int 0 0] }) (by rw [e]; simp) (by simpa using strsAre_of r) (zz its r) PySem.F.sub_tuple_set PySem.F.sub_tuple_frozenset (by decide) (fun led => ⟨_, Heap.get?_push_of_some _ e, ec⟩)
      (fun led A Q E k => wpAny_pyIter_tuple (il.push _) (it led _ Q k)) ((Walks.tuple (hh _ (I1.ok.hd hc)) _ l ne its.toArray).toS) (fun a b e => e) (fun b hb => List.mem_singleton.mp hb) (fun led => ⟨⟨_, g2 led _ rfl, rfl, rfl⟩, (il.push _).push _⟩) fun h' tk o => fin its r h' tk o
end
end Sr

set_option Elab.async false
set_option linter.all false
set_option maxRecDepth 100000
set_option maxHeartbeats 4000000
namespace Sr
open PySem PySem.Spec PyProof.Rows L2
/-! ### list(d.values()) -/
def tListValues (te : TE) : TE := fun σ H Q => te σ H fun x H1 => ∃ d kvs, x = .ref d ∧ H1 d = some (.dK kvs) ∧ ∀ p, H1 p = none → Q (.ref p) (upd H1 p (.lst (kvs.map (·.2))))
theorem vals_of_kv : ∀ {kvs : List (Key × V)} {vs : List (Key × Value)}, KV kvs vs → Vals (kvs.map (·.2)) (vs.map (·.2))
  | _, _, .nil => .nil
  | _, _, .cons h t => .cons h.2 (vals_of_kv t)
theorem pe_listValues {X : Cx} {e : Expr} {te : TE} {p apos cpos pos : Pos} (hg : Gl X "list") (hm : X.mg "list" = none) (he : PE X e te) (hc : X.calm = true := by rfl) (hbase : attributeBase e "values" X.env (eval e X.env) = eval e X.env := by rfl) (hline : (apos.endLine == cpos.line) = true := by rfl)
    (hs : starEach [.Call (.Attribute e "values" apos) [] [] cpos] X.env = (false, eval (.Call (.Attribute e "values" apos) [] [] cpos) X.env) :: starEach [] X.env := by rfl) :
    PE X (.Call (.Name "list" p) [.Call (.Attribute e "values" apos) [] [] cpos] [] pos) (tListValues te) := by
  refine ⟨fun pins s σ H Q I hq => ?_⟩
  refine wpAny_Call_Name_kw (ld_blt (u := .type "list") I hg hm (by decide +kernel) ?_)
  refine PyProof.Rows.callWith_type1 ?_ hs rfl
  rw [hs]
  show wpAny _ _ (spliced ((false, eval (.Call (.Attribute e "values" apos) [] [] cpos) X.env) :: backTo pos (starEach [] X.env))) _ _ s
  refine Calls.spliced_cons ?_
  refine wpAny_Call_method (T := "dict") (id := "dict.values") hbase rfl hline F.plainAttrs_dict F.slot_dict_values F.type_dict_values (thn (he.run pins s σ H _ I hq) fun u s1 ⟨x, H1, I1, rx, d, kvs, ex, hd, q⟩ => ?_)
  subst ex
  obtain rfl : u = Value.ref d := rx
  obtain ⟨hz, hs0, vs, kv, hdo⟩ := I1.hok d _ hd
  obtain ⟨ep, hat⟩ := hdo.dictAt
  have lk : kvs.length = vs.length := Paired.length kv
  have I2 : Inv X pins σ H1 { s1 with heap := s1.heap.push { cls := .type "dict_values", data := .fields #[.ref d] } } := I1.kept (t' := s1.toks) fun b ob q => Heap.get?_push_of_some _ q
  refine ⟨hdo.typeIs, hdo.mapOf.noDict, ?_⟩
  show wpAny _ _ (callWith cpos (.builtin "dict.values") [.ref d] [] []) _ X.xe s1
  refine method_meetsIn F.slot_dict_values F.entry_dict_values rfl (PySem.evalArgs_none ⟨rfl, hdo.typeIs, F.args_dict_values_1 _, _, meets_dict_values (mixKind X.prog X.w) d hs0, ⟨vs, hdo⟩, ?_⟩)
  refine Calls.spliced_nil ?_
  refine PySem.W.kdl_call (PySem.W.kdl_values (knd := mixKind X.prog X.w) (kvs := vs) (ep := ep) (d := d) (r := s1.heap.objs.size)) (I1.ok.hd hc) ⟨⟨_, Heap.get?_push_size _ rfl, rfl, rfl⟩, hat.push _⟩ (by omega) fun h' tk acc c hk hS hacc => ?_
  have ev : acc.toList = vs.map (·.2) := PySem.W.kdl_vals_eq _ (by rw [Array.length_toList]; exact hacc.1) fun j v e => hacc.2 j v (by rw [← Array.getElem?_toList]; exact e)
  have hv : Vals (kvs.map (·.2)) acc.toList := by rw [ev]; exact vals_of_kv kv
  exact ⟨.ref _, _, I2.laid (t' := tk) hk (Nat.le_refl _) (show ObjOk X.prog X.w _ _ _ (.lst (kvs.map (·.2))) from ⟨by rw [List.length_map]; exact hz, acc.toList, c, hv, by rw [Array.toArray_toList]; exact hS⟩), rfl, q _ (I2.hok.fresh (Nat.le_refl _))⟩
end Sr

set_option Elab.async false
set_option linter.all false
set_option maxRecDepth 100000
set_option maxHeartbeats 4000000
namespace Sr
open PySem PySem.Spec PyProof.Rows L2
/-! ### data as they are passed about -/
inductive Dt where
  | non | bl (b : Bool) | int (i : Int) | str (s : Str) | lst (l : List Dt) | tup (l : List Dt) | dic
mutual
/-- v stands for d in the heap H -/
inductive Is (H : Hp) : V → Dt → Prop
  | non : Is H .non .non
  | bl (b : Bool) : Is H (.bl b) (.bl b)
  | int (i : Int) : Is H (.int i) (.int i)
  | str (s : Str) (h : s.length ≤ 1000) : Is H (.str s) (.str s)
  | lst {a : Addr} {xs : List V} {ds : List Dt} : H a = some (.lst xs) → IsA H xs ds → xs.length ≤ 60 → Is H (.ref a) (.lst ds)
  | tup {a : Addr} {xs : List V} {ds : List Dt} : H a = some (.tup xs) → IsA H xs ds → xs.length ≤ 60 → Is H (.ref a) (.tup ds)
  | dic {a : Addr} {kvs : List (Key × V)} : H a = some (.dK kvs) → Is H (.ref a) .dic
inductive IsA (H : Hp) : List V → List Dt → Prop
  | nil : IsA H [] []
  | cons {v : V} {vs : List V} {d : Dt} {ds : List Dt} : Is H v d → IsA H vs ds → IsA H (v :: vs) (d :: ds)
end
mutual
theorem Is.mono {H H' : Hp} (e : Same H H') : ∀ {v : V} {d : Dt}, Is H v d → Is H' v d
  | _, _, .non => .non
  | _, _, .bl b => .bl b
  | _, _, .int i => .int i
  | _, _, .str s h => .str s h
  | _, _, .lst h r z => .lst (e _ _ h) (IsA.mono e r) z
  | _, _, .tup h r z => .tup (e _ _ h) (IsA.mono e r) z
  | _, _, .dic h => .dic (e _ _ h)
theorem IsA.mono {H H' : Hp} (e : Same H H') : ∀ {vs : List V} {ds : List Dt}, IsA H vs ds → IsA H' vs ds
  | _, _, .nil => .nil
  | _, _, .cons h r => .cons (Is.mono e h) (IsA.mono e r)
end
theorem IsA.len {H : Hp} : ∀ {vs : List V} {ds : List Dt}, IsA H vs ds → vs.length = ds.length
  | _, _, .nil => rfl
  | _, _, .cons _ r => congrArg (· + 1) (IsA.len r)
theorem IsA.get {H : Hp} : ∀ {vs : List V} {ds : List Dt} {i : Nat} {v : V}, IsA H vs ds → vs[i]? = some v → ∃ d, ds[i]? = some d ∧ Is H v d
  | _, _, _, _, .nil, e => by simp at e
  | _, _, 0, _, .cons h _, e => by simp at e; subst e; exact ⟨_, rfl, h⟩
  | _, _, i + 1, v, .cons _ r, e => by
    obtain ⟨d, h1, h2⟩ := IsA.get (i := i) (v := v) r (by simpa using e)
    exact ⟨d, by simpa using h1, h2⟩
theorem IsA.app {H : Hp} : ∀ {xs ys : List V} {ds es : List Dt}, IsA H xs ds → IsA H ys es → IsA H (xs ++ ys) (ds ++ es)
  | _, _, _, _, .nil, s => s
  | _, _, _, _, .cons h r, s => .cons h (IsA.app r s)
theorem IsA.take {H : Hp} : ∀ {xs : List V} {ds : List Dt} (n : Nat), IsA H xs ds → IsA H (xs.take n) (ds.take n)
  | _, _, 0, _ => by simp; exact .nil
  | _, _, _ + 1, .nil => .nil
  | _, _, n + 1, .cons h r => .cons h (IsA.take n r)
theorem IsA.drop {H : Hp} : ∀ {xs : List V} {ds : List Dt} (n : Nat), IsA H xs ds → IsA H (xs.drop n) (ds.drop n)
  | _, _, 0, r => r
  | _, _, _ + 1, .nil => .nil
  | _, _, n + 1, .cons _ r => IsA.drop n r
/-- the name of the type -/
def tyN : Dt → String
  | .non => "NoneType" | .bl _ => "bool" | .int _ => "int" | .str _ => "str" | .lst _ => "list" | .tup _ => "tuple" | .dic => "dict"
theorem Is.ty {K : PySem.W.Frag} {H : Hp} {v : V} {d : Dt} (h : Is H v d) : TyX K H v (.type (tyN d)) := by
  cases h with
  | non => exact .base .non
  | bl b => exact .base (.bl b)
  | int i => exact .base (.int i)
  | str s h => exact .base (.str s)
  | lst h r z => exact .base (.lst h)
  | tup h r z => exact .base (.tup h)
  | dic h => exact .base (.dK h)
def isSeq : Dt → Bool
  | .lst _ => true
  | .tup _ => true
  | _ => false
def isStr : Dt → Bool
  | .str _ => true
  | _ => false
def isInt : Dt → Bool
  | .int _ => true
  | .bl _ => true
  | _ => false
def isBl : Dt → Bool
  | .bl _ => true
  | _ => false
theorem kit_two {K : PySem.W.Frag} {t c1 c2 : Value} {a b : Bool} (h1 : PySem.W.kitOne K t c1 = some a) (h2 : PySem.W.kitOne K t c2 = some b) : PySem.W.kitAny K t [c1, c2] = some (a || b) := by
  refine kitAny_cons h1 (fun e => kitAny_cons h2 (fun e2 => ?_) fun e2 => ?_) fun e => ?_
  · rw [e, e2]; rfl
  · rw [e, e2]; rfl
  · rw [e]; rfl
def isLst : Dt → Bool
  | .lst _ => true
  | _ => false
def isTup : Dt → Bool
  | .tup _ => true
  | _ => false
theorem kit_list (K : PySem.W.Frag) : ∀ d : Dt, PySem.W.kitOne K (.type (tyN d)) (.type "list") = some (isLst d)
  | .non => kit_ty (show kitB "NoneType" "list" = some false by decide +kernel)
  | .bl b => kit_ty (show kitB "bool" "list" = some false by decide +kernel)
  | .int i => kit_ty (show kitB "int" "list" = some false by decide +kernel)
  | .str s => kit_ty (show kitB "str" "list" = some false by decide +kernel)
  | .lst l => kit_ty (show kitB "list" "list" = some true by decide +kernel)
  | .tup l => kit_ty (show kitB "tuple" "list" = some false by decide +kernel)
  | .dic => kit_ty (show kitB "dict" "list" = some false by decide +kernel)
theorem kit_tuple (K : PySem.W.Frag) : ∀ d : Dt, PySem.W.kitOne K (.type (tyN d)) (.type "tuple") = some (isTup d)
  | .non => kit_ty (show kitB "NoneType" "tuple" = some false by decide +kernel)
  | .bl b => kit_ty (show kitB "bool" "tuple" = some false by decide +kernel)
  | .int i => kit_ty (show kitB "int" "tuple" = some false by decide +kernel)
  | .str s => kit_ty (show kitB "str" "tuple" = some false by decide +kernel)
  | .lst l => kit_ty (show kitB "list" "tuple" = some false by decide +kernel)
  | .tup l => kit_ty (show kitB "tuple" "tuple" = some true by decide +kernel)
  | .dic => kit_ty (show kitB "dict" "tuple" = some false by decide +kernel)
theorem kit_seq (K : PySem.W.Frag) (d : Dt) : PySem.W.kitAny K (.type (tyN d)) [.type "list", .type "tuple"] = some (isSeq d) := by
  rw [kit_two (kit_list K d) (kit_tuple K d)]
  cases d <;> rfl
theorem kit_str (K : PySem.W.Frag) : ∀ d : Dt, PySem.W.kitOne K (.type (tyN d)) (.type "str") = some (isStr d)
  | .non => kit_ty (show kitB "NoneType" "str" = some false by decide +kernel)
  | .bl b => kit_ty (show kitB "bool" "str" = some false by decide +kernel)
  | .int i => kit_ty (show kitB "int" "str" = some false by decide +kernel)
  | .str s => kit_ty (show kitB "str" "str" = some true by decide +kernel)
  | .lst l => kit_ty (show kitB "list" "str" = some false by decide +kernel)
  | .tup l => kit_ty (show kitB "tuple" "str" = some false by decide +kernel)
  | .dic => kit_ty (show kitB "dict" "str" = some false by decide +kernel)
theorem kit_int (K : PySem.W.Frag) : ∀ d : Dt, PySem.W.kitOne K (.type (tyN d)) (.type "int") = some (isInt d)
  | .non => kit_ty (show kitB "NoneType" "int" = some false by decide +kernel)
  | .bl b => kit_ty (show kitB "bool" "int" = some true by decide +kernel)
  | .int i => kit_ty (show kitB "int" "int" = some true by decide +kernel)
  | .str s => kit_ty (show kitB "str" "int" = some false by decide +kernel)
  | .lst l => kit_ty (show kitB "list" "int" = some false by decide +kernel)
  | .tup l => kit_ty (show kitB "tuple" "int" = some false by decide +kernel)
  | .dic => kit_ty (show kitB "dict" "int" = some false by decide +kernel)
theorem kit_bool (K : PySem.W.Frag) : ∀ d : Dt, PySem.W.kitOne K (.type (tyN d)) (.type "bool") = some (isBl d)
  | .non => kit_ty (show kitB "NoneType" "bool" = some false by decide +kernel)
  | .bl b => kit_ty (show kitB "bool" "bool" = some true by decide +kernel)
  | .int i => kit_ty (show kitB "int" "bool" = some false by decide +kernel)
  | .str s => kit_ty (show kitB "str" "bool" = some false by decide +kernel)
  | .lst l => kit_ty (show kitB "list" "bool" = some false by decide +kernel)
  | .tup l => kit_ty (show kitB "tuple" "bool" = some false by decide +kernel)
  | .dic => kit_ty (show kitB "dict" "bool" = some false by decide +kernel)
/-- the texts of a list of data -/
def strsOf : List Dt → List Str
  | [] => []
  | .str s :: r => s :: strsOf r
  | _ :: r => strsOf r
theorem IsA.strs {H : Hp} : ∀ {xs : List V} {ds : List Dt}, IsA H xs ds → ds.all isStr = true → xs = (strsOf ds).map V.str
  | _, _, .nil, _ => rfl
  | _, _, .cons (.str s h) r, e => by
    have e2 := IsA.strs r (by simpa [isStr] using e)
    show _ = V.str s :: _
    rw [e2]
  | _, _, .cons .non r, e => by simp [isStr] at e
  | _, _, .cons (.bl b) r, e => by simp [isStr] at e
  | _, _, .cons (.int b) r, e => by simp [isStr] at e
  | _, _, .cons (.lst h z y) r, e => by simp [isStr] at e
  | _, _, .cons (.tup h z y) r, e => by simp [isStr] at e
  | _, _, .cons (.dic h) r, e => by simp [isStr] at e
theorem cls_two (a b : String) : Paired ClsV [V.ty a, V.ty b] [.type a, .type b] := .cons (.ty a) (.cons (.ty b) .nil)
theorem two_line : (2 : Nat) ≤ sizeLine := by rw [sizeLine_eq]; decide
theorem Same.up {H : Hp} {p : Addr} {o : HO} (h : H p = none) : Same H (upd H p o) := fun b u e => by
  rw [upd_ne (ne_of_none e h)]
  exact e
end Sr

set_option Elab.async false
set_option linter.all false
set_option maxRecDepth 100000
set_option maxHeartbeats 4000000
namespace Sr
open PySem PySem.Spec PyProof.Rows L2
/-- a comprehension of one name whose elements change nothing that stood: the list of what they are -/
theorem lc_pure {J : It} {n : Nat} {G : Hp → Prop} {Y : Nat → Hp → V → Hp → Prop} {At : Nat → V → Prop} (w : Walk J n G Y) (hy : ∀ i H x H', Y i H x H' → H' = H ∧ At i x) {te : TE} {j : Nat} {σ : L2.St} {H : Hp} {D : Addr} {Qd : Hp → Prop}
    (ys : List V) (hn : ys.length = n) (hz : n < sizeLine) (hD : H D = none) (hG : ∀ H', Same H H' → G H')
    (turn : ∀ (i : Nat) (x y : V) (H1 : Hp) (Q : VK), i < n → At i x → ys[i]? = some y → Same H H1 → (∀ H2, Same H1 H2 → Q y H2) → te ((σ.set j none).set j (some x)) H1 Q)
    (fin : ∀ H', Same H H' → H' D = some (.lst ys) → Qd H') :
    ∃ W : Nat → Nat → Hp → Prop, (∃ m, W 0 m (upd H D (.lst []))) ∧ ∀ i m H, W i m H →
      (J.stop i H ∧ Qd H) ∨ (J.go i H ∧ ∃ Nx : Hp → Prop, (∀ H', Nx H' → ∃ m', m' < m ∧ W (i + 1) m' H') ∧ ∀ x H', J.yld i H x H' → (gName j) x (wipe σ [j]) H' fun σ2 H2 => wipe σ2 [j] = wipe σ [j] ∧ tYes σ2 H2 fun b H3 =>
        if b = true then te σ2 H3 fun y H4 => ∃ acc, H4 D = some (.lst acc) ∧ acc.length < sizeLine ∧ Nx (upd H4 D (.lst (acc ++ [y]))) else Nx H3) := by
  have below : ∀ {H1 H2 : Hp} {o : HO}, Same H H1 → Same H1 H2 → Same H (upd H2 D o) := fun {H1 H2 o} a b c u e => by
    rw [upd_ne (ne_of_none e hD)]
    exact b _ _ (a _ _ e)
  refine lc_it w (fun i H' => Same H H' ∧ H' D = some (.lst (ys.take i))) ⟨Same.up hD, by rw [upd_same]; simp⟩ (fun i H' _ p => hG H' p.1) (fun i x H1 H2 hi p y => ?_) fun H' p => fin H' p.1 (by rw [p.2, ← hn, List.take_length])
  obtain ⟨rfl, hx⟩ := hy _ _ _ _ y
  refine ⟨?_, ?_⟩
  · show ((σ.set j none).set j (some x)).set j none = σ.set j none
    rw [List.set_set, List.set_set]
  · unfold tYes
    simp only [if_true]
    have hi' : i < ys.length := by omega
    refine turn i x ys[i] H2 _ hi hx (List.getElem?_eq_getElem hi') p.1 fun H3 s3 => ?_
    refine ⟨_, s3 _ _ p.2, by rw [List.length_take]; omega, below p.1 s3, ?_⟩
    rw [upd_same, List.take_add_one, List.getElem?_eq_getElem hi']
    rfl
theorem walk_at {xs : List V} : ∀ (i : Nat) (H : Hp) (x : V) (H' : Hp), YAt xs i H x H' → H' = H ∧ xs[i]? = some x := fun _ _ _ _ y => y
/-- all([.. for ..]) behind its list -/
theorem all_of {K : PySem.W.Frag} {H : Hp} {D : Addr} {bs : List Bool} {Q : VK} (h : H D = some (.lst (bs.map V.bl))) (q : Q (.bl (bs.all id)) H) : (rAll K) [V.ref D] H Q := ⟨D, bs, rfl, SqL.of h, q⟩
theorem sz {n m : Nat} (h : n ≤ m) (hm : m ≤ 1000000 := by decide) : n < sizeLine := by
  rw [sizeLine_eq]
  exact Nat.lt_of_le_of_lt (Nat.le_trans h hm) (by decide)
/-- a built-in class as a value -/
theorem pe_tyv {X : Cx} {x : Str} {n : String} {p : Pos} (hg : Gl X x) (hm : X.mg x = none) (hv : bootBuiltins x = some (.type n)) (hn : x ≠ "__name__" := by decide) (hd : (x == ("__debug__" : Str)) = false := by decide) : PE X (.Name x p) (tC (.ty n)) :=
  pe_bltn hg hm hv rfl hn hd
end Sr

set_option Elab.async false
set_option linter.all false
set_option maxRecDepth 100000
set_option maxHeartbeats 4000000
namespace Sr
open PySem PySem.Spec PyProof.Rows L2
/-! ### a table of the top with text keys, wholly known -/
theorem find_out {P : Params} {z : Str} : ∀ {es : List DictEntry} {ks : List Str}, es.map He.keyOf = He.keysIn P ks → z ∉ ks → es.find? (·.key.isStr z) = none ∧ es.any (·.refKey) = false
  | [], _, _, _ => ⟨rfl, rfl⟩
  | e :: r, [], h, _ => by cases h
  | e :: r, k :: ks, h, hz => by
    have h1 : He.keyOf e :: r.map He.keyOf = some (k, PyData.keyHash P k) :: He.keysIn P ks := h
    injection h1 with h2 h3
    obtain ⟨i1, i2⟩ := find_out h3 fun m => hz (List.mem_cons_of_mem _ m)
    have hk : k ≠ z := fun q => hz (by rw [q]; exact List.mem_cons_self)
    obtain ⟨hs, ky, vl⟩ := e
    unfold He.keyOf at h2
    cases ky with
    | str x t =>
      have e1 : (x, hs) = (k, PyData.keyHash P k) := Option.some.inj h2
      obtain rfl : x = k := congrArg Prod.fst e1
      have n1 : (Value.str x t).isStr z = false := by
        show (x == z) = false
        simpa using hk
      exact ⟨by rw [List.find?_cons, n1]; exact i1, by rw [List.any_cons, i2]; rfl⟩
    | _ => cases h2
theorem tab_list {K : PySem.W.Frag} {w : World} {a : Addr} {ks : List Str} (h : He.dicW K a = some (He.keysIn w.params ks)) : ∃ es n, KDict K w a es n ∧ es.toList.map He.keyOf = He.keysIn w.params ks := by
  obtain ⟨es, n, D⟩ := He.dicW_ok h
  refine ⟨es, n, D, ?_⟩
  unfold He.dicW at h
  rw [D.at_] at h
  have h1 : (match decide ("dict" = "dict") && (#[].isEmpty && !(a == sysModules)) with
    | true => some (es.toList.map He.keyOf)
    | false => none) = some (He.keysIn w.params ks) := h
  rw [D.low] at h1
  exact Option.some.inj h1
theorem nsIn_out {K : PySem.W.Frag} {w : World} {a : Addr} {es : Array DictEntry} {n : Nat} {ks : List Str} {z : Str} (D : KDict K w a es n) (h : es.toList.map He.keyOf = He.keysIn w.params ks) (hz : z ∉ ks) : PySem.W.nsIn K a z = some none := by
  obtain ⟨h1, h2⟩ := find_out h hz
  unfold PySem.W.nsIn
  rw [D.at_]
  show (match es.toList.find? (·.key.isStr z) with
      | some e => some (some e.val)
      | none => if es.toList.any (·.refKey) then none else some none) = some none
  rw [h1]
  show (if es.toList.any (·.refKey) then none else some none) = some none
  rw [h2]
  rfl
/-- a call of a local name that holds a def of the top -/
theorem pe_calL {X : Cx} {k k' i : Nat} {x x0 : Str} {ps : List Str} {sp : Sp} {a : Addr} {p pos : Pos} {e : Expr} {es : List Expr} {t : TA} (C : Cal X.prog X.w X.K X.mg X.base k x0 ps sp) (hm0 : X.mg x0 = some (.ref a)) (hr : Room k' X.A) (hk : k ≤ k') (hN : X.N[i]? = some x) (hv : Vis X.env.scope x) (ha : PA X (e :: es) t)
    (hdb : (x == ("__debug__" : Str)) = false := by decide) (hcd : (x == ("__classdict__" : Str)) = false := by decide)
    (he : starEach (e :: es) X.env = (false, eval e X.env) :: starEach es X.env := by rfl) (hpl : (backTo pos (starEach es X.env)).any (·.1) = false := by rfl) : PE X (.Call (.Name x p) (e :: es) [] pos) (tCallL i a sp [] E0 t) := by
  obtain ⟨f, fd, F, hm, hkp, hb⟩ := C.ex
  obtain rfl : f = a := by
    have := hm.symm.trans hm0
    injection this with this
    injection this
  exact pe_callL F (hr.mono hk) hN hv hkp hb .nil pass0 ha hdb hcd he hpl
end Sr

set_option Elab.async false
set_option linter.all false
set_option maxRecDepth 100000
set_option maxHeartbeats 4000000
namespace Sr
open PySem PySem.Spec PyProof.Rows L2
/-! ### dicts with text keys, as pairs of a text and what stands for it -/
/-- the entries of kvs are the texts ss, in order, and what Rv says of each stands under it -/
abbrev Ent (Rv : Str → V → Prop) (kvs : List (Key × V)) (ss : List Str) : Prop := Paired (fun kv s => kv.1 = Sum.inr s ∧ Rv s kv.2) kvs ss
theorem Ent.keys {Rv : Str → V → Prop} : ∀ {kvs : List (Key × V)} {ss : List Str}, Ent Rv kvs ss → kvs.map (·.1) = ss.map Sum.inr
  | _, _, .nil => rfl
  | _, _, .cons h r => by rw [List.map_cons, List.map_cons, h.1, Ent.keys r]
theorem Ent.imp {Rv Rv' : Str → V → Prop} (f : ∀ s v, Rv s v → Rv' s v) : ∀ {kvs : List (Key × V)} {ss : List Str}, Ent Rv kvs ss → Ent Rv' kvs ss
  | _, _, .nil => .nil
  | _, _, .cons h r => .cons ⟨h.1, f _ _ h.2⟩ (Ent.imp f r)
theorem Ent.len {Rv : Str → V → Prop} {kvs : List (Key × V)} {ss : List Str} (h : Ent Rv kvs ss) : kvs.length = ss.length := Paired.length h
theorem Ent.snoc {Rv : Str → V → Prop} {s : Str} {v : V} (hv : Rv s v) : ∀ {kvs : List (Key × V)} {ss : List Str}, Ent Rv kvs ss → Ent Rv (kvs ++ [(Sum.inr s, v)]) (ss ++ [s])
  | _, _, .nil => .cons ⟨rfl, hv⟩ .nil
  | _, _, .cons h r => .cons h (Ent.snoc hv r)
theorem Ent.at_ {Rv : Str → V → Prop} {s : Str} : ∀ {kvs : List (Key × V)} {ss : List Str}, Ent Rv kvs ss → s ∈ ss → ∃ v, valV kvs (Sum.inr s) = some v ∧ Rv s v
  | _, _, .cons (a := kv) (b := x) h r, m => by
    unfold valV
    rw [List.find?_cons]
    by_cases c : x = s
    · subst c
      rw [h.1, decide_eq_true rfl]
      exact ⟨_, rfl, h.2⟩
    · have m' : s ∈ _ := (List.mem_cons.mp m).resolve_left fun q => c q.symm
      rw [h.1, decide_eq_false fun q => c (Sum.inr.inj q)]
      exact Ent.at_ r m'
theorem Ent.out {Rv : Str → V → Prop} {s : Str} : ∀ {kvs : List (Key × V)} {ss : List Str}, Ent Rv kvs ss → s ∉ ss → valV kvs (Sum.inr s) = none
  | _, _, .nil, _ => rfl
  | _, _, .cons (a := kv) (b := x) h r, m => by
    unfold valV
    rw [List.find?_cons, h.1, decide_eq_false fun q => m (by rw [Sum.inr.inj q]; exact List.mem_cons_self)]
    exact Ent.out r fun q => m (List.mem_cons_of_mem _ q)
theorem Ent.has {Rv : Str → V → Prop} {kvs : List (Key × V)} {ss : List Str} (h : Ent Rv kvs ss) (s : Str) : (valV kvs (Sum.inr s)).isSome = decide (s ∈ ss) := by
  by_cases m : s ∈ ss
  · obtain ⟨v, e, _⟩ := h.at_ m
    rw [e, decide_eq_true m]
    rfl
  · rw [h.out m, decide_eq_false m]
    rfl
theorem putK_new {kvs : List (Key × V)} {k : Key} {v : V} (h : k ∉ kvs.map (·.1)) : putK kvs k v = kvs ++ [(k, v)] := by
  unfold putK
  rw [if_neg]
  intro q
  obtain ⟨kv, m, e⟩ := List.any_eq_true.mp q
  exact h (List.mem_map.mpr ⟨kv, m, of_decide_eq_true e⟩)
theorem Ent.put {Rv : Str → V → Prop} {kvs : List (Key × V)} {ss : List Str} {s : Str} {v : V} (h : Ent Rv kvs ss) (m : s ∉ ss) (hv : Rv s v) : Ent Rv (putK kvs (Sum.inr s) v) (ss ++ [s]) := by
  rw [putK_new]
  · exact h.snoc hv
  · rw [h.keys]
    intro q
    obtain ⟨x, m', e⟩ := List.mem_map.mp q
    exact m (by rw [← Sum.inr.inj e]; exact m')
/-- a dict comprehension of one name with unlike texts for keys; nothing that stood is changed -/
theorem dc_texts {J : It} {n : Nat} {G : Hp → Prop} {Y : Nat → Hp → V → Hp → Prop} {At : Nat → V → Prop} (w : Walk J n G Y) (hy : ∀ i H x H', Y i H x H' → H' = H ∧ At i x) {tk tv : TE} {j : Nat} {σ : L2.St} {H : Hp} {D : Addr} {Qd : Hp → Prop}
    (ss : List Str) (hn : ss.length = n) (nd : ss.Nodup) (hz : n < sizeLine) (hD : H D = none) (hG : ∀ H', Same H H' → G H') (Rv : Hp → Str → V → Prop) (mono : ∀ H1 H2 s v, Same H1 H2 → Rv H1 s v → Rv H2 s v)
    (lay : ∀ H1 s v c c', H1 D = some (.dK c) → Rv H1 s v → Rv (upd H1 D (.dK c')) s v)
    (turn : ∀ (i : Nat) (x : V) (s : Str) (H1 : Hp) (R : V → V → Hp → Prop), i < n → At i x → ss[i]? = some s → Same H H1 → (∀ H2 z, Same H1 H2 → Rv H2 s z → R (.str s) z H2) → tk ((σ.set j none).set j (some x)) H1 fun y H2 => tv ((σ.set j none).set j (some x)) H2 fun z H3 => R y z H3)
    (fin : ∀ H' kvs, Same H H' → H' D = some (.dK kvs) → Ent (Rv H') kvs ss → Qd H') :
    ∃ W : Nat → Nat → Hp → Prop, (∃ m, W 0 m (upd H D (.dK []))) ∧ ∀ i m H, W i m H →
      (J.stop i H ∧ Qd H) ∨ (J.go i H ∧ ∃ Nx : Hp → Prop, (∀ H', Nx H' → ∃ m', m' < m ∧ W (i + 1) m' H') ∧ ∀ x H', J.yld i H x H' → (gName j) x (wipe σ [j]) H' fun σ2 H2 => wipe σ2 [j] = wipe σ [j] ∧ tYes σ2 H2 fun b H3 =>
        if b = true then tk σ2 H3 fun y H4 => tv σ2 H4 fun z H5 => ∃ kvs k, y = kV k ∧ H5 D = some (.dK kvs) ∧ kvs.length < sizeLine ∧ Nx (upd H5 D (.dK (putK kvs k z))) else Nx H3) := by
  have below : ∀ {H1 H2 : Hp} {o : HO}, Same H H1 → Same H1 H2 → Same H (upd H2 D o) := fun {H1 H2 o} a b c u e => by
    rw [upd_ne (ne_of_none e hD)]
    exact b _ _ (a _ _ e)
  refine ⟨fun i m H' => m = n - i ∧ i ≤ n ∧ Same H H' ∧ ∃ kvs, H' D = some (.dK kvs) ∧ Ent (Rv H') kvs (ss.take i), ⟨n, by simp, Nat.zero_le _, Same.up hD, [], upd_same, by rw [List.take_zero]; exact .nil⟩, ?_⟩
  rintro i m H1 ⟨rfl, hi, s1, kvs, hd, he⟩
  by_cases lt : i < n
  · refine .inr ⟨w.goes i H1 lt (hG _ s1), fun H' => i + 1 ≤ n ∧ Same H H' ∧ ∃ kvs, H' D = some (.dK kvs) ∧ Ent (Rv H') kvs (ss.take (i + 1)), fun H' p => ⟨n - (i + 1), by omega, rfl, p⟩, fun x H2 y => ?_⟩
    obtain ⟨rfl, hx⟩ := hy _ _ _ _ (w.yields i H1 x H2 lt (hG _ s1) y)
    refine ⟨?_, ?_⟩
    · show ((σ.set j none).set j (some x)).set j none = σ.set j none
      rw [List.set_set, List.set_set]
    · unfold tYes
      simp only [if_true]
      have hi' : i < ss.length := by omega
      refine turn i x ss[i] H2 _ lt hx (List.getElem?_eq_getElem hi') s1 fun H3 z s3 rv => ?_
      have hl := he.len
      rw [List.length_take] at hl
      have nm : ss[i] ∉ ss.take i := fun q => by
        obtain ⟨a, ha, e⟩ := List.mem_take_iff_getElem.mp q
        exact (List.pairwise_iff_getElem.mp nd) a i (by omega) hi' (by omega) e
      refine ⟨kvs, Sum.inr ss[i], rfl, s3 _ _ hd, by omega, lt, below s1 s3, _, upd_same, ?_⟩
      rw [List.take_add_one, List.getElem?_eq_getElem hi']
      have r1 : Ent (Rv (upd H3 D (.dK (putK kvs (Sum.inr ss[i]) z)))) kvs (ss.take i) := he.imp fun s v r => lay _ _ _ _ _ (s3 _ _ hd) (mono _ _ _ _ s3 r)
      exact r1.put nm (lay _ _ _ _ _ (s3 _ _ hd) rv)
  · obtain rfl : i = n := by omega
    refine .inl ⟨w.stops H1 (hG _ s1), fin H1 kvs s1 hd ?_⟩
    rwa [← hn, List.take_length] at he
end Sr

set_option Elab.async false
set_option linter.all false
set_option maxRecDepth 100000
set_option maxHeartbeats 4000000
namespace Sr
open PySem PySem.Spec PyProof.Rows L2
/-! ### rules that name the written part, for a comprehension's block -/
section
variable {X : Cx}
theorem op_in_seqK (K : PySem.W.Frag) (hK : X.K = K) : OpR X (compareOp .In) (rIn K false) := hK ▸ op_in_seq
theorem call_isiK' (K : PySem.W.Frag) (hK : X.K = K) : CallR X (.builtin "isinstance") (rIsi K) := hK ▸ call_isi
theorem call_isiTK (K : PySem.W.Frag) (hK : X.K = K) : CallR X (.builtin "isinstance") (rIsiT K) := hK ▸ call_isiT
theorem ix_listK (K : PySem.W.Frag) (hK : X.K = K) : IxR X (rIxL K) := hK ▸ ix_list
theorem ix_tupK (K : PySem.W.Frag) (hK : X.K = K) : IxR X (rIxT K) := hK ▸ ix_tup
theorem call_len_seqK (K : PySem.W.Frag) (hK : X.K = K) : CallR X (.builtin "len") (fun xs H Q => ∃ p ys, xs = [.ref p] ∧ (SqL K H p ys ∨ SqT K H p ys) ∧ Q (.int ys.length) H) := hK ▸ call_len_seq
theorem call_list_ofK (K : PySem.W.Frag) (hK : X.K = K) : CallR X (.type "list") (fun xs H Q => ∃ p ys, xs = [.ref p] ∧ (SqL K H p ys ∨ SqT K H p ys) ∧ ∀ l, H l = none → Q (.ref l) (upd H l (.lst ys))) := hK ▸ call_list_of
theorem call_tuple_ofK (K : PySem.W.Frag) (hK : X.K = K) : CallR X (.type "tuple") (fun xs H Q => ∃ p ys, xs = [.ref p] ∧ ((SqL K H p ys ∧ ∀ l, H l = none → Q (.ref l) (upd H l (.tup ys))) ∨ (SqT K H p ys ∧ Q (.ref p) H))) := hK ▸ call_tuple_of
theorem op_eqDK (K : PySem.W.Frag) (hK : X.K = K) (h : X.A.units + 64 < cLine) : OpR X (compareOp .Eq) (rEqD K) := hK ▸ op_eqD h
theorem op_neDK (K : PySem.W.Frag) (hK : X.K = K) (h : X.A.units + 64 < cLine) : OpR X (compareOp .NotEq) (rNeD K) := hK ▸ op_neD h
end
theorem Paired.at2 {α β : Type} {F : α → β → Prop} : ∀ {l : List α} {m : List β} {i : Nat} {a : α} {b : β}, Paired F l m → l[i]? = some a → m[i]? = some b → F a b
  | _, _, _, _, _, .nil, h, _ => by simp at h
  | _, _, 0, _, _, .cons h _, h1, h2 => by
    simp at h1 h2
    rw [← h1, ← h2]
    exact h
  | _, _, i + 1, a, b, .cons _ r, h1, h2 => Paired.at2 (i := i) (a := a) (b := b) r (by simpa using h1) (by simpa using h2)
end Sr

set_option Elab.async false
set_option linter.all false
set_option maxRecDepth 100000
set_option maxHeartbeats 4000000
namespace Sr
open PySem PySem.Spec PyProof.Rows L2
/-! ### what a law's own steps leave: M is settled for ever, S may change -/
def DrawsO (o : HO) : Prop := ∃ x y z : Int, o = .lst [.int x, .int y, .int z]
def DrawsAt (H : Hp) (a : Addr) : Prop := ∃ o, H a = some o ∧ DrawsO o
structure Grow (S : List Addr) (M H M' H' : Hp) : Prop where
  stp : ∀ b o, b ∉ S → H b = some o → H' b = some o
  there : ∀ b, H b ≠ none → H' b ≠ none
  up : Same M M'
  nw : ∀ b o, M' b = some o → M b = some o ∨ H b = none
  sub : Same M' H'
theorem Grow.refl {S : List Addr} {M H : Hp} (s : Same M H) : Grow S M H M H := ⟨fun _ _ _ e => e, fun _ e => e, Same.refl _, fun _ _ e => .inl e, s⟩
theorem Grow.trans {S : List Addr} {M H M1 H1 M2 H2 : Hp} (g : Grow S M H M1 H1) (g' : Grow S M1 H1 M2 H2) : Grow S M H M2 H2 where
  stp := fun b o hb e => g'.stp b o hb (g.stp b o hb e)
  there := fun b e => g'.there b (g.there b e)
  up := g.up.trans g'.up
  nw := fun b o e => by
    rcases g'.nw b o e with h | h
    · exact g.nw b o h
    · cases q : H b with
      | none => exact .inr rfl
      | some u => exact absurd h (g.there b (by rw [q]; simp))
  sub := g'.sub
theorem Grow.mono {S S' : List Addr} {M H M' H' : Hp} (g : Grow S M H M' H') (h : ∀ b ∈ S, b ∈ S') : Grow S' M H M' H' :=
  ⟨fun b o hb e => g.stp b o (fun z => hb (h b z)) e, g.there, g.up, g.nw, g.sub⟩
/-- an address that stands and is not settled stays unsettled -/
theorem Grow.out {S : List Addr} {M H M' H' : Hp} (g : Grow S M H M' H') {b : Addr} (h1 : M b = none) (h2 : H b ≠ none) : M' b = none := by
  cases q : M' b with
  | none => rfl
  | some o =>
    rcases g.nw b o q with h | h
    · rw [h1] at h; cases h
    · exact absurd h h2
/-- nothing that stood is changed, nothing is settled -/
theorem Grow.same {S : List Addr} {M H H' : Hp} (s : Same M H) (e : Same H H') : Grow S M H M H' :=
  ⟨fun b o _ h => e b o h, fun b h => by
    cases q : H b with
    | none => exact absurd q h
    | some o => rw [e b o q]; simp, Same.refl _, fun _ _ h => .inl h, s.trans e⟩
/-- a new object, settled -/
theorem Grow.lay {S : List Addr} {M H : Hp} {p : Addr} {o : HO} (s : Same M H) (hp : H p = none) : Grow S M H (upd M p o) (upd H p o) := by
  have mp : M p = none := s.free hp
  refine ⟨fun b u _ e => Same.up hp b u e, fun b h => ?_, Same.up mp, fun b u e => ?_, fun b u e => ?_⟩
  · by_cases c : b = p
    · rw [c]; exact absurd hp (c ▸ h)
    · rw [upd_ne c]; exact h
  · by_cases c : b = p
    · rw [c]; exact .inr hp
    · rw [upd_ne c] at e; exact .inl e
  · by_cases c : b = p
    · rw [c] at e ⊢; rw [upd_same] at e ⊢; exact e
    · rw [upd_ne c] at e ⊢; exact s _ _ e
/-- an object that may change is changed -/
theorem Grow.chg {S : List Addr} {M H : Hp} {p : Addr} {o : HO} (s : Same M H) (mp : M p = none) (hS : p ∈ S) : Grow S M H M (upd H p o) :=
  ⟨fun b u hb e => by rw [upd_ne fun z => hb (by rw [z]; exact hS)]; exact e, fun b h => by
    by_cases c : b = p
    · rw [c, upd_same]; simp
    · rw [upd_ne c]; exact h, Same.refl _, fun _ _ h => .inl h, fun b u e => by
    rw [upd_ne fun z => by rw [z, mp] at e; cases e]
    exact s _ _ e⟩
/-- an object of one's own, made since, is changed -/
theorem Grow.own {S : List Addr} {M0 H0 M H : Hp} {p : Addr} {o : HO} (g : Grow S M0 H0 M H) (h0 : H0 p = none) (mp : M p = none) : Grow S M0 H0 M (upd H p o) :=
  ⟨fun b u hb e => by rw [upd_ne (ne_of_none e h0)]; exact g.stp b u hb e, fun b h => by
    by_cases c : b = p
    · rw [c, upd_same]; simp
    · rw [upd_ne c]; exact g.there b h, g.up, g.nw, fun b u e => by
    rw [upd_ne fun z => by rw [z, mp] at e; cases e]
    exact g.sub _ _ e⟩
/-- what was made since is settled from now on -/
theorem Grow.settle {S : List Addr} {M0 H0 M H : Hp} {p : Addr} {o : HO} (g : Grow S M0 H0 M H) (h0 : H0 p = none) (mp : M p = none) (hp : H p = some o) : Grow S M0 H0 (upd M p o) H :=
  ⟨g.stp, g.there, g.up.trans (Same.up mp), fun b u e => by
    by_cases c : b = p
    · rw [c]; exact .inr h0
    · rw [upd_ne c] at e; exact g.nw b u e, fun b u e => by
    by_cases c : b = p
    · rw [c] at e ⊢; rw [upd_same] at e; rw [hp]; exact e
    · rw [upd_ne c] at e; exact g.sub _ _ e⟩
theorem DrawsAt.some {H : Hp} {a : Addr} (d : DrawsAt H a) : H a ≠ none := by
  obtain ⟨o, e, _⟩ := d
  rw [e]
  simp
theorem seq_upd {K : PySem.W.Frag} {H : Hp} {a l : Addr} {o : HO} {xs : List V} (hn : l ≠ a) (h : SqL K H l xs ∨ SqT K H l xs) : SqL K (upd H a o) l xs ∨ SqT K (upd H a o) l xs := by
  have e : upd H a o l = H l := upd_ne hn
  rcases h with h | h
  · left
    rcases h with h | h
    · left
      rcases h with h | ⟨u, h⟩
      · exact .inl (e.trans h)
      · exact .inr ⟨u, e.trans h⟩
    · exact .inr h
  · right
    rcases h with h | h
    · left
      rcases h with h | ⟨u, h⟩
      · exact .inl (e.trans h)
      · exact .inr ⟨u, e.trans h⟩
    · exact .inr h
theorem atI_of {α : Type} {xs : List α} {i : Int} {j : Nat} {v : α} (e : i = (j : Int)) (h : xs[j]? = some v) : atI xs i = some v := by
  have hj : j < xs.length := (List.getElem?_eq_some_iff.mp h).1
  unfold atI ixN
  rw [if_pos (by omega), if_pos (by omega)]
  show xs[i.toNat]? = _
  rw [show i.toNat = j by omega]
  exact h
theorem iteB {b : Bool} {A B : Prop} (h1 : A) (h2 : B) : if b = true then A else B := by
  cases b
  · exact iteF h2
  · exact iteT h1
end Sr

set_option Elab.async false
set_option linter.all false
set_option maxRecDepth 100000
set_option maxHeartbeats 4000000
namespace Sr
open PySem PySem.Spec PyProof.Rows L2 RZ
/-! ### data of a depth, without dicts -/
inductive Dep : Nat → Dt → Prop
  | non (n : Nat) : Dep n .non
  | bl (n : Nat) (b : Bool) : Dep n (.bl b)
  | int (n : Nat) (i : Int) : Dep n (.int i)
  | str (n : Nat) (s : Str) : Dep n (.str s)
  | lst (n : Nat) (l : List Dt) : (∀ d ∈ l, Dep n d) → Dep (n + 1) (.lst l)
  | tup (n : Nat) (l : List Dt) : (∀ d ∈ l, Dep n d) → Dep (n + 1) (.tup l)
theorem kit_more {K : PySem.W.Frag} {t c c2 : Value} {r : List Value} {a b : Bool} (h1 : PySem.W.kitOne K t c = some a) (h2 : PySem.W.kitAny K t (c2 :: r) = some b) : PySem.W.kitAny K t (c :: c2 :: r) = some (a || b) := by
  refine kitAny_cons h1 (fun e => ?_) fun e => ?_
  · rw [e, h2]; rfl
  · rw [e]; rfl
theorem kit_ints (K : PySem.W.Frag) (d : Dt) : PySem.W.kitAny K (.type (tyN d)) [.type "bool", .type "int"] = some (isInt d) := by
  rw [kit_two (kit_bool K d) (kit_int K d)]
  cases d <;> rfl
theorem kit_four (K : PySem.W.Frag) (d : Dt) : PySem.W.kitAny K (.type (tyN d)) [.type "bool", .type "int", .type "list", .type "tuple"] = some (isInt d || isSeq d) := by
  rw [kit_more (kit_bool K d) (kit_more (kit_int K d) (kit_seq K d))]
  cases d <;> rfl
theorem cls_four (a b c d : String) : Paired ClsV [V.ty a, V.ty b, V.ty c, V.ty d] [.type a, .type b, .type c, .type d] := .cons (.ty a) (.cons (.ty b) (.cons (.ty c) (.cons (.ty d) .nil)))
theorem flat_eq {n : Nat} {H : Hp} {v u : V} {d : Dt} (dp : Dep n d) (hq : isSeq d = false) (iv : Is H v d) (iu : Is H u d) : v = u ∧ scal v u = true := by
  cases dp with
  | lst => cases hq
  | tup => cases hq
  | _ => cases iv; cases iu; exact ⟨rfl, rfl⟩
theorem walk_zipT {K : PySem.W.Frag} {a b : Addr} {xs ys : List V} {n : Nat} (hn : n = min xs.length ys.length) : Walk (ItzT K a b) n (fun H => SqT K H a xs ∧ SqT K H b ys) (YPair (fun i => xs[i]?) (fun i => ys[i]?)) := by
  subst hn
  refine ⟨fun i H hi g => ?_, fun H g => ?_, fun i H v H' _ g y => ?_⟩
  · exact ⟨xs, ys, xs[i]'(by omega), ys[i]'(by omega), g.1, g.2, List.getElem?_eq_getElem _, List.getElem?_eq_getElem _⟩
  · exact ⟨xs, ys, g.1, g.2, by omega⟩
  · obtain ⟨T, p, q, y1, y2, y3, y4, y5⟩ := y
    exact ⟨T, p, q, y1, y2, y3, y4 xs g.1, y5 ys g.2⟩
/-- a comprehension of two names over pairs whose elements change nothing that stood -/
theorem lc_pairs {J : It} {n : Nat} {G : Hp → Prop} {xs ys : Nat → Option V} (w : Walk J n G (YPair xs ys)) {K : PySem.W.Frag} {te : TE} {i j : Nat} {σ : L2.St} {H : Hp} {D : Addr} {Qd : Hp → Prop} (hij : i ≠ j)
    (zs : List V) (hn : zs.length = n) (hz : n < sizeLine) (hD : H D = none) (hG : ∀ H', Same H H' → G H')
    (turn : ∀ (k : Nat) (x y z : V) (H1 : Hp) (Q : VK), k < n → xs k = some x → ys k = some y → zs[k]? = some z → Same H H1 → (∀ H2, Same H1 H2 → Q z H2) → te ((wipe σ [i, j]).set i (some x) |>.set j (some y)) H1 Q)
    (fin : ∀ H', Same H H' → H' D = some (.lst zs) → Qd H') :
    ∃ W : Nat → Nat → Hp → Prop, (∃ m, W 0 m (upd H D (.lst []))) ∧ ∀ k m H, W k m H →
      (J.stop k H ∧ Qd H) ∨ (J.go k H ∧ ∃ Nx : Hp → Prop, (∀ H', Nx H' → ∃ m', m' < m ∧ W (k + 1) m' H') ∧ ∀ x H', J.yld k H x H' → (gTup K 2 (gCons (gName i) (gCons (gName j) gNil))) x (wipe σ [i, j]) H' fun σ2 H2 => wipe σ2 [i, j] = wipe σ [i, j] ∧ tYes σ2 H2 fun b H3 =>
        if b = true then te σ2 H3 fun y H4 => ∃ acc, H4 D = some (.lst acc) ∧ acc.length < sizeLine ∧ Nx (upd H4 D (.lst (acc ++ [y]))) else Nx H3) := by
  have below : ∀ {H1 H2 : Hp} {o : HO}, Same H H1 → Same H1 H2 → Same H (upd H2 D o) := fun {H1 H2 o} p q c u e => by
    rw [upd_ne (ne_of_none e hD)]
    exact q _ _ (p _ _ e)
  refine lc_it w (fun k H' => Same H H' ∧ H' D = some (.lst (zs.take k))) ⟨Same.up hD, by rw [upd_same]; simp⟩ (fun k H' _ p => hG H' p.1) (fun k v H1 H2 hk p y => ?_) fun H' p => fin H' p.1 (by rw [p.2, ← hn, List.take_length])
  obtain ⟨T, x, y, rfl, hT, rfl, hx, hy⟩ := y
  refine ⟨T, [x, y], rfl, SqT.of upd_same, rfl, ?_⟩
  have s2 : Same H1 _ := Same.up (o := .tup [x, y]) hT
  refine ⟨x, [y], rfl, y, [], rfl, rfl, ?_, ?_⟩
  · show ((((((σ.set j none).set i none).set i (some x)).set j (some y)).set j none).set i none) = (σ.set j none).set i none
    rw [List.set_set, List.set_set, List.set_comm _ _ hij, List.set_set, List.set_set]
  · unfold tYes
    simp only [if_true]
    have hk' : k < zs.length := by omega
    refine turn k x y zs[k] _ _ hk hx hy (List.getElem?_eq_getElem hk') (p.1.trans s2) fun H3 s3 => ?_
    refine ⟨_, s3 _ _ (s2 _ _ p.2), by rw [List.length_take]; omega, below (p.1.trans s2) s3, ?_⟩
    rw [upd_same, List.take_add_one, List.getElem?_eq_getElem hk']
    rfl
end Sr

set_option Elab.async false
set_option linter.all false
set_option maxRecDepth 100000
set_option maxHeartbeats 4000000
namespace Sr
open PySem PySem.Spec PyProof.Rows L2
/-! ### sorted(d) where the keys are pairs of texts -/
def pk (p : Str × Str) : List Key := [Sum.inr p.1, Sum.inr p.2]
def encP (p : Str × Str) : PyData := .tuple [.str p.1, .str p.2]
def pSort (l : List (Str × Str)) : List (Str × Str) := l.mergeSort (PySem.W.dataLe false encP)
theorem pSort_perm (l : List (Str × Str)) : (pSort l).Perm l := List.mergeSort_perm _ _
theorem encP_alike (p q : Str × Str) : PySem.W.alike (encP p) (encP q) = true := by simp [encP, PySem.W.alike, PySem.W.alikeAll]
theorem encP_depth (p : Str × Str) : (encP p).depth ≤ 2 := by
  show PyData.depth (.tuple [.str p.1, .str p.2]) ≤ 2
  simp [PyData.depth, PyData.depthAll]
theorem reads_pair {P : Program} {w : World} {H : Hp} {h : Heap} {q : Addr} {p : Str × Str} (hok : HOk P w H h) (hq : H q = some (.tup [.str p.1, .str p.2])) : PySem.Reads h (.ref q) (encP p) [] := by
  obtain ⟨_, its, rv, o, ho, hc, n, hd⟩ := hok q _ hq
  obtain ⟨a, t1, rfl, r1, t2⟩ := (show ∃ a t, its = a :: t ∧ RelV (.str p.1) a ∧ Vals [.str p.2] t from by cases rv with | cons h1 h2 => exact ⟨_, _, rfl, h1, h2⟩)
  obtain ⟨b, t3, rfl, r2, t4⟩ := (show ∃ a t, t1 = a :: t ∧ RelV (.str p.2) a ∧ Vals [] t from by cases t2 with | cons h1 h2 => exact ⟨_, _, rfl, h1, h2⟩)
  cases t4
  obtain ⟨u1, rfl⟩ := r1
  obtain ⟨u2, rfl⟩ := r2
  exact .tuple ho hc hd (.cons (as := []) (.str _ _) (.cons (as := []) (.str _ _) .nil))
def AtP (H : Hp) (q : Addr) (p : Str × Str) : Prop := H q = some (.tup [.str p.1, .str p.2])
theorem each_paired {α β : Type} {R : α → β → Prop} : ∀ {l : List α} {m : List β}, PySem.W.EachIs R l m → Paired R l m
  | _, _, .nil => .nil
  | _, _, .cons h t => .cons h (each_paired t)
theorem each_of {H : Hp} : ∀ {kvs : List (List Key × V)} {ks : List (List Key × Addr × Value)} {bs : List (Str × Str)}, Paired (fun (p : List Key × V) (q : List Key × Addr × Value) => p.1 = q.1 ∧ H q.2.1 = some (.tup (p.1.map kV)) ∧ RelV p.2 q.2.2) kvs ks →
    kvs.map (·.1) = bs.map pk → PySem.W.EachIs (fun v b => ∃ q, v = Value.ref q ∧ AtP H q b) (ks.map fun x => Value.ref x.2.1) bs
  | _, _, [], .nil, _ => .nil
  | _, _, _ :: _, .nil, h => by cases h
  | _, _, [], .cons _ _, h => by cases h
  | _, _, b :: bs, .cons h1 h2, h => by
    rw [List.map_cons, List.map_cons] at h
    obtain ⟨e1, e2⟩ := List.cons.inj h
    refine .cons ⟨_, rfl, ?_⟩ (each_of h2 e2)
    have h3 := h1.2.1
    rw [e1] at h3
    exact h3
theorem vals_of_each {H : Hp} : ∀ {vs : List Value} {bs : List (Str × Str)}, PySem.W.EachIs (fun v b => ∃ q, v = Value.ref q ∧ AtP H q b) vs bs → ∃ qs : List Addr, vs = qs.map Value.ref ∧ Vals (qs.map V.ref) vs ∧ Paired (AtP H) qs bs
  | _, _, .nil => ⟨[], rfl, .nil, .nil⟩
  | _, _, .cons ⟨q, e, h⟩ t => by
    obtain ⟨qs, e1, e2, e3⟩ := vals_of_each t
    exact ⟨q :: qs, by rw [e, e1]; rfl, by rw [e]; exact .cons rfl e2, .cons h e3⟩
section
variable {X : Cx}
theorem call_sortedDT (hcalm : X.calm = true) (hu : X.A.units + 64 < cLine) : CallR X (.builtin "sorted") (fun xs H Q => ∃ (a : Addr) (kvs : List (List Key × V)) (bs : List (Str × Str)), xs = [.ref a] ∧ Rd H a (.dT kvs) ∧ kvs.map (·.1) = bs.map pk ∧ bs.length ≤ 1000 ∧
    ∀ qs p, Paired (AtP H) qs (pSort bs) → H p = none → Q (.ref p) (upd H p (.lst (qs.map V.ref)))) := by
  intro pins s σ H xs us Q I r q
  obtain ⟨a, kvs, bs, ex, hd, hks, hz, q⟩ := q
  subst ex
  obtain ⟨u, eu, rx⟩ := vals1 r
  subst eu
  cases rx
  obtain ⟨z, hs, ks, pr, o, es, ep, ho, hx, hdt, he, hn⟩ := (show ObjOk X.prog X.w H s.heap a (.dT kvs) from hd.ok I.hok)
  have l1 : es.size = ks.length := size_of_entries he
  have l2 : kvs.length = ks.length := Paired.length pr
  have l3 : kvs.length = bs.length := by
    have e := congrArg List.length hks
    rwa [List.length_map, List.length_map] at e
  have h16 : es.size ≤ sizeLine := by rw [l1, ← l2, l3, sizeLine_eq]; omega
  refine Calls.call_function_entry PyProof.Rows.kind_sorted PyProof.Rows.plain_sorted PyProof.Rows.entry_sorted (PyProof.Rows.args_sorted1 _) ?_
  unfold Builtin.«sorted»
  refine wpAny_bind (m := checkCount "sorted" 1 1 _) (wpAny_pure ?_)
  refine wpAny_bind (PySem.W.kdu_collect (A := X.A.in1) (kdl_raw hs hx hdt) (I.ok.hd hcalm) ho h16 fun h' tk acc hk hacc => ?_)
  have ea : acc.toList = ks.map fun x => Value.ref x.2.1 := by
    have hl : acc.toList.length = ks.length := by rw [Array.length_toList, hacc.1]; exact l1
    apply List.ext_getElem?
    intro j
    rw [List.getElem?_map]
    cases hj : acc.toList[j]? with
    | none =>
      have h1 := List.getElem?_eq_none_iff.mp hj
      rw [List.getElem?_eq_none (by omega)]
      rfl
    | some v =>
      obtain ⟨en, hen, hv⟩ := hacc.2 j v (by rw [← Array.getElem?_toList]; exact hj)
      have qe := entry_at he j
      rw [hen] at qe
      cases hb : ks[j]? with
      | none =>
        rw [hb] at qe
        exact nomatch (show some en = none from qe)
      | some b =>
        rw [hb] at qe
        have e2 : en = entryOfKey (tupleKind (mixKind X.prog X.w)) b := Option.some.inj qe
        rw [hv, e2]
        rfl
  have e0 : PySem.W.EachIs (fun v b => ∃ q, v = Value.ref q ∧ AtP H q b) acc.toList bs := by rw [ea]; exact each_of pr hks
  have I1 : Inv X pins σ H { s with heap := h', toks := tk } := I.kept hk
  have hal : acc.toList.length = bs.length := e0.length
  refine wpAny_bind (wpAny_newList ?_ (by rw [hal, sizeLine_eq]; omega))
  have hoL : (h'.push (seqObj "list" acc.toList.toArray 0)).get? h'.objs.size = some (seqObj "list" acc.toList.toArray 0) := Heap.get?_push_size _ rfl
  show wpAny _ _ _ _ _ { s with heap := h'.push (seqObj "list" acc.toList.toArray 0), toks := tk }
  have k2 : ∀ b o, h'.get? b = some o → (h'.push (seqObj "list" acc.toList.toArray 0)).get? b = some o := fun b o e => Heap.get?_push_of_some _ e
  have hok2 : HOk X.prog X.w H (h'.push (seqObj "list" acc.toList.toArray 0)) := I1.hok.kept k2
  have er : PySem.W.EachIs (fun v b => ∃ as, Reads (h'.push (seqObj "list" acc.toList.toArray 0)) v (encP b) as ∧ h'.objs.size ∉ as) acc.toList bs := e0.mono fun v b ⟨q, e, h⟩ => ⟨[], by rw [e]; exact reads_pair hok2 h, by simp⟩
  refine wpAny_bind (wpAny_holding (PySem.W.list_sort_data (s := { s with heap := h'.push (seqObj "list" acc.toList.toArray 0), toks := tk }) (enc := encP) hoL e0 er (PySem.W.AllAlike.of encP_alike) (PySem.W.Sortable.tuples fun b => ⟨_, _, rfl⟩) (by rw [sizeLine_eq]; omega) (fun b _ => ?_) fun out hlen eo => ?_))
  · have := encP_depth b
    simp only [Around.in1_units]
    omega
  obtain ⟨qs, e1, e2, e3⟩ := vals_of_each eo
  obtain ⟨e', he'⟩ := PyProof.Rows.sortedHeap_at (vs := acc.toList) (out := out.toArray) hoL
  have hlen2 : (qs.map V.ref).length ≤ sizeLine := by
    rw [e2.length, hlen, sizeLine_eq]
    omega
  refine wpAny_pure ⟨_, rfl, .ref h'.objs.size, upd H h'.objs.size (.lst (qs.map V.ref)), I1.laid (t' := tk) (fun b u e => ?_) (Nat.le_refl _)
    (show ObjOk X.prog X.w _ _ _ (.lst (qs.map V.ref)) from ⟨hlen2, out, e', e2, he'⟩), rfl, q qs _ e3 (I1.hok.fresh (Nat.le_refl _))⟩
  have hb : b < h'.objs.size := Heap.lt_size e
  rw [PyProof.Rows.sortedHeap_old (Nat.ne_of_lt hb) (by rw [size_push']; exact Nat.lt_succ_of_lt hb)]
  exact Heap.get?_push_of_some _ e
/-! ### dict(pairs) where the keys are tuples, all unlike -/
theorem tupPairs_of {pins : List (Addr × Obj)} {σ : L2.St} {H : Hp} {s : Shared} (I : Inv X pins σ H s) : ∀ {ts : List Addr} {kvs : List (List Key × V)}, Paired (fun t kv => ∃ q, SqT X.K H t [.ref q, kv.2] ∧ H q = some (.tup (kv.1.map kV))) ts kvs →
    ∃ xs : List (List Key × Addr × Value), KT H kvs xs ∧ xs.length = ts.length ∧ ∀ (j : Nat) (x : List Key × Addr × Value), xs[j]? = some x → ∃ t, ts[j]? = some t ∧ IsTup s.heap t #[.ref x.2.1, x.2.2] ∧ H x.2.1 = some (.tup (x.1.map kV))
  | _, _, .nil => ⟨[], .nil, rfl, fun j q e => by simp at e⟩
  | _, _, .cons (a := t) (b := kv) h r => by
    obtain ⟨xs, r1, hl, hp⟩ := tupPairs_of I r
    obtain ⟨q, hq, hk⟩ := h
    obtain ⟨its, rv, ht, _⟩ := I.tuple hq
    obtain ⟨u, y, ei, ru, ry⟩ := vals2 rv
    subst ei
    obtain rfl : u = Value.ref q := ru
    refine ⟨(kv.1, q, y) :: xs, .cons ⟨rfl, hk, ry⟩ r1, by rw [List.length_cons, List.length_cons, hl], fun j x e => ?_⟩
    cases j with
    | zero =>
      obtain rfl : (kv.1, q, y) = x := Option.some.inj e
      exact ⟨t, rfl, ht, hk⟩
    | succ j =>
      obtain ⟨t', e1, e2⟩ := hp j x (by simpa using e)
      exact ⟨t', by simpa using e1, e2⟩
theorem stored_snoc : ∀ (ps acc : List (List Key × Addr × Value)), ((acc ++ ps).map (·.1)).Nodup → PySem.storedAllH acc ps = acc ++ ps
  | [], acc, _ => by simp [PySem.storedAllH]
  | p :: r, acc, h => by
    have e : PySem.storedH acc p.1 p.2.1 p.2.2 = acc ++ [p] := by
      refine PySem.storedH_new ?_ _ _
      have nm : p.1 ∉ acc.map (·.1) := by
        rw [List.map_append, List.map_cons] at h
        intro m
        exact (List.nodup_append.mp h).2.2 _ m _ List.mem_cons_self rfl
      unfold PySem.atKey
      rw [List.find?_eq_none.mpr]
      · rfl
      · intro x hx e
        exact nm (List.mem_map.mpr ⟨x, hx, of_decide_eq_true e⟩)
    have h2 : ((acc ++ [p] ++ r).map (·.1)).Nodup := by simpa using h
    have e2 := stored_snoc r (acc ++ [p]) h2
    show PySem.storedAllH (PySem.storedH acc p.1 p.2.1 p.2.2) r = _
    rw [e, e2]
    simp
theorem keys_eq {H : Hp} : ∀ {kvs : List (List Key × V)} {xs : List (List Key × Addr × Value)}, KT H kvs xs → kvs.map (·.1) = xs.map (·.1)
  | _, _, .nil => rfl
  | _, _, .cons h t => by rw [List.map_cons, List.map_cons, h.1, keys_eq t]
theorem call_dictPT (hcalm : X.calm = true) (hu : X.A.units + 64 < cLine) : CallR X (.type "dict") (fun xs H Q => ∃ (a : Addr) (ts : List Addr) (kvs : List (List Key × V)), xs = [.ref a] ∧ SqL X.K H a (ts.map V.ref) ∧ Paired (fun t kv => ∃ q, SqT X.K H t [.ref q, kv.2] ∧ H q = some (.tup (kv.1.map kV))) ts kvs ∧
    (kvs.map (·.1)).Nodup ∧ ∀ p, H p = none → Q (.ref p) (upd H p (.dT kvs))) := by
  intro pins s σ H xs us Q I r q
  obtain ⟨a, ts, kvs, ex, hq, hp, nd, q⟩ := q
  subst ex
  obtain ⟨u, eu, rx⟩ := vals1 r
  subst eu
  cases rx
  obtain ⟨its, rv, pl, hz⟩ := I.list hq
  have ei := refs_at rv
  subst ei
  rw [List.length_map] at hz
  obtain ⟨ps, kt, hl, hpr⟩ := tupPairs_of I hp
  obtain ⟨o, n, ho, hc, hd, hdat⟩ := pl
  have len2 : (ps.map fun x => (Value.ref x.2.1, x.2.2)).length = ts.length := by rw [List.length_map, hl]
  have P := PairArg.list (prog := X.prog) (w := X.w) a (ts.map Value.ref).toArray (fun j => ts.getD j 0) (ps.map fun x => (Value.ref x.2.1, x.2.2))
  refine call_dict_pairsH (knd := tupleKind (mixKind X.prog X.w)) (ps := ps) P (I.ok.hd hcalm) (by show _ + 1 < cLine; simp only [Around.in1_units]; omega) ⟨⟨o, n, ho, hc, hd, hdat⟩, by simp [hl], fun j k v e => ?_⟩ ⟨by simp, fun i k v e => ?_⟩ (fun h' hk x hx => ?_) (by rw [len2]; exact hz) fun h' tk hd' hk => ?_
  · rw [List.getElem?_map] at e
    obtain ⟨x, hx, e⟩ := Option.map_eq_some_iff.mp e
    obtain ⟨t, e1, e2, e3⟩ := hpr j x hx
    cases e
    have g : ts.getD j 0 = t := by rw [List.getD_eq_getElem?_getD, e1]; rfl
    exact ⟨by simp [e1], .inl (by show IsTup s.heap (ts.getD j 0) _; rw [g]; exact e2)⟩
  · have e : (ps.map fun x => (Value.ref x.2.1, x.2.2))[i]? = some (k, v) := e
    rw [List.getElem?_map] at e
    obtain ⟨x, hx, e⟩ := Option.map_eq_some_iff.mp e
    cases e
    exact ⟨x.1, x.2.1, hx, rfl⟩
  · obtain ⟨j, hj⟩ := List.mem_iff_getElem?.mp hx
    obtain ⟨t, e1, e2, e3⟩ := hpr j x hj
    have k0 := key_of (P := X.prog) (w := X.w) I.hok e3
    obtain ⟨o', items, n', g1, g2⟩ := k0
    exact ⟨o', items, n', hk _ _ (Nat.ne_of_lt (Heap.lt_size g1)) (by simp) g1, g2⟩
  · have hm : (s.heap.objs.size == sysModules) = false := beq_eq_false_iff_ne.mpr (Nat.ne_of_gt I.big)
    have nd2 : (ps.map (·.1)).Nodup := by rw [← keys_eq kt]; exact nd
    rw [stored_snoc ps [] (by simpa using nd2)] at hd'
    obtain ⟨o', es, ep, g1, g2, g3, g4, g5, g6⟩ := hd'
    have hlen : kvs.length ≤ sizeLine := by rw [Paired.length kt, hl]; exact hz
    have keep : ∀ b o, s.heap.get? b = some o → h'.get? b = some o := fun b o e => hk b o (by simp) e
    refine ⟨.ref s.heap.objs.size, upd H s.heap.objs.size (.dT kvs), I.laid (t' := tk) keep (Nat.le_refl _) (show ObjOk X.prog X.w _ _ _ (.dT kvs) from ⟨hlen, hm, ps, kt.keeps fun b ys e => ?_, o', es, ep, g1, g2, g3, g4, g6⟩), rfl, q _ (I.hok.fresh (Nat.le_refl _))⟩
    first
      | exact e
      | (rw [upd_ne (ne_of_none e (I.hok.fresh (Nat.le_refl _)))]; exact e)
end
end Sr

set_option Elab.async false
set_option linter.all false
set_option maxRecDepth 100000
set_option maxHeartbeats 4000000
namespace Sr
open PySem PySem.Spec PyProof.Rows L2
/-! ### several except clauses, each with a name for the error -/
abbrev Su := Addr → Value → Option Addr → TS
/-- a clause: the class, the slot of the name, what the suite does -/
abbrev Clause := Value × Nat × Su
/-- the ends of a suite: the name goes -/
def gone (i : Nat) (D : Ends) : Ends where
  nx := fun σ H => D.nx (σ.set i none) H
  rt := D.rt
  bk := fun σ H => D.bk (σ.set i none) H
  ct := fun σ H => D.ct (σ.set i none) H
def wNamed (K : PySem.W.Frag) (Wout : WX) (D : Ends) : List Clause → WX
  | [] => Wout
  | k :: r => fun cls d σ H => ∃ hit, PySem.W.exmOne K cls k.1 = some hit ∧
      (if hit = true then ∀ a, H a = none → k.2.2 a cls d (gone k.2.1 D) (σ.set k.2.1 (some (.ref a))) H else wNamed K Wout D r cls d σ H)
structure ClauseOk (X : Cx) (h : ExceptHandler) (k : Clause) : Prop where
  is_ : ∃ (x n : Str) (b₀ : Stmt) (rest : List Stmt) (p q : Pos), h = .ExceptHandler (some (.Name x p)) (some n) (b₀ :: rest) q ∧ Names X x k.1 ∧ X.N[k.2.1]? = some n ∧ X.env.kindOf n = some .local ∧
    ∀ (a : Addr) (oe : Obj) (cls : Value) (d : Option Addr) (pn : List (Addr × Obj)), Zc cls d oe → (∃ vs, oe.data = .fields vs) → PSs (X.suite a ((a, oe) :: pn)) (b₀ :: rest) (k.2.2 a cls d)
/-- an error has been caught: what stood stays, the error flies no more -/
def Fell (X : Cx) (pins : List (Addr × Obj)) (σ : L2.St) (H : Hp) (B : Heap) (a : Addr) (cls : Value) (d : Option Addr) (t : Shared) : Prop :=
  ∃ sI : Shared, Inv X pins σ H sI ∧ (∀ b o, sI.heap.get? b = some o → b ∉ frs X.stack → B.get? b = some o) ∧ sI.heap.UpToSlots t.heap ∧
    HandSPX.FlyingZ B (X.env :: X.outer) a (Zc cls d) t.heap ∧ H a = none ∧ t.os = sI.os ∧ AllBare t.gens
section
variable {X : Cx} {pins : List (Addr × Obj)} {σ : L2.St} {H : Hp} {B : Heap} {a : Addr} {cls : Value} {d : Option Addr} {t : Shared}
theorem Fell.inv (f : Fell X pins σ H B a cls d t) : Inv X pins σ H t := by
  obtain ⟨sI, I, nb, up, fl, _, os, ag⟩ := f
  exact I.landed nb fl.1 up os ag
theorem Fell.again (f : Fell X pins σ H B a cls d t) {h' : Heap} (fl' : HandSPX.FlyingZ B (X.env :: X.outer) a (Zc cls d) h') (up' : t.heap.UpToSlots h') : Fell X pins σ H B a cls d { t with heap := h' } := by
  obtain ⟨sI, I, nb, up, _, na, os, ag⟩ := f
  exact ⟨sI, I, nb, up.trans up', fl', na, os, ag⟩
theorem Fell.stands (f : Fell X pins σ H B a cls d t) (hf : X.env.frame = some X.env.locals) :
    ∃ oe, t.heap.get? a = some oe ∧ Zc cls d oe ∧ (∃ vs, oe.data = .fields vs) ∧ Inv (X.suite a ((a, oe) :: (X.pn ++ pins))) [] σ H t := by
  have J := f.inv
  obtain ⟨sI, I, nb, up, fl, na, os, ag⟩ := f
  obtain ⟨oe, vs, e, z, dd⟩ := fl.there
  have out : a ∉ frs (X.env :: X.outer) := fun m => by
    obtain ⟨_, o2, e2, nf⟩ := fl.2.2.1.mem m
    rw [e] at e2
    cases e2
    exact nf vs dd
  have o1 : a ≠ X.env.locals := fun z => out (List.mem_filterMap.mpr ⟨_, List.mem_cons_self, z ▸ hf⟩)
  have o2 : a ∉ X.fs := fun m => by
    obtain ⟨v, mv, ev⟩ := List.mem_filterMap.mp m
    exact out (List.mem_filterMap.mpr ⟨v, List.mem_cons_of_mem _ mv, ev⟩)
  exact ⟨oe, e, z, ⟨vs, dd⟩, J.suite e dd na o1 o2⟩
/-- no clause fits: the error flies on -/
theorem Fell.on (f : Fell X pins σ H B a cls d t) (hs : X.stack = X.env :: X.outer) (hf : X.env.frame = some X.env.locals) {Wout : WX} {D : Ends} (tk : Takes X Wout) (w : Wout cls d σ H) :
    wpAny (model X.prog X.w) X.A (handleBy (.ref a) X.env []) (SP X pins D) X.xe t := by
  obtain ⟨sI, I, nb, up, fl, na, os, ag⟩ := f
  obtain ⟨_, _, _, oe, vs, T, oT, ts, e, z, dd, v1, _⟩ := id fl
  have leaves : wpAny (model X.prog X.w) X.A (setFlight (.ref a) X.env.frame) (fun _ u => wpAny (model X.prog X.w) X.A (throw (.ref a) : Sem Flow) (SP X pins D) X.xe u) X.xe t := by
    rw [hf]
    exact HandSPX.setFlight_upZ fl fun h' held up' => wpAny_throw (tk _ _ ⟨a, B, sI, pins, σ, H, cls, d, rfl, I, nb, up.trans up', .inr (.inr (hs ▸ held)), na, os, ag, w⟩)
  refine wpAny_handleBy_nil ?_
  unfold PySem.passOn
  refine wpAny_bind (wpAny_field e dd v1 ?_)
  have no : ¬ ((Value.ref T == Value.none) = true) := by simp
  rw [if_neg no]
  first
    | exact wpAny_bind leaves
    | exact wpAny_bind (wpAny_pure (wpAny_bind leaves))
theorem Fell.cls_ (f : Fell X pins σ H B a cls d t) (hf : X.env.frame = some X.env.locals) {x : Str} {c : Value} {np : Pos} (hc : Names X x c) {Q : Value → Shared → Prop} {E : Value → Shared → Prop} (q : Q c t) :
    wpAny (model X.prog X.w) (X.A.mark (some (.ref a))) (eval (.Name x np) X.env) Q E t := by
  obtain ⟨oe, _, _, _, S⟩ := f.stands hf
  obtain ⟨g, nd, c1 | ⟨c1, c2, c3⟩⟩ := hc
  · exact ld_glob (X := X.suite a _) S g c1 q nd
  · exact ld_blt (X := X.suite a _) S g c1 c2 q c3 nd
theorem Fell.go {Wout : WX} {D : Ends} (hs : X.stack = X.env :: X.outer) (hf : X.env.frame = some X.env.locals) (hN : X.N.Nodup) (tk : Takes X Wout) : ∀ {hds : List ExceptHandler} {l : List Clause}, Paired (ClauseOk X) hds l → ∀ {t : Shared}, Fell X pins σ H B a cls d t →
    wNamed X.K Wout D l cls d σ H → wpAny (model X.prog X.w) X.A (handleBy (.ref a) X.env hds) (SP X pins D) X.xe t
  | _, _, .nil, _, f, w => f.on hs hf tk w
  | _, _, .cons hk r, t, f, w => by
    obtain ⟨x, n, b₀, rest, p, p', rfl, hc, hi, hl, body⟩ := hk.is_
    obtain ⟨hit, e1, w⟩ := w
    obtain ⟨oe, e, z, _, _⟩ := f.stands hf
    have looks : PySem.W.Looks (model X.prog X.w) t.heap (typeOf (.ref a)) cls := fun _ _ _ _ k q => wpAny_typeOf_ref (k _ _ e) (by rw [z.1]; exact q)
    have fits := PySem.W.exm_one (M := model X.prog X.w) f.inv.kIn looks e1
    refine wpAny_handleBy_cons (codeAny_handlers_test (f.cls_ hf hc (fits.here ?_))) fun q => by cases q
    cases hit with
    | false => exact Fell.go hs hf hN tk r f w
    | true =>
      refine codeAny_handlers_suite_as (HandSPX.lands_againZ (by obtain ⟨_, _, _, _, fl, _⟩ := f; exact fl) fun h' fl' up' => ?_)
      have f' := f.again fl' up'
      obtain ⟨oe2, _, z2, dd2, S⟩ := f'.stands hf
      have na : H a = none := by obtain ⟨_, _, _, _, _, na, _⟩ := f; exact na
      refine store_ok (X := X.suite a _) (v := .ref a) S hN hi (.inl hl) rfl (fun s5 S5 => ?_) (.inr hl)
      refine wpAny_mono ((body a oe2 cls d _ z2 dd2).run [] s5 _ H (gone _ D) S5 (w a na)) (fun fl s6 sp => ?_) fun _ _ z => z.elim
      have off : ∀ {σ6 : L2.St} {H6 : Hp} {Q : Shared → Prop}, Inv (X.suite a ((a, oe2) :: (X.pn ++ pins))) [] σ6 H6 s6 → (∀ s7, Inv X pins (σ6.set _ none) H6 s7 → Q s7) →
          wpAny (model X.prog X.w) X.A (do bindName X.env n .none; unbindBehindTheSuite X.env n p') (fun _ s7 => Q s7) X.xe s6 := fun S6 hq => gone_ok (S6.unsuite f.inv.ok) hN hi hl hq
      cases fl with
      | ret u =>
        obtain ⟨v6, _, _, S6, r6, q6⟩ := sp
        exact off S6 fun _ J => ⟨v6, _, _, J, r6, q6⟩
      | next => exact sp.elim fun _ y => y.elim fun _ y => off y.1 fun _ J => ⟨_, _, J, y.2⟩
      | brk => exact sp.elim fun _ y => y.elim fun _ y => off y.1 fun _ J => ⟨_, _, J, y.2⟩
      | cont => exact sp.elim fun _ y => y.elim fun _ y => off y.1 fun _ J => ⟨_, _, J, y.2⟩
end
/-- try: body, except x as n: .. except y as m: .. -/
theorem ps_try_named {X : Cx} {body : List Stmt} {h₀ : ExceptHandler} {hds : List ExceptHandler} {l : List Clause} {pos : Pos} {tb : WX → TS} {Wout : WX} (hs : X.stack = X.env :: X.outer) (hf : X.env.frame = some X.env.locals) (hN : X.N.Nodup) (tk : Takes X Wout)
    (hb : ∀ (W : WX) (pn : List (Addr × Obj)) (xe : Value → Shared → Prop), Takes (X.tr pn xe) W → PassesOwn (model X.prog X.w) X.A X.env xe → PSs (X.tr pn xe) body (tb W)) (hk : Paired (ClauseOk X) (h₀ :: hds) l) :
    PS X (.Try body (h₀ :: hds) [] [] pos) (fun D σ H => tb (wNamed X.K Wout D l) D σ H) := by
  refine ⟨fun pins s σ H D I h => wpAny_Try_except ?_⟩
  let xt : Value → Shared → Prop := fun e s₁ => wpAny (model X.prog X.w) X.A (noteFrame e X.env) (fun _ s₂ => wpAny (model X.prog X.w) X.A (setFlight e none)
    (fun _ s₃ => wpAny (model X.prog X.w) X.A (handleBy e X.env (h₀ :: hds)) (SP X pins D) X.xe s₃) X.xe s₂) X.xe s₁
  have takes : Takes (X.tr (X.pn ++ pins) xt) (wNamed X.K Wout D l) := fun u s' y => by
    obtain ⟨a, B, sI, pins', σ', H', cls, d, rfl, J', nb, up, sky, na, os, ag, w⟩ := y
    have hfr : X.A.frames = some (X.env :: X.outer) := I.ok.frames.trans (congrArg some hs)
    exact Sky.land Zc.steady hfr hf (hs ▸ sky) fun h3 fl3 up3 => Fell.go hs hf hN tk hk ⟨sI, J'.ofTry I.ok, nb, up.trans up3, fl3, na, os, ag⟩ w
  refine wpAny_mono ((hb _ _ xt takes PassesOwn.looking).run [] s σ H D (I.toTry _) h) (fun f s1 sp => ?_) fun _ _ he => he
  cases f with
  | ret u =>
    obtain ⟨v, _, _, J, r, q⟩ := sp
    exact ⟨v, _, _, J.ofTry I.ok, r, q⟩
  | next => exact sp.elim fun _ y => y.elim fun _ y => wpAny_execs_nil ⟨_, _, y.1.ofTry I.ok, y.2⟩
  | brk => exact sp.elim fun _ y => y.elim fun _ y => ⟨_, _, y.1.ofTry I.ok, y.2⟩
  | cont => exact sp.elim fun _ y => y.elim fun _ y => ⟨_, _, y.1.ofTry I.ok, y.2⟩
end Sr

set_option Elab.async false
set_option linter.all false
set_option maxRecDepth 100000
set_option maxHeartbeats 4000000
namespace Sr
open PySem PySem.Spec PyProof.Rows L2
/-! ### own errors below ValueError, at any depth of classes, with an own __init__ -/
def errSl (sl : Array (Option Value)) : Bool := match sl.toList with
  | [_, _, _, _, some (.builtin n), _] => decide (n = "ValueError.__new__")
  | _ => false
def errCl (C : Addr) (k : ClassData) : Bool := match k.mro with
  | .ref c :: r => decide (c = C) && (PySem.HandSPX.refsVE r && (k.hasDict && !k.hasDel))
  | _ => false
def errB (K : PySem.W.Frag) (C : Addr) : Bool := match K.lookup C with
  | some ⟨.type t, _, .cls k, sl⟩ => decide (t = "type") && (errCl C k && errSl sl)
  | _ => false
theorem errSl_ok {sl : Array (Option Value)} (h : errSl sl = true) : ∃ k0 k1 k2 k3 k5, sl = #[k0, k1, k2, k3, some (.builtin "ValueError.__new__"), k5] := by
  obtain ⟨l⟩ := sl
  unfold errSl at h
  match l, h with
  | [k0, k1, k2, k3, some (.builtin n), k5], h =>
    obtain rfl : n = "ValueError.__new__" := of_decide_eq_true h
    exact ⟨k0, k1, k2, k3, k5, rfl⟩
theorem errCl_ok {C : Addr} {k : ClassData} (h : errCl C k = true) : ∃ bm, k.mro = .ref C :: bm ∧ PySem.HandSPX.refsVE bm = true ∧ k.hasDict = true ∧ k.hasDel = false := by
  unfold errCl at h
  cases e : k.mro with
  | nil => rw [e] at h; cases h
  | cons c r =>
    rw [e] at h
    cases c with
    | ref c =>
      have h' : (decide (c = C) && (PySem.HandSPX.refsVE r && (k.hasDict && !k.hasDel))) = true := h
      obtain ⟨a1, a2⟩ := Bool.and_eq_true_iff.mp h'
      obtain ⟨a2, a3⟩ := Bool.and_eq_true_iff.mp a2
      obtain ⟨a3, a4⟩ := Bool.and_eq_true_iff.mp a3
      obtain rfl : c = C := of_decide_eq_true a1
      exact ⟨r, rfl, a2, a3, by simpa using a4⟩
    | _ => cases h
theorem errB_ok {K : PySem.W.Frag} {C : Addr} (h : errB K C = true) : ∃ nm q N bs bm sn sub ab col dd k0 k1 k2 k3 k5,
    K.lookup C = some (excClassObj nm q C N bs bm true sn sub ab col dd k0 k1 k2 k3 k5 "ValueError.__new__") ∧ PySem.HandSPX.refsVE bm = true := by
  unfold errB at h
  cases e : K.lookup C with
  | none => rw [e] at h; cases h
  | some o =>
    rw [e] at h
    obtain ⟨oc, od, dt, sl⟩ := o
    cases oc with
    | type t =>
      cases dt with
      | cls k =>
        have h' : (decide (t = "type") && (errCl C k && errSl sl)) = true := h
        obtain ⟨h1, h2⟩ := Bool.and_eq_true_iff.mp h'
        obtain ⟨h4, h5⟩ := Bool.and_eq_true_iff.mp h2
        obtain ⟨bm, m1, m2, m3, m4⟩ := errCl_ok h4
        obtain rfl : t = "type" := of_decide_eq_true h1
        obtain ⟨k0, k1, k2, k3, k5, rfl⟩ := errSl_ok h5
        obtain ⟨nm, bs, mro, N, q, hd, sn, sub, ab, col, del⟩ := k
        obtain rfl : mro = .ref C :: bm := m1
        obtain rfl : hd = true := m3
        obtain rfl : del = false := m4
        exact ⟨nm, q, N, bs, bm, sn, sub, ab, col, od, k0, k1, k2, k3, k5, rfl, m2⟩
      | _ => cases h
    | _ => cases h
/-- all that an own error's class must be, as one look -/
def errAll (K : PySem.W.Frag) (C f : Addr) (at_ : Str) : Bool := errB K C && (decide (PySem.W.findIn K (.ref C) "__setattr__" = some (some (.builtin "object.__setattr__"))) && (decide (PySem.W.subIn K (.ref C) (.type "BaseException") = some true) &&
  (decide (PySem.W.typeIn K (.ref C) = some (.type "type")) && (PySem.W.keepIn K (.ref C) && (decide (PySem.W.findIn K (.ref C) "__init__" = some (some (.ref f))) && (decide (PySem.W.typeIn K (.ref f) = some (.type "function")) &&
  (decide (PySem.W.findIn K (.ref C) at_ = some none) && xfB K C)))))))
structure Err (K : PySem.W.Frag) (C f : Addr) (at_ : Str) : Prop where
  oex : OexC K C
  init : PySem.W.findIn K (.ref C) "__init__" = some (some (.ref f))
  fn : PySem.W.typeIn K (.ref f) = some (.type "function")
  no : PySem.W.findIn K (.ref C) at_ = some none
  xf : XfC K C
theorem errAll_ok {K : PySem.W.Frag} {C f : Addr} {at_ : Str} (h : errAll K C f at_ = true) : Err K C f at_ := by
  obtain ⟨h1, h⟩ := Bool.and_eq_true_iff.mp h
  obtain ⟨h2, h⟩ := Bool.and_eq_true_iff.mp h
  obtain ⟨h3, h⟩ := Bool.and_eq_true_iff.mp h
  obtain ⟨h4, h⟩ := Bool.and_eq_true_iff.mp h
  obtain ⟨h5, h⟩ := Bool.and_eq_true_iff.mp h
  obtain ⟨h6, h⟩ := Bool.and_eq_true_iff.mp h
  obtain ⟨h7, h⟩ := Bool.and_eq_true_iff.mp h
  obtain ⟨h8, h9⟩ := Bool.and_eq_true_iff.mp h
  exact ⟨⟨errB_ok h1, of_decide_eq_true h2, of_decide_eq_true h3, of_decide_eq_true h4, h5⟩, of_decide_eq_true h6, of_decide_eq_true h7, of_decide_eq_true h8, xfB_ok h9⟩
/-- __init__(self, v): self.at_ = v -/
def spErr (K : PySem.W.Frag) (C : Addr) (at_ : Str) : Sp := fun vs H Q _ => ∃ a v, vs = [.ref a, v] ∧ H a = some (exo a C none) ∧ ∀ dx, H dx = none → dx ≠ a → Q .non (upd (upd H dx (exd dx [(at_, v)])) a (exo a C (some dx)))
/-- C(v) raised: the dict of the error stands -/
theorem err_at {K : PySem.W.Frag} {C : Addr} {at_ : Str} {v : V} {H1 : Hp} {Q : XK} (q : ∀ dx, H1 dx = none → Q (.ref C) (some dx) (upd H1 dx (.xd [(at_, v)]))) : [v].length ≤ 1000 ∧ ∀ a, H1 a = none → spErr K C at_ (.ref a :: ([v] ++ [])) (upd H1 a (exo a C none))
    (fun u H2 => u = .non ∧ ∃ (d : Addr) (fs : List (Str × V)), H2 a = some (exo a C (some d)) ∧ H2 d = some (exd d fs) ∧ H1 d = none ∧ Q (.ref C) (some d) (upd (del H2 a) d (.xd fs))) (fun _ _ _ => False) := by
  refine ⟨by simp, fun a ha => ⟨a, v, rfl, upd_same, fun dx hdx nd => ?_⟩⟩
  have h1 : H1 dx = none := (upd_ne nd).symm.trans hdx
  refine ⟨rfl, dx, [(at_, v)], upd_same, (upd_ne nd).trans upd_same, h1, ?_⟩
  have e : upd (del (upd (upd (upd H1 a (exo a C none)) dx (exd dx [(at_, v)])) a (exo a C (some dx))) a) dx (.xd [(at_, v)]) = upd H1 dx (.xd [(at_, v)]) := by
    funext b
    by_cases c : b = dx
    · rw [c, upd_same, upd_same]
    · rw [upd_ne c, upd_ne c]
      by_cases c2 : b = a
      · rw [c2, del_same, ha]
      · rw [del_ne c2, upd_ne c2, upd_ne c, upd_ne c2]
  rw [e]
  exact q dx h1
theorem pmk_err {X : Cx} {k k' : Nat} {C f : Addr} {at_ x : Str} {ps : List Str} {e : Expr} {ta : TA} {p pos : Pos} (E : Err X.K C f at_) (M : CalM X.prog X.w X.K X.mg X.base CX0 k f ps (spErr X.K C at_)) (hr : Room k' X.A) (hk : k + 1 ≤ k') (hg : Gl X x) (hm : X.mg x = some (.ref C)) (ha : PA X [e] ta)
    (hdb : (x == ("__debug__" : Str)) = false := by decide) (he : starEach [e] X.env = (false, eval e X.env) :: starEach [] X.env := by rfl) (hpl : (backTo pos (starEach [] X.env)).any (·.1) = false := by rfl) :
    PMk X (.Call (.Name x p) [e] [] pos) (tMkO C (spErr X.K C at_) [] ta) := by
  obtain ⟨fd, F, _, hb⟩ := M.ex
  exact pmk_oex (CX := CX0) E.oex E.init E.fn F (hr.mono hk) hb .nil (fun _ _ _ _ _ _ _ h => h.elim) hg hm ha hdb he hpl
/-- an own error that may be raised: its class, its __init__, its name -/
structure ErrAt (P : Program) (w : World) (K : PySem.W.Frag) (mg : Str → Option Value) (base : Heap) (x at_ p : Str) : Prop where
  e : Err K (He.ga K x) (He.fAd K (x, some "__init__")) at_
  m : CalM P w K mg base CX0 1 (He.fAd K (x, some "__init__")) ["self", p] (spErr K (He.ga K x) at_)
  g : mg x = some (.ref (He.ga K x))
theorem ErrAt.mk_ {X : Cx} {k : Nat} {x at_ q : Str} {e : Expr} {ta : TA} {p pos : Pos} (R : ErrAt X.prog X.w X.K X.mg X.base x at_ q) (hr : Room k X.A) (hk : 2 ≤ k) (hg : Gl X x) (ha : PA X [e] ta)
    (hdb : (x == ("__debug__" : Str)) = false := by decide) (he : starEach [e] X.env = (false, eval e X.env) :: starEach [] X.env := by rfl) (hpl : (backTo pos (starEach [] X.env)).any (·.1) = false := by rfl) :
    PMk X (.Call (.Name x p) [e] [] pos) (tMkO (He.ga X.K x) (spErr X.K (He.ga X.K x) at_) [] ta) := pmk_err R.e R.m hr hk hg R.g ha hdb he hpl
/-- a method that errors may leave -/
theorem DfnM.calE {P : Program} {w : World} {K : PySem.W.Frag} {mg : Str → Option Value} {base : Heap} {c m qual : Str} {st : Stmt} {N ps : List Str} {k : Nat} {sp : Sp} (D : DfnM K c m qual st) (S : FnScope N ps (defScope st))
    (hb : ∀ (kV doc pm : Value) (an : Option Addr) (cdv ct : Value) (us : List Value), us.length = ps.length → bindArgs (PySem.W.fnOf m qual (defArgs st) (defBody st) (defScope st) .none kV doc pm an cdv ct) ⟨us, []⟩ = pure (ps.zip us))
    (len : ∀ vs H Q E, sp vs H Q E → vs.length = ps.length)
    (body : ∀ (cdv : Value) (A : Around) (outer : List Env) (s : Shared) (H : Hp) (vs : List V) (Q : VK) (E : XK), Room k (A.deeper (envOfC qual (defScope st) s.heap.objs.size (He.fAd K (c, some m)) cdv)) → sp vs H Q E →
      ∃ t, PSs (cxOf (L2.CX P w) P w K mg base N qual (defScope st) (He.fAd K (c, some m)) cdv A outer s H E) (defBody st) t ∧ t { nx := fun _ H' => Q .non H', rt := Q } (start N vs) H) :
    CalM P w K mg base (L2.CX P w) (k + 1) (He.fAd K (c, some m)) ps sp := by
  obtain ⟨fd, F⟩ := D.fn
  exact ⟨fd, F.ok S len body, F.kp, F.bindsN hb⟩
theorem op_notHas {X : Cx} {k k' : Nat} {C f : Addr} {ps : List Str} {sp : Sp} (M : CalM X.prog X.w X.K X.mg X.base CX0 k f ps sp) (hr : Room k' X.A) (hk : k ≤ k') (hs : Has X.K C f)
    (hm : ∀ x y H Q Q' E, (∀ v H', Q v H' → Q' v H') → sp [x, y] H Q E → sp [x, y] H Q' E) : OpR X (compareOp .NotIn) (rInOwn C sp E0 true) := by
  obtain ⟨fd, F, _, hb⟩ := M.ex
  intro pins s σ H x y v u Q I rx ry h
  obtain ⟨a, dx, fs, e, ha, hsp⟩ := h
  show wpAny _ _ (do return Value.bool (!(← contains u v))) _ _ _
  refine wpAny_bind (own_in F (hr.mono hk) hs hb pass0 (Q := fun b s' => wpAny (model X.prog X.w) X.A (pure (Value.bool (!b))) (EP X pins σ Q) X.xe s') I rx ry ⟨a, dx, fs, e, ha, hm _ _ _ _ _ _ (fun z H' hz => ?_) hsp⟩)
  obtain ⟨b, rfl, hq⟩ := hz
  exact ⟨b, rfl, fun s' I' => wpAny_pure ⟨.bl (!b), H', I', rfl, hq⟩⟩
end Sr

set_option Elab.async false
set_option linter.all false
set_option maxRecDepth 100000
set_option maxHeartbeats 4000000
namespace Sr
open PySem PySem.Spec PyProof.Rows L2
/-! ### defs that errors may leave -/
structure CalE (P : Program) (w : World) (K : PySem.W.Frag) (mg : Str → Option Value) (base : Heap) (k : Nat) (x : Str) (ps : List Str) (sp : Sp) : Prop where
  ex : ∃ (f : Addr) (fd : FuncData), FnOk P w K mg base (L2.CX P w) k f fd ps sp ∧ mg x = some (.ref f) ∧ PySem.W.keepIn K (.ref f) = true ∧ Binds K fd ps []
theorem pe_calE {X : Cx} {k k' : Nat} {x : Str} {ps : List Str} {sp : Sp} {E : XK} {p pos : Pos} {e : Expr} {es : List Expr} {t : TA} (C : CalE X.prog X.w X.K X.mg X.base k x ps sp) (hr : Room k' X.A) (hk : k ≤ k') (hg : Gl X x) (hx : Passes (L2.CX X.prog X.w) X E) (ha : PA X (e :: es) t)
    (hdb : (x == ("__debug__" : Str)) = false := by decide) (he : starEach (e :: es) X.env = (false, eval e X.env) :: starEach es X.env := by rfl) (hpl : (backTo pos (starEach es X.env)).any (·.1) = false := by rfl) :
    PE X (.Call (.Name x p) (e :: es) [] pos) (tCall sp [] E t) := by
  obtain ⟨f, fd, F, hm, hkp, hb⟩ := C.ex
  exact pe_call F (hr.mono hk) hg hm hkp hb .nil hx ha hdb he hpl
theorem Dfn.calE {P : Program} {w : World} {K : PySem.W.Frag} {mg : Str → Option Value} {base : Heap} {x : Str} {st : Stmt} {N ps : List Str} {k : Nat} {sp : Sp} (D : Dfn K mg x st) (S : FnScope N ps (defScope st))
    (hb : ∀ (kV doc pm : Value) (an : Option Addr) (cdv ct : Value) (us : List Value), us.length = ps.length → bindArgs (PySem.W.fnOf x x (defArgs st) (defBody st) (defScope st) .none kV doc pm an cdv ct) ⟨us, []⟩ = pure (ps.zip us))
    (len : ∀ vs H Q E, sp vs H Q E → vs.length = ps.length)
    (body : ∀ (cdv : Value) (A : Around) (outer : List Env) (s : Shared) (H : Hp) (vs : List V) (Q : VK) (E : XK), Room k (A.deeper (envOfC x (defScope st) s.heap.objs.size (He.ga K x) cdv)) → sp vs H Q E →
      ∃ t, PSs (cxOf (L2.CX P w) P w K mg base N x (defScope st) (He.ga K x) cdv A outer s H E) (defBody st) t ∧ t { nx := fun _ H' => Q .non H', rt := Q } (start N vs) H) :
    CalE P w K mg base (k + 1) x ps sp := by
  obtain ⟨fd, F⟩ := D.fn
  exact ⟨_, fd, F.ok S len body, D.at_, F.kp, F.bindsN hb⟩
/-- where the callee's contract lets no error out -/
theorem passes_never {X : Cx} : Passes (L2.CX X.prog X.w) X E0 := fun _ _ _ _ _ _ _ c => by
  obtain ⟨_, _, _, _, _, _, _, _, _, _, _, _, h⟩ := c
  exact h.elim
/-- within a def that errors may leave -/
theorem passes_def {X : Cx} {E : XK} {E₁ : Value → Shared → Prop} (hs : X.stack = X.env :: X.outer) (hf : X.env.frame = some X.env.locals) (hex : X.ex = [])
    (hx : X.xe = fun e s' => wpAny (model X.prog X.w) X.A (leaving X.env e) (fun _ s'' => L2.CX X.prog X.w X.outer X.H_0 X.s_0 E e s'') E₁ s') : Passes (L2.CX X.prog X.w) X E :=
  passes_call (takes_of hs hf hex hx) fun _ _ _ _ h => h
end Sr

set_option Elab.async false
set_option linter.all false
set_option maxRecDepth 100000
set_option maxHeartbeats 4000000
namespace Sr
open PySem PySem.Spec PyProof.Rows L2
open Sem (wp)
/-! ### enumerate(tuple) -/
theorem meets_enumerate_newT {v : Value} {o : Obj} {H : Heap → Prop} (B : Begins v o H) :
    Meets (Builtin.«enumerate.__new__» ⟨[.type "enumerate", v], []⟩) (fun _ R s => H s.heap ∧
      R (.ok (.ret (.ref (s.heap.push o).objs.size))) { s with heap := (s.heap.push o).push { cls := .type "enumerate", data := .fields #[.none, .bool false, .ref s.heap.objs.size, rawInt 0, .none, .none] } }) :=
  .of_wp fun prog w A R s h => by
    obtain ⟨hp, g, d, tk, os⟩ := s; obtain ⟨h1, h⟩ := h
    have hsub := sub_enumerate
    have q1 : ∀ {A' : Around} {E : Value → Shared → Prop} {Q : Value → Shared → Prop}, Q (.ref hp.objs.size) ⟨hp.push o, g, d, tk, os⟩ → wpAny (model prog w) A' (pyIter v) Q E ⟨hp, g, d, tk, os⟩ :=
      fun q => B.iter prog w _ _ ⟨hp, g, d, tk, os⟩ _ h1 q
    wp_walk using q1
    refine wpAny_stack_any fun st => wpAny_pure ?_
    split
    · rename_i c _ _ _ _ _
      cases (c == Value.type "enumerate")
      · wp_walk using q1
        exact ⟨_, rfl, h⟩
      · wp_walk using q1
        exact ⟨_, rfl, h⟩
    · wp_walk using q1
      exact ⟨_, rfl, h⟩
section
variable {prog : Program} {w : World} {A : Around} {E : Value → Shared → Prop} {s : Shared}
theorem enumT_begins {v : Value} {o : Obj} {H : Heap → Prop} {Q : Value → Shared → Prop} (B : Begins v o H) (h1 : H s.heap)
    (h : ∀ h', IsEnum h' (s.heap.objs.size + 1) s.heap.objs.size 0 .none → h'.get? s.heap.objs.size = some o → h'.objs.size = s.heap.objs.size + 2 →
      (∀ b o, s.heap.get? b = some o → h'.get? b = some o) → Q (.ref (s.heap.objs.size + 1)) { s with heap := h' }) :
    wpAny (model prog w) A (call (.type "enumerate") [v]) Q E s := by
  refine callType_new PySem.F.called_enumerate (by decide) (PySem.F.typeCall_enumerate_1 _) (PySem.F.newCall_enumerate_1 _) (fun obj => PySem.F.args_object_init_2 obj _) PySem.F.entry_enumerate_new
    (meets_enumerate_newT B) ⟨h1, ?_⟩
  have hz : (s.heap.push o).objs.size = s.heap.objs.size + 1 := Heap.size_push ..
  show _ ∧ _
  rw [hz]
  have he : IsEnum ((s.heap.push o).push { cls := .type "enumerate", data := .fields #[.none, .bool false, .ref s.heap.objs.size, rawInt 0, .none, .none] }) (s.heap.objs.size + 1) s.heap.objs.size 0 .none := by
    have := Heap.get?_push_size (s.heap.push o) (o := { cls := .type "enumerate", data := .fields #[.none, .bool false, .ref s.heap.objs.size, rawInt 0, .none, .none] }) rfl
    rw [hz] at this; exact this
  refine ⟨⟨_, he, rfl⟩, h _ he (Heap.get?_push_of_some _ (Heap.get?_push_size _ B.free)) (by rw [Heap.size_push, hz]) fun b o x => Heap.get?_push_of_some _ (Heap.get?_push_of_some _ x)⟩
end
theorem enum_endT {prog : Program} {w : World} {A : Around} {E : Value → Shared → Prop} {s : Shared} {e it t : Addr} {j : Nat} {items : Array Value} {i : Int} {old : Value} {Q : Option Value → Shared → Prop} (hh : A.in1.handled = none)
    (he : IsEnum s.heap e it i old) (hit : s.heap.IsTupleIter it t j) (ht : s.heap.IsTuple t items) (hx : items[j]? = none)
    (hQ : ∀ h', Heap.ExtBut it s.heap h' → Q none { s with heap := h' }) : wpAny (model prog w) A (pyNext (.ref e)) Q E s := by
  have hT : s.TypeIs (.ref e) "enumerate" := ⟨_, he, rfl⟩
  unfold pyNext
  refine wpAny_bind (wpAny_attempt (wpAny_callSpecial?_slot (name := Str.ofString "__next__") hT PySem.F.slot_enumerate_next
    (wpAny_call_entry PySem.F.slot_enumerate_next hT PySem.F.entry_enumerate_next ?_ (PySem.F.args_enumerate_next_1 _))))
  show wpAny _ _ (field (.ref e) 2 >>= _) _ _ _
  refine wpAny_bind (wpAny_field he rfl (x := .ref it) rfl ?_)
  refine wpAny_bind (wpAny_nextOf_tuple_end hh hit ht hx fun h' x he' hx' => ?_)
  obtain ⟨o, ho, hc⟩ := hx'
  refine wpAny_bind (wpAny_isInstance (T := "StopIteration") (b := true) ⟨o, ho, hc⟩ isSubtype_stop ?_)
  exact wpAny_pure (hQ _ he')
/-- the tuple at a, each item in a new pair -/
def Itet (K : PySem.W.Frag) (a : Addr) : It :=
  ⟨fun i H => ∃ (xs : List V) (x : V), SqT K H a xs ∧ xs[i]? = some x, fun i H v H' => ∃ T x, v = .ref T ∧ H T = none ∧ H' = upd H T (.tup [.int (i : Nat), x]) ∧ ∀ xs, SqT K H a xs → xs[i]? = some x, fun i H => ∃ xs : List V, SqT K H a xs ∧ xs.length ≤ i⟩
theorem turn_enumT {P : Program} {w : World} {K : PySem.W.Frag} {elts : List Expr} {kk : Nat} {tpos : Pos} (a e it : Addr) :
    Turn P w K (.Tuple elts kk tpos) (Itet K a) [e, it] e (fun i h => (∃ old, IsEnum h e it ((i : Nat) : Int) old) ∧ h.IsTupleIter it a i ∧ e ≠ it) where
  mem := by simp
  obj := fun i h st b hb => by
    obtain ⟨⟨old, he⟩, ⟨o, ho, hc, hd⟩, _⟩ := st
    have e' : b = e ∨ b = it := by simpa using hb
    rcases e' with z | z
    · rw [z]; exact ⟨_, he, fun v q => nomatch q⟩
    · rw [z]; exact ⟨o, ho, fun v q => by rw [hd] at q; cases q⟩
  keep := fun i h h' st k => let ⟨⟨old, he⟩, hi, hne⟩ := st; ⟨⟨old, k e (by simp) _ he⟩, hi.at fun o q => k it (by simp) o q, hne⟩
  item := by
    intro X hP hw hK hc i pins s σ H E I hf st hg
    subst hP hw hK
    obtain ⟨⟨old, he⟩, hit, hne⟩ := st
    obtain ⟨xs, x, hq, hx⟩ := hg
    obtain ⟨its, rv, p, hz⟩ := I.tuple hq
    obtain ⟨u, hu, ru⟩ := rv.get hx
    have hel : e < s.heap.objs.size := Heap.lt_size he
    have hil : it < s.heap.objs.size := by obtain ⟨_, q, _⟩ := hit; exact Heap.lt_size q
    have hai : a ≠ it := fun z => by
      obtain ⟨o1, g1, g2, _⟩ := p
      obtain ⟨o2, g3, g4, _⟩ := hit
      rw [z, g3] at g1
      cases g1
      rw [g2] at g4
      injection g4 with g4
      exact absurd g4 (by decide)
    have hea : e ≠ a := fun z => by
      obtain ⟨o1, g1, g2, _⟩ := p
      have he2 : s.heap.get? a = _ := z ▸ he
      rw [he2] at g1
      cases g1
      injection g2 with g2
      exact absurd g2 (by decide)
    have D := Draws.tuple (prog := X.prog) (w := X.w) (A := X.A.in1) (I.ok.hd hc) it a hai its.toArray
    have hlt : i < its.toArray.size := by
      have := (List.getElem?_eq_some_iff.mp hu).1
      simpa using this
    refine wpAny_pyNext_enum_itemC D he ⟨hit, p⟩ hlt hne (by simp [hne, hea]) fun y h' tk hP ho hst' hT hsz hk => ?_
    have ey : y = u := by
      have hP : its.toArray[i]? = some y := hP
      rw [List.getElem?_toArray, hu] at hP
      exact (Option.some.inj hP).symm
    subst ey
    refine ⟨_, rfl, wpAny_letOwnedTupleGo_enum (s := { s with heap := h', toks := tk + 1 }) ho fun h'' he' sb => ?_⟩
    have hT2 : h''.get? s.heap.objs.size = some { cls := .type "tuple", data := .seq #[.int i tk, y] } := (sb.2 _ (Nat.ne_of_gt hel)).trans hT
    have new : ObjOk X.prog X.w (upd H s.heap.objs.size (.tup [.int (i : Nat), x])) h'' s.heap.objs.size (.tup [.int (i : Nat), x]) :=
      ⟨by show 2 ≤ sizeLine; decide, [.int i tk, y], .cons ⟨_, rfl⟩ (.cons ru .nil), ⟨_, hT2, rfl, _, rfl⟩⟩
    have I1 : L2.Inv X pins σ (upd H s.heap.objs.size (.tup [.int (i : Nat), x])) { s with heap := h'', toks := tk + 1 } :=
      I.turnedNew (ch := [e, it]) (fun b ob hb q => (sb.2 b (fun z => hb (by simp [z]))).trans (hk b ob (fun z => hb (by simp [z])) (fun z => hb (by simp [z])) q)) hf (Nat.le_refl _) new
    refine ⟨.ref s.heap.objs.size, _, I1, rfl, ⟨_, x, rfl, I.hok.fresh (Nat.le_refl _), rfl, fun ys hy => by rw [I.tuple_inj hy hq]; exact hx⟩, ⟨⟨y, ?_⟩, hst'.1.at fun o q => (sb.2 it (Ne.symm hne)).trans q, hne⟩, fun b hb => ?_⟩
    · have e1 : ((i + 1 : Nat) : Int) = (i : Int) + 1 := by omega
      rw [e1]; exact he'
    · have hb' : b < s.heap.objs.size := by
        have e' : b = e ∨ b = it := by simpa using hb
        rcases e' with z | z
        · rw [z]; exact hel
        · rw [z]; exact hil
      rw [upd_ne (Nat.ne_of_lt hb')]
      exact (hf b hb).1
  done := by
    intro X hP hw hK hc i pins s σ H E I hf st hg
    subst hP hw hK
    obtain ⟨⟨old, he⟩, hit, hne⟩ := st
    obtain ⟨xs, hq, hx⟩ := hg
    obtain ⟨its, rv, p, hz⟩ := I.tuple hq
    obtain ⟨f0, f1, f2, f3, f4, f5⟩ := hf it (by simp)
    have hl := rv.length
    refine enum_endT (I.ok.hd hc) he hit (show s.heap.IsTuple a its.toArray from p) (by simp; omega) fun h' eb => ⟨rfl, I.turned (t' := s.toks) (fun b o hb q => eb b o hb q) f0 f1 f3 f4 f5⟩
  self := fun A i s Q E st h => let ⟨⟨_, he⟩, _⟩ := st; wpAny_pyIter_enum he h
def iEnumT (K : PySem.W.Frag) (ta : TA) : TI := fun σ H R => ta σ H fun vs H1 => ∃ a xs, vs = [.ref a] ∧ SqT K H1 a xs ∧ R (Itet K a) H1
theorem pi_enumT {X : Cx} {e : Expr} {ta : TA} {p pos tpos : Pos} {elts : List Expr} {kk : Nat} (hg : Gl X "enumerate") (hm : X.mg "enumerate" = none) (ha : PA X [e] ta) (hs : starEach [e] X.env = [(false, eval e X.env)] := by rfl) :
    PI X (.Tuple elts kk tpos) (.Call (.Name "enumerate" p) [e] [] pos) (iEnumT X.K ta) := by
  refine ⟨fun pins s σ H R I h => ?_⟩
  refine Call_ (ld_blt I hg hm boot_enumerate (PyProof.Rows.callWith_type1 (thn (ha.run pos pins s σ H _ I h) fun us s1 ⟨vs, H1, I1, r1, q1⟩ => ?_) hs rfl))
  obtain ⟨a, xs, ex, hq, q⟩ := q1
  subst ex
  cases r1 with
  | cons r rr =>
    cases rr
    cases r
    obtain ⟨its, rv, p', hz⟩ := I1.tuple hq
    refine enumT_begins (begins_tuple a its.toArray) (show s1.heap.IsTuple a its.toArray from p') fun h' he hit hsz hk => wpAny_pyIter_enum he ?_
    have I2 : L2.Inv X pins σ H1 { s1 with heap := h' } := I1.kept (t' := s1.toks) hk
    refine ⟨s1.heap.objs.size + 1, [s1.heap.objs.size + 1, s1.heap.objs.size], _, _, H1, rfl, I2, turn_enumT a (s1.heap.objs.size + 1) s1.heap.objs.size, ⟨⟨.none, he⟩, ⟨_, hit, rfl, rfl⟩, Nat.succ_ne_self _⟩, fun b hb => ?_, q⟩
    have e' : b = s1.heap.objs.size + 1 ∨ b = s1.heap.objs.size := by simpa using hb
    have hle : s1.heap.objs.size ≤ b := by
      rcases e' with z | z
      · rw [z]; exact Nat.le_add_right _ _
      · rw [z]; exact Nat.le_refl _
    exact I1.fpOk hle (I1.hok.fresh hle)
theorem walk_enumT {K : PySem.W.Frag} {a : Addr} {xs : List V} : Walk (Itet K a) xs.length (fun H => SqT K H a xs) (YPair (fun i => some (.int (i : Nat))) (fun i => xs[i]?)) := by
  refine ⟨fun i _ hi q => ⟨xs, xs[i], q, by simp [hi]⟩, fun _ q => ⟨xs, q, Nat.le_refl _⟩, fun i H v H' _ q y => ?_⟩
  obtain ⟨T, x, h1, h2, h3, h4⟩ := y
  exact ⟨T, .int (i : Nat), x, h1, h2, h3, rfl, h4 xs q⟩
end Sr

set_option Elab.async false
set_option linter.all false
set_option maxRecDepth 100000
set_option maxHeartbeats 4000000
namespace Sr
open PySem PySem.Spec PyProof.Rows L2 LamX
/-! ### a def that calls what it got within a try, and tells what is told or refused -/
/-- try: return (s1, a()) / except CS as e: return (s2, e.at_) -/
def TTried (CS : Addr) (at_ : Str) (s1 s2 : Str) : (XK → Hp → VK → Prop) → Hp → VK → Prop := fun tl H Q =>
  tl (fun cls d H' => cls = .ref CS ∧ ∃ e v, d = some e ∧ H' e = some (.xd [(at_, v)]) ∧ ∀ p, H' p = none → Q (.ref p) (upd H' p (.tup [.str s2, v]))) H
    (fun v H' => [V.str s1, v].length ≤ sizeLine ∧ ∀ p, H' p = none → Q (.ref p) (upd H' p (.tup [.str s1, v])))
theorem lineN {n : Nat} (h : n ≤ 1000 := by decide) : n ≤ sizeLine := Nat.le_of_lt (sz h)
theorem three_line : (3 : Nat) ≤ sizeLine := by rw [sizeLine_eq]; decide
theorem rd_mono {H H' : Hp} {a : Addr} {o : HO} (e : Same H H') (h : Rd H a o) : Rd H' a o := h.elim (fun h => .inl (e _ _ h)) fun ⟨u, h⟩ => .inr ⟨u, e _ _ h⟩
theorem sql_mono {K : PySem.W.Frag} {H H' : Hp} {a : Addr} {xs : List V} (e : Same H H') (h : SqL K H a xs) : SqL K H' a xs := h.elim (fun h => .inl (rd_mono e h)) .inr
theorem sqt_mono {K : PySem.W.Frag} {H H' : Hp} {a : Addr} {xs : List V} (e : Same H H') (h : SqT K H a xs) : SqT K H' a xs := h.elim (fun h => .inl (rd_mono e h)) .inr
theorem sq_mono {K : PySem.W.Frag} {H H' : Hp} {a : Addr} {xs : List V} (e : Same H H') (h : SqL K H a xs ∨ SqT K H a xs) : SqL K H' a xs ∨ SqT K H' a xs := h.elim (fun h => .inl (sql_mono e h)) fun h => .inr (sqt_mono e h)
/-- a body whose slots are as many as its names -/
theorem pss_len {X : Cx} {sts : List Stmt} {t : TS} {n : Nat} (h : PSs X sts t) (hn : X.N.length = n := by rfl) : PSs X sts (fun D σ H => σ.length = n → t D σ H) :=
  ⟨fun pins s σ H D I q => h.run pins s σ H D I (q (I.len.trans hn))⟩
/-! ### a def called with a lambda -/
theorem pe_lam {X : Cx} (qn : Str) {x a : Str} {st : Stmt} {Ng : List Str} {TT : (XK → Hp → VK → Prop) → Hp → VK → Prop} {k : Nat} {params : Arguments} {body : Expr} {scope : Scope} {t : XK → TE} {c P : Addr} {p lpos pos : Pos} (D : Dfn X.K X.mg x st) (Sg : FnScope Ng [a] (defScope st))
    (hb : ∀ (kV doc pm : Value) (an : Option Addr) (cdv ct : Value) (us : List Value), us.length = [a].length → bindArgs (PySem.W.fnOf x x (defArgs st) (defBody st) (defScope st) .none kV doc pm an cdv ct) ⟨us, []⟩ = pure ([a].zip us))
    (hG : ∀ cdv : Value, GivesTo X Ng x (defScope st) (He.ga X.K x) cdv (defBody st) a (X.env.qual ++ "<lambda>") TT) (TB : TabB X.base X.mg c P) (hcode : X.env.code = .ref c) (hr : Room (k + 2) X.A)
    (hbody : ∀ (A : Around) (outer : List Env) (s : Shared) (H : Hp) (E : XK) (f c' : Addr), Room k (A.deeper (lamEnv X scope s.heap.objs.size f c')) → PE (lamCx X A outer s H E scope f c') body (t E))
    (hg : Gl X x) (L : LamS X.env.scope scope) (hbind : ∀ (q : Str) (cl : List (Str × Addr)) (pm cv ctv : Value), bindArgs (PySem.W.kla_fn "<lambda>" q params body scope cl pm cv ctv) ⟨[], []⟩ = pure [])
    (hqn : X.env.qual = qn := by rfl) (hdef : defaultsOf params X.env = ([], []) := by rfl) (hNg : Ng[0]? = some a := by rfl) (hva : Vis (defScope st) a := by first | exact Or.inl rfl | exact Or.inr (Or.inl rfl))
    (hdb : (x == ("__debug__" : Str)) = false := by decide) (hd : (a == ("__debug__" : Str)) = false := by decide) (hcd : (a == ("__classdict__" : Str)) = false := by decide) :
    PE X (.Call (.Name x p) [.Lambda params body scope lpos] [] pos) (tLam [(P, qn ++ "<lambda>")] TT t) := by
  subst hqn
  obtain ⟨fd, F⟩ := D.fn
  have hB := F.bindsN hb
  obtain ⟨oc, od, dV, kV, doc, pm, an, cdv, ct, osl, rfl, lk, hcg, _, _⟩ := F.ex
  exact pe_lamcall hg D.at_ F.kp lk hcg hB Sg hNg hva (hG cdv) TB hcode List.mem_cons_self (fun p hp _ => by rw [List.mem_singleton.mp hp]) hr L hdef hbind hbody hdb hd hcd
/-- a def of the top, with its code object known -/
theorem fun_ok {P : Program} {w : World} {K : PySem.W.Frag} {mg : Str → Option Value} {base : Heap} {CX : CXT} {x : Str} {st : Stmt} {N ps : List Str} {k : Nat} {sp : Sp} {fd : FuncData} (F : FunD K x x (defArgs st) (defBody st) (defScope st) [] [] (He.ga K x) fd) (S : FnScope N ps (defScope st)) (len : ∀ vs H Q E, sp vs H Q E → vs.length = ps.length)
    (hbody : ∀ (A : Around) (outer : List Env) (s : Shared) (H : Hp) (vs : List V) (Q : VK) (E : XK), Room k (A.deeper (envOfC x (defScope st) s.heap.objs.size (He.ga K x) (.ref (He.codeOf K (x, none))))) → sp vs H Q E →
      ∃ t, PSs (cxOf CX P w K mg base N x (defScope st) (He.ga K x) (.ref (He.codeOf K (x, none))) A outer s H E) (defBody st) t ∧ t { nx := fun _ H' => Q .non H', rt := Q } (L2.start N vs) H) : FnOk P w K mg base CX (k + 1) (He.ga K x) fd ps sp := by
  obtain ⟨oc, od, dV, kV, doc, pm, an, cdv, ct, osl, rfl, lk, hcd, _, _⟩ := F.ex
  obtain ⟨c, rfl⟩ := He.codeIn_ref hcd
  have e : He.codeOf K (x, none) = c := He.codeOf_eq (p := (x, none)) lk rfl
  rw [e] at hbody
  exact fn_of lk hcd S len hbody
end Sr

set_option Elab.async false
set_option linter.all false
set_option maxRecDepth 100000
set_option maxHeartbeats 4000000
namespace Sr
open PySem PySem.Spec PyProof.Rows L2
/-! ### a list or a tuple, whichever it is -/
def SqAny (K : PySem.W.Frag) (H : Hp) (a : Addr) (xs : List V) : Prop := SqL K H a xs ∨ SqT K H a xs
theorem PG.or {X : Cx} {e : Expr} {t u : TG} (h : PG X e t) (k : PG X e u) : PG X e (fun v σ H Q => t v σ H Q ∨ u v σ H Q) :=
  ⟨fun pins s σ H v w Q I r q => q.elim (h.run pins s σ H v w Q I r) (k.run pins s σ H v w Q I r)⟩
def gSeq (K : PySem.W.Frag) (n : Nat) (t : TGs) : TG := fun v σ H Q => ∃ a xs, v = .ref a ∧ SqAny K H a xs ∧ xs.length = n ∧ t xs σ H Q
theorem pg_seq {X : Cx} {pos : Pos} {es : List Expr} {k : Nat} {t : TGs} {n : Nat} (hc : X.calm = true) (h : PGs X es t)
    (hn : (assignEach es X.env).length = n := by rfl) (hst : (assignEach es X.env).findIdx? (·.1) = none := by rfl) : PG X (.Tuple es k pos) (gSeq X.K n t) := by
  refine ⟨fun pins s σ H v u Q I r hw => ?_⟩
  obtain ⟨a, xs, e1, hq, hl, hw⟩ := hw
  rcases hq with hq | hq
  · exact (pg_unl (pos := pos) (k := k) hc h hn hst).run pins s σ H v u Q I r ⟨a, xs, e1, hq, hl, hw⟩
  · exact (pg_tup (pos := pos) (k := k) hc h hn hst).run pins s σ H v u Q I r ⟨a, xs, e1, hq, hl, hw⟩
def SeqIt (K : PySem.W.Frag) (H1 : Hp) (a : Addr) (R : It → Hp → Prop) : Prop := ((∃ xs, SqL K H1 a xs) ∧ R (Itl K a) H1) ∨ ((∃ xs, SqT K H1 a xs) ∧ R (Itt K a) H1)
def SeqItE (K : PySem.W.Frag) (H1 : Hp) (a : Addr) (R : It → Hp → Prop) : Prop := ((∃ xs, SqL K H1 a xs) ∧ R (Ite K a) H1) ∨ ((∃ xs, SqT K H1 a xs) ∧ R (Itet K a) H1)
def iSeq (K : PySem.W.Frag) (tl : TE) : TI := fun σ H R => tl σ H fun x H1 => ∃ a, x = .ref a ∧ SeqIt K H1 a R
/-- an iterator just laid down, at the next place, stands for its walk -/
theorem pie_new {X : Cx} {pins : List (Addr × Obj)} {σ : L2.St} {tg : Expr} {R : It → Hp → Prop} {s : Shared} {H : Hp} {J : It} {tn : Nat → Heap → Prop} {o : Obj} {n : Addr} (I : L2.Inv X pins σ H s) (hn : n = s.heap.objs.size) (T : Turn X.prog X.w X.K tg J [n] n tn)
    (h0 : tn 0 (s.heap.push o)) (q : R J H) : PIE X pins σ tg R (.ref n) { s with heap := s.heap.push o } := by
  have keep : L2.Inv X pins σ H { s with heap := s.heap.push o } := I.kept (t' := s.toks) fun _ _ e => Heap.get?_push_of_some _ e
  have fresh : FpOk X pins H n := I.fpOk (Nat.le_of_eq hn.symm) (I.hok.fresh (Nat.le_of_eq hn.symm))
  exact ⟨n, [n], tn, J, H, rfl, keep, T, h0, fun b hb => (List.mem_singleton.mp hb) ▸ fresh, q⟩
theorem pi_seq {X : Cx} {tg l : Expr} {tl : TE} (hl : PE X l tl) : PI X tg l (iSeq X.K tl) := by
  refine ⟨fun pins s σ H R I h => thn (hl.run pins s σ H _ I h) ?_⟩
  rintro v s1 ⟨_, H1, I1, r1, a, rfl, q | q⟩ <;> cases r1 <;> obtain ⟨⟨xs, hq⟩, q⟩ := q
  · obtain ⟨its, _, p, _⟩ := I1.list hq
    exact wpAny_pyIter_list p.isList (pie_new I1 rfl (turn_list a _) ⟨_, Heap.get?_push_size _ rfl, rfl, rfl⟩ q)
  · obtain ⟨its, _, p, _⟩ := I1.tuple hq
    exact wpAny_pyIter_tuple (items := its.toArray) p (pie_new I1 rfl (turn_tuple a _) ⟨_, Heap.get?_push_size _ rfl, rfl, rfl⟩ q)
def iEnumS (K : PySem.W.Frag) (ta : TA) : TI := fun σ H R => ta σ H fun vs H1 => ∃ a, vs = [.ref a] ∧ SeqItE K H1 a R
/-- the same, of two things laid down, the upper one of which is asked -/
theorem pie_two {X : Cx} {pins : List (Addr × Obj)} {σ : L2.St} {tg : Expr} {R : It → Hp → Prop} {s : Shared} {h' : Heap} {H : Hp} {J : It} {tn : Nat → Heap → Prop} {n : Nat} (I : L2.Inv X pins σ H s) (hn : n = s.heap.objs.size) (hk : ∀ b o, s.heap.get? b = some o → h'.get? b = some o)
    (T : Turn X.prog X.w X.K tg J [n + 1, n] (n + 1) tn) (h0 : tn 0 h') (q : R J H) : PIE X pins σ tg R (.ref (n + 1)) { s with heap := h' } := by
  have fresh : ∀ b, n ≤ b → FpOk X pins H b := fun b hb => I.fpOk (hn ▸ hb) (I.hok.fresh (hn ▸ hb))
  refine ⟨n + 1, [n + 1, n], tn, J, H, rfl, I.kept (t' := s.toks) hk, T, h0, ?_, q⟩
  simp only [List.forall_mem_cons, List.not_mem_nil, false_implies, implies_true, and_true]
  exact ⟨fresh _ (Nat.le_succ _), fresh _ (Nat.le_refl _)⟩
theorem pi_enumS {X : Cx} {e : Expr} {ta : TA} {p pos tpos : Pos} {elts : List Expr} {kk : Nat} (hg : Gl X "enumerate") (hm : X.mg "enumerate" = none) (ha : PA X [e] ta) (hs : starEach [e] X.env = [(false, eval e X.env)] := by rfl) :
    PI X (.Tuple elts kk tpos) (.Call (.Name "enumerate" p) [e] [] pos) (iEnumS X.K ta) := by
  refine ⟨fun pins s σ H R I h => Call_ (ld_blt I hg hm boot_enumerate (PyProof.Rows.callWith_type1 (thn (ha.run pos pins s σ H _ I h) ?_) hs rfl))⟩
  rintro us s1 ⟨_, H1, I1, r1, a, rfl, q⟩
  cases r1 with
  | cons r rr =>
    cases rr
    cases r
    rcases q with ⟨⟨xs, hq⟩, q⟩ | ⟨⟨xs, hq⟩, q⟩
    · obtain ⟨its, _, p', _⟩ := I1.list hq
      exact call_enumerate_list p'.isList fun h' he hit _ hk => wpAny_pyIter_enum he (pie_two I1 rfl hk (turn_enum a _ _) ⟨⟨.none, he⟩, hit, Nat.succ_ne_self _⟩ q)
    · obtain ⟨its, _, p', _⟩ := I1.tuple hq
      exact enumT_begins (begins_tuple a its.toArray) p' fun h' he hit _ hk => wpAny_pyIter_enum he (pie_two I1 rfl hk (turn_enumT a _ _) ⟨⟨.none, he⟩, ⟨_, hit, rfl, rfl⟩, Nat.succ_ne_self _⟩ q)
/-- the object of a list or a tuple -/
def seqO (xs : List V) (o : HO) : Prop := o = .lst xs ∨ o = .tup xs
theorem seqO.any {K : PySem.W.Frag} {H : Hp} {a : Addr} {xs : List V} {o : HO} (h : seqO xs o) (e : H a = some o) : SqAny K H a xs := by
  rcases h with rfl | rfl
  · exact .inl (SqL.of e)
  · exact .inr (SqT.of e)
/-- a walk over it, as one walk -/
theorem seq_walk {K : PySem.W.Frag} {a : Addr} {xs : List V} {o : HO} (h : seqO xs o) : ∃ J, Walk J xs.length (fun H => H a = some o) (YAt xs) ∧
    ∀ (H : Hp) (R : It → Hp → Prop), H a = some o → R J H → SeqIt K H a R := by
  rcases h with rfl | rfl
  · exact ⟨Itl K a, walk_list.mono (fun H e => SqL.of e) fun _ _ _ _ _ _ y => y, fun H R e r => .inl ⟨⟨_, SqL.of e⟩, r⟩⟩
  · exact ⟨Itt K a, walk_tup.mono (fun H e => SqT.of e) fun _ _ _ _ _ _ y => y, fun H R e r => .inr ⟨⟨_, SqT.of e⟩, r⟩⟩
theorem seq_walkE {K : PySem.W.Frag} {a : Addr} {xs : List V} {o : HO} (h : seqO xs o) : ∃ J, Walk J xs.length (fun H => H a = some o) (YPair (fun i => some (.int (i : Nat))) (fun i => xs[i]?)) ∧
    ∀ (H : Hp) (R : It → Hp → Prop), H a = some o → R J H → SeqItE K H a R := by
  rcases h with rfl | rfl
  · exact ⟨Ite K a, walk_enum.mono (fun H e => SqL.of e) fun _ _ _ _ _ _ y => y, fun H R e r => .inl ⟨⟨_, SqL.of e⟩, r⟩⟩
  · exact ⟨Itet K a, walk_enumT.mono (fun H e => SqT.of e) fun _ _ _ _ _ _ y => y, fun H R e r => .inr ⟨⟨_, SqT.of e⟩, r⟩⟩
/-- what stands for a list or a tuple -/
def seqOfD : Dt → Option (List Dt)
  | .lst l => some l
  | .tup l => some l
  | _ => none
theorem Is.seq {H : Hp} {v : V} {d : Dt} {l : List Dt} (h : Is H v d) (e : seqOfD d = some l) : ∃ a xs o, v = .ref a ∧ H a = some o ∧ seqO xs o ∧ IsA H xs l ∧ xs.length ≤ 60 := by
  cases h with
  | lst h r z => cases e; exact ⟨_, _, _, rfl, h, .inl rfl, r, z⟩
  | tup h r z => cases e; exact ⟨_, _, _, rfl, h, .inr rfl, r, z⟩
  | _ => cases e
end Sr

set_option Elab.async false
set_option linter.all false
set_option maxRecDepth 100000
set_option maxHeartbeats 4000000
namespace Sr
open PySem PySem.Spec PyProof.Rows L2
/-! ### data as plain data, for == -/
mutual
def toP : Dt → PyData
  | .non => .none
  | .bl b => .bool b
  | .int i => .int i
  | .str s => .str s
  | .lst l => .list (toPs l)
  | .tup l => .tuple (toPs l)
  | .dic => .none
def toPs : List Dt → List PyData
  | [] => []
  | d :: r => toP d :: toPs r
end
mutual
/-- without dicts -/
def plainD : Dt → Bool
  | .lst l => plainDs l
  | .tup l => plainDs l
  | .dic => false
  | _ => true
def plainDs : List Dt → Bool
  | [] => true
  | d :: r => plainD d && plainDs r
end
theorem toPs_map : ∀ l : List Dt, toPs l = l.map toP
  | [] => rfl
  | d :: r => by
    show toP d :: toPs r = toP d :: r.map toP
    rw [toPs_map r]
theorem plainDs_all : ∀ {l : List Dt}, (∀ d ∈ l, plainD d = true) → plainDs l = true
  | [], _ => rfl
  | d :: r, h => by
    unfold plainDs
    rw [h d List.mem_cons_self, plainDs_all fun x m => h x (List.mem_cons_of_mem _ m)]
    rfl
mutual
theorem dp_of {K : PySem.W.Frag} {H : Hp} : ∀ {v : V} {d : Dt}, Is H v d → plainD d = true → Dp K H v (toP d)
  | _, _, .non, _ => .non
  | _, _, .bl b, _ => .bl b
  | _, _, .int i, _ => .int i
  | _, _, .str s h, _ => .str s
  | _, _, .lst h r z, p => .lst (SqL.of h) (dp_ofs r p)
  | _, _, .tup h r z, p => .tup (SqT.of h) (dp_ofs r p)
  | _, _, .dic h, p => by cases p
theorem dp_ofs {K : PySem.W.Frag} {H : Hp} : ∀ {vs : List V} {ds : List Dt}, IsA H vs ds → plainDs ds = true → DpAll K H vs (toPs ds)
  | _, _, .nil, _ => .nil
  | _, _, .cons h r, p => .cons (dp_of h (Bool.and_eq_true_iff.mp p).1) (dp_ofs r (Bool.and_eq_true_iff.mp p).2)
end
/-- a last thing that is otherwise -/
theorem eqvAll_last {x y : PyData} (h : PyData.eqv x y = false) : ∀ l : List PyData, PyData.eqvAll (l ++ [x]) (l ++ [y]) = false
  | [] => by
    show (PyData.eqv x y && true) = false
    rw [h]
    rfl
  | d :: r => by
    show (PyData.eqv d d && PyData.eqvAll (r ++ [x]) (r ++ [y])) = false
    rw [eqvAll_last h r, Bool.and_false]
theorem eqvAll_more {x : PyData} : ∀ l : List PyData, PyData.eqvAll (l ++ [x]) l = false
  | [] => rfl
  | d :: r => by
    show (PyData.eqv d d && PyData.eqvAll (r ++ [x]) r) = false
    rw [eqvAll_more r, Bool.and_false]
/-- data that may be compared, n deep -/
structure Lay (n : Nat) (d : Dt) : Prop where
  pl : plainD d = true
  cl : PyData.canLay0 (toP d) = true
  dp : PyData.depth (toP d) ≤ n
theorem lays {n : Nat} : ∀ {l : List Dt}, (∀ d ∈ l, Lay n d) → plainDs l = true ∧ PyData.canLayAll0 (toPs l) = true ∧ PyData.depthAll (toPs l) ≤ n
  | [], _ => ⟨rfl, rfl, Nat.zero_le _⟩
  | d :: r, h => by
    have h1 := h d List.mem_cons_self
    obtain ⟨a, b, c⟩ := lays fun x m => h x (List.mem_cons_of_mem _ m)
    refine ⟨?_, ?_, ?_⟩
    · show (plainD d && plainDs r) = true
      rw [h1.pl, a]
      rfl
    · show (PyData.canLay0 (toP d) && PyData.canLayAll0 (toPs r)) = true
      rw [h1.cl, b]
      rfl
    · show max (PyData.depth (toP d)) (PyData.depthAll (toPs r)) ≤ n
      have := h1.dp
      omega
theorem Lay.tup {n : Nat} {l : List Dt} (h : ∀ d ∈ l, Lay n d) : Lay (n + 1) (.tup l) := by
  obtain ⟨a, b, c⟩ := lays h
  exact ⟨a, b, Nat.succ_le_succ c⟩
theorem Lay.lst {n : Nat} {l : List Dt} (h : ∀ d ∈ l, Lay n d) : Lay (n + 1) (.lst l) := by
  obtain ⟨a, b, c⟩ := lays h
  exact ⟨a, b, Nat.succ_le_succ c⟩
theorem Lay.int {n : Nat} {i : Int} : Lay n (.int i) := ⟨rfl, rfl, Nat.zero_le _⟩
theorem Lay.str {n : Nat} {s : Str} (h : PyData.canLay0 (.str s) = true) : Lay n (.str s) := ⟨rfl, h, Nat.zero_le _⟩
theorem lay_shaped {n : Nat} {l : List Dt} (h : ∀ d ∈ l, Lay n d) (hn : n + 1 ≤ 64) : plainDs l = true ∧ SeqAt.shaped (.list (toPs l)) = true := by
  obtain ⟨a, b, c⟩ := lays h
  refine ⟨a, ?_⟩
  show (PyData.canLayAll0 (toPs l) && decide (PyData.depthAll (toPs l) + 1 ≤ 64)) = true
  rw [b, decide_eq_true (by omega)]
  rfl
end Sr

set_option Elab.async false
set_option linter.all false
set_option maxRecDepth 100000
set_option maxHeartbeats 4000000
namespace Sr
open PySem PySem.Spec PyProof.Rows L2
/-! ### x in a tuple, by what they stand for; two rules for one operation -/
def rInDT (K : PySem.W.Frag) : R2 := fun x y H Q => ∃ d ds, Dp K H x d ∧ Dp K H y (.tuple ds) ∧ SeqAt.shaped d = true ∧ PyData.canLayAll0 ds = true ∧ Q (.bl (ds.any fun z => PyData.eqv z d)) H
theorem op_inDT {X : Cx} (hu : X.A.units + 65 < cLine) : OpR X (compareOp .In) (rInDT X.K) := by
  intro pins s σ H x y v u Q I rx ry h
  obtain ⟨d, ds, hd, he, sd, se, q⟩ := h
  obtain ⟨as, r1⟩ := Dp.reads I d x v hd rx
  obtain ⟨bs, r2⟩ := Dp.reads I (.tuple ds) y u he ry
  exact SeqAt.in_tuple_reads r2 r1 se (SeqAt.canLay_of_shaped sd) (room_in_shaped sd hu) ⟨.bl _, H, I, rfl, q⟩
theorem op_or {X : Cx} {op : Value → Value → Sem Value} {r r' : R2} (h : OpR X op r) (h' : OpR X op r') : OpR X op (fun x y H Q => r x y H Q ∨ r' x y H Q) := by
  intro pins s σ H x y v u Q I rx ry z
  rcases z with z | z
  · exact h pins s σ H x y v u Q I rx ry z
  · exact h' pins s σ H x y v u Q I rx ry z
theorem u65 {k : Nat} {A : Around} (r : Room k A) : A.units + 65 < cLine := by have := r.un; omega
end Sr

set_option Elab.async false
set_option linter.all false
set_option maxRecDepth 100000
set_option maxHeartbeats 4000000
namespace K38
open PySem PySem.Spec PyProof.Rows L2 Sr
def top (i : Nat) : Stmt := PySem.Challenge.pw_seatroads_k38_debts_told_and_refused.main.body.getD i (.Pass ⟨0, 0, 0, 0⟩)
def signs : Str := "abcdefghijklmnopqrstuvwxyz0123456789"
/-- what the top leaves besides defs -/
structure Txt (K : PySem.W.Frag) (mg : Str → Option Value) : Prop where
  len : mg "len" = none
  isinstance : mg "isinstance" = none
  all : mg "all" = none
  range : mg "range" = none
  sorted : mg "sorted" = none
  list : mg "list" = none
  tuple : mg "tuple" = none
  min : mg "min" = none
  int : mg "int" = none
  str : mg "str" = none
  bool : mg "bool" = none
  dict : mg "dict" = none
  zip : mg "zip" = none
  enumerate : mg "enumerate" = none
  gSigns : ∃ t, mg "SIGNS" = some (.str signs t)
  gLongest : ∃ t, mg "LONGEST" = some (.int 8 t)
  max : mg "max" = none
  sum : mg "sum" = none
  set : mg "set" = none
  any : mg "any" = none
  abs : mg "abs" = none
theorem Txt.e_SIGNS {X : Cx} {p : Pos} (T : Txt X.K X.mg) (h : Gl X "SIGNS" := by rfl) : PE X (.Name "SIGNS" p) (tC (.str signs)) := by
  obtain ⟨t, e⟩ := T.gSigns
  exact pe_glob h e ⟨t, rfl⟩
theorem Txt.e_LONGEST {X : Cx} {p : Pos} (T : Txt X.K X.mg) (h : Gl X "LONGEST" := by rfl) : PE X (.Name "LONGEST" p) (tC (.int 8)) := by
  obtain ⟨t, e⟩ := T.gLongest
  exact pe_glob h e ⟨t, rfl⟩
/-! ### what the defs tell -/
def nameOk : Dt → Bool
  | .str s => (decide (1 ≤ s.length) && decide (s.length ≤ 8)) && s.cps.toList.all fun c => decide (c ∈ signs.cps.toList)
  | _ => false
/-- of one datum: told a Bool, what stood stays -/
def spB (f : Dt → Bool) : Sp := fun vs H Q _ => ∃ v d, vs = [v] ∧ Is H v d ∧ ∀ H', Same H H' → Q (.bl (f d)) H'
theorem spB_len {f : Dt → Bool} (vs : List V) (H : Hp) (Q : VK) (E : XK) (h : spB f vs H Q E) : vs.length = 1 := by
  obtain ⟨v, d, rfl, _⟩ := h
  rfl
abbrev one {α : Type} {l : List α} (h : l.length = 1) : ∃ x, l = [x] := List.length_eq_one_iff.mp h
section
variable {P : Program} {w : World} {K : PySem.W.Frag} {mg : Str → Option Value} {base : Heap}
abbrev s_is_list : Stmt := top 4
theorem sc_is_list : FnScope ["thing"] ["thing"] (defScope s_is_list) := ⟨rfl, rfl, rfl, by decide +kernel, rfl, by decide +kernel, by decide +kernel⟩
theorem c_is_list (T : Txt K mg) (D : Dfn K mg "is_list" s_is_list) : Cal P w K mg base 1 "is_list" ["thing"] (spB isSeq) := by
  refine D.cal sc_is_list (fun _ _ _ _ _ _ us hl => match us, hl with | [_], _ => rfl) spB_len fun cdv A outer s H vs Q E hr h => ?_
  obtain ⟨v, d, rfl, hv, q⟩ := h
  refine ⟨_, (pss_one (ps_ret (pe_callB (id := "isinstance") call_isiT (by rfl) T.isinstance (by decide +kernel) (pa_cons (pv 0) (pa_cons (pe_tup (pa_cons (pe_tyv (n := "list") (by rfl) T.list (by decide +kernel)) (pa_cons (pe_tyv (n := "tuple") (by rfl) T.tuple (by decide +kernel)) pa_nil))) pa_nil))))), ?_⟩
  refine ⟨_, rfl, two_line, fun p hp => ⟨v, p, [.ty "list", .ty "tuple"], .type (tyN d), [.type "list", .type "tuple"], _, rfl, upd_same, cls_two _ _, (hv.mono (Same.up hp)).ty, kit_seq K d, q _ (Same.up hp)⟩⟩
abbrev s_is_integer : Stmt := top 3
theorem sc_is_integer : FnScope ["thing"] ["thing"] (defScope s_is_integer) := ⟨rfl, rfl, rfl, by decide +kernel, rfl, by decide +kernel, by decide +kernel⟩
def isInteger (d : Dt) : Bool := isInt d && !isBl d
theorem c_is_integer (T : Txt K mg) (D : Dfn K mg "is_integer" s_is_integer) : Cal P w K mg base 1 "is_integer" ["thing"] (spB isInteger) := by
  refine D.cal sc_is_integer (fun _ _ _ _ _ _ us hl => match us, hl with | [_], _ => rfl) spB_len fun cdv A outer s H vs Q E hr h => ?_
  obtain ⟨v, d, rfl, hv, q⟩ := h
  refine ⟨_, (pss_one (ps_ret (pe_and (pe_callB (id := "isinstance") call_isi (by rfl) T.isinstance (by decide +kernel) (pa_cons (pv 0) (pa_cons (pe_tyv (n := "int") (by rfl) T.int (by decide +kernel)) pa_nil))) (pe_one (pe_not (pe_callB (id := "isinstance") call_isi (by rfl) T.isinstance (by decide +kernel) (pa_cons (pv 0) (pa_cons (pe_tyv (n := "bool") (by rfl) T.bool (by decide +kernel)) pa_nil)))))))), ?_⟩
  refine ⟨_, rfl, v, _, _, _, _, rfl, .ty _, hv.ty, kit_int K d, _, rfl, ?_⟩
  have e : isInteger d = if isInt d = true then !isBl d else false := by
    unfold isInteger
    cases isInt d <;> rfl
  cases c : isInt d with
  | true =>
    rw [c, if_pos rfl] at e
    exact iteT ⟨_, rfl, v, _, _, _, _, rfl, .ty _, hv.ty, kit_bool K d, _, rfl, by rw [← e]; exact q _ (Same.refl H)⟩
  | false =>
    rw [c] at e
    exact iteF (by rw [show (false : Bool) = isInteger d from e.symm]; exact q _ (Same.refl H))
abbrev s_is_name : Stmt := top 5
theorem sc_is_name : FnScope ["thing", "sign"] ["thing"] (defScope s_is_name) := ⟨rfl, rfl, rfl, by decide +kernel, rfl, by decide +kernel, by decide +kernel⟩
theorem c_is_name (T : Txt K mg) (D : Dfn K mg "is_name" s_is_name) : Cal P w K mg base 1 "is_name" ["thing"] (spB nameOk) := by
  refine D.cal sc_is_name (fun _ _ _ _ _ _ us hl => match us, hl with | [_], _ => rfl) spB_len fun cdv A outer s H vs Q E hr h => ?_
  obtain ⟨v, d, rfl, hv, q⟩ := h
  refine ⟨_, (pss_cons (ps_if (PW.pt (pw_or (pt_not (pt_val (pe_callB (id := "isinstance") call_isi (by rfl) T.isinstance (by decide +kernel) (pa_cons (pv 0) (pa_cons (pe_tyv (n := "str") (by rfl) T.str (by decide +kernel)) pa_nil))))) (pw_or1 (pt_not (pt_chain op_le op_le pe_int (pe_callB (id := "len") call_len_str (by rfl) T.len (by decide +kernel) (pa_cons (pv 0) pa_nil)) (T.e_LONGEST (by rfl))))))) (pss_one (ps_ret pe_bl)) pss_nil)
      (pss_one (ps_ret (pe_callB (id := "all") (cr_all rfl) (by rfl) T.all (by decide +kernel) (pa_cons (pe_lc (own := [("sign", 1)]) (g := gName 1) (tt := tYes) rfl sc_is_name.nd (pi_str (pv 0)) (blkOk_by (N := ["thing", "sign"]) (sc := defScope s_is_name) (by decide +kernel)) (fun _ _ _ _ _ => (pg_name (i := 1) sc_is_name.nd rfl (by first | exact Or.inl rfl | exact Or.inr rfl))) (fun _ _ _ _ _ => pts_nil) (fun _ _ _ _ _ => (pe_cmpR op_in_sign (pv 1) (T.e_SIGNS (by rfl)) (by rfl)))) pa_nil))))), ?_⟩
  refine ⟨_, rfl, v, _, _, _, _, rfl, .ty _, hv.ty, kit_str K d, _, rfl, ?_⟩
  cases hv with
  | str z hz =>
    refine iteF ?_
    refine ⟨_, rfl, z, rfl, Nat.le_of_lt (sz hz), _, _, rfl, rfl, _, rfl, ?_⟩
    have hS : z.cps.toList.length = z.cps.size := Array.length_toList
    have key : ∀ b : Bool, nameOk (.str z) = b → ∀ H', Same H H' → Q (.bl b) H' := fun b e => e ▸ q
    by_cases h1 : (1 : Int) ≤ (z.length : Int)
    · rw [decide_eq_true h1]
      refine iteT ⟨_, _, rfl, rfl, _, rfl, ?_⟩
      by_cases h2 : (z.length : Int) ≤ 8
      · rw [decide_eq_true h2]
        refine iteF ?_
        refine ⟨_, rfl, z, rfl, fun D hD => lc_pure walk_str (At := fun i x => ∃ c, z.cps[i]? = some c ∧ x = .str ⟨#[c]⟩) (fun _ _ _ _ y => y) ((z.cps.toList.map fun c => decide (c ∈ signs.cps.toList)).map V.bl)
          (by rw [List.length_map, List.length_map, hS]) (sz (m := 1000) hz) hD (fun _ _ => trivial) (fun i x y H1 Q hi hx hy s1 k => ?_) (fun H' s' h' => all_of h' ?_)⟩
        · obtain ⟨c, hc, rfl⟩ := hx
          refine ⟨_, rfl, c, signs, rfl, rfl, ?_⟩
          rw [List.getElem?_map, List.getElem?_map, Array.getElem?_toList, hc] at hy
          obtain rfl : V.bl (decide (c ∈ signs.cps.toList)) = y := Option.some.inj hy
          exact k _ (Same.refl _)
        · refine key _ ?_ H' s'
          show ((decide (1 ≤ z.length) && decide (z.length ≤ 8)) && _) = _
          rw [decide_eq_true (by omega), decide_eq_true (by omega), List.all_map]
          rfl
      · rw [decide_eq_false h2]
        refine iteT (key _ ?_ _ (Same.refl H))
        show ((decide (1 ≤ z.length) && decide (z.length ≤ 8)) && _) = _
        rw [decide_eq_false (show ¬ z.length ≤ 8 by omega), Bool.and_false, Bool.false_and]
    · rw [decide_eq_false h1]
      refine iteF ⟨_, rfl, iteT (key _ ?_ _ (Same.refl H))⟩
      show ((decide (1 ≤ z.length) && decide (z.length ≤ 8)) && _) = _
      rw [decide_eq_false (show ¬ 1 ≤ z.length by omega), Bool.false_and, Bool.false_and]
  | _ => exact iteT (q _ (Same.refl H))
end
end K38

set_option Elab.async false
set_option linter.all false
set_option maxRecDepth 100000
set_option maxHeartbeats 4000000
namespace Sr
open PySem PySem.Spec PyProof.Rows L2
theorem Paired.snoc {α β : Type} {F : α → β → Prop} {a : α} {b : β} (h : F a b) : ∀ {l : List α} {m : List β}, Paired F l m → Paired F (l ++ [a]) (m ++ [b])
  | _, _, .nil => .cons h .nil
  | _, _, .cons h1 t => .cons h1 (Paired.snoc h t)
theorem Paired.imp' {α β : Type} {F G : α → β → Prop} (f : ∀ a b, F a b → G a b) : ∀ {l : List α} {m : List β}, Paired F l m → Paired G l m
  | _, _, .nil => .nil
  | _, _, .cons h t => .cons (f _ _ h) (Paired.imp' f t)
/-- a comprehension over items, some of which are kept, each kept one a new thing; nothing that stood is changed -/
theorem lc_genD {α : Type} {J : It} {n : Nat} {G : Hp → Prop} {Y : Nat → Hp → V → Hp → Prop} {At : Nat → Hp → V → Prop} (w : Walk J n G Y) (hy : ∀ i H x H', Y i H x H' → H' = H ∧ At i H x) {g : TG} {tt : TT} {te : TE} {vs : List Nat} {σ : L2.St} {H : Hp} {D : Addr} {Qd : Hp → Prop}
    (items : List α) (keep : α → Bool) (hn : items.length = n) (hz : n < sizeLine) (hD : H D = none) (hG : ∀ H', Same H H' → G H') (Rel : Hp → α → V → Prop) (mono : ∀ H1 H2 a y, Same H1 H2 → Rel H1 a y → Rel H2 a y) (lay : ∀ H1 a y c c', H1 D = some (.lst c) → Rel H1 a y → Rel (upd H1 D (.lst c')) a y)
    (turn : ∀ (i : Nat) (x : V) (a : α) (H1 : Hp) (A : V → Hp → Prop) (B : Hp → Prop), i < n → At i H1 x → items[i]? = some a → H1 D ≠ none → Same H H1 → (keep a = true → ∀ y H2, Same H1 H2 → Rel H2 a y → A y H2) → (keep a = false → ∀ H2, Same H1 H2 → B H2) →
      g x (wipe σ vs) H1 fun σ2 H2 => wipe σ2 vs = wipe σ vs ∧ tt σ2 H2 fun b H3 => if b = true then te σ2 H3 A else B H3)
    (fin : ∀ H' acc, Same H H' → H' D = some (.lst acc) → Paired (fun y a => Rel H' a y) acc (items.filter keep) → Qd H') :
    ∃ W : Nat → Nat → Hp → Prop, (∃ m, W 0 m (upd H D (.lst []))) ∧ ∀ i m H, W i m H →
      (J.stop i H ∧ Qd H) ∨ (J.go i H ∧ ∃ Nx : Hp → Prop, (∀ H', Nx H' → ∃ m', m' < m ∧ W (i + 1) m' H') ∧ ∀ x H', J.yld i H x H' → g x (wipe σ vs) H' fun σ2 H2 => wipe σ2 vs = wipe σ vs ∧ tt σ2 H2 fun b H3 =>
        if b = true then te σ2 H3 fun y H4 => ∃ acc, H4 D = some (.lst acc) ∧ acc.length < sizeLine ∧ Nx (upd H4 D (.lst (acc ++ [y]))) else Nx H3) := by
  have below : ∀ {H1 H2 : Hp} {o : HO}, Same H H1 → Same H1 H2 → Same H (upd H2 D o) := fun {H1 H2 o} a b c u e => by
    rw [upd_ne (ne_of_none e hD)]
    exact b _ _ (a _ _ e)
  refine lc_it w (fun i H' => Same H H' ∧ ∃ acc, H' D = some (.lst acc) ∧ Paired (fun y a => Rel H' a y) acc ((items.take i).filter keep)) ⟨Same.up hD, [], upd_same, by simp; exact .nil⟩ (fun i H' _ p => hG H' p.1) (fun i x H1 H2 hi p y => ?_) fun H' p => ?_
  · obtain ⟨rfl, hx⟩ := hy _ _ _ _ y
    obtain ⟨s1, acc, hd, pr⟩ := p
    have hi' : i < items.length := by omega
    have tk : items.take (i + 1) = items.take i ++ [items[i]] := by rw [List.take_add_one, List.getElem?_eq_getElem hi']; rfl
    have hl : acc.length < sizeLine := by
      have h1 := Paired.length pr
      have h2 := List.length_filter_le keep (items.take i)
      rw [List.length_take] at h2
      omega
    refine turn i x items[i] H2 _ _ hi hx (List.getElem?_eq_getElem hi') (by rw [hd]; simp) s1 (fun hk y H3 s3 r => ?_) fun hk H3 s3 => ?_
    · refine ⟨acc, s3 _ _ hd, hl, below s1 s3, _, upd_same, ?_⟩
      rw [tk, List.filter_append, List.filter_cons, if_pos hk]
      have r1 : Rel (upd H3 D (.lst (acc ++ [y]))) items[i] y := lay _ _ _ _ _ (s3 _ _ hd) r
      have pr1 : Paired (fun z a => Rel (upd H3 D (.lst (acc ++ [y]))) a z) acc ((items.take i).filter keep) := Paired.imp' (fun y a h => lay _ a y _ _ (s3 _ _ hd) (mono _ _ a y s3 h)) pr
      exact Paired.snoc (F := fun z a => Rel (upd H3 D (.lst (acc ++ [y]))) a z) r1 pr1
    · refine ⟨s1.trans s3, acc, s3 _ _ hd, ?_⟩
      rw [tk, List.filter_append, List.filter_cons, if_neg (by rw [hk]; simp)]
      simp only [List.filter_nil, List.append_nil]
      exact Paired.imp' (fun y a h => mono _ _ _ _ s3 h) pr
  · obtain ⟨s1, acc, hd, pr⟩ := p
    rw [← hn, List.take_length] at pr
    exact fin H' acc s1 hd pr
/-- a comprehension over items, some of which are kept, each kept one a new thing; nothing that stood is changed -/
theorem lc_gen {α : Type} {J : It} {n : Nat} {G : Hp → Prop} {Y : Nat → Hp → V → Hp → Prop} {At : Nat → Hp → V → Prop} (w : Walk J n G Y) (hy : ∀ i H x H', Y i H x H' → H' = H ∧ At i H x) {g : TG} {tt : TT} {te : TE} {vs : List Nat} {σ : L2.St} {H : Hp} {D : Addr} {Qd : Hp → Prop}
    (items : List α) (keep : α → Bool) (hn : items.length = n) (hz : n < sizeLine) (hD : H D = none) (hG : ∀ H', Same H H' → G H') (Rel : Hp → α → V → Prop) (mono : ∀ H1 H2 a y, Same H1 H2 → Rel H1 a y → Rel H2 a y) (lay : ∀ H1 a y c c', H1 D = some (.lst c) → Rel H1 a y → Rel (upd H1 D (.lst c')) a y)
    (turn : ∀ (i : Nat) (x : V) (a : α) (H1 : Hp) (A : V → Hp → Prop) (B : Hp → Prop), i < n → At i H1 x → items[i]? = some a → Same H H1 → (keep a = true → ∀ y H2, Same H1 H2 → Rel H2 a y → A y H2) → (keep a = false → ∀ H2, Same H1 H2 → B H2) →
      g x (wipe σ vs) H1 fun σ2 H2 => wipe σ2 vs = wipe σ vs ∧ tt σ2 H2 fun b H3 => if b = true then te σ2 H3 A else B H3)
    (fin : ∀ H' acc, Same H H' → H' D = some (.lst acc) → Paired (fun y a => Rel H' a y) acc (items.filter keep) → Qd H') :
    ∃ W : Nat → Nat → Hp → Prop, (∃ m, W 0 m (upd H D (.lst []))) ∧ ∀ i m H, W i m H →
      (J.stop i H ∧ Qd H) ∨ (J.go i H ∧ ∃ Nx : Hp → Prop, (∀ H', Nx H' → ∃ m', m' < m ∧ W (i + 1) m' H') ∧ ∀ x H', J.yld i H x H' → g x (wipe σ vs) H' fun σ2 H2 => wipe σ2 vs = wipe σ vs ∧ tt σ2 H2 fun b H3 =>
        if b = true then te σ2 H3 fun y H4 => ∃ acc, H4 D = some (.lst acc) ∧ acc.length < sizeLine ∧ Nx (upd H4 D (.lst (acc ++ [y]))) else Nx H3) :=
  lc_genD w hy items keep hn hz hD hG Rel mono lay (fun i x a H1 A B hi hx ha _ s1 => turn i x a H1 A B hi hx ha s1) fin
end Sr

set_option Elab.async false
set_option linter.all false
set_option maxRecDepth 100000
set_option maxHeartbeats 4000000
namespace Sr
open PySem PySem.Spec PyProof.Rows L2
/-! ### dicts of sums -/
def intOf : Option V → Int
  | some (.int i) => i
  | _ => 0
section
variable {κ : Type} [DecidableEq κ]
def bump (kvs : List (κ × V)) (k : κ) (n : Int) : List (κ × V) := putK kvs k (.int (intOf (valV kvs k) + n))
structure Ints (P : κ → Prop) (kvs : List (κ × V)) : Prop where
  ent : ∀ e ∈ kvs, P e.1 ∧ ∃ n, e.2 = .int n
  nd : (kvs.map (·.1)).Nodup
theorem Ints.nil {P : κ → Prop} : Ints P ([] : List (κ × V)) := ⟨fun _ m => absurd m (by simp), List.nodup_nil⟩
theorem Ints.bump {P : κ → Prop} {kvs : List (κ × V)} {k : κ} {n : Int} (h : Ints P kvs) (hk : P k) : Ints P (Sr.bump kvs k n) := by
  unfold Sr.bump putK
  split
  · refine ⟨fun e m => ?_, ?_⟩
    · obtain ⟨e0, m0, rfl⟩ := List.mem_map.mp m
      split
      · exact ⟨(h.ent _ m0).1, _, rfl⟩
      · exact h.ent _ m0
    · rw [List.map_map]
      have e : (kvs.map ((fun x : κ × V => x.1) ∘ fun kv => if kv.1 = k then (kv.1, V.int (intOf (valV kvs k) + n)) else kv)) = kvs.map (·.1) := by
        refine List.map_congr_left fun kv _ => ?_
        show (if kv.1 = k then (kv.1, V.int (intOf (valV kvs k) + n)) else kv).1 = kv.1
        split <;> rfl
      rw [e]
      exact h.nd
  · rename_i no
    refine ⟨fun e m => ?_, ?_⟩
    · rcases List.mem_append.mp m with m | m
      · exact h.ent _ m
      · rw [List.mem_singleton.mp m]
        exact ⟨hk, _, rfl⟩
    · rw [List.map_append]
      refine List.nodup_append.mpr ⟨h.nd, by simp, fun a ha b hb e => no ?_⟩
      have hb' : b = k := by simpa using hb
      obtain ⟨kv, m, e2⟩ := List.mem_map.mp ha
      exact List.any_eq_true.mpr ⟨kv, m, decide_eq_true (e2.trans (e.trans hb'))⟩
theorem bump_len {kvs : List (κ × V)} {k : κ} {n : Int} : (Sr.bump kvs k n).length ≤ kvs.length + 1 := length_putK _ _ _
theorem val_of {kvs : List (κ × V)} : (kvs.map (·.1)).Nodup → ∀ {e : κ × V}, e ∈ kvs → valV kvs e.1 = some e.2 := by
  induction kvs with
  | nil => intro _ e m; cases m
  | cons p r ih =>
    intro nd e m
    rw [List.map_cons] at nd
    obtain ⟨n1, n2⟩ := List.nodup_cons.mp nd
    rcases List.mem_cons.mp m with rfl | m
    · exact valV_pos rfl
    · rw [valV_neg (fun z => n1 (by rw [z]; exact List.mem_map.mpr ⟨e, m, rfl⟩))]
      exact ih n2 m
theorem val_mem {kvs : List (κ × V)} {k : κ} {v : V} (h : valV kvs k = some v) : (k, v) ∈ kvs := by
  unfold valV at h
  obtain ⟨e, h1, h2⟩ := Option.map_eq_some_iff.mp h
  have h3 := List.find?_some h1
  have h4 : e.1 = k := of_decide_eq_true h3
  have m := List.mem_of_find?_eq_some h1
  rw [← h4, ← h2]
  exact m
/-- d.get(k, 0) -/
theorem Ints.get {P : κ → Prop} {kvs : List (κ × V)} (h : Ints P kvs) (k : κ) : (valV kvs k).getD (.int 0) = .int (intOf (valV kvs k)) := by
  cases e : valV kvs k with
  | none => rfl
  | some v =>
    obtain ⟨_, n, en⟩ := h.ent _ (val_mem e)
    have en : v = .int n := en
    subst en
    rfl
theorem Ints.at_ {P : κ → Prop} {kvs : List (κ × V)} (h : Ints P kvs) {k : κ} (m : k ∈ kvs.map (·.1)) : valV kvs k = some (.int (intOf (valV kvs k))) := by
  obtain ⟨e, m2, rfl⟩ := List.mem_map.mp m
  obtain ⟨_, n, en⟩ := h.ent _ m2
  rw [val_of h.nd m2, en]
  rfl
/-- sums of rows, each at its key -/
def sums {α : Type} (key : α → κ) (am : α → Int) (rows : List α) : List (κ × V) := rows.foldl (fun kvs r => bump kvs (key r) (am r)) []
theorem sums_snoc {α : Type} (key : α → κ) (am : α → Int) (rows : List α) (r : α) : sums key am (rows ++ [r]) = bump (sums key am rows) (key r) (am r) := by
  unfold sums
  rw [List.foldl_append]
  rfl
theorem sums_len {α : Type} (key : α → κ) (am : α → Int) : ∀ (rows : List α) (kvs : List (κ × V)), (rows.foldl (fun kvs r => bump kvs (key r) (am r)) kvs).length ≤ kvs.length + rows.length
  | [], _ => Nat.le_refl _
  | r :: t, kvs => by
    have h1 := sums_len key am t (bump kvs (key r) (am r))
    have h2 := bump_len (kvs := kvs) (k := key r) (n := am r)
    simp only [List.foldl_cons, List.length_cons]
    omega
theorem sums_ints {α : Type} {P : κ → Prop} (key : α → κ) (am : α → Int) : ∀ (rows : List α) (kvs : List (κ × V)), Ints P kvs → (∀ r ∈ rows, P (key r)) → Ints P (rows.foldl (fun kvs r => bump kvs (key r) (am r)) kvs)
  | [], _, h, _ => h
  | r :: t, kvs, h, hp => sums_ints key am t _ (h.bump (hp r List.mem_cons_self)) fun x m => hp x (List.mem_cons_of_mem _ m)
end
/-! ### what is told of sums with pairs of texts for keys -/
def small (p : Str × Str) : Prop := p.1.length ≤ 1000 ∧ p.2.length ≤ 1000
def isPk (k : List Key) : Prop := ∃ p, k = pk p ∧ small p
def unpk : List Key → Str × Str
  | [.inr a, .inr b] => (a, b)
  | _ => ("", "")
theorem unpk_pk (p : Str × Str) : unpk (pk p) = p := rfl
theorem pk_inj {p q : Str × Str} (h : pk p = pk q) : p = q := by rw [← unpk_pk p, ← unpk_pk q, h]
def keysOf (kvs : List (List Key × V)) : List (Str × Str) := kvs.map fun e => unpk e.1
theorem keysOf_eq {kvs : List (List Key × V)} (h : Ints isPk kvs) : kvs.map (·.1) = (keysOf kvs).map pk := by
  unfold keysOf
  rw [List.map_map]
  refine List.map_congr_left fun e m => ?_
  obtain ⟨⟨p, e1, _⟩, _⟩ := h.ent e m
  show e.1 = pk (unpk e.1)
  rw [e1, unpk_pk]
theorem keysOf_small {kvs : List (List Key × V)} (h : Ints isPk kvs) : ∀ p ∈ keysOf kvs, small p := fun p m => by
  obtain ⟨e, m2, rfl⟩ := List.mem_map.mp m
  obtain ⟨⟨q, e1, sm⟩, _⟩ := h.ent e m2
  rw [e1]
  exact sm
theorem keysOf_nodup {kvs : List (List Key × V)} (h : Ints isPk kvs) : (keysOf kvs).Nodup := by
  have nd := h.nd
  rw [keysOf_eq h] at nd
  exact List.Pairwise.imp (fun {a b} ne e => ne (by rw [e])) (List.pairwise_map.mp nd)
def amt (kvs : List (List Key × V)) (p : Str × Str) : Int := intOf (valV kvs (pk p))
def kept (kvs : List (List Key × V)) : List (Str × Str) := (pSort (keysOf kvs)).filter fun p => decide (amt kvs p ≠ 0)
def rowTd (p : Str × Str) (n : Int) : Dt := .tup [.str p.1, .str p.2, .int n]
def toldOf (kvs : List (List Key × V)) : List Dt := (kept kvs).map fun p => rowTd p (amt kvs p)
/-- what is told stands in the heap -/
theorem isA_told {H : Hp} {f : Str × Str → Int} : ∀ {acc : List V} {ks : List (Str × Str)}, Paired (fun y k => ∃ q, y = V.ref q ∧ H q = some (.tup [.str k.1, .str k.2, .int (f k)])) acc ks → (∀ k ∈ ks, small k) → IsA H acc (ks.map fun p => rowTd p (f p))
  | _, _, .nil, _ => .nil
  | _, _, .cons (b := k) ⟨q, e, h⟩ t, sm => by
    rw [e]
    have h1 := sm k List.mem_cons_self
    exact .cons (.tup h (.cons (.str _ h1.1) (.cons (.str _ h1.2) (.cons (.int _) .nil))) (show (3 : Nat) ≤ 60 by decide)) (isA_told t fun x m => sm x (List.mem_cons_of_mem _ m))
theorem kept_mem {kvs : List (List Key × V)} {p : Str × Str} (m : p ∈ kept kvs) : p ∈ keysOf kvs := (pSort_perm _).mem_iff.mp (List.mem_filter.mp m).1
theorem kept_nodup {kvs : List (List Key × V)} (h : Ints isPk kvs) : (kept kvs).Nodup := ((pSort_perm _).nodup_iff.mpr (keysOf_nodup h)).filter _
theorem kept_len {kvs : List (List Key × V)} : (kept kvs).length ≤ kvs.length := by
  refine Nat.le_trans (List.length_filter_le _ _) ?_
  rw [(pSort_perm _).length_eq]
  unfold keysOf
  rw [List.length_map]
  exact Nat.le_refl _
end Sr

set_option Elab.async false
set_option linter.all false
set_option maxRecDepth 100000
set_option maxHeartbeats 4000000
namespace Sr
open PySem PySem.Spec PyProof.Rows L2 LamX
/-! ### all but the draws' list -/
def rm (H : Hp) (a : Addr) : Hp := fun b => if b = a then none else H b
theorem cut_if {S REST : TS} {D : Ends} {σ : L2.St} {H : Hp} (G : L2.St → Hp → Prop) (hr : ∀ σ2 H2, G σ2 H2 → REST D σ2 H2) (h : (∀ σ2 H2, G σ2 H2 → REST D σ2 H2) → tSeq S REST D σ H) : tSeq S REST D σ H := h hr
theorem rm_same {H : Hp} {a : Addr} : Same (rm H a) H := fun b o e => by
  unfold rm at e
  split at e
  · cases e
  · exact e
theorem rm_at {H : Hp} {a : Addr} : rm H a a = none := by unfold rm; rw [if_pos rfl]
theorem rm_ne {H : Hp} {a b : Addr} (h : b ≠ a) : rm H a b = H b := by unfold rm; rw [if_neg h]
theorem rm_new {H : Hp} {a : Addr} {o : HO} (h : H a = none) : Same H (rm (upd H a o) a) := fun b x e => by
  have n := ne_of_none e h
  rw [rm_ne n, upd_ne n]
  exact e
theorem rm_upd {H : Hp} {a : Addr} {o : HO} : rm (upd H a o) a = rm H a := by
  funext b
  by_cases c : b = a
  · rw [c, rm_at, rm_at]
  · rw [rm_ne c, rm_ne c, upd_ne c]
theorem Same.rm {H H' : Hp} {a : Addr} (s : Same H H') : Same (Sr.rm H a) (Sr.rm H' a) := fun b o e => by
  by_cases c : b = a
  · rw [c, rm_at] at e; cases e
  · rw [rm_ne c] at e ⊢; exact s _ _ e
theorem rm_free {H : Hp} {a p : Addr} (h : H p = none) : rm H a p = none := by
  by_cases c : p = a
  · rw [c, rm_at]
  · rw [rm_ne c, h]
/-- an object of one's own changes: what stood ahead of it stays -/
theorem Same.set {M H : Hp} {p : Addr} {o : HO} (s : Same M H) (h : M p = none) : Same M (upd H p o) := fun b u e => by
  rw [upd_ne (ne_of_none e h)]
  exact s _ _ e
mutual
theorem Is.ext {H H' : Hp} (e : ExtN H H') : ∀ {v : V} {d : Dt}, Is H v d → Is H' v d
  | _, _, .non => .non
  | _, _, .bl b => .bl b
  | _, _, .int i => .int i
  | _, _, .str s h => .str s h
  | _, _, .lst h r z => .lst (e _ _ h (fun _ q => by cases q)) (IsA.ext e r) z
  | _, _, .tup h r z => .tup (e _ _ h (fun _ q => by cases q)) (IsA.ext e r) z
  | _, _, .dic h => .dic (e _ _ h (fun _ q => by cases q))
theorem IsA.ext {H H' : Hp} (e : ExtN H H') : ∀ {vs : List V} {ds : List Dt}, IsA H vs ds → IsA H' vs ds
  | _, _, .nil => .nil
  | _, _, .cons h r => .cons (Is.ext e h) (IsA.ext e r)
end
/-- what data consist of -/
def dataO : HO → Prop
  | .lst _ => True
  | .tup _ => True
  | .dK _ => True
  | _ => False
mutual
theorem Is.keep {H H' : Hp} (e : ∀ b o, H b = some o → dataO o → H' b = some o) : ∀ {v : V} {d : Dt}, Is H v d → Is H' v d
  | _, _, .non => .non
  | _, _, .bl b => .bl b
  | _, _, .int i => .int i
  | _, _, .str s h => .str s h
  | _, _, .lst h r z => .lst (e _ _ h trivial) (IsA.keep e r) z
  | _, _, .tup h r z => .tup (e _ _ h trivial) (IsA.keep e r) z
  | _, _, .dic h => .dic (e _ _ h trivial)
theorem IsA.keep {H H' : Hp} (e : ∀ b o, H b = some o → dataO o → H' b = some o) : ∀ {vs : List V} {ds : List Dt}, IsA H vs ds → IsA H' vs ds
  | _, _, .nil => .nil
  | _, _, .cons h r => .cons (Is.keep e h) (IsA.keep e r)
end
/-- a frozen thing let go -/
theorem thaw {H : Hp} {p : Addr} {od : Obj} {u o : HO} (h : H p = some (.frz od u)) : ∀ b x, H b = some x → dataO x → (upd H p o) b = some x := fun b x e d => by
  rw [upd_ne fun z => ?_]
  · exact e
  · rw [z, h] at e
    cases e
    exact d.elim
/-- no list of three ints within -/
def three : List Dt → Bool
  | [.int _, .int _, .int _] => true
  | _ => false
mutual
def noD : Dt → Bool
  | .lst l => !three l && noDs l
  | .tup l => noDs l
  | _ => true
def noDs : List Dt → Bool
  | [] => true
  | d :: r => noD d && noDs r
end
theorem noDs_all : ∀ {l : List Dt}, (∀ d ∈ l, noD d = true) → noDs l = true
  | [], _ => rfl
  | d :: r, h => by
    unfold noDs
    rw [h d List.mem_cons_self, noDs_all fun x m => h x (List.mem_cons_of_mem _ m)]
    rfl
theorem ints_three {H : Hp} {x y z : Int} {ds : List Dt} (h : IsA H [.int x, .int y, .int z] ds) : three ds = true := by
  cases h with
  | cons h1 t => cases t with
    | cons h2 t => cases t with
      | cons h3 t => cases t with
        | nil => cases h1 with
          | int i => cases h2 with
            | int j => cases h3 with
              | int k => rfl
mutual
theorem Is.off {H : Hp} {a : Addr} (hd : DrawsAt H a) : ∀ {v : V} {d : Dt}, Is H v d → noD d = true → Is (rm H a) v d
  | _, _, .non, _ => .non
  | _, _, .bl b, _ => .bl b
  | _, _, .int i, _ => .int i
  | _, _, .str s h, _ => .str s h
  | _, _, .lst (a := b) (xs := xs) (ds := ds) h r z, n => by
    unfold noD at n
    obtain ⟨n1, n2⟩ := Bool.and_eq_true_iff.mp n
    have ne : b ≠ a := fun e => by
      obtain ⟨o, ho, x, y, w, rfl⟩ := hd
      rw [← e, h] at ho
      have e2 : xs = [.int x, .int y, .int w] := by injection ho with ho; injection ho
      rw [e2] at r
      rw [ints_three r] at n1
      cases n1
    exact .lst (by rw [rm_ne ne]; exact h) (IsA.off hd r n2) z
  | _, _, .tup (a := b) h r z, n => by
    unfold noD at n
    have ne : b ≠ a := fun e => by
      obtain ⟨o, ho, x, y, w, rfl⟩ := hd
      rw [← e, h] at ho
      injection ho with ho
      cases ho
    exact .tup (by rw [rm_ne ne]; exact h) (IsA.off hd r n) z
  | _, _, .dic (a := b) h, _ => by
    have ne : b ≠ a := fun e => by
      obtain ⟨o, ho, x, y, w, rfl⟩ := hd
      rw [← e, h] at ho
      injection ho with ho
      cases ho
    exact .dic (by rw [rm_ne ne]; exact h)
theorem IsA.off {H : Hp} {a : Addr} (hd : DrawsAt H a) : ∀ {vs : List V} {ds : List Dt}, IsA H vs ds → noDs ds = true → IsA (rm H a) vs ds
  | _, _, .nil, _ => .nil
  | _, _, .cons h r, n => by
    unfold noDs at n
    obtain ⟨n1, n2⟩ := Bool.and_eq_true_iff.mp n
    exact .cons (Is.off hd h n1) (IsA.off hd r n2)
end
theorem Tabs.off {T : List (Addr × Str)} {H : Hp} {a : Addr} (t : Tabs T H) (hd : DrawsAt H a) : Tabs T (rm H a) := fun p hp => by
  obtain ⟨o, ho, x, y, w, rfl⟩ := hd
  obtain ⟨ps, h1, h2, h3⟩ := t p hp
  have n1 : p.1 ≠ a := fun e => by rw [e, ho] at h1; injection h1 with h1; cases h1
  refine ⟨ps, by rw [rm_ne n1]; exact h1, h2, fun pos cv hc => ?_⟩
  obtain ⟨c, e1, e2⟩ := h3 pos cv hc
  have n2 : c ≠ a := fun e => by
    rw [e, ho] at e2
    injection e2 with e2
    unfold CodeO at e2
    cases e2
  exact ⟨c, e1, by rw [rm_ne n2]; exact e2⟩
theorem ExtN.set {M H : Hp} {p : Addr} {o : HO} (e : ExtN M H) (h : M p = none) : ExtN M (upd H p o) := fun b u q n => by
  rw [upd_ne (ne_of_none q h)]
  exact e _ _ q n
theorem ExtN.none {H H' : Hp} {p : Addr} (e : ExtN H H') (h : H' p = Option.none) (n : ∀ ps, H p ≠ some (.tbl ps)) : H p = Option.none := by
  cases q : H p with
  | none => rfl
  | some o =>
    have := e _ _ q (fun ps z => n ps (by rw [q, z]))
    rw [this] at h
    cases h
theorem sql_ext {K : PySem.W.Frag} {H H' : Hp} {a : Addr} {xs : List V} (e : ExtN H H') (h : SqL K H a xs) : SqL K H' a xs := by
  rcases h with (h | ⟨u, h⟩) | h
  · exact .inl (.inl (e _ _ h fun _ q => by cases q))
  · exact .inl (.inr ⟨u, e _ _ h fun _ q => by cases q⟩)
  · exact .inr h
/-- a list changes: the tables stay -/
theorem Tabs.set {T : List (Addr × Str)} {H : Hp} {f : Addr} {xs ys : List V} (t : Tabs T H) (hf : H f = some (.lst xs)) : Tabs T (upd H f (.lst ys)) := fun p hp => by
  obtain ⟨ps, h1, h2, h3⟩ := t p hp
  have n1 : p.1 ≠ f := fun e => by rw [e, hf] at h1; injection h1 with h1; cases h1
  refine ⟨ps, by rw [upd_ne n1]; exact h1, h2, fun pos cv hc => ?_⟩
  obtain ⟨c, e1, e2⟩ := h3 pos cv hc
  have n2 : c ≠ f := fun e => by
    rw [e, hf] at e2
    injection e2 with e2
    unfold CodeO at e2
    cases e2
  exact ⟨c, e1, by rw [upd_ne n2]; exact e2⟩
theorem cut_to (xs : List V) {k : Nat} (h : k ≤ xs.length) : cutV xs none (some (k : Int)) = xs.take k := by
  unfold cutV
  rw [HT.sIx_none, HT.sIx_nat, Nat.min_eq_left h, Nat.sub_zero, List.drop_zero]
theorem cut_from (xs : List V) {k : Nat} (h : k ≤ xs.length) : cutV xs (some (k : Int)) none = xs.drop k := by
  unfold cutV
  rw [HT.sIx_none, HT.sIx_nat, Nat.min_eq_left h, List.take_of_length_le (by rw [List.length_drop]; exact Nat.le_refl _)]
/-! ### what is settled, beside the draws' list at a -/
structure Dr (a : Addr) (M H : Hp) : Prop where
  d : DrawsAt H a
  s : Same M (rm H a)
section
variable {a p : Addr} {M H H' : Hp} {o : HO}
theorem Dr.ne (D : Dr a M H) {b : Addr} {x : HO} (e : M b = some x) : b ≠ a := fun z => by
  have h := D.s _ _ e
  rw [z, rm_at] at h
  cases h
theorem Dr.get (D : Dr a M H) {b : Addr} {x : HO} (e : M b = some x) : H b = some x := rm_same _ _ (D.s _ _ e)
theorem Dr.up (D : Dr a M H) : Same M H := fun _ _ e => D.get e
theorem Dr.free (D : Dr a M H) {b : Addr} (h : H b = none) : M b = none := by
  cases q : M b with
  | none => rfl
  | some x => rw [D.get q] at h; cases h
theorem Dr.grow (D : Dr a M H) (s : Same H H') : Dr a M H' := ⟨by
  obtain ⟨o, e, x⟩ := D.d
  exact ⟨o, s _ _ e, x⟩, D.s.trans (Same.rm s)⟩
theorem Dr.lay (D : Dr a M H) (hp : H p = none) : Dr a (upd M p o) (upd H p o) ∧ Same M (upd M p o) := by
  have np : p ≠ a := fun z => D.d.some (by rw [← z]; exact hp)
  refine ⟨⟨(D.grow (Same.up hp)).d, fun b x e => ?_⟩, Same.up (D.free hp)⟩
  by_cases c : b = p
  · rw [c, upd_same] at e
    rw [c, rm_ne np, upd_same]
    exact e
  · rw [upd_ne c] at e
    have h := D.s _ _ e
    have nb : b ≠ a := D.ne e
    rw [rm_ne nb] at h ⊢
    rw [upd_ne c]
    exact h
theorem Dr.pick (D : Dr a M H) (ho : DrawsO o) : Dr a M (upd H a o) := ⟨⟨o, upd_same, ho⟩, by rw [rm_upd]; exact D.s⟩
end
end Sr

set_option Elab.async false
set_option linter.all false
set_option maxRecDepth 100000
set_option maxHeartbeats 4000000
namespace K38
open PySem PySem.Spec PyProof.Rows L2 Sr
/-! ### draws that are counted -/
def DrN (n : Nat) (o : HO) : Prop := ∃ x y z : Int, o = .lst [.int x, .int y, .int z] ∧ 0 ≤ y ∧ y ≤ 2147484000 ∧ 0 ≤ z ∧ z ≤ (n : Nat)
def DnAt (n : Nat) (H : Hp) (a : Addr) : Prop := ∃ o, H a = some o ∧ DrN n o
theorem DrN.le {n m : Nat} {o : HO} (h : DrN n o) (l : n ≤ m) : DrN m o := by
  obtain ⟨x, y, z, e, h1, h2, h3, h4⟩ := h
  exact ⟨x, y, z, e, h1, h2, h3, by omega⟩
theorem DnAt.le {n m : Nat} {H : Hp} {a : Addr} (h : DnAt n H a) (l : n ≤ m) : DnAt m H a := by
  obtain ⟨o, e, x⟩ := h
  exact ⟨o, e, x.le l⟩
theorem DnAt.up {n : Nat} {H H' : Hp} {a : Addr} (h : DnAt n H a) (s : Same H H') : DnAt n H' a := by
  obtain ⟨o, e, x⟩ := h
  exact ⟨o, s _ _ e, x⟩
theorem DnAt.at_ {n : Nat} {H : Hp} {a : Addr} (h : DnAt n H a) : DrawsAt H a := by
  obtain ⟨o, e, x, y, z, r, _⟩ := h
  exact ⟨o, e, x, y, z, r⟩
theorem DnAt.some {n : Nat} {H : Hp} {a : Addr} (h : DnAt n H a) : H a ≠ none := h.at_.some
/-- something else is changed -/
theorem DnAt.set {n : Nat} {H : Hp} {a p : Addr} {o : HO} (h : DnAt n H a) (ne : p ≠ a) : DnAt n (upd H p o) a := by
  obtain ⟨o', e, x⟩ := h
  exact ⟨o', by rw [upd_ne ne.symm]; exact e, x⟩
theorem DnAt.new {n : Nat} {H : Hp} {a p : Addr} (h : DnAt n H a) (e : H p = none) : p ≠ a := fun z => h.some (by rw [← z]; exact e)
def spStream (K : PySem.W.Frag) : Sp := fun vs H Q _ => ∃ (s : Addr) (t : Int) (ns : List Int), vs = [.ref s, .int t] ∧ SqL K H s (ns.map V.int) ∧ 0 ≤ t ∧ t ≤ 10 ∧ ∀ p o, H p = none → DrN 0 o → Q (.ref p) (upd H p o)
def spDraw : Sp := fun vs H Q _ => ∃ (a : Addr) (m : Int) (n : Nat), vs = [.ref a, .int m] ∧ DnAt n H a ∧ n ≤ 1000000000 ∧ 1 ≤ m ∧ m < 1073741824 ∧ ∀ r o, 0 ≤ r → r < m → DrN (n + 1) o → Q (.int r) (upd H a o)
def spPick (K : PySem.W.Frag) : Sp := fun vs H Q _ => ∃ (a l : Addr) (xs : List V) (n : Nat), vs = [.ref a, .ref l] ∧ DnAt n H a ∧ n ≤ 1000000000 ∧ l ≠ a ∧ (SqL K H l xs ∨ SqT K H l xs) ∧ 1 ≤ xs.length ∧ xs.length < 1073741824 ∧ ∀ (i : Nat) v o, xs[i]? = some v → DrN (n + 1) o → Q v (upd H a o)
section
variable {P : Program} {w : World} {K : PySem.W.Frag} {mg : Str → Option Value} {base : Heap}
abbrev s__law_stream : Stmt := top 21
theorem sc__law_stream : FnScope ["script", "k", "cell"] ["script", "k"] (defScope s__law_stream) := ⟨rfl, rfl, rfl, by decide +kernel, rfl, by decide +kernel, by decide +kernel⟩
theorem c__law_stream (T : Txt K mg) (D : Dfn K mg "_law_stream" s__law_stream) : Cal P w K mg base 1 "_law_stream" ["script", "k"] (spStream K) := by
  refine D.cal sc__law_stream (fun _ _ _ _ _ _ us hl => match us, hl with | [_, _], _ => rfl) (fun vs H Q E h => ?_) fun cdv A outer s H vs Q E hr h => ?_
  · obtain ⟨s, t, ns, rfl, _⟩ := h
    rfl
  obtain ⟨sc, t, ns, rfl, hS, h0, h10, q⟩ := h
  refine ⟨_, (pss_cons (ps_set (i := 2) sc__law_stream.nd rfl (by first | exact Or.inl rfl | exact Or.inr rfl) (pe_ifExp (pt_cmpR op_lt (pv 1) (pe_callB (id := "len") call_len_seq (by rfl) T.len (by decide +kernel) (pa_cons (pv 0) pa_nil)) (nomark _)) (pe_callB (id := "abs") call_abs (by rfl) T.abs (by decide +kernel) (pa_cons (pe_ix ix_list (pv 0) (pv 1) (fun _ _ => rfl)) pa_nil)) pe_int))
      (pss_one (ps_ret (pe_lst (pa_cons (pe_ifExp (pt_cmpR op_ge (pv 2) (pe_op op_pow pe_int pe_int) (nomark _)) (pv 2) pe_int) (pa_cons (pe_op op_add (pe_op op_mod (pe_callTy (T := "int") call_int1 (by rfl) T.int (by decide +kernel) (pa_cons (pv 2) pa_nil)) pe_int) (pe_op op_mul pe_int (pv 1))) (pa_cons pe_int pa_nil))))))), ?_⟩
  refine cut_if (fun σ H' => H' = H ∧ ∃ c : Int, σ = [some (.ref sc), some (.int t), some (.int c)]) ?_ fun rest => ?_
  rotate_left
  · refine ⟨_, rfl, _, rfl, sc, _, rfl, .inl hS, _, _, rfl, rfl, _, rfl, ?_⟩
    by_cases h : t < ((ns.map V.int).length : Int)
    · rw [decide_eq_true h]
      have hlt : t.toNat < ns.length := by rw [List.length_map] at h; omega
      exact iteT ⟨_, rfl, _, rfl, sc, _, _, .int ns[t.toNat], rfl, rfl, hS, atI_of (j := t.toNat) (by omega) (by rw [List.getElem?_map, List.getElem?_eq_getElem hlt]; rfl), _, rfl, rest _ _ ⟨rfl, _, rfl⟩⟩
    · rw [decide_eq_false h]
      exact iteF (rest _ _ ⟨rfl, _, rfl⟩)
  rintro σ H' ⟨rfl, c, rfl⟩
  try dsimp only
  have b1 : 0 ≤ c % 2147483647 + 31 * t ∧ c % 2147483647 + 31 * t ≤ 2147484000 := by omega
  refine ⟨_, rfl, _, _, rfl, rfl, ⟨by decide, by decide, by decide⟩, _, _, rfl, rfl, _, rfl, ?_⟩
  refine iteB ?_ ?_
  · exact ⟨_, rfl, _, rfl, .inl ⟨_, rfl, _, _, rfl, rfl, (by show (0 : Int) < 2147483647; decide), _, rfl, _, _, rfl, rfl, .inl ⟨by decide, by decide⟩, _, _, rfl, rfl, three_line, fun p hp => q p _ hp ⟨_, _, _, rfl, b1.1, b1.2, by decide, by decide⟩⟩⟩
  · exact ⟨_, rfl, .inl ⟨_, rfl, _, _, rfl, rfl, (by show (0 : Int) < 2147483647; decide), _, rfl, _, _, rfl, rfl, .inl ⟨by decide, by decide⟩, _, _, rfl, rfl, three_line, fun p hp => q p _ hp ⟨_, _, _, rfl, b1.1, b1.2, by decide, by decide⟩⟩⟩
abbrev s__law_draw : Stmt := top 22
theorem sc__law_draw : FnScope ["stream", "many", "spread", "digit"] ["stream", "many"] (defScope s__law_draw) := ⟨rfl, rfl, rfl, by decide +kernel, rfl, by decide +kernel, by decide +kernel⟩
theorem c__law_draw (T : Txt K mg) (D : Dfn K mg "_law_draw" s__law_draw) : Cal P w K mg base 1 "_law_draw" ["stream", "many"] spDraw := by
  refine D.cal sc__law_draw (fun _ _ _ _ _ _ us hl => match us, hl with | [_, _], _ => rfl) (fun vs H Q E h => ?_) fun cdv A outer s H vs Q E hr h => ?_
  · obtain ⟨a, m, n, rfl, _⟩ := h
    rfl
  obtain ⟨a, m, n, rfl, ⟨o, ho, x, y, z, rfl, y0, y1, z0, z1⟩, hn, h1, h2, q⟩ := h
  refine ⟨_, (pss_cons (ps_if (pt_cmpR op_gt (pe_ix ix_list (pv 0) pe_int (fun _ _ => rfl)) pe_int (nomark _)) (pss_cons (ps_set (i := 3) sc__law_draw.nd rfl (by first | exact Or.inl rfl | exact Or.inr rfl) (pe_op op_mod (pe_callTy (T := "int") call_int1 (by rfl) T.int (by decide +kernel) (pa_cons (pe_ix ix_list (pv 0) pe_int (fun _ _ => rfl)) pa_nil)) (pv 1)))
      (pss_cons (ps_asg (pe_op op_fdiv (pe_ix ix_list (pv 0) pe_int (fun _ _ => rfl)) (pv 1)) (pg_sub (pv 0) pe_int set_list))
      (pss_one (ps_ret (pv 3))))) pss_nil)
      (pss_cons (ps_asg (pe_op op_add (pe_ix ix_list (pv 0) pe_int (fun _ _ => rfl)) pe_int) (pg_sub (pv 0) pe_int set_list))
      (pss_cons (ps_set (i := 2) sc__law_draw.nd rfl (by first | exact Or.inl rfl | exact Or.inr rfl) (pe_op op_mod (pe_op op_pow (pe_callTy (T := "int") call_int1 (by rfl) T.int (by decide +kernel) (pa_cons (pe_op op_add (pe_op op_add (pe_ix ix_list (pv 0) pe_int (fun _ _ => rfl)) (pe_op op_mul pe_int (pe_ix ix_list (pv 0) pe_int (fun _ _ => rfl)))) pe_int) pa_nil)) pe_int) pe_int))
      (pss_one (ps_ret (pe_op op_mod (pe_op op_fdiv (pe_op op_mod (pe_callTy (T := "int") call_int1 (by rfl) T.int (by decide +kernel) (pa_cons (pe_op op_mul (pe_op op_add (pv 2) (pe_ix ix_list (pv 0) pe_int (fun _ _ => rfl))) pe_int) pa_nil)) pe_int) pe_int) (pv 1))))))), ?_⟩
  refine ⟨_, rfl, a, _, _, _, rfl, rfl, SqL.of ho, rfl, _, _, rfl, rfl, _, rfl, ?_⟩
  refine iteB ?_ ?_
  · refine ⟨_, rfl, a, _, _, _, rfl, rfl, SqL.of ho, rfl, .inl ⟨_, rfl, _, rfl, _, _, rfl, rfl, (by show 0 < m; omega), ?_⟩⟩
    refine ⟨_, rfl, a, _, _, _, rfl, rfl, SqL.of ho, rfl, _, rfl, _, _, rfl, rfl, ⟨by omega, h2⟩, _, rfl, a, _, _, 0, rfl, rfl, ho, rfl, ?_⟩
    exact ⟨_, rfl, q _ _ (Int.emod_nonneg _ (by omega)) (Int.emod_lt_of_pos _ (by omega)) ⟨_, _, _, rfl, y0, y1, z0, by omega⟩⟩
  · refine ⟨_, rfl, a, _, _, _, rfl, rfl, SqL.of ho, rfl, _, _, rfl, rfl, _, rfl, a, _, _, 2, rfl, rfl, ho, rfl, ?_⟩
    have bb : (y + 7919 * (z + 1) + 104729).natAbs < 2 ^ 64 := by omega
    refine ⟨_, rfl, a, _, _, _, rfl, rfl, SqL.of upd_same, rfl, _, rfl, a, _, _, _, rfl, rfl, SqL.of upd_same, rfl, _, _, rfl, rfl, .inl ⟨by decide, by decide⟩, _, _, rfl, rfl, _, _, rfl, rfl, .inl ⟨_, rfl, _, _, rfl, rfl, ⟨by decide, by decide, bb⟩, _, _, rfl, rfl, (by show (0 : Int) < 2147483647; decide), ?_⟩⟩
    refine ⟨_, rfl, _, rfl, a, _, _, _, rfl, rfl, SqL.of upd_same, rfl, _, _, rfl, rfl, _, _, rfl, rfl, .inr ⟨by decide, by decide⟩, .inl ⟨_, rfl, _, _, rfl, rfl, (by show (0 : Int) < 2147483629; decide), _, _, rfl, rfl, ⟨by decide, by decide⟩, _, rfl, _, _, rfl, rfl, (by show 0 < m; omega), ?_⟩⟩
    exact q _ _ (Int.emod_nonneg _ (by omega)) (Int.emod_lt_of_pos _ (by omega)) ⟨_, _, _, rfl, y0, y1, by omega, by push_cast; omega⟩
abbrev s__law_pick : Stmt := top 23
theorem sc__law_pick : FnScope ["stream", "things"] ["stream", "things"] (defScope s__law_pick) := ⟨rfl, rfl, rfl, by decide +kernel, rfl, by decide +kernel, by decide +kernel⟩
theorem c__law_pick (T : Txt K mg) (D : Dfn K mg "_law_pick" s__law_pick) (C_law_draw : Cal P w K mg base 1 "_law_draw" ["stream", "many"] spDraw) : Cal P w K mg base 2 "_law_pick" ["stream", "things"] (spPick K) := by
  refine D.cal sc__law_pick (fun _ _ _ _ _ _ us hl => match us, hl with | [_, _], _ => rfl) (fun vs H Q E h => ?_) fun cdv A outer s H vs Q E hr h => ?_
  · obtain ⟨a, l, xs, n, rfl, _⟩ := h
    rfl
  obtain ⟨a, l, xs, n, rfl, hd, hb, hn, hx, l1, l2, q⟩ := h
  refine ⟨_, (pss_one (ps_ret (pe_ix ix_seq (pv 1) (pe_cal C_law_draw hr (by first | decide | omega) (by rfl) (pa_cons (pv 0) (pa_cons (pe_callB (id := "len") call_len_seq (by rfl) T.len (by decide +kernel) (pa_cons (pv 1) pa_nil)) pa_nil))) (fun _ _ => rfl)))), ?_⟩
  refine ⟨_, rfl, _, rfl, _, rfl, l, xs, rfl, hx, a, _, n, rfl, hd, hb, by omega, by omega, fun r o r0 r1 ho => ?_⟩
  have hlt : r.toNat < xs.length := by omega
  have e : atI xs r = some xs[r.toNat] := atI_of (j := r.toNat) (by omega) (List.getElem?_eq_getElem hlt)
  rcases seq_upd (o := o) hn hx with h | h
  · exact .inl ⟨l, xs, r, _, rfl, rfl, h, e, q r.toNat _ o (List.getElem?_eq_getElem hlt) ho⟩
  · exact .inr (.inl ⟨l, xs, r, _, rfl, rfl, h, e, q r.toNat _ o (List.getElem?_eq_getElem hlt) ho⟩)
end
/-! ### what is beside the draws -/
theorem same_set {M H : Hp} {a t : Addr} {o : HO} (s : Same M (rm H a)) (n : M t = none) : Same M (rm (upd H t o) a) := fun b x e => by
  have nt : b ≠ t := ne_of_none e n
  have h := s _ _ e
  have na : b ≠ a := fun z => by rw [z, rm_at] at h; cases h
  rw [rm_ne na] at h ⊢
  rw [upd_ne nt]
  exact h
theorem DnAt.put {n : Nat} {H : Hp} {a : Addr} {o : HO} (h : DrN n o) : DnAt n (upd H a o) a := ⟨o, upd_same, h⟩
theorem rm_put {H : Hp} {a : Addr} {o : HO} : Same (rm H a) (rm (upd H a o) a) := by rw [rm_upd]; exact Same.refl _
theorem at_off {n : Nat} {H : Hp} {a b : Addr} {o : HO} (d : DnAt n H a) (h : H b = some o) (x : ∀ xs, o ≠ .lst xs) : rm H a b = some o := by
  rw [rm_ne fun z => ?_]
  · exact h
  · obtain ⟨o', e, _, _, _, e2, _⟩ := d
    rw [← z, h] at e
    cases e
    exact x _ e2
theorem rm_out {n : Nat} {H H' : Hp} {a b : Addr} (s : Same (rm H a) (rm H' a)) (d : DnAt n H' a) (h : H' b = none) : (rm H a) b = none := by
  cases e : rm H a b with
  | none => rfl
  | some o =>
    have := rm_same _ _ (s _ _ e)
    rw [h] at this
    cases this
/-- a comprehension that draws for each item; beside the draws and itself nothing is changed -/
theorem lc_draw {α : Type} {J : It} {n : Nat} {G : Hp → Prop} {Y : Nat → Hp → V → Hp → Prop} {At : Nat → Hp → V → Prop} (w : Walk J n G Y) (hy : ∀ i H x H', Y i H x H' → H' = H ∧ At i H x) {g : TG} {te : TE} {vs : List Nat} {σ : L2.St} {H : Hp} {a D : Addr} {k c : Nat} {Qd : Hp → Prop}
    (items : List α) (hn : items.length = n) (hz : n < sizeLine) (hD : H D = none) (d0 : DnAt k H a) (hG : ∀ H', Same (rm H a) (rm H' a) → G H') (Rel : Hp → α → V → Prop) (mono : ∀ H1 H2 x y, Same H1 H2 → Rel H1 x y → Rel H2 x y) (lay : ∀ H1 x y c c', H1 D = some (.lst c) → Rel H1 x y → Rel (upd H1 D (.lst c')) x y)
    (turn : ∀ (i : Nat) (x : V) (z : α) (H1 : Hp) (A : V → Hp → Prop) (B : Hp → Prop), i < n → At i H1 x → items[i]? = some z → H1 D ≠ none → DnAt (k + c * i) H1 a → Same (rm H a) (rm H1 a) → (∀ y H2, DnAt (k + c * (i + 1)) H2 a → Same (rm H1 a) (rm H2 a) → Rel (rm H2 a) z y → A y H2) →
      g x (wipe σ vs) H1 fun σ2 H2 => wipe σ2 vs = wipe σ vs ∧ tYes σ2 H2 fun b H3 => if b = true then te σ2 H3 A else B H3)
    (fin : ∀ H' acc, DnAt (k + c * n) H' a → Same (rm H a) (rm H' a) → H' D = some (.lst acc) → Paired (fun y z => Rel (rm H' a) z y) acc items → Qd H') :
    ∃ W : Nat → Nat → Hp → Prop, (∃ m, W 0 m (upd H D (.lst []))) ∧ ∀ i m H, W i m H →
      (J.stop i H ∧ Qd H) ∨ (J.go i H ∧ ∃ Nx : Hp → Prop, (∀ H', Nx H' → ∃ m', m' < m ∧ W (i + 1) m' H') ∧ ∀ x H', J.yld i H x H' → g x (wipe σ vs) H' fun σ2 H2 => wipe σ2 vs = wipe σ vs ∧ tYes σ2 H2 fun b H3 =>
        if b = true then te σ2 H3 fun y H4 => ∃ acc, H4 D = some (.lst acc) ∧ acc.length < sizeLine ∧ Nx (upd H4 D (.lst (acc ++ [y]))) else Nx H3) := by
  have nDa : D ≠ a := d0.new hD
  have mD : (rm H a) D = none := by rw [rm_ne nDa]; exact hD
  refine lc_it w (fun i H' => DnAt (k + c * i) H' a ∧ Same (rm H a) (rm H' a) ∧ ∃ acc, H' D = some (.lst acc) ∧ Paired (fun y z => Rel (rm H' a) z y) acc (items.take i)) ⟨d0.set nDa, same_set (Same.refl _) mD, [], upd_same, by simp; exact .nil⟩ (fun i H' _ p => hG H' p.2.1) (fun i x H1 H2 hi p y => ?_) fun H' p => ?_
  · obtain ⟨rfl, hx⟩ := hy _ _ _ _ y
    obtain ⟨d1, s1, acc, hd, pr⟩ := p
    have hi' : i < items.length := by omega
    have tk : items.take (i + 1) = items.take i ++ [items[i]] := by rw [List.take_add_one, List.getElem?_eq_getElem hi']; rfl
    have hl : acc.length < sizeLine := by
      have h1 := Paired.length pr
      rw [List.length_take] at h1
      omega
    refine turn i x items[i] H2 _ _ hi hx (List.getElem?_eq_getElem hi') (by rw [hd]; simp) d1 s1 fun y H3 d3 s3 r => ?_
    have hd3 : H3 D = some (.lst acc) := by
      have := s3 D _ (by rw [rm_ne nDa]; exact hd)
      rwa [rm_ne nDa] at this
    have hdr : (rm H3 a) D = some (.lst acc) := by rw [rm_ne nDa]; exact hd3
    have eu : rm (upd H3 D (.lst (acc ++ [y]))) a = upd (rm H3 a) D (.lst (acc ++ [y])) := by
      funext b
      by_cases c1 : b = a
      · rw [c1, rm_at, upd_ne nDa.symm, rm_at]
      · rw [rm_ne c1]
        by_cases c2 : b = D
        · rw [c2, upd_same, upd_same]
        · rw [upd_ne c2, upd_ne c2, rm_ne c1]
    refine ⟨acc, hd3, hl, d3.set nDa, same_set (s1.trans s3) mD, _, upd_same, ?_⟩
    rw [tk, eu]
    exact Paired.snoc (F := fun z a => Rel _ a z) (Paired.imp' (fun y a h => lay _ a y _ _ hdr (mono _ _ a y s3 h)) pr) (lay _ _ _ _ _ hdr r)
  · obtain ⟨d1, s1, acc, hd, pr⟩ := p
    rw [← hn, List.take_length] at pr
    exact fin H' acc d1 s1 hd pr
end K38

set_option Elab.async false
set_option linter.all false
set_option maxRecDepth 100000
set_option maxHeartbeats 4000000
namespace K38
open PySem PySem.Spec PyProof.Rows L2 Sr
theorem at_nat {xs : List V} {i : Nat} {u : V} (h : xs[i]? = some u) : atI xs (i : Int) = some u := by
  have hl := (List.getElem?_eq_some_iff.mp h).1
  unfold atI ixN
  simp [hl]
  exact (List.getElem?_eq_some_iff.mp h).2
theorem lenN (n m : Nat) : decide (V.int (n : Nat) = V.int (m : Nat)) = decide (n = m) := by
  by_cases c : n = m
  · rw [c, decide_eq_true rfl, decide_eq_true rfl]
  · rw [decide_eq_false c, decide_eq_false fun h => c (by have := V.int.inj h; omega)]
theorem seq_of {K : PySem.W.Frag} {H : Hp} {v : V} {d : Dt} (i : Is H v d) (h : isSeq d = true) : ∃ a xs l, v = .ref a ∧ (SqL K H a xs ∨ SqT K H a xs) ∧ IsA H xs l ∧ xs.length ≤ 60 ∧ (d = .lst l ∨ d = .tup l) := by
  cases i with
  | lst a b c => exact ⟨_, _, _, rfl, .inl (SqL.of a), b, c, .inl rfl⟩
  | tup a b c => exact ⟨_, _, _, rfl, .inr (SqT.of a), b, c, .inr rfl⟩
  | _ => cases h
theorem ix_any {K : PySem.W.Frag} {H : Hp} {a : Addr} {xs : List V} {i : Int} {u : V} {Q : VK} (h : SqL K H a xs ∨ SqT K H a xs) (e : atI xs i = some u) (q : Q u H) : rIx K (.ref a) (.int i) H Q := by
  rcases h with h | h
  · exact .inl ⟨a, xs, i, u, rfl, rfl, h, e, q⟩
  · exact .inr (.inl ⟨a, xs, i, u, rfl, rfl, h, e, q⟩)
theorem seq_mono {K : PySem.W.Frag} {H H' : Hp} {a : Addr} {xs : List V} (e : Same H H') (h : SqL K H a xs ∨ SqT K H a xs) : SqL K H' a xs ∨ SqT K H' a xs := h.elim (fun h => .inl (sql_mono e h)) (fun h => .inr (sqt_mono e h))
/-! ### debts as data -/
def isS (m : Str) : Dt → Bool
  | .str s => decide (s = m)
  | _ => false
def atLeast1 : Dt → Bool
  | .int i => decide (1 ≤ i)
  | _ => false
def dl (m : Str) : List Dt → Bool
  | [n, k] => (nameOk n && !isS m n) && atLeast1 k
  | _ => false
def debtOk (m : Str) : Dt → Bool
  | .lst l => dl m l
  | .tup l => dl m l
  | _ => false
def rowOk (m : Str) : Dt → Bool
  | .lst l => l.all (debtOk m)
  | .tup l => l.all (debtOk m)
  | _ => false
/-- of a member's name and a datum -/
def spM (f : Str → Dt → Bool) : Sp := fun vs H Q _ => ∃ m v d, vs = [.str m, v] ∧ Is H v d ∧ ∀ H', Same H H' → Q (.bl (f m d)) H'
section
variable {P : Program} {w : World} {K : PySem.W.Frag} {mg : Str → Option Value} {base : Heap}
abbrev s__is_debt : Stmt := top 19
theorem sc__is_debt : FnScope ["member", "thing"] ["member", "thing"] (defScope s__is_debt) := ⟨rfl, rfl, rfl, by decide +kernel, rfl, by decide +kernel, by decide +kernel⟩
theorem c__is_debt (T : Txt K mg) (D : Dfn K mg "_is_debt" s__is_debt) (C_is_list : Cal P w K mg base 1 "is_list" ["thing"] (spB isSeq)) (C_is_name : Cal P w K mg base 1 "is_name" ["thing"] (spB nameOk)) (C_is_integer : Cal P w K mg base 1 "is_integer" ["thing"] (spB isInteger)) :
    Cal P w K mg base 2 "_is_debt" ["member", "thing"] (spM debtOk) := by
  refine D.cal sc__is_debt (fun _ _ _ _ _ _ us hl => match us, hl with | [_, _], _ => rfl) (fun vs H Q E h => ?_) fun cdv A outer s H vs Q E hr h => ?_
  · obtain ⟨m, v, d, rfl, _⟩ := h
    rfl
  obtain ⟨m, v, d, rfl, hv, q⟩ := h
  refine ⟨_, (pss_cons (ps_if (PW.pt (pw_or (pt_not (pt_val (pe_cal C_is_list hr (by first | decide | omega) (by rfl) (pa_cons (pv 1) pa_nil)))) (pw_or (pt_cmpR op_ne (pe_callB (id := "len") call_len_seq (by rfl) T.len (by decide +kernel) (pa_cons (pv 1) pa_nil)) pe_int (nomark _)) (pw_or (pt_not (pt_val (pe_cal C_is_name hr (by first | decide | omega) (by rfl) (pa_cons (pe_ix ix_seq (pv 1) pe_int (fun _ _ => rfl)) pa_nil)))) (pw_or1 (pt_cmpR op_eq (pe_ix ix_seq (pv 1) pe_int (fun _ _ => rfl)) (pv 0) (nomark _))))))) (pss_one (ps_ret pe_bl)) pss_nil)
      (pss_one (ps_ret (pe_and (pe_cal C_is_integer hr (by first | decide | omega) (by rfl) (pa_cons (pe_ix ix_seq (pv 1) pe_int (fun _ _ => rfl)) pa_nil)) (pe_one (pe_cmpR op_ge (pe_ix ix_seq (pv 1) pe_int (fun _ _ => rfl)) pe_int (nomark _))))))), ?_⟩
  refine ⟨_, rfl, v, d, rfl, hv, fun H1 s1 => ⟨_, rfl, ?_⟩⟩
  cases hs : isSeq d with
  | false =>
    refine iteT (iteT ?_)
    have e : debtOk m d = false := by cases d <;> first | rfl | cases hs
    rw [e] at q
    exact q _ s1
  | true =>
  obtain ⟨a, xs, l, rfl, hsq, ia, lx, hl⟩ := seq_of (K := K) hv hs
  have ed : debtOk m d = dl m l := by rcases hl with rfl | rfl <;> rfl
  rw [ed] at q
  have ln := ia.len
  refine iteF ⟨_, rfl, a, xs, rfl, seq_mono s1 hsq, rfl, _, rfl, ?_⟩
  rw [show decide (V.int (xs.length : Nat) = V.int 2) = decide (xs.length = 2) from lenN _ 2]
  cases ia with
  | nil => exact iteT (q _ s1)
  | cons i0 r0 =>
  rename_i v0 vs d0 ds
  cases r0 with
  | nil => exact iteT (q _ s1)
  | cons i1 r1 =>
  rename_i v1 vs d1 ds
  cases r1 with
  | cons i2 r2 =>
    rename_i v2 vs d2 ds
    rw [decide_eq_false (show ¬ (v0 :: v1 :: v2 :: vs).length = 2 by simp only [List.length_cons]; omega)]
    exact iteT (q _ s1)
  | nil =>
    refine iteF ⟨_, rfl, ix_any (seq_mono s1 hsq) (at_nat (i := 0) rfl) ⟨v0, d0, rfl, i0.mono s1, fun H2 s2 => ⟨_, rfl, ?_⟩⟩⟩
    have s12 := s1.trans s2
    have eq0 : dl m [d0, d1] = ((nameOk d0 && !isS m d0) && atLeast1 d1) := rfl
    cases hn : nameOk d0 with
    | false =>
      rw [eq0, hn] at q
      exact iteT (q _ s12)
    | true =>
      obtain ⟨n0, rfl⟩ : ∃ n0, d0 = .str n0 := by
        cases d0 with
        | str s => exact ⟨s, rfl⟩
        | _ => cases hn
      obtain rfl : v0 = .str n0 := by cases i0; rfl
      refine iteF ⟨_, rfl, ix_any (seq_mono s12 hsq) (at_nat (i := 0) rfl) ⟨_, rfl, rfl, _, rfl, ?_⟩⟩
      have eqm : isS m (.str n0) = decide (n0 = m) := rfl
      by_cases c : n0 = m
      · rw [eq0, hn, eqm, decide_eq_true c] at q
        rw [decide_eq_true (show V.str n0 = V.str m by rw [c])]
        exact iteT (q _ s12)
      · rw [eq0, hn, eqm, decide_eq_false c] at q
        rw [decide_eq_false (show ¬ V.str n0 = V.str m from fun h => c (V.str.inj h))]
        refine iteF ⟨_, rfl, ix_any (seq_mono s12 hsq) (at_nat (i := 1) rfl) ⟨v1, d1, rfl, i1.mono s12, fun H3 s3 => ?_⟩⟩
        have s13 := s12.trans s3
        cases i1 with
        | int k => exact ⟨_, rfl, iteT ⟨_, rfl, ix_any (seq_mono s13 hsq) (at_nat (i := 1) rfl) ⟨_, _, rfl, rfl, q _ s13⟩⟩⟩
        | _ => exact ⟨_, rfl, iteF (q _ s13)⟩
end
end K38

set_option Elab.async false
set_option linter.all false
set_option maxRecDepth 100000
set_option maxHeartbeats 4000000
namespace K38
open PySem PySem.Spec PyProof.Rows L2 Sr
section
variable {P : Program} {w : World} {K : PySem.W.Frag} {mg : Str → Option Value} {base : Heap}
abbrev s__is_row : Stmt := top 18
theorem sc__is_row : FnScope ["member", "thing", "debt"] ["member", "thing"] (defScope s__is_row) := ⟨rfl, rfl, rfl, by decide +kernel, rfl, by decide +kernel, by decide +kernel⟩
theorem c__is_row (T : Txt K mg) (D : Dfn K mg "_is_row" s__is_row) (C_is_list : Cal P w K mg base 1 "is_list" ["thing"] (spB isSeq)) (C_is_debt : Cal P w K mg base 2 "_is_debt" ["member", "thing"] (spM debtOk)) :
    Cal P w K mg base 3 "_is_row" ["member", "thing"] (spM rowOk) := by
  refine D.cal sc__is_row (fun _ _ _ _ _ _ us hl => match us, hl with | [_, _], _ => rfl) (fun vs H Q E h => ?_) fun cdv A outer s H vs Q E hr h => ?_
  · obtain ⟨m, v, d, rfl, _⟩ := h
    rfl
  obtain ⟨m, v, d, rfl, hv, q⟩ := h
  have turn : ∀ (xs : List V) (ds : List Dt) (H1 : Hp), Same H H1 → IsA H xs ds → ∀ (i : Nat) (u y : V) (H2 : Hp) (R : VK), xs[i]? = some u → ((ds.map (debtOk m)).map V.bl)[i]? = some y → Same H1 H2 → (∀ H3, Same H2 H3 → R y H3) →
      spM debtOk [.str m, u] H2 R E0 := fun xs ds H1 s1 hA i u y H2 R hu hy s2 k => by
    obtain ⟨d, hd, hI⟩ := hA.get hu
    rw [List.getElem?_map, List.getElem?_map, hd] at hy
    obtain rfl : V.bl (debtOk m d) = y := Option.some.inj hy
    exact ⟨m, u, d, rfl, hI.mono (s1.trans s2), fun H3 s3 => k _ s3⟩
  cases hv with
  | lst h r z =>
    rename_i a xs ds
    refine ⟨_, (pss_one (ps_ret (pe_and (pe_cal C_is_list hr (by first | decide | omega) (by rfl) (pa_cons (pv 1) pa_nil)) (pe_one (pe_callB (id := "all") (cr_all rfl) (by rfl) T.all (by decide +kernel) (pa_cons (pe_lc (own := [("debt", 2)]) (g := gName 2) (tt := tYes) rfl sc__is_row.nd (pi_list (pv 1)) (blkOk_by (N := ["member", "thing", "debt"]) (sc := defScope s__is_row) (by decide +kernel)) (fun _ _ _ _ _ => (pg_name (i := 2) sc__is_row.nd rfl (by first | exact Or.inl rfl | exact Or.inr rfl))) (fun _ _ _ _ _ => pts_nil) (fun _ _ _ _ _ => (pe_cal C_is_debt hr (by first | decide | omega) (by rfl) (pa_cons (pv 0) (pa_cons (pv 2) pa_nil))))) pa_nil)))))), ?_⟩
    refine ⟨_, rfl, _, _, rfl, .lst h r z, fun H1 s1 => ⟨_, rfl, iteT ⟨_, rfl, a, rfl, ⟨_, SqL.of (s1 _ _ h)⟩, fun D hD => lc_pure walk_list walk_at ((ds.map (debtOk m)).map V.bl) (by rw [List.length_map, List.length_map, r.len]) (sz z) hD (fun H2 s2 => SqL.of (s2 _ _ (s1 _ _ h)))
      (fun i u y H2 R hi hu hy s2 k => ⟨_, rfl, _, rfl, turn xs ds H1 s1 r i u y H2 R hu hy s2 k⟩) (fun H2 s2 h2 => ⟨D, ds.map (debtOk m), rfl, SqL.of h2, ?_⟩)⟩⟩⟩
    rw [List.all_map]
    exact q H2 (s1.trans s2)
  | tup h r z =>
    rename_i a xs ds
    refine ⟨_, (pss_one (ps_ret (pe_and (pe_cal C_is_list hr (by first | decide | omega) (by rfl) (pa_cons (pv 1) pa_nil)) (pe_one (pe_callB (id := "all") (cr_all rfl) (by rfl) T.all (by decide +kernel) (pa_cons (pe_lc (own := [("debt", 2)]) (g := gName 2) (tt := tYes) rfl sc__is_row.nd (pi_tup (pv 1)) (blkOk_by (N := ["member", "thing", "debt"]) (sc := defScope s__is_row) (by decide +kernel)) (fun _ _ _ _ _ => (pg_name (i := 2) sc__is_row.nd rfl (by first | exact Or.inl rfl | exact Or.inr rfl))) (fun _ _ _ _ _ => pts_nil) (fun _ _ _ _ _ => (pe_cal C_is_debt hr (by first | decide | omega) (by rfl) (pa_cons (pv 0) (pa_cons (pv 2) pa_nil))))) pa_nil)))))), ?_⟩
    refine ⟨_, rfl, _, _, rfl, .tup h r z, fun H1 s1 => ⟨_, rfl, iteT ⟨_, rfl, a, rfl, ⟨_, SqT.of (s1 _ _ h)⟩, fun D hD => lc_pure walk_tup walk_at ((ds.map (debtOk m)).map V.bl) (by rw [List.length_map, List.length_map, r.len]) (sz z) hD (fun H2 s2 => SqT.of (s2 _ _ (s1 _ _ h)))
      (fun i u y H2 R hi hu hy s2 k => ⟨_, rfl, _, rfl, turn xs ds H1 s1 r i u y H2 R hu hy s2 k⟩) (fun H2 s2 h2 => ⟨D, ds.map (debtOk m), rfl, SqL.of h2, ?_⟩)⟩⟩⟩
    rw [List.all_map]
    exact q H2 (s1.trans s2)
  | dic h => exact ⟨_, (pss_one (ps_ret (pe_and (pe_cal C_is_list hr (by first | decide | omega) (by rfl) (pa_cons (pv 1) pa_nil)) (pe_one (pe_callB (id := "all") (cr_all rfl) (by rfl) T.all (by decide +kernel) (pa_cons (pe_lc (own := [("debt", 2)]) (g := gName 2) (tt := tYes) rfl sc__is_row.nd (pi_list (pv 1)) (blkOk_by (N := ["member", "thing", "debt"]) (sc := defScope s__is_row) (by decide +kernel)) (fun _ _ _ _ _ => (pg_name (i := 2) sc__is_row.nd rfl (by first | exact Or.inl rfl | exact Or.inr rfl))) (fun _ _ _ _ _ => pts_nil) (fun _ _ _ _ _ => (pe_cal C_is_debt hr (by first | decide | omega) (by rfl) (pa_cons (pv 0) (pa_cons (pv 2) pa_nil))))) pa_nil)))))), _, rfl, _, _, rfl, .dic h, fun H1 s1 => ⟨_, rfl, iteF (q _ s1)⟩⟩
  | non => exact ⟨_, (pss_one (ps_ret (pe_and (pe_cal C_is_list hr (by first | decide | omega) (by rfl) (pa_cons (pv 1) pa_nil)) (pe_one (pe_callB (id := "all") (cr_all rfl) (by rfl) T.all (by decide +kernel) (pa_cons (pe_lc (own := [("debt", 2)]) (g := gName 2) (tt := tYes) rfl sc__is_row.nd (pi_list (pv 1)) (blkOk_by (N := ["member", "thing", "debt"]) (sc := defScope s__is_row) (by decide +kernel)) (fun _ _ _ _ _ => (pg_name (i := 2) sc__is_row.nd rfl (by first | exact Or.inl rfl | exact Or.inr rfl))) (fun _ _ _ _ _ => pts_nil) (fun _ _ _ _ _ => (pe_cal C_is_debt hr (by first | decide | omega) (by rfl) (pa_cons (pv 0) (pa_cons (pv 2) pa_nil))))) pa_nil)))))), _, rfl, _, _, rfl, .non, fun H1 s1 => ⟨_, rfl, iteF (q _ s1)⟩⟩
  | bl b => exact ⟨_, (pss_one (ps_ret (pe_and (pe_cal C_is_list hr (by first | decide | omega) (by rfl) (pa_cons (pv 1) pa_nil)) (pe_one (pe_callB (id := "all") (cr_all rfl) (by rfl) T.all (by decide +kernel) (pa_cons (pe_lc (own := [("debt", 2)]) (g := gName 2) (tt := tYes) rfl sc__is_row.nd (pi_list (pv 1)) (blkOk_by (N := ["member", "thing", "debt"]) (sc := defScope s__is_row) (by decide +kernel)) (fun _ _ _ _ _ => (pg_name (i := 2) sc__is_row.nd rfl (by first | exact Or.inl rfl | exact Or.inr rfl))) (fun _ _ _ _ _ => pts_nil) (fun _ _ _ _ _ => (pe_cal C_is_debt hr (by first | decide | omega) (by rfl) (pa_cons (pv 0) (pa_cons (pv 2) pa_nil))))) pa_nil)))))), _, rfl, _, _, rfl, .bl b, fun H1 s1 => ⟨_, rfl, iteF (q _ s1)⟩⟩
  | int i => exact ⟨_, (pss_one (ps_ret (pe_and (pe_cal C_is_list hr (by first | decide | omega) (by rfl) (pa_cons (pv 1) pa_nil)) (pe_one (pe_callB (id := "all") (cr_all rfl) (by rfl) T.all (by decide +kernel) (pa_cons (pe_lc (own := [("debt", 2)]) (g := gName 2) (tt := tYes) rfl sc__is_row.nd (pi_list (pv 1)) (blkOk_by (N := ["member", "thing", "debt"]) (sc := defScope s__is_row) (by decide +kernel)) (fun _ _ _ _ _ => (pg_name (i := 2) sc__is_row.nd rfl (by first | exact Or.inl rfl | exact Or.inr rfl))) (fun _ _ _ _ _ => pts_nil) (fun _ _ _ _ _ => (pe_cal C_is_debt hr (by first | decide | omega) (by rfl) (pa_cons (pv 0) (pa_cons (pv 2) pa_nil))))) pa_nil)))))), _, rfl, _, _, rfl, .int i, fun H1 s1 => ⟨_, rfl, iteF (q _ s1)⟩⟩
  | str z hz => exact ⟨_, (pss_one (ps_ret (pe_and (pe_cal C_is_list hr (by first | decide | omega) (by rfl) (pa_cons (pv 1) pa_nil)) (pe_one (pe_callB (id := "all") (cr_all rfl) (by rfl) T.all (by decide +kernel) (pa_cons (pe_lc (own := [("debt", 2)]) (g := gName 2) (tt := tYes) rfl sc__is_row.nd (pi_list (pv 1)) (blkOk_by (N := ["member", "thing", "debt"]) (sc := defScope s__is_row) (by decide +kernel)) (fun _ _ _ _ _ => (pg_name (i := 2) sc__is_row.nd rfl (by first | exact Or.inl rfl | exact Or.inr rfl))) (fun _ _ _ _ _ => pts_nil) (fun _ _ _ _ _ => (pe_cal C_is_debt hr (by first | decide | omega) (by rfl) (pa_cons (pv 0) (pa_cons (pv 2) pa_nil))))) pa_nil)))))), _, rfl, _, _, rfl, .str z hz, fun H1 s1 => ⟨_, rfl, iteF (q _ s1)⟩⟩
end
end K38

set_option Elab.async false
set_option linter.all false
set_option maxRecDepth 100000
set_option maxHeartbeats 4000000
namespace K38
open PySem PySem.Spec PyProof.Rows L2 Sr
/-! ### the errors of its own -/
section
variable {P : Program} {w : World} {K : PySem.W.Frag} {mg : Str → Option Value} {base : Heap}
abbrev s_BadNumber___init__ : Stmt := inClass (top 8) 0
theorem sc_BadNumber___init__ : FnScope ["self", "number"] ["self", "number"] (defScope s_BadNumber___init__) := ⟨rfl, rfl, rfl, by decide +kernel, rfl, by decide +kernel, by decide +kernel⟩
theorem m_BadNumber (E : Err K (He.ga K "BadNumber") (He.fAd K ("BadNumber", some "__init__")) "number") (D : DfnM K "BadNumber" "__init__" "BadNumber.__init__" s_BadNumber___init__) :
    CalM P w K mg base CX0 1 (He.fAd K ("BadNumber", some "__init__")) ["self", "number"] (spErr K (He.ga K "BadNumber") "number") := by
  refine D.cal sc_BadNumber___init__ (fun _ _ _ _ _ _ us hl => match us, hl with | [_, _], _ => rfl) (fun vs H Q E' h => ?_) fun cdv A outer s H vs Q E' hr h => ?_
  · obtain ⟨a, v, rfl, _⟩ := h
    rfl
  obtain ⟨a, v, rfl, ha, q⟩ := h
  refine ⟨_, (pss_one (ps_ost (pv 0) (pv 1))), ?_⟩
  exact ⟨_, rfl, _, rfl, a, _, rfl, E.oex, E.no, .inl ⟨ha, q⟩⟩
abbrev s_BadName___init__ : Stmt := inClass (top 9) 0
theorem sc_BadName___init__ : FnScope ["self", "thing"] ["self", "thing"] (defScope s_BadName___init__) := ⟨rfl, rfl, rfl, by decide +kernel, rfl, by decide +kernel, by decide +kernel⟩
theorem m_BadName (E : Err K (He.ga K "BadName") (He.fAd K ("BadName", some "__init__")) "thing") (D : DfnM K "BadName" "__init__" "BadName.__init__" s_BadName___init__) :
    CalM P w K mg base CX0 1 (He.fAd K ("BadName", some "__init__")) ["self", "thing"] (spErr K (He.ga K "BadName") "thing") := by
  refine D.cal sc_BadName___init__ (fun _ _ _ _ _ _ us hl => match us, hl with | [_, _], _ => rfl) (fun vs H Q E' h => ?_) fun cdv A outer s H vs Q E' hr h => ?_
  · obtain ⟨a, v, rfl, _⟩ := h
    rfl
  obtain ⟨a, v, rfl, ha, q⟩ := h
  refine ⟨_, (pss_one (ps_ost (pv 0) (pv 1))), ?_⟩
  exact ⟨_, rfl, _, rfl, a, _, rfl, E.oex, E.no, .inl ⟨ha, q⟩⟩
abbrev s_BadCoins___init__ : Stmt := inClass (top 10) 0
theorem sc_BadCoins___init__ : FnScope ["self", "thing"] ["self", "thing"] (defScope s_BadCoins___init__) := ⟨rfl, rfl, rfl, by decide +kernel, rfl, by decide +kernel, by decide +kernel⟩
theorem m_BadCoins (E : Err K (He.ga K "BadCoins") (He.fAd K ("BadCoins", some "__init__")) "thing") (D : DfnM K "BadCoins" "__init__" "BadCoins.__init__" s_BadCoins___init__) :
    CalM P w K mg base CX0 1 (He.fAd K ("BadCoins", some "__init__")) ["self", "thing"] (spErr K (He.ga K "BadCoins") "thing") := by
  refine D.cal sc_BadCoins___init__ (fun _ _ _ _ _ _ us hl => match us, hl with | [_, _], _ => rfl) (fun vs H Q E' h => ?_) fun cdv A outer s H vs Q E' hr h => ?_
  · obtain ⟨a, v, rfl, _⟩ := h
    rfl
  obtain ⟨a, v, rfl, ha, q⟩ := h
  refine ⟨_, (pss_one (ps_ost (pv 0) (pv 1))), ?_⟩
  exact ⟨_, rfl, _, rfl, a, _, rfl, E.oex, E.no, .inl ⟨ha, q⟩⟩
abbrev s_BadDebts___init__ : Stmt := inClass (top 11) 0
theorem sc_BadDebts___init__ : FnScope ["self", "thing"] ["self", "thing"] (defScope s_BadDebts___init__) := ⟨rfl, rfl, rfl, by decide +kernel, rfl, by decide +kernel, by decide +kernel⟩
theorem m_BadDebts (E : Err K (He.ga K "BadDebts") (He.fAd K ("BadDebts", some "__init__")) "thing") (D : DfnM K "BadDebts" "__init__" "BadDebts.__init__" s_BadDebts___init__) :
    CalM P w K mg base CX0 1 (He.fAd K ("BadDebts", some "__init__")) ["self", "thing"] (spErr K (He.ga K "BadDebts") "thing") := by
  refine D.cal sc_BadDebts___init__ (fun _ _ _ _ _ _ us hl => match us, hl with | [_, _], _ => rfl) (fun vs H Q E' h => ?_) fun cdv A outer s H vs Q E' hr h => ?_
  · obtain ⟨a, v, rfl, _⟩ := h
    rfl
  obtain ⟨a, v, rfl, ha, q⟩ := h
  refine ⟨_, (pss_one (ps_ost (pv 0) (pv 1))), ?_⟩
  exact ⟨_, rfl, _, rfl, a, _, rfl, E.oex, E.no, .inl ⟨ha, q⟩⟩
abbrev s_NoMember___init__ : Stmt := inClass (top 12) 0
theorem sc_NoMember___init__ : FnScope ["self", "member"] ["self", "member"] (defScope s_NoMember___init__) := ⟨rfl, rfl, rfl, by decide +kernel, rfl, by decide +kernel, by decide +kernel⟩
theorem m_NoMember (E : Err K (He.ga K "NoMember") (He.fAd K ("NoMember", some "__init__")) "member") (D : DfnM K "NoMember" "__init__" "NoMember.__init__" s_NoMember___init__) :
    CalM P w K mg base CX0 1 (He.fAd K ("NoMember", some "__init__")) ["self", "member"] (spErr K (He.ga K "NoMember") "member") := by
  refine D.cal sc_NoMember___init__ (fun _ _ _ _ _ _ us hl => match us, hl with | [_, _], _ => rfl) (fun vs H Q E' h => ?_) fun cdv A outer s H vs Q E' hr h => ?_
  · obtain ⟨a, v, rfl, _⟩ := h
    rfl
  obtain ⟨a, v, rfl, ha, q⟩ := h
  refine ⟨_, (pss_one (ps_ost (pv 0) (pv 1))), ?_⟩
  exact ⟨_, rfl, _, rfl, a, _, rfl, E.oex, E.no, .inl ⟨ha, q⟩⟩
end
end K38

set_option Elab.async false
set_option linter.all false
set_option maxRecDepth 100000
set_option maxHeartbeats 4000000
namespace K38
open PySem PySem.Spec PyProof.Rows L2 Sr
def keyD : Key → Dt
  | .inl i => .int i
  | .inr s => .str s
theorem kit_nd {K : PySem.W.Frag} {d : Dt} (nd : d ≠ .dic) : PySem.W.kitOne K (.type (tyN d)) (.type "dict") = some false := by
  cases d with
  | non => exact kit_ty (show kitB "NoneType" "dict" = some false by decide +kernel)
  | bl b => exact kit_ty (show kitB "bool" "dict" = some false by decide +kernel)
  | int i => exact kit_ty (show kitB "int" "dict" = some false by decide +kernel)
  | str s => exact kit_ty (show kitB "str" "dict" = some false by decide +kernel)
  | lst l => exact kit_ty (show kitB "list" "dict" = some false by decide +kernel)
  | tup l => exact kit_ty (show kitB "tuple" "dict" = some false by decide +kernel)
  | dic => exact absurd rfl nd
def coinOk : Dt → Bool
  | .int i => decide (0 ≤ i)
  | _ => false
/-- an entry of coins: its key is not too long, its value is an atom -/
def coinE (p : Key × V) (b : Bool) : Prop := (∀ s, p.1 = .inr s → s.length ≤ 1000) ∧ ∃ d, (∀ G, Is G p.2 d) ∧ (nameOk (keyD p.1) && coinOk d) = b
theorem key_is {H : Hp} {k : Key} (h : ∀ s, k = .inr s → s.length ≤ 1000) : Is H (kV k) (keyD k) := by
  cases k with
  | inl i => exact .int i
  | inr s => exact .str s (h s rfl)
def spCkC (K : PySem.W.Frag) : Sp := fun vs H Q E => ∃ v, vs = [v] ∧ ((∃ (a : Addr) (kvs : List (Key × V)), v = .ref a ∧ H a = some (.dK kvs) ∧ (kvs.map (·.1)).Nodup ∧ kvs.length ≤ 60 ∧
    (((∀ p ∈ kvs, coinE p true) ∧ ∀ H', Same H H' → Q .non H') ∨
     ∃ (j : Nat) (p : Key × V), kvs[j]? = some p ∧ (∀ i q, i < j → kvs[i]? = some q → coinE q true) ∧ coinE p false ∧ ∀ H' e, (∀ b o, b ≠ a → H b = some o → H' b = some o) → H' e = none → E (.ref (He.ga K "BadCoins")) (some e) (upd H' e (.xd [("thing", kV p.1)])))) ∨
   ∃ d, Is H v d ∧ d ≠ .dic ∧ ∀ H' e, Same H H' → H' e = none → E (.ref (He.ga K "BadCoins")) (some e) (upd H' e (.xd [("thing", v)])))
section
variable {P : Program} {w : World} {K : PySem.W.Frag} {mg : Str → Option Value} {base : Heap}
abbrev s__check_coins : Stmt := top 16
theorem sc__check_coins : FnScope ["coins", "member"] ["coins"] (defScope s__check_coins) := ⟨rfl, rfl, rfl, by decide +kernel, rfl, by decide +kernel, by decide +kernel⟩
theorem c__check_coins (T : Txt K mg) (R : ErrAt P w K mg base "BadCoins" "thing" "thing") (D : Dfn K mg "_check_coins" s__check_coins) (C_is_name : Cal P w K mg base 1 "is_name" ["thing"] (spB nameOk)) (C_is_integer : Cal P w K mg base 1 "is_integer" ["thing"] (spB isInteger)) :
    CalE P w K mg base 3 "_check_coins" ["coins"] (spCkC K) := by
  refine D.calE sc__check_coins (fun _ _ _ _ _ _ us hl => match us, hl with | [_], _ => rfl) (fun vs H Q E h => ?_) fun cdv A outer s H vs Q E hr h => ?_
  · obtain ⟨v, rfl, _⟩ := h
    rfl
  obtain ⟨v, rfl, h⟩ := h
  refine ⟨_, (pss_cons (ps_if (pt_not (pt_val (pe_callB (id := "isinstance") call_isi (by rfl) T.isinstance (by decide +kernel) (pa_cons (pv 0) (pa_cons (pe_tyv (n := "dict") (by rfl) T.dict (by decide +kernel)) pa_nil))))) (pss_one (ps_raise rfl (takes_of rfl rfl rfl rfl) (R.mk_ hr (by decide) (by rfl) (pa_cons (pv 0) pa_nil)))) pss_nil)
      (pss_one (ps_lock (ps_for (L2.passes_of rfl) rfl (pi_keys (pv 0)) (pg_name (i := 1) sc__check_coins.nd rfl (by first | exact Or.inl rfl | exact Or.inr rfl))
      (pss_one (ps_if (PW.pt (pw_or (pt_not (pt_val (pe_cal C_is_name hr (by first | decide | omega) (by rfl) (pa_cons (pv 1) pa_nil)))) (pw_or (pt_not (pt_val (pe_cal C_is_integer hr (by first | decide | omega) (by rfl) (pa_cons (pe_dget (hu_of hr) (pv 0) (pv 1) (fun _ _ => rfl)) pa_nil)))) (pw_or1 (pt_cmpR op_lt (pe_dget (hu_of hr) (pv 0) (pv 1) (fun _ _ => rfl)) pe_int (nomark _)))))) (pss_one (ps_raise rfl (takes_of rfl rfl rfl rfl) (R.mk_ hr (by decide) (by rfl) (pa_cons (pv 1) pa_nil)))) pss_nil)))))), ?_⟩
  rcases h with ⟨a, kvs, rfl, ha, nd, lz, h⟩ | ⟨d, hv, nd, q⟩
  · obtain ⟨j, lj, gd, bad, fin⟩ : ∃ j, j ≤ kvs.length ∧ (∀ i q, i < j → kvs[i]? = some q → coinE q true) ∧ (∀ p, kvs[j]? = some p → coinE p false ∧ ∀ H' e, (∀ b o, b ≠ a → H b = some o → H' b = some o) → H' e = none → E (.ref (He.ga K "BadCoins")) (some e) (upd H' e (.xd [("thing", kV p.1)]))) ∧ (j = kvs.length → ∀ H', Same H H' → Q .non H') := by
      rcases h with ⟨g, q⟩ | ⟨j, p, hj, g, b, q⟩
      · exact ⟨kvs.length, Nat.le_refl _, fun i q lt e => g q (List.mem_of_getElem? e), fun p e => by have := (List.getElem?_eq_some_iff.mp e).1; omega, fun _ => q⟩
      · have lj := (List.getElem?_eq_some_iff.mp hj).1
        refine ⟨j, by omega, g, fun p' e => ?_, fun z => by omega⟩
        rw [hj] at e
        cases e
        exact ⟨b, q⟩
    refine ⟨_, rfl, _, _, _, _, _, rfl, .ty _, .base (.dK ha), kit_ty (show kitB "dict" "dict" = some true by decide +kernel), _, rfl, iteF ?_⟩
    have fz : ∀ od, ∀ b o, b ≠ a → H b = some o → (upd H a (.frz od (.dK kvs))) b = some o := fun od b o hb e => by rw [upd_ne hb]; exact e
    refine ⟨a, _, ha, trivial, fun od => ⟨_, rfl, a, od, rfl, .inl ⟨kvs, upd_same, for_it walk_keys (fun i σ H' => (∃ v, σ = [some (.ref a), v]) ∧ Same (upd H a (.frz od (.dK kvs))) H' ∧ i ≤ j) ⟨⟨_, rfl⟩, Same.refl _, Nat.zero_le _⟩ (fun i σ H' hi p => p.2.1 _ _ upd_same) ?_ ?_⟩⟩⟩
    · rintro i u σ H1 H2 hi ⟨⟨v, rfl⟩, s1, ij⟩ ⟨rfl, k, v, hk, rfl⟩
      have vv : valV kvs k = some v := val_nodup nd _ (List.mem_of_getElem? hk)
      obtain ⟨b, ce, hb⟩ : ∃ b, coinE (k, v) b ∧ ((b = true ∧ i < j) ∨ (b = false ∧ ∀ H' e, (∀ b o, b ≠ a → H b = some o → H' b = some o) → H' e = none → E (.ref (He.ga K "BadCoins")) (some e) (upd H' e (.xd [("thing", kV k)])))) := by
        by_cases c : i < j
        · exact ⟨true, gd i _ c hk, .inl ⟨rfl, c⟩⟩
        · obtain rfl : i = j := by omega
          obtain ⟨h1, h2⟩ := bad _ hk
          exact ⟨false, h1, .inr ⟨rfl, h2⟩⟩
      obtain ⟨lk, d, hv, eb⟩ := ce
      have dg : ∀ {G : Hp}, Same H2 G → DGet G a (kV k) (some v) := fun {G} sG => .inl ⟨kvs, k, .inr ⟨od, sG _ _ (s1 _ _ upd_same)⟩, rfl, vv.symm⟩
      have raise : b = false → ∀ {G : Hp}, Same H2 G → ∀ e, G e = none → E (.ref (He.ga K "BadCoins")) (some e) (upd G e (.xd [("thing", kV k)])) := fun z {G} sG e he => by
        rcases hb with ⟨z2, _⟩ | ⟨_, q⟩
        · rw [z] at z2; cases z2
        · exact q G e (fun b o nb h => sG _ _ (s1 _ _ (fz od b o nb h))) he
      have stay : b = true → i + 1 ≤ j := fun z => by
        rcases hb with ⟨_, c⟩ | ⟨z2, _⟩
        · omega
        · rw [z] at z2; cases z2
      refine ⟨_, rfl, kV k, keyD k, rfl, key_is lk, fun H3 s3 => ⟨_, rfl, ?_⟩⟩
      have eb1 : (nameOk (keyD k) && coinOk d) = b := eb
      clear eb
      cases hn : nameOk (keyD k) with
      | false =>
        rw [hn, Bool.false_and] at eb1
        exact iteT (iteT ⟨_, rfl, err_at fun e he => raise eb1.symm s3 e he⟩)
      | true =>
        rw [hn, Bool.true_and] at eb1
        refine iteF ⟨_, rfl, _, rfl, a, v, rfl, dg s3, v, d, rfl, hv _, fun H4 s4 => ⟨_, rfl, ?_⟩⟩
        have s24 := s3.trans s4
        cases hi : isInteger d with
        | false =>
          have e : coinOk d = false := by cases d <;> first | rfl | cases hi
          rw [e] at eb1
          exact iteT (iteT ⟨_, rfl, err_at fun e he => raise eb1.symm s24 e he⟩)
        | true =>
          obtain ⟨z, rfl⟩ : ∃ z, d = .int z := by
            cases d with
            | int z => exact ⟨z, rfl⟩
            | _ => cases hi
          obtain rfl : v = .int z := by
            have := hv H
            cases this
            rfl
          refine iteF ⟨_, rfl, _, rfl, a, .int z, rfl, dg s24, _, _, rfl, rfl, _, rfl, ?_⟩
          have eb1 : decide (0 ≤ z) = b := eb1
          by_cases c : z < 0
          · rw [decide_eq_false (show ¬ 0 ≤ z by omega)] at eb1
            rw [decide_eq_true c]
            exact iteT ⟨_, rfl, err_at fun e he => raise eb1.symm s24 e he⟩
          · rw [decide_eq_true (show 0 ≤ z by omega)] at eb1
            rw [decide_eq_false c]
            exact iteF ⟨⟨_, rfl⟩, s1.trans s24, stay eb1.symm⟩
    · rintro σ H1 ⟨⟨v, rfl⟩, s1, ij⟩
      have sH : Same H (upd H1 a (.dK kvs)) := fun b o e => by
        by_cases hb : b = a
        · rw [hb] at e ⊢
          rw [ha] at e
          cases e
          exact upd_same
        · rw [upd_ne hb]
          exact s1 _ _ (fz od b o hb e)
      exact ⟨s1 _ _ upd_same, fin (by omega) _ sH⟩
  · exact ⟨_, rfl, v, _, _, _, _, rfl, .ty _, hv.ty, kit_nd nd, _, rfl, iteT ⟨_, rfl, err_at fun e he => q H e (Same.refl H) he⟩⟩
end
end K38

set_option Elab.async false
set_option linter.all false
set_option maxRecDepth 100000
set_option maxHeartbeats 4000000
namespace K38
open PySem PySem.Spec PyProof.Rows L2 Sr
mutual
def plain : Dt → Bool
  | .dic => false
  | .lst l => plains l
  | .tup l => plains l
  | _ => true
def plains : List Dt → Bool
  | [] => true
  | d :: r => plain d && plains r
end
def SeqsK (H H' : Hp) : Prop := ∀ b xs, (H b = some (.tup xs) → H' b = some (.tup xs)) ∧ (H b = some (.lst xs) → H' b = some (.lst xs))
theorem SeqsK.of {H H' : Hp} (s : Same H H') : SeqsK H H' := fun b xs => ⟨s _ _, s _ _⟩
theorem SeqsK.trans {H H' H'' : Hp} (a : SeqsK H H') (b : SeqsK H' H'') : SeqsK H H'' := fun c xs => ⟨fun e => (b c xs).1 ((a c xs).1 e), fun e => (b c xs).2 ((a c xs).2 e)⟩
theorem SeqsK.frz {H : Hp} {r : Addr} {kvs : List (Key × V)} {o : HO} (h : H r = some (.dK kvs)) : SeqsK H (upd H r o) := fun b xs =>
  ⟨fun e => by rw [upd_ne (ne_of e h (by intro z; cases z))]; exact e, fun e => by rw [upd_ne (ne_of e h (by intro z; cases z))]; exact e⟩
theorem SeqsK.ins {H : Hp} {r : Addr} {c dx : Addr} {fs : List (Str × V)} {o : HO} (h : H r = some (.ins c dx fs)) : SeqsK H (upd H r o) := fun b xs =>
  ⟨fun e => by rw [upd_ne (ne_of e h (by intro z; cases z))]; exact e, fun e => by rw [upd_ne (ne_of e h (by intro z; cases z))]; exact e⟩
mutual
theorem is_seqs {H H' : Hp} (k : SeqsK H H') : ∀ {v : V} {d : Dt}, Is H v d → plain d = true → Is H' v d
  | _, _, .non, _ => .non
  | _, _, .bl b, _ => .bl b
  | _, _, .int i, _ => .int i
  | _, _, .str s h, _ => .str s h
  | _, _, .tup h r z, p => .tup ((k _ _).1 h) (isA_seqs k r p) z
  | _, _, .lst h r z, p => .lst ((k _ _).2 h) (isA_seqs k r p) z
  | _, _, .dic _, p => by cases p
theorem isA_seqs {H H' : Hp} (k : SeqsK H H') : ∀ {vs : List V} {ds : List Dt}, IsA H vs ds → plains ds = true → IsA H' vs ds
  | _, _, .nil, _ => .nil
  | _, _, .cons h r, p => .cons (is_seqs k h (Bool.and_eq_true_iff.mp p).1) (isA_seqs k r (Bool.and_eq_true_iff.mp p).2)
end
/-- an entry of debts -/
def rowK (k : Key) (d : Dt) : Bool := match k with
  | .inr m => rowOk m d
  | .inl _ => false
def debtE (H : Hp) (p : Key × V) (b : Bool) : Prop := (∀ s, p.1 = .inr s → s.length ≤ 1000) ∧ ∃ d, Is H p.2 d ∧ plain d = true ∧ (nameOk (keyD p.1) && rowK p.1 d) = b
def spCkD (K : PySem.W.Frag) : Sp := fun vs H Q E => ∃ v, vs = [v] ∧ ((∃ (a : Addr) (kvs : List (Key × V)), v = .ref a ∧ H a = some (.dK kvs) ∧ (kvs.map (·.1)).Nodup ∧ kvs.length ≤ 60 ∧
    (((∀ p ∈ kvs, debtE H p true) ∧ ∀ H', Same H H' → Q .non H') ∨
     ∃ (j : Nat) (p : Key × V), kvs[j]? = some p ∧ (∀ i q, i < j → kvs[i]? = some q → debtE H q true) ∧ debtE H p false ∧ ∀ H' e, (∀ b o, b ≠ a → H b = some o → H' b = some o) → H' e = none → E (.ref (He.ga K "BadDebts")) (some e) (upd H' e (.xd [("thing", kV p.1)])))) ∨
   ∃ d, Is H v d ∧ d ≠ .dic ∧ ∀ H' e, Same H H' → H' e = none → E (.ref (He.ga K "BadDebts")) (some e) (upd H' e (.xd [("thing", v)])))
section
variable {P : Program} {w : World} {K : PySem.W.Frag} {mg : Str → Option Value} {base : Heap}
abbrev s__check_debts : Stmt := top 17
theorem sc__check_debts : FnScope ["debts", "member"] ["debts"] (defScope s__check_debts) := ⟨rfl, rfl, rfl, by decide +kernel, rfl, by decide +kernel, by decide +kernel⟩
theorem c__check_debts (T : Txt K mg) (R : ErrAt P w K mg base "BadDebts" "thing" "thing") (D : Dfn K mg "_check_debts" s__check_debts) (C_is_name : Cal P w K mg base 1 "is_name" ["thing"] (spB nameOk)) (C_is_row : Cal P w K mg base 3 "_is_row" ["member", "thing"] (spM rowOk)) :
    CalE P w K mg base 4 "_check_debts" ["debts"] (spCkD K) := by
  refine D.calE sc__check_debts (fun _ _ _ _ _ _ us hl => match us, hl with | [_], _ => rfl) (fun vs H Q E h => ?_) fun cdv A outer s H vs Q E hr h => ?_
  · obtain ⟨v, rfl, _⟩ := h
    rfl
  obtain ⟨v, rfl, h⟩ := h
  refine ⟨_, (pss_cons (ps_if (pt_not (pt_val (pe_callB (id := "isinstance") call_isi (by rfl) T.isinstance (by decide +kernel) (pa_cons (pv 0) (pa_cons (pe_tyv (n := "dict") (by rfl) T.dict (by decide +kernel)) pa_nil))))) (pss_one (ps_raise rfl (takes_of rfl rfl rfl rfl) (R.mk_ hr (by decide) (by rfl) (pa_cons (pv 0) pa_nil)))) pss_nil)
      (pss_one (ps_lock (ps_for (L2.passes_of rfl) rfl (pi_keys (pv 0)) (pg_name (i := 1) sc__check_debts.nd rfl (by first | exact Or.inl rfl | exact Or.inr rfl))
      (pss_one (ps_if (PW.pt (pw_or (pt_not (pt_val (pe_cal C_is_name hr (by first | decide | omega) (by rfl) (pa_cons (pv 1) pa_nil)))) (pw_or1 (pt_not (pt_val (pe_cal C_is_row hr (by first | decide | omega) (by rfl) (pa_cons (pv 1) (pa_cons (pe_dget (hu_of hr) (pv 0) (pv 1) (fun _ _ => rfl)) pa_nil)))))))) (pss_one (ps_raise rfl (takes_of rfl rfl rfl rfl) (R.mk_ hr (by decide) (by rfl) (pa_cons (pv 1) pa_nil)))) pss_nil)))))), ?_⟩
  rcases h with ⟨a, kvs, rfl, ha, nd, lz, h⟩ | ⟨d, hv, nd, q⟩
  · obtain ⟨j, lj, gd, bad, fin⟩ : ∃ j, j ≤ kvs.length ∧ (∀ i q, i < j → kvs[i]? = some q → debtE H q true) ∧ (∀ p, kvs[j]? = some p → debtE H p false ∧ ∀ H' e, (∀ b o, b ≠ a → H b = some o → H' b = some o) → H' e = none → E (.ref (He.ga K "BadDebts")) (some e) (upd H' e (.xd [("thing", kV p.1)]))) ∧ (j = kvs.length → ∀ H', Same H H' → Q .non H') := by
      rcases h with ⟨g, q⟩ | ⟨j, p, hj, g, b, q⟩
      · exact ⟨kvs.length, Nat.le_refl _, fun i q lt e => g q (List.mem_of_getElem? e), fun p e => by have := (List.getElem?_eq_some_iff.mp e).1; omega, fun _ => q⟩
      · have lj := (List.getElem?_eq_some_iff.mp hj).1
        refine ⟨j, by omega, g, fun p' e => ?_, fun z => by omega⟩
        rw [hj] at e
        cases e
        exact ⟨b, q⟩
    refine ⟨_, rfl, _, _, _, _, _, rfl, .ty _, .base (.dK ha), kit_ty (show kitB "dict" "dict" = some true by decide +kernel), _, rfl, iteF ?_⟩
    have fz : ∀ od, ∀ b o, b ≠ a → H b = some o → (upd H a (.frz od (.dK kvs))) b = some o := fun od b o hb e => by rw [upd_ne hb]; exact e
    refine ⟨a, _, ha, trivial, fun od => ⟨_, rfl, a, od, rfl, .inl ⟨kvs, upd_same, for_it walk_keys (fun i σ H' => (∃ v, σ = [some (.ref a), v]) ∧ Same (upd H a (.frz od (.dK kvs))) H' ∧ i ≤ j) ⟨⟨_, rfl⟩, Same.refl _, Nat.zero_le _⟩ (fun i σ H' hi p => p.2.1 _ _ upd_same) ?_ ?_⟩⟩⟩
    · rintro i u σ H1 H2 hi ⟨⟨v, rfl⟩, s1, ij⟩ ⟨rfl, k, v, hk, rfl⟩
      have vv : valV kvs k = some v := val_nodup nd _ (List.mem_of_getElem? hk)
      obtain ⟨b, ce, hb⟩ : ∃ b, debtE H (k, v) b ∧ ((b = true ∧ i < j) ∨ (b = false ∧ ∀ H' e, (∀ b o, b ≠ a → H b = some o → H' b = some o) → H' e = none → E (.ref (He.ga K "BadDebts")) (some e) (upd H' e (.xd [("thing", kV k)])))) := by
        by_cases c : i < j
        · exact ⟨true, gd i _ c hk, .inl ⟨rfl, c⟩⟩
        · obtain rfl : i = j := by omega
          obtain ⟨h1, h2⟩ := bad _ hk
          exact ⟨false, h1, .inr ⟨rfl, h2⟩⟩
      obtain ⟨lk, d, hv, pl, eb⟩ := ce
      have dg : ∀ {G : Hp}, Same H2 G → DGet G a (kV k) (some v) := fun {G} sG => .inl ⟨kvs, k, .inr ⟨od, sG _ _ (s1 _ _ upd_same)⟩, rfl, vv.symm⟩
      have raise : b = false → ∀ {G : Hp}, Same H2 G → ∀ e, G e = none → E (.ref (He.ga K "BadDebts")) (some e) (upd G e (.xd [("thing", kV k)])) := fun z {G} sG e he => by
        rcases hb with ⟨z2, _⟩ | ⟨_, q⟩
        · rw [z] at z2; cases z2
        · exact q G e (fun b o nb h => sG _ _ (s1 _ _ (fz od b o nb h))) he
      have stay : b = true → i + 1 ≤ j := fun z => by
        rcases hb with ⟨_, c⟩ | ⟨z2, _⟩
        · omega
        · rw [z] at z2; cases z2
      refine ⟨_, rfl, kV k, keyD k, rfl, key_is lk, fun H3 s3 => ⟨_, rfl, ?_⟩⟩
      have eb1 : (nameOk (keyD k) && rowK k d) = b := eb
      clear eb
      cases hn : nameOk (keyD k) with
      | false =>
        rw [hn, Bool.false_and] at eb1
        exact iteT (iteT ⟨_, rfl, err_at fun e he => raise eb1.symm s3 e he⟩)
      | true =>
        rw [hn, Bool.true_and] at eb1
        cases k with
        | inl z => cases hn
        | inr m =>
          have eb2 : rowOk m d = b := eb1
          have sk : SeqsK H H3 := (SeqsK.frz ha).trans (SeqsK.of (s1.trans s3))
          refine iteF ⟨_, rfl, _, rfl, _, rfl, a, v, rfl, dg s3, m, v, d, rfl, is_seqs sk hv pl, fun H4 s4 => ⟨_, rfl, ?_⟩⟩
          have s24 := s3.trans s4
          cases hw : rowOk m d with
          | false =>
            rw [hw] at eb2
            exact iteT ⟨_, rfl, err_at fun e he => raise eb2.symm s24 e he⟩
          | true =>
            rw [hw] at eb2
            exact iteF ⟨⟨_, rfl⟩, s1.trans s24, stay eb2.symm⟩
    · rintro σ H1 ⟨⟨v, rfl⟩, s1, ij⟩
      have sH : Same H (upd H1 a (.dK kvs)) := fun b o e => by
        by_cases hb : b = a
        · rw [hb] at e ⊢
          rw [ha] at e
          cases e
          exact upd_same
        · rw [upd_ne hb]
          exact s1 _ _ (fz od b o hb e)
      exact ⟨s1 _ _ upd_same, fin (by omega) _ sH⟩
  · exact ⟨_, rfl, v, _, _, _, _, rfl, .ty _, hv.ty, kit_nd nd, _, rfl, iteT ⟨_, rfl, err_at fun e he => q H e (Same.refl H) he⟩⟩
end
end K38

set_option Elab.async false
set_option linter.all false
set_option maxRecDepth 100000
set_option maxHeartbeats 4000000
namespace Sr
open PySem PySem.Spec PyProof.Rows L2
/-! ### == and != by an own __eq__, whatever it says -/
/-- what the right side may be: an instance, or a list -/
def EqRt (K : PySem.W.Frag) (C : Addr) (H : Hp) (y : V) : Prop := (∃ b C' dy gs, y = .ref b ∧ H b = some (.ins C' dy gs) ∧ PySem.W.notFirst K C (.ref C') = true) ∨ ∃ b ys, y = .ref b ∧ H b = some (.lst ys)
def rEqIns (K : PySem.W.Frag) (C : Addr) (sp : Sp) (E : XK) : R2 := fun x y H Q => ∃ a dx fs, x = .ref a ∧ H a = some (.ins C dx fs) ∧ EqRt K C H y ∧ sp [x, y] H Q E
theorem first_list {K : PySem.W.Frag} {C : Addr} : PySem.W.notFirst K C (.type "list") = true := by
  have e : fastBuiltinMro "list" = some [.type "list", .type "object"] := by decide +kernel
  have s : PySem.W.subIn K (.type "list") (.ref C) = some false := by
    show (fastBuiltinMro "list").map (·.contains (.ref C)) = some false
    rw [e]
    first
      | rfl
      | simp
  unfold PySem.W.notFirst
  rw [s]
  simp
theorem first_self {K : PySem.W.Frag} {C : Addr} : PySem.W.notFirst K C (.ref C) = true := by
  unfold PySem.W.notFirst
  simp
section
variable {X : Cx} {pins : List (Addr × Obj)} {σ : L2.St} {H : Hp} {s : Shared}
/-- the type of the right side -/
theorem EqRt.ty {C : Addr} {y : V} {u : Value} (I : L2.Inv X pins σ H s) (ry : L2.RelV y u) (h : EqRt X.K C H y) : ∃ tb, PySem.W.notFirst X.K C tb = true ∧ PySem.W.Looks (model X.prog X.w) s.heap (typeOf u) tb := by
  rcases h with ⟨b, C', dy, gs, rfl, hb, hn⟩ | ⟨b, ys, rfl, hb⟩
  · cases ry
    obtain ⟨mA, J, _⟩ := ins_get I.hok hb
    obtain ⟨od, J, _⟩ := J.look
    exact ⟨_, hn, J.type⟩
  · cases ry
    obtain ⟨_, its, n, _, hq⟩ := (show ObjOk X.prog X.w H s.heap b (.lst ys) from I.hok b _ hb)
    exact ⟨_, first_list, (PySem.W.Looks.ld (part := none) hq).andThen .now⟩
variable {CX : CXT} {k : Nat} {C f : Addr} {fd : FuncData} {ps : List Str} {sp : Sp} {E : XK}
theorem op_eqIns (F : FnOk X.prog X.w X.K X.mg X.base CX k f fd ps sp) (hr : Room k X.A) (hb : Binds X.K fd ps []) (hx : Passes CX X E) (hs : PySem.W.findIn X.K (.ref C) "__eq__" = some (some (.ref f))) (hf : PySem.W.isFn X.K (.ref f) = true) :
    OpR X (compareOp .Eq) (rEqIns X.K C sp E) := by
  intro pins s σ H x y v u Q I rx ry h
  obtain ⟨a, dx, fs, rfl, ha, hy, q⟩ := h
  cases rx
  obtain ⟨mA, J, _⟩ := ins_get I.hok ha
  obtain ⟨od, J, _⟩ := J.look
  obtain ⟨m, hF⟩ := I.fr
  obtain ⟨tb, hn, ht⟩ := hy.ty I ry
  show wpAny _ _ (richCompare .Eq (.ref a) u) _ _ _
  refine PySem.W.cmp_K (op := .Eq) (tb := tb) hr.units0 hF I.ok.mod.kin J ht hn hs hf ?_
  refine thn (run_fn (us := [.ref a, u]) (vs := [.ref a, y]) (dvs := []) (ds := []) F hr hb .nil hx I (.cons rfl (.cons ry .nil)) q) fun w s' z => ?_
  obtain ⟨z', H', I', rz, qz⟩ := z
  exact SlX.cmpback rz ⟨z', H', I', rz, qz⟩
/-- object.__ne__ asks the own __eq__ -/
theorem ne_entry {A : Around} {Em : Value → Shared → Prop} {x : Addr} {ox : Obj} {od : Option Obj} {y : Value} {Q : Fin → Shared → Prop} (hu : A.units < cLine) (Xk : X.K.In s.heap) (J : PySem.W.InstAt s.heap x ox C od)
    (hs : PySem.W.findIn X.K (.ref C) "__eq__" = some (some (.ref f))) (hf : PySem.W.isFn X.K (.ref f) = true)
    (h : wpAny (model X.prog X.w) A (call (.ref f) [.ref x, y]) (fun v s' => ∃ b, v = .bool b ∧ Q (.done (.ret (.bool (!b)))) s') Em s) : wpAny (model X.prog X.w) A (Builtin.«object.__ne__» ⟨[.ref x, y], []⟩) Q Em s := by
  have eq_ : wpAny (model X.prog X.w) A (callSpecialIfBound? (.ref x) (Str.ofString "__eq__") [y]) (fun r s' => ∃ b, r = some (.bool b) ∧ Q (.done (.ret (.bool (!b)))) s') Em s :=
    PySem.W.ifBound_K Xk J hs hf (thn h fun v s' ⟨b, e, q⟩ => ⟨b, by rw [e], q⟩)
  unfold Builtin.«object.__ne__»
  repeat (first
    | with_reducible refine wpAny_cRoomFor hu ?_
    | (refine wpAny_bind (m := callSpecialIfBound? (.ref x) (Str.ofString "__eq__") [y]) (thn eq_ fun r s' z => ?_)
       obtain ⟨b, rfl, q⟩ := z
       repeat (first | exact q | exact wpAny_pure q | exact wpAny_truthy_bool q | (refine wpAny_bind (m := truthy (.bool _)) (wpAny_truthy_bool ?_)) | wp_step))
    | wp_step)
/-- a special method that is a built-in of object, asked of an instance -/
theorem bound_ne {M : Model} {A : Around} {Em : Value → Shared → Prop} {x : Addr} {ox : Obj} {od : Option Obj} {args : List Value} {Q : Option Value → Shared → Prop} (Xk : X.K.In s.heap) (J : PySem.W.InstAt s.heap x ox C od)
    (hs : PySem.W.findIn X.K (.ref C) "__ne__" = some (some (.builtin "object.__ne__"))) (h : wpAny M A (call (.builtin "object.__ne__") (.ref x :: args)) (fun v => Q (some v)) Em s) : wpAny M A (callSpecialIfBound? (.ref x) "__ne__" args) Q Em s := by
  have out : wpAny M A (call (.builtin "object.__ne__") ([.ref x] ++ args) >>= fun v => pure (some v)) Q Em s := wpAny_bind (thn h fun v s' q => wpAny_pure q)
  have look := PySem.W.looks_findIn (M := M) Xk hs
  simp only [callSpecialIfBound?, bindSpecialIfBound?]
  refine wpAny_holding (wpAny_bind (wpAny_bind (wpAny_bind (J.type.here (look.here (wpAny_bind (wpAny_askSetting (wpAny_ite ?_))))))))
  split
  · exact wpAny_bind (wpAny_of_eq (PySem.F.cmp_object.ne.bind _) (wpAny_pure (by exact out)))
  · exact wpAny_tryCatch (wpAny_bind (wpAny_of_eq (PySem.F.cmp_object.ne.bind _) (wpAny_pure (by exact out))))
/-- the callee runs below a built-in -/
theorem run_in1 {Q : VK} {us : List Value} {vs : List V} (F : FnOk X.prog X.w X.K X.mg X.base CX k f fd ps sp) (hr : Room k X.A.in1) (hb : Binds X.K fd ps []) (hx : Passes CX X E) (I : L2.Inv X pins σ H s) (r : Vals vs us) (h : sp vs H Q E) :
    wpAny (model X.prog X.w) X.A.in1 (call (.ref f) us) (EP X pins σ Q) X.xe s := by
  have hl : us.length = ps.length := by rw [← r.length]; exact F.len _ _ _ _ h
  have bd : BindsTo s fd ⟨us, []⟩ (ps.zip us) := by
    have z := hb s us I.kIn (by simpa using hl)
    simpa using z
  refine wpAny_call (codeAny_mono (F.run X.A.in1 X.stack s H ⟨us, []⟩ us vs Q E hr I.env0.in1 bd r h) ?_)
  rintro (e | fl) s' hq
  · exact hx pins σ H s e s' I hq
  · cases fl with
    | ret w => exact I.after hq
    | _ => exact False.elim hq
/-- x != y -/
def rNeIns (K : PySem.W.Frag) (C : Addr) (sp : Sp) (E : XK) : R2 := fun x y H Q => ∃ a dx fs, x = .ref a ∧ H a = some (.ins C dx fs) ∧ EqRt K C H y ∧ sp [x, y] H (fun v H' => ∃ b, v = .bl b ∧ Q (.bl (!b)) H') E
theorem op_neIns (F : FnOk X.prog X.w X.K X.mg X.base CX k f fd ps sp) (hr : Room (k + 1) X.A) (hb : Binds X.K fd ps []) (hx : Passes CX X E) (hs : PySem.W.findIn X.K (.ref C) "__eq__" = some (some (.ref f))) (hf : PySem.W.isFn X.K (.ref f) = true)
    (hne : PySem.W.findIn X.K (.ref C) "__ne__" = some (some (.builtin "object.__ne__"))) (hm : PySem.W.mroIn X.K C (.type "object") = some true) :
    OpR X (compareOp .NotEq) (rNeIns X.K C sp E) := by
  intro pins s σ H x y v u Q I rx ry h
  obtain ⟨a, dx, fs, rfl, ha, hy, q⟩ := h
  cases rx
  obtain ⟨mA, J, _⟩ := ins_get I.hok ha
  obtain ⟨od, J, _⟩ := J.look
  obtain ⟨tb, hn, ht⟩ := hy.ty I ry
  have Xk := I.kIn
  show wpAny _ _ (richCompare .NotEq (.ref a) u) _ _ _
  have one : wpAny (model X.prog X.w) X.A (tryCompare (.ref a) (Str.ofString "__ne__") u) (fun r s' => ∃ v, r = some v ∧ EP X pins σ Q v s') X.xe s := by
    have own : wpAny (model X.prog X.w) X.A.in1 (call (.ref f) [.ref a, u]) (fun v s' => ∃ b, v = .bool b ∧ EP X pins σ Q (.bool (!b)) s') X.xe s := by
      refine thn (run_in1 (us := [.ref a, u]) (vs := [.ref a, y]) F hr.in1 hb hx I (.cons rfl (.cons ry .nil)) q) fun w s' z => ?_
      obtain ⟨z', H', I', rz, b, rfl, qz⟩ := z
      exact ⟨b, rz, .bl (!b), H', I', rfl, qz⟩
    unfold tryCompare
    refine wpAny_bind (bound_ne Xk J hne (wpAny_call (codeAny_call_builtin PySem.F.cmp_object.ne.plain PySem.F.cmpEntry_ne (PySem.W.check_slot PySem.F.cmpKind_ne PySem.F.cmpSplit_ne (J.type.andThen (PySem.W.looks_mroIn Xk hm)) (PySem.F.cmpArgs_ne _ _)
      (ne_entry hr.in1.units0 Xk J hs hf (thn own fun v s' z => ?_))))))
    obtain ⟨b, rfl, z⟩ := z
    exact ⟨b, rfl, wpAny_pure ⟨_, rfl, z⟩⟩
  unfold richCompare
  simp only [oneThing_ref]
  refine wpAny_holding (wpAny_bind (wpAny_cRoomFor hr.units0 ?_))
  refine wpAny_bind (J.type.here (wpAny_bind (ht.here ?_)))
  have sub : (Value.ref C != tb) = true → PySem.W.subIn X.K tb (.ref C) = some false := fun z => by
    rcases Bool.or_eq_true_iff.mp hn with e | e
    · rw [beq_iff_eq.mp e] at z; simp at z
    · exact beq_iff_eq.mp e
  split
  · next z =>
    refine wpAny_bind ((PySem.W.looks_subIn Xk (sub z)).here ?_)
    simp only [Bool.false_eq_true, if_false]
    refine wpAny_bind (thn one fun r s' z => ?_)
    obtain ⟨v, rfl, hq⟩ := z
    exact wpAny_pure hq
  · refine wpAny_bind (wpAny_pure ?_)
    simp only [Bool.false_eq_true, if_false]
    refine wpAny_bind (thn one fun r s' z => ?_)
    obtain ⟨v, rfl, hq⟩ := z
    exact wpAny_pure hq
/-- len(x) by an own __len__ -/
def rLenIns (C : Addr) (sp : Sp) (E : XK) : List V → Hp → VK → Prop := fun xs H Q => ∃ a dx fs, xs = [.ref a] ∧ H a = some (.ins C dx fs) ∧ sp [.ref a] H (fun v H' => ∃ n : Nat, v = .int (n : Nat) ∧ n ≤ 1000 ∧ Q (.int (n : Nat)) H') E
theorem call_lenIns (F : FnOk X.prog X.w X.K X.mg X.base CX k f fd ps sp) (hr : Room (k + 1) X.A) (hb : Binds X.K fd ps []) (hx : Passes CX X E) (hs : PySem.W.findIn X.K (.ref C) "__len__" = some (some (.ref f))) (hf : PySem.W.typeIn X.K (.ref f) = some (.type "function")) :
    CallR X (.builtin "len") (rLenIns C sp E) := by
  intro pins s σ H xs us Q I r h
  obtain ⟨a, dx, fs, rfl, ha, q⟩ := h
  obtain ⟨u, rfl, ru⟩ := r.one
  cases (show u = Value.ref a from ru)
  obtain ⟨mA, J, _⟩ := ins_get I.hok ha
  obtain ⟨od, J, _⟩ := J.look
  have own := run_in1 (us := [.ref a]) (vs := [.ref a]) F hr.in1 hb hx I (.cons rfl .nil) q
  refine Calls.call_function_entry kind_len plain_len entry_len (args_len1 _) ?_
  unfold Builtin.«len»
  refine wpAny_bind (m := oneArg "len" _) (wpAny_pure (wpAny_bind (m := callSpecial? (.ref a) (Str.ofString "__len__")) ?_))
  unfold callSpecial? specialOf
  refine wpAny_bind (wpAny_bind (J.type.here ((PySem.W.looks_findIn I.kIn hs).here ?_)))
  refine wpAny_holding (wpAny_bind ((PySem.W.bind_fn I.kIn (.ref a) hf).here (wpAny_bind (thn own fun w s' z => wpAny_pure ?_))))
  obtain ⟨z', H', I', rz, n, rfl, hn, qz⟩ := z
  obtain ⟨t, rfl⟩ := (show ∃ t, w = Value.int (n : Nat) t from rz)
  refine wpAny_bind (wpAny_holding (wpAny_pure (wpAny_bind (wpAny_letGo ?_))))
  show wpAny _ _ (if ((n : Nat) : Int) < 0 then _ else _) _ _ _
  rw [if_neg (by omega)]
  show wpAny _ _ (if ((n : Nat) : Int) ≥ 2 ^ 63 then _ else _) _ _ _
  rw [if_neg (by omega)]
  exact wpAny_bind (wpAny_mkInt (wpAny_pure ⟨_, rfl, .int (n : Nat), H', I'.tok _, ⟨_, rfl⟩, qz⟩))
end
end Sr

set_option Elab.async false
set_option linter.all false
set_option maxRecDepth 100000
set_option maxHeartbeats 4000000
namespace Sr
open PySem PySem.Spec PyProof.Rows L2
/-! ### == by an own __eq__, the right side of any common kind -/
theorem first_ty {K : PySem.W.Frag} {C : Addr} {n : String} {l : List Value} (e : fastBuiltinMro n = some l) (h : l.contains (.ref C) = false) : PySem.W.notFirst K C (.type n) = true := by
  have s : PySem.W.subIn K (.type n) (.ref C) = some false := by
    show (fastBuiltinMro n).map (·.contains (.ref C)) = some false
    rw [e, Option.map_some, h]
  unfold PySem.W.notFirst
  rw [s]
  simp
def EqRt2 (K : PySem.W.Frag) (C : Addr) (H : Hp) (y : V) : Prop := EqRt K C H y ∨ y = .non ∨ (∃ z, y = .str z) ∨ ∃ b kvs, y = .ref b ∧ H b = some (.dK kvs)
def rEqIns2 (K : PySem.W.Frag) (C : Addr) (sp : Sp) (E : XK) : R2 := fun x y H Q => ∃ a dx fs, x = .ref a ∧ H a = some (.ins C dx fs) ∧ EqRt2 K C H y ∧ sp [x, y] H Q E
section
variable {X : Cx} {pins : List (Addr × Obj)} {σ : L2.St} {H : Hp} {s : Shared}
theorem EqRt2.ty {C : Addr} {y : V} {u : Value} (I : L2.Inv X pins σ H s) (ry : L2.RelV y u) (h : EqRt2 X.K C H y) : ∃ tb, PySem.W.notFirst X.K C tb = true ∧ PySem.W.Looks (model X.prog X.w) s.heap (typeOf u) tb := by
  rcases h with h | rfl | ⟨z, rfl⟩ | ⟨b, kvs, rfl, hb⟩
  · exact h.ty I ry
  · cases ry
    exact ⟨.type "NoneType", first_ty (l := [.type "NoneType", .type "object"]) (by decide +kernel) (by first | rfl | simp), .now⟩
  · obtain ⟨t, rfl⟩ := ry
    exact ⟨.type "str", first_ty (l := [.type "str", .type "object"]) (by decide +kernel) (by first | rfl | simp), .now⟩
  · cases ry
    obtain ⟨_, _, vs, _, o, es, ep, hq, hc, _⟩ := (show ObjOk X.prog X.w H s.heap b (.dK kvs) from I.hok b _ hb)
    refine ⟨.type "dict", first_ty (l := [.type "dict", .type "object"]) (by decide +kernel) (by first | rfl | simp), ?_⟩
    rw [← hc.1]
    exact (PySem.W.Looks.ld (part := none) hq).andThen .now
variable {CX : CXT} {k : Nat} {C f : Addr} {fd : FuncData} {ps : List Str} {sp : Sp} {E : XK}
theorem op_eqIns2 (F : FnOk X.prog X.w X.K X.mg X.base CX k f fd ps sp) (hr : Room k X.A) (hb : Binds X.K fd ps []) (hx : Passes CX X E) (hs : PySem.W.findIn X.K (.ref C) "__eq__" = some (some (.ref f))) (hf : PySem.W.isFn X.K (.ref f) = true) :
    OpR X (compareOp .Eq) (rEqIns2 X.K C sp E) := by
  intro pins s σ H x y v u Q I rx ry h
  obtain ⟨a, dx, fs, rfl, ha, hy, q⟩ := h
  cases rx
  obtain ⟨mA, J, _⟩ := ins_get I.hok ha
  obtain ⟨od, J, _⟩ := J.look
  obtain ⟨m, hF⟩ := I.fr
  obtain ⟨tb, hn, ht⟩ := hy.ty I ry
  show wpAny _ _ (richCompare .Eq (.ref a) u) _ _ _
  refine PySem.W.cmp_K (op := .Eq) (tb := tb) hr.units0 hF I.ok.mod.kin J ht hn hs hf ?_
  refine thn (run_fn (us := [.ref a, u]) (vs := [.ref a, y]) (dvs := []) (ds := []) F hr hb .nil hx I (.cons rfl (.cons ry .nil)) q) fun w s' z => ?_
  obtain ⟨z', H', I', rz, qz⟩ := z
  exact SlX.cmpback rz ⟨z', H', I', rz, qz⟩
end
end Sr

set_option Elab.async false
set_option linter.all false
set_option maxRecDepth 100000
set_option maxHeartbeats 4000000
namespace Sr
open PySem PySem.Spec PyProof.Rows L2
/-! ### methods, len, ==, != of an instance, from CalM -/
theorem m0_ {X : Cx} {k j : Nat} {C f : Addr} {ps : List Str} {sp : Sp} {m : Str} {o : Expr} {ta : TE} {p apos : Pos} {pl : Sem Bool} (M : CalM X.prog X.w X.K X.mg X.base CX0 k f ps sp) (hr : Room j X.A) (hk : k ≤ j) (c : Cls X.K C) (hm : Meth X.K C m f) (he : PE X o ta)
    (ht : eval (.Call (.Attribute o m apos) [] [] p) X.env = (do
      let ov ← eval o X.env
      standAt apos.atName
      let (f, first) ← holding [ov] (getMethod ov m pl)
      callWith p f first (backTo p (starEach [] X.env)) (backToKw p (keywordEach [] X.env))) := by rfl) : PE X (.Call (.Attribute o m apos) [] [] p) (tMeth C m sp [] E0 ta tNil) := by
  obtain ⟨fd, F, kp, hb⟩ := M.ex
  exact pe_meth0 he c hm F (hr.mono hk) hb .nil pass0 ht
theorem mE_ {X : Cx} {K : PySem.W.Frag} {k j : Nat} {C f : Addr} {ps : List Str} {sp : Sp} {m : Str} {o e : Expr} {es : List Expr} {ta : TE} {t : TA} {p apos : Pos} {pl : Sem Bool} {E : XK} (M : CalM X.prog X.w K X.mg X.base (L2.CX X.prog X.w) k f ps sp) (hK : X.K = K) (hr : Room j X.A) (hk : k ≤ j) (c : Cls K C) (hm : Meth K C m f) (hx : Passes (L2.CX X.prog X.w) X E) (he : PE X o ta) (ha : PA X (e :: es) t)
    (hst : starEach (e :: es) X.env = (false, eval e X.env) :: starEach es X.env := by rfl) (hpl : (backTo p (starEach es X.env)).any (·.1) = false := by rfl)
    (ht : eval (.Call (.Attribute o m apos) (e :: es) [] p) X.env = (do
      let ov ← eval o X.env
      standAt apos.atName
      let (f, first) ← holding [ov] (getMethod ov m pl)
      callWith p f first (backTo p (starEach (e :: es) X.env)) (backToKw p (keywordEach [] X.env))) := by rfl) : PE X (.Call (.Attribute o m apos) (e :: es) [] p) (tMeth C m sp [] E ta t) := by
  subst hK
  obtain ⟨fd, F, kp, hb⟩ := M.ex
  exact pe_meth he c hm F (hr.mono hk) hb .nil hx ha hst hpl ht
theorem len_ {X : Cx} {k j : Nat} {C f : Addr} {ps : List Str} {sp : Sp} (M : CalM X.prog X.w X.K X.mg X.base CX0 k f ps sp) (hr : Room j X.A) (hk : k + 1 ≤ j) (hs : PySem.W.findIn X.K (.ref C) "__len__" = some (some (.ref f))) (hf : PySem.W.typeIn X.K (.ref f) = some (.type "function")) : CallR X (.builtin "len") (rLenIns C sp E0) := by
  obtain ⟨fd, F, kp, hb⟩ := M.ex
  exact call_lenIns F (hr.mono hk) hb pass0 hs hf
theorem eq_ {X : Cx} {K : PySem.W.Frag} {k j : Nat} {C f : Addr} {ps : List Str} {sp : Sp} (M : CalM X.prog X.w K X.mg X.base CX0 k f ps sp) (hK : X.K = K) (hr : Room j X.A) (hk : k ≤ j) (hs : PySem.W.findIn K (.ref C) "__eq__" = some (some (.ref f))) (hf : PySem.W.isFn K (.ref f) = true) :
    OpR X (compareOp .Eq) (rEqIns2 K C sp E0) := by
  subst hK
  obtain ⟨fd, F, kp, hb⟩ := M.ex
  exact op_eqIns2 F (hr.mono hk) hb pass0 hs hf
theorem ne_ {X : Cx} {k j : Nat} {C f : Addr} {ps : List Str} {sp : Sp} (M : CalM X.prog X.w X.K X.mg X.base CX0 k f ps sp) (hr : Room j X.A) (hk : k + 1 ≤ j) (hs : PySem.W.findIn X.K (.ref C) "__eq__" = some (some (.ref f))) (hf : PySem.W.isFn X.K (.ref f) = true)
    (hne : PySem.W.findIn X.K (.ref C) "__ne__" = some (some (.builtin "object.__ne__"))) (hm : PySem.W.mroIn X.K C (.type "object") = some true) : OpR X (compareOp .NotEq) (rNeIns X.K C sp E0) := by
  obtain ⟨fd, F, kp, hb⟩ := M.ex
  exact op_neIns F (hr.mono hk) hb pass0 hs hf hne hm
end Sr

set_option Elab.async false
set_option linter.all false
set_option maxRecDepth 100000
set_option maxHeartbeats 4000000
namespace K38
open PySem PySem.Spec PyProof.Rows L2 Sr
/-! ### debts as they are kept: members with their coins and their rows -/
abbrev Mb := Str × Int × List (Str × Int)
def RowAt (H : Hp) (v : V) (r : Str × Int) : Prop := ∃ t, v = .ref t ∧ H t = some (.tup [.str r.1, .int r.2])
def RowsAt (H : Hp) (v : V) (rs : List (Str × Int)) : Prop := ∃ l us, v = .ref l ∧ H l = some (.lst us) ∧ Paired (RowAt H) us rs
theorem RowAt.mono {H H' : Hp} (s : Same H H') {v : V} {r : Str × Int} (h : RowAt H v r) : RowAt H' v r :=
  let ⟨t, h1, h2⟩ := h
  ⟨t, h1, s _ _ h2⟩
theorem RowsAt.mono {H H' : Hp} (s : Same H H') {v : V} {rs : List (Str × Int)} (h : RowsAt H v rs) : RowsAt H' v rs := by
  obtain ⟨l, us, h1, h2, h3⟩ := h
  exact ⟨l, us, h1, s _ _ h2, L2.Paired.mapP h3 fun _ _ h => h.mono s⟩
def mbG (m : Mb) : Prop := nameOk (.str m.1) = true ∧ m.2.2.length ≤ 60 ∧ ∀ r ∈ m.2.2, nameOk (.str r.1) = true
def DebR (K : PySem.W.Frag) (H : Hp) (x : Addr) (ws : List Mb) : Prop := ∃ dx c d kc kd, H x = some (.ins (He.ga K "Debts") dx [("_coins", .ref c), ("_debts", .ref d)]) ∧ H c = some (.dK kc) ∧ H d = some (.dK kd) ∧
  Paired (fun (kv : Key × V) (m : Mb) => kv.1 = Sum.inr m.1 ∧ kv.2 = .int m.2.1) kc ws ∧ Paired (fun (kv : Key × V) (m : Mb) => kv.1 = Sum.inr m.1 ∧ RowsAt H kv.2 m.2.2) kd ws ∧ (ws.map (·.1)).Nodup ∧ ws.length ≤ 60 ∧ ∀ m ∈ ws, mbG m
theorem DebR.mono {K : PySem.W.Frag} {H H' : Hp} (s : Same H H') {x : Addr} {ws : List Mb} (h : DebR K H x ws) : DebR K H' x ws := by
  obtain ⟨dx, c, d, kc, kd, h1, h2, h3, h4, h5, h6⟩ := h
  exact ⟨dx, c, d, kc, kd, s _ _ h1, s _ _ h2, s _ _ h3, h4, L2.Paired.mapP h5 fun _ _ h => ⟨h.1, h.2.mono s⟩, h6⟩
theorem kc_keys : ∀ {kc : List (Key × V)} {ws : List Mb}, Paired (fun (kv : Key × V) (m : Mb) => kv.1 = Sum.inr m.1 ∧ kv.2 = .int m.2.1) kc ws → kc.map (fun kv => kV kv.1) = (ws.map (·.1)).map V.str
  | _, _, .nil => rfl
  | _, _, .cons h r => by
    rw [List.map_cons, List.map_cons, List.map_cons, kc_keys r, h.1]
    rfl
structure Deb (K : PySem.W.Frag) (mg : Str → Option Value) : Prop where
  cl : Cls K (He.ga K "Debts")
  nC : NoAttr K (He.ga K "Debts") "_coins"
  nD : NoAttr K (He.ga K "Debts") "_debts"
def spMembers (K : PySem.W.Frag) : Sp := fun vs H Q _ => ∃ x ws, vs = [.ref x] ∧ DebR K H x ws ∧ ∀ p, H p = none → Q (.ref p) (upd H p (.lst ((ws.map (·.1)).map V.str)))
section
variable {P : Program} {w : World} {K : PySem.W.Frag} {mg : Str → Option Value} {base : Heap}
abbrev s_Debts_members : Stmt := inClass (top 14) 1
theorem sc_Debts_members : FnScope ["self"] ["self"] (defScope s_Debts_members) := ⟨rfl, rfl, rfl, by decide +kernel, rfl, by decide +kernel, by decide +kernel⟩
theorem m_members (T : Txt K mg) (O : Deb K mg) (D : DfnM K "Debts" "members" "Debts.members" s_Debts_members) : CalM P w K mg base CX0 1 (He.fAd K ("Debts", some "members")) ["self"] (spMembers K) := by
  refine D.cal sc_Debts_members (fun _ _ _ _ _ _ us hl => match us, hl with | [_], _ => rfl) (fun vs H Q E h => ?_) fun cdv A outer s H vs Q E hr h => ?_
  · obtain ⟨x, ws, rfl, _⟩ := h
    rfl
  obtain ⟨x, ws, rfl, h, q⟩ := h
  obtain ⟨dx, c, d, kc, kd, h1, h2, h3, h4, h5, h6⟩ := id h
  refine ⟨_, (pss_one (ps_ret (pe_callTy (T := "list") (call_list_dK rfl) (by rfl) T.list (by decide +kernel) (pa_cons (pe_fld (pv 0) rfl) pa_nil)))), ?_⟩
  refine ⟨_, rfl, x, _, dx, _, _, rfl, h1, O.cl, O.nC, rfl, c, kc, rfl, h2, fun p hp => ?_⟩
  rw [kc_keys h4]
  exact q p hp
end
end K38

set_option Elab.async false
set_option linter.all false
set_option maxRecDepth 100000
set_option maxHeartbeats 4000000
namespace K38
open PySem PySem.Spec PyProof.Rows L2 Sr
def CoinsR (kc : List (Key × V)) (ws : List Mb) : Prop := Paired (fun (kv : Key × V) (m : Mb) => kv.1 = Sum.inr m.1 ∧ kv.2 = .int m.2.1) kc ws
def spCoins (K : PySem.W.Frag) : Sp := fun vs H Q _ => ∃ x ws, vs = [.ref x] ∧ DebR K H x ws ∧ ∀ p kc, H p = none → CoinsR kc ws → Q (.ref p) (upd H p (.dK kc))
section
variable {P : Program} {w : World} {K : PySem.W.Frag} {mg : Str → Option Value} {base : Heap}
abbrev s_Debts_coins : Stmt := inClass (top 14) 2
theorem sc_Debts_coins : FnScope ["self"] ["self"] (defScope s_Debts_coins) := ⟨rfl, rfl, rfl, by decide +kernel, rfl, by decide +kernel, by decide +kernel⟩
theorem m_coins (T : Txt K mg) (O : Deb K mg) (D : DfnM K "Debts" "coins" "Debts.coins" s_Debts_coins) : CalM P w K mg base CX0 1 (He.fAd K ("Debts", some "coins")) ["self"] (spCoins K) := by
  refine D.cal sc_Debts_coins (fun _ _ _ _ _ _ us hl => match us, hl with | [_], _ => rfl) (fun vs H Q E h => ?_) fun cdv A outer s H vs Q E hr h => ?_
  · obtain ⟨x, ws, rfl, _⟩ := h
    rfl
  obtain ⟨x, ws, rfl, h, q⟩ := h
  obtain ⟨dx, c, d, kc, kd, h1, h2, h3, h4, h5, h6⟩ := id h
  refine ⟨_, (pss_one (ps_ret (pe_callTy (T := "dict") call_dictD (by rfl) T.dict (by decide +kernel) (pa_cons (pe_fld (pv 0) rfl) pa_nil)))), ?_⟩
  exact ⟨_, rfl, x, _, dx, _, _, rfl, h1, O.cl, O.nC, rfl, c, kc, rfl, .inl h2, fun p hp => q p kc hp h4⟩
end
end K38

set_option Elab.async false
set_option linter.all false
set_option maxRecDepth 100000
set_option maxHeartbeats 4000000
namespace K38
open PySem PySem.Spec PyProof.Rows L2 Sr
/-- what the head tells of the class's methods -/
structure DebM (K : PySem.W.Frag) : Prop where
  members : Meth K (He.ga K "Debts") "members" (He.fAd K ("Debts", some "members"))
  coins : Meth K (He.ga K "Debts") "coins" (He.fAd K ("Debts", some "coins"))
  debts : Meth K (He.ga K "Debts") "debts" (He.fAd K ("Debts", some "debts"))
  owed : Meth K (He.ga K "Debts") "owed" (He.fAd K ("Debts", some "owed"))
  split : Meth K (He.ga K "Debts") "split" (He.fAd K ("Debts", some "split"))
  given : Meth K (He.ga K "Debts") "given" (He.fAd K ("Debts", some "given"))
  eq : PySem.W.findIn K (.ref (He.ga K "Debts")) "__eq__" = some (some (.ref (He.fAd K ("Debts", some "__eq__"))))
  fn : PySem.W.isFn K (.ref (He.fAd K ("Debts", some "__eq__"))) = true
  ne : PySem.W.findIn K (.ref (He.ga K "Debts")) "__ne__" = some (some (.builtin "object.__ne__"))
def memD (ns : List Str) : Dt → Bool
  | .str s => decide (s ∈ ns)
  | _ => false
theorem dp_strs {K : PySem.W.Frag} {H : Hp} : ∀ ns : List Str, DpAll K H (ns.map V.str) (ns.map PyData.str)
  | [] => .nil
  | s :: r => .cons (.str s) (dp_strs r)
theorem name_lay {s : Str} (h : nameOk (.str s) = true) : PyData.canLay0 (.str s) = true := by
  have hs : ∀ c ∈ signs.cps.toList, decide (c < 0x110000) = true := by decide +kernel
  have h2 := (Bool.and_eq_true_iff.mp h).2
  show s.cps.all (fun c => decide (c < 0x110000)) = true
  rw [← Array.all_toList]
  rw [List.all_eq_true] at h2 ⊢
  intro c m
  exact hs c (of_decide_eq_true (h2 c m))
theorem lay_strs : ∀ ns : List Str, (∀ s ∈ ns, nameOk (.str s) = true) → PyData.canLayAll0 (ns.map PyData.str) = true ∧ PyData.depthAll (ns.map PyData.str) ≤ 0
  | [], _ => ⟨rfl, Nat.le_refl _⟩
  | s :: r, h => by
    obtain ⟨h1, h2⟩ := lay_strs r fun x m => h x (List.mem_cons_of_mem _ m)
    refine ⟨?_, ?_⟩
    · show (PyData.canLay0 (.str s) && PyData.canLayAll0 (r.map PyData.str)) = true
      rw [h1, name_lay (h s List.mem_cons_self)]
      rfl
    · show max (PyData.depth (.str s)) (PyData.depthAll (r.map PyData.str)) ≤ 0
      have : PyData.depth (.str s) = 0 := rfl
      omega
theorem shaped_strs (ns : List Str) (h : ∀ s ∈ ns, nameOk (.str s) = true) : SeqAt.shaped (.list (ns.map PyData.str)) = true := by
  obtain ⟨h1, h2⟩ := lay_strs ns h
  have hd : PyData.depth (.list (ns.map PyData.str)) ≤ 64 := by
    show PyData.depthAll (ns.map PyData.str) + 1 ≤ 64
    omega
  unfold SeqAt.shaped
  rw [decide_eq_true hd, Bool.and_true]
  exact h1
theorem DebR.names {K : PySem.W.Frag} {H : Hp} {x : Addr} {ws : List Mb} (h : DebR K H x ws) : ∀ s ∈ ws.map (·.1), nameOk (.str s) = true := by
  obtain ⟨_, _, _, _, _, _, _, _, _, _, _, _, h7⟩ := h
  intro s m
  obtain ⟨b, mb, rfl⟩ := List.mem_map.mp m
  exact (h7 b mb).1
theorem any_strs (d : Dt) : ∀ ns : List Str, ((ns.map PyData.str).any fun z => PyData.eqv z (toP d)) = memD ns d
  | [] => by cases d <;> rfl
  | s :: r => by
    have ih := any_strs d r
    rw [List.map_cons, List.any_cons, ih]
    cases d with
    | str z =>
      show (PyData.eqv (.str s) (.str z) || decide (z ∈ r)) = decide (z ∈ s :: r)
      by_cases c : s = z
      · subst c
        simp [PyData.eqv]
      · have c' : ¬ z = s := fun e => c e.symm
        simp [PyData.eqv, c, c']
    | non => rfl
    | bl b => cases b <;> rfl
    | int i => rfl
    | lst l => rfl
    | tup l => rfl
    | dic => rfl
/-- the debts, and a datum: whether it is one of the members -/
def spChk (K : PySem.W.Frag) : Sp := fun vs H Q E => ∃ x v ws d, vs = [.ref x, v] ∧ DebR K H x ws ∧ Is H v d ∧ plainD d = true ∧ SeqAt.shaped (toP d) = true ∧
  ((memD (ws.map (·.1)) d = true ∧ ∀ H', Same H H' → Q .non H') ∨ (memD (ws.map (·.1)) d = false ∧ ∀ H' e, Same H H' → H' e = none → E (.ref (He.ga K "NoMember")) (some e) (upd H' e (.xd [("member", v)]))))
section
variable {P : Program} {w : World} {K : PySem.W.Frag} {mg : Str → Option Value} {base : Heap}
abbrev s_check_member : Stmt := top 15
theorem sc_check_member : FnScope ["debts", "member"] ["debts", "member"] (defScope s_check_member) := ⟨rfl, rfl, rfl, by decide +kernel, rfl, by decide +kernel, by decide +kernel⟩
theorem c_check_member (T : Txt K mg) (O : Deb K mg) (OM : DebM K) (R : ErrAt P w K mg base "NoMember" "member" "member") (D : Dfn K mg "check_member" s_check_member) (CM : CalM P w K mg base CX0 1 (He.fAd K ("Debts", some "members")) ["self"] (spMembers K)) :
    CalE P w K mg base 3 "check_member" ["debts", "member"] (spChk K) := by
  refine D.calE sc_check_member (fun _ _ _ _ _ _ us hl => match us, hl with | [_, _], _ => rfl) (fun vs H Q E h => ?_) fun cdv A outer s H vs Q E hr h => ?_
  · obtain ⟨x, v, ws, d, rfl, _⟩ := h
    rfl
  obtain ⟨x, v, ws, d, rfl, hx, hv, pl, sh, h⟩ := h
  refine ⟨_, (pss_one (ps_if (pt_cmpR (op_notInD (u65 hr)) (pv 1) (m0_ CM hr (by decide) O.cl OM.members (pv 0)) (by rfl)) (pss_one (ps_raise rfl (takes_of rfl rfl rfl rfl) (R.mk_ hr (by decide) (by rfl) (pa_cons (pv 1) pa_nil)))) pss_nil)), ?_⟩
  obtain ⟨dx, c, dd, kc, kd, h1, _⟩ := id hx
  refine ⟨_, rfl, _, rfl, x, dx, _, rfl, h1, rfl, x, ws, rfl, hx, fun p hp => ?_⟩
  have s1 : Same H (upd H p (.lst ((ws.map (·.1)).map V.str))) := Same.up hp
  refine ⟨_, _, dp_of (hv.mono s1) pl, .lst (SqL.of upd_same) (dp_strs (ws.map (·.1))), sh, shaped_strs _ hx.names, ?_⟩
  rw [any_strs]
  rcases h with ⟨e, q⟩ | ⟨e, q⟩
  · rw [e]
    exact ⟨_, rfl, iteF (q _ s1)⟩
  · rw [e]
    exact ⟨_, rfl, iteT ⟨_, rfl, err_at fun e he => q _ e s1 he⟩⟩
end
end K38

set_option Elab.async false
set_option linter.all false
set_option maxRecDepth 100000
set_option maxHeartbeats 4000000
namespace Sr
open PySem PySem.Spec PyProof.Rows L2
/-! ### sorted(set(xs)), xs a list of pairs of texts (TupSets's way through the table, for pairs of texts) -/
def pHash (P : Program) (w : World) (p : Str × Str) : Int := tupleKeyHash (mixKind P w) (pk p)
def PAt (P : Program) (w : World) (h : Heap) (p : Str × Str) (b : Addr) : Prop := IsTupleKey (mixKind P w) h (pk p) b
section
variable {P : Program} {w : World} {A : Around} {E : Value → Shared → Prop} {s : Shared}
theorem PAt.raw {h : Heap} {p : Str × Str} {b : Addr} (x : PAt P w h p b) : ∃ (o : Obj) (t1 t2 : Tok) (n : Nat), h.get? b = some o ∧ o.cls = .type "tuple" ∧ o.data = .seq #[.str p.1 t1, .str p.2 t2] n := by
  obtain ⟨o, its, n, ho, hc, hd, hi⟩ := x
  have z : ∃ t1 t2, its.toList = [Value.str p.1 t1, Value.str p.2 t2] := by
    generalize its.toList = l at hi
    cases hi with
    | cons h1 r => cases r with
      | cons h2 r =>
        cases r
        rcases keyIs_shape (show keyIs (Sum.inr p.1) _ = true from h1) with ⟨i, t, e, _⟩ | ⟨x1, t1, e1, rfl⟩
        · cases e
        rcases keyIs_shape (show keyIs (Sum.inr p.2) _ = true from h2) with ⟨i, t, e, _⟩ | ⟨x2, t2, e2, rfl⟩
        · cases e
        cases e1
        cases e2
        exact ⟨_, _, rfl⟩
  obtain ⟨t1, t2, e⟩ := z
  have e2 : its = #[.str p.1 t1, .str p.2 t2] := Array.toList_inj.mp e
  exact ⟨o, t1, t2, n, ho, hc, e2 ▸ hd⟩
theorem PAt.in_ {h h' : Heap} {p : Str × Str} {b : Addr} (x : PAt P w h p b) (k : ∀ o, h.get? b = some o → h'.get? b = some o) : PAt P w h' p b := by
  obtain ⟨o, its, n, ho, r⟩ := x
  exact ⟨o, its, n, k o ho, r⟩
theorem PAt.off {h h' : Heap} {p : Str × Str} {a b : Addr} {o : Obj} {es : Array (Int × Value)} {ep : Nat} {t : SetTable} (x : PAt P w h p b) (ha : h.get? a = some o) (hd : o.data = .set es ep t) (z : Heap.SameBut a h h') : PAt P w h' p b := by
  refine x.in_ fun u hu => (z.2 b fun e => ?_).trans hu
  obtain ⟨o2, _, _, _, h1, _, h3⟩ := x.raw
  subst e
  rw [ha] at h1
  cases h1
  rw [hd] at h3
  cases h3
theorem cls_text (n : Nat) (z : Str) (t : Tok) : ofAClassStatement n (.str z t) = pure false := by cases n <;> rfl
theorem cls_pair {p : Str × Str} {b : Addr} {Q : Bool → Shared → Prop} (x : PAt P w s.heap p b) (q : Q false s) : wpAny (model P w) A (ofAClassStatement 8 (.ref b)) Q E s := by
  obtain ⟨o, t1, t2, n, ho, hc, hd⟩ := x.raw
  unfold ofAClassStatement
  refine wpAny_bind (wpAny_typeOf (T := "tuple") ⟨o, ho, hc⟩ ?_)
  dsimp only
  simp only [show (("tuple" : String) == "tuple") = true from by decide, if_true]
  refine wpAny_bind (wpAny_pure ?_)
  simp only [Bool.not_true, Bool.false_eq_true, if_false]
  refine wpAny_bind (wpAny_seqItems ho hd ?_)
  dsimp only
  rw [← Array.forIn_toList]
  simp only [List.forIn_cons, List.forIn_nil, cls_text, pure_bind, Bool.false_eq_true, if_false]
  exact wpAny_pure q
theorem hash_pair {p : Str × Str} {b : Addr} {Q : Bool → Shared → Prop} (x : PAt P w s.heap p b) (q : Q false s) : wpAny (model P w) A (hashByValue 8 (.ref b)) Q E s := by
  have hT := x.typeIs
  obtain ⟨o, t1, t2, n, ho, hc, hd⟩ := x.raw
  unfold hashByValue
  refine wpAny_bind (wpAny_specialOf hT F.slot_tuple_hash.lookup ?_)
  show wpAny _ _ (seqItems? (.ref b) >>= _) _ _ s
  refine wpAny_bind (wpAny_seqItems ho hd ?_)
  rw [← Array.forIn_toList]
  simp only [Option.getD_some, List.forIn_cons, hashByValue, pure_bind, Bool.not_false, if_true]
  exact wpAny_pure q

/-- a search among pairs shows nothing of the table -/
theorem shy_pairs {p : Str × Str} {b : Addr} {Q : Bool → Shared → Prop} (x : PAt P w s.heap p b) (q : Q false s) : ∀ {ys : List Value}, (∀ y ∈ ys, ∃ p' c, y = Value.ref c ∧ PAt P w s.heap p' c) → wpAny (model P w) A (searchCouldBeSeen (.ref b) ys) Q E s := by
  intro ys hy
  unfold searchCouldBeSeen
  refine wpAny_bind (wpAny_forIn_list _ (fun rest r s' => (r.1 = none ∧ s' = s) ∧ ∀ y ∈ rest, ∃ p' c, y = Value.ref c ∧ PAt P w s.heap p' c) _ ?_ ?_ _ _ ⟨⟨rfl, rfl⟩, hy⟩)
  · rintro y rest r s' ⟨⟨hr, rfl⟩, all⟩
    have go : r.1 = none ∧ s' = s' := ⟨hr, rfl⟩
    have tail := fun z (hz : z ∈ rest) => all z (List.mem_cons_of_mem _ hz)
    obtain ⟨p', c, rfl, xc⟩ := all y List.mem_cons_self
    dsimp only
    split
    · exact wpAny_pure ⟨⟨rfl, rfl⟩, tail⟩
    · refine wpAny_bind (wpAny_eqIsQuiet_tuple x ?_)
      simp only [Bool.not_true, Bool.false_eq_true, if_false]
      refine wpAny_bind (wpAny_eqIsQuiet_tuple xc ?_)
      simp only [Bool.not_true, Bool.false_eq_true, if_false]
      refine wpAny_bind (cls_pair x ?_)
      simp only [Bool.false_eq_true, if_false]
      refine wpAny_bind (cls_pair xc ?_)
      simp only [Bool.false_eq_true, if_false]
      exact wpAny_pure ⟨⟨rfl, rfl⟩, tail⟩
  · rintro ⟨r1, r2⟩ s' ⟨⟨hr, rfl⟩, _⟩
    cases (show r1 = none from hr)
    exact wpAny_pure q
abbrev Pq := Addr × (Str × Str)
def pRow (P : Program) (w : World) (q : Pq) : Int × Value := (pHash P w q.2, .ref q.1)
/-- the set at a has the pairs L, in the order of its table -/
structure PSet (P : Program) (w : World) (h : Heap) (a : Addr) (L : List Pq) (es : Array (Int × Value)) (ep : Nat) (t : SetTable) : Prop where
  obj : ∃ o, h.get? a = some o ∧ o.ExactSet ∧ o.data = .set es ep t
  ent : es.toList = L.map (pRow P w)
  tab : TabOk t (L.map fun q => pHash P w q.2)
  one : (L.map (·.2)).Nodup
  tup : ∀ q ∈ L, PAt P w h q.2 q.1
  ord : w.params.followText "set-order" = true ∨ t.led = true
  gap : L.length * 5 < t.mask * 3
  few : L.length < 64
variable {a : Addr} {L : List Pq} {es : Array (Int × Value)} {ep : Nat} {t : SetTable}
theorem PSet.len (R : PSet P w s.heap a L es ep t) : es.size = L.length := by
  rw [← Array.length_toList, R.ent, List.length_map]
theorem PSet.places (R : PSet P w s.heap a L es ep t) : t.place.toList.length = L.length := by
  rw [Array.length_toList, R.tab.sz, List.length_map]
theorem fits_of {t : SetTable} {n : Nat} (h1 : t.place.size = n) (h2 : t.dummies = #[]) (h3 : n ≤ t.mask) : t.fits n = true := by
  simp [SetTable.fits, SetTable.fill, h1, h2, h3]
theorem PSet.fit (R : PSet P w s.heap a L es ep t) : t.fits es.size = true := by
  have h1 := R.places
  have h2 := R.len
  have h3 := R.gap
  rw [Array.length_toList] at h1
  exact fits_of (by omega) R.tab.dm (by omega)
theorem PSet.at_ (R : PSet P w s.heap a L es ep t) {i : Nat} {q : Pq} (h : L[i]? = some q) : es[i]? = some (pRow P w q) := by
  rw [← Array.getElem?_toList, R.ent, List.getElem?_map, h, Option.map_some]
theorem not_gave {m : SetTable} (h : MaskOk m.mask) : ¬ m.gaveWay = true := by
  unfold SetTable.gaveWay
  rw [mask_odd h]
  decide
abbrev stepAt (m : Nat) (h : Int) (c : Nat) : SetTable.Probe := nth m (runAt m (SetTable.bits h % (m + 1)) (SetTable.bits h)) c
theorem step_more (m : Nat) (h : Int) (c q : Nat) : nth m (stepAt m h c) q = stepAt m h (c + q) := (nth_add m c _ q).symm
theorem nth_dummy {m : Nat} : ∀ (n : Nat) (p : SetTable.Probe), p.dummy = none → (nth m p n).dummy = none
  | 0, _, h => h
  | n + 1, p, h => nth_dummy n _ (by unfold adv; split <;> exact h)
theorem opt_fst {es : Array (Int × Value)} {i : Nat} {x : Int × Value} (h : es[i]? = some x) : ((es[i]?.map (·.1)).getD 0) = x.1 := by rw [h]; rfl
theorem pRow_mk (x : Addr) (p : Str × Str) : pRow P w (x, p) = (pHash P w p, Value.ref x) := by unfold pRow; rfl
theorem pRow_fst (q : Pq) : (pRow P w q).1 = pHash P w q.2 := by unfold pRow; rfl
theorem PSet.hash (R : PSet P w s.heap a L es ep t) {i : Nat} {q : Pq} (hq : L[i]? = some q) : ((es[i]?.map (·.1)).getD 0) = pHash P w q.2 := (opt_fst (R.at_ hq)).trans (pRow_fst q)
/-- the search, from the c-th step of its way on -/
theorem seek (R : PSet P w s.heap a L es ep t) {x : Addr} {p : Str × Str} (hx : PAt P w s.heap p x) (hu : A.units < cLine) {K : Nat} (far : K < 10 * SetTable.turns t.mask)
    (fr : way t.mask (pHash P w p) K ∉ t.place.toList) (bsy : ∀ c, c < K → way t.mask (pHash P w p) c ∈ t.place.toList) {Q : SetFound → Shared → Prop}
    (yes : p ∈ L.map (·.2) → Q (.there none) s) (no : p ∉ L.map (·.2) → Q (.free (way t.mask (pHash P w p) K) false) s) :
    ∀ (f c : Nat) (st : Option SetTable.Probe), st.getD (t.probeStart (pHash P w p)) = stepAt t.mask (pHash P w p) c → c ≤ K → K < c + f →
      (∀ (i : Nat) (q : Pq), L[i]? = some q → q.2 = p → ∃ d, c ≤ d ∧ d < K ∧ t.place.toList[i]? = some (way t.mask (pHash P w p) d)) →
      wpAny (model P w) A (setSearchFrom a (.ref x) (pHash P w p) true f st) Q E s := by
  obtain ⟨o, ho, hex, hd⟩ := R.obj
  intro f
  induction f with
  | zero => intro c st _ h1 h2; omega
  | succ f ih =>
    intro c st hst hc hf here
    have wy : ∀ q, (nth t.mask (stepAt t.mask (pHash P w p) c) q).j = way t.mask (pHash P w p) (c + q) := fun q => congrArg SetTable.Probe.j (step_more _ _ c q)
    have hashes : ∀ (i : Nat) (q : Pq), L[i]? = some q → ((es[i]?.map (·.1)).getD 0) = pHash P w q.2 := fun i q hq => R.hash hq
    have spec := go_spec t R.tab.ris R.tab.dm (fun i => (es[i]?.map (·.1)).getD 0) (pHash P w p) (10 * SetTable.turns t.mask) (K - c) (stepAt t.mask (pHash P w p) c) (nth_dummy _ _ rfl) (by omega)
      (fun q hq => by rw [wy]; exact bsy _ (by omega)) (by rw [wy, show c + (K - c) = K by omega]; exact fr)
    rw [setSearchFrom_succ]
    refine wpAny_bind (wpAny_setState_of ho hd R.fit ?_)
    dsimp only
    refine wp_if_neg (not_gave R.tab.mok) ?_
    try refine wpAny_bind (wpAny_pure ?_)
    rcases spec with ⟨q, i, hq, hi, _, none_, hp⟩ | ⟨none_, hp⟩
    · have hp2 : t.probe (fun i => (es[i]?.map (·.1)).getD 0) (pHash P w p) (st.getD (t.probeStart (pHash P w p))) = some (.candidate (way t.mask (pHash P w p) (c + q)) i (stepAt t.mask (pHash P w p) (c + (q + 1)))) := by
        rw [hst, ← wy, ← step_more]
        exact hp
      rw [hp2]
      dsimp only
      rw [wy] at hi
      obtain ⟨hi2, _⟩ := List.getElem?_eq_some_iff.mp hi
      rw [R.places] at hi2
      have hL : L[i]? = some L[i] := List.getElem?_eq_getElem hi2
      generalize L[i] = u at hL
      have mu := List.mem_of_getElem? hL
      have live := slot_live R.tab.ris hi
      have onward : wpAny (model P w) A (searchRest a (.ref x) (pHash P w p) true f es t (way t.mask (pHash P w p) (c + q)) i (stepAt t.mask (pHash P w p) (c + (q + 1)))) Q E s := by
        unfold searchRest
        rw [R.at_ hL]
        dsimp only [pRow]
        refine wpAny_bind (wpAny_holding (wpAny_eqBool_tuple hu (R.tup u mu) hx ?_))
        refine wpAny_bind (wpAny_setState_of ho hd R.fit ?_)
        dsimp only
        by_cases e : u.2 = p
        · rw [decide_eq_true (show pk u.2 = pk p by rw [e])]
          refine wp_if_pos rfl (wpAny_pure (yes (List.mem_map.mpr ⟨u, mu, e⟩)))
        · have ne : ¬ pk u.2 = pk p := fun z => e (pk_inj z)
          rw [decide_eq_false ne]
          refine wp_if_neg (by decide) ?_
          try refine wpAny_bind (wpAny_pure ?_)
          rw [sameMem]
          dsimp only
          simp only [if_true, live, R.at_ hL, pRow]
          refine wpAny_bind (wpAny_isSame_ref_self (wpAny_bind (wpAny_pure ?_)))
          simp only [if_true]
          refine wp_if_neg (by decide) ?_
          refine ih (c + (q + 1)) _ rfl (by omega) (by omega) fun i2 u2 h2 e2 => ?_
          obtain ⟨d, d1, d2, d3⟩ := here i2 u2 h2 e2
          refine ⟨d, ?_, d2, d3⟩
          rcases Nat.lt_trichotomy d (c + q) with z | z | z
          · refine absurd ((hashes i2 u2 h2).trans (by rw [e2])) (none_ (d - c) i2 (by omega) ?_)
            rw [wy, show c + (d - c) = d by omega]
            exact d3
          · rw [z] at d3
            have l2 := slot_live R.tab.ris d3
            rw [live] at l2
            injection l2 with l2
            rw [← l2, hL] at h2
            cases h2
            exact absurd e2 e
          · omega
      by_cases hl : t.led = true
      · refine wp_if_neg (by rw [hl]; decide) ?_
        try refine wpAny_bind (wpAny_pure ?_)
        exact onward
      · refine wp_if_pos (by simpa using hl) ?_
        refine wpAny_bind (shy_pairs hx ?_ fun y hy => ?_)
        · refine wp_if_neg (by decide) ?_
          try refine wpAny_bind (wpAny_pure ?_)
          exact onward
        · obtain ⟨e, he, rfl⟩ := List.mem_map.mp hy
          have he2 : e ∈ es.toList := by
            have := (show e ∈ es ∧ e.1 = pHash P w p by simpa using he).1
            simpa using this
          rw [R.ent] at he2
          obtain ⟨u2, m2, rfl⟩ := List.mem_map.mp he2
          exact ⟨u2.2, u2.1, rfl, R.tup u2 m2⟩
    · have hp2 : t.probe (fun i => (es[i]?.map (·.1)).getD 0) (pHash P w p) (st.getD (t.probeStart (pHash P w p))) = some (.empty (way t.mask (pHash P w p) K) none) := by
        rw [hst, show way t.mask (pHash P w p) K = (nth t.mask (stepAt t.mask (pHash P w p) c) (K - c)).j by rw [wy, show c + (K - c) = K by omega]]
        exact hp
      rw [hp2]
      dsimp only
      refine wpAny_pure (no fun m => ?_)
      obtain ⟨u, mu, e⟩ := List.mem_map.mp m
      obtain ⟨i, hi⟩ := List.mem_iff_getElem?.mp mu
      obtain ⟨d, d1, d2, d3⟩ := here i u hi e
      refine none_ (d - c) i (by omega) ?_ ((hashes i u hi).trans (by rw [e]))
      rw [wy, show c + (d - c) = d by omega]
      exact d3
theorem seek_all (R : PSet P w s.heap a L es ep t) {x : Addr} {p : Str × Str} (hx : PAt P w s.heap p x) (hu : A.units < cLine) {Q : SetFound → Shared → Prop} (yes : p ∈ L.map (·.2) → Q (.there none) s)
    (no : ∀ K, p ∉ L.map (·.2) → way t.mask (pHash P w p) K ∉ t.place.toList → (∀ c, c < K → way t.mask (pHash P w p) c ∈ t.place.toList) → Q (.free (way t.mask (pHash P w p) K) false) s) :
    wpAny (model P w) A (setSearch a (.ref x) (pHash P w p) true) Q E s := by
  have g := R.gap
  obtain ⟨K, k1, k2, k3⟩ := R.tab.first (h := pHash P w p) (by rw [List.length_map]; omega)
  have small : 10 * SetTable.turns t.mask ≤ 1420 := by
    unfold SetTable.turns
    rcases R.tab.mok with e | e | e <;> omega
  unfold setSearch
  refine seek R hx hu k1 k2 k3 yes (fun n => no K n k2 k3) 100000 0 none rfl (Nat.zero_le _) (by omega) fun i q hq e => ?_
  have hi : (L.map fun q => pHash P w q.2)[i]? = some (pHash P w p) := by rw [List.getElem?_map, hq, ← e, Option.map_some]
  have lt : i < t.place.toList.length := by rw [R.places]; exact (List.getElem?_eq_some_iff.mp hq).1
  have hj := List.getElem?_eq_getElem lt
  obtain ⟨d, d1, d2⟩ := R.tab.before k2 hi hj
  exact ⟨d, Nat.zero_le _, d1, by rw [hj, d2]⟩
end
end Sr

set_option Elab.async false
set_option linter.all false
set_option maxRecDepth 100000
set_option maxHeartbeats 4000000
namespace Sr
open PySem PySem.Spec PyProof.Rows L2
section
variable {P : Program} {w : World} {A : Around} {E : Value → Shared → Prop} {s : Shared} {a : Addr} {L : List Pq} {es : Array (Int × Value)} {ep : Nat} {t : SetTable}
/-! ### the table laid anew -/
theorem fm_range {α : Type} : ∀ l : List α, (List.range l.length).filterMap (fun i => l[i]?) = l
  | [] => rfl
  | x :: l => by
    rw [List.length_cons, List.range_succ_eq_map, List.filterMap_cons]
    show x :: List.filterMap _ _ = _
    rw [List.filterMap_map]
    exact congrArg (x :: ·) (fm_range l)
theorem fm_some {α β : Type} {f : α → Option β} {g : α → β} : ∀ {l : List α}, (∀ x ∈ l, f x = some (g x)) → l.filterMap f = l.map g
  | [], _ => rfl
  | x :: l, h => by rw [List.filterMap_cons, h x List.mem_cons_self, List.map_cons, fm_some fun y m => h y (List.mem_cons_of_mem _ m)]
theorem order_fst {α : Type} {f : α → Int × Value} {es : Array (Int × Value)} {L : List α} (get : ∀ i : Nat, es[i]? = (L[i]?).map f) {o : List Nat} (within : ∀ i ∈ o, i < L.length) :
    (o.filterMap fun i => L[i]?).map (fun q => (f q).1) = o.map fun i => (es.map (·.1)).getD i 0 := by
  rw [List.map_filterMap]
  refine fm_some fun i m => ?_
  have lt := within i m
  have e5 : (es.map (·.1))[i]? = some (f L[i]).1 := by
    rw [Array.getElem?_map, get, List.getElem?_eq_getElem lt]
    rfl
  rw [List.getElem?_eq_getElem lt, Array.getD_eq_getD_getElem?, e5]
  rfl
theorem laid_anew {o : Obj} (ho : s.heap.get? a = some o) (hex : o.ExactSet) (hd : o.data = .set es ep t) (ent : es.toList = L.map (pRow P w)) (pl : t.place.size = es.size) (dm : t.dummies = #[]) (le : es.size ≤ t.mask)
    (one : (L.map (·.2)).Nodup) (tup : ∀ q ∈ L, PAt P w s.heap q.2 q.1) (ord : w.params.followText "set-order" = true ∨ t.led = true) (few : L.length < 64) {big M : Nat}
    (hw : SetTable.sizeAbove big - 1 = M) (mok : MaskOk M) (hw2 : SetTable.sizeAbove big ≤ 128) (gap : L.length * 5 < M * 3) {Q : Unit → Shared → Prop}
    (hQ : ∀ h' L' es' ep' t', Heap.SameBut a s.heap h' → PSet P w h' a L' es' ep' t' → L'.Perm L → Q () { s with heap := h' }) : wpAny (model P w) A (setRelay a big) Q E s := by
  have el : es.size = L.length := by rw [← Array.length_toList, ent, List.length_map]
  have get : ∀ i : Nat, es[i]? = (L[i]?).map (pRow P w) := fun i => by rw [← Array.getElem?_toList, ent, List.getElem?_map]
  obtain ⟨t2, order, e, perm, tab, em, eled, _, edm⟩ := relaid_ok t (hs := es.map (·.1)) (wanted := big) hw mok (by rw [Array.size_map]; omega)
  rw [Array.size_map, el] at perm
  have within : ∀ i ∈ order.toList, i < L.length := fun i m => List.mem_range.mp (perm.mem_iff.mp m)
  have r1 : (order.filterMap (es[·]?)).toList = (order.toList.filterMap fun i => L[i]?).map (pRow P w) := by
    rw [Array.toList_filterMap, List.map_filterMap]
    exact congrArg (fun f => List.filterMap f order.toList) (funext get)
  have r2 : (order.toList.filterMap fun i => L[i]?).Perm L := by
    have h := perm.filterMap (fun i => L[i]?)
    rwa [fm_range] at h
  have r3 := order_fst (f := pRow P w) get within
  simp only [pRow_fst] at r3
  rw [← r3] at tab
  have sz : (order.filterMap (es[·]?)).size = es.size := by rw [← Array.length_toList, r1, List.length_map, r2.length_eq, el]
  rw [setRelay_eq]
  refine wpAny_bind (wpAny_setState_of ho hd (fits_of pl dm le) ?_)
  dsimp only
  refine wp_if_neg (by rw [sizeLine_eq]; omega) ?_
  try refine wpAny_bind (wpAny_pure ?_)
  rw [e]
  dsimp only
  refine wpAny_bind ?_
  refine wp_if_neg (by rw [sz]; simp) ?_
  try refine wpAny_bind (wpAny_pure ?_)
  refine wpAny_pure ?_
  dsimp only
  refine wpAny_storeSet_of ho hd ?_ (by rw [sz, el, sizeLine_eq]; omega)
  have but : Heap.SameBut a s.heap (s.heap.update a (Obj.putSet (order.filterMap (es[·]?)) t2)) := Heap.SameBut.update ..
  exact hQ _ _ _ (ep + 1) t2 but ⟨⟨_, store_at ho hd, ⟨hex.1, hex.2.1, hex.2.2⟩, rfl⟩, r1, tab, (r2.map (·.2)).nodup_iff.mpr one, fun q m => (tup q (r2.mem_iff.mp m)).off ho hd but, by rw [eled]; exact ord, by rw [r2.length_eq, em]; exact gap, by rw [r2.length_eq]; exact few⟩ r2
/-- behind a put: the store, and the table laid anew where it is full -/
theorem stored {o : Obj} {L1 : List Pq} {es1 : Array (Int × Value)} {t1 : SetTable} (ho : s.heap.get? a = some o) (hex : o.ExactSet) (hd : o.data = .set es ep t) (el : es.size + 1 = L1.length) (ent : es1.toList = L1.map (pRow P w)) (tab : TabOk t1 (L1.map fun q => pHash P w q.2)) (one : (L1.map (·.2)).Nodup)
    (tup : ∀ q ∈ L1, PAt P w s.heap q.2 q.1) (ord : w.params.followText "set-order" = true ∨ t1.led = true) (few : L1.length < 64) (gap : (L1.length - 1) * 5 < t1.mask * 3) {Q : Bool → Shared → Prop}
    (hQ : ∀ h' L' es' ep' t', Heap.SameBut a s.heap h' → PSet P w h' a L' es' ep' t' → L'.Perm L1 → Q true { s with heap := h' }) :
    wpAny (model P w) A (do
      storeSet a es1 t1
      if !false && t1.tooFull then setRelay a (SetTable.grown (es.size + 1))
      return true) Q E s := by
  have el1 : es1.size = L1.length := by rw [← Array.length_toList, ent, List.length_map]
  refine wpAny_bind (wpAny_storeSet_of ho hd ?_ (by rw [el1, sizeLine_eq]; omega))
  have but : Heap.SameBut a s.heap (s.heap.update a (Obj.putSet es1 t1)) := Heap.SameBut.update ..
  have ho1 := store_at (es' := es1) (t' := t1) ho hd
  generalize s.heap.update a (Obj.putSet es1 t1) = h1 at but ho1 ⊢
  have tup1 : ∀ q ∈ L1, PAt P w h1 q.2 q.1 := fun q m => (tup q m).off ho hd but
  have pl1 : t1.place.size = L1.length := by rw [tab.sz, List.length_map]
  have fill : t1.tooFull = decide (L1.length * 5 ≥ t1.mask * 3) := by simp [SetTable.tooFull, SetTable.fill, tab.dm, pl1]
  rw [Bool.not_false, Bool.true_and, fill]
  by_cases full : L1.length * 5 ≥ t1.mask * 3
  · rw [decide_eq_true full]
    have which : (t1.mask = 7 ∧ L1.length = 5) ∨ (t1.mask = 31 ∧ L1.length = 19) := by
      rcases tab.mok with e | e | e <;> rw [e] at full gap <;> omega
    have go : ∀ M, SetTable.sizeAbove (SetTable.grown L1.length) - 1 = M → MaskOk M → SetTable.sizeAbove (SetTable.grown L1.length) ≤ 128 → L1.length * 5 < M * 3 →
        wpAny (model P w) A (setRelay a (SetTable.grown (es.size + 1))) (fun _ s' => wpAny (model P w) A (pure true) Q E s') E { s with heap := h1 } := fun M h1' h2' h3' h4' => by
      rw [el]
      exact laid_anew (s := { s with heap := h1 }) ho1 ⟨hex.1, hex.2.1, hex.2.2⟩ rfl ent (by rw [pl1, el1]) tab.dm (by rw [el1]; rcases which with ⟨e, e2⟩ | ⟨e, e2⟩ <;> omega) one tup1 ord few h1' h2' h3' h4' fun h2 L2 es2 ep2 t2 b2 R2 p2 => wpAny_pure (hQ h2 L2 es2 ep2 t2 (but.trans b2) R2 p2)
    have gone : wpAny (model P w) A (setRelay a (SetTable.grown (es.size + 1))) (fun _ s' => wpAny (model P w) A (pure true) Q E s') E { s with heap := h1 } := by
      rcases which with ⟨_, e2⟩ | ⟨_, e2⟩
      · exact go 31 (by rw [e2, size_20]) (.inr (.inl rfl)) (by rw [e2, size_20]; decide) (by omega)
      · exact go 127 (by rw [e2, size_76]) (.inr (.inr rfl)) (by rw [e2, size_76]; decide) (by omega)
    first
      | exact wp_if_pos rfl (wpAny_bind gone)
      | exact wpAny_bind (wp_if_pos rfl gone)
  · rw [decide_eq_false full]
    have fin : wpAny (model P w) A (pure true) Q E { s with heap := h1 } := wpAny_pure (hQ h1 L1 es1 (ep + 1) t1 but ⟨⟨_, ho1, ⟨hex.1, hex.2.1, hex.2.2⟩, rfl⟩, ent, tab, one, tup1, ord, by omega, few⟩ (List.Perm.refl _))
    first
      | exact wp_if_neg (by decide) fin
      | exact wpAny_bind (wp_if_neg (by decide) (wpAny_pure fin))
theorem mid_perm {α : Type} (L : List α) (p : Nat) (x : α) : (L.take p ++ x :: L.drop p).Perm (x :: L) := by
  have h : (L.take p ++ x :: L.drop p).Perm (x :: (L.take p ++ L.drop p)) := List.perm_middle
  rwa [List.take_append_drop] at h
/-- a pair put in -/
theorem put_in (R : PSet P w s.heap a L es ep t) {x : Addr} {p : Str × Str} (hx : PAt P w s.heap p x) (hu : A.units < cLine) (few : L.length + 1 < 64) {Q : Bool → Shared → Prop}
    (hQ : ∀ b h' L' es' ep' t', Heap.SameBut a s.heap h' → PSet P w h' a L' es' ep' t' → (p ∈ L.map (·.2) ∧ L' = L ∨ p ∉ L.map (·.2) ∧ L'.Perm ((x, p) :: L)) → Q b { s with heap := h' }) :
    wpAny (model P w) A (setAddHashed a (.ref x) (pHash P w p)) Q E s := by
  obtain ⟨o, ho, hex, hd⟩ := R.obj
  have el := R.len
  have gp := R.gap
  unfold setAddHashed
  refine wpAny_holding ?_
  rw [show (100000 : Nat) = 99999 + 1 from rfl, setAddHashedIn_succ]
  refine wpAny_bind (wpAny_setState_of ho hd R.fit ?_)
  dsimp only
  refine wp_if_neg (by simp [byScan, Value.scannable]) ?_
  try refine wpAny_bind (wpAny_pure ?_)
  refine wpAny_bind (seek_all R hx hu (fun m => ?_) fun K m k2 k3 => ?_)
  · dsimp only
    exact wpAny_pure (hQ false s.heap L es ep t (Heap.SameBut.refl a s.heap) R (.inl ⟨m, rfl⟩))
  · dsimp only
    refine wpAny_bind (wpAny_setState_of ho hd R.fit ?_)
    dsimp only
    obtain ⟨q1, q2, q3, q4, q5, q6, _, _, _⟩ := R.tab.put k2 k3
    generalize t.put (way t.mask (pHash P w p) K) = tp at q1 q3 q4 q5 q6 ⊢
    obtain ⟨t1, j⟩ := tp
    dsimp only at q1 q3 q4 q5 q6 ⊢
    rw [← q1] at q2 q3
    have pm := mid_perm L j (x, p)
    have tab1 : TabOk t1 ((L.take j ++ (x, p) :: L.drop j).map fun q => pHash P w q.2) := by
      rw [List.map_append, List.map_cons, List.map_take, List.map_drop]
      exact q3
    have ent1 : (SetTable.insertAt es j (pHash P w p, Value.ref x)).toList = (L.take j ++ (x, p) :: L.drop j).map (pRow P w) := by
      rw [SetTable.toList_insertAt, R.ent, List.map_append, List.map_cons, List.map_take, List.map_drop, pRow_mk]
    have one1 : ((L.take j ++ (x, p) :: L.drop j).map (·.2)).Nodup := by
      refine (pm.map (·.2)).nodup_iff.mpr ?_
      rw [List.map_cons]
      exact List.nodup_cons.mpr ⟨m, R.one⟩
    have len1 := pm.length_eq
    rw [List.length_cons] at len1
    have tup1 : ∀ q ∈ L.take j ++ (x, p) :: L.drop j, PAt P w s.heap q.2 q.1 := fun q mq => by
      rcases List.mem_cons.mp (pm.mem_iff.mp mq) with e | mq
      · rw [e]; exact hx
      · exact R.tup q mq
    have fin : ∀ t2 : SetTable, t2.place = t1.place → t2.dummies = t1.dummies → t2.mask = t1.mask → t2.led = t1.led → wpAny (model P w) A (do
        storeSet a (SetTable.insertAt es j (pHash P w p, Value.ref x)) t2
        if !false && t2.tooFull then setRelay a (SetTable.grown (es.size + 1))
        return true) Q E s := fun t2 e1 e2 e3 e4 => by
      refine stored ho hex hd (by omega) ent1 ⟨by rw [e1]; exact tab1.ris, by rw [e2]; exact tab1.dm, by rw [e1]; exact tab1.sz, by rw [e3]; exact tab1.mok, by rw [e1, e3]; exact tab1.bd, by rw [e1, e3]; exact tab1.reach⟩ one1 tup1 (by rw [e4, q5]; exact R.ord) (by omega) (by rw [e3, q4]; omega) fun h' L' es' ep' t' b R' p' => hQ true h' L' es' ep' t' b R' (.inr ⟨m, p'.trans pm⟩)
    by_cases hp : t1.plain = true
    · first
        | (refine wpAny_bind ?_; refine wp_if_pos hp ?_; refine hash_pair hx ?_)
        | refine wp_if_pos hp (wpAny_bind (hash_pair hx ?_))
      simp only [Bool.false_eq_true, if_false]
      exact fin _ rfl rfl rfl rfl
    · first
        | (refine wpAny_bind ?_; refine wp_if_neg hp ?_; refine wpAny_pure ?_)
        | refine wp_if_neg hp (wpAny_bind (wpAny_pure ?_))
        | refine wp_if_neg hp ?_
      simp only [if_true]
      exact fin _ rfl rfl rfl rfl
end
end Sr

set_option Elab.async false
set_option linter.all false
set_option maxRecDepth 100000
set_option maxHeartbeats 4000000
namespace Sr
open PySem PySem.Spec PyProof.Rows L2
/-! ### set(xs) of a list of pairs -/
/-- what a set has behind the first i of ks -/
structure HasP (ks : List Pq) (i : Nat) (L : List Pq) : Prop where
  old : ∀ q ∈ L, q ∈ ks.take i
  all : ∀ q ∈ ks.take i, q.2 ∈ L.map (·.2)
  few : L.length ≤ i
theorem HasP.next {ks L L' : List Pq} {i : Nat} {q : Pq} (g : HasP ks i L) (h : ks[i]? = some q) (c : q.2 ∈ L.map (·.2) ∧ L' = L ∨ q.2 ∉ L.map (·.2) ∧ L'.Perm (q :: L)) : HasP ks (i + 1) L' := by
  have et : ks.take (i + 1) = ks.take i ++ [q] := by rw [List.take_succ, h]; rfl
  rcases c with ⟨m, rfl⟩ | ⟨_, pm⟩
  · refine ⟨fun u mu => ?_, fun u mu => ?_, Nat.le_succ_of_le g.few⟩
    · rw [et]; exact List.mem_append_left _ (g.old u mu)
    · rw [et] at mu
      rcases List.mem_append.mp mu with z | z
      · exact g.all u z
      · rw [List.mem_singleton.mp z]; exact m
  · refine ⟨fun u mu => ?_, fun u mu => ?_, ?_⟩
    · rw [et]
      rcases List.mem_cons.mp (pm.mem_iff.mp mu) with z | z
      · rw [z]; exact List.mem_append_right _ List.mem_cons_self
      · exact List.mem_append_left _ (g.old u z)
    · rw [(pm.map (·.2)).mem_iff, List.map_cons]
      rw [et] at mu
      rcases List.mem_append.mp mu with z | z
      · exact List.mem_cons_of_mem _ (g.all u z)
      · rw [List.mem_singleton.mp z]; exact List.mem_cons_self
    · rw [pm.length_eq, List.length_cons]
      exact Nat.succ_le_succ g.few
theorem perm_lift {α β : Type} {f : α → β} {l k : List β} (h : l.Perm k) : ∀ m : List α, k = m.map f → ∃ m2 : List α, m2.Perm m ∧ l = m2.map f := by
  induction h with
  | nil =>
    intro m e
    cases m with
    | nil => exact ⟨[], .nil, rfl⟩
    | cons _ _ => cases e
  | cons x _ ih =>
    intro m e
    cases m with
    | nil => cases e
    | cons y m =>
      rw [List.map_cons] at e
      obtain ⟨e1, e2⟩ := List.cons.inj e
      obtain ⟨m', p, e3⟩ := ih m e2
      exact ⟨y :: m', p.cons y, by rw [List.map_cons, e1, e3]⟩
  | swap x y l =>
    intro m e
    cases m with
    | nil => cases e
    | cons a m => cases m with
      | nil => cases e
      | cons b m =>
        rw [List.map_cons, List.map_cons] at e
        obtain ⟨e1, e2⟩ := List.cons.inj e
        obtain ⟨e3, e4⟩ := List.cons.inj e2
        exact ⟨b :: a :: m, .swap _ _ _, by rw [List.map_cons, List.map_cons, e1, e3, e4]⟩
  | trans _ _ ih1 ih2 =>
    intro m e
    obtain ⟨m2, p2, e2⟩ := ih2 m e
    obtain ⟨m1, p1, e1⟩ := ih1 m2 e2
    exact ⟨m1, p1.trans p2, e1⟩
section
variable {P : Program} {w : World} {A : Around} {E : Value → Shared → Prop} {s : Shared}
theorem PSet.in_ {h h' : Heap} {a : Addr} {L : List Pq} {es : Array (Int × Value)} {ep : Nat} {t : SetTable} (R : PSet P w h a L es ep t) (ka : ∀ o, h.get? a = some o → h'.get? a = some o) (kt : ∀ q ∈ L, PAt P w h' q.2 q.1) : PSet P w h' a L es ep t := by
  obtain ⟨o, ho, r⟩ := R.obj
  exact ⟨⟨o, ka o ho, r⟩, R.ent, R.tab, R.one, kt, R.ord, R.gap, R.few⟩
abbrev fresh0 (w : World) : Obj := nset (!w.params.followText "set-order")
theorem PSet.new {h : Heap} {a : Addr} (ho : h.get? a = some (fresh0 w)) : PSet P w h a [] #[] 0 (.fresh 0 0 (!w.params.followText "set-order")) where
  obj := ⟨_, ho, ⟨rfl, rfl, rfl⟩, rfl⟩
  ent := rfl
  tab := ⟨List.Pairwise.nil, rfl, rfl, .inl rfl, fun x hx => (by cases hx), fun i h j hi => (by simp at hi)⟩
  one := List.nodup_nil
  tup := fun q m => (by cases m)
  ord := by
    show _ ∨ (!w.params.followText "set-order") = true
    cases w.params.followText "set-order" <;> simp
  gap := by show 0 * 5 < 7 * 3; decide
  few := by show 0 < 64; decide
theorem pairs_loop {I : Addr} {fp wr : List Addr} {G : Array GenState → Array GenState → Prop} {n : Nat} {Pv : Nat → Value → Prop} {Stt : Nat → Shared → Prop} {R : Result → Shared → Prop}
    (W : WalksS P w A.in1 I fp wr G n Pv Stt) (S : Addr) (hSf : S ∉ fp) (ks : List Pq) (hn : n = ks.length) (few : ks.length < 64) (hv : ∀ i v, Pv i v → ∃ q, ks[i]? = some q ∧ v = .ref q.1)
    (h0 : Heap) (hk : ∀ q ∈ ks, PAt P w h0 q.2 q.1) (hS0 : h0.get? S = none) (hw0 : ∀ b ∈ wr, h0.get? b = none) (hu : A.in1.units < cLine) (d : Nat) :
    ∀ (i : Nat) (s : Shared), n = i + d → Stt i s → (∀ b o, h0.get? b = some o → s.heap.get? b = some o) → (∃ L es ep t, PSet P w s.heap S L es ep t ∧ HasP ks i L) →
      (∀ s' L es ep t, Moved (S :: wr) G s s' → PSet P w s'.heap S L es ep t → HasP ks n L → (∀ b o, h0.get? b = some o → s'.heap.get? b = some o) → R (.ok (.ret .none)) s') →
      codeAny (model P w) A (.builtin "set.update.loop" ⟨[.ref S, .ref I], []⟩) R s := by
  have out : S ∉ wr := fun h => hSf (W.sub _ h)
  have more : ∀ b ∈ wr, b ∈ S :: wr := fun b h => List.mem_cons_of_mem _ h
  have stays : ∀ {s s' : Shared}, Moved wr G s s' → (∀ b o, h0.get? b = some o → s.heap.get? b = some o) → ∀ b o, h0.get? b = some o → s'.heap.get? b = some o := fun hm k b o e =>
    hm.heap b o (fun z => by rw [hw0 b z] at e; cases e) (k b o e)
  have sets : ∀ {s s' : Shared} {L es ep t i}, Moved wr G s s' → (∀ b o, h0.get? b = some o → s.heap.get? b = some o) → PSet P w s.heap S L es ep t → HasP ks i L → PSet P w s'.heap S L es ep t := fun hm k hS g =>
    hS.in_ (fun o e => hm.heap S o out e) fun q m => (hk q (List.mem_of_mem_take (g.old q m))).in_ fun o e => stays hm k _ o e
  induction d with
  | zero =>
    intro i s hd hs k ⟨L, es, ep, t, hS, g⟩ hR
    obtain rfl : n = i := hd
    refine codeAny_builtin PyProof.Rows.F.entry_set_update_loop ?_
    rw [Around.under_plainId PyProof.Rows.F.plain_set_update_loop _]
    show wpAny _ A.in1 (pyNext (.ref I) >>= _) _ _ s
    refine wpAny_bind (W.done s _ _ hs fun s' hm => ?_)
    show wpAny _ A.in1 (ret Value.none) _ _ s'
    exact wpAny_pure (hR s' L es ep t (hm.mono more) (sets hm k hS g) g (stays hm k))
  | succ d ih =>
    intro i s hd hs k ⟨L, es, ep, t, hS, g⟩ hR
    have lt : i < n := by omega
    refine codeAny_builtin PyProof.Rows.F.entry_set_update_loop ?_
    rw [Around.under_plainId PyProof.Rows.F.plain_set_update_loop _]
    show wpAny _ A.in1 (pyNext (.ref I) >>= _) _ _ s
    refine wpAny_bind (W.item i s _ _ lt hs fun v s' hP hs' hm => ?_)
    obtain ⟨q, hq, rfl⟩ := hv i v hP
    have k' := stays hm k
    have hS' := sets hm k hS g
    have hx : PAt P w s'.heap q.2 q.1 := (hk q (List.mem_of_getElem? hq)).in_ fun o e => k' _ o e
    show wpAny _ A.in1 (holding [Value.ref q.1] (setAdd S (.ref q.1)) >>= _) _ _ s'
    refine wpAny_bind (wpAny_holding ?_)
    unfold setAdd
    refine wpAny_holding (wpAny_bind (wpAny_pyHash_tuple hu hx ?_))
    refine put_in (s := { s' with toks := s'.toks + ((pk q.2).length + 1) }) hS' hx hu (by have := g.few; omega) fun b h' L' es' ep' t' hsb hS2 c => ?_
    have k2 : ∀ b o, h0.get? b = some o → h'.get? b = some o := fun b o e => (hsb.2 b fun z => by rw [z, hS0] at e; cases e).trans (k' b o e)
    refine wpAny_pure ⟨plainId_quiet PyProof.Rows.F.plain_set_update_loop _, ih (i + 1) _ (by omega) (W.frame _ s' _ _ hs' (Nat.le_add_right _ _) fun b hb o e => ?_) k2 ⟨L', es', ep', t', hS2, g.next hq c⟩ fun s2 L2 es2 ep2 t2 hm2 hS3 g2 k3 => ?_⟩
    · rw [hsb.2 b (fun h : b = S => hSf (by rw [← h]; exact hb))]
      exact e
    · refine hR s2 L2 es2 ep2 t2 (Moved.trans W.gtrans ((hm.mono more).then_heap (Nat.le_add_right _ _) fun b o hb e => ?_) hm2) hS3 g2 k3
      rw [hsb.2 b (fun h : b = S => hb (by rw [h]; exact List.mem_cons_self))]
      exact e
/-- what set(l) leaves -/
def PSetOut (P : Program) (w : World) (s : Shared) (ks : List Pq) (h' : Heap) : Prop :=
  ∃ L es ep t, PSet P w h' s.heap.objs.size L es ep t ∧ HasP ks ks.length L ∧ ∀ b o, s.heap.get? b = some o → h'.get? b = some o
theorem pairs_set {l : Addr} {items : Array Value} (ks : List Pq) {Q : Value → Shared → Prop} (hh : A.handled = none) (hl : s.heap.IsList l items) (hit : items.toList = ks.map fun q => Value.ref q.1) (hk : ∀ q ∈ ks, PAt P w s.heap q.2 q.1) (few : ks.length < 64) (hu : A.units + 8 < cLine)
    (h : ∀ (h' : Heap) (tk : Nat), PSetOut P w s ks h' → Q (.ref s.heap.objs.size) { s with heap := h', toks := tk }) :
    wpAny (model P w) A (call (.type "set") [.ref l]) Q E s := by
  have isz : items.size = ks.length := by rw [← Array.length_toList, hit, List.length_map]
  obtain ⟨ol, hol, hcl, nl, hdl⟩ := id hl
  have lt : l < s.heap.objs.size := Heap.lt_size hol
  obtain ⟨c, tl, hmro⟩ := PySem.F.called_set.mro
  have a1 := PySem.F.called_set.made
  have a2 := PySem.F.called_set.sub
  have a3 := PySem.F.called_set.notType
  have a4 := PySem.F.called_set.canCreate
  have a5 := PySem.F.typeCall_set_1 (.ref l)
  refine wpAny_call (codeAny_of_tree ?_)
  show wpAny _ _ (callAny (.type "set") _) _ _ _
  refine wpAny_pure ⟨Code.quiet_builtin _ (by decide +kernel), codeAny_builtin PySem.F.entry_type_call ?_⟩
  rw [Around.under_plain (weight_type_call_type "set" [.ref l] []) rfl]
  repeat (any_goals (first | assumption | wp_step))
  refine codeAny_mono (code_set_led1 (.ref l) (E := E) (Q₁ := fun obj t => obj = .ref s.heap.objs.size ∧ t = { s with heap := s.heap.push (fresh0 w) }) ⟨rfl, rfl⟩) fun r t hr => ?_
  cases r with
  | error e => exact hr
  | ok fl =>
    cases fl with
    | ret obj =>
      obtain ⟨rfl, rfl⟩ := hr
      have b1 : (s.heap.push (fresh0 w)).get? s.heap.objs.size = some (fresh0 w) := Heap.get?_push_size _ rfl
      have b2 : Shared.TypeIs { s with heap := s.heap.push (fresh0 w) } (.ref s.heap.objs.size) "set" := ⟨_, b1, rfl⟩
      have b3 := PySem.F.called_set.init.lookup
      have b4 := PySem.F.called_set.init.bind (.ref s.heap.objs.size)
      repeat (any_goals (first | assumption | wp_step))
      refine codeAny_mono (codeAny_call_builtin (R := wants (fun r t => r = .none ∧ ∃ h' tk, t = { s with heap := h', toks := tk } ∧ PSetOut P w s ks h') E) PySem.F.called_set.init.plain PySem.F.entry_set_init (check_set_init_1 b2 ?_)) fun r t hr => ?_
      · have c1 : Shared.TypeIs { s with heap := s.heap.push (fresh0 w) } (.ref l) "list" := ⟨ol, Heap.get?_push_of_some _ hol, hcl⟩
        have e1 := PySem.F.sub_list_set
        have e2 := PySem.F.sub_list_frozenset
        have e3 : (Value.type "list" == Value.type "dict") = false := by decide
        have il : (s.heap.push (fresh0 w)).IsList l items := hl.push _
        unfold Builtin.«set.__init__» noKeywords Builtin.Frozenset.updateFrom
        generalize hPI : pyIter = PI
        wp_walk
        subst hPI
        refine wpAny_pyIter_list il ?_
        have z1 : (s.heap.push (fresh0 w)).objs.size = s.heap.objs.size + 1 := Heap.size_push ..
        rw [z1]
        refine wpAny_bind (wpAny_runValue ?_)
        have nS : s.heap.objs.size ∉ [s.heap.objs.size + 1, l] := fun z => by
          rcases List.mem_cons.mp z with z | z
          · exact Nat.ne_of_lt (Nat.lt_succ_self _) z
          · exact Nat.ne_of_gt lt (List.mem_singleton.mp z)
        have ne : l ≠ s.heap.objs.size + 1 := Nat.ne_of_lt (Nat.lt_succ_of_lt lt)
        have free : ∀ b, s.heap.objs.size ≤ b → s.heap.get? b = none := fun b hb => by
          cases q : s.heap.get? b with
          | none => rfl
          | some o => exact absurd (Heap.lt_size q) (Nat.not_lt.mpr hb)
        have g2 : ((s.heap.push (fresh0 w)).push { cls := .type "list_iterator", data := .fields #[.ref l, .int 0 0] }).get? (s.heap.objs.size + 1) = some { cls := .type "list_iterator", data := .fields #[.ref l, .int 0 0] } := by
          have e := Heap.get?_push_size (s.heap.push (fresh0 w)) (o := { cls := .type "list_iterator", data := .fields #[.ref l, .int 0 0] }) rfl
          rwa [Heap.size_push] at e
        refine pairs_loop ((Walks.list (by simp [hh]) _ l ne items).toS) s.heap.objs.size nS ks isz few (fun i v hv => ?_) s.heap hk (free _ (Nat.le_refl _)) (fun b hb => free b (by rw [List.mem_singleton.mp hb]; omega)) (by simp only [Around.in1_units]; omega) items.size 0 _ (by omega)
          ⟨⟨_, g2, rfl, rfl⟩, il.push _⟩ (fun b o e => Heap.get?_push_of_some _ (Heap.get?_push_of_some _ e)) ⟨[], #[], 0, _, PSet.new (Heap.get?_push_of_some _ b1), ⟨fun q m => (by cases m), fun q m => (by simp at m), Nat.le_refl _⟩⟩ fun s' L es ep t hm hS g k => ?_
        · have e : items.toList[i]? = some v := by rw [Array.getElem?_toList]; exact hv
          rw [hit, List.getElem?_map] at e
          obtain ⟨q, h1, h2⟩ := Option.map_eq_some_iff.mp e
          exact ⟨q, h1, h2.symm⟩
        · obtain ⟨h', g', d', tk', os'⟩ := s'
          obtain rfl : g' = s.gens := hm.gens
          obtain rfl : d' = s.drawn := hm.drawn
          obtain rfl : os' = s.os := hm.os
          show wpAny _ _ _ _ _ _
          refine wpAny_pure ?_
          show wpAny _ _ (ret Value.none) _ _ _
          rw [isz] at g
          exact wpAny_pure ⟨rfl, h', tk', rfl, L, es, ep, t, hS, g, k⟩
      · cases r with
        | error e => exact hr
        | ok fl =>
          cases fl with
          | ret r =>
            obtain ⟨rfl, h', tk, rfl, o⟩ := hr
            repeat (any_goals (first | assumption | wp_step))
            exact h _ _ o
          | _ => exact hr.elim
    | _ => exact hr.elim
end
end Sr

set_option Elab.async false
set_option linter.all false
set_option maxRecDepth 100000
set_option maxHeartbeats 4000000
namespace Sr
open PySem PySem.Spec PyProof.Rows L2
/-! ### sorted(set(xs)) of texts -/
def txtOf (e : Int × Value) : Str := match e.2 with
  | .str z _ => z
  | _ => Str.empty
def TxtE (P : Program) (w : World) (e : Int × Value) : Prop := ∃ z t, e.2 = Value.str z t ∧ e.1 = (PySem.strKind P w).hash z
/-- the set at a has the texts L (each once, in any order) -/
def TSet (P : Program) (w : World) (h : Heap) (a : Addr) (L : List Str) : Prop :=
  ∃ o es ep t, h.get? a = some o ∧ o.ExactSet ∧ o.data = .set es ep t ∧ (∀ e ∈ es.toList, TxtE P w e) ∧ (es.toList.map txtOf).Perm L ∧ es.size < scanBound ∧ t.fits es.size = true ∧ Ris t.place.toList ∧ (w.params.followText "set-order" = true ∨ t.led = true)
section
variable {P : Program} {w : World} {A : Around} {E : Value → Shared → Prop} {s : Shared} {a : Addr} {L : List Str}
theorem TSet.in_ {h h' : Heap} (R : TSet P w h a L) (k : ∀ o, h.get? a = some o → h'.get? a = some o) : TSet P w h' a L :=
  let ⟨o, es, ep, t, ho, r⟩ := R
  ⟨o, es, ep, t, k o ho, r⟩
theorem txt_elems {l : List (Int × Value)} (g : ∀ e ∈ l, TxtE P w e) : ElemsOf (PySem.strKind P w) l := fun e m => by
  obtain ⟨z, t, e1, e2⟩ := g e m
  exact ⟨⟨z, by rw [e1]; exact strKind_is P w z t, e2⟩, by rw [e1]; rfl⟩
theorem txt_is {e : Int × Value} (g : TxtE P w e) (z : Str) : (PySem.strKind P w).is z e.2 = true ↔ txtOf e = z := by
  obtain ⟨y, t, e1, _⟩ := g
  unfold txtOf
  rw [e1]
  show ((y == z) = true) ↔ y = z
  exact beq_iff_eq
/-- what is stored behind a text that is new, the table laid anew where it is too full -/
theorem tset_stored {mark : Bool → Sem Unit} (hm : ∀ (b : Bool) (s₁ : Shared) (Q' : Unit → Shared → Prop), Q' () s₁ → wpAny (model P w) A (mark b) Q' E s₁)
    {o : Obj} {es es1 : Array (Int × Value)} {ep : Nat} {t t1 : SetTable} (ho : s.heap.get? a = some o) (hex : o.ExactSet) (hd : o.data = .set es ep t) (g : ∀ e ∈ es1.toList, TxtE P w e) (pm : (es1.toList.map txtOf).Perm L) (hb : es1.size < scanBound) (hf : t1.fits es1.size = true)
    (hr : Ris t1.place.toList) (hl : w.params.followText "set-order" = true ∨ t1.led = true) {dm : Bool} {R : Option Bool → Shared → Prop} (hR : ∀ h', Heap.SameBut a s.heap h' → TSet P w h' a L → R (some true) { s with heap := h' }) :
    wpAny (model P w) A (do
      storeSet a es1 t1
      if (!dm && t1.tooFull) = true then do
        mark (relayAll t1 es1 (SetTable.grown es1.size)).2.2
        storeSet a (relayAll t1 es1 (SetTable.grown es1.size)).1 (relayAll t1 es1 (SetTable.grown es1.size)).2.1
        pure (some true)
      else pure (some true)) R E s := by
  have but := Heap.SameBut.update s.heap a (Obj.putSet es1 t1)
  have at1 := store_at (es' := es1) (t' := t1) ho hd
  refine wpAny_bind (wpAny_storeSet_of ho hd ?_ (fits_of_scanBound hb))
  by_cases full : (!dm && t1.tooFull) = true
  · rw [if_pos full]
    have q1 := relayAll_perm t1 es1 (SetTable.grown es1.size)
    have q2 := relayAll_fits t1 es1 (SetTable.grown es1.size)
    have q3 := relayAll_ris t1 es1 (SetTable.grown es1.size)
    have q4 := relayAll_led t1 es1 (SetTable.grown es1.size)
    generalize relayAll t1 es1 (SetTable.grown es1.size) = Z at q1 q2 q3 q4 ⊢
    have sz : Z.1.size = es1.size := by
      have := q1.length_eq
      rwa [Array.length_toList, Array.length_toList] at this
    have hb2 : Z.1.size < scanBound := by omega
    refine wpAny_bind (hm _ _ _ (wpAny_bind (wpAny_storeSet_of at1 rfl ?_ (fits_of_scanBound hb2))))
    exact wpAny_pure (hR _ (but.trans (Heap.SameBut.update _ a _)) ⟨_, Z.1, _, Z.2.1, store_at at1 rfl, hex, rfl, fun e m => g e (q1.mem_iff.mp m), (q1.map txtOf).trans pm, hb2, q2, q3, hl.imp id fun z => by rw [q4]; exact z⟩)
  · rw [if_neg full]
    exact wpAny_pure (hR _ but ⟨_, es1, _, t1, at1, hex, rfl, g, pm, hb, hf, hr, hl⟩)
/-- a text put in -/
theorem tset_put {z : Str} {tk : Tok} {Q : Bool → Shared → Prop} (R : TSet P w s.heap a L) (room : L.length + 1 < scanBound)
    (hQ : ∀ b h', Heap.SameBut a s.heap h' → TSet P w h' a (if L.any (· == z) = true then L else L ++ [z]) → Q b { s with heap := h' }) :
    wpAny (model P w) A (setAddHashed a (.str z tk) ((PySem.strKind P w).hash z)) Q E s := by
  obtain ⟨o, es, ep, t, ho, hex, hd, g, pm, hb, hf, hr, hl⟩ := id R
  have hk : (PySem.strKind P w).is z (.str z tk) = true := strKind_is P w z tk
  have hc : (Value.str z tk).scannable = true := rfl
  have hel := txt_elems g
  have hn : es.size = L.length := by
    have := pm.length_eq
    rwa [List.length_map, Array.length_toList] at this
  have has : L.any (· == z) = true ↔ ∃ e ∈ es.toList, (PySem.strKind P w).is z e.2 = true := by
    rw [List.any_eq_true]
    constructor
    · rintro ⟨y, my, e⟩
      obtain ⟨e2, m2, rfl⟩ := List.mem_map.mp (pm.mem_iff.mpr my)
      exact ⟨e2, m2, (txt_is (g e2 m2) z).mpr (beq_iff_eq.mp e)⟩
    · rintro ⟨e2, m2, e⟩
      exact ⟨txtOf e2, pm.mem_iff.mp (List.mem_map.mpr ⟨e2, m2, rfl⟩), beq_iff_eq.mpr ((txt_is (g e2 m2) z).mp e)⟩
  unfold setAddHashed setAddHashedIn
  refine wpAny_holding (wpAny_bind (wpAny_setState_of ho hd hf ?_))
  dsimp only
  rw [byScan_of hc hb hel, if_pos rfl]
  unfold setAddByScan
  refine wpAny_bind (wpAny_bind (wpAny_rule (wpAny_bind (wpAny_setScan_of hk ho hd hf hel ?_))))
  cases hi : List.findIdx? (fun e => (PySem.strKind P w).is z e.2) es.toList with
  | some j =>
    obtain ⟨hj, pj, _⟩ := List.findIdx?_eq_some_iff_getElem.mp hi
    refine wpAny_pure (wpAny_pure (hQ _ s.heap (Heap.SameBut.refl a s.heap) ?_))
    rw [if_pos (has.mpr ⟨_, List.getElem_mem hj, pj⟩)]
    exact R
  | none =>
    have no : ¬ L.any (· == z) = true := fun h => by
      obtain ⟨e, m, q⟩ := has.mp h
      have c := List.findIdx?_eq_none_iff.mp hi e m
      rw [q] at c
      cases c
    rw [if_neg no] at hQ
    dsimp only
    have mk : ∀ (b : Bool) {s₁ : Shared} {Q' : Unit → Shared → Prop}, Q' () s₁ → wpAny (model P w) A (match b with | true => rule "set.scan.the-table-gave-way" | false => pure ()) Q' E s₁ :=
      fun b s₁ Q' q => by cases b <;> first | exact wpAny_pure q | exact wpAny_rule q
    have q1 := layNew_perm t es ((PySem.strKind P w).hash z) (.str z tk)
    have q2 := layNew_fits t es ((PySem.strKind P w).hash z) (.str z tk)
    have q3 := layNew_ris t es ((PySem.strKind P w).hash z) (.str z tk) hr
    have q4 := layNew_led t es ((PySem.strKind P w).hash z) (.str z tk)
    generalize layNew t es ((PySem.strKind P w).hash z) (.str z tk) = Z at q1 q2 q3 q4 ⊢
    obtain ⟨es1, t1, dm, gave⟩ := Z
    dsimp only at q1 q2 q3 q4 ⊢
    rw [Array.toList_push] at q1
    have p1 : (es1.toList.map txtOf).Perm (L ++ [z]) := by
      refine (q1.map txtOf).trans ?_
      rw [List.map_append]
      exact pm.append_right _
    have sz : es1.size = L.length + 1 := by
      have := p1.length_eq
      rwa [List.length_map, Array.length_toList, List.length_append] at this
    have hb1 : es1.size < scanBound := by omega
    have g1 : ∀ e ∈ es1.toList, TxtE P w e := fun e m => by
      rcases List.mem_append.mp (q1.mem_iff.mp m) with m | m
      · exact g e m
      · rw [List.mem_singleton.mp m]
        exact ⟨z, tk, rfl, rfl⟩
    have led : w.params.followText "set-order" = true ∨ t1.led = true := hl.imp id fun y => by rw [q4]; exact y
    have ok : ∀ t2 : SetTable, t2.fits es1.size = true → t2.place = t1.place → t2.led = t1.led → Ris t2.place.toList ∧ (w.params.followText "set-order" = true ∨ t2.led = true) := fun t2 _ e1 e2 => ⟨by rw [e1]; exact q3, by rw [e2]; exact led⟩
    refine wpAny_bind (mk _ ?_)
    split
    · refine wpAny_bind ?_
      rw [hashByValue_scannable 8 hc]
      refine wpAny_pure (tset_stored (L := L ++ [z]) ?_ ho hex hd g1 p1 hb1 ?_ ?_ ?_ fun h' but r => ?_)
      · intro b s₁ Q' q; cases b <;> first | exact wpAny_pure q | exact wpAny_rule q
      · first | (split <;> first | exact q2 | exact SetTable.fits_plain_off q2) | exact q2
      · first | (split <;> exact q3) | exact q3
      · first | (split <;> exact led) | exact led
      · dsimp only; exact wpAny_pure (hQ _ h' but r)
    · refine wpAny_bind (wpAny_pure ?_)
      simp only [↓reduceIte]
      refine tset_stored (L := L ++ [z]) ?_ ho hex hd g1 p1 hb1 q2 q3 led fun h' but r => ?_
      · intro b s₁ Q' q; cases b <;> first | exact wpAny_pure q | exact wpAny_rule q
      · dsimp only; exact wpAny_pure (hQ _ h' but r)
end
end Sr

set_option Elab.async false
set_option linter.all false
set_option maxRecDepth 100000
set_option maxHeartbeats 4000000
namespace Sr
open PySem PySem.Spec PyProof.Rows L2
section
variable {P : Program} {w : World} {A : Around} {E : Value → Shared → Prop} {s : Shared}
theorem TSet.new {h : Heap} {a : Addr} (ho : h.get? a = some (fresh0 w)) : TSet P w h a [] := by
  refine ⟨_, #[], 0, _, ho, ⟨rfl, rfl, rfl⟩, rfl, fun e m => (by cases m), .nil, by decide, by rfl, List.Pairwise.nil, ?_⟩
  show _ ∨ (!w.params.followText "set-order") = true
  cases w.params.followText "set-order" <;> simp
theorem met_at (xs : List Str) (i : Nat) : (if ((met xs i).any (· == xs.getD i Str.empty)) = true then met xs i else met xs i ++ [xs.getD i Str.empty]) = met xs (i + 1) := rfl
theorem tset_loop {R : Result → Shared → Prop} {I : Addr} {fp wr : List Addr} {G : Array GenState → Array GenState → Prop} {n : Nat} {Pv : Nat → Value → Prop} {Stt : Nat → Shared → Prop}
    (W : WalksS P w A.in1 I fp wr G n Pv Stt) (S : Addr) (hSf : S ∉ fp) (xs : List Str) (hv : ∀ i v, Pv i v → ∃ t, v = .str (xs.getD i Str.empty) t) (hb : n + 1 < scanBound) (d : Nat) :
    ∀ (i : Nat) (s : Shared), n = i + d → Stt i s → TSet P w s.heap S (met xs i) → (∀ s', Moved (S :: wr) G s s' → TSet P w s'.heap S (met xs n) → R (.ok (.ret .none)) s') →
      codeAny (model P w) A (.builtin "set.update.loop" ⟨[.ref S, .ref I], []⟩) R s := by
  have out : S ∉ wr := fun h => hSf (W.sub _ h)
  have more : ∀ b ∈ wr, b ∈ S :: wr := fun b h => List.mem_cons_of_mem _ h
  have moves : ∀ (s s' : Shared) (i : Nat), Moved wr G s s' → TSet P w s.heap S (met xs i) → TSet P w s'.heap S (met xs i) := fun s s' i hm R => R.in_ fun o e => hm.heap S o out e
  induction d with
  | zero =>
    intro i s hd hs hS hR
    obtain rfl : n = i := hd
    refine codeAny_builtin PyProof.Rows.F.entry_set_update_loop ?_
    rw [Around.under_plainId PyProof.Rows.F.plain_set_update_loop _]
    show wpAny _ A.in1 (pyNext (.ref I) >>= _) _ _ s
    refine wpAny_bind (W.done s _ _ hs fun s' hm => ?_)
    show wpAny _ A.in1 (ret Value.none) _ _ s'
    exact wpAny_pure (hR s' (hm.mono more) (moves s s' _ hm hS))
  | succ d ih =>
    intro i s hd hs hS hR
    have lt : i < n := by omega
    refine codeAny_builtin PyProof.Rows.F.entry_set_update_loop ?_
    rw [Around.under_plainId PyProof.Rows.F.plain_set_update_loop _]
    show wpAny _ A.in1 (pyNext (.ref I) >>= _) _ _ s
    refine wpAny_bind (W.item i s _ _ lt hs fun v s' hP hs' hm => ?_)
    obtain ⟨t, rfl⟩ := hv i v hP
    have hS' := moves s s' i hm hS
    show wpAny _ A.in1 (holding [Value.str (xs.getD i Str.empty) t] (setAdd S _) >>= _) _ _ s'
    refine wpAny_bind (wpAny_holding ?_)
    unfold setAdd
    refine wpAny_holding (wpAny_bind ((PySem.strKind P w).pyHash (k := xs.getD i Str.empty) (strKind_is _ _ _ _) ?_))
    have room : (met xs i).length + 1 < scanBound := by have := met_le xs i; omega
    refine tset_put (s := { s' with toks := s'.toks + 1 }) hS' room fun b h' hsb hS2 => ?_
    rw [met_at] at hS2
    refine wpAny_pure ⟨plainId_quiet PyProof.Rows.F.plain_set_update_loop _, ih (i + 1) _ (by omega) (W.frame _ s' _ _ hs' (Nat.le_succ _) fun b hb o e => ?_) hS2 fun s2 hm2 hS4 => ?_⟩
    · rw [hsb.2 b (fun h : b = S => hSf (by rw [← h]; exact hb))]
      exact e
    · refine hR s2 (Moved.trans W.gtrans ((hm.mono more).then_heap (Nat.le_succ _) fun b o hb e => ?_) hm2) hS4
      rw [hsb.2 b (fun h : b = S => hb (by rw [h]; exact List.mem_cons_self))]
      exact e
theorem strs_getD {us : List Value} {xs : List Str} (h : PyProof.Rows.StrsAre us xs) : ∀ (i : Nat) (v : Value), us[i]? = some v → ∃ t, v = .str (xs.getD i Str.empty) t := by
  induction h with
  | nil => intro i v e; simp at e
  | cons _ _ _ ih =>
    intro i v e
    cases i with
    | zero => simp at e; exact ⟨_, e.symm⟩
    | succ i => exact ih i v (by simpa using e)
def TSetOut (P : Program) (w : World) (s : Shared) (xs : List Str) (h' : Heap) : Prop := TSet P w h' s.heap.objs.size (met xs xs.length) ∧ ∀ b o, s.heap.get? b = some o → h'.get? b = some o
theorem texts_tset {l : Addr} {items : Array Value} (xs : List Str) {Q : Value → Shared → Prop} (hh : A.handled = none) (hl : s.heap.IsList l items) (hit : PyProof.Rows.StrsAre items.toList xs) (few : xs.length < 64)
    (h : ∀ (h' : Heap) (tk : Nat), TSetOut P w s xs h' → Q (.ref s.heap.objs.size) { s with heap := h', toks := tk }) :
    wpAny (model P w) A (call (.type "set") [.ref l]) Q E s := by
  have isz : items.size = xs.length := by
    have z := hit.length
    rwa [Array.length_toList] at z
  obtain ⟨ol, hol, hcl, nl, hdl⟩ := id hl
  have lt : l < s.heap.objs.size := Heap.lt_size hol
  obtain ⟨c, tl, hmro⟩ := PySem.F.called_set.mro
  have a1 := PySem.F.called_set.made
  have a2 := PySem.F.called_set.sub
  have a3 := PySem.F.called_set.notType
  have a4 := PySem.F.called_set.canCreate
  have a5 := PySem.F.typeCall_set_1 (.ref l)
  refine wpAny_call (codeAny_of_tree ?_)
  show wpAny _ _ (callAny (.type "set") _) _ _ _
  refine wpAny_pure ⟨Code.quiet_builtin _ (by decide +kernel), codeAny_builtin PySem.F.entry_type_call ?_⟩
  rw [Around.under_plain (weight_type_call_type "set" [.ref l] []) rfl]
  repeat (any_goals (first | assumption | wp_step))
  refine codeAny_mono (code_set_led1 (.ref l) (E := E) (Q₁ := fun obj t => obj = .ref s.heap.objs.size ∧ t = { s with heap := s.heap.push (fresh0 w) }) ⟨rfl, rfl⟩) fun r t hr => ?_
  cases r with
  | error e => exact hr
  | ok fl =>
    cases fl with
    | ret obj =>
      obtain ⟨rfl, rfl⟩ := hr
      have b1 : (s.heap.push (fresh0 w)).get? s.heap.objs.size = some (fresh0 w) := Heap.get?_push_size _ rfl
      have b2 : Shared.TypeIs { s with heap := s.heap.push (fresh0 w) } (.ref s.heap.objs.size) "set" := ⟨_, b1, rfl⟩
      have b3 := PySem.F.called_set.init.lookup
      have b4 := PySem.F.called_set.init.bind (.ref s.heap.objs.size)
      repeat (any_goals (first | assumption | wp_step))
      refine codeAny_mono (codeAny_call_builtin (R := wants (fun r t => r = .none ∧ ∃ h' tk, t = { s with heap := h', toks := tk } ∧ TSetOut P w s xs h') E) PySem.F.called_set.init.plain PySem.F.entry_set_init (check_set_init_1 b2 ?_)) fun r t hr => ?_
      · have c1 : Shared.TypeIs { s with heap := s.heap.push (fresh0 w) } (.ref l) "list" := ⟨ol, Heap.get?_push_of_some _ hol, hcl⟩
        have e1 := PySem.F.sub_list_set
        have e2 := PySem.F.sub_list_frozenset
        have e3 : (Value.type "list" == Value.type "dict") = false := by decide
        have il : (s.heap.push (fresh0 w)).IsList l items := hl.push _
        unfold Builtin.«set.__init__» noKeywords Builtin.Frozenset.updateFrom
        generalize hPI : pyIter = PI
        wp_walk
        subst hPI
        refine wpAny_pyIter_list il ?_
        have z1 : (s.heap.push (fresh0 w)).objs.size = s.heap.objs.size + 1 := Heap.size_push ..
        rw [z1]
        refine wpAny_bind (wpAny_runValue ?_)
        have nS : s.heap.objs.size ∉ [s.heap.objs.size + 1, l] := fun z => by
          rcases List.mem_cons.mp z with z | z
          · exact Nat.ne_of_lt (Nat.lt_succ_self _) z
          · exact Nat.ne_of_gt lt (List.mem_singleton.mp z)
        have ne : l ≠ s.heap.objs.size + 1 := Nat.ne_of_lt (Nat.lt_succ_of_lt lt)
        have g2 : ((s.heap.push (fresh0 w)).push { cls := .type "list_iterator", data := .fields #[.ref l, .int 0 0] }).get? (s.heap.objs.size + 1) = some { cls := .type "list_iterator", data := .fields #[.ref l, .int 0 0] } := by
          have e := Heap.get?_push_size (s.heap.push (fresh0 w)) (o := { cls := .type "list_iterator", data := .fields #[.ref l, .int 0 0] }) rfl
          rwa [Heap.size_push] at e
        refine tset_loop ((Walks.list (by simp [hh]) _ l ne items).toS) s.heap.objs.size nS xs (fun i v hv => strs_getD hit i v (by rw [Array.getElem?_toList]; exact hv)) (by unfold scanBound; omega) items.size 0 _ (by omega)
          ⟨⟨_, g2, rfl, rfl⟩, il.push _⟩ (TSet.new (Heap.get?_push_of_some _ b1)) fun s' hm hS => ?_
        obtain ⟨h', g', d', tk', os'⟩ := s'
        obtain rfl : g' = s.gens := hm.gens
        obtain rfl : d' = s.drawn := hm.drawn
        obtain rfl : os' = s.os := hm.os
        show wpAny _ _ _ _ _ _
        refine wpAny_pure ?_
        show wpAny _ _ (ret Value.none) _ _ _
        rw [isz] at hS
        refine wpAny_pure ⟨rfl, h', tk', rfl, hS, fun b o e => ?_⟩
        have lb : b < s.heap.objs.size := Heap.lt_size e
        refine hm.heap b o (fun z => ?_) (Heap.get?_push_of_some _ (Heap.get?_push_of_some _ e))
        simp only [List.mem_cons, List.not_mem_nil, or_false] at z
        rcases z with z | z
        · exact Nat.ne_of_lt lb z
        · exact Nat.ne_of_lt (Nat.lt_succ_of_lt lb) z
      · cases r with
        | error e => exact hr
        | ok fl =>
          cases fl with
          | ret r =>
            obtain ⟨rfl, h', tk, rfl, o⟩ := hr
            repeat (any_goals (first | assumption | wp_step))
            exact h _ _ o
          | _ => exact hr.elim
    | _ => exact hr.elim
theorem strs_each {us : List Value} : (∀ v ∈ us, ∃ z t, v = Value.str z t) → PyProof.Rows.StrsAre us (us.map fun v => txtOf (0, v)) := by
  induction us with
  | nil => intro _; exact .nil
  | cons u us ih =>
    intro h
    obtain ⟨z, t, rfl⟩ := h u List.mem_cons_self
    exact .cons _ _ (ih fun v m => h v (List.mem_cons_of_mem _ m))
end
section
variable {X : Cx}
def tSortTxt (K : PySem.W.Frag) (ta : TE) : TE := fun σ H Q => ta σ H fun x H1 => ∃ (l : Addr) (xs : List Str), x = .ref l ∧ SqL K H1 l (xs.map V.str) ∧ xs.length < 64 ∧
  ∀ (ys : List Str) (p : Addr), ys.Perm (met xs xs.length) → sortedS ys = true → H1 p = none → Q (.ref p) (upd H1 p (.lst (ys.map V.str)))
theorem pe_sortTxt {a : Expr} {ta : TE} {p p2 q pos : Pos} (hc : X.calm = true) (hg : Gl X "sorted") (hm : X.mg "sorted" = none) (hg2 : Gl X "set") (hm2 : X.mg "set" = none) (ha : PE X a ta)
    (na : starEach [a] X.env = (false, eval a X.env) :: starEach [] X.env := by rfl) : PE X (.Call (.Name "sorted" p) [.Call (.Name "set" p2) [a] [] q] [] pos) (tSortTxt X.K ta) := by
  refine ⟨fun pins s σ H Q I h => ?_⟩
  refine Call_ (ld_blt (u := .builtin "sorted") I hg hm (by decide +kernel) ?_)
  refine PyProof.Rows.callWith_builtin1 (PyProof.Rows.args_cons ?_ rfl) rfl rfl
  refine Call_ (ld_blt (u := .type "set") I hg2 hm2 (by decide +kernel) ?_)
  refine PyProof.Rows.callWith_type1 (PyProof.Rows.args_cons (thn (ha.run pins s σ H _ I h) fun v s1 ⟨x, H1, I1, r1, q1⟩ => PyProof.Rows.args_nil ?_) na) na rfl
  obtain ⟨l, xs, rfl, hq, few, q1⟩ := q1
  cases r1
  obtain ⟨its, r, pl, hz⟩ := I1.list hq
  refine texts_tset (P := X.prog) (w := X.w) xs (I1.ok.hd hc) pl.isList (by simpa using r.strs) few fun h' tk ⟨R, keep⟩ => ?_
  refine PyProof.Rows.args_nil ?_
  have I2 : L2.Inv X pins σ H1 { s1 with heap := h', toks := tk } := I1.kept keep
  refine Calls.call_function_entry PyProof.Rows.kind_sorted PyProof.Rows.plain_sorted PyProof.Rows.entry_sorted (PyProof.Rows.args_sorted1 _) ?_
  unfold Builtin.«sorted»
  refine wpAny_bind (m := checkCount "sorted" 1 1 _) (wpAny_pure ?_)
  obtain ⟨o, es, ep, t, ho, hex, hd, g, pm, hb, hf, hr, hl⟩ := R
  have lm := met_le xs xs.length
  refine wpAny_bind (collect_set (P := X.prog) (w := X.w) (A := X.A.in1) (I1.ok.hd hc) ⟨o, ho, hex.1, hd⟩ hf hb hr hl fun s2 vs k2 hz2 g2 o2 pv => ?_)
  have lv : vs.length < 64 := by
    have h1 := pv.length_eq
    have h2 := pm.length_eq
    rw [List.length_map] at h1 h2
    omega
  have hS : PyProof.Rows.StrsAre vs (vs.map fun v => txtOf (0, v)) := strs_each fun v m => by
    obtain ⟨e, me, q⟩ := List.mem_map.mp (pv.mem_iff.mp m)
    obtain ⟨z, t, e1, _⟩ := g e me
    exact ⟨z, t, by rw [← q]; exact e1⟩
  have pt : (vs.map fun v => txtOf (0, v)).Perm (met xs xs.length) := by
    refine (pv.map fun v => txtOf (0, v)).trans ?_
    rw [List.map_map]
    exact pm
  refine wpAny_bind (wpAny_newList ?_ (by rw [sizeLine_eq]; omega))
  have hoL : (s2.heap.push (seqObj "list" vs.toArray 0)).get? s2.heap.objs.size = some (seqObj "list" vs.toArray 0) := Heap.get?_push_size _ rfl
  refine wpAny_bind (wpAny_holding (wpAny_call_entry PyProof.Rows.slot_list_sort ⟨_, hoL, rfl⟩ PyProof.Rows.entry_list_sort
    (list_sort_treeK strKind_oneLt hoL hS.keysOf (fun v₁ v₂ rest e => keyKind_strs (by rw [← e]; exact hS)) lv fun st' hp hs => ⟨_, rfl, ?_⟩) (PyProof.Rows.args_list_sort _)))
  obtain ⟨ys, y1, y2, y3⟩ := sorted_out_str hS hp hs
  obtain ⟨e', he'⟩ := PyProof.Rows.sortedHeap_at (vs := vs) (out := (arrOf st').map (·.2)) hoL
  have hlen : (ys.map V.str).length ≤ sizeLine := by
    rw [List.length_map, y2.length_eq, List.length_map, sizeLine_eq]
    omega
  have kk : ∀ b o, h'.get? b = some o → (PyProof.Rows.sortedHeap (s2.heap.push (seqObj "list" vs.toArray 0)) s2.heap.objs.size vs ((arrOf st').map (·.2))).get? b = some o := fun b o e => by
    have lb : b < s2.heap.objs.size := Heap.lt_size (k2 b o e)
    rw [PyProof.Rows.sortedHeap_old (Nat.ne_of_lt lb) (by rw [size_push']; exact Nat.lt_succ_of_lt lb)]
    exact Heap.get?_push_of_some _ (k2 b o e)
  have hn : H1 s2.heap.objs.size = none := I2.hok.fresh hz2
  have J : L2.Inv X pins σ (upd H1 s2.heap.objs.size (.lst (ys.map V.str))) { ({ s1 with heap := h', toks := tk } : Shared) with heap := PyProof.Rows.sortedHeap (s2.heap.push (seqObj "list" vs.toArray 0)) s2.heap.objs.size vs ((arrOf st').map (·.2)), gens := s2.gens, drawn := s2.drawn, toks := s2.toks } :=
    I2.call (ch := []) (Un.laid kk hz2 hn) (I2.hok.laid kk hz2 ⟨hlen, ((arrOf st').map (·.2)).toList, e', vals_of_strs y1, by rw [Array.toArray_toList]; exact he'⟩) (by rw [g2]; exact I2.bare) (fun _ z => nomatch z)
  have es2 : s2 = { ({ s1 with heap := h', toks := tk } : Shared) with heap := s2.heap, gens := s2.gens, drawn := s2.drawn, toks := s2.toks } := by
    cases s2
    cases o2
    rfl
  refine wpAny_pure ⟨_, rfl, .ref s2.heap.objs.size, upd H1 s2.heap.objs.size (.lst (ys.map V.str)), ?_, rfl, q1 ys _ (y2.trans pt) y3 hn⟩
  rw [es2]
  exact J
end
end Sr

set_option Elab.async false
set_option linter.all false
set_option maxRecDepth 100000
set_option maxHeartbeats 4000000
namespace K38
open PySem PySem.Spec PyProof.Rows L2 Sr
/-- two orders of the same names, both ascending -/
def leS (a b : Str) : Prop := a.cps.toList ≤ b.cps.toList
theorem leS_of {a b : Str} (h : (!ltCps b.cps.toList a.cps.toList) = true) : leS a b := by
  rw [ltCps_eq] at h
  exact List.not_lt.mp (of_decide_eq_false (by simpa using h))
theorem rising_pw : ∀ {r : List Str} {p : Str}, PyProof.Rows.risingS p r = true → (p :: r).Pairwise leS
  | [], p, _ => List.pairwise_singleton _ _
  | x :: r, p, h => by
    obtain ⟨h1, h2⟩ := Bool.and_eq_true_iff.mp h
    have ih := rising_pw h2
    have px := leS_of h1
    refine List.pairwise_cons.mpr ⟨fun y m => ?_, ih⟩
    rcases List.mem_cons.mp m with rfl | m
    · exact px
    · exact List.le_trans px ((List.pairwise_cons.mp ih).1 y m)
theorem sorted_pw {ys : List Str} (h : PyProof.Rows.sortedS ys = true) : ys.Pairwise leS := by
  cases ys with
  | nil => exact List.Pairwise.nil
  | cons y r => exact rising_pw h
theorem sorted_one {xs ys zs : List Str} (hx : xs.Perm zs) (hy : ys.Perm zs) (sx : PyProof.Rows.sortedS xs = true) (sy : PyProof.Rows.sortedS ys = true) : xs = ys := by
  refine List.Perm.eq_of_pairwise (le := leS) (fun a b _ _ h1 h2 => ?_) (sorted_pw sx) (sorted_pw sy) (hx.trans hy.symm)
  have e : a.cps.toList = b.cps.toList := List.le_antisymm h1 h2
  obtain ⟨⟨ca⟩⟩ := a
  obtain ⟨⟨cb⟩⟩ := b
  simp only at e
  rw [e]
/-! ### worlds as data: coins, debts, members -/
theorem met_mem {xs : List Str} {s : Str} : ∀ {i : Nat}, i ≤ xs.length → (s ∈ met xs i ↔ s ∈ xs.take i)
  | 0, _ => by simp [met]
  | i + 1, h => by
    have lt : i < xs.length := h
    have ih := met_mem (xs := xs) (s := s) (i := i) (by omega)
    have e : xs.getD i Str.empty = xs[i] := by rw [List.getD_eq_getElem?_getD, List.getElem?_eq_getElem lt]; rfl
    have et : xs.take (i + 1) = xs.take i ++ [xs[i]] := by rw [List.take_succ, List.getElem?_eq_getElem lt]; rfl
    rw [← met_at, e, et, List.mem_append, List.mem_singleton]
    split
    · rename_i c
      obtain ⟨y, my, ey⟩ := List.any_eq_true.mp c
      obtain rfl : y = xs[i] := beq_iff_eq.mp ey
      rw [ih]
      refine ⟨.inl, fun z => z.elim id fun z => ?_⟩
      rw [z]
      exact (met_mem (by omega)).mp my
    · rw [List.mem_append, List.mem_singleton, ih]
theorem met_nd (xs : List Str) : ∀ i, (met xs i).Nodup
  | 0 => List.nodup_nil
  | i + 1 => by
    rw [← met_at]
    split
    · exact met_nd xs i
    · rename_i c
      refine List.nodup_append.mpr ⟨met_nd xs i, List.nodup_cons.mpr ⟨List.not_mem_nil, List.nodup_nil⟩, fun x m y my e => c (List.any_eq_true.mpr ⟨x, m, beq_iff_eq.mpr ?_⟩)⟩
      rw [e, List.mem_singleton.mp my]
abbrev Cn := List (Str × Int)
abbrev Rw := List (Str × Int)
abbrev Db := List (Str × Rw)
def gC (cs : Cn) (n : Str) : Int := (cs.lookup n).getD 0
def gD (ds : Db) (n : Str) : Rw := (ds.lookup n).getD []
def toldN (ds : Db) : List Str := ds.flatMap fun p => p.2.map (·.1)
def allN (cs : Cn) (ds : Db) : List Str := cs.map (·.1) ++ ds.map (·.1) ++ toldN ds
/-- the members, ascending -/
def Nms (cs : Cn) (ds : Db) (ys : List Str) : Prop := ys.Nodup ∧ PyProof.Rows.sortedS ys = true ∧ ∀ s, s ∈ ys ↔ s ∈ allN cs ds
theorem nms_of {cs : Cn} {ds : Db} {xs ys : List Str} (h : ∀ s, s ∈ xs ↔ s ∈ allN cs ds) (p : ys.Perm (met xs xs.length)) (so : PyProof.Rows.sortedS ys = true) : Nms cs ds ys :=
  ⟨p.nodup_iff.mpr (met_nd xs _), so, fun s => by rw [p.mem_iff, met_mem (Nat.le_refl _), List.take_length, h]⟩
theorem nms_one {cs cs' : Cn} {ds ds' : Db} {ys ys' : List Str} (a : Nms cs ds ys) (b : Nms cs' ds' ys') (h : ∀ s, s ∈ allN cs ds ↔ s ∈ allN cs' ds') : ys = ys' := by
  have p : ys.Perm ys' := (List.perm_ext_iff_of_nodup a.1 b.1).mpr fun s => by rw [a.2.2, b.2.2, h]
  exact sorted_one p (List.Perm.refl _) a.2.1 b.2.1
def wsOf (cs : Cn) (ds : Db) (ys : List Str) : List Mb := ys.map fun n => (n, gC cs n, gD ds n)
theorem ws_names (cs : Cn) (ds : Db) (ys : List Str) : (wsOf cs ds ys).map (·.1) = ys := by
  unfold wsOf
  rw [List.map_map]
  exact List.map_id _
def rowG (m : Str) (r : Str × Int) : Prop := nameOk (.str r.1) = true ∧ r.1 ≠ m ∧ 1 ≤ r.2
structure Good (cs : Cn) (ds : Db) : Prop where
  cn : (cs.map (·.1)).Nodup
  dn : (ds.map (·.1)).Nodup
  al : (allN cs ds).length ≤ 60
  co : ∀ p ∈ cs, nameOk (.str p.1) = true ∧ 0 ≤ p.2
  de : ∀ p ∈ ds, nameOk (.str p.1) = true ∧ ∀ r ∈ p.2, rowG p.1 r
theorem told_len : ∀ {ds : Db} {p : Str × Rw}, p ∈ ds → p.2.length ≤ (toldN ds).length
  | q :: r, p, m => by
    show _ ≤ (q.2.map (·.1) ++ toldN r).length
    rw [List.length_append, List.length_map]
    rcases List.mem_cons.mp m with rfl | m
    · omega
    · have := told_len m
      omega
theorem Good.lens {cs : Cn} {ds : Db} (g : Good cs ds) : cs.length ≤ 60 ∧ ds.length ≤ 60 ∧ (toldN ds).length ≤ 60 ∧ ∀ p ∈ ds, p.2.length ≤ 60 := by
  have h := g.al
  unfold allN at h
  rw [List.length_append, List.length_append, List.length_map, List.length_map] at h
  exact ⟨by omega, by omega, by omega, fun p m => by have := told_len m; omega⟩
theorem told_mem {ds : Db} {s : Str} : s ∈ toldN ds ↔ ∃ p ∈ ds, ∃ r ∈ p.2, r.1 = s := by
  unfold toldN
  rw [List.mem_flatMap]
  constructor
  · rintro ⟨p, m, h⟩
    obtain ⟨r, mr, e⟩ := List.mem_map.mp h
    exact ⟨p, m, r, mr, e⟩
  · rintro ⟨p, m, r, mr, e⟩
    exact ⟨p, m, List.mem_map.mpr ⟨r, mr, e⟩⟩
theorem all_mem {cs : Cn} {ds : Db} {s : Str} : s ∈ allN cs ds ↔ s ∈ cs.map (·.1) ∨ s ∈ ds.map (·.1) ∨ s ∈ toldN ds := by
  unfold allN
  rw [List.mem_append, List.mem_append, or_assoc]
theorem Good.name {cs : Cn} {ds : Db} (g : Good cs ds) {s : Str} (m : s ∈ allN cs ds) : nameOk (.str s) = true := by
  rcases all_mem.mp m with m | m | m
  · obtain ⟨p, mp, rfl⟩ := List.mem_map.mp m
    exact (g.co p mp).1
  · obtain ⟨p, mp, rfl⟩ := List.mem_map.mp m
    exact (g.de p mp).1
  · obtain ⟨p, mp, r, mr, rfl⟩ := told_mem.mp m
    exact ((g.de p mp).2 r mr).1
theorem nodup_len : ∀ {ys xs : List Str}, ys.Nodup → (∀ s ∈ ys, s ∈ xs) → ys.length ≤ xs.length
  | [], _, _, _ => Nat.zero_le _
  | y :: r, xs, nd, h => by
    obtain ⟨n1, n2⟩ := List.nodup_cons.mp nd
    have my := h y List.mem_cons_self
    have ih := nodup_len (xs := xs.erase y) n2 fun s m => (List.mem_erase_of_ne (fun (e : s = y) => n1 (by rw [← e]; exact m))).mpr (h s (List.mem_cons_of_mem _ m))
    have := List.length_erase_of_mem my
    have pos : 0 < xs.length := List.length_pos_of_mem my
    rw [List.length_cons]
    omega
theorem Nms.len {cs : Cn} {ds : Db} {ys : List Str} (n : Nms cs ds ys) (g : Good cs ds) : ys.length ≤ 60 := by
  have := nodup_len n.1 fun s m => (n.2.2 s).mp m
  have := g.al
  omega
/-! ### rows in lists or tuples -/
def RowV (H : Hp) (v : V) (r : Str × Int) : Prop := ∃ t, v = .ref t ∧ (H t = some (.lst [.str r.1, .int r.2]) ∨ H t = some (.tup [.str r.1, .int r.2]))
def RowsV (H : Hp) (v : V) (rs : Rw) : Prop := ∃ l us, v = .ref l ∧ (H l = some (.lst us) ∨ H l = some (.tup us)) ∧ Paired (RowV H) us rs
def DebtsR (H : Hp) (kd : List (Key × V)) (ds : Db) : Prop := Paired (fun (kv : Key × V) (p : Str × Rw) => kv.1 = Sum.inr p.1 ∧ RowsV H kv.2 p.2) kd ds
def CoinsC (kc : List (Key × V)) (cs : Cn) : Prop := Paired (fun (kv : Key × V) (p : Str × Int) => kv.1 = Sum.inr p.1 ∧ kv.2 = .int p.2) kc cs
theorem RowAt.v {H : Hp} {v : V} {r : Str × Int} (h : RowAt H v r) : RowV H v r :=
  let ⟨t, e, h⟩ := h
  ⟨t, e, .inr h⟩
theorem RowsAt.v {H : Hp} {v : V} {rs : Rw} (h : RowsAt H v rs) : RowsV H v rs :=
  let ⟨l, us, e, h, p⟩ := h
  ⟨l, us, e, .inl h, L2.Paired.mapP p fun _ _ h => h.v⟩
theorem RowV.mono {H H' : Hp} (s : SeqsK H H') {v : V} {r : Str × Int} (h : RowV H v r) : RowV H' v r :=
  let ⟨t, e, h⟩ := h
  ⟨t, e, h.imp (s _ _).2 (s _ _).1⟩
theorem RowsV.mono {H H' : Hp} (s : SeqsK H H') {v : V} {rs : Rw} (h : RowsV H v rs) : RowsV H' v rs :=
  let ⟨l, us, e, h, p⟩ := h
  ⟨l, us, e, h.imp (s _ _).2 (s _ _).1, L2.Paired.mapP p fun _ _ h => h.mono s⟩
theorem DebtsR.mono {H H' : Hp} (s : SeqsK H H') {kd : List (Key × V)} {ds : Db} (h : DebtsR H kd ds) : DebtsR H' kd ds := L2.Paired.mapP h fun _ _ h => ⟨h.1, h.2.mono s⟩
theorem name_short {s : Str} (h : nameOk (.str s) = true) : s.length ≤ 1000 := by
  have h2 := (Bool.and_eq_true_iff.mp (Bool.and_eq_true_iff.mp h).1).2
  have := of_decide_eq_true h2
  omega
theorem RowV.is {H : Hp} {m : Str} {v : V} {r : Str × Int} (h : RowV H v r) (g : rowG m r) : ∃ d, Is H v d ∧ plain d = true ∧ debtOk m d = true := by
  obtain ⟨t, rfl, h⟩ := h
  have a : IsA H [.str r.1, .int r.2] [.str r.1, .int r.2] := .cons (.str _ (name_short g.1)) (.cons (.int _) .nil)
  have e : dl m [.str r.1, .int r.2] = true := by
    show ((nameOk (.str r.1) && !decide (r.1 = m)) && decide (1 ≤ r.2)) = true
    rw [g.1, decide_eq_false g.2.1, decide_eq_true g.2.2]
    rfl
  rcases h with h | h
  · exact ⟨.lst [.str r.1, .int r.2], .lst h a (show 2 ≤ 60 by decide), rfl, e⟩
  · exact ⟨.tup [.str r.1, .int r.2], .tup h a (show 2 ≤ 60 by decide), rfl, e⟩
theorem rows_is {H : Hp} {m : Str} : ∀ {us : List V} {rs : Rw}, Paired (RowV H) us rs → (∀ r ∈ rs, rowG m r) → ∃ ds, IsA H us ds ∧ plains ds = true ∧ ds.all (debtOk m) = true
  | _, _, .nil, _ => ⟨[], .nil, rfl, rfl⟩
  | _, _, .cons h t, g => by
    obtain ⟨d, h1, h2, h3⟩ := h.is (g _ List.mem_cons_self)
    obtain ⟨ds, t1, t2, t3⟩ := rows_is t fun r mr => g r (List.mem_cons_of_mem _ mr)
    refine ⟨d :: ds, .cons h1 t1, ?_, ?_⟩
    · show (plain d && plains ds) = true
      rw [h2, t2]
      rfl
    · rw [List.all_cons, h3, t3]
      rfl
theorem RowsV.is {H : Hp} {m : Str} {v : V} {rs : Rw} (h : RowsV H v rs) (g : ∀ r ∈ rs, rowG m r) (z : rs.length ≤ 60) : ∃ d, Is H v d ∧ plain d = true ∧ rowOk m d = true := by
  obtain ⟨l, us, rfl, h, p⟩ := h
  obtain ⟨ds, t1, t2, t3⟩ := rows_is p g
  have zu : us.length ≤ 60 := by rw [p.length]; exact z
  rcases h with h | h
  · exact ⟨.lst ds, .lst h t1 zu, t2, t3⟩
  · exact ⟨.tup ds, .tup h t1 zu, t2, t3⟩
theorem CoinsC.val {kc : List (Key × V)} {cs : Cn} (h : CoinsC kc cs) (n : Str) : valV kc (Sum.inr n) = (cs.lookup n).map V.int := by
  unfold CoinsC at h
  induction h with
  | nil => rfl
  | @cons kv p kc cs h r ih =>
    rw [List.lookup_cons]
    by_cases c : n = p.1
    · subst c
      rw [valV_pos (by rw [h.1]), beq_self_eq_true, h.2]
      rfl
    · rw [valV_neg (by rw [h.1]; exact fun z => c (Sum.inr.inj z).symm), beq_false_of_ne c]
      exact ih
theorem DebtsR.val {H : Hp} {kd : List (Key × V)} {ds : Db} (h : DebtsR H kd ds) (n : Str) : (∃ v rs, valV kd (Sum.inr n) = some v ∧ ds.lookup n = some rs ∧ RowsV H v rs) ∨ (valV kd (Sum.inr n) = none ∧ ds.lookup n = none) := by
  unfold DebtsR at h
  induction h with
  | nil => exact .inr ⟨rfl, rfl⟩
  | @cons kv p kc cs h r ih =>
    rw [List.lookup_cons]
    by_cases c : n = p.1
    · subst c
      rw [valV_pos (by rw [h.1]), beq_self_eq_true]
      exact .inl ⟨_, _, rfl, rfl, h.2⟩
    · rw [valV_neg (by rw [h.1]; exact fun z => c (Sum.inr.inj z).symm), beq_false_of_ne c]
      exact ih
theorem look_mem {α : Type} {l : List (Str × α)} {n : Str} {a : α} (h : l.lookup n = some a) : (n, a) ∈ l := by
  induction l with
  | nil => cases h
  | cons p r ih =>
    rw [List.lookup_cons] at h
    by_cases c : n = p.1
    · subst c
      rw [beq_self_eq_true] at h
      cases h
      exact List.mem_cons_self
    · rw [beq_false_of_ne c] at h
      exact List.mem_cons_of_mem _ (ih h)
theorem keys_names {α : Type} {F : V → α → Prop} {kv : List (Key × V)} {l : List (Str × α)} (h : Paired (fun (kv : Key × V) (p : Str × α) => kv.1 = Sum.inr p.1 ∧ F kv.2 p.2) kv l) : kv.map (fun kv => kV kv.1) = (l.map (·.1)).map V.str ∧ kv.map (·.1) = l.map fun p => (Sum.inr p.1 : Key) := by
  induction h with
  | nil => exact ⟨rfl, rfl⟩
  | @cons kv p kc cs h r ih =>
    refine ⟨?_, ?_⟩
    · rw [List.map_cons, List.map_cons, List.map_cons, ih.1, h.1]
      rfl
    · rw [List.map_cons, List.map_cons, ih.2, h.1]
theorem keys_nd {α : Type} {F : V → α → Prop} {kv : List (Key × V)} {l : List (Str × α)} (h : Paired (fun (kv : Key × V) (p : Str × α) => kv.1 = Sum.inr p.1 ∧ F kv.2 p.2) kv l) (nd : (l.map (·.1)).Nodup) : (kv.map (·.1)).Nodup := by
  rw [(keys_names h).2, show (l.map fun p => (Sum.inr p.1 : Key)) = (l.map (·.1)).map Sum.inr by rw [List.map_map]; rfl]
  exact List.Pairwise.map _ (fun a b h e => h (Sum.inr.inj e)) nd
end K38

set_option Elab.async false
set_option linter.all false
set_option maxRecDepth 100000
set_option maxHeartbeats 4000000
namespace Sr
open PySem PySem.Spec PyProof.Rows L2
theorem blkOk_in {N : List Str} {sc sc2 scope : Scope} {own : List (Str × Nat)} (h : blkC N { sc with names := [] } scope own = true) : BlkOk N sc2 scope own := by
  obtain ⟨h1, h2, h3, h4, h5⟩ := blkOk_by h
  refine ⟨h1, h2, h3, fun y hy e => ?_, h5⟩
  rcases h4 y hy e with z | z <;> cases z
theorem pi_seqK {X : Cx} (K : PySem.W.Frag) (hK : X.K = K) {tg l : Expr} {tl : TE} (hl : PE X l tl) : PI X tg l (iSeq K tl) := hK ▸ pi_seq hl
theorem pi_listK {X : Cx} (K : PySem.W.Frag) (hK : X.K = K) {tg l : Expr} {tl : TE} (hl : PE X l tl) : PI X tg l (iList K tl) := hK ▸ pi_list hl
theorem pe_fldK {X : Cx} (K : PySem.W.Frag) (hK : X.K = K) {e : Expr} {f : Str} {ta : TE} {pos : Pos} (he : PE X e ta) (hb : attributeBase e f X.env (eval e X.env) = eval e X.env) : PE X (.Attribute e f pos) (tFld K ta f) := hK ▸ pe_fld he hb
/-- a comprehension that tells f of each item, whatever its target -/
theorem lc_f {α : Type} {J : It} {n : Nat} {G : Hp → Prop} {Y : Nat → Hp → V → Hp → Prop} {At : Nat → Hp → V → Prop} (w : Walk J n G Y) (hy : ∀ i H x H', Y i H x H' → H' = H ∧ At i H x) {g : TG} {te : TE} {vs : List Nat} {σ : L2.St} {H : Hp} {D : Addr} {Qd : Hp → Prop}
    (items : List α) (f : α → V) (hn : items.length = n) (hz : n < sizeLine) (hD : H D = none) (hG : ∀ H', Same H H' → G H')
    (turn : ∀ (i : Nat) (x : V) (a : α) (H1 : Hp) (A : V → Hp → Prop), i < n → At i H1 x → items[i]? = some a → Same H H1 → (∀ H2, Same H1 H2 → A (f a) H2) → g x (wipe σ vs) H1 fun σ2 H2 => wipe σ2 vs = wipe σ vs ∧ te σ2 H2 A)
    (fin : ∀ H', Same H H' → H' D = some (.lst (items.map f)) → Qd H') :
    ∃ W : Nat → Nat → Hp → Prop, (∃ m, W 0 m (upd H D (.lst []))) ∧ ∀ i m H, W i m H →
      (J.stop i H ∧ Qd H) ∨ (J.go i H ∧ ∃ Nx : Hp → Prop, (∀ H', Nx H' → ∃ m', m' < m ∧ W (i + 1) m' H') ∧ ∀ x H', J.yld i H x H' → g x (wipe σ vs) H' fun σ2 H2 => wipe σ2 vs = wipe σ vs ∧ tYes σ2 H2 fun b H3 =>
        if b = true then te σ2 H3 fun y H4 => ∃ acc, H4 D = some (.lst acc) ∧ acc.length < sizeLine ∧ Nx (upd H4 D (.lst (acc ++ [y]))) else Nx H3) := by
  refine lc_gen w hy items (fun _ => true) hn hz hD hG (fun _ a y => y = f a) (fun _ _ _ _ _ h => h) (fun _ _ _ _ _ _ h => h) (fun i x a H1 A B lt hx ha s1 kA kB => ?_) (fun H' acc s' h' p' => fin H' s' ?_)
  · have h := turn i x a H1 A lt hx ha s1 fun H2 s2 => kA rfl _ _ s2 rfl
    simp only [tYes, if_true]
    exact h
  · rw [List.filter_eq_self.mpr fun _ _ => rfl] at p'
    rw [h']
    have : ∀ {l : List V} {m : List α}, Paired (fun y a => y = f a) l m → l = m.map f := by
      intro l m h
      induction h with
      | nil => rfl
      | cons h _ ih => rw [h, ih, List.map_cons]
    rw [this p']
theorem at_any {xs : List V} : ∀ (i : Nat) (H : Hp) (x : V) (H' : Hp), YAt xs i H x H' → H' = H ∧ xs[i]? = some x := fun _ _ _ _ y => y
theorem call_dictPK {X : Cx} (K : PySem.W.Frag) (hK : X.K = K) (hc : X.calm = true) : CallR X (.type "dict") (fun xs H Q => ∃ (a : Addr) (ps : List Addr) (kvs : List (Key × V)), xs = [.ref a] ∧ SqL K H a (ps.map V.ref) ∧ Paired (fun p kv => SqT K H p [kV kv.1, kv.2]) ps kvs ∧ ∀ p, H p = none → Q (.ref p) (upd H p (.dK (mergeK [] kvs)))) := hK ▸ call_dictP hc
end Sr

set_option Elab.async false
set_option linter.all false
set_option maxRecDepth 100000
set_option maxHeartbeats 4000000
namespace K38
open PySem PySem.Spec PyProof.Rows L2 Sr
/-! ### what is new in a heap -/
theorem free_below {H H' : Hp} (s : Same H H') {l : Addr} (h : H' l = none) : H l = none := by
  cases e : H l with
  | none => rfl
  | some o => rw [s _ _ e] at h; cases h
def newH (H H' : Hp) : Hp := fun b => match H b with
  | none => H' b
  | some _ => none
theorem new_at {H H' : Hp} {b : Addr} (h : H b = none) : newH H H' b = H' b := by unfold newH; rw [h]
theorem new_no {H H' : Hp} {b : Addr} {o : HO} (h : newH H H' b = some o) : H b = none := by
  unfold newH at h
  cases e : H b with
  | none => rfl
  | some o => rw [e] at h; cases h
theorem new_same {H H' : Hp} : Same (newH H H') H' := fun b o h => (new_at (new_no h)).symm.trans h
theorem new_mono {H H' H'' : Hp} (s : Same H' H'') : Same (newH H H') (newH H H'') := fun b o h => by
  have n := new_no h
  rw [new_at n] at h ⊢
  exact s _ _ h
theorem seqs_new {H H' H'' : Hp} (k : SeqsK H' H'') : SeqsK (newH H H') (newH H H'') := fun b xs => ⟨fun e => by
    have n := new_no e
    rw [new_at n] at e ⊢
    exact (k b xs).1 e, fun e => by
    have n := new_no e
    rw [new_at n] at e ⊢
    exact (k b xs).2 e⟩
end K38

set_option Elab.async false
set_option linter.all false
set_option maxRecDepth 100000
set_option maxHeartbeats 4000000
namespace K38
open PySem PySem.Spec PyProof.Rows L2 Sr
/-! ### Debts(coins, debts) -/
theorem RowAt.seqs {H H' : Hp} (s : SeqsK H H') {v : V} {r : Str × Int} (h : RowAt H v r) : RowAt H' v r :=
  let ⟨t, e, h⟩ := h
  ⟨t, e, (s _ _).1 h⟩
theorem RowsAt.seqs {H H' : Hp} (s : SeqsK H H') {v : V} {rs : Rw} (h : RowsAt H v rs) : RowsAt H' v rs :=
  let ⟨l, us, e, h, p⟩ := h
  ⟨l, us, e, (s _ _).2 h, L2.Paired.mapP p fun _ _ h => h.seqs s⟩
/-- coins that are right -/
def coinsOk (H : Hp) (v : V) : Prop := ∃ a kvs, v = .ref a ∧ H a = some (.dK kvs) ∧ (kvs.map (·.1)).Nodup ∧ kvs.length ≤ 60 ∧ ∀ p ∈ kvs, coinE p true
def spInit (K : PySem.W.Frag) : Sp := fun vs H Q E => ∃ x v u H0 dx, vs = [.ref x, v, u] ∧ Same H0 H ∧ H0 x = none ∧ H x = some (.ins (He.ga K "Debts") dx []) ∧
  ((∃ a b kc kd cs ds, v = .ref a ∧ u = .ref b ∧ H a = some (.dK kc) ∧ H b = some (.dK kd) ∧ CoinsC kc cs ∧ DebtsR H kd ds ∧ Good cs ds ∧ ∀ H' ys, Same H0 H' → Nms cs ds ys → DebR K (newH H0 H') x (wsOf cs ds ys) → Q .non H') ∨
   spCkC K [v] H (fun _ _ => False) E ∨ (coinsOk H v ∧ ∀ H1, Same H H1 → spCkD K [u] H1 (fun _ _ => False) E))
theorem coins_ok {kc : List (Key × V)} {cs : Cn} (h : CoinsC kc cs) (g : ∀ p ∈ cs, nameOk (.str p.1) = true ∧ 0 ≤ p.2) : ∀ p ∈ kc, coinE p true := by
  unfold CoinsC at h
  induction h with
  | nil => intro p m; cases m
  | @cons kv p kc cs h r ih =>
    intro q m
    rcases List.mem_cons.mp m with rfl | m
    · obtain ⟨g1, g2⟩ := g p List.mem_cons_self
      refine ⟨fun s e => ?_, .int p.2, fun G => by rw [h.2]; exact .int _, ?_⟩
      · rw [h.1] at e
        cases e
        exact name_short g1
      · rw [h.1]
        show (nameOk (.str p.1) && decide (0 ≤ p.2)) = true
        rw [g1, decide_eq_true g2]
        rfl
    · exact ih (fun p m => g p (List.mem_cons_of_mem _ m)) q m
theorem debts_ok {H : Hp} {kd : List (Key × V)} {ds : Db} (h : DebtsR H kd ds) (g : ∀ p ∈ ds, (nameOk (.str p.1) = true ∧ ∀ r ∈ p.2, rowG p.1 r) ∧ p.2.length ≤ 60) : ∀ p ∈ kd, debtE H p true := by
  unfold DebtsR at h
  induction h with
  | nil => intro p m; cases m
  | @cons kv p kc cs h r ih =>
    intro q m
    rcases List.mem_cons.mp m with rfl | m
    · obtain ⟨⟨g1, g2⟩, g3⟩ := g p List.mem_cons_self
      obtain ⟨d, d1, d2, d3⟩ := h.2.is g2 g3
      refine ⟨fun s e => ?_, d, d1, d2, ?_⟩
      · rw [h.1] at e
        cases e
        exact name_short g1
      · rw [h.1]
        show (nameOk (.str p.1) && rowOk p.1 d) = true
        rw [g1, d3]
        rfl
    · exact ih (fun p m => g p (List.mem_cons_of_mem _ m)) q m
theorem seqIt_of {K : PySem.W.Frag} {H : Hp} {a : Addr} {xs : List V} {R : It → Hp → Prop} (h : H a = some (.lst xs) ∨ H a = some (.tup xs)) (k : ∀ (J : It) (G : Hp → Prop), Walk J xs.length G (YAt xs) → (∀ H', H' a = H a → G H') → R J H) : SeqIt K H a R := by
  rcases h with h | h
  · exact .inl ⟨⟨xs, SqL.of h⟩, k _ _ walk_list fun H' s => SqL.of (s.trans h)⟩
  · exact .inr ⟨⟨xs, SqT.of h⟩, k _ _ walk_tup fun H' s => SqT.of (s.trans h)⟩
theorem RowV.any {K : PySem.W.Frag} {H : Hp} {v : V} {r : Str × Int} (h : RowV H v r) : ∃ t, v = .ref t ∧ SqAny K H t [.str r.1, .int r.2] := by
  obtain ⟨t, e, h | h⟩ := h
  · exact ⟨t, e, .inl (SqL.of h)⟩
  · exact ⟨t, e, .inr (SqT.of h)⟩
theorem told_take {ds : Db} {i : Nat} {p : Str × Rw} (h : ds[i]? = some p) : toldN (ds.take (i + 1)) = toldN (ds.take i) ++ p.2.map (·.1) := by
  unfold toldN
  rw [List.take_add_one, h, List.flatMap_append]
  simp
theorem pmap {α β γ : Type} {F : α → β → Prop} {G : α → γ → Prop} {f : β → γ} (k : ∀ a b, F a b → G a (f b)) : ∀ {l : List α} {m : List β}, Paired F l m → Paired G l (m.map f)
  | _, _, .nil => .nil
  | _, _, .cons h t => .cons (k _ _ h) (pmap k t)
theorem gD_len {ds : Db} (h : ∀ p ∈ ds, p.2.length ≤ 60) (y : Str) : (gD ds y).length ≤ 60 := by
  unfold gD
  cases e : ds.lookup y with
  | none => exact Nat.zero_le _
  | some rs => exact h _ (look_mem e)
theorem ckC_mono {K : PySem.W.Frag} {vs : List V} {H : Hp} {Q : VK} {E : XK} (h : spCkC K vs H (fun _ _ => False) E) : spCkC K vs H Q E := by
  obtain ⟨v, e, h⟩ := h
  refine ⟨v, e, h.imp ?_ id⟩
  rintro ⟨a, kvs, h1, h2, h3, h4, ⟨_, q⟩ | h5⟩
  · exact (q H (Same.refl H)).elim
  · exact ⟨a, kvs, h1, h2, h3, h4, .inr h5⟩
theorem ckD_mono {K : PySem.W.Frag} {vs : List V} {H : Hp} {Q : VK} {E : XK} (h : spCkD K vs H (fun _ _ => False) E) : spCkD K vs H Q E := by
  obtain ⟨v, e, h⟩ := h
  refine ⟨v, e, h.imp ?_ id⟩
  rintro ⟨a, kvs, h1, h2, h3, h4, ⟨_, q⟩ | h5⟩
  · exact (q H (Same.refl H)).elim
  · exact ⟨a, kvs, h1, h2, h3, h4, .inr h5⟩
section
variable {P : Program} {w : World} {K : PySem.W.Frag} {mg : Str → Option Value} {base : Heap}
abbrev s_Debts___init__ : Stmt := inClass (top 14) 0
theorem sc_Debts___init__ : FnScope ["self", "coins", "debts", "told", "members", "member", "to", "_", "many"] ["self", "coins", "debts"] (defScope s_Debts___init__) := ⟨rfl, rfl, rfl, by decide +kernel, rfl, by decide +kernel, by decide +kernel⟩
theorem m_Debts (T : Txt K mg) (O : Deb K mg) (D : DfnM K "Debts" "__init__" "Debts.__init__" s_Debts___init__) (C_check_coins : CalE P w K mg base 3 "_check_coins" ["coins"] (spCkC K)) (C_check_debts : CalE P w K mg base 4 "_check_debts" ["debts"] (spCkD K)) :
    CalM P w K mg base (L2.CX P w) 5 (He.fAd K ("Debts", some "__init__")) ["self", "coins", "debts"] (spInit K) := by
  refine D.calE sc_Debts___init__ (fun _ _ _ _ _ _ us hl => match us, hl with | [_, _, _], _ => rfl) (fun vs H Q E h => ?_) fun cdv A outer s H vs Q E hr h => ?_
  · obtain ⟨x, v, u, H0, dx, rfl, _⟩ := h
    rfl
  obtain ⟨x, v, u, H0, dx, rfl, s0, x0, hx, h⟩ := h
  refine ⟨_, (pss_cons (ps_expr (pe_calE C_check_coins hr (by first | decide | omega) (by rfl) (passes_def rfl rfl rfl rfl) (pa_cons (pv 1) pa_nil)))
      (pss_cons (ps_expr (pe_calE C_check_debts hr (by first | decide | omega) (by rfl) (passes_def rfl rfl rfl rfl) (pa_cons (pv 2) pa_nil)))
      (pss_cons (ps_lock (ps_setLc2 (i := 3) (own := [("member", 5), ("to", 6), ("_", 7)]) (vs1 := [6, 7]) (g := gName 5) (tt := tYes) (g1 := gSeq K 2 (gCons (gName 6) (gCons (gName 7) gNil))) (tt1 := tYes) rfl sc_Debts___init__.nd rfl rfl (sw_true rfl rfl rfl rfl) (pi_keys (pv 2)) (blkOk_by (N := ["self", "coins", "debts", "told", "members", "member", "to", "_", "many"]) (sc := defScope s_Debts___init__) (by decide +kernel)) (by decide) (fun _ _ _ _ _ => (pg_name (i := 5) sc_Debts___init__.nd rfl (by first | exact Or.inl rfl | exact Or.inr rfl))) (fun _ _ _ _ _ => pts_nil) (fun _ _ _ _ _ => (pi_seqK K rfl (pe_dget (hu_of hr) (pv 2) (pv 5) (fun _ _ => rfl)))) (fun _ _ _ _ _ => (pg_seq rfl (pgs_cons (pg_name (i := 6) sc_Debts___init__.nd rfl (by first | exact Or.inl rfl | exact Or.inr rfl)) (pgs_cons (pg_name (i := 7) sc_Debts___init__.nd rfl (by first | exact Or.inl rfl | exact Or.inr rfl)) pgs_nil)))) (fun _ _ _ _ _ => pts_nil) (fun _ _ _ _ _ => (pv 6))))
      (pss_cons (ps_set (i := 4) sc_Debts___init__.nd rfl (by first | exact Or.inl rfl | exact Or.inr rfl) (pe_sortTxt rfl (by rfl) T.sorted (by rfl) T.set (pe_op op_cat (pe_op op_cat (pe_callTy (T := "list") (call_list_dK rfl) (by rfl) T.list (by decide +kernel) (pa_cons (pv 1) pa_nil)) (pe_callTy (T := "list") (call_list_dK rfl) (by rfl) T.list (by decide +kernel) (pa_cons (pv 2) pa_nil))) (pv 3))))
      (pss_cons (ps_fld (pv 0) (pe_dc (own := [("member", 5)]) (g := gName 5) (tt := tYes) rfl sc_Debts___init__.nd (pi_list (pv 4)) (blkOk_by (N := ["self", "coins", "debts", "told", "members", "member", "to", "_", "many"]) (sc := defScope s_Debts___init__) (by decide +kernel)) (fun _ _ _ _ _ => (pg_name (i := 5) sc_Debts___init__.nd rfl (by first | exact Or.inl rfl | exact Or.inr rfl))) (fun _ _ _ _ _ => pts_nil) (fun _ _ _ _ _ => (pv 5)) (fun _ _ _ _ _ => (pe_dget2 (hu_of hr) (pv 1) (pv 5) pe_int ⟨rfl, by rfl, rfl, rfl⟩))) rfl)
      (pss_one (ps_fld (pv 0) (pe_dc (own := [("member", 5)]) (g := gName 5) (tt := tYes) rfl sc_Debts___init__.nd (pi_list (pv 4)) (blkOk_by (N := ["self", "coins", "debts", "told", "members", "member", "to", "_", "many"]) (sc := defScope s_Debts___init__) (by decide +kernel)) (fun _ _ _ _ _ => (pg_name (i := 5) sc_Debts___init__.nd rfl (by first | exact Or.inl rfl | exact Or.inr rfl))) (fun _ _ _ _ _ => pts_nil) (fun _ _ _ _ _ => (pv 5)) (fun _ _ _ _ _ => (pe_lc (own := [("to", 6), ("many", 8)]) (g := gSeq K 2 (gCons (gName 6) (gCons (gName 8) gNil))) (tt := tYes) rfl sc_Debts___init__.nd (pi_seqK K rfl (pe_dget2 (hu_of hr) (pv 2) (pv 5) (pe_lst pa_nil) ⟨rfl, by rfl, rfl, rfl⟩)) (blkOk_in (N := ["self", "coins", "debts", "told", "members", "member", "to", "_", "many"]) (sc := defScope s_Debts___init__) (by decide +kernel)) (fun _ _ _ _ _ => (pg_seq rfl (pgs_cons (pg_name (i := 6) sc_Debts___init__.nd rfl (by first | exact Or.inl rfl | exact Or.inr rfl)) (pgs_cons (pg_name (i := 8) sc_Debts___init__.nd rfl (by first | exact Or.inl rfl | exact Or.inr rfl)) pgs_nil)))) (fun _ _ _ _ _ => pts_nil) (fun _ _ _ _ _ => (pe_tup (pa_cons (pv 6) (pa_cons (pv 8) pa_nil))))))) rfl))))))), ?_⟩
  rcases h with ⟨a, b, kc, kd, cs, ds, rfl, rfl, ha, hb, pc, pd, g, q⟩ | h | ⟨hc, h⟩
  · obtain ⟨l1, l2, l3, l4⟩ := g.lens
    have zc : kc.length ≤ 60 := by rw [Paired.length pc]; exact l1
    have zd : kd.length ≤ 60 := by rw [Paired.length pd]; exact l2
    have nc := keys_nd (F := fun v i => v = V.int i) pc g.cn
    have nd := keys_nd (F := fun v rs => RowsV H v rs) pd g.dn
    refine ⟨_, rfl, .ref a, rfl, .inl ⟨a, kc, rfl, ha, nc, zc, .inl ⟨coins_ok pc g.co, fun H1 s1 => ?_⟩⟩⟩
    refine ⟨_, rfl, .ref b, rfl, .inl ⟨b, kd, rfl, s1 _ _ hb, nd, zd, .inl ⟨debts_ok (pd.mono (SeqsK.of s1)) (fun p m => ⟨g.de p m, l4 p m⟩), fun H2 s2 => ?_⟩⟩⟩
    have hb2 := s2 _ _ (s1 _ _ hb)
    refine ⟨b, _, hb2, trivial, fun od => ⟨_, rfl, b, od, rfl, .inl ⟨kd, upd_same, ?_⟩⟩⟩
    have fz : ∀ c o, c ≠ b → H2 c = some o → (upd H2 b (.frz od (.dK kd))) c = some o := fun c o hc e => by rw [upd_ne hc]; exact e
    have s02 : Same H H2 := s1.trans s2
    have pd1 : DebtsR (upd H2 b (.frz od (.dK kd))) kd ds := pd.mono ((SeqsK.of s02).trans (SeqsK.frz hb2))
    generalize hF : upd H2 b (.frz od (.dK kd)) = F at pd1
    have hbF : F b = some (.frz od (.dK kd)) := by rw [← hF]; exact upd_same
    have len := Paired.length pd1
    intro B hB
    have below : ∀ {H' : Hp} {o : HO}, Same F H' → Same F (upd H' B o) := fun {H' o} s c u e => by
      rw [upd_ne (ne_of_none e hB)]
      exact s _ _ e
    refine ⟨fun i m H' => i + m = kd.length ∧ Same F H' ∧ H' B = some (.lst ((toldN (ds.take i)).map V.str)), ⟨kd.length, by omega, below (Same.refl F), by rw [upd_same]; rfl⟩, ?_⟩
    rintro i m H3 ⟨im, s3, h3⟩
    by_cases lt : i < kd.length
    · obtain ⟨p, hp⟩ : ∃ p, ds[i]? = some p := ⟨ds[i]'(by omega), List.getElem?_eq_getElem (by omega)⟩
      refine .inr ⟨walk_keys.goes i H3 lt (s3 _ _ hbF), fun H' => Same F H' ∧ H' B = some (.lst ((toldN (ds.take (i + 1))).map V.str)), fun H' h' => ⟨m - 1, by omega, by omega, h'⟩, fun y H4 yy => ?_⟩
      obtain ⟨rfl, k, v, hk, rfl⟩ := walk_keys.yields i H3 y H4 lt (s3 _ _ hbF) yy
      obtain ⟨ek, l, us, rfl, hl, pr⟩ := Paired.at2 pd1 hk hp
      have zu : us.length ≤ 60 := by rw [Paired.length pr]; exact l4 p (List.mem_of_getElem? hp)
      have tl := told_take hp
      have zt : (toldN (ds.take i)).length + p.2.length ≤ 60 := by
        have h1 : (toldN ds).length = (toldN (ds.take (i + 1))).length + (toldN (ds.drop (i + 1))).length := by
          rw [← List.length_append]
          unfold toldN
          rw [← List.flatMap_append, List.take_append_drop]
        rw [tl, List.length_append, List.length_map] at h1
        omega
      refine ⟨rfl, ?_⟩
      simp only [tYes, if_true]
      refine ⟨_, rfl, _, rfl, b, .ref l, rfl, .inl ⟨kd, k, .inr ⟨od, s3 _ _ hbF⟩, rfl, (val_nodup nd _ (List.mem_of_getElem? hk)).symm⟩, l, rfl, ?_⟩
      refine seqIt_of (hl.imp (s3 _ _) (s3 _ _)) fun J G wk hG => ?_
      have stay : ∀ {H' : Hp}, Same F H' → H' l = H4 l := fun {H'} s => by rcases hl with h | h <;> rw [s _ _ h, s3 _ _ h]
      refine ⟨fun j n H' => j + n = us.length ∧ Same F H' ∧ H' B = some (.lst ((toldN (ds.take i) ++ (p.2.take j).map (·.1)).map V.str)), ⟨us.length, by omega, s3, by rw [List.take_zero, List.map_nil, List.append_nil]; exact h3⟩, ?_⟩
      rintro j n H5 ⟨jn, s5, h5⟩
      by_cases lj : j < us.length
      · refine .inr ⟨wk.goes j H5 lj (hG _ (stay s5)), fun H' => Same F H' ∧ H' B = some (.lst ((toldN (ds.take i) ++ (p.2.take (j + 1)).map (·.1)).map V.str)), fun H' h' => ⟨n - 1, by omega, by omega, h'⟩, fun y H6 yy => ?_⟩
        obtain ⟨rfl, hy⟩ := wk.yields j H5 y H6 lj (hG _ (stay s5)) yy
        have lr : j < p.2.length := by rw [← Paired.length pr]; exact lj
        have hr' : p.2[j]? = some p.2[j] := List.getElem?_eq_getElem lr
        obtain ⟨t, rfl, ht⟩ := ((Paired.at2 pr hy hr').mono (SeqsK.of s5)).any (K := K)
        refine ⟨t, _, rfl, ht, rfl, _, _, rfl, _, _, rfl, rfl, rfl, _, rfl, _, h5, ?_, below s5, ?_⟩
        · rw [List.length_map, List.length_append, List.length_map, List.length_take]
          exact Nat.lt_of_le_of_lt (show _ ≤ 60 by omega) (by decide)
        · rw [upd_same, List.take_add_one, hr', List.map_append, List.map_append, List.map_append, List.map_append, List.append_assoc]
          rfl
      · obtain rfl : j = us.length := by omega
        refine .inl ⟨wk.stops H5 (hG _ (stay s5)), s5, ?_⟩
        rw [h5, tl, Paired.length pr, List.take_length]
    · obtain rfl : i = kd.length := by omega
      refine .inl ⟨walk_keys.stops H3 (s3 _ _ hbF), s3 _ _ hbF, ?_⟩
      rw [len, List.take_length] at h3
      have s4 : Same H2 (upd H3 b (.dK kd)) := fun c o e => by
        by_cases hc : c = b
        · rw [hc] at e ⊢
          rw [hb2] at e
          cases e
          exact upd_same
        · rw [upd_ne hc]
          exact s3 _ _ (by rw [← hF]; exact fz c o hc e)
      have h4 : (upd H3 b (.dK kd)) B = some (.lst ((toldN ds).map V.str)) := by
        rw [upd_ne fun z => by rw [z, hbF] at hB; cases hB]
        exact h3
      generalize upd H3 b (.dK kd) = G4 at s4 h4
      dsimp only
      have ga := s4 _ _ (s02 _ _ ha)
      have gb := s4 _ _ (s02 _ _ hb)
      have kn := (keys_names (F := fun v i => v = V.int i) pc).1
      have kn2 := (keys_names (F := fun v rs => RowsV H v rs) pd).1
      have en : (kc.map (fun kv => kV kv.1) ++ kd.map (fun kv => kV kv.1)) ++ (toldN ds).map V.str = (allN cs ds).map V.str := by
        rw [kn, kn2]
        unfold allN
        rw [List.map_append, List.map_append]
      have zN := g.al
      refine ⟨_, rfl, a, kc, rfl, ga, fun p1 h1 => ⟨_, rfl, b, kd, rfl, Same.up h1 _ _ gb, fun p2 h2 => ?_⟩⟩
      have s5 : Same (upd G4 p1 (.lst (kc.map fun kv => kV kv.1))) (upd (upd G4 p1 (.lst (kc.map fun kv => kV kv.1))) p2 (.lst (kd.map fun kv => kV kv.1))) := Same.up h2
      refine ⟨p1, p2, _, _, rfl, rfl, s5 _ _ upd_same, upd_same, ?_, fun p3 h3 => ⟨_, rfl, p3, B, _, _, rfl, rfl, upd_same, (s5.trans (Same.up h3)) _ _ (Same.up h1 _ _ h4), ?_, fun p4 h4' => ?_⟩⟩
      · rw [List.length_map, List.length_map]
        exact Nat.le_trans (show _ ≤ 120 by omega) (by decide)
      · rw [List.length_append, List.length_map, List.length_map, List.length_map]
        exact Nat.le_trans (show _ ≤ 180 by omega) (by decide)
      rw [en]
      have s6 := (((Same.up h1).trans s5).trans (Same.up (o := .lst (kc.map (fun kv => kV kv.1) ++ kd.map fun kv => kV kv.1)) h3)).trans (Same.up (o := .lst ((allN cs ds).map V.str)) h4')
      generalize hG6 : upd (upd (upd (upd G4 p1 _) p2 _) p3 _) p4 (.lst ((allN cs ds).map V.str)) = G6 at s6 ⊢
      have g6 : G6 p4 = some (.lst ((allN cs ds).map V.str)) := by rw [← hG6]; exact upd_same
      refine ⟨p4, allN cs ds, rfl, SqL.of g6, by omega, fun ys p5 pm so h5 => ?_⟩
      have nm : Nms cs ds ys := nms_of (fun s => Iff.rfl) pm so
      have ly := nm.len g
      refine ⟨_, rfl, p5, rfl, ⟨_, SqL.of upd_same⟩, fun D1 hD1 => dc_texts walk_list walk_at ys (by rw [List.length_map]) nm.1 (sz (m := 60) (by rw [List.length_map]; exact ly)) hD1 (fun H' s' => SqL.of (s' _ _ upd_same)) (fun H' s v => v = .int (gC cs s)) (fun _ _ _ _ _ h => h) (fun _ _ _ _ _ _ h => h)
        (fun i u y H2 R hi hu hy s2 k => ?_) (fun H7 kvs s7 h7 e7 => ?_)⟩
      · rw [List.getElem?_map, hy] at hu
        obtain rfl : V.str y = u := Option.some.inj hu
        have s3 := (s6.trans (Same.up h5)).trans s2
        refine ⟨_, rfl, _, rfl, a, rfl, .inl ⟨kc, .inl (s3 _ _ ga)⟩, _, rfl, valV kc (Sum.inr y), .inl ⟨kc, Sum.inr y, .inl (s3 _ _ ga), rfl, rfl⟩, k _ _ (Same.refl _) ?_⟩
        rw [pc.val]
        unfold gC
        cases cs.lookup y <;> rfl
      have z7 := s0.trans (s02.trans (s4.trans (s6.trans (Same.up (o := .lst (ys.map V.str)) h5))))
      have s8 : Same G4 H7 := (s6.trans (Same.up h5)).trans s7
      have s9 : Same H H7 := s02.trans (s4.trans s8)
      have hx7 := s9 _ _ hx
      have hp5 : H7 p5 = some (.lst (ys.map V.str)) := s7 _ _ upd_same
      refine ⟨_, rfl, x, _, dx, [], rfl, hx7, O.cl, O.nC, by decide, ?_⟩
      have off : ∀ c o, H7 c = some o → c ≠ x → (upd H7 x (.ins (He.ga K "Debts") dx (putF "_coins" (.ref D1) []))) c = some o := fun c o e n => by rw [upd_ne n]; exact e
      have hx8 : (upd H7 x (.ins (He.ga K "Debts") dx (putF "_coins" (.ref D1) []))) x = some (.ins (He.ga K "Debts") dx [("_coins", .ref D1)]) := upd_same
      have sk8 : SeqsK H7 (upd H7 x (.ins (He.ga K "Debts") dx (putF "_coins" (.ref D1) []))) := SeqsK.ins hx7
      have d8 := off D1 _ h7 (ne_of h7 hx7 (by intro z; cases z))
      have b8 := off b _ (s9 _ _ hb) (ne_of (s9 _ _ hb) hx7 (by intro z; cases z))
      have p8 := off p5 _ hp5 (ne_of hp5 hx7 (by intro z; cases z))
      have z8 : Same H0 (upd H7 x (.ins (He.ga K "Debts") dx (putF "_coins" (.ref D1) []))) := fun c o e => off c o (s9 _ _ (s0 _ _ e)) fun z => by rw [z, x0] at e; cases e
      have pd8 := (pd.mono (SeqsK.of s9)).mono sk8
      generalize upd H7 x (.ins (He.ga K "Debts") dx (putF "_coins" (.ref D1) [])) = G8 at hx8 d8 b8 p8 z8 pd8 ⊢
      refine ⟨_, rfl, p5, rfl, ⟨_, SqL.of p8⟩, fun D2 hD2 => dc_texts walk_list walk_at ys (by rw [List.length_map]) nm.1 (sz (m := 60) (by rw [List.length_map]; exact ly)) hD2 (fun H' s' => SqL.of (s' _ _ p8)) (fun H' s v => RowsAt (newH H0 H') v (gD ds s)) (fun _ _ _ _ e h => h.mono (new_mono e)) (fun _ _ _ _ _ e h => h.seqs (seqs_new (SeqsK.frz e)))
        (fun i u y H2 R hi hu hy s2 k => ?_) (fun H9 kvs9 s10 h9 e9 => ?_)⟩
      · rw [List.getElem?_map, hy] at hu
        obtain rfl : V.str y = u := Option.some.inj hu
        have b2 := s2 _ _ b8
        have pd2 := pd8.mono (SeqsK.of s2)
        refine ⟨_, rfl, _, rfl, b, rfl, .inl ⟨kd, .inl b2⟩, _, rfl, ?_⟩
        delta tLst tNil
        dsimp only
        refine ⟨by decide, fun q0 hq0 => ?_⟩
        have s3 : Same H2 (upd H2 q0 (.lst [])) := Same.up hq0
        obtain ⟨l, us, e1, hl, pr⟩ : ∃ l us, (valV kd (Sum.inr y)).getD (.ref q0) = .ref l ∧ ((upd H2 q0 (.lst [])) l = some (.lst us) ∨ (upd H2 q0 (.lst [])) l = some (.tup us)) ∧ Paired (RowV (upd H2 q0 (.lst []))) us (gD ds y) := by
          rcases pd2.val y with ⟨v, rs, e, e2, l, us, rfl, h, p⟩ | ⟨e, e2⟩
          · rw [e]
            exact ⟨l, us, rfl, h.imp (s3 _ _) (s3 _ _), by unfold gD; rw [e2]; exact L2.Paired.mapP p fun _ _ h => h.mono (SeqsK.of s3)⟩
          · rw [e]
            exact ⟨q0, [], rfl, .inl upd_same, by unfold gD; rw [e2]; exact .nil⟩
        generalize upd H2 q0 (.lst []) = G at s3 hl pr ⊢
        refine ⟨valV kd (Sum.inr y), .inl ⟨kd, Sum.inr y, .inl (s3 _ _ b2), rfl, rfl⟩, l, e1, seqIt_of hl fun J Gd wk hG => fun D3 hD3 => lc_gen wk (fun i H x H' y => ⟨y.1, y.2⟩) (gD ds y) (fun _ => true) (Paired.length pr).symm (sz (m := 60) (by rw [Paired.length pr]; exact gD_len l4 y)) hD3 (fun H' s' => hG H' (by rcases hl with h | h <;> rw [s' _ _ h, h]))
          (fun H r v => RowAt (newH H0 H) v r) (fun _ _ _ _ s h => h.mono (new_mono s)) (fun H1 r v c c' e h => ?_) (fun i x r H1 A B lt hx hr s1 kA kB => ?_) (fun H' acc s' h' p' => ?_)⟩
        · obtain ⟨t, e', ht⟩ := h
          have n0 := new_no ht
          rw [new_at n0] at ht
          exact ⟨t, e', by rw [new_at n0, upd_ne (ne_of ht e (by intro z; cases z))]; exact ht⟩
        · obtain ⟨t, rfl, ht⟩ := ((Paired.at2 pr hx hr).mono (SeqsK.of s1)).any (K := K)
          refine ⟨t, _, rfl, ht, rfl, _, _, rfl, _, _, rfl, rfl, rfl, ?_⟩
          simp only [tYes, if_true]
          exact ⟨_, rfl, _, rfl, two_line, fun t2 h2 => kA rfl _ _ (Same.up h2) ⟨t2, rfl, (new_at (free_below (z8.trans (s2.trans (s3.trans s1))) h2)).trans upd_same⟩⟩
        · rw [List.filter_eq_self.mpr fun _ _ => rfl] at p'
          exact k _ _ (s3.trans s') ⟨D3, acc, rfl, (new_at (free_below (z8.trans (s2.trans s3)) hD3)).trans h', p'⟩
      · have hx9 := s10 _ _ hx8
        have h9a := s10 _ _ d8
        refine ⟨_, rfl, x, _, dx, _, rfl, hx9, O.cl, O.nD, show 1 < 1000 by decide, ?_⟩
        have n1 : D1 ≠ x := ne_of h9a hx9 (by intro z; cases z)
        have n2 : D2 ≠ x := ne_of h9 hx9 (by intro z; cases z)
        refine q _ ys (fun c o e => ?_) nm ⟨dx, D1, D2, kvs, kvs9, (new_at x0).trans upd_same, (new_at (free_below z7 hD1)).trans (by rw [upd_ne n1]; exact h9a), (new_at (free_below z8 hD2)).trans (by rw [upd_ne n2]; exact h9), pmap (f := fun n => (n, gC cs n, gD ds n)) (fun _ _ h => h) e7, pmap (f := fun n => (n, gC cs n, gD ds n)) (fun _ _ h => ⟨h.1, h.2.seqs (seqs_new (SeqsK.ins hx9))⟩) e9, by rw [ws_names]; exact nm.1, by unfold wsOf; rw [List.length_map]; exact ly, fun mb hm => ?_⟩
        · rw [upd_ne fun z => by rw [z, x0] at e; cases e]
          exact s10 _ _ (z8 _ _ e)
        · obtain ⟨n, mn, rfl⟩ := List.mem_map.mp hm
          refine ⟨g.name ((nm.2.2 _).mp mn), gD_len l4 n, fun r mr => ?_⟩
          obtain ⟨p, mp, er⟩ : ∃ p ∈ ds, r ∈ p.2 := by
            have mr' : r ∈ gD ds n := mr
            unfold gD at mr'
            cases e : ds.lookup n with
            | none => rw [e] at mr'; cases mr'
            | some rs => rw [e] at mr'; exact ⟨_, look_mem e, mr'⟩
          exact ((g.de p mp).2 r er).1
  · exact ⟨_, rfl, by delta tNil; exact ckC_mono h⟩
  · obtain ⟨a, kvs, rfl, h1, h2, h3, h4⟩ := hc
    exact ⟨_, rfl, .ref a, rfl, .inl ⟨a, kvs, rfl, h1, h2, h3, .inl ⟨h4, fun H1 s1 => ⟨_, rfl, by delta tNil; exact ckD_mono (h H1 s1)⟩⟩⟩⟩
end
end K38

set_option Elab.async false
set_option linter.all false
set_option maxRecDepth 100000
set_option maxHeartbeats 4000000
namespace K38
open PySem PySem.Spec PyProof.Rows L2 Sr
/-! ### debts(), owed(member) -/
def DebD (H : Hp) (kd : List (Key × V)) (ws : List Mb) : Prop := Paired (fun (kv : Key × V) (m : Mb) => kv.1 = Sum.inr m.1 ∧ RowsAt H kv.2 m.2.2) kd ws
def spDebts (K : PySem.W.Frag) : Sp := fun vs H Q _ => ∃ x ws, vs = [.ref x] ∧ DebR K H x ws ∧ ∀ H' p kd, Same H H' → H p = none → H' p = some (.dK kd) → DebD H' kd ws → (∀ kv ∈ kd, ∃ l, kv.2 = .ref l ∧ H l = none) → Q (.ref p) H'
theorem deb_keys {H : Hp} : ∀ {kd : List (Key × V)} {ws : List Mb}, DebD H kd ws → kd.map (·.1) = (ws.map (·.1)).map Sum.inr
  | _, _, .nil => rfl
  | _, _, .cons h r => by rw [List.map_cons, List.map_cons, List.map_cons, deb_keys r, h.1]
theorem deb_val {H : Hp} {kd : List (Key × V)} {ws : List Mb} (h : DebD H kd ws) (nd : (ws.map (·.1)).Nodup) {m : Mb} (mm : m ∈ ws) : ∃ v, valV kd (Sum.inr m.1) = some v ∧ RowsAt H v m.2.2 := by
  unfold DebD at h
  induction h with
  | nil => cases mm
  | @cons kv p kc cs h r ih =>
    rw [List.map_cons] at nd
    obtain ⟨n1, n2⟩ := List.nodup_cons.mp nd
    rcases List.mem_cons.mp mm with rfl | mm
    · exact ⟨_, valV_pos h.1, h.2⟩
    · have c : ¬ kv.1 = Sum.inr m.1 := fun e => n1 (by rw [h.1] at e; rw [Sum.inr.inj e]; exact List.mem_map.mpr ⟨m, mm, rfl⟩)
      rw [valV_neg c]
      exact ih n2 mm
theorem ent_deb {H : Hp} {Rv : Str → V → Prop} {ws : List Mb} (f : ∀ m ∈ ws, ∀ v, Rv m.1 v → RowsAt H v m.2.2) : ∀ {kd : List (Key × V)}, Ent Rv kd (ws.map (·.1)) → DebD H kd ws := by
  induction ws with
  | nil => intro kd h; cases h; exact .nil
  | cons m r ih =>
    intro kd h
    cases h with
    | cons h t => exact .cons ⟨h.1, f m List.mem_cons_self _ h.2⟩ (ih (fun m' mm => f m' (List.mem_cons_of_mem _ mm)) t)
theorem ent_all {Rv : Str → V → Prop} {kd : List (Key × V)} {ss : List Str} (h : Ent Rv kd ss) : ∀ kv ∈ kd, ∃ s, Rv s kv.2 := by
  intro kv m
  obtain ⟨i, hi⟩ := List.mem_iff_getElem?.mp m
  have lt := (List.getElem?_eq_some_iff.mp hi).1
  have ln := h.len
  obtain ⟨s, hs⟩ : ∃ s, ss[i]? = some s := ⟨ss[i]'(by omega), List.getElem?_eq_getElem (by omega)⟩
  exact ⟨s, (Paired.at2 h hi hs).2⟩
section
variable {P : Program} {w : World} {K : PySem.W.Frag} {mg : Str → Option Value} {base : Heap}
abbrev s_Debts_debts : Stmt := inClass (top 14) 3
theorem sc_Debts_debts : FnScope ["self", "member"] ["self"] (defScope s_Debts_debts) := ⟨rfl, rfl, rfl, by decide +kernel, rfl, by decide +kernel, by decide +kernel⟩
theorem m_debts (T : Txt K mg) (O : Deb K mg) (D : DfnM K "Debts" "debts" "Debts.debts" s_Debts_debts) : CalM P w K mg base CX0 1 (He.fAd K ("Debts", some "debts")) ["self"] (spDebts K) := by
  refine D.cal sc_Debts_debts (fun _ _ _ _ _ _ us hl => match us, hl with | [_], _ => rfl) (fun vs H Q E h => ?_) fun cdv A outer s H vs Q E hr h => ?_
  · obtain ⟨x, ws, rfl, _⟩ := h
    rfl
  obtain ⟨x, ws, rfl, h, q⟩ := h
  obtain ⟨dx, c, d, kc, kd, h1, h2, h3, h4, h5, nd, lw, h7⟩ := id h
  refine ⟨_, (pss_one (ps_ret (pe_lock (pe_dc (own := [("member", 1)]) (g := gName 1) (tt := tYes) rfl sc_Debts_debts.nd (pi_keys (pe_fld (pv 0) rfl)) (blkOk_by (N := ["self", "member"]) (sc := defScope s_Debts_debts) (by decide +kernel)) (fun _ _ _ _ _ => (pg_name (i := 1) sc_Debts_debts.nd rfl (by first | exact Or.inl rfl | exact Or.inr rfl))) (fun _ _ _ _ _ => pts_nil) (fun _ _ _ _ _ => (pv 1)) (fun _ _ _ _ _ => (pe_callTy (T := "list") (call_list_ofK K rfl) (by rfl) T.list (by decide +kernel) (pa_cons (pe_dget (hu_of hr) (pe_fldK K rfl (pv 0) rfl) (pv 1) (fun _ _ => rfl)) pa_nil))))))), ?_⟩
  refine ⟨d, _, h3, trivial, fun od => ?_⟩
  have fz : ∀ c o, c ≠ d → H c = some o → (upd H d (.frz od (.dK kd))) c = some o := fun c o n e => by rw [upd_ne n]; exact e
  have x1 := fz x _ (ne_of h1 h3 (by intro z; cases z)) h1
  have d1 : (upd H d (.frz od (.dK kd))) d = some (.frz od (.dK kd)) := upd_same
  have e1 : DebD (upd H d (.frz od (.dK kd))) kd ws := L2.Paired.mapP h5 fun _ _ h => ⟨h.1, h.2.seqs (SeqsK.frz h3)⟩
  have back : ∀ H', Same (upd H d (.frz od (.dK kd))) H' → Same H (upd H' d (.dK kd)) := fun H' s c o e => by
    by_cases hc : c = d
    · rw [hc] at e ⊢
      rw [h3] at e
      cases e
      exact upd_same
    · rw [upd_ne hc]
      exact s _ _ (fz c o hc e)
  have none_ : ∀ c, (upd H d (.frz od (.dK kd))) c = none → H c = none := fun c e => by
    by_cases hc : c = d
    · rw [hc, d1] at e; cases e
    · rw [upd_ne hc] at e; exact e
  generalize upd H d (.frz od (.dK kd)) = F at x1 d1 e1 back none_ ⊢
  have ek := deb_keys e1
  have lk : (ws.map (·.1)).length = kd.length := by
    have := congrArg List.length ek
    rw [List.length_map, List.length_map] at this
    exact this.symm
  refine ⟨_, rfl, x, _, dx, _, _, rfl, x1, O.cl, O.nD, rfl, d, od, rfl, .inl ⟨kd, d1, fun B hB => dc_texts walk_keys (At := fun i x => ∃ k v, kd[i]? = some (k, v) ∧ x = kV k) (fun _ _ _ _ y => y) (ws.map (·.1)) lk nd (sz (m := 60) (by rw [← lk, List.length_map]; exact lw)) hB (fun H' s => s _ _ d1)
    (fun H' s v => ∃ l, v = .ref l ∧ F l = none ∧ ∀ m ∈ ws, m.1 = s → RowsAt H' v m.2.2) (fun _ _ _ _ e ⟨l, a, b, h⟩ => ⟨l, a, b, fun m mm em => (h m mm em).mono e⟩) (fun _ _ _ _ _ e ⟨l, a, b, h⟩ => ⟨l, a, b, fun m mm em => (h m mm em).seqs (SeqsK.frz e)⟩)
    (fun i u y H2 R hi hu hy s2 k => ?_) (fun H2 kvs s2 g2 e2 => ?_)⟩⟩
  · obtain ⟨kk, v, hk, rfl⟩ := hu
    have em : (kd.map (·.1))[i]? = some kk := by rw [List.getElem?_map, hk]; rfl
    rw [ek, List.getElem?_map, hy] at em
    obtain rfl : Sum.inr y = kk := Option.some.inj em
    obtain ⟨m, mm, rfl⟩ := List.mem_map.mp (List.mem_of_getElem? hy)
    obtain ⟨v', ev, rv⟩ := deb_val e1 nd mm
    obtain ⟨l, us, rfl, hl, pr⟩ := rv.mono s2
    refine ⟨_, rfl, _, rfl, x, _, dx, _, _, rfl, s2 _ _ x1, O.cl, O.nD, rfl, _, rfl, d, .ref l, rfl, .inl ⟨kd, Sum.inr m.1, .inr ⟨od, s2 _ _ d1⟩, rfl, ev.symm⟩, l, us, rfl, .inl (SqL.of hl), fun q0 hq => k _ _ (Same.up hq) ⟨q0, rfl, ?_, fun m' mm' em' => ?_⟩⟩
    · cases e : F q0 with
      | none => rfl
      | some o => rw [s2 _ _ e] at hq; cases hq
    · have : m' = m := by
        obtain ⟨i1, h1⟩ := List.mem_iff_getElem?.mp mm
        obtain ⟨i2, h2⟩ := List.mem_iff_getElem?.mp mm'
        have l1 := (List.getElem?_eq_some_iff.mp h1).1
        have l2 := (List.getElem?_eq_some_iff.mp h2).1
        have ei : i1 = i2 := (List.getElem?_inj (l := ws.map (·.1)) (by rw [List.length_map]; exact l1) nd).mp (by rw [List.getElem?_map, List.getElem?_map, h1, h2, Option.map_some, Option.map_some, em'])
        rw [ei, h2] at h1
        exact Option.some.inj h1
      subst this
      exact ⟨q0, us, rfl, upd_same, L2.Paired.mapP pr fun _ _ h => h.mono (Same.up hq)⟩
  · have dd := s2 _ _ d1
    have nB : B ≠ d := fun z => by rw [z, d1] at hB; cases hB
    refine ⟨dd, q _ B kvs (back H2 s2) (none_ B hB) (by rw [upd_ne nB]; exact g2) ?_ fun kv m => ?_⟩
    · refine ent_deb (Rv := fun s v => ∃ l, v = .ref l ∧ F l = none ∧ ∀ m ∈ ws, m.1 = s → RowsAt H2 v m.2.2) (fun m mm v ⟨l, a, b, h⟩ => ?_) e2
      obtain ⟨l', us, e, hl, pr⟩ := h m mm rfl
      have off : ∀ c o, (∀ od', o ≠ .frz od' (.dK kd)) → H2 c = some o → (upd H2 d (.dK kd)) c = some o := fun c o n e => by
        rw [upd_ne fun z => by rw [z, dd] at e; exact n od (Option.some.inj e).symm]
        exact e
      exact ⟨l', us, e, off _ _ (fun _ z => by cases z) hl, L2.Paired.mapP pr fun _ _ ⟨t, e, h⟩ => ⟨t, e, off _ _ (fun _ z => by cases z) h⟩⟩
    · obtain ⟨s, l, a, b, _⟩ := ent_all e2 kv m
      exact ⟨l, a, none_ l b⟩
end
end K38

set_option Elab.async false
set_option linter.all false
set_option maxRecDepth 100000
set_option maxHeartbeats 4000000
namespace K38
open PySem PySem.Spec PyProof.Rows L2 Sr
/-! ### owed(member), split(member, many) -/
def sumR (rs : Rw) : Int := (rs.map (·.2)).sum
theorem mb_one {ws : List Mb} (nd : (ws.map (·.1)).Nodup) {m m' : Mb} (mm : m ∈ ws) (mm' : m' ∈ ws) (e : m'.1 = m.1) : m' = m := by
  obtain ⟨i1, h1⟩ := List.mem_iff_getElem?.mp mm
  obtain ⟨i2, h2⟩ := List.mem_iff_getElem?.mp mm'
  have l1 := (List.getElem?_eq_some_iff.mp h1).1
  have ei : i1 = i2 := (List.getElem?_inj (l := ws.map (·.1)) (by rw [List.length_map]; exact l1) nd).mp (by rw [List.getElem?_map, List.getElem?_map, h1, h2, Option.map_some, Option.map_some, e])
  rw [ei, h2] at h1
  exact Option.some.inj h1
/-- the member m, or what is none -/
def MbOr (K : PySem.W.Frag) (H : Hp) (x : Addr) (ws : List Mb) (v : V) (A : Mb → Prop) (B : Prop) : Prop := DebR K H x ws ∧ ((∃ m ∈ ws, v = .str m.1 ∧ m.2.2.length ≤ 60 ∧ A m) ∨ (∃ d, Is H v d ∧ plainD d = true ∧ SeqAt.shaped (toP d) = true ∧ memD (ws.map (·.1)) d = false) ∧ B)
def spOwed (K : PySem.W.Frag) : Sp := fun vs H Q E => ∃ x v ws, vs = [.ref x, v] ∧ MbOr K H x ws v (fun m => ∀ H', Same H H' → Q (.int (sumR m.2.2)) H') (∀ H' e, Same H H' → H' e = none → E (.ref (He.ga K "NoMember")) (some e) (upd H' e (.xd [("member", v)])))
section
variable {P : Program} {w : World} {K : PySem.W.Frag} {mg : Str → Option Value} {base : Heap}
abbrev s_Debts_owed : Stmt := inClass (top 14) 4
theorem sc_Debts_owed : FnScope ["self", "member", "_", "many"] ["self", "member"] (defScope s_Debts_owed) := ⟨rfl, rfl, rfl, by decide +kernel, rfl, by decide +kernel, by decide +kernel⟩
theorem m_owed (T : Txt K mg) (O : Deb K mg) (D : DfnM K "Debts" "owed" "Debts.owed" s_Debts_owed) (C_check_member : CalE P w K mg base 3 "check_member" ["debts", "member"] (spChk K)) : CalM P w K mg base (L2.CX P w) 4 (He.fAd K ("Debts", some "owed")) ["self", "member"] (spOwed K) := by
  refine D.calE sc_Debts_owed (fun _ _ _ _ _ _ us hl => match us, hl with | [_, _], _ => rfl) (fun vs H Q E h => ?_) fun cdv A outer s H vs Q E hr h => ?_
  · obtain ⟨x, v, ws, rfl, _⟩ := h
    rfl
  obtain ⟨x, v, ws, rfl, hx, h⟩ := h
  refine ⟨_, (pss_cons (ps_expr (pe_calE C_check_member hr (by first | decide | omega) (by rfl) (passes_def rfl rfl rfl rfl) (pa_cons (pv 0) (pa_cons (pv 1) pa_nil))))
      (pss_one (ps_ret (pe_callB (id := "sum") (cr_sum rfl) (by rfl) T.sum (by decide +kernel) (pa_cons (pe_lc (own := [("_", 2), ("many", 3)]) (g := gTup K 2 (gCons (gName 2) (gCons (gName 3) gNil))) (tt := tYes) rfl sc_Debts_owed.nd (pi_list (pe_dget (hu_of hr) (pe_fld (pv 0) rfl) (pv 1) (fun _ _ => rfl))) (blkOk_by (N := ["self", "member", "_", "many"]) (sc := defScope s_Debts_owed) (by decide +kernel)) (fun _ _ _ _ _ => (pg_tup rfl (pgs_cons (pg_name (i := 2) sc_Debts_owed.nd rfl (by first | exact Or.inl rfl | exact Or.inr rfl)) (pgs_cons (pg_name (i := 3) sc_Debts_owed.nd rfl (by first | exact Or.inl rfl | exact Or.inr rfl)) pgs_nil)))) (fun _ _ _ _ _ => pts_nil) (fun _ _ _ _ _ => (pv 3))) pa_nil))))), ?_⟩
  obtain ⟨dx, c, d, kc, kd, h1, h2, h3, h4, h5, nd, lw, h7⟩ := id hx
  rcases h with ⟨m, mm, rfl, lr, q⟩ | ⟨⟨dv, hv, pl, sh, no⟩, q⟩
  · have nm := (h7 m mm).1
    refine ⟨_, rfl, _, rfl, x, _, ws, .str m.1, rfl, hx, .str _ (name_short nm), rfl, ?_, .inl ⟨decide_eq_true (List.mem_map.mpr ⟨m, mm, rfl⟩), fun H1 s1 => ?_⟩⟩
    · unfold SeqAt.shaped
      show (PyData.canLay0 (.str m.1) && _) = true
      rw [name_lay nm]
      rfl
    obtain ⟨v', ev, l, us, rfl, hl, pr⟩ := deb_val h5 nd mm
    have lu : us.length = m.2.2.length := Paired.length pr
    refine ⟨_, rfl, x, _, dx, _, _, rfl, s1 _ _ h1, O.cl, O.nD, rfl, _, rfl, d, .ref l, rfl, .inl ⟨kd, Sum.inr m.1, .inl (s1 _ _ h3), rfl, ev.symm⟩, l, rfl, ⟨_, SqL.of (s1 _ _ hl)⟩, fun B hB => lc_f walk_list at_any m.2.2 (fun r => V.int r.2) lu.symm (sz (m := 60) (by omega)) hB (fun H2 s2 => SqL.of (s2 _ _ (s1 _ _ hl)))
      (fun i u r H2 R hi hu hr s2 k => ?_) (fun H2 s2 g2 => ?_)⟩
    · obtain ⟨t, rfl, ht⟩ := Paired.at2 pr hu hr
      exact ⟨t, _, rfl, SqT.of (s2 _ _ (s1 _ _ ht)), rfl, _, _, rfl, _, _, rfl, rfl, rfl, _, rfl, k _ (Same.refl _)⟩
    · exact ⟨B, m.2.2.map (fun (r : Str × Int) => r.2), rfl, SqL.of (by rw [g2, List.map_map]; rfl), q H2 (s1.trans s2)⟩
  · exact ⟨_, rfl, _, rfl, x, _, ws, dv, rfl, hx, hv, pl, sh, .inr ⟨no, q⟩⟩
end
end K38

set_option Elab.async false
set_option linter.all false
set_option maxRecDepth 100000
set_option maxHeartbeats 4000000
namespace K38
open PySem PySem.Spec PyProof.Rows L2 Sr
theorem atI_last {α : Type} {xs : List α} {x : α} : atI (xs ++ [x]) (-1) = some x := by
  unfold atI ixN
  have e : (xs ++ [x]).length = xs.length + 1 := by rw [List.length_append]; rfl
  rw [if_neg (by omega), if_pos (by omega), e, show (-1 + ((xs.length + 1 : Nat) : Int)).toNat = xs.length by omega]
  simp
def mn (i j : Int) : Int := if j < i then j else i
/-- what each row gets of an amount -/
def splitR : Rw → Int → List Int
  | [], _ => []
  | r :: t, i => mn i r.2 :: splitR t (i - mn i r.2)
/-- what is left of it -/
def leftR : Rw → Int → Int
  | [], i => i
  | r :: t, i => leftR t (i - mn i r.2)
theorem split_snoc (r : Str × Int) : ∀ (l : Rw) (i : Int), splitR (l ++ [r]) i = splitR l i ++ [mn (leftR l i) r.2] ∧ leftR (l ++ [r]) i = leftR l i - mn (leftR l i) r.2
  | [], i => ⟨rfl, rfl⟩
  | p :: t, i => by
    obtain ⟨h1, h2⟩ := split_snoc r t (i - mn i p.2)
    exact ⟨by show mn i p.2 :: splitR (t ++ [r]) _ = _; rw [h1]; rfl, h2⟩
theorem split_len : ∀ (l : Rw) (i : Int), (splitR l i).length = l.length
  | [], _ => rfl
  | p :: t, i => by show (splitR t _).length + 1 = _; rw [split_len t]; rfl
/-- an amount that may be split -/
def amtOk (s : Int) : Dt → Bool
  | .int i => decide (0 ≤ i) && decide (i ≤ s)
  | _ => false
def spSplit (K : PySem.W.Frag) : Sp := fun vs H Q E => ∃ x v u ws, vs = [.ref x, v, u] ∧ MbOr K H x ws v
  (fun m => (∃ i, u = .int i ∧ 0 ≤ i ∧ i ≤ sumR m.2.2 ∧ ∀ H' p, Same H H' → H p = none → H' p = some (.lst ((splitR m.2.2 i).map V.int)) → Q (.ref p) H') ∨
    (∃ d, Is H u d ∧ amtOk (sumR m.2.2) d = false ∧ ∀ H' e, Same H H' → H' e = none → E (.ref (He.ga K "BadNumber")) (some e) (upd H' e (.xd [("number", u)]))))
  (∀ H' e, Same H H' → H' e = none → E (.ref (He.ga K "NoMember")) (some e) (upd H' e (.xd [("member", v)])))
section
variable {P : Program} {w : World} {K : PySem.W.Frag} {mg : Str → Option Value} {base : Heap}
abbrev s_Debts_split : Stmt := inClass (top 14) 5
theorem sc_Debts_split : FnScope ["self", "member", "many", "owed", "parts", "left", "_", "lacking"] ["self", "member", "many"] (defScope s_Debts_split) := ⟨rfl, rfl, rfl, by decide +kernel, rfl, by decide +kernel, by decide +kernel⟩
theorem m_split (T : Txt K mg) (O : Deb K mg) (OM : DebM K) (R : ErrAt P w K mg base "BadNumber" "number" "number") (D : DfnM K "Debts" "split" "Debts.split" s_Debts_split) (C_is_integer : Cal P w K mg base 1 "is_integer" ["thing"] (spB isInteger))
    (MO : CalM P w K mg base (L2.CX P w) 4 (He.fAd K ("Debts", some "owed")) ["self", "member"] (spOwed K)) : CalM P w K mg base (L2.CX P w) 5 (He.fAd K ("Debts", some "split")) ["self", "member", "many"] (spSplit K) := by
  refine D.calE sc_Debts_split (fun _ _ _ _ _ _ us hl => match us, hl with | [_, _, _], _ => rfl) (fun vs H Q E h => ?_) fun cdv A outer s H vs Q E hr h => ?_
  · obtain ⟨x, v, u, ws, rfl, _⟩ := h
    rfl
  obtain ⟨x, v, u, ws, rfl, hx, h⟩ := h
  refine ⟨_, (pss_cons (ps_set (i := 3) sc_Debts_split.nd rfl (by first | exact Or.inl rfl | exact Or.inr rfl) (mE_ (K := K) MO rfl hr (by decide) O.cl OM.owed (passes_def rfl rfl rfl rfl) (pv 0) (pa_cons (pv 1) pa_nil)))
      (pss_cons (ps_if (PW.pt (pw_or (pt_not (pt_val (pe_cal C_is_integer hr (by first | decide | omega) (by rfl) (pa_cons (pv 2) pa_nil)))) (pw_or1 (pt_not (pt_chain op_le op_le pe_int (pv 2) (pv 3)))))) (pss_one (ps_raise rfl (takes_of rfl rfl rfl rfl) (R.mk_ hr (by decide) (by rfl) (pa_cons (pv 2) pa_nil)))) pss_nil)
      (pss_cons (ps_set (i := 4) sc_Debts_split.nd rfl (by first | exact Or.inl rfl | exact Or.inr rfl) (pe_lst pa_nil))
      (pss_cons (ps_set (i := 5) sc_Debts_split.nd rfl (by first | exact Or.inl rfl | exact Or.inr rfl) (pv 2))
      (pss_cons (ps_for (L2.passes_of rfl) rfl (pi_list (pe_dget (hu_of hr) (pe_fld (pv 0) rfl) (pv 1) (fun _ _ => rfl))) (pg_tup rfl (pgs_cons (pg_name (i := 6) sc_Debts_split.nd rfl (by first | exact Or.inl rfl | exact Or.inr rfl)) (pgs_cons (pg_name (i := 7) sc_Debts_split.nd rfl (by first | exact Or.inl rfl | exact Or.inr rfl)) pgs_nil)))
      (pss_cons (ps_expr (pe_bm PySem.F.plainAttrs_list PySem.F.slot_list_append PySem.F.type_list_append mt_append (pv 4) (pa_cons (pe_callB (id := "min") (call_min2 rfl) (by rfl) T.min (by decide +kernel) (pa_cons (pv 5) (pa_cons (pv 7) pa_nil))) pa_nil)))
      (pss_one (ps_aug (i := 5) sc_Debts_split.nd rfl (by first | exact Or.inl rfl | exact Or.inr rfl) (pe_ix ix_list (pv 4) (pe_un un_neg pe_int) (fun _ _ => rfl)) ip_sub))))
      (pss_one (ps_ret (pv 4)))))))), ?_⟩
  obtain ⟨dx, c, d, kc, kd, h1, h2, h3, h4, h5, nd, lw, h7⟩ := id hx
  rcases h with ⟨m, mm, rfl, lr, h⟩ | ⟨no, q⟩
  · have nm := (h7 m mm).1
    refine ⟨_, rfl, x, dx, _, rfl, h1, rfl, _, rfl, x, _, ws, rfl, hx, .inl ⟨m, mm, rfl, lr, fun H1 s1 => ?_⟩⟩
    rcases h with ⟨i, rfl, i0, i1, q⟩ | ⟨du, hu, no, q⟩
    · refine ⟨_, rfl, _, .int i, rfl, .int i, fun H2 s2 => ⟨_, rfl, iteF ⟨_, rfl, _, _, rfl, rfl, _, rfl, ?_⟩⟩⟩
      rw [if_pos (decide_eq_true i0)]
      refine ⟨_, rfl, _, _, rfl, rfl, _, rfl, ?_⟩
      rw [decide_eq_true i1]
      refine iteF ?_
      have s12 := s1.trans s2
      obtain ⟨v', ev, l, us, rfl, hl, pr⟩ := deb_val h5 nd mm
      have lu : us.length = m.2.2.length := Paired.length pr
      have hp1 : ∀ p, H2 p = none → H p = none := fun p e => by
        cases e2 : H p with
        | none => rfl
        | some o => rw [s12 _ _ e2] at e; cases e
      refine ⟨by decide, fun p hp => ⟨_, rfl, _, rfl, x, _, dx, _, _, rfl, Same.up hp _ _ (s12 _ _ h1), O.cl, O.nD, rfl, _, rfl, d, .ref l, rfl, .inl ⟨kd, Sum.inr m.1, .inl (Same.up hp _ _ (s12 _ _ h3)), rfl, ev.symm⟩, l, rfl, ⟨_, SqL.of (Same.up hp _ _ (s12 _ _ hl))⟩, ?_⟩⟩
      refine for_it walk_list (fun j σ H' => (∃ o t, σ = [some (.ref x), some (.str m.1), some (.int i), some (.int (sumR m.2.2)), some (.ref p), some (.int (leftR (m.2.2.take j) i)), o, t]) ∧ Same H2 H' ∧ H' p = some (.lst ((splitR (m.2.2.take j) i).map V.int))) ⟨⟨_, _, rfl⟩, Same.up hp, upd_same⟩ (fun j σ H' _ p => SqL.of (p.2.1 _ _ (s12 _ _ hl))) ?_ ?_
      · rintro j y σ H3 H4 lt ⟨⟨o, t0, rfl⟩, s3, g3⟩ ⟨rfl, hy⟩
        have lr2 : j < m.2.2.length := by omega
        have hr2 : m.2.2[j]? = some m.2.2[j] := List.getElem?_eq_getElem lr2
        generalize m.2.2[j] = r at hr2
        obtain ⟨t, rfl, ht⟩ := Paired.at2 pr hy hr2
        obtain ⟨k1, k2⟩ := split_snoc r (m.2.2.take j) i
        have tk : m.2.2.take (j + 1) = m.2.2.take j ++ [r] := by rw [List.take_add_one, hr2]; rfl
        have ln : ((splitR (m.2.2.take j) i).map V.int).length < sizeLine := by
          rw [List.length_map, split_len, List.length_take]
          exact Nat.lt_of_le_of_lt (show _ ≤ 60 by omega) (by decide)
        refine ⟨t, _, rfl, SqT.of (s3 _ _ (s12 _ _ ht)), rfl, _, _, rfl, _, _, rfl, rfl, _, rfl, .inl ⟨rfl, _, SqL.of g3⟩, _, rfl, _, rfl, _, _, rfl, p, _, _, rfl, rfl, g3, ln, ?_⟩
        refine ⟨_, rfl, _, rfl, 1, rfl, p, _, -1, .int (mn (leftR (m.2.2.take j) i) r.2), rfl, rfl, SqL.of upd_same, atI_last, _, _, rfl, rfl, ⟨_, _, by rw [tk, k2]; rfl⟩, fun c o e => ?_, ?_⟩
        · rw [upd_ne fun z => by rw [z, hp] at e; cases e]
          exact s3 _ _ e
        · rw [upd_same, tk, k1, List.map_append]
          rfl
      · rintro σ H3 ⟨⟨o, t0, rfl⟩, s3, g3⟩
        rw [lu, List.take_length] at g3
        exact ⟨_, rfl, q H3 p (s12.trans s3) (hp1 p hp) g3⟩
    · have raise : ∀ {H3 : Hp}, Same H1 H3 → ∀ e, H3 e = none → E (.ref (He.ga K "BadNumber")) (some e) (upd H3 e (.xd [("number", u)])) := fun {H3} s3 e he => q H3 e (s1.trans s3) he
      refine ⟨_, rfl, _, du, rfl, hu.mono s1, fun H2 s2 => ⟨_, rfl, ?_⟩⟩
      cases hi : isInteger du with
      | false => exact iteT (iteT ⟨_, rfl, err_at fun e he => raise s2 e he⟩)
      | true =>
        obtain ⟨i, rfl⟩ : ∃ i, du = .int i := by
          cases du with
          | int i => exact ⟨i, rfl⟩
          | _ => cases hi
        obtain rfl : u = .int i := by cases hu; rfl
        have no' : (decide (0 ≤ i) && decide (i ≤ sumR m.2.2)) = false := no
        refine iteF ⟨_, rfl, _, _, rfl, rfl, _, rfl, ?_⟩
        by_cases i0 : 0 ≤ i
        · rw [if_pos (decide_eq_true i0)]
          rw [decide_eq_true i0, Bool.true_and] at no'
          refine ⟨_, rfl, _, _, rfl, rfl, _, rfl, ?_⟩
          rw [no']
          exact iteT ⟨_, rfl, err_at fun e he => raise s2 e he⟩
        · rw [if_neg (by rw [decide_eq_false i0]; simp)]
          exact ⟨_, rfl, iteT ⟨_, rfl, err_at fun e he => raise s2 e he⟩⟩
  · exact ⟨_, rfl, x, dx, _, rfl, h1, rfl, _, rfl, x, _, ws, rfl, hx, .inr ⟨no, q⟩⟩
end
end K38

set_option Elab.async false
set_option linter.all false
set_option maxRecDepth 100000
set_option maxHeartbeats 4000000
namespace K38
open PySem PySem.Spec PyProof.Rows L2 Sr
/-! ### calls of the class -/
structure MkD (P : Program) (w : World) (K : PySem.W.Frag) (mg : Str → Option Value) (base : Heap) : Prop where
  ex : CalM P w K mg base (L2.CX P w) 5 (He.fAd K ("Debts", some "__init__")) ["self", "coins", "debts"] (spInit K)
  mk_ : Mk K (He.ga K "Debts") (He.fAd K ("Debts", some "__init__"))
  nm : mg "Debts" = some (.ref (He.ga K "Debts"))
theorem MkD.pe {X : Cx} {K : PySem.W.Frag} {w : World} {j : Nat} {E : XK} {p pos : Pos} {e : Expr} {es : List Expr} {t : TA} (c : MkD X.prog w K X.mg X.base) (hK : X.K = K) (hw : X.w = w) (hr : Room j X.A) (hk : 6 ≤ j) (hg : Gl X "Debts") (hx : Passes (L2.CX X.prog X.w) X E) (ha : PA X (e :: es) t)
    (he : starEach (e :: es) X.env = (false, eval e X.env) :: starEach es X.env := by rfl) (hpl : (backTo pos (starEach es X.env)).any (·.1) = false := by rfl) :
    PE X (.Call (.Name "Debts" p) (e :: es) [] pos) (tMake (He.ga K "Debts") (spInit K) [] E t) := by
  subst hK
  subst hw
  obtain ⟨fd, F, kp, hb⟩ := c.ex.ex
  exact pe_make c.mk_ F (hr.mono hk) hg c.nm hb .nil hx ha (by decide) he hpl
section
variable {K : PySem.W.Frag} {H : Hp} {Q : Addr → Hp → Prop} {E : XK}
/-- coins and debts are right; what is made is new -/
theorem ok_debtsN {a b : Addr} {kc kd : List (Key × V)} {cs : Cn} {ds : Db} (ha : H a = some (.dK kc)) (hb : H b = some (.dK kd)) (pc : CoinsC kc cs) (pd : DebtsR H kd ds) (g : Good cs ds)
    (q : ∀ x H' ys, H x = none → Same H H' → Nms cs ds ys → DebR K (newH H H') x (wsOf cs ds ys) → Q x H') :
    ∀ x dx, H x = none → H dx = none → dx ≠ x → spInit K (.ref x :: ([.ref a, .ref b] ++ [])) (upd (upd H dx (.own x)) x (.ins (He.ga K "Debts") dx [])) (fun v H2 => v = .non ∧ Q x H2) E := by
  intro x dx hx hdx ne
  have s0 : Same H (upd (upd H dx (.own x)) x (.ins (He.ga K "Debts") dx [])) := (Same.up hdx).trans (Same.up (by rw [upd_ne fun z => ne z.symm]; exact hx))
  exact ⟨x, .ref a, .ref b, H, dx, rfl, s0, hx, upd_same, .inl ⟨a, b, kc, kd, cs, ds, rfl, rfl, s0 _ _ ha, s0 _ _ hb, pc, pd.mono (SeqsK.of s0), g, fun H' ys s n d => ⟨rfl, q x H' ys hx s n d⟩⟩⟩
/-- coins and debts are right -/
theorem ok_debts {a b : Addr} {kc kd : List (Key × V)} {cs : Cn} {ds : Db} (ha : H a = some (.dK kc)) (hb : H b = some (.dK kd)) (pc : CoinsC kc cs) (pd : DebtsR H kd ds) (g : Good cs ds)
    (q : ∀ x H' ys, H x = none → Same H H' → Nms cs ds ys → DebR K H' x (wsOf cs ds ys) → Q x H') :
    ∀ x dx, H x = none → H dx = none → dx ≠ x → spInit K (.ref x :: ([.ref a, .ref b] ++ [])) (upd (upd H dx (.own x)) x (.ins (He.ga K "Debts") dx [])) (fun v H2 => v = .non ∧ Q x H2) E :=
  ok_debtsN ha hb pc pd g fun x H' ys hx s n d => q x H' ys hx s n (d.mono new_same)
/-- coins are not right -/
theorem bad_coins {v u : V} (h : ∀ H', Same H H' → spCkC K [v] H' (fun _ _ => False) E) :
    ∀ x dx, H x = none → H dx = none → dx ≠ x → spInit K (.ref x :: ([v, u] ++ [])) (upd (upd H dx (.own x)) x (.ins (He.ga K "Debts") dx [])) (fun v H2 => v = .non ∧ Q x H2) E := by
  intro x dx hx hdx ne
  have s0 : Same H (upd (upd H dx (.own x)) x (.ins (He.ga K "Debts") dx [])) := (Same.up hdx).trans (Same.up (by rw [upd_ne fun z => ne z.symm]; exact hx))
  exact ⟨x, v, u, H, dx, rfl, s0, hx, upd_same, .inr (.inl (h _ s0))⟩
/-- coins are right, debts are not -/
theorem bad_debts {v u : V} (hc : coinsOk H v) (h : ∀ H', Same H H' → spCkD K [u] H' (fun _ _ => False) E) :
    ∀ x dx, H x = none → H dx = none → dx ≠ x → spInit K (.ref x :: ([v, u] ++ [])) (upd (upd H dx (.own x)) x (.ins (He.ga K "Debts") dx [])) (fun v H2 => v = .non ∧ Q x H2) E := by
  intro x dx hx hdx ne
  have s0 : Same H (upd (upd H dx (.own x)) x (.ins (He.ga K "Debts") dx [])) := (Same.up hdx).trans (Same.up (by rw [upd_ne fun z => ne z.symm]; exact hx))
  obtain ⟨a, kvs, e, h1, h2, h3, h4⟩ := hc
  exact ⟨x, v, u, H, dx, rfl, s0, hx, upd_same, .inr (.inr ⟨⟨a, kvs, e, s0 _ _ h1, h2, h3, h4⟩, fun H1 s1 => h H1 (s0.trans s1)⟩)⟩
end
/-! ### given(member, many) -/
def putC (cs : Cn) (n : Str) (z : Int) : Cn := if (cs.any fun p => decide (p.1 = n)) = true then cs.map (fun p => if p.1 = n then (p.1, z) else p) else cs ++ [(n, z)]
theorem CoinsC.put {kc : List (Key × V)} {cs : Cn} (h : CoinsC kc cs) (n : Str) (z : Int) : CoinsC (putK kc (Sum.inr n) (.int z)) (putC cs n z) := by
  have any : (kc.any fun kv => decide (kv.1 = Sum.inr n)) = cs.any fun p => decide (p.1 = n) := by
    unfold CoinsC at h
    induction h with
    | nil => rfl
    | cons h _ ih =>
      rw [List.any_cons, List.any_cons, ih, h.1]
      congr 1
      exact decide_eq_decide.mpr ⟨fun e => Sum.inr.inj e, fun e => by rw [e]⟩
  unfold putK putC
  rw [any]
  split
  · rename_i cc
    clear cc
    unfold CoinsC at h ⊢
    clear any
    induction h with
    | nil => exact .nil
    | @cons kv p kc cs h r ih =>
      rw [List.map_cons, List.map_cons]
      refine .cons ?_ ih
      by_cases c : p.1 = n
      · rw [if_pos (by rw [h.1, c]), if_pos c]
        exact ⟨h.1, rfl⟩
      · rw [if_neg (fun e => c (Sum.inr.inj (h.1.symm.trans e))), if_neg c]
        exact h
  · exact Paired.snoc (F := fun (kv : Key × V) (p : Str × Int) => kv.1 = Sum.inr p.1 ∧ kv.2 = .int p.2) ⟨rfl, rfl⟩ h
theorem putC_len {cs : Cn} {n : Str} {z : Int} : (putC cs n z).length ≤ cs.length + 1 := by
  unfold putC
  split
  · rw [List.length_map]; omega
  · rw [List.length_append]; exact Nat.le_refl _
theorem putC_names {cs : Cn} {n : Str} {z : Int} : (putC cs n z).map (·.1) = if n ∈ cs.map (·.1) then cs.map (·.1) else cs.map (·.1) ++ [n] := by
  unfold putC
  by_cases c : n ∈ cs.map (·.1)
  · obtain ⟨p, mp, e⟩ := List.mem_map.mp c
    rw [if_pos (List.any_eq_true.mpr ⟨p, mp, decide_eq_true e⟩), if_pos c, List.map_map]
    refine List.map_congr_left fun q _ => ?_
    show (if q.1 = n then (q.1, z) else q).1 = q.1
    split <;> rfl
  · rw [if_neg c, if_neg fun h => c (by obtain ⟨p, mp, e⟩ := List.any_eq_true.mp h; exact List.mem_map.mpr ⟨p, mp, of_decide_eq_true e⟩), List.map_append]
    rfl
theorem putC_mem {cs : Cn} {n : Str} {z : Int} {p : Str × Int} (m : p ∈ putC cs n z) : p = (n, z) ∨ p ∈ cs := by
  unfold putC at m
  split at m
  · obtain ⟨q, mq, e⟩ := List.mem_map.mp m
    split at e
    · rename_i c
      exact .inl (by rw [← e, c])
    · exact .inr (by rw [← e]; exact mq)
  · rcases List.mem_append.mp m with m | m
    · exact .inr m
    · exact .inl (List.mem_singleton.mp m)
theorem look_append {l m : Cn} {s : Str} : (l ++ m).lookup s = (l.lookup s).or (m.lookup s) := by
  induction l with
  | nil => rfl
  | cons p r ih =>
    rw [List.cons_append, List.lookup_cons, List.lookup_cons, ih]
    by_cases c : s = p.1
    · rw [c, beq_self_eq_true]; rfl
    · rw [beq_false_of_ne c]
theorem putC_get {cs : Cn} {n : Str} {z : Int} (s : Str) : gC (putC cs n z) s = if s = n then z else gC cs s := by
  unfold gC putC
  split
  · rename_i c
    have aux : ∀ l : Cn, (l.map fun p => if p.1 = n then (p.1, z) else p).lookup s = if s = n then (l.lookup s).map fun _ => z else l.lookup s := by
      intro l
      induction l with
      | nil => split <;> rfl
      | cons p r ih =>
        rw [List.map_cons, List.lookup_cons, List.lookup_cons, ih]
        have e1 : (if p.1 = n then (p.1, z) else p).1 = p.1 := by split <;> rfl
        rw [e1]
        by_cases c1 : s = p.1
        · rw [c1, beq_self_eq_true]
          by_cases c2 : p.1 = n
          · rw [if_pos c2, if_pos c2]; rw [if_pos c2]; rfl
          · rw [if_neg c2, if_neg c2]; rw [if_neg c2]
        · rw [beq_false_of_ne c1]
    rw [aux]
    by_cases c1 : s = n
    · rw [if_pos c1, if_pos c1]
      have : (cs.lookup s).isSome = true := by
        obtain ⟨p, mp, e⟩ := List.any_eq_true.mp c
        have e := of_decide_eq_true e
        clear aux c
        induction cs with
        | nil => cases mp
        | cons q r ih =>
          rw [List.lookup_cons]
          by_cases c3 : s = q.1
          · rw [c3, beq_self_eq_true]; rfl
          · rw [beq_false_of_ne c3]
            exact ih ((List.mem_cons.mp mp).resolve_left fun h => c3 (by rw [← h, e, c1]))
      obtain ⟨v, hv⟩ := Option.isSome_iff_exists.mp this
      rw [hv]
      rfl
    · rw [if_neg c1, if_neg c1]
  · rename_i c
    rw [look_append]
    by_cases c1 : s = n
    · rw [if_pos c1]
      have : cs.lookup s = none := by
        cases e : cs.lookup s with
        | none => rfl
        | some i => exact absurd (List.any_eq_true.mpr ⟨_, look_mem e, decide_eq_true c1⟩) c
      rw [this, c1]
      show (List.lookup n [(n, z)]).getD 0 = z
      rw [List.lookup_cons, beq_self_eq_true]
      rfl
    · rw [if_neg c1]
      have : List.lookup s [(n, z)] = none := by rw [List.lookup_cons, beq_false_of_ne c1]; rfl
      rw [this]
      cases cs.lookup s <;> rfl
def csW (ws : List Mb) : Cn := ws.map fun m => (m.1, m.2.1)
def dsW (ws : List Mb) : Db := ws.map fun m => (m.1, m.2.2)
end K38

set_option Elab.async false
set_option linter.all false
set_option maxRecDepth 100000
set_option maxHeartbeats 4000000
namespace K38
open PySem PySem.Spec PyProof.Rows L2 Sr
def spGiven (K : PySem.W.Frag) : Sp := fun vs H Q E => ∃ x v u ws, vs = [.ref x, v, u] ∧ DebR K H x ws ∧
  ((∃ d, Is H v d ∧ nameOk d = false ∧ ∀ H' e, Same H H' → H' e = none → E (.ref (He.ga K "BadName")) (some e) (upd H' e (.xd [("thing", v)]))) ∨
   ∃ n, v = .str n ∧ nameOk (.str n) = true ∧
    ((∃ d, Is H u d ∧ coinOk d = false ∧ ∀ H' e, Same H H' → H' e = none → E (.ref (He.ga K "BadNumber")) (some e) (upd H' e (.xd [("number", u)]))) ∨
     ∃ i, u = .int i ∧ 0 ≤ i ∧ Good (putC (csW ws) n (gC (csW ws) n + i)) (dsW ws) ∧ ∀ x' H' ys, H x' = none → Same H H' → Nms (putC (csW ws) n (gC (csW ws) n + i)) (dsW ws) ys → DebR K H' x' (wsOf (putC (csW ws) n (gC (csW ws) n + i)) (dsW ws) ys) → Q (.ref x') H'))
theorem coinsR_c {kc : List (Key × V)} {ws : List Mb} (h : CoinsR kc ws) : CoinsC kc (csW ws) := pmap (f := fun m : Mb => (m.1, m.2.1)) (fun _ _ h => h) h
theorem debD_r {H : Hp} {kd : List (Key × V)} {ws : List Mb} (h : DebD H kd ws) : DebtsR H kd (dsW ws) := pmap (f := fun m : Mb => (m.1, m.2.2)) (fun _ _ h => ⟨h.1, h.2.v⟩) h
section
variable {P : Program} {w : World} {K : PySem.W.Frag} {mg : Str → Option Value} {base : Heap}
abbrev s_Debts_given : Stmt := inClass (top 14) 6
theorem sc_Debts_given : FnScope ["self", "member", "many", "coins"] ["self", "member", "many"] (defScope s_Debts_given) := ⟨rfl, rfl, rfl, by decide +kernel, rfl, by decide +kernel, by decide +kernel⟩
theorem m_given (T : Txt K mg) (O : Deb K mg) (OM : DebM K) (MkD0 : MkD P w K mg base) (RN : ErrAt P w K mg base "BadName" "thing" "thing") (RM : ErrAt P w K mg base "BadNumber" "number" "number") (D : DfnM K "Debts" "given" "Debts.given" s_Debts_given)
    (C_is_name : Cal P w K mg base 1 "is_name" ["thing"] (spB nameOk)) (C_is_integer : Cal P w K mg base 1 "is_integer" ["thing"] (spB isInteger)) (MC : CalM P w K mg base CX0 1 (He.fAd K ("Debts", some "coins")) ["self"] (spCoins K)) :
    CalM P w K mg base (L2.CX P w) 7 (He.fAd K ("Debts", some "given")) ["self", "member", "many"] (spGiven K) := by
  refine D.calE sc_Debts_given (fun _ _ _ _ _ _ us hl => match us, hl with | [_, _, _], _ => rfl) (fun vs H Q E h => ?_) fun cdv A outer s H vs Q E hr h => ?_
  · obtain ⟨x, v, u, ws, rfl, _⟩ := h
    rfl
  obtain ⟨x, v, u, ws, rfl, hx, h⟩ := h
  refine ⟨_, (pss_cons (ps_if (pt_not (pt_val (pe_cal C_is_name hr (by first | decide | omega) (by rfl) (pa_cons (pv 1) pa_nil)))) (pss_one (ps_raise rfl (takes_of rfl rfl rfl rfl) (RN.mk_ hr (by decide) (by rfl) (pa_cons (pv 1) pa_nil)))) pss_nil)
      (pss_cons (ps_if (PW.pt (pw_or (pt_not (pt_val (pe_cal C_is_integer hr (by first | decide | omega) (by rfl) (pa_cons (pv 2) pa_nil)))) (pw_or1 (pt_cmpR op_lt (pv 2) pe_int (nomark _))))) (pss_one (ps_raise rfl (takes_of rfl rfl rfl rfl) (RM.mk_ hr (by decide) (by rfl) (pa_cons (pv 2) pa_nil)))) pss_nil)
      (pss_cons (ps_set (i := 3) sc_Debts_given.nd rfl (by first | exact Or.inl rfl | exact Or.inr rfl) (m0_ MC hr (by decide) O.cl OM.coins (pv 0)))
      (pss_cons (ps_dput (hu_of hr) (pv 3) (pv 1) (pe_op op_add (pe_dget2 (hu_of hr) (pv 3) (pv 1) pe_int ⟨rfl, by rfl, rfl, rfl⟩) (pv 2)) rfl)
      (pss_one (ps_ret (MkD.pe (K := K) (w := w) MkD0 rfl rfl hr (by decide) (by rfl) (passes_def rfl rfl rfl rfl) (pa_cons (pv 3) (pa_cons (pe_fld (pv 0) rfl) pa_nil))))))))), ?_⟩
  obtain ⟨dx, c, d, kc, kd, h1, h2, h3, h4, h5, nd, lw, h7⟩ := id hx
  rcases h with ⟨dv, hv, no, q⟩ | ⟨n, rfl, nm, h⟩
  · refine ⟨_, rfl, v, dv, rfl, hv, fun H1 s1 => ⟨_, rfl, ?_⟩⟩
    rw [no]
    exact iteT ⟨_, rfl, err_at fun e he => q H1 e s1 he⟩
  · refine ⟨_, rfl, _, .str n, rfl, .str n (name_short nm), fun H1 s1 => ⟨_, rfl, ?_⟩⟩
    rw [nm]
    refine iteF ?_
    rcases h with ⟨du, hu, no, q⟩ | ⟨i, rfl, i0, g, q⟩
    · refine ⟨_, rfl, _, du, rfl, hu.mono s1, fun H2 s2 => ⟨_, rfl, ?_⟩⟩
      cases hi : isInteger du with
      | false => exact iteT (iteT ⟨_, rfl, err_at fun e he => q H2 e (s1.trans s2) he⟩)
      | true =>
        obtain ⟨i, rfl⟩ : ∃ i, du = .int i := by
          cases du with
          | int i => exact ⟨i, rfl⟩
          | _ => cases hi
        obtain rfl : u = .int i := by cases hu; rfl
        have lt : i < 0 := by have := of_decide_eq_false (show decide (0 ≤ i) = false from no); omega
        refine iteF ⟨_, rfl, _, _, rfl, rfl, _, rfl, ?_⟩
        rw [decide_eq_true lt]
        exact iteT ⟨_, rfl, err_at fun e he => q H2 e (s1.trans s2) he⟩
    · refine ⟨_, rfl, _, .int i, rfl, .int i, fun H2 s2 => ⟨_, rfl, iteF ⟨_, rfl, _, _, rfl, rfl, _, rfl, ?_⟩⟩⟩
      rw [decide_eq_false (by omega)]
      have s12 := s1.trans s2
      refine iteF ⟨_, rfl, x, dx, _, rfl, s12 _ _ h1, rfl, x, ws, rfl, hx.mono s12, fun p kc' hp cr => ?_⟩
      have s3 : Same H2 (upd H2 p (.dK kc')) := Same.up hp
      have cc := coinsR_c cr
      refine ⟨_, rfl, p, rfl, .inl ⟨kc', .inl upd_same⟩, _, rfl, valV kc' (Sum.inr n), .inl ⟨kc', Sum.inr n, .inl upd_same, rfl, rfl⟩, ?_⟩
      have eg : (valV kc' (Sum.inr n)).getD (V.int 0) = .int (gC (csW ws) n) := by
        rw [cc.val]
        unfold gC
        cases (csW ws).lookup n <;> rfl
      rw [eg]
      have lk : kc'.length = ws.length := Paired.length cr
      refine ⟨_, rfl, _, _, rfl, rfl, _, rfl, _, rfl, p, _, rfl, .inl ⟨kc', Sum.inr n, upd_same, rfl, sz (m := 60) (by rw [lk]; exact lw) (by decide), rfl⟩, ?_⟩
      have s4 : Same H2 (upd (upd H2 p (.dK kc')) p (.dK (putK kc' (Sum.inr n) (.int (gC (csW ws) n + i))))) := fun a o e => by
        have na : a ≠ p := fun z => by rw [z, hp] at e; cases e
        rw [upd_ne na, upd_ne na]
        exact e
      have hp4 : (upd (upd H2 p (.dK kc')) p (.dK (putK kc' (Sum.inr n) (.int (gC (csW ws) n + i))))) p = some (.dK (putK kc' (Sum.inr n) (.int (gC (csW ws) n + i)))) := upd_same
      generalize upd (upd H2 p (.dK kc')) p (.dK (putK kc' (Sum.inr n) (.int (gC (csW ws) n + i)))) = G at s4 hp4 ⊢
      have s5 := s12.trans s4
      refine ⟨_, rfl, _, rfl, x, _, dx, _, _, rfl, s5 _ _ h1, O.cl, O.nD, rfl, ?_⟩
      delta tNil
      dsimp only
      refine ok_debts hp4 (s5 _ _ h3) (cc.put n _) ((debD_r h5).mono (SeqsK.of s5)) g fun x' H' ys x0 s6 ny dr => q x' H' ys ?_ (s5.trans s6) ny dr
      cases e : H x' with
      | none => rfl
      | some o => rw [s5 _ _ e] at x0; cases x0
end
end K38

set_option Elab.async false
set_option linter.all false
set_option maxRecDepth 100000
set_option maxHeartbeats 4000000
namespace Sr
open PySem PySem.Spec PyProof.Rows L2
/-! ### == and != of two dicts whose values are plain data -/
def DcD (K : PySem.W.Frag) (H : Hp) (ks : List (Key × V)) (xs : List (Key × PyData)) : Prop := Paired (fun (kv : Key × V) (x : Key × PyData) => kv.1 = x.1 ∧ Dp K H kv.2 x.2 ∧ PyData.canLay0 x.2 = true ∧ PyData.depth x.2 ≤ 8) ks xs
def lookK (ys : List (Key × PyData)) (k : Key) : Option PyData := (ys.find? fun p => decide (p.1 = k)).map (·.2)
def hitK (ys : List (Key × PyData)) (p : Key × PyData) : Bool := match lookK ys p.1 with
  | some e => PyData.eqv p.2 e
  | none => false
def eqvK (xs ys : List (Key × PyData)) : Bool := xs.length == ys.length && xs.all (hitK ys)
theorem DcD.look {K : PySem.W.Frag} {H : Hp} {ks : List (Key × V)} {xs : List (Key × PyData)} (h : DcD K H ks xs) (k : Key) : (valV ks k = none ∧ lookK xs k = none) ∨ ∃ v d, valV ks k = some v ∧ lookK xs k = some d ∧ Dp K H v d ∧ PyData.canLay0 d = true ∧ PyData.depth d ≤ 8 := by
  unfold DcD at h
  induction h with
  | nil => exact .inl ⟨rfl, rfl⟩
  | @cons p x ps xs h t ih =>
    by_cases c : x.1 = k
    · exact .inr ⟨p.2, x.2, valV_pos (h.1.trans c), by simp [lookK, List.find?_cons, c], h.2⟩
    · have e1 := valV_neg (r := ps) (show ¬ p.1 = k from fun e => c (h.1.symm.trans e))
      have e2 : lookK (x :: xs) k = lookK xs k := by simp [lookK, List.find?_cons, c]
      rw [e1, e2]
      exact ih
theorem hits_dp {X : Cx} {pins : List (Addr × Obj)} {σ : L2.St} {H : Hp} {s : Shared} (I : Inv X pins σ H s) {A : Around} (hu : A.units + 8 < cLine) {ls : List (Key × V)} {ys : List (Key × PyData)} (dy : DcD X.K H ls ys) {vb : List (Key × Value)} (rb : KV ls vb) :
    ∀ {ks : List (Key × V)} {va : List (Key × Value)} {xs : List (Key × PyData)}, KV ks va → DcD X.K H ks xs → PySem.W.KeqHits A s vb va (xs.all (hitK ys)) := by
  intro ks va xs ra
  unfold KV at ra
  induction ra generalizing xs with
  | nil => intro h; cases h; exact .nil
  | @cons p q ps qs h t ih =>
    intro hd
    cases hd with
    | @cons _ x _ xs hx tx =>
      obtain ⟨h1, h2⟩ := h
      obtain ⟨k, v⟩ := q
      have h1' : p.1 = k := h1
      have ek : x.1 = k := hx.1.symm.trans h1'
      have rv := rb.val k
      rw [List.all_cons]
      rcases dy.look k with ⟨e1, e2⟩ | ⟨v', d, e1, e2, hd, cl, dp⟩
      · rw [e1] at rv
        have hn : valueAt vb k = none := by
          cases q : valueAt vb k with
          | none => rfl
          | some y => rw [q] at rv; exact rv.elim
        have hf : hitK ys x = false := by unfold hitK; rw [ek, e2]
        rw [hf, Bool.false_and]
        exact .miss hn
      · rw [e1] at rv
        obtain ⟨y, hy, ry⟩ := rv.some_of
        have hf : hitK ys x = PyData.eqv x.2 d := by unfold hitK; rw [ek, e2]
        rw [hf]
        obtain ⟨as, r1⟩ := Dp.reads I x.2 p.2 v hx.2.1 h2
        obtain ⟨bs, r2⟩ := Dp.reads I d v' y hd ry
        exact .hit hy (SeqAt.eqAt_reads x.2 d A s v y as bs r1 r2 hx.2.2.1 cl (by have := hx.2.2.2; omega)) (ih tx)
def rEqDc (K : PySem.W.Frag) : R2 := fun x y H Q => ∃ a b ks ls xs ys, x = .ref a ∧ y = .ref b ∧ H a = some (.dK ks) ∧ H b = some (.dK ls) ∧ DcD K H ks xs ∧ DcD K H ls ys ∧ Q (.bl (eqvK xs ys)) H
def rNeDc (K : PySem.W.Frag) : R2 := fun x y H Q => ∃ a b ks ls xs ys, x = .ref a ∧ y = .ref b ∧ H a = some (.dK ks) ∧ H b = some (.dK ls) ∧ DcD K H ks xs ∧ DcD K H ls ys ∧ Q (.bl (!eqvK xs ys)) H
theorem kv_len {ks : List (Key × V)} {va : List (Key × Value)} (h : KV ks va) : va.length = ks.length := h.length.symm
theorem op_eqDc {X : Cx} (hu : X.A.units + 64 < cLine) : OpR X (compareOp .Eq) (rEqDc X.K) := by
  intro pins s σ H x y v u Q I rx ry h
  obtain ⟨a, b, ks, ls, xs, ys, rfl, rfl, ea, eb, dx, dy, q⟩ := h
  cases rx
  cases ry
  obtain ⟨_, ya, va, ra, da⟩ := (show ObjOk X.prog X.w H s.heap a (.dK ks) from I.hok a _ ea)
  obtain ⟨_, yb, vb, rb, db⟩ := (show ObjOk X.prog X.w H s.heap b (.dK ls) from I.hok b _ eb)
  refine PySem.W.keq_eq (knd := mixKind X.prog X.w) ya yb da db (by omega) (fun _ => hits_dp I (by simp only [Around.in1_units]; omega) dy rb ra dx) (fin_bl I q ?_)
  rw [kv_len ra, kv_len rb, Paired.length dx, Paired.length dy]
  rfl
theorem op_neDc {X : Cx} (hu : X.A.units + 64 < cLine) : OpR X (compareOp .NotEq) (rNeDc X.K) := by
  intro pins s σ H x y v u Q I rx ry h
  obtain ⟨a, b, ks, ls, xs, ys, rfl, rfl, ea, eb, dx, dy, q⟩ := h
  cases rx
  cases ry
  obtain ⟨_, ya, va, ra, da⟩ := (show ObjOk X.prog X.w H s.heap a (.dK ks) from I.hok a _ ea)
  obtain ⟨_, yb, vb, rb, db⟩ := (show ObjOk X.prog X.w H s.heap b (.dK ls) from I.hok b _ eb)
  refine PySem.W.keq_ne (knd := mixKind X.prog X.w) ya yb da db (by omega) (fun _ => hits_dp I (by simp only [Around.in1_units]; omega) dy rb ra dx) (fin_bl I q ?_)
  rw [kv_len ra, kv_len rb, Paired.length dx, Paired.length dy]
  rfl
end Sr

set_option Elab.async false
set_option linter.all false
set_option maxRecDepth 100000
set_option maxHeartbeats 4000000
namespace Sr
open PySem PySem.Spec PyProof.Rows L2
/-! ### == by an own __eq__, a tuple on the right too -/
def EqRt3 (K : PySem.W.Frag) (C : Addr) (H : Hp) (y : V) : Prop := EqRt2 K C H y ∨ ∃ b xs, y = .ref b ∧ H b = some (.tup xs)
def rEqIns3 (K : PySem.W.Frag) (C : Addr) (sp : Sp) (E : XK) : R2 := fun x y H Q => ∃ a dx fs, x = .ref a ∧ H a = some (.ins C dx fs) ∧ EqRt3 K C H y ∧ sp [x, y] H Q E
section
variable {X : Cx} {pins : List (Addr × Obj)} {σ : L2.St} {H : Hp} {s : Shared}
theorem EqRt3.ty {C : Addr} {y : V} {u : Value} (I : L2.Inv X pins σ H s) (ry : L2.RelV y u) (h : EqRt3 X.K C H y) : ∃ tb, PySem.W.notFirst X.K C tb = true ∧ PySem.W.Looks (model X.prog X.w) s.heap (typeOf u) tb := by
  rcases h with h | ⟨b, xs, rfl, hb⟩
  · exact h.ty I ry
  · cases ry
    obtain ⟨its, _, ⟨o, ho, hc, _⟩, _⟩ := I.tuple (SqT.of (K := X.K) hb)
    refine ⟨.type "tuple", first_ty (l := [.type "tuple", .type "object"]) (by decide +kernel) (by first | rfl | simp), ?_⟩
    rw [← hc]
    exact (PySem.W.Looks.ld (part := none) ho).andThen .now
variable {CX : CXT} {k : Nat} {C f : Addr} {fd : FuncData} {ps : List Str} {sp : Sp} {E : XK}
theorem op_eqIns3 (F : FnOk X.prog X.w X.K X.mg X.base CX k f fd ps sp) (hr : Room k X.A) (hb : Binds X.K fd ps []) (hx : Passes CX X E) (hs : PySem.W.findIn X.K (.ref C) "__eq__" = some (some (.ref f))) (hf : PySem.W.isFn X.K (.ref f) = true) :
    OpR X (compareOp .Eq) (rEqIns3 X.K C sp E) := by
  intro pins s σ H x y v u Q I rx ry h
  obtain ⟨a, dx, fs, rfl, ha, hy, q⟩ := h
  cases rx
  obtain ⟨mA, J, _⟩ := ins_get I.hok ha
  obtain ⟨od, J, _⟩ := J.look
  obtain ⟨m, hF⟩ := I.fr
  obtain ⟨tb, hn, ht⟩ := hy.ty I ry
  show wpAny _ _ (richCompare .Eq (.ref a) u) _ _ _
  refine PySem.W.cmp_K (op := .Eq) (tb := tb) hr.units0 hF I.ok.mod.kin J ht hn hs hf ?_
  refine thn (run_fn (us := [.ref a, u]) (vs := [.ref a, y]) (dvs := []) (ds := []) F hr hb .nil hx I (.cons rfl (.cons ry .nil)) q) fun w s' z => ?_
  obtain ⟨z', H', I', rz, qz⟩ := z
  exact SlX.cmpback rz ⟨z', H', I', rz, qz⟩
end
theorem eq3_ {X : Cx} {K : PySem.W.Frag} {k j : Nat} {C f : Addr} {ps : List Str} {sp : Sp} (M : CalM X.prog X.w K X.mg X.base CX0 k f ps sp) (hK : X.K = K) (hr : Room j X.A) (hk : k ≤ j) (hs : PySem.W.findIn K (.ref C) "__eq__" = some (some (.ref f))) (hf : PySem.W.isFn K (.ref f) = true) :
    OpR X (compareOp .Eq) (rEqIns3 K C sp E0) := by
  subst hK
  obtain ⟨fd, F, kp, hb⟩ := M.ex
  exact op_eqIns3 F (hr.mono hk) hb pass0 hs hf
end Sr

set_option Elab.async false
set_option linter.all false
set_option maxRecDepth 100000
set_option maxHeartbeats 4000000
namespace K38
open PySem PySem.Spec PyProof.Rows L2 Sr
/-! ### what is kept, as plain data; == -/
def rowsD (rs : Rw) : List PyData := rs.map fun r => PyData.tuple [.str r.1, .int r.2]
theorem eqv_rowsD : ∀ rs rs' : Rw, PyData.eqvAll (rowsD rs) (rowsD rs') = decide (rs = rs')
  | [], [] => rfl
  | [], _ :: _ => rfl
  | _ :: _, [] => rfl
  | r :: t, r' :: t' => by
    have ih := eqv_rowsD t t'
    show (PyData.eqv (.tuple [.str r.1, .int r.2]) (.tuple [.str r'.1, .int r'.2]) && PyData.eqvAll (rowsD t) (rowsD t')) = _
    rw [ih]
    show (((r.1 == r'.1) && ((r.2 == r'.2) && true)) && decide (t = t')) = _
    obtain ⟨a, b⟩ := r
    obtain ⟨c, d⟩ := r'
    by_cases h1 : a = c
    · by_cases h2 : b = d
      · by_cases h3 : t = t'
        · simp [h1, h2, h3]
        · simp [h1, h2, h3]
      · simp [h1, h2]
    · simp [h1]
theorem lay_rowsD : ∀ rs : Rw, (∀ r ∈ rs, nameOk (.str r.1) = true) → PyData.canLayAll0 (rowsD rs) = true ∧ PyData.depthAll (rowsD rs) ≤ 1
  | [], _ => ⟨rfl, Nat.zero_le _⟩
  | r :: t, h => by
    obtain ⟨h1, h2⟩ := lay_rowsD t fun x m => h x (List.mem_cons_of_mem _ m)
    have hn := name_lay (h r List.mem_cons_self)
    refine ⟨?_, ?_⟩
    · show ((PyData.canLay0 (.str r.1) && (true && true)) && PyData.canLayAll0 (rowsD t)) = true
      rw [hn, h1]
      rfl
    · show max 1 (PyData.depthAll (rowsD t)) ≤ 1
      omega
def mapD (f : Mb → PyData) (ws : List Mb) : List (Key × PyData) := ws.map fun m => (Sum.inr m.1, f m)
abbrev coinD (m : Mb) : PyData := .int m.2.1
abbrev debtD (m : Mb) : PyData := .list (rowsD m.2.2)
theorem dp_rows {K : PySem.W.Frag} {H : Hp} : ∀ {us : List V} {rs : Rw}, Paired (RowAt H) us rs → DpAll K H us (rowsD rs)
  | _, _, .nil => .nil
  | _, _, .cons ⟨t, e, h⟩ p => by
    rw [e]
    exact .cons (.tup (SqT.of h) (.cons (.str _) (.cons (.int _) .nil))) (dp_rows p)
theorem dcd_coins {K : PySem.W.Frag} {H : Hp} {kc : List (Key × V)} {ws : List Mb} (h : CoinsR kc ws) : DcD K H kc (mapD coinD ws) :=
  pmap (f := fun m : Mb => ((Sum.inr m.1, coinD m) : Key × PyData)) (fun kv m h => ⟨h.1, by rw [h.2]; exact .int _, rfl, Nat.zero_le _⟩) h
theorem dcd_debts {K : PySem.W.Frag} {H : Hp} {kd : List (Key × V)} {ws : List Mb} (h : DebD H kd ws) (g : ∀ m ∈ ws, mbG m) : DcD K H kd (mapD debtD ws) := by
  unfold DebD at h
  induction h with
  | nil => exact .nil
  | @cons kv m kd ws h t ih =>
    refine .cons ⟨h.1, ?_, ?_⟩ (ih fun m' mm => g m' (List.mem_cons_of_mem _ mm))
    · obtain ⟨l, us, e, hl, pr⟩ := h.2
      rw [e]
      exact .lst (SqL.of hl) (dp_rows pr)
    · obtain ⟨h1, h2⟩ := lay_rowsD m.2.2 (g m List.mem_cons_self).2.2
      exact ⟨h1, by show PyData.depthAll (rowsD m.2.2) + 1 ≤ 8; omega⟩
theorem look_map {f : Mb → PyData} : ∀ {ws : List Mb} {m : Mb}, (ws.map (·.1)).Nodup → m ∈ ws → lookK (mapD f ws) (Sum.inr m.1) = some (f m)
  | w :: r, m, nd, mm => by
    rw [List.map_cons] at nd
    obtain ⟨n1, n2⟩ := List.nodup_cons.mp nd
    rcases List.mem_cons.mp mm with rfl | mm
    · simp [lookK, mapD]
    · have ne : ¬ w.1 = m.1 := fun e => n1 (by rw [e]; exact List.mem_map.mpr ⟨m, mm, rfl⟩)
      have ih := look_map (f := f) n2 mm
      unfold lookK mapD at ih ⊢
      rw [List.map_cons, List.find?_cons, decide_eq_false (fun e => ne (Sum.inr.inj e))]
      exact ih
theorem look_none {f : Mb → PyData} {ws : List Mb} {s : Str} (h : s ∉ ws.map (·.1)) : lookK (mapD f ws) (Sum.inr s) = none := by
  unfold lookK mapD
  rw [List.find?_eq_none.mpr fun p mp e => ?_]
  · rfl
  · obtain ⟨m, mm, rfl⟩ := List.mem_map.mp mp
    exact h (List.mem_map.mpr ⟨m, mm, Sum.inr.inj (of_decide_eq_true e)⟩)
theorem nodup_same : ∀ {xs ys : List Str}, xs.Nodup → (∀ s ∈ xs, s ∈ ys) → xs.length = ys.length → ∀ s ∈ ys, s ∈ xs := by
  intro xs ys nx h l s ms
  by_cases c : s ∈ xs
  · exact c
  · have := nodup_len (xs := ys.erase s) nx fun z m => (List.mem_erase_of_ne (fun (e : z = s) => c (by rw [← e]; exact m))).mpr (h z m)
    have l2 := List.length_erase_of_mem ms
    have pos : 0 < ys.length := List.length_pos_of_mem ms
    omega
theorem eqvK_names {f : Mb → PyData} {ws ws' : List Mb} (nd : (ws.map (·.1)).Nodup) (nd' : (ws'.map (·.1)).Nodup) (so : PyProof.Rows.sortedS (ws.map (·.1)) = true) (so' : PyProof.Rows.sortedS (ws'.map (·.1)) = true) (h : eqvK (mapD f ws) (mapD f ws') = true) :
    ws.map (·.1) = ws'.map (·.1) ∧ ∀ m ∈ ws, ∀ m' ∈ ws', m.1 = m'.1 → PyData.eqv (f m) (f m') = true := by
  obtain ⟨h1, h2⟩ := Bool.and_eq_true_iff.mp h
  have hl : ws.length = ws'.length := by
    have := beq_iff_eq.mp h1
    unfold mapD at this
    rwa [List.length_map, List.length_map] at this
  have hits : ∀ m ∈ ws, hitK (mapD f ws') (Sum.inr m.1, f m) = true := fun m mm => List.all_eq_true.mp h2 _ (List.mem_map.mpr ⟨m, mm, rfl⟩)
  have sub : ∀ s ∈ ws.map (·.1), s ∈ ws'.map (·.1) := fun s ms => by
    obtain ⟨m, mm, rfl⟩ := List.mem_map.mp ms
    have := hits m mm
    by_cases c : m.1 ∈ ws'.map (·.1)
    · exact c
    · unfold hitK at this
      rw [look_none c] at this
      cases this
  have back := nodup_same nd sub (by rw [List.length_map, List.length_map, hl])
  have p : (ws.map (·.1)).Perm (ws'.map (·.1)) := (List.perm_ext_iff_of_nodup nd nd').mpr fun s => ⟨sub s, back s⟩
  refine ⟨sorted_one p (List.Perm.refl _) so so', fun m mm m' mm' e => ?_⟩
  have := hits m mm
  unfold hitK at this
  rw [show (Sum.inr m.1 : Key) = Sum.inr m'.1 by rw [e], look_map nd' mm'] at this
  exact this
theorem eqvK_self {f : Mb → PyData} (hf : ∀ m, PyData.eqv (f m) (f m) = true) {ws : List Mb} (nd : (ws.map (·.1)).Nodup) : eqvK (mapD f ws) (mapD f ws) = true := by
  unfold eqvK
  rw [beq_self_eq_true, Bool.true_and, List.all_eq_true]
  intro p mp
  obtain ⟨m, mm, rfl⟩ := List.mem_map.mp mp
  unfold hitK
  rw [look_map nd mm]
  exact hf m
theorem debt_self (m : Mb) : PyData.eqv (debtD m) (debtD m) = true := by
  show PyData.eqvAll (rowsD m.2.2) (rowsD m.2.2) = true
  rw [eqv_rowsD]
  exact decide_eq_true rfl
theorem coin_self (m : Mb) : PyData.eqv (coinD m) (coinD m) = true := by
  show (m.2.1 == m.2.1) = true
  exact beq_self_eq_true _
theorem eq_ws {ws ws' : List Mb} (nd : (ws.map (·.1)).Nodup) (nd' : (ws'.map (·.1)).Nodup) (so : PyProof.Rows.sortedS (ws.map (·.1)) = true) (so' : PyProof.Rows.sortedS (ws'.map (·.1)) = true) :
    (eqvK (mapD coinD ws) (mapD coinD ws') && eqvK (mapD debtD ws) (mapD debtD ws')) = decide (ws = ws') := by
  by_cases c : ws = ws'
  · subst c
    rw [decide_eq_true rfl, eqvK_self coin_self nd, eqvK_self debt_self nd]
    rfl
  · rw [decide_eq_false c]
    cases h : (eqvK (mapD coinD ws) (mapD coinD ws') && eqvK (mapD debtD ws) (mapD debtD ws')) with
    | false => rfl
    | true =>
      obtain ⟨h1, h2⟩ := Bool.and_eq_true_iff.mp h
      obtain ⟨e1, v1⟩ := eqvK_names nd nd' so so' h1
      obtain ⟨_, v2⟩ := eqvK_names nd nd' so so' h2
      refine absurd (List.ext_getElem? fun i => ?_) c
      have ei := congrArg (fun l : List Str => l[i]?) e1
      simp only [List.getElem?_map] at ei
      cases a : ws[i]? with
      | none =>
        rw [a] at ei
        cases b : ws'[i]? with
        | none => rfl
        | some m' => rw [b] at ei; cases ei
      | some m =>
        rw [a] at ei
        cases b : ws'[i]? with
        | none => rw [b] at ei; cases ei
        | some m' =>
          rw [b] at ei
          have en : m.1 = m'.1 := Option.some.inj ei
          have ma := List.mem_of_getElem? a
          have mb := List.mem_of_getElem? b
          have q1 : (m.2.1 == m'.2.1) = true := v1 m ma m' mb en
          have q2 : PyData.eqvAll (rowsD m.2.2) (rowsD m'.2.2) = true := v2 m ma m' mb en
          rw [eqv_rowsD] at q2
          obtain ⟨n, c1, r1⟩ := m
          obtain ⟨n', c2, r2⟩ := m'
          simp only at en q1 q2
          rw [en, beq_iff_eq.mp q1, of_decide_eq_true q2]
structure DbN (K : PySem.W.Frag) (mg : Str → Option Value) : Prop where
  nm : mg "Debts" = some (.ref (He.ga K "Debts"))
  ca : PySem.W.findIn K (.ref (He.ga K "Debts")) "__class__" = some (some (.builtin "object.__class__"))
  cn : PySem.W.specialIn K (.builtin "object.__class__") "__get__" = some (some (.builtin "getset_descriptor.__get__"))
  ct : PySem.W.takesIn K (.builtin "object.__class__") = some true
  cm : PySem.W.mroIn K (He.ga K "Debts") (.type "object") = some true
  yes : PySem.W.kitOne K (.ref (He.ga K "Debts")) (.ref (He.ga K "Debts")) = some true
  noT : PySem.W.kitOne K (.type "tuple") (.ref (He.ga K "Debts")) = some false
theorem DbN.e {X : Cx} {p : Pos} (N : DbN X.K X.mg) (h : Gl X "Debts" := by rfl) : PE X (.Name "Debts" p) (tC (.ref (He.ga X.K "Debts"))) := pe_glob h N.nm rfl
theorem DebR.rt {K : PySem.W.Frag} {H : Hp} {x : Addr} {ws : List Mb} (o : DebR K H x ws) : EqRt3 K (He.ga K "Debts") H (.ref x) := by
  obtain ⟨dx, c, d, kc, kd, h1, _⟩ := o
  exact .inl (.inl (.inl ⟨x, _, dx, _, rfl, h1, first_self⟩))
theorem DebR.nd {K : PySem.W.Frag} {H : Hp} {x : Addr} {ws : List Mb} (o : DebR K H x ws) : (ws.map (·.1)).Nodup := by
  obtain ⟨dx, c, d, kc, kd, h1, h2, h3, h4, h5, h6, _⟩ := o
  exact h6
def spEq (K : PySem.W.Frag) : Sp := fun vs H Q _ => ∃ x y ws, vs = [.ref x, y] ∧ DebR K H x ws ∧ PyProof.Rows.sortedS (ws.map (·.1)) = true ∧
  ((∃ b xs, y = .ref b ∧ H b = some (.tup xs) ∧ Q (.bl false) H) ∨ ∃ b ws', y = .ref b ∧ DebR K H b ws' ∧ PyProof.Rows.sortedS (ws'.map (·.1)) = true ∧ Q (.bl (decide (ws = ws'))) H)
section
variable {P : Program} {w : World} {K : PySem.W.Frag} {mg : Str → Option Value} {base : Heap}
abbrev s_Debts___eq__ : Stmt := inClass (top 14) 7
theorem sc_Debts___eq__ : FnScope ["self", "other"] ["self", "other"] (defScope s_Debts___eq__) := ⟨rfl, rfl, rfl, by decide +kernel, rfl, by decide +kernel, by decide +kernel⟩
theorem m_eq (T : Txt K mg) (O : Deb K mg) (N : DbN K mg) (D : DfnM K "Debts" "__eq__" "Debts.__eq__" s_Debts___eq__) : CalM P w K mg base CX0 1 (He.fAd K ("Debts", some "__eq__")) ["self", "other"] (spEq K) := by
  refine D.cal sc_Debts___eq__ (fun _ _ _ _ _ _ us hl => match us, hl with | [_, _], _ => rfl) (fun vs H Q E h => ?_) fun cdv A outer s H vs Q E hr h => ?_
  · obtain ⟨x, y, ws, rfl, _⟩ := h
    rfl
  obtain ⟨x, y, ws, rfl, hx, so, h⟩ := h
  obtain ⟨dx, c, d, kc, kd, h1, h2, h3, h4, h5, nd, lw, h7⟩ := id hx
  refine ⟨_, (pss_one (ps_ret (pe_and (pe_callB (id := "isinstance") call_isi (by rfl) T.isinstance (by decide +kernel) (pa_cons (pv 1) (pa_cons (N.e (by rfl)) pa_nil))) (pe_and (pe_cmpR (op_eqDc hr.units) (pe_fld (pv 0) rfl) (pe_fld (pv 1) rfl) (nomark _)) (pe_one (pe_cmpR (op_eqDc hr.units) (pe_fld (pv 0) rfl) (pe_fld (pv 1) rfl) (nomark _))))))), ?_⟩
  rcases h with ⟨b, xs, rfl, hb, q⟩ | ⟨b, ws', rfl, hy, so', q⟩
  · exact ⟨_, rfl, _, _, _, _, _, rfl, .own _, .base (.tup hb), N.noT, _, rfl, iteF q⟩
  · obtain ⟨dx', c', d', kc', kd', g1, g2, g3, g4, g5, nd', lw', g7⟩ := id hy
    refine ⟨_, rfl, _, _, _, _, _, rfl, .own _, .base (.ins g1 O.cl N.ca N.cn N.ct N.cm), N.yes, _, rfl, iteT ?_⟩
    have e := eq_ws nd nd' so so'
    refine ⟨_, rfl, x, _, dx, _, _, rfl, h1, O.cl, O.nC, rfl, _, rfl, b, _, dx', _, _, rfl, g1, O.cl, O.nC, rfl, c, c', kc, kc', _, _, rfl, rfl, h2, g2, dcd_coins h4, dcd_coins g4, _, rfl, ?_⟩
    cases e1 : eqvK (mapD coinD ws) (mapD coinD ws') with
    | false =>
      rw [e1, Bool.false_and] at e
      rw [← e] at q
      exact iteF q
    | true =>
      rw [e1, Bool.true_and] at e
      rw [← e] at q
      exact iteT ⟨_, rfl, x, _, dx, _, _, rfl, h1, O.cl, O.nD, rfl, _, rfl, b, _, dx', _, _, rfl, g1, O.cl, O.nD, rfl, d, d', kd, kd', _, _, rfl, rfl, h3, g3, dcd_debts h5 h7, dcd_debts g5 g7, q⟩
end
end K38

set_option Elab.async false
set_option linter.all false
set_option maxRecDepth 100000
set_option maxHeartbeats 4000000
namespace K38
open PySem PySem.Spec PyProof.Rows L2 Sr
/-! ### the law's drawn worlds -/
def DebA (H : Hp) (kd : List (Key × V)) (ds : Db) : Prop := Paired (fun (kv : Key × V) (p : Str × Rw) => kv.1 = Sum.inr p.1 ∧ RowsAt H kv.2 p.2) kd ds
theorem DebA.mono {H H' : Hp} (s : Same H H') {kd : List (Key × V)} {ds : Db} (h : DebA H kd ds) : DebA H' kd ds := L2.Paired.mapP h fun _ _ h => ⟨h.1, h.2.mono s⟩
theorem DebA.seqs {H H' : Hp} (s : SeqsK H H') {kd : List (Key × V)} {ds : Db} (h : DebA H kd ds) : DebA H' kd ds := L2.Paired.mapP h fun _ _ h => ⟨h.1, h.2.seqs s⟩
theorem DebA.r {H : Hp} {kd : List (Key × V)} {ds : Db} (h : DebA H kd ds) : DebtsR H kd ds := L2.Paired.mapP h fun _ _ h => ⟨h.1, h.2.v⟩
/-- a world: its coins and its debts -/
def WorldR (H : Hp) (v : V) (cs : Cn) (ds : Db) : Prop := ∃ t c d kc kd, v = .ref t ∧ H t = some (.tup [.ref c, .ref d]) ∧ H c = some (.dK kc) ∧ CoinsC kc cs ∧ H d = some (.dK kd) ∧ DebA H kd ds
theorem WorldR.mono {H H' : Hp} (s : Same H H') {v : V} {cs : Cn} {ds : Db} (h : WorldR H v cs ds) : WorldR H' v cs ds := by
  obtain ⟨t, c, d, kc, kd, e, h1, h2, h3, h4, h5⟩ := h
  exact ⟨t, c, d, kc, kd, e, s _ _ h1, s _ _ h2, h3, s _ _ h4, h5.mono s⟩
def names3 : List Str := ["ann", "bob", "cy"]
def rowsW (m : Str) (rs : Rw) : Prop := rs.length ≤ 3 ∧ ∀ r ∈ rs, r.1 ∈ names3 ∧ r.1 ≠ m ∧ 1 ≤ r.2 ∧ r.2 ≤ 4
structure Drawn (cs : Cn) (ds : Db) : Prop where
  cn : (cs.map (·.1)).Nodup
  dn : (ds.map (·.1)).Nodup
  co : ∀ p ∈ cs, p.1 ∈ names3 ∧ 0 ≤ p.2 ∧ p.2 < 4
  de : ∀ p ∈ ds, p.1 ∈ names3 ∧ rowsW p.1 p.2
theorem names3_ok : ∀ s ∈ names3, nameOk (.str s) = true := by decide +kernel
theorem names3_small : ∀ s ∈ names3, s.length ≤ 1000 := by decide +kernel
theorem toldN_le {ds : Db} (h : ∀ p ∈ ds, p.2.length ≤ 3) : (toldN ds).length ≤ 3 * ds.length := by
  induction ds with
  | nil => exact Nat.zero_le _
  | cons p r ih =>
    have := h p List.mem_cons_self
    have h2 := ih fun q m => h q (List.mem_cons_of_mem _ m)
    show (p.2.map (·.1) ++ toldN r).length ≤ _
    rw [List.length_append, List.length_map, List.length_cons]
    omega
theorem Drawn.lens {cs : Cn} {ds : Db} (g : Drawn cs ds) : cs.length ≤ 3 ∧ ds.length ≤ 3 ∧ (toldN ds).length ≤ 9 := by
  have h1 := nodup_len g.cn fun s m => by
    obtain ⟨p, mp, rfl⟩ := List.mem_map.mp m
    exact (g.co p mp).1
  have h2 := nodup_len g.dn fun s m => by
    obtain ⟨p, mp, rfl⟩ := List.mem_map.mp m
    exact (g.de p mp).1
  have h3 := toldN_le fun p mp => (g.de p mp).2.1
  rw [List.length_map] at h1 h2
  have : names3.length = 3 := rfl
  omega
theorem Drawn.good {cs : Cn} {ds : Db} (g : Drawn cs ds) : Good cs ds := by
  obtain ⟨l1, l2, l3⟩ := g.lens
  refine ⟨g.cn, g.dn, ?_, fun p m => ⟨names3_ok _ (g.co p m).1, (g.co p m).2.1⟩, fun p m => ⟨names3_ok _ (g.de p m).1, fun r mr => ?_⟩⟩
  · unfold allN
    rw [List.length_append, List.length_append, List.length_map, List.length_map]
    omega
  · obtain ⟨a, b, c, d⟩ := (g.de p m).2.2 r mr
    exact ⟨names3_ok _ a, b, c⟩
def ns2 : List Str := ["ann", "bob"]
def nsW (ns : List Str) : Prop := ns = ns2 ∨ ns = names3
theorem nsW.ok {ns : List Str} (h : nsW ns) : ns.Nodup ∧ (∀ s ∈ ns, s ∈ names3) ∧ 2 ≤ ns.length ∧ ns.length ≤ 3 := by
  rcases h with rfl | rfl <;> decide +kernel
/-- under way: the names, the two dicts -/
structure Wst (H0 : Hp) (a wl c d : Addr) (ns : List Str) (H' : Hp) (k : Nat) (cs : Cn) (ds : Db) : Prop where
  dr : DnAt k H' a
  sm : Same (rm H0 a) (rm H' a)
  nw : (rm H' a) wl = some (.lst (ns.map V.str))
  co : ∃ kc, (rm H' a) c = some (.dK kc) ∧ CoinsC kc cs
  de : ∃ kd, (rm H' a) d = some (.dK kd) ∧ DebA (rm H' a) kd ds
theorem Wst.grow {H0 : Hp} {a wl c d : Addr} {ns : List Str} {H' H'' : Hp} {k k' : Nat} {cs : Cn} {ds : Db} (h : Wst H0 a wl c d ns H' k cs ds) (dr : DnAt k' H'' a) (s : Same (rm H' a) (rm H'' a)) : Wst H0 a wl c d ns H'' k' cs ds :=
  let ⟨_, sm, nw, ⟨kc, c1, c2⟩, kd, d1, d2⟩ := h
  ⟨dr, sm.trans s, s _ _ nw, ⟨kc, s _ _ c1, c2⟩, kd, s _ _ d1, d2.mono s⟩
theorem rm_dif {H : Hp} {a b : Addr} {o : HO} (h : (rm H a) b = some o) : b ≠ a := fun z => by rw [z, rm_at] at h; cases h
theorem rm_set {H : Hp} {a b : Addr} {o : HO} (n : b ≠ a) : rm (upd H b o) a = upd (rm H a) b o := by
  funext x
  by_cases c1 : x = a
  · rw [c1, rm_at, upd_ne n.symm, rm_at]
  · rw [rm_ne c1]
    by_cases c2 : x = b
    · rw [c2, upd_same, upd_same]
    · rw [upd_ne c2, upd_ne c2, rm_ne c1]
theorem names_out {α : Type} {F : V → α → Prop} {kv : List (Key × V)} {l : List (Str × α)} (h : Paired (fun (kv : Key × V) (p : Str × α) => kv.1 = Sum.inr p.1 ∧ F kv.2 p.2) kv l) {n : Str} (hn : n ∉ l.map (·.1)) : (Sum.inr n : Key) ∉ kv.map (·.1) := by
  rw [(keys_names h).2]
  intro m
  obtain ⟨p, mp, e⟩ := List.mem_map.mp m
  exact hn (List.mem_map.mpr ⟨p, mp, Sum.inr.inj e⟩)
theorem Wst.putC {H0 : Hp} {a wl c d : Addr} {ns : List Str} {H' : Hp} {k : Nat} {cs : Cn} {ds : Db} (h : Wst H0 a wl c d ns H' k cs ds) (c0 : (rm H0 a) c = none) (ncd : d ≠ c) {n : Str} {z : Int} (hn : n ∉ cs.map (·.1)) {kc : List (Key × V)} (hk : H' c = some (.dK kc)) :
    Wst H0 a wl c d ns (upd H' c (.dK (putK kc (Sum.inr n) (.int z)))) k (cs ++ [(n, z)]) ds := by
  obtain ⟨dr, sm, nw, ⟨kc', c1, c2⟩, kd, d1, d2⟩ := h
  have na := rm_dif c1
  rw [rm_ne na, hk] at c1
  obtain rfl : kc = kc' := by cases c1; rfl
  have out := names_out (F := fun v i => v = V.int i) c2 hn
  have cr : (rm H' a) c = some (.dK kc) := by rw [rm_ne na]; exact hk
  refine ⟨dr.set na, same_set sm c0, ?_, ⟨putK kc (Sum.inr n) (.int z), ?_, ?_⟩, kd, ?_, ?_⟩
  · rw [rm_set na, upd_ne (ne_of nw cr (by intro z; cases z))]; exact nw
  · rw [rm_set na, upd_same]
  · rw [putK_new out]; exact Paired.snoc (F := fun (kv : Key × V) (p : Str × Int) => kv.1 = Sum.inr p.1 ∧ kv.2 = .int p.2) ⟨rfl, rfl⟩ c2
  · rw [rm_set na, upd_ne ncd]; exact d1
  · rw [rm_set na]; exact d2.seqs (SeqsK.frz cr)
theorem Wst.putD {H0 : Hp} {a wl c d : Addr} {ns : List Str} {H' : Hp} {k : Nat} {cs : Cn} {ds : Db} (h : Wst H0 a wl c d ns H' k cs ds) (d0 : (rm H0 a) d = none) (ncd : d ≠ c) {n : Str} {v : V} {rs : Rw} (hn : n ∉ ds.map (·.1)) (hv : RowsAt (rm H' a) v rs) {kd : List (Key × V)} (hk : H' d = some (.dK kd)) :
    Wst H0 a wl c d ns (upd H' d (.dK (putK kd (Sum.inr n) v))) k cs (ds ++ [(n, rs)]) := by
  obtain ⟨dr, sm, nw, ⟨kc, c1, c2⟩, kd', d1, d2⟩ := h
  have na := rm_dif d1
  rw [rm_ne na, hk] at d1
  obtain rfl : kd = kd' := by cases d1; rfl
  have out := names_out (F := fun v rs => RowsAt (rm H' a) v rs) d2 hn
  have cr : (rm H' a) d = some (.dK kd) := by rw [rm_ne na]; exact hk
  have e2 : DebA (rm H' a) (kd ++ [(Sum.inr n, v)]) (ds ++ [(n, rs)]) := Paired.snoc (F := fun (kv : Key × V) (p : Str × Rw) => kv.1 = Sum.inr p.1 ∧ RowsAt (rm H' a) kv.2 p.2) ⟨rfl, hv⟩ d2
  refine ⟨dr.set na, same_set sm d0, ?_, ⟨kc, ?_, c2⟩, putK kd (Sum.inr n) v, ?_, ?_⟩
  · rw [rm_set na, upd_ne (ne_of nw cr (by intro z; cases z))]; exact nw
  · rw [rm_set na, upd_ne ncd.symm]; exact c1
  · rw [rm_set na, upd_same]
  · rw [rm_set na, putK_new out]; exact e2.seqs (SeqsK.frz cr)
structure PartC (ns : List Str) (i : Nat) (cs : Cn) : Prop where
  cn : (cs.map (·.1)).Nodup
  co : ∀ p ∈ cs, p.1 ∈ ns.take i ∧ 0 ≤ p.2 ∧ p.2 < 4
structure PartD (ns : List Str) (i : Nat) (ds : Db) : Prop where
  dn : (ds.map (·.1)).Nodup
  de : ∀ p ∈ ds, p.1 ∈ ns.take i ∧ rowsW p.1 p.2
def Part (ns : List Str) (i : Nat) (cs : Cn) (ds : Db) : Prop := PartC ns i cs ∧ PartD ns i ds
theorem Part.nil {ns : List Str} : Part ns 0 [] [] := ⟨⟨List.nodup_nil, fun p m => by cases m⟩, List.nodup_nil, fun p m => by cases m⟩
theorem take_out {ns : List Str} {i : Nat} {s : Str} (nd : ns.Nodup) (h : ns[i]? = some s) : s ∉ ns.take i := fun m => by
  obtain ⟨j, hj, e⟩ := List.mem_take_iff_getElem.mp m
  have lt := (List.getElem?_eq_some_iff.mp h).1
  have := (List.getElem?_eq_some_iff.mp h).2
  exact (List.pairwise_iff_getElem.mp nd) j i (by omega) lt (by omega) (e.trans this.symm)
theorem take_up {ns : List Str} {i : Nat} {s : Str} (m : s ∈ ns.take i) : s ∈ ns.take (i + 1) := (List.take_subset_take_left ns (Nat.le_succ i)) m
theorem take_at' {ns : List Str} {i : Nat} {s : Str} (h : ns[i]? = some s) : s ∈ ns.take (i + 1) := by
  rw [List.take_add_one, h]
  exact List.mem_append_right _ List.mem_cons_self
theorem PartC.up {ns : List Str} {i : Nat} {cs : Cn} (h : PartC ns i cs) : PartC ns (i + 1) cs := ⟨h.cn, fun p m => ⟨take_up (h.co p m).1, (h.co p m).2⟩⟩
theorem PartD.up {ns : List Str} {i : Nat} {ds : Db} (h : PartD ns i ds) : PartD ns (i + 1) ds := ⟨h.dn, fun p m => ⟨take_up (h.de p m).1, (h.de p m).2⟩⟩
theorem PartC.out {ns : List Str} {i : Nat} {s : Str} {cs : Cn} (nd : ns.Nodup) (hs : ns[i]? = some s) (h : PartC ns i cs) : s ∉ cs.map (·.1) := fun m => by
  obtain ⟨p, mp, e⟩ := List.mem_map.mp m
  exact take_out nd hs (by rw [← e]; exact (h.co p mp).1)
theorem PartD.out {ns : List Str} {i : Nat} {s : Str} {ds : Db} (nd : ns.Nodup) (hs : ns[i]? = some s) (h : PartD ns i ds) : s ∉ ds.map (·.1) := fun m => by
  obtain ⟨p, mp, e⟩ := List.mem_map.mp m
  exact take_out nd hs (by rw [← e]; exact (h.de p mp).1)
theorem nd_snoc {α : Type} {l : List (Str × α)} {p : Str × α} (nd : (l.map (·.1)).Nodup) (h : p.1 ∉ l.map (·.1)) : ((l ++ [p]).map (·.1)).Nodup := by
  rw [List.map_append]
  refine List.nodup_append.mpr ⟨nd, List.nodup_cons.mpr ⟨List.not_mem_nil, List.nodup_nil⟩, fun x m y my e => h ?_⟩
  have e2 : y = p.1 := List.mem_singleton.mp my
  rw [← e2, ← e]
  exact m
theorem RowAt.lst {H : Hp} {l : Addr} {xs : List V} {o : HO} (h : H l = some (.lst xs)) {v : V} {r : Str × Int} (x : RowAt H v r) : RowAt (upd H l o) v r := by
  obtain ⟨t, e, ht⟩ := x
  exact ⟨t, e, by rw [upd_ne (ne_of ht h (by intro z; cases z))]; exact ht⟩
theorem shaped_rowsD {rs : Rw} (h : ∀ r ∈ rs, nameOk (.str r.1) = true) : SeqAt.shaped (.list (rowsD rs)) = true := by
  obtain ⟨h1, h2⟩ := lay_rowsD rs h
  have hd : PyData.depth (.list (rowsD rs)) ≤ 64 := by
    show PyData.depthAll (rowsD rs) + 1 ≤ 64
    omega
  unfold SeqAt.shaped
  rw [decide_eq_true hd, Bool.and_true]
  exact h1
theorem others_ok {ns : List Str} (h : nsW ns) : ∀ s ∈ ns, 1 ≤ (ns.filter fun z => !decide (V.str z = V.str s)).length := by
  rcases h with rfl | rfl <;> decide +kernel
theorem Wst.draw {H0 : Hp} {a wl c d : Addr} {ns : List Str} {H' : Hp} {k : Nat} {cs : Cn} {ds : Db} {o : HO} (h : Wst H0 a wl c d ns H' k cs ds) (ho : DrN (k + 1) o) : Wst H0 a wl c d ns (upd H' a o) (k + 1) cs ds := h.grow (DnAt.put ho) rm_put
theorem PartC.snoc {ns : List Str} {i : Nat} {s : Str} {cs : Cn} (nd : ns.Nodup) (hs : ns[i]? = some s) (h : PartC ns i cs) {z : Int} (z0 : 0 ≤ z) (z1 : z < 4) : PartC ns (i + 1) (cs ++ [(s, z)]) :=
  ⟨nd_snoc h.cn (h.out nd hs), fun p m => by
    rcases List.mem_append.mp m with m | m
    · exact h.up.co p m
    · rw [List.mem_singleton.mp m]; exact ⟨take_at' hs, z0, z1⟩⟩
theorem PartD.snoc {ns : List Str} {i : Nat} {s : Str} {ds : Db} (nd : ns.Nodup) (hs : ns[i]? = some s) (h : PartD ns i ds) {rs : Rw} (hr : rowsW s rs) : PartD ns (i + 1) (ds ++ [(s, rs)]) :=
  ⟨nd_snoc h.dn (h.out nd hs), fun p m => by
    rcases List.mem_append.mp m with m | m
    · exact h.up.de p m
    · rw [List.mem_singleton.mp m]; exact ⟨take_at' hs, hr⟩⟩
def spWorld : Sp := fun vs H Q _ => ∃ (a : Addr) (n : Nat), vs = [.ref a, .int 3, .int 4] ∧ DnAt n H a ∧ n ≤ 1000000 ∧ ∀ v H' cs ds, DnAt (n + 40) H' a → Same (rm H a) (rm H' a) → WorldR (rm H' a) v cs ds → Drawn cs ds → Q v H'
section
variable {P : Program} {w : World} {K : PySem.W.Frag} {mg : Str → Option Value} {base : Heap}
abbrev s__law_world : Stmt := top 24
theorem sc__law_world : FnScope ["stream", "most", "greatest", "names", "name", "coins", "debts", "k", "others", "rows", "other"] ["stream", "most", "greatest"] (defScope s__law_world) := ⟨rfl, rfl, rfl, by decide +kernel, rfl, by decide +kernel, by decide +kernel⟩
theorem c__law_world (T : Txt K mg) (D : Dfn K mg "_law_world" s__law_world) (C_law_draw : Cal P w K mg base 1 "_law_draw" ["stream", "many"] spDraw) (C_law_pick : Cal P w K mg base 2 "_law_pick" ["stream", "things"] (spPick K)) :
    Cal P w K mg base 3 "_law_world" ["stream", "most", "greatest"] spWorld := by
  refine D.cal sc__law_world (fun _ _ _ _ _ _ us hl => match us, hl with | [_, _, _], _ => rfl) (fun vs H Q E h => ?_) fun cdv A outer s H vs Q E hr h => ?_
  · obtain ⟨a, n, rfl, _⟩ := h
    rfl
  obtain ⟨a, n, rfl, hd, hb, q⟩ := h
  refine ⟨_, (pss_cons (ps_set (i := 3) sc__law_world.nd rfl (by first | exact Or.inl rfl | exact Or.inr rfl) (pe_slice sl_list (pe_lst (pa_cons pe_str (pa_cons pe_str (pa_cons pe_str (pa_cons pe_str pa_nil))))) po_none (po_some (pe_op op_add pe_int (pe_cal C_law_draw hr (by first | decide | omega) (by rfl) (pa_cons (pv 0) (pa_cons (pe_op op_sub (pv 1) pe_int) pa_nil)))))))
      (pss_cons (ps_par (i := 5) (j := 6) (by rfl) sc__law_world.nd rfl rfl (by decide) rfl rfl (pa_cons pe_dnewK (pa_cons pe_dnewK pa_nil)) (by rfl))
      (pss_cons (ps_for PassesOwn.never rfl (pi_list (pv 3)) (pg_name (i := 4) sc__law_world.nd rfl (by first | exact Or.inl rfl | exact Or.inr rfl))
      (pss_cons (ps_if (pt_cmpR op_eq (pe_cal C_law_draw hr (by first | decide | omega) (by rfl) (pa_cons (pv 0) (pa_cons pe_int pa_nil))) pe_int (nomark _)) (pss_one (ps_dput (hu_of hr) (pv 5) (pv 4) (pe_cal C_law_draw hr (by first | decide | omega) (by rfl) (pa_cons (pv 0) (pa_cons pe_int pa_nil))) rfl)) pss_nil)
      (pss_cons (ps_par (i := 8) (j := 9) (by rfl) sc__law_world.nd rfl rfl (by decide) rfl rfl (pa_cons (pe_lc (own := [("other", 10)]) (g := gName 10) rfl sc__law_world.nd (pi_list (pv 3)) (blkOk_by (N := ["stream", "most", "greatest", "names", "name", "coins", "debts", "k", "others", "rows", "other"]) (sc := defScope s__law_world) (by decide +kernel)) (fun _ _ _ _ _ => (pg_name (i := 10) sc__law_world.nd rfl (by first | exact Or.inl rfl | exact Or.inr rfl))) (fun _ _ _ _ _ => (pts_one (pt_cmpR op_ne (pv 10) (pv 4) (nomark _)))) (fun _ _ _ _ _ => (pv 10))) (pa_cons (pe_lst pa_nil) pa_nil)) (by rfl))
      (pss_cons (ps_for PassesOwn.never rfl (pi_range1 (by rfl) T.range (pa_cons (pe_cal C_law_draw hr (by first | decide | omega) (by rfl) (pa_cons (pv 0) (pa_cons pe_int pa_nil))) pa_nil)) (pg_name (i := 7) sc__law_world.nd rfl (by first | exact Or.inl rfl | exact Or.inr rfl))
      (pss_one (ps_expr (pe_bm PySem.F.plainAttrs_list PySem.F.slot_list_append PySem.F.type_list_append mt_append (pv 9) (pa_cons (pe_tup (pa_cons (pe_cal C_law_pick hr (by first | decide | omega) (by rfl) (pa_cons (pv 0) (pa_cons (pv 8) pa_nil))) (pa_cons (pe_op op_add pe_int (pe_cal C_law_draw hr (by first | decide | omega) (by rfl) (pa_cons (pv 0) (pa_cons (pv 2) pa_nil)))) pa_nil))) pa_nil)))))
      (pss_one (ps_if (PW.pt (pw_or (pt_cmpR (op_neD hr.units) (pv 9) (pe_lst pa_nil) (nomark _)) (pw_or1 (pt_cmpR op_eq (pe_cal C_law_draw hr (by first | decide | omega) (by rfl) (pa_cons (pv 0) (pa_cons pe_int pa_nil))) pe_int (nomark _))))) (pss_one (ps_dput (hu_of hr) (pv 6) (pv 4) (pv 9) rfl)) pss_nil))))))
      (pss_one (ps_ret (pe_tup (pa_cons (pv 5) (pa_cons (pv 6) pa_nil)))))))), ?_⟩
  refine cut_if (fun σ H' => ∃ (wl : Addr) (ns : List Str), nsW ns ∧ σ = [some (.ref a), some (.int 3), some (.int 4), some (.ref wl), none, none, none, none, none, none, none] ∧ DnAt (n + 1) H' a ∧ Same (rm H a) (rm H' a) ∧ (rm H' a) wl = some (.lst (ns.map V.str))) ?_ fun rest => ?_
  rotate_left
  · refine ⟨lineN (n := 4), fun l0 h0 => ?_⟩
    refine ⟨_, rfl, _, rfl, _, _, rfl, rfl, a, _, n, rfl, hd.set (hd.new h0).symm.symm, by omega, by decide, by decide, fun r o r0 r1 ho => ⟨_, _, rfl, rfl, _, rfl, l0, _, rfl, SqL.of ((upd_ne (hd.new h0)).trans upd_same), fun wl hwl => ?_⟩⟩
    have s1 : Same (rm H a) (rm (upd H l0 (.lst [V.str "ann", V.str "bob", V.str "cy", V.str "dot"])) a) := same_set (Same.refl _) (by rw [rm_ne (hd.new h0)]; exact h0)
    have s2 : Same (rm H a) (rm (upd (upd H l0 (.lst [V.str "ann", V.str "bob", V.str "cy", V.str "dot"])) a o) a) := by rw [rm_upd]; exact s1
    have w0 : (rm H a) wl = none := rm_out s2 (DnAt.put ho) hwl
    have nw := (DnAt.put ho).new hwl
    obtain ⟨ns, hns, ec⟩ : ∃ ns, nsW ns ∧ cutV [V.str "ann", V.str "bob", V.str "cy", V.str "dot"] none (some (2 + r)) = ns.map V.str := by
      rcases (show r = 0 ∨ r = 1 by omega) with rfl | rfl
      · exact ⟨ns2, .inl rfl, rfl⟩
      · exact ⟨names3, .inr rfl, rfl⟩
    exact rest _ _ ⟨wl, ns, hns, rfl, (DnAt.put ho).set nw, same_set s2 w0, by rw [rm_ne nw, upd_same, ec]⟩
  rintro σ0 G0 ⟨wl, ns, hns, rfl, d0, s0, w0⟩
  obtain ⟨nd, sub, lo, hi3⟩ := hns.ok
  try dsimp only
  have wa := rm_dif w0
  refine fun c hc => fun d hd2 => ⟨_, _, rfl, ?_⟩
  have ca : c ≠ a := d0.new hc
  have dc : d ≠ c := fun z => by rw [z, upd_same] at hd2; cases hd2
  have hd3 : G0 d = none := by rw [upd_ne dc] at hd2; exact hd2
  have da : d ≠ a := d0.new hd3
  have c0 : (rm H a) c = none := rm_out s0 d0 hc
  have dd0 : (rm H a) d = none := rm_out s0 d0 hd3
  have W0 : Wst H a wl c d ns (upd (upd G0 c (.dK [])) d (.dK [])) (n + 1) [] [] := by
    have nc : wl ≠ c := fun z => by rw [rm_ne wa, z, hc] at w0; cases w0
    have nd' : wl ≠ d := fun z => by rw [rm_ne wa, z, hd3] at w0; cases w0
    refine ⟨(d0.set ca).set da, same_set (same_set s0 c0) dd0, ?_, ⟨[], ?_, .nil⟩, [], ?_, .nil⟩
    · rw [rm_ne wa, upd_ne nd', upd_ne nc]; rw [rm_ne wa] at w0; exact w0
    · rw [rm_ne ca, upd_ne dc.symm, upd_same]
    · rw [rm_ne da, upd_same]
  generalize upd (upd G0 c (.dK [])) d (.dK []) = G1 at W0 ⊢
  refine ⟨_, rfl, wl, rfl, ⟨_, SqL.of (rm_same _ _ W0.nw)⟩, for_it walk_list (fun i σ H' => ∃ nm kk oth rws ot cs ds, σ = [some (.ref a), some (.int 3), some (.int 4), some (.ref wl), nm, some (.ref c), some (.ref d), kk, oth, rws, ot] ∧ Wst H a wl c d ns H' (n + 1 + 10 * i) cs ds ∧ Part ns i cs ds) ⟨_, _, _, _, _, [], [], rfl, W0, .nil⟩ (fun i σ H' _ p => by
    obtain ⟨_, _, _, _, _, cs, ds, _, W, _⟩ := p
    exact SqL.of (rm_same _ _ W.nw)) ?_ ?_⟩
  · rintro i u σ H1 H2 hi ⟨nm, kk, oth, rws, ot, cs, ds, rfl, W, Pt⟩ ⟨rfl, hu⟩
    rw [List.getElem?_map] at hu
    obtain ⟨s0, hs0, rfl⟩ := Option.map_eq_some_iff.mp hu
    rw [List.length_map] at hi
    dsimp only [gName]
    refine cut_if (fun σ H' => ∃ cs', σ = [some (.ref a), some (.int 3), some (.int 4), some (.ref wl), some (.str s0), some (.ref c), some (.ref d), kk, oth, rws, ot] ∧ Wst H a wl c d ns H' (n + 1 + 10 * i + 2) cs' ds ∧ PartC ns (i + 1) cs') ?_ fun rest => ?_
    rotate_left
    · refine ⟨_, rfl, a, _, _, rfl, W.dr, by omega, by decide, by decide, fun r o r0 r1 ho => ⟨rfl, _, rfl, ?_⟩⟩
      have W1 := W.draw ho
      refine iteB ?_ ?_
      · refine ⟨_, rfl, a, _, _, rfl, W1.dr, by omega, by decide, by decide, fun r2 o2 q0 q1 ho2 => ?_⟩
        have W2 := W1.draw ho2
        obtain ⟨kc, k1, k2⟩ := W2.co
        have lk : kc.length = cs.length := Paired.length k2
        have lc : cs.length ≤ 3 := by
          have h1 := nodup_len Pt.1.cn fun s m => by
            obtain ⟨p, mp, rfl⟩ := List.mem_map.mp m
            exact sub _ (List.mem_of_mem_take (Pt.1.co p mp).1)
          rw [List.length_map] at h1
          exact h1
        refine ⟨_, rfl, _, rfl, c, _, rfl, .inl ⟨kc, Sum.inr s0, rm_same _ _ k1, rfl, sz (m := 60) (by omega) (by decide), rfl⟩, rest _ _ ⟨cs ++ [(s0, r2)], rfl, W2.putC c0 dc (Pt.1.out nd hs0) (rm_same _ _ k1), Pt.1.snoc nd hs0 q0 q1⟩⟩
      · exact rest _ _ ⟨cs, rfl, W1.grow (W1.dr.le (by omega)) (Same.refl _), Pt.1.up⟩
    rintro σ3 H3 ⟨cs', rfl, W3, P3⟩
    try dsimp only
    refine cut_if (fun σ H' => ∃ (ol rl : Addr) (os : List Str) (Hm : Hp), σ = [some (.ref a), some (.int 3), some (.int 4), some (.ref wl), some (.str s0), some (.ref c), some (.ref d), kk, some (.ref ol), some (.ref rl), ot] ∧ Wst H a wl c d ns Hm (n + 1 + 10 * i + 2) cs' ds ∧ DnAt (n + 1 + 10 * i + 2) H' a ∧ Same (rm Hm a) (rm H' a) ∧ Hm rl = none ∧ (rm H' a) rl = some (.lst []) ∧ (rm Hm a) ol = some (.lst (os.map V.str)) ∧ 1 ≤ os.length ∧ os.length ≤ 3 ∧ ∀ s ∈ os, s ∈ names3 ∧ s ≠ s0) ?_ fun rest => ?_
    rotate_left
    · have wl3 := rm_same _ _ W3.nw
      refine ⟨_, rfl, wl, rfl, ⟨_, SqL.of wl3⟩, fun D hD => lc_gen walk_list at_any ns (fun z => !decide (V.str z = V.str s0)) (by rw [List.length_map]) (sz (m := 60) (by rw [List.length_map]; omega)) hD (fun H' s' => SqL.of (s' _ _ wl3)) (fun _ z y => y = .str z) (fun _ _ _ _ _ h => h) (fun _ _ _ _ _ _ h => h)
        (fun j x z H4 A B lt hx hz s4 kA kB => ?_) (fun H4 acc s4 h4 p4 => ?_)⟩
      · rw [List.getElem?_map, hz] at hx
        obtain rfl : V.str z = x := Option.some.inj hx
        refine ⟨rfl, _, rfl, _, rfl, rfl, _, rfl, ?_⟩
        cases e : !decide (V.str z = V.str s0) with
        | true => exact iteT ⟨_, rfl, kA e _ _ (Same.refl _) rfl⟩
        | false => exact iteF (kB e _ (Same.refl _))
      · have ea : acc = (ns.filter fun z => !decide (V.str z = V.str s0)).map V.str := by
          have : ∀ {l : List V} {m : List Str}, Paired (fun y z => y = V.str z) l m → l = m.map V.str := by
            intro l m h
            induction h with
            | nil => rfl
            | cons h _ ih => rw [h, ih, List.map_cons]
          exact this p4
        have dr4 := W3.dr.up s4
        have nD : D ≠ a := W3.dr.new hD
        have sm4 : Same (rm H3 a) (rm H4 a) := fun b o e => by
          have nb := rm_dif e
          rw [rm_ne nb] at e ⊢
          exact s4 _ _ e
        refine ⟨lineN (n := 0), fun rl hrl => ⟨_, _, rfl, rest _ _ ⟨D, rl, _, H4, rfl, W3.grow dr4 sm4, dr4.set (dr4.new hrl), same_set (Same.refl _) (by rw [rm_ne (dr4.new hrl)]; exact hrl), hrl, by rw [rm_ne (dr4.new hrl), upd_same], by rw [rm_ne nD, h4, ea], others_ok hns s0 (List.mem_of_getElem? hs0), Nat.le_trans (List.length_filter_le _ _) hi3, fun s ms => ?_⟩⟩⟩
        obtain ⟨m1, m2⟩ := List.mem_filter.mp ms
        refine ⟨sub s m1, fun z => ?_⟩
        rw [z, decide_eq_true rfl] at m2
        cases m2
    rintro σ4 H4 ⟨ol, rl, os, Hm, rfl, Wm, d4, sm, rl0, r4, o4, l1, l3, ho⟩
    try dsimp only
    have nrl : rl ≠ a := rm_dif r4
    have rlm : (rm Hm a) rl = none := by rw [rm_ne nrl]; exact rl0
    refine cut_if (fun σ H' => ∃ kk', σ = [some (.ref a), some (.int 3), some (.int 4), some (.ref wl), some (.str s0), some (.ref c), some (.ref d), kk', some (.ref ol), some (.ref rl), ot] ∧ DnAt (n + 1 + 10 * i + 9) H' a ∧ Same (rm Hm a) (rm H' a) ∧ ∃ acc rs, (rm H' a) rl = some (.lst acc) ∧ Paired (RowAt (rm H' a)) acc rs ∧ rowsW s0 rs) ?_ fun rest => ?_
    rotate_left
    · refine ⟨_, rfl, a, _, _, rfl, d4, by omega, by decide, by decide, fun r o r0 r1 ho1 => ?_⟩
      obtain ⟨m, rfl⟩ := Int.eq_ofNat_of_zero_le r0
      have lm : m ≤ 3 := by omega
      refine ⟨_, rfl, by omega, by omega, ?_⟩
      refine for_range (fun j σ H' => ∃ kk', σ = [some (.ref a), some (.int 3), some (.int 4), some (.ref wl), some (.str s0), some (.ref c), some (.ref d), kk', some (.ref ol), some (.ref rl), ot] ∧ DnAt (n + 1 + 10 * i + 3 + 2 * j) H' a ∧ Same (rm Hm a) (rm H' a) ∧ ∃ acc rs, (rm H' a) rl = some (.lst acc) ∧ Paired (RowAt (rm H' a)) acc rs ∧ rs.length = j ∧ ∀ r ∈ rs, r.1 ∈ names3 ∧ r.1 ≠ s0 ∧ 1 ≤ r.2 ∧ r.2 ≤ 4)
        ⟨kk, rfl, DnAt.put ho1, by rw [rm_upd]; exact sm, [], [], by rw [rm_upd]; exact r4, .nil, rfl, fun r m => by cases m⟩ ?_ ?_
      · rintro j σ H5 lt ⟨kk', rfl, d5, s5, acc, rs, a5, p5, e5, g5⟩
        have lt3 : j < 3 := by omega
        have nol : ol ≠ a := rm_dif o4
        have tt : ∀ {G : Hp} {t : Addr}, DnAt (n + 1 + 10 * i + 3 + 2 * (j + 1)) G a → rm G a = rm H5 a → G t = none → t ≠ a ∧ (rm H5 a) t = none ∧ (rm Hm a) t = none := fun {G t} dG e ht => by
          have nt := dG.new ht
          have h5 : (rm H5 a) t = none := by rw [← e, rm_ne nt]; exact ht
          exact ⟨nt, h5, s5.free h5⟩
        refine ⟨_, rfl, .inl ⟨rfl, _, SqL.of (rm_same _ _ a5)⟩, _, rfl, _, rfl, a, ol, _, _, rfl, d5, by omega, nol, .inl (SqL.of (rm_same _ _ (s5 _ _ o4))), by rw [List.length_map]; exact l1, by rw [List.length_map]; omega, fun ix v o hv hod => ?_⟩
        rw [List.getElem?_map] at hv
        obtain ⟨s, hs, rfl⟩ := Option.map_eq_some_iff.mp hv
        refine ⟨_, rfl, _, rfl, a, _, _, rfl, DnAt.put hod, by omega, by decide, by decide, fun r o2 q0 q1 ho2 => ⟨_, _, rfl, rfl, two_line, fun t ht => ?_⟩⟩
        have eG : rm (upd (upd H5 a o) a o2) a = rm H5 a := by rw [rm_upd, rm_upd]
        have dG : DnAt (n + 1 + 10 * i + 3 + 2 * (j + 1)) (upd (upd H5 a o) a o2) a := DnAt.put ho2
        obtain ⟨nt, t5, tm⟩ := tt dG eG ht
        generalize upd (upd H5 a o) a o2 = G at eG dG ht ⊢
        have aG : (rm G a) rl = some (.lst acc) := by rw [eG]; exact a5
        have ntr : rl ≠ t := fun z => by rw [rm_ne nrl, z, ht] at aG; cases aG
        have e1 : rm (upd G t (.tup [.str s, .int (1 + r)])) a = upd (rm H5 a) t (.tup [.str s, .int (1 + r)]) := by rw [rm_set nt, eG]
        have a6 : (upd (rm H5 a) t (.tup [.str s, .int (1 + r)])) rl = some (.lst acc) := by rw [upd_ne ntr]; exact a5
        have s6 : Same (rm H5 a) (upd (rm H5 a) t (.tup [.str s, .int (1 + r)])) := Same.up t5
        have la : acc.length = rs.length := Paired.length p5
        refine ⟨rl, acc, .ref t, rfl, rfl, by rw [upd_ne ntr]; rw [rm_ne nrl] at aG; exact aG, sz (m := 60) (by omega) (by decide), ⟨_, rfl, (dG.set nt).set nrl, same_set (same_set (by rw [eG]; exact s5) tm) rlm, acc ++ [.ref t], rs ++ [(s, 1 + r)], by rw [rm_ne nrl, upd_same], ?_, by rw [List.length_append, e5]; rfl, fun x mx => ?_⟩⟩
        · rw [rm_set nrl, e1]
          exact Paired.snoc (F := RowAt _) (RowAt.lst a6 ⟨t, rfl, upd_same⟩) (L2.Paired.mapP p5 fun _ _ h => RowAt.lst a6 (h.mono s6))
        · rcases List.mem_append.mp mx with mx | mx
          · exact g5 x mx
          · rw [List.mem_singleton.mp mx]
            obtain ⟨b1, b2⟩ := ho s (List.mem_of_getElem? hs)
            exact ⟨b1, b2, by show 1 ≤ 1 + r; omega, by show 1 + r ≤ 4; omega⟩
      · rintro σ H5 ⟨kk', rfl, d5, s5, acc, rs, a5, p5, e5, g5⟩
        have hm : (Int.ofNat m).toNat = m := rfl
        exact rest _ _ ⟨kk', rfl, d5.le (by omega), s5, acc, rs, a5, p5, by omega, g5⟩
    rintro σ5 H5 ⟨kk', rfl, d5, s5, acc, rs, a5, p5, gr⟩
    try dsimp only
    have W5 := Wm.grow d5 s5
    have done : ∀ {H6 : Hp} {ds' : Db}, Wst H a wl c d ns H6 (n + 1 + 10 * i + 10) cs' ds' → PartD ns (i + 1) ds' → ∃ nm kk oth rws ot' cs ds, [some (.ref a), some (.int 3), some (.int 4), some (.ref wl), some (.str s0), some (.ref c), some (.ref d), kk', some (.ref ol), some (.ref rl), ot] = [some (.ref a), some (.int 3), some (.int 4), some (.ref wl), nm, some (.ref c), some (.ref d), kk, oth, rws, ot'] ∧ Wst H a wl c d ns H6 (n + 1 + 10 * (i + 1)) cs ds ∧ Part ns (i + 1) cs ds := fun {H6 ds'} W6 P6 => ⟨_, _, _, _, _, cs', ds', rfl, W6.grow (W6.dr.le (by omega)) (Same.refl _), P3, P6⟩
    have lds : ds.length ≤ 3 := by
      have h1 := nodup_len Pt.2.dn fun s m => by
        obtain ⟨p, mp, rfl⟩ := List.mem_map.mp m
        exact sub _ (List.mem_of_mem_take (Pt.2.de p mp).1)
      rw [List.length_map] at h1
      exact h1
    have put : ∀ {H6 : Hp}, Wst H a wl c d ns H6 (n + 1 + 10 * i + 10) cs' ds → Same (rm H5 a) (rm H6 a) → ∃ kd, H6 d = some (.dK kd) ∧ kd.length < sizeLine ∧ Wst H a wl c d ns (upd H6 d (.dK (putK kd (Sum.inr s0) (.ref rl)))) (n + 1 + 10 * i + 10) cs' (ds ++ [(s0, rs)]) := fun {H6} W6 s6 => by
      obtain ⟨kd, k1, k2⟩ := W6.de
      have lk : kd.length = ds.length := Paired.length k2
      exact ⟨kd, rm_same _ _ k1, sz (m := 60) (by omega) (by decide), W6.putD dd0 dc (Pt.2.out nd hs0) ⟨rl, acc, rfl, s6 _ _ a5, L2.Paired.mapP p5 fun _ _ h => h.mono s6⟩ (rm_same _ _ k1)⟩
    have gn : ∀ r ∈ rs, nameOk (.str r.1) = true := fun r mr => names3_ok _ (gr.2 r mr).1
    refine ⟨_, rfl, lineN (n := 0), fun q0 hq => ?_⟩
    have nq := d5.new hq
    have m0 : (rm H5 a) q0 = none := by rw [rm_ne nq]; exact hq
    have s6 : Same (rm H5 a) (rm (upd H5 q0 (.lst [])) a) := same_set (Same.refl _) m0
    have d6 : DnAt (n + 1 + 10 * i + 9) (upd H5 q0 (.lst [])) a := d5.set nq
    have a6 := rm_same _ _ (s6 _ _ a5)
    refine ⟨_, _, .lst (SqL.of a6) (dp_rows (L2.Paired.mapP p5 fun _ _ h => h.mono (s6.trans rm_same))), .lst (SqL.of upd_same) .nil, shaped_rowsD gn, by decide, _, rfl, ?_⟩
    generalize upd H5 q0 (.lst []) = H6 at s6 d6 ⊢
    refine iteB (iteT ?_) ?_
    · obtain ⟨kd, e1, e2, W7⟩ := put (W5.grow (d6.le (by omega)) s6) s6
      exact ⟨_, rfl, _, rfl, _, rfl, d, _, rfl, .inl ⟨kd, Sum.inr s0, e1, rfl, e2, rfl⟩, done W7 (Pt.2.snoc nd hs0 gr)⟩
    · refine ⟨_, rfl, a, _, _, rfl, d6, by omega, by decide, by decide, fun r o r0 r1 ho1 => ⟨rfl, _, rfl, ?_⟩⟩
      have s7 : Same (rm H5 a) (rm (upd H6 a o) a) := by rw [rm_upd]; exact s6
      have W7 := W5.grow (k' := n + 1 + 10 * i + 10) (DnAt.put ho1) s7
      refine iteB ?_ ?_
      · obtain ⟨kd, e1, e2, W8⟩ := put W7 s7
        exact ⟨_, rfl, _, rfl, _, rfl, d, _, rfl, .inl ⟨kd, Sum.inr s0, e1, rfl, e2, rfl⟩, done W8 (Pt.2.snoc nd hs0 gr)⟩
      · exact done W7 Pt.2.up
  · rintro σ H2 ⟨nm, kk, oth, rws, ot, cs, ds, rfl, W, Pt⟩
    rw [List.length_map] at W Pt
    refine ⟨_, rfl, _, rfl, two_line, fun t ht => ?_⟩
    have nt := W.dr.new ht
    have t0 : (rm H2 a) t = none := by rw [rm_ne nt]; exact ht
    have s6 : Same (rm H2 a) (rm (upd H2 t (.tup [.ref c, .ref d])) a) := same_set (Same.refl _) t0
    obtain ⟨kc, c1, c2⟩ := W.co
    obtain ⟨kd, d1, d2⟩ := W.de
    refine q _ _ cs ds ((W.dr.set nt).le (by omega)) (W.sm.trans s6) ⟨t, c, d, kc, kd, rfl, by rw [rm_ne nt, upd_same], s6 _ _ c1, c2, s6 _ _ d1, d2.mono s6⟩ ⟨Pt.1.cn, Pt.2.dn, fun p m => ⟨sub _ (List.mem_of_mem_take (Pt.1.co p m).1), (Pt.1.co p m).2⟩, fun p m => ⟨sub _ (List.mem_of_mem_take (Pt.2.de p m).1), (Pt.2.de p m).2⟩⟩
end
end K38

set_option Elab.async false
set_option linter.all false
set_option maxRecDepth 100000
set_option maxHeartbeats 4000000
namespace K38
open PySem PySem.Spec PyProof.Rows L2 Sr
/-! ### the law's own members, what is owed, how it is split -/
theorem upd_swap {H : Hp} {a b : Addr} {x y : HO} (h : a ≠ b) : upd (upd H a x) b y = upd (upd H b y) a x := by
  funext c
  by_cases c1 : c = a
  · rw [c1, upd_ne h, upd_same, upd_same]
  · by_cases c2 : c = b
    · rw [c2, upd_same, upd_ne h.symm, upd_same]
    · rw [upd_ne c2, upd_ne c1, upd_ne c1, upd_ne c2]
def spMembL : Sp := fun vs H Q _ => ∃ v cs ds, vs = [v] ∧ WorldR H v cs ds ∧ (allN cs ds).length ≤ 60 ∧ (ds.map (·.1)).Nodup ∧ ∀ H' p ys, Same H H' → H p = none → H' p = some (.lst (ys.map V.str)) → Nms cs ds ys → Q (.ref p) H'
section
variable {P : Program} {w : World} {K : PySem.W.Frag} {mg : Str → Option Value} {base : Heap}
abbrev s__law_members : Stmt := top 25
theorem sc__law_members : FnScope ["world", "found", "name", "to", "many"] ["world"] (defScope s__law_members) := ⟨rfl, rfl, rfl, by decide +kernel, rfl, by decide +kernel, by decide +kernel⟩
theorem c__law_members (T : Txt K mg) (D : Dfn K mg "_law_members" s__law_members) : Cal P w K mg base 1 "_law_members" ["world"] spMembL := by
  refine D.cal sc__law_members (fun _ _ _ _ _ _ us hl => match us, hl with | [_], _ => rfl) (fun vs H Q E h => ?_) fun cdv A outer s H vs Q E hr h => ?_
  · obtain ⟨v, cs, ds, rfl, _⟩ := h
    rfl
  obtain ⟨v, cs, ds, rfl, ⟨t, c, d, kc, kd, rfl, ht, hc, pc, hd, pd⟩, la, dn, q⟩ := h
  refine ⟨_, (pss_cons (ps_set (i := 1) sc__law_members.nd rfl (by first | exact Or.inl rfl | exact Or.inr rfl) (pe_op op_cat (pe_callTy (T := "list") (call_list_dK rfl) (by rfl) T.list (by decide +kernel) (pa_cons (pe_ix ix_tup (pv 0) pe_int (fun _ _ => rfl)) pa_nil)) (pe_callTy (T := "list") (call_list_dK rfl) (by rfl) T.list (by decide +kernel) (pa_cons (pe_ix ix_tup (pv 0) pe_int (fun _ _ => rfl)) pa_nil))))
      (pss_cons (ps_lock (ps_for PassesOwn.never rfl (pi_keys (pe_ix ix_tup (pv 0) pe_int (fun _ _ => rfl))) (pg_name (i := 2) sc__law_members.nd rfl (by first | exact Or.inl rfl | exact Or.inr rfl))
      (pss_one (ps_expr (pe_bm PySem.F.plainAttrs_list PySem.F.slot_list_extend PySem.F.type_list_extend mt_extend (pv 1) (pa_cons (pe_lc (own := [("to", 3), ("many", 4)]) (g := gTup K 2 (gCons (gName 3) (gCons (gName 4) gNil))) (tt := tYes) rfl sc__law_members.nd (pi_list (pe_dget (hu_of hr) (pe_ix ix_tup (pv 0) pe_int (fun _ _ => rfl)) (pv 2) (fun _ _ => rfl))) (blkOk_by (N := ["world", "found", "name", "to", "many"]) (sc := defScope s__law_members) (by decide +kernel)) (fun _ _ _ _ _ => (pg_tup rfl (pgs_cons (pg_name (i := 3) sc__law_members.nd rfl (by first | exact Or.inl rfl | exact Or.inr rfl)) (pgs_cons (pg_name (i := 4) sc__law_members.nd rfl (by first | exact Or.inl rfl | exact Or.inr rfl)) pgs_nil)))) (fun _ _ _ _ _ => pts_nil) (fun _ _ _ _ _ => (pv 3))) pa_nil))))))
      (pss_one (ps_ret (pe_sortTxt rfl (by rfl) T.sorted (by rfl) T.set (pv 1)))))), ?_⟩
  have kn := (keys_names (F := fun v i => v = V.int i) pc).1
  have kn2 := (keys_names (F := fun v rs => RowsAt H v rs) pd).1
  have len : kd.length = ds.length := Paired.length pd
  refine ⟨_, rfl, t, _, 0, _, rfl, rfl, SqT.of ht, rfl, ?_⟩
  delta tNil
  dsimp only
  refine ⟨c, kc, rfl, hc, fun p1 h1 => ⟨_, rfl, t, _, 1, _, rfl, rfl, SqT.of (Same.up h1 _ _ ht), rfl, d, kd, rfl, Same.up h1 _ _ hd, fun p2 h2 => ?_⟩⟩
  have s12 := (Same.up (o := .lst (kc.map fun kv => kV kv.1)) h1).trans (Same.up (o := .lst (kd.map fun kv => kV kv.1)) h2)
  have g1 : (upd (upd H p1 (.lst (kc.map fun kv => kV kv.1))) p2 (.lst (kd.map fun kv => kV kv.1))) p1 = some (.lst (kc.map fun kv => kV kv.1)) := Same.up h2 _ _ upd_same
  refine ⟨p1, p2, _, _, rfl, rfl, g1, upd_same, ?_, fun f hf => ?_⟩
  · have h3 : cs.length + ds.length ≤ 60 := by
      have := la
      unfold allN at this
      rw [List.length_append, List.length_append, List.length_map, List.length_map] at this
      omega
    have lc : kc.length = cs.length := Paired.length pc
    rw [List.length_map, List.length_map]
    exact Nat.le_trans (show _ ≤ 60 by omega) (by decide)
  rw [kn, kn2] at hf ⊢
  rw [kn, kn2] at s12
  generalize upd (upd H p1 _) p2 _ = G1 at s12 hf ⊢
  have eb : (cs.map (·.1)).map V.str ++ (ds.map (·.1)).map V.str = (cs.map (·.1) ++ ds.map (·.1)).map V.str := by rw [List.map_append]
  rw [eb]
  have hd1 := s12 _ _ hd
  have nfd : f ≠ d := fun z => by rw [z, hd1] at hf; cases hf
  dsimp only [gName]
  refine ⟨d, .dK kd, by rw [upd_ne nfd.symm]; exact hd1, trivial, fun od => ?_⟩
  have ntd : t ≠ d := ne_of ht hd (by intro z; cases z)
  have fr : (upd (upd G1 f (.lst ((cs.map (·.1) ++ ds.map (·.1)).map V.str))) d (.frz od (.dK kd))) = upd (upd G1 d (.frz od (.dK kd))) f (.lst ((cs.map (·.1) ++ ds.map (·.1)).map V.str)) := upd_swap nfd
  rw [fr]
  have f0 : (upd G1 d (.frz od (.dK kd))) f = none := by rw [upd_ne nfd]; exact hf
  have t0 : (upd G1 d (.frz od (.dK kd))) t = some (.tup [.ref c, .ref d]) := by rw [upd_ne ntd]; exact s12 _ _ ht
  have d0 : (upd G1 d (.frz od (.dK kd))) d = some (.frz od (.dK kd)) := upd_same
  have pd0 : DebA (upd G1 d (.frz od (.dK kd))) kd ds := (pd.mono s12).seqs (SeqsK.frz hd1)
  have back : ∀ H', Same (upd G1 d (.frz od (.dK kd))) H' → Same H (upd H' d (.dK kd)) := fun H' s x o e => by
    by_cases hx : x = d
    · rw [hx] at e ⊢
      rw [hd] at e
      cases e
      exact upd_same
    · rw [upd_ne hx]
      exact s _ _ (by rw [upd_ne hx]; exact s12 _ _ e)
  generalize upd G1 d (.frz od (.dK kd)) = F at f0 t0 d0 pd0 back ⊢
  have nd := keys_nd (F := fun v rs => RowsAt F v rs) pd0 dn
  refine ⟨_, rfl, t, _, 1, _, rfl, rfl, SqT.of (Same.up f0 _ _ t0), rfl, d, od, rfl, .inl ⟨kd, Same.up f0 _ _ d0, for_it walk_keys (fun i σ H' => (∃ nm, σ = [some (.ref t), some (.ref f), nm, none, none]) ∧ Same F H' ∧ H' f = some (.lst (((cs.map (·.1) ++ ds.map (·.1)) ++ toldN (ds.take i)).map V.str))) ⟨⟨_, rfl⟩, Same.up f0, by rw [upd_same, List.take_zero]; show _ = some (HO.lst ((_ ++ ([] : List Str)).map V.str)); rw [List.append_nil]⟩ (fun i σ H' _ p => p.2.1 _ _ d0) ?_ ?_⟩⟩
  · rintro i u σ H1 H2 hi ⟨⟨nm, rfl⟩, s1, f1⟩ ⟨rfl, k, v, hk, rfl⟩
    obtain ⟨p, hp⟩ : ∃ p, ds[i]? = some p := ⟨ds[i]'(by omega), List.getElem?_eq_getElem (by omega)⟩
    obtain ⟨ek, l, us, rfl, hl, pr⟩ := Paired.at2 pd0 hk hp
    have lp : us.length = p.2.length := Paired.length pr
    have tl := told_take hp
    have zt : (cs.map (·.1) ++ ds.map (·.1)).length + ((toldN (ds.take i)).length + p.2.length) ≤ 60 := by
      have h1 : (toldN ds).length = (toldN (ds.take (i + 1))).length + (toldN (ds.drop (i + 1))).length := by
        rw [← List.length_append]
        unfold toldN
        rw [← List.flatMap_append, List.take_append_drop]
      rw [tl, List.length_append, List.length_map] at h1
      have := la
      unfold allN at this
      rw [List.length_append] at this
      omega
    refine ⟨_, rfl, .inl ⟨rfl, _, SqL.of f1⟩, _, rfl, t, _, 1, _, rfl, rfl, SqT.of (s1 _ _ t0), rfl, _, rfl, d, .ref l, rfl, .inl ⟨kd, k, .inr ⟨od, s1 _ _ d0⟩, rfl, (val_nodup nd _ (List.mem_of_getElem? hk)).symm⟩, l, rfl, ⟨_, SqL.of (s1 _ _ hl)⟩, fun B hB => lc_f walk_list at_any p.2 (fun r => V.str r.1) lp.symm (sz (m := 60) (by omega)) hB (fun H3 s3 => SqL.of (s3 _ _ (s1 _ _ hl)))
      (fun j x r H3 A lt hx hr s3 kA => ?_) (fun H3 s3 h3 => ?_)⟩
    · obtain ⟨t2, rfl, ht2⟩ := Paired.at2 pr hx hr
      exact ⟨t2, _, rfl, SqT.of (s3 _ _ (s1 _ _ ht2)), rfl, _, _, rfl, _, _, rfl, rfl, rfl, _, rfl, kA _ (Same.refl _)⟩
    · refine ⟨f, B, _, _, rfl, rfl, s3 _ _ f1, h3, ?_, ⟨_, rfl⟩, fun x o e => ?_, ?_⟩
      · rw [List.length_map, List.length_append, List.length_map]
        exact Nat.le_trans (show _ ≤ 60 by omega) (by decide)
      · rw [upd_ne fun z => by rw [z, f0] at e; cases e]
        exact s3 _ _ (s1 _ _ e)
      · rw [upd_same, tl, ← List.append_assoc, List.map_append (l₂ := p.2.map (·.1)), List.map_map]
        rfl
  · rintro σ H1 ⟨⟨nm, rfl⟩, s1, f1⟩
    refine ⟨s1 _ _ d0, ?_⟩
    rw [len, List.take_length] at f1
    have sb := back H1 s1
    have fb : (upd H1 d (.dK kd)) f = some (.lst ((allN cs ds).map V.str)) := by rw [upd_ne nfd]; exact f1
    refine ⟨_, rfl, f, allN cs ds, rfl, SqL.of fb, by omega, fun ys p pm so hp => q _ p ys (sb.trans (Same.up hp)) ?_ upd_same (nms_of (fun s => Iff.rfl) pm so)⟩
    cases e : H p with
    | none => rfl
    | some o => rw [sb _ _ e] at hp; cases hp
end
end K38

set_option Elab.async false
set_option linter.all false
set_option maxRecDepth 100000
set_option maxHeartbeats 4000000
namespace K38
open PySem PySem.Spec PyProof.Rows L2 Sr
/-- world[1].get(n, []) -/
theorem get_rows {H G : Hp} {kd : List (Key × V)} {ds : Db} (pd : DebA H kd ds) (n : Str) {q0 : Addr} (s : Same H G) (hq : G q0 = some (.lst [])) : ∃ l us, (valV kd (Sum.inr n)).getD (.ref q0) = .ref l ∧ G l = some (.lst us) ∧ Paired (RowAt G) us (gD ds n) := by
  have : (∃ v rs, valV kd (Sum.inr n) = some v ∧ ds.lookup n = some rs ∧ RowsAt H v rs) ∨ (valV kd (Sum.inr n) = none ∧ ds.lookup n = none) := by
    unfold DebA at pd
    induction pd with
    | nil => exact .inr ⟨rfl, rfl⟩
    | @cons kv p kc cs h r ih =>
      rw [List.lookup_cons]
      by_cases c : n = p.1
      · subst c
        rw [valV_pos (by rw [h.1]), beq_self_eq_true]
        exact .inl ⟨_, _, rfl, rfl, h.2⟩
      · rw [valV_neg (by rw [h.1]; exact fun z => c (Sum.inr.inj z).symm), beq_false_of_ne c]
        exact ih
  rcases this with ⟨v, rs, e, e2, l, us, rfl, h, p⟩ | ⟨e, e2⟩
  · rw [e]
    exact ⟨l, us, rfl, s _ _ h, by unfold gD; rw [e2]; exact L2.Paired.mapP p fun _ _ h => h.mono s⟩
  · rw [e]
    exact ⟨q0, [], rfl, hq, by unfold gD; rw [e2]; exact .nil⟩
def spOwedL : Sp := fun vs H Q _ => ∃ v n cs ds, vs = [v, .str n] ∧ WorldR H v cs ds ∧ (∀ p ∈ ds, p.2.length ≤ 60) ∧ ∀ H', Same H H' → Q (.int (sumR (gD ds n))) H'
def spSplitL : Sp := fun vs H Q _ => ∃ v n i cs ds, vs = [v, .str n, .int i] ∧ WorldR H v cs ds ∧ (∀ p ∈ ds, p.2.length ≤ 60) ∧ ∀ H' p, Same H H' → H p = none → H' p = some (.lst ((splitR (gD ds n) i).map V.int)) → Q (.ref p) H'
section
variable {P : Program} {w : World} {K : PySem.W.Frag} {mg : Str → Option Value} {base : Heap}
abbrev s__law_owed : Stmt := top 26
theorem sc__law_owed : FnScope ["world", "member", "to", "many"] ["world", "member"] (defScope s__law_owed) := ⟨rfl, rfl, rfl, by decide +kernel, rfl, by decide +kernel, by decide +kernel⟩
theorem c__law_owed (T : Txt K mg) (D : Dfn K mg "_law_owed" s__law_owed) : Cal P w K mg base 1 "_law_owed" ["world", "member"] spOwedL := by
  refine D.cal sc__law_owed (fun _ _ _ _ _ _ us hl => match us, hl with | [_, _], _ => rfl) (fun vs H Q E h => ?_) fun cdv A outer s H vs Q E hr h => ?_
  · obtain ⟨v, n, cs, ds, rfl, _⟩ := h
    rfl
  obtain ⟨v, n, cs, ds, rfl, ⟨t, c, d, kc, kd, rfl, ht, hc, pc, hd, pd⟩, la, q⟩ := h
  refine ⟨_, (pss_one (ps_ret (pe_callB (id := "sum") (cr_sum rfl) (by rfl) T.sum (by decide +kernel) (pa_cons (pe_lc (own := [("to", 2), ("many", 3)]) (g := gTup K 2 (gCons (gName 2) (gCons (gName 3) gNil))) (tt := tYes) rfl sc__law_owed.nd (pi_list (pe_dget2 (hu_of hr) (pe_ix ix_tup (pv 0) pe_int (fun _ _ => rfl)) (pv 1) (pe_lst pa_nil) ⟨rfl, by rfl, rfl, rfl⟩)) (blkOk_by (N := ["world", "member", "to", "many"]) (sc := defScope s__law_owed) (by decide +kernel)) (fun _ _ _ _ _ => (pg_tup rfl (pgs_cons (pg_name (i := 2) sc__law_owed.nd rfl (by first | exact Or.inl rfl | exact Or.inr rfl)) (pgs_cons (pg_name (i := 3) sc__law_owed.nd rfl (by first | exact Or.inl rfl | exact Or.inr rfl)) pgs_nil)))) (fun _ _ _ _ _ => pts_nil) (fun _ _ _ _ _ => (pv 3))) pa_nil)))), ?_⟩
  refine ⟨_, rfl, t, _, 1, _, rfl, rfl, SqT.of ht, rfl, d, rfl, .inl ⟨kd, .inl hd⟩, _, rfl, lineN (n := 0), fun q0 hq => ?_⟩
  have s0 : Same H (upd H q0 (.lst [])) := Same.up hq
  obtain ⟨l, us, el, hl, pr⟩ := get_rows pd n s0 upd_same
  have lu : us.length = (gD ds n).length := Paired.length pr
  have zu := gD_len la n
  refine ⟨valV kd (Sum.inr n), .inl ⟨kd, Sum.inr n, .inl (s0 _ _ hd), rfl, rfl⟩, l, el, ⟨_, SqL.of hl⟩, fun B hB => lc_f walk_list at_any (gD ds n) (fun r => V.int r.2) lu.symm (sz (m := 60) (by omega)) hB (fun H3 s3 => SqL.of (s3 _ _ hl)) (fun j x r H3 A lt hx hr s3 kA => ?_) (fun H3 s3 h3 => ?_)⟩
  · obtain ⟨t2, rfl, ht2⟩ := Paired.at2 pr hx hr
    exact ⟨t2, _, rfl, SqT.of (s3 _ _ ht2), rfl, _, _, rfl, _, _, rfl, rfl, rfl, _, rfl, kA _ (Same.refl _)⟩
  · exact ⟨B, ((gD ds n).map (fun (r : Str × Int) => r.2) : List Int), rfl, SqL.of (by rw [h3, List.map_map]; rfl), q H3 (s0.trans s3)⟩
abbrev s__law_split : Stmt := top 27
theorem sc__law_split : FnScope ["world", "member", "amount", "found", "to", "many"] ["world", "member", "amount"] (defScope s__law_split) := ⟨rfl, rfl, rfl, by decide +kernel, rfl, by decide +kernel, by decide +kernel⟩
theorem c__law_split (T : Txt K mg) (D : Dfn K mg "_law_split" s__law_split) : Cal P w K mg base 1 "_law_split" ["world", "member", "amount"] spSplitL := by
  refine D.cal sc__law_split (fun _ _ _ _ _ _ us hl => match us, hl with | [_, _, _], _ => rfl) (fun vs H Q E h => ?_) fun cdv A outer s H vs Q E hr h => ?_
  · obtain ⟨v, n, i, cs, ds, rfl, _⟩ := h
    rfl
  obtain ⟨v, n, i, cs, ds, rfl, ⟨t, c, d, kc, kd, rfl, ht, hc, pc, hd, pd⟩, la, q⟩ := h
  refine ⟨_, (pss_cons (ps_set (i := 3) sc__law_split.nd rfl (by first | exact Or.inl rfl | exact Or.inr rfl) (pe_lst pa_nil))
      (pss_cons (ps_for PassesOwn.never rfl (pi_list (pe_dget2 (hu_of hr) (pe_ix ix_tup (pv 0) pe_int (fun _ _ => rfl)) (pv 1) (pe_lst pa_nil) ⟨rfl, by rfl, rfl, rfl⟩)) (pg_tup rfl (pgs_cons (pg_name (i := 4) sc__law_split.nd rfl (by first | exact Or.inl rfl | exact Or.inr rfl)) (pgs_cons (pg_name (i := 5) sc__law_split.nd rfl (by first | exact Or.inl rfl | exact Or.inr rfl)) pgs_nil)))
      (pss_cons (ps_expr (pe_bm PySem.F.plainAttrs_list PySem.F.slot_list_append PySem.F.type_list_append mt_append (pv 3) (pa_cons (pe_callB (id := "min") (cr_min rfl) (by rfl) T.min (by decide +kernel) (pa_cons (pe_lst (pa_cons (pv 5) (pa_cons (pv 2) pa_nil))) pa_nil)) pa_nil)))
      (pss_one (ps_set (i := 2) sc__law_split.nd rfl (by first | exact Or.inl rfl | exact Or.inr rfl) (pe_op op_sub (pv 2) (pe_ix ix_list (pv 3) (pe_un un_neg pe_int) (fun _ _ => rfl)))))))
      (pss_one (ps_ret (pv 3))))), ?_⟩
  refine ⟨lineN (n := 0), fun f hf => ?_⟩
  have sf : Same H (upd H f (.lst [])) := Same.up hf
  refine ⟨_, rfl, t, _, 1, _, rfl, rfl, SqT.of (sf _ _ ht), rfl, d, rfl, .inl ⟨kd, .inl (sf _ _ hd)⟩, _, rfl, lineN (n := 0), fun q0 hq => ?_⟩
  have nfq : f ≠ q0 := fun z => by rw [← z, upd_same] at hq; cases hq
  have hq0 : H q0 = none := by rw [upd_ne nfq.symm] at hq; exact hq
  have s0 : Same H (upd H q0 (.lst [])) := Same.up hq0
  have f0 : (upd H q0 (.lst [])) f = none := by rw [upd_ne nfq]; exact hf
  rw [upd_swap nfq]
  obtain ⟨l, us, el, hl, pr⟩ := get_rows pd n s0 upd_same
  have lu : us.length = (gD ds n).length := Paired.length pr
  have zu := gD_len la n
  have hd0 := s0 _ _ hd
  generalize upd H q0 (.lst []) = F at s0 f0 hl pr hd0 ⊢
  have s1 : Same F (upd F f (.lst [])) := Same.up f0
  refine ⟨valV kd (Sum.inr n), .inl ⟨kd, Sum.inr n, .inl (s1 _ _ hd0), rfl, rfl⟩, l, el, ⟨_, SqL.of (s1 _ _ hl)⟩, ?_⟩
  refine for_it walk_list (fun j σ H' => (∃ o t', σ = [some (.ref t), some (.str n), some (.int (leftR ((gD ds n).take j) i)), some (.ref f), o, t']) ∧ Same F H' ∧ H' f = some (.lst ((splitR ((gD ds n).take j) i).map V.int))) ⟨⟨_, _, rfl⟩, s1, upd_same⟩ (fun j σ H' _ p => SqL.of (p.2.1 _ _ hl)) ?_ ?_
  · rintro j y σ H3 H4 lt ⟨⟨o, t0, rfl⟩, s3, g3⟩ ⟨rfl, hy⟩
    have lr2 : j < (gD ds n).length := by omega
    have hr2 : (gD ds n)[j]? = some (gD ds n)[j] := List.getElem?_eq_getElem lr2
    generalize (gD ds n)[j] = r at hr2
    obtain ⟨t2, rfl, ht2⟩ := Paired.at2 pr hy hr2
    obtain ⟨k1, k2⟩ := split_snoc r ((gD ds n).take j) i
    have tk : (gD ds n).take (j + 1) = (gD ds n).take j ++ [r] := by rw [List.take_add_one, hr2]; rfl
    have ln : ((splitR ((gD ds n).take j) i).map V.int).length < sizeLine := by
      rw [List.length_map, split_len, List.length_take]
      exact Nat.lt_of_le_of_lt (show _ ≤ 60 by omega) (by decide)
    refine ⟨t2, _, rfl, SqT.of (s3 _ _ ht2), rfl, _, _, rfl, _, _, rfl, rfl, _, rfl, .inl ⟨rfl, _, SqL.of g3⟩, _, rfl, _, rfl, two_line, fun m hm => ⟨m, [r.2, leftR ((gD ds n).take j) i], rfl, SqL.of upd_same, Nat.succ_pos 1, fun z mz lz => ?_⟩⟩
    have ez : z = mn (leftR ((gD ds n).take j) i) r.2 := by
      have h1 := lz r.2 List.mem_cons_self
      have h2 := lz (leftR ((gD ds n).take j) i) (List.mem_cons_of_mem _ List.mem_cons_self)
      unfold mn
      simp only [List.mem_cons, List.not_mem_nil, or_false] at mz
      split <;> omega
    subst ez
    have nm : f ≠ m := fun z => by rw [← z, g3] at hm; cases hm
    have gm : (upd H4 m (.lst [.int r.2, .int (leftR ((gD ds n).take j) i)])) f = some (.lst ((splitR ((gD ds n).take j) i).map V.int)) := by rw [upd_ne nm]; exact g3
    refine ⟨f, _, _, rfl, rfl, gm, ln, _, rfl, _, rfl, 1, rfl, f, _, -1, .int (mn (leftR ((gD ds n).take j) i) r.2), rfl, rfl, SqL.of upd_same, atI_last, _, _, rfl, rfl, ⟨_, _, by rw [tk, k2]; rfl⟩, fun c o e => ?_, ?_⟩
    · rw [upd_ne fun z => by rw [z, f0] at e; cases e]
      exact Same.up hm _ _ (s3 _ _ e)
    · rw [upd_same, tk, k1, List.map_append]
      rfl
  · rintro σ H3 ⟨⟨o, t0, rfl⟩, s3, g3⟩
    rw [lu, List.take_length] at g3
    exact ⟨_, rfl, q H3 f (s0.trans s3) hf g3⟩
end
end K38

set_option Elab.async false
set_option linter.all false
set_option maxRecDepth 100000
set_option maxHeartbeats 4000000
namespace K38
open PySem PySem.Spec PyProof.Rows L2 Sr
/-! ### what debts tell is what the law's own world has -/
def PrAt (Rv : Hp → Str → V → Prop) (H : Hp) (s : Str) (v : V) : Prop := ∃ t z, v = .ref t ∧ H t = some (.tup [.str s, z]) ∧ Rv H s z
theorem pairs_of {K : PySem.W.Frag} {Rv : Hp → Str → V → Prop} {H : Hp} : ∀ {acc : List V} {ys : List Str}, Paired (fun v s => PrAt Rv H s v) acc ys → ∃ (ts : List Addr) (kvs : List (Key × V)), acc = ts.map V.ref ∧ Paired (fun p kv => SqT K H p [kV kv.1, kv.2]) ts kvs ∧ Ent (Rv H) kvs ys
  | _, _, .nil => ⟨[], [], rfl, .nil, .nil⟩
  | _, _, .cons (b := s) h r => by
    obtain ⟨ts, kvs, e1, e2, e3⟩ := pairs_of (K := K) r
    obtain ⟨t, z, h1, h2, h3⟩ := h
    exact ⟨t :: ts, (Sum.inr s, z) :: kvs, by rw [h1, e1]; rfl, .cons (SqT.of h2) e2, .cons ⟨rfl, h3⟩ e3⟩
theorem merge_nodup : ∀ {more acc : List (Key × V)}, ((acc ++ more).map (·.1)).Nodup → mergeK acc more = acc ++ more
  | [], acc, _ => by rw [List.append_nil]; rfl
  | p :: r, acc, h => by
    have nm : p.1 ∉ acc.map (·.1) := fun m => by
      rw [List.map_append, List.map_cons] at h
      exact (List.nodup_append.mp h).2.2 _ m _ List.mem_cons_self rfl
    have h2 : ((acc ++ [p] ++ r).map (·.1)).Nodup := by simpa using h
    have ih := merge_nodup h2
    show mergeK (L2.putK acc p.1 p.2) r = _
    rw [Sr.putK_new nm]
    rw [ih, List.append_assoc]
    rfl
theorem merge_ent {Rv : Str → V → Prop} {kvs : List (Key × V)} {ys : List Str} (h : Ent Rv kvs ys) (nd : ys.Nodup) : mergeK [] kvs = kvs := by
  rw [merge_nodup]
  · rfl
  · rw [List.nil_append, h.keys]
    exact List.Pairwise.map _ (fun a b h e => h (Sum.inr.inj e)) nd
theorem RowsAt.ne {H : Hp} {D : Addr} {c : List V} {o : HO} (hD : H D = some (.lst c)) {l : Addr} {rs : Rw} (n : l ≠ D) (h : RowsAt H (.ref l) rs) : RowsAt (upd H D o) (.ref l) rs := by
  obtain ⟨l', us, e, hl, pr⟩ := h
  cases e
  exact ⟨l, us, rfl, by rw [upd_ne n]; exact hl, L2.Paired.mapP pr fun _ _ h => RowAt.lst hD h⟩
theorem strs_same (ys : List Str) : PyData.eqv (.list (ys.map PyData.str)) (.list (ys.map PyData.str)) = true := by
  show PyData.eqvAll (ys.map PyData.str) (ys.map PyData.str) = true
  induction ys with
  | nil => rfl
  | cons s r ih =>
    show ((s == s) && PyData.eqvAll (r.map PyData.str) (r.map PyData.str)) = true
    rw [ih, beq_self_eq_true]
    rfl
theorem keys_c {kc : List (Key × V)} {ws : List Mb} (h : CoinsR kc ws) : kc.map (fun kv => kV kv.1) = (ws.map (·.1)).map V.str := kc_keys h
theorem keys_d {H : Hp} : ∀ {kd : List (Key × V)} {ws : List Mb}, DebD H kd ws → kd.map (fun kv => kV kv.1) = (ws.map (·.1)).map V.str
  | _, _, .nil => rfl
  | _, _, .cons h r => by
    rw [List.map_cons, List.map_cons, List.map_cons, keys_d r, h.1]
    rfl
theorem ent_coins {H : Hp} {cs : Cn} {ds : Db} {kvs : List (Key × V)} {ys : List Str} (h : Ent (fun s v => v = .int (gC cs s)) kvs ys) : CoinsR kvs (wsOf cs ds ys) := pmap (f := fun n => (n, gC cs n, gD ds n)) (fun _ _ h => h) h
theorem ent_debts {H : Hp} {cs : Cn} {ds : Db} {kvs : List (Key × V)} {ys : List Str} (h : Ent (fun s v => RowsAt H v (gD ds s)) kvs ys) : DebD H kvs (wsOf cs ds ys) := pmap (f := fun n => (n, gC cs n, gD ds n)) (fun _ _ h => h) h
theorem ws_in {cs : Cn} {ds : Db} {ys : List Str} {n : Str} (h : n ∈ ys) : (n, gC cs n, gD ds n) ∈ wsOf cs ds ys := List.mem_map.mpr ⟨n, h, rfl⟩
theorem Good.mb {cs : Cn} {ds : Db} (g : Good cs ds) {ys : List Str} (n : Nms cs ds ys) : ∀ m ∈ wsOf cs ds ys, mbG m := by
  obtain ⟨l1, l2, l3, l4⟩ := g.lens
  intro m hm
  obtain ⟨s, ms, rfl⟩ := List.mem_map.mp hm
  refine ⟨g.name ((n.2.2 _).mp ms), gD_len l4 s, fun r mr => ?_⟩
  obtain ⟨p, mp, er⟩ : ∃ p ∈ ds, r ∈ p.2 := by
    have mr' : r ∈ gD ds s := mr
    unfold gD at mr'
    cases e : ds.lookup s with
    | none => rw [e] at mr'; cases mr'
    | some rs => rw [e] at mr'; exact ⟨_, look_mem e, mr'⟩
  exact ((g.de p mp).2 r er).1
def spTold (K : PySem.W.Frag) : Sp := fun vs H Q _ => ∃ x v cs ds ys, vs = [.ref x, v] ∧ DebR K H x (wsOf cs ds ys) ∧ WorldR H v cs ds ∧ Nms cs ds ys ∧ Good cs ds ∧ ∀ H', Same H H' → Q (.bl true) H'
section
variable {P : Program} {w : World} {K : PySem.W.Frag} {mg : Str → Option Value} {base : Heap}
abbrev s__law_is_told : Stmt := top 37
theorem sc__law_is_told : FnScope ["made", "world", "names", "name"] ["made", "world"] (defScope s__law_is_told) := ⟨rfl, rfl, rfl, by decide +kernel, rfl, by decide +kernel, by decide +kernel⟩
theorem c__law_is_told (T : Txt K mg) (O : Deb K mg) (OM : DebM K) (D : Dfn K mg "_law_is_told" s__law_is_told) (C_law_members : Cal P w K mg base 1 "_law_members" ["world"] spMembL) (C_law_owed : Cal P w K mg base 1 "_law_owed" ["world", "member"] spOwedL)
    (MM : CalM P w K mg base CX0 1 (He.fAd K ("Debts", some "members")) ["self"] (spMembers K)) (MC : CalM P w K mg base CX0 1 (He.fAd K ("Debts", some "coins")) ["self"] (spCoins K)) (MD : CalM P w K mg base CX0 1 (He.fAd K ("Debts", some "debts")) ["self"] (spDebts K))
    (MO : CalM P w K mg base (L2.CX P w) 4 (He.fAd K ("Debts", some "owed")) ["self", "member"] (spOwed K)) : Cal P w K mg base 5 "_law_is_told" ["made", "world"] (spTold K) := by
  refine D.cal sc__law_is_told (fun _ _ _ _ _ _ us hl => match us, hl with | [_, _], _ => rfl) (fun vs H Q E h => ?_) fun cdv A outer s H vs Q E hr h => ?_
  · obtain ⟨x, v, cs, ds, ys, rfl, _⟩ := h
    rfl
  obtain ⟨x, v, cs, ds, ys, rfl, hx, hw, nm, g, q⟩ := h
  refine ⟨_, (pss_cons (ps_set (i := 2) sc__law_is_told.nd rfl (by first | exact Or.inl rfl | exact Or.inr rfl) (pe_cal C_law_members hr (by first | decide | omega) (by rfl) (pa_cons (pv 1) pa_nil)))
      (pss_cons (ps_if (PW.pt (pw_or (pt_cmpR (op_neD hr.units) (m0_ MM hr (by decide) O.cl OM.members (pv 0)) (pv 2) (nomark _)) (pw_or (pt_cmpR (op_neD hr.units) (pe_callTy (T := "list") (call_list_dK rfl) (by rfl) T.list (by decide +kernel) (pa_cons (m0_ MC hr (by decide) O.cl OM.coins (pv 0)) pa_nil)) (pv 2) (nomark _)) (pw_or1 (pt_cmpR (op_neD hr.units) (pe_callTy (T := "list") (call_list_dK rfl) (by rfl) T.list (by decide +kernel) (pa_cons (m0_ MD hr (by decide) O.cl OM.debts (pv 0)) pa_nil)) (pv 2) (nomark _)))))) (pss_one (ps_ret pe_bl)) pss_nil)
      (pss_cons (ps_if (pt_cmpR (op_neDc hr.units) (m0_ MC hr (by decide) O.cl OM.coins (pv 0)) (pe_callTy (T := "dict") (call_dictP rfl) (by rfl) T.dict (by decide +kernel) (pa_cons (pe_lc (own := [("name", 3)]) (g := gName 3) (tt := tYes) rfl sc__law_is_told.nd (pi_list (pv 2)) (blkOk_by (N := ["made", "world", "names", "name"]) (sc := defScope s__law_is_told) (by decide +kernel)) (fun _ _ _ _ _ => (pg_name (i := 3) sc__law_is_told.nd rfl (by first | exact Or.inl rfl | exact Or.inr rfl))) (fun _ _ _ _ _ => pts_nil) (fun _ _ _ _ _ => (pe_tup (pa_cons (pv 3) (pa_cons (pe_dget2 (hu_of hr) (pe_ix (ix_tupK K rfl) (pv 1) pe_int (fun _ _ => rfl)) (pv 3) pe_int ⟨rfl, by rfl, rfl, rfl⟩) pa_nil))))) pa_nil)) (nomark _)) (pss_one (ps_ret pe_bl)) pss_nil)
      (pss_cons (ps_if (pt_cmpR (op_neDc hr.units) (m0_ MD hr (by decide) O.cl OM.debts (pv 0)) (pe_callTy (T := "dict") (call_dictP rfl) (by rfl) T.dict (by decide +kernel) (pa_cons (pe_lc (own := [("name", 3)]) (g := gName 3) (tt := tYes) rfl sc__law_is_told.nd (pi_list (pv 2)) (blkOk_by (N := ["made", "world", "names", "name"]) (sc := defScope s__law_is_told) (by decide +kernel)) (fun _ _ _ _ _ => (pg_name (i := 3) sc__law_is_told.nd rfl (by first | exact Or.inl rfl | exact Or.inr rfl))) (fun _ _ _ _ _ => pts_nil) (fun _ _ _ _ _ => (pe_tup (pa_cons (pv 3) (pa_cons (pe_callTy (T := "list") (call_list_ofK K rfl) (by rfl) T.list (by decide +kernel) (pa_cons (pe_dget2 (hu_of hr) (pe_ix (ix_tupK K rfl) (pv 1) pe_int (fun _ _ => rfl)) (pv 3) (pe_lst pa_nil) ⟨rfl, by rfl, rfl, rfl⟩) pa_nil)) pa_nil))))) pa_nil)) (nomark _)) (pss_one (ps_ret pe_bl)) pss_nil)
      (pss_one (ps_ret (pe_callB (id := "all") (cr_all rfl) (by rfl) T.all (by decide +kernel) (pa_cons (pe_lc (own := [("name", 3)]) (g := gName 3) (tt := tYes) rfl sc__law_is_told.nd (pi_list (pv 2)) (blkOk_by (N := ["made", "world", "names", "name"]) (sc := defScope s__law_is_told) (by decide +kernel)) (fun _ _ _ _ _ => (pg_name (i := 3) sc__law_is_told.nd rfl (by first | exact Or.inl rfl | exact Or.inr rfl))) (fun _ _ _ _ _ => pts_nil) (fun _ _ _ _ _ => (pe_cmpR op_eq (mE_ (K := K) MO rfl hr (by decide) O.cl OM.owed passes_never (pv 0) (pa_cons (pv 3) pa_nil)) (pe_cal C_law_owed hr (by first | decide | omega) (by rfl) (pa_cons (pv 1) (pa_cons (pv 3) pa_nil))) (nomark _)))) pa_nil)))))))), ?_⟩
  obtain ⟨dx, c, d, kc, kd, h1, h2, h3, h4, h5, nd, lw, h7⟩ := id hx
  obtain ⟨t, wc, wd, wkc, wkd, rfl, b1, b2, b3, b4, b5⟩ := id hw
  refine ⟨_, rfl, _, cs, ds, rfl, hw, g.al, g.dn, fun H1 pn ys1 s1 p0 hp n1 => ?_⟩
  obtain rfl : ys1 = ys := nms_one n1 nm fun _ => Iff.rfl
  have wn := ws_names cs ds ys1
  have ly := nm.len g
  have okn : ∀ s ∈ ys1, nameOk (.str s) = true := fun s m => g.name ((nm.2.2 s).mp m)
  have shp := shaped_strs ys1 okn
  obtain ⟨l1, l2, l3, l4⟩ := g.lens
  have hgo : ∀ {H' : Hp}, Same H1 H' → H' x = some (.ins (He.ga K "Debts") dx [("_coins", .ref c), ("_debts", .ref d)]) ∧ DebR K H' x (wsOf cs ds ys1) ∧ WorldR H' (.ref t) cs ds ∧ H' pn = some (.lst (ys1.map V.str)) := fun {H'} s' => ⟨(s1.trans s') _ _ h1, hx.mono (s1.trans s'), hw.mono (s1.trans s'), s' _ _ hp⟩
  have sq : ∀ {G : Hp} {a : Addr} {xs : List V}, G a = some (.lst xs) → xs = ys1.map V.str → Dp K G (.ref a) (.list (ys1.map PyData.str)) := fun h e => .lst (SqL.of h) (by rw [e]; exact dp_strs ys1)
  obtain ⟨a1, a2, a3, a4⟩ := hgo (Same.refl H1)
  refine ⟨_, rfl, x, dx, _, rfl, a1, rfl, x, _, rfl, a2, fun p1 e1 => ?_⟩
  have t1 : Same H1 (upd H1 p1 (.lst (((wsOf cs ds ys1).map (·.1)).map V.str))) := Same.up e1
  refine ⟨_, rfl, _, _, sq upd_same (by rw [wn]), sq (t1 _ _ a4) rfl, shp, shp, _, rfl, ?_⟩
  rw [strs_same]
  generalize upd H1 p1 _ = G1 at t1 ⊢
  obtain ⟨a1, a2, a3, a4⟩ := hgo t1
  refine iteF ⟨_, rfl, x, dx, _, rfl, a1, rfl, x, _, rfl, a2, fun p2 kc2 e2 cr2 => ⟨p2, kc2, rfl, upd_same, fun p3 e3 => ?_⟩⟩
  have t2 : Same G1 (upd (upd G1 p2 (.dK kc2)) p3 (.lst (kc2.map fun kv => kV kv.1))) := (Same.up e2).trans (Same.up e3)
  refine ⟨_, rfl, _, _, sq upd_same (by rw [keys_c cr2, wn]), sq (t2 _ _ a4) rfl, shp, shp, _, rfl, ?_⟩
  rw [strs_same]
  generalize upd (upd G1 p2 _) p3 _ = G2 at t2 ⊢
  have t12 := t1.trans t2
  obtain ⟨a1, a2, a3, a4⟩ := hgo t12
  refine iteF ⟨_, rfl, x, dx, _, rfl, a1, rfl, x, _, rfl, a2, fun G3 p4 kd4 t3 _ e4 dr4 _ => ⟨p4, kd4, rfl, e4, fun p5 e5 => ?_⟩⟩
  have t4 : Same G3 (upd G3 p5 (.lst (kd4.map fun kv => kV kv.1))) := Same.up e5
  refine ⟨_, rfl, _, _, sq upd_same (by rw [keys_d dr4, wn]), sq ((t3.trans t4) _ _ a4) rfl, shp, shp, _, rfl, ?_⟩
  rw [strs_same]
  generalize upd G3 p5 _ = G4 at t4 ⊢
  have t14 := t12.trans (t3.trans t4)
  obtain ⟨a1, a2, a3, a4⟩ := hgo t14
  refine iteF ?_
  clear t1 t2 t12 t3 t4 dr4 e4
  refine ⟨_, rfl, x, dx, _, rfl, a1, rfl, x, _, rfl, a2, fun p6 kc6 e6 cr6 => ?_⟩
  have t6 : Same G4 (upd G4 p6 (.dK kc6)) := Same.up e6
  have k6 : (upd G4 p6 (.dK kc6)) p6 = some (.dK kc6) := upd_same
  generalize upd G4 p6 (.dK kc6) = G6 at t6 k6 ⊢
  have t16 := t14.trans t6
  obtain ⟨a1, a2, a3, a4⟩ := hgo t16
  have s16 := s1.trans t16
  refine ⟨_, rfl, pn, rfl, ⟨_, SqL.of a4⟩, fun B hB => lc_gen walk_list at_any ys1 (fun _ => true) (by rw [List.length_map]) (sz (m := 60) (by rw [List.length_map]; omega)) hB (fun H' s' => SqL.of (s' _ _ a4)) (PrAt fun _ s z => z = .int (gC cs s)) (fun _ _ _ _ e h => ?_) (fun _ _ _ _ _ e h => ?_)
    (fun j u z H3 A B lt hu hz s3 kA kB => ?_) (fun H3 acc s3 h3' p3 => ?_)⟩
  · obtain ⟨t2, z, e1, e2, e3⟩ := h
    exact ⟨t2, z, e1, e _ _ e2, e3⟩
  · obtain ⟨t2, z, e1, e2, e3⟩ := h
    exact ⟨t2, z, e1, by rw [upd_ne (ne_of e2 e (by intro z; cases z))]; exact e2, e3⟩
  · rw [List.getElem?_map, hz] at hu
    obtain rfl : V.str z = u := Option.some.inj hu
    have s36 := s16.trans s3
    refine ⟨rfl, ?_⟩
    simp only [tYes, if_true]
    refine ⟨_, rfl, _, rfl, t, _, 0, _, rfl, rfl, SqT.of (s36 _ _ b1), rfl, wc, rfl, .inl ⟨wkc, .inl (s36 _ _ b2)⟩, _, rfl, valV wkc (Sum.inr z), .inl ⟨wkc, Sum.inr z, .inl (s36 _ _ b2), rfl, rfl⟩, ?_⟩
    have eg : (valV wkc (Sum.inr z)).getD (V.int 0) = .int (gC cs z) := by
      rw [b3.val]
      unfold gC
      cases cs.lookup z <;> rfl
    rw [eg]
    exact ⟨two_line, fun t2 ht2 => kA rfl _ _ (Same.up ht2) ⟨t2, _, rfl, upd_same, rfl⟩⟩
  rw [List.filter_eq_self.mpr fun _ _ => rfl] at p3
  obtain ⟨ts, kvs, rfl, pp, en⟩ := pairs_of (K := K) p3
  refine ⟨B, ts, kvs, rfl, SqL.of h3', pp, fun f hf => ?_⟩
  rw [merge_ent en nm.1]
  refine ⟨p6, f, kc6, kvs, _, _, rfl, rfl, Same.up hf _ _ (s3 _ _ k6), upd_same, dcd_coins cr6, dcd_coins (ent_coins (H := H) (ds := ds) en), _, rfl, ?_⟩
  rw [eqvK_self coin_self (by rw [wn]; exact nm.1)]
  have t8 := (t16.trans s3).trans (Same.up (o := .dK kvs) hf)
  generalize upd H3 f (.dK kvs) = G8 at t8 ⊢
  clear s3 h3' p3 pp hf a1 a2 a3 a4
  refine iteF ?_
  obtain ⟨a1, a2, a3, a4⟩ := hgo t8
  refine ⟨_, rfl, x, dx, _, rfl, a1, rfl, x, _, rfl, a2, fun G9 p9 kd9 t9 _ e9 dr9 _ => ?_⟩
  have t19 := t8.trans t9
  obtain ⟨a1, a2, a3, a4⟩ := hgo t19
  have s19 := s1.trans t19
  refine ⟨_, rfl, pn, rfl, ⟨_, SqL.of a4⟩, fun B hB => lc_genD walk_list at_any ys1 (fun _ => true) (by rw [List.length_map]) (sz (m := 60) (by rw [List.length_map]; omega)) hB (fun H' s' => SqL.of (s' _ _ a4)) (PrAt fun H s z => ∃ l, z = .ref l ∧ l ≠ B ∧ RowsAt H (.ref l) (gD ds s)) (fun _ _ _ _ e h => ?_) (fun _ _ _ _ _ e h => ?_)
    (fun j u z H3 A B' lt hu hz nB s3 kA kB => ?_) (fun H3 acc s3 h3' p3 => ?_)⟩
  · obtain ⟨t2, z, e1, e2, l, e3, e4, e5⟩ := h
    exact ⟨t2, z, e1, e _ _ e2, l, e3, e4, e5.mono e⟩
  · obtain ⟨t2, z, e1, e2, l, e3, e4, e5⟩ := h
    exact ⟨t2, z, e1, by rw [upd_ne (ne_of e2 e (by intro z; cases z))]; exact e2, l, e3, e4, RowsAt.ne e e4 e5⟩
  · rw [List.getElem?_map, hz] at hu
    obtain rfl : V.str z = u := Option.some.inj hu
    have s39 := s19.trans s3
    refine ⟨rfl, ?_⟩
    simp only [tYes, if_true]
    refine ⟨_, rfl, _, rfl, t, _, 1, _, rfl, rfl, SqT.of (s39 _ _ b1), rfl, wd, rfl, .inl ⟨wkd, .inl (s39 _ _ b4)⟩, _, rfl, lineN (n := 0), fun q0 hq => ?_⟩
    have s0 : Same H (upd H3 q0 (.lst [])) := s39.trans (Same.up hq)
    obtain ⟨l, us, el, hl, pr⟩ := get_rows b5 z s0 upd_same
    refine ⟨valV wkd (Sum.inr z), .inl ⟨wkd, Sum.inr z, .inl (s0 _ _ b4), rfl, rfl⟩, l, us, by rw [el], .inl (SqL.of hl), fun p2 hp2 => ⟨two_line, fun t2 ht2 => ?_⟩⟩
    have npB : p2 ≠ B := fun e => nB (by rw [← e]; rw [upd_ne (fun w => by rw [w, upd_same] at hp2; cases hp2)] at hp2; exact hp2)
    exact kA rfl _ _ (((Same.up hq).trans (Same.up hp2)).trans (Same.up ht2)) ⟨t2, _, rfl, upd_same, p2, rfl, npB, p2, us, rfl, Same.up ht2 _ _ upd_same, L2.Paired.mapP pr fun _ _ h => (h.mono (Same.up hp2)).mono (Same.up ht2)⟩
  rw [List.filter_eq_self.mpr fun _ _ => rfl] at p3
  obtain ⟨ts, kvs2, rfl, pp, en2⟩ := pairs_of (K := K) p3
  refine ⟨B, ts, kvs2, rfl, SqL.of h3', pp, fun f hf => ?_⟩
  rw [merge_ent en2 nm.1]
  have en3 : Ent (fun s v => RowsAt (upd H3 f (.dK kvs2)) v (gD ds s)) kvs2 ys1 := en2.imp fun s v ⟨l, e1, _, h⟩ => by rw [e1]; exact h.mono (Same.up hf)
  refine ⟨p9, f, kd9, kvs2, _, _, rfl, rfl, Same.up hf _ _ (s3 _ _ e9), upd_same, dcd_debts (L2.Paired.mapP dr9 fun _ _ h => ⟨h.1, (h.2.mono s3).mono (Same.up hf)⟩) h7, dcd_debts (ent_debts (cs := cs) en3) (g.mb nm), _, rfl, ?_⟩
  rw [eqvK_self debt_self (by rw [wn]; exact nm.1)]
  have t10 := (t19.trans s3).trans (Same.up (o := .dK kvs2) hf)
  generalize upd H3 f (.dK kvs2) = G10 at t10 ⊢
  clear s3 h3' p3 pp hf a1 a2 a3 a4
  refine iteF ?_
  obtain ⟨a1, a2, a3, a4⟩ := hgo t10
  refine ⟨_, rfl, pn, rfl, ⟨_, SqL.of a4⟩, fun B hB => lc_f walk_list at_any ys1 (fun _ => V.bl true) (by rw [List.length_map]) (sz (m := 60) (by rw [List.length_map]; omega)) hB (fun H' s' => SqL.of (s' _ _ a4)) (fun j u z H3 A lt hu hz s3 kA => ?_) (fun H3 s3 h3' => ?_)⟩
  · rw [List.getElem?_map, hz] at hu
    obtain rfl : V.str z = u := Option.some.inj hu
    have s10 := s1.trans (t10.trans s3)
    refine ⟨rfl, _, rfl, x, dx, _, rfl, s10 _ _ h1, rfl, _, rfl, x, _, _, rfl, hx.mono s10, .inl ⟨_, ws_in (List.mem_of_getElem? hz), rfl, gD_len l4 z, fun H4 s4 => ⟨_, rfl, _, rfl, _, z, cs, ds, rfl, hw.mono (s10.trans s4), l4, fun H5 s5 => ⟨rfl, ?_⟩⟩⟩⟩
    rw [decide_eq_true rfl]
    exact kA _ (s4.trans s5)
  · refine ⟨B, ys1.map fun _ => true, rfl, SqL.of (by rw [h3', List.map_map]; rfl), ?_⟩
    have ea : (ys1.map fun _ => true).all id = true := by
      rw [List.all_map]
      exact List.all_eq_true.mpr fun _ _ => rfl
    rw [ea]
    exact q H3 (s1.trans (t10.trans s3))
end
end K38

set_option Elab.async false
set_option linter.all false
set_option maxRecDepth 100000
set_option maxHeartbeats 4000000
namespace Sr
open PySem PySem.Spec PyProof.Rows L2
/-- a method of a list or a dict called in a comprehension's block -/
theorem pe_bmK {X : Cx} {T id name : String} {r : V → List V → Hp → VK → Prop} {o e : Expr} {es : List Expr} {to : TE} {t : TA} {apos cpos : Pos} (K : PySem.W.Frag) (hK : X.K = K) (pa : PlainAttrs T) (slot : Slot T name id) (hty : typeOf (.builtin id) = pure (.type "method_descriptor")) (hm : MtR X id r) (ho : PE X o to) (ha : PA X (e :: es) t)
    (hbase : attributeBase o name X.env (eval o X.env) = eval o X.env := by rfl)
    (hfew : ((backTo cpos (starEach (e :: es) X.env)).all (fun x => !x.1) && (backToKw cpos (keywordEach [] X.env)).all (fun x => x.1.isSome)
      && decide ((e :: es).length + ([] : List Keyword).length + (if ([] : List Keyword).isEmpty then 0 else 1) < 30)) = true := by rfl)
    (hline : (apos.endLine == cpos.line) = true := by rfl) (hs : starEach (e :: es) X.env = (false, eval e X.env) :: starEach es X.env := by rfl) (hplain : (backTo cpos (starEach es X.env)).any (·.1) = false := by rfl) :
    PE X (.Call (.Attribute o name apos) (e :: es) [] cpos) (tBM K T r to t) := by
  subst hK
  exact pe_bm pa slot hty hm ho ha hbase hfew hline hs hplain
end Sr

set_option Elab.async false
set_option linter.all false
set_option maxRecDepth 100000
set_option maxHeartbeats 4000000
namespace K38
open PySem PySem.Spec PyProof.Rows L2 Sr
theorem erase_map {α β : Type} (f : α → β) : ∀ (l : List α) (i : Nat), (l.map f).eraseIdx i = (l.eraseIdx i).map f
  | [], _ => rfl
  | _ :: _, 0 => rfl
  | x :: r, i + 1 => congrArg (f x :: ·) (erase_map f r i)
theorem erase_perm {α : Type} : ∀ {l : List α} {i : Nat} {x : α}, l[i]? = some x → l.Perm (x :: l.eraseIdx i)
  | [], _, _, h => by simp at h
  | y :: r, 0, x, h => by
    obtain rfl : y = x := by simpa using h
    exact List.Perm.refl _
  | y :: r, i + 1, x, h => by
    have p := erase_perm (l := r) (i := i) (x := x) (by simpa using h)
    exact (p.cons y).trans (List.Perm.swap x y _)
/-- new ranks -/
def spMix : Sp := fun vs H Q _ => ∃ (a l : Addr) (xs : List V) (n : Nat), vs = [.ref a, .ref l] ∧ DnAt n H a ∧ n ≤ 1000000 ∧ (rm H a) l = some (.lst xs) ∧ xs.length ≤ 60 ∧
  ∀ (p : Addr) (H' : Hp) (ys : List V), DnAt (n + xs.length) H' a → Same (rm H a) (rm H' a) → (rm H a) p = none → (rm H' a) p = some (.lst ys) → ys.Perm xs → Q (.ref p) H'
section
variable {P : Program} {w : World} {K : PySem.W.Frag} {mg : Str → Option Value} {base : Heap}
abbrev s__law_mix : Stmt := top 34
theorem sc__law_mix : FnScope ["stream", "things", "left", "k"] ["stream", "things"] (defScope s__law_mix) := ⟨rfl, rfl, rfl, by decide +kernel, rfl, by decide +kernel, by decide +kernel⟩
theorem c__law_mix (T : Txt K mg) (D : Dfn K mg "_law_mix" s__law_mix) (C_law_draw : Cal P w K mg base 1 "_law_draw" ["stream", "many"] spDraw) : Cal P w K mg base 2 "_law_mix" ["stream", "things"] spMix := by
  refine D.cal sc__law_mix (fun _ _ _ _ _ _ us hl => match us, hl with | [_, _], _ => rfl) (fun vs H Q E h => ?_) fun cdv A outer s H vs Q E hr h => ?_
  · obtain ⟨a, l, xs, n, rfl, _⟩ := h
    rfl
  obtain ⟨a, l, xs, n, rfl, hd, hb, hl, hz, q⟩ := h
  refine ⟨_, (pss_cons (ps_set (i := 2) sc__law_mix.nd rfl (by first | exact Or.inl rfl | exact Or.inr rfl) (pe_callTy (T := "list") call_list_of (by rfl) T.list (by decide +kernel) (pa_cons (pv 1) pa_nil)))
      (pss_one (ps_ret (pe_lc (own := [("k", 3)]) (g := gName 3) (tt := tYes) rfl sc__law_mix.nd (pi_range1 (by rfl) T.range (pa_cons (pe_callB (id := "len") call_len_seq (by rfl) T.len (by decide +kernel) (pa_cons (pv 2) pa_nil)) pa_nil)) (blkOk_by (N := ["stream", "things", "left", "k"]) (sc := defScope s__law_mix) (by decide +kernel)) (fun _ _ _ _ _ => (pg_name (i := 3) sc__law_mix.nd rfl (by first | exact Or.inl rfl | exact Or.inr rfl))) (fun _ _ _ _ _ => pts_nil) (fun _ _ _ _ _ => (pe_bmK K rfl PySem.F.plainAttrs_list PySem.F.slot_list_pop PySem.F.type_list_pop mt_popAt (pv 2) (pa_cons (pe_cal C_law_draw hr (by first | decide | omega) (by rfl) (pa_cons (pv 0) (pa_cons (pe_callB (id := "len") (call_len_seqK K rfl) (by rfl) T.len (by decide +kernel) (pa_cons (pv 2) pa_nil)) pa_nil))) pa_nil))))))), ?_⟩
  have hl0 := rm_same _ _ hl
  have nla : l ≠ a := fun z => by rw [z, rm_at] at hl; cases hl
  refine ⟨_, rfl, _, _, rfl, .inl (SqL.of hl0), fun m hm => ?_⟩
  have sm := Same.up (H := H) (o := .lst xs) hm
  have nma := hd.new hm
  have d1 := hd.up sm
  have mm : (rm H a) m = none := by rw [rm_ne nma]; exact hm
  refine ⟨_, rfl, m, _, rfl, .inl (SqL.of upd_same), _, rfl, by omega, by omega, fun D hD => ?_⟩
  have nDa := d1.new hD
  have nDm : D ≠ m := fun z => by rw [z, upd_same] at hD; cases hD
  have hD0 : H D = none := by rw [upd_ne nDm] at hD; exact hD
  have mD : (rm H a) D = none := by rw [rm_ne nDa]; exact hD0
  refine lc_it walk_range (fun i H' => DnAt (n + i) H' a ∧ Same (rm H a) (rm H' a) ∧ ∃ ls acc, H' m = some (.lst ls) ∧ H' D = some (.lst acc) ∧ (acc ++ ls).Perm xs ∧ acc.length = i) ⟨d1.set nDa, same_set (Same.rm sm) mD, xs, [], (upd_ne nDm.symm).trans upd_same, upd_same, List.Perm.refl _, rfl⟩ (fun _ _ _ _ => trivial) (fun i x H1 H2 hi p y => ?_) fun H' p => ?_
  · obtain ⟨rfl, rfl⟩ := y
    obtain ⟨d2, s2, ls, acc, hm2, hD2, pm, la⟩ := p
    have hi' : i < xs.length := by omega
    have ll : acc.length + ls.length = xs.length := by rw [← List.length_append, pm.length_eq]
    refine ⟨rfl, _, rfl, .inl ⟨rfl, _, SqL.of hm2⟩, _, rfl, _, rfl, m, _, rfl, .inl (SqL.of hm2), a, _, n + i, rfl, d2, by omega, by omega, by omega, fun k o q0 q1 ho => ?_⟩
    have lt : k.toNat < ls.length := by omega
    have hy : ls[k.toNat]? = some ls[k.toNat] := List.getElem?_eq_getElem lt
    have pm1 := erase_perm hy
    refine ⟨m, ls, k, k.toNat, ls[k.toNat], rfl, rfl, (upd_ne nma).trans hm2, by omega, by omega, PySem.StrLaws.seqIndex_nonneg q0 (by omega), hy, acc, (upd_ne nDm).trans ((upd_ne nDa).trans hD2), sz (m := 60) (by omega), ?_⟩
    refine ⟨((DnAt.put ho).set nma).set nDa, same_set (same_set (s2.trans rm_put) mm) mD, ls.eraseIdx k.toNat, acc ++ [ls[k.toNat]], (upd_ne nDm.symm).trans upd_same, upd_same, ?_, by rw [List.length_append, la]; rfl⟩
    rw [List.append_assoc]
    exact (List.Perm.append_left acc pm1.symm).trans pm
  · obtain ⟨d2, s2, ls, acc, hm2, hD2, pm, la⟩ := p
    have e0 : ls = [] := by
      have := pm.length_eq
      rw [List.length_append] at this
      exact List.length_eq_zero_iff.mp (by omega)
    subst e0
    rw [List.append_nil] at pm
    exact q D H' acc (d2.le (by omega)) s2 mD (by rw [rm_ne nDa]; exact hD2) pm
end
end K38

set_option Elab.async false
set_option linter.all false
set_option maxRecDepth 100000
set_option maxHeartbeats 4000000
namespace K38
open PySem PySem.Spec PyProof.Rows L2 Sr LamX
abbrev s__law_tried : Stmt := top 35
theorem sc__law_tried : FnScope ["ask", "e"] ["ask"] (defScope s__law_tried) := ⟨rfl, rfl, rfl, by decide +kernel, rfl, by decide +kernel, by decide +kernel⟩
/-- the errors that are caught: the class, its field, the word told -/
def Caught (K : PySem.W.Frag) (C : Addr) (at_ w : Str) : Prop := (C = He.ga K "BadCoins" ∧ at_ = "thing" ∧ w = "coins") ∨ (C = He.ga K "BadDebts" ∧ at_ = "thing" ∧ w = "debts") ∨ (C = He.ga K "NoMember" ∧ at_ = "member" ∧ w = "member") ∨ (C = He.ga K "BadNumber" ∧ at_ = "number" ∧ w = "number") ∨ (C = He.ga K "BadName" ∧ at_ = "thing" ∧ w = "name")
/-- what was tried: told, or the word of the error with what it holds -/
def TTr (K : PySem.W.Frag) : (XK → Hp → VK → Prop) → Hp → VK → Prop := fun tl H Q =>
  tl (fun cls d H' => ∃ (C : Addr) (at_ w : Str) (e : Addr) (v : V), Caught K C at_ w ∧ cls = .ref C ∧ d = some e ∧ H' e = some (.xd [(at_, v)]) ∧ ∀ p, H' p = none → Q (.ref p) (upd H' p (.tup [.str w, v]))) H
    fun v H' => [V.str "told", v].length ≤ sizeLine ∧ ∀ p, H' p = none → Q (.ref p) (upd H' p (.tup [.str "told", v]))
/-- what the head tells of the errors that are caught -/
structure Xs (K : PySem.W.Frag) (mg : Str → Option Value) : Prop where
  hC : mg "BadCoins" = some (.ref (He.ga K "BadCoins"))
  hD : mg "BadDebts" = some (.ref (He.ga K "BadDebts"))
  hM : mg "NoMember" = some (.ref (He.ga K "NoMember"))
  hN : mg "BadNumber" = some (.ref (He.ga K "BadNumber"))
  hA : mg "BadName" = some (.ref (He.ga K "BadName"))
  eC : Err K (He.ga K "BadCoins") (He.fAd K ("BadCoins", some "__init__")) "thing"
  eD : Err K (He.ga K "BadDebts") (He.fAd K ("BadDebts", some "__init__")) "thing"
  eM : Err K (He.ga K "NoMember") (He.fAd K ("NoMember", some "__init__")) "member"
  eN : Err K (He.ga K "BadNumber") (He.fAd K ("BadNumber", some "__init__")) "number"
  eA : Err K (He.ga K "BadName") (He.fAd K ("BadName", some "__init__")) "thing"
  x11 : PySem.W.exmOne K (.ref (He.ga K "BadCoins")) (.ref (He.ga K "BadCoins")) = some true
  x21 : PySem.W.exmOne K (.ref (He.ga K "BadDebts")) (.ref (He.ga K "BadCoins")) = some false
  x22 : PySem.W.exmOne K (.ref (He.ga K "BadDebts")) (.ref (He.ga K "BadDebts")) = some true
  x31 : PySem.W.exmOne K (.ref (He.ga K "NoMember")) (.ref (He.ga K "BadCoins")) = some false
  x32 : PySem.W.exmOne K (.ref (He.ga K "NoMember")) (.ref (He.ga K "BadDebts")) = some false
  x33 : PySem.W.exmOne K (.ref (He.ga K "NoMember")) (.ref (He.ga K "NoMember")) = some true
  x41 : PySem.W.exmOne K (.ref (He.ga K "BadNumber")) (.ref (He.ga K "BadCoins")) = some false
  x42 : PySem.W.exmOne K (.ref (He.ga K "BadNumber")) (.ref (He.ga K "BadDebts")) = some false
  x43 : PySem.W.exmOne K (.ref (He.ga K "BadNumber")) (.ref (He.ga K "NoMember")) = some false
  x44 : PySem.W.exmOne K (.ref (He.ga K "BadNumber")) (.ref (He.ga K "BadNumber")) = some true
  x51 : PySem.W.exmOne K (.ref (He.ga K "BadName")) (.ref (He.ga K "BadCoins")) = some false
  x52 : PySem.W.exmOne K (.ref (He.ga K "BadName")) (.ref (He.ga K "BadDebts")) = some false
  x53 : PySem.W.exmOne K (.ref (He.ga K "BadName")) (.ref (He.ga K "NoMember")) = some false
  x54 : PySem.W.exmOne K (.ref (He.ga K "BadName")) (.ref (He.ga K "BadNumber")) = some false
  x55 : PySem.W.exmOne K (.ref (He.ga K "BadName")) (.ref (He.ga K "BadName")) = some true
theorem g_tried {X : Cx} {g : Addr} (Z : Xs X.K X.mg) (cdg : Value) (q : Str) :
    GivesTo X ["ask", "e"] "_law_tried" (defScope s__law_tried) g cdg (defBody s__law_tried) "ask" q (TTr X.K) := by
  intro f c' s H Q tl act hc h
  refine ⟨_, pss_one (ps_try_named (X := (cxOf C8.CX0 X.prog X.w X.K X.mg X.base ["ask", "e"] "_law_tried" (defScope s__law_tried) g cdg X.A X.stack s H C8.E0).nox)
      (tb := fun W D σ H => ∃ Ech : XK, (∀ cls d σ' H', Ech cls d H' → W cls d σ' H') ∧ σ[0]? = some (some (.ref f)) ∧ H c' = some (CodeO c' q) ∧ tl Ech H (fun v H' => [V.str "told", v].length ≤ sizeLine ∧ ∀ p, H' p = none → D.rt (.ref p) (upd H' p (.tup [.str "told", v]))))
      (l := [(.ref (He.ga X.K "BadCoins"), 1, fun a cls d D σ H => σ.length = 2 → tRet (tTup (tCons (tC (.str "coins")) (tCons (tXf a cls d (He.ga X.K "BadCoins") "thing" (tVar 1)) tNil))) D σ H),
        (.ref (He.ga X.K "BadDebts"), 1, fun a cls d D σ H => σ.length = 2 → tRet (tTup (tCons (tC (.str "debts")) (tCons (tXf a cls d (He.ga X.K "BadDebts") "thing" (tVar 1)) tNil))) D σ H),
        (.ref (He.ga X.K "NoMember"), 1, fun a cls d D σ H => σ.length = 2 → tRet (tTup (tCons (tC (.str "member")) (tCons (tXf a cls d (He.ga X.K "NoMember") "member" (tVar 1)) tNil))) D σ H),
        (.ref (He.ga X.K "BadNumber"), 1, fun a cls d D σ H => σ.length = 2 → tRet (tTup (tCons (tC (.str "number")) (tCons (tXf a cls d (He.ga X.K "BadNumber") "number" (tVar 1)) tNil))) D σ H),
        (.ref (He.ga X.K "BadName"), 1, fun a cls d D σ H => σ.length = 2 → tRet (tTup (tCons (tC (.str "name")) (tCons (tXf a cls d (He.ga X.K "BadName") "thing" (tVar 1)) tNil))) D σ H)]) rfl rfl sc__law_tried.nd takes0 (fun W pn xe tk _ => ?_) (.cons ⟨?_⟩ (.cons ⟨?_⟩ (.cons ⟨?_⟩ (.cons ⟨?_⟩ (.cons ⟨?_⟩ .nil)))))), ?_⟩
  · refine ⟨fun pins s' σ H' D I h' => ?_⟩
    obtain ⟨Ech, hW, h1, h2, h3⟩ := h'
    have hp := act W pn xe Ech ⟨168, 24, 168, 27⟩ ⟨168, 24, 168, 29⟩ tk hW
    exact (pss_one (ps_ret (pe_tup (pa_cons pe_str (pa_cons hp pa_nil))))).run pins s' σ H' D I ⟨h1, h2, h3⟩
  · refine ⟨_, _, _, _, _, _, rfl, ⟨rfl, by decide, .inl Z.hC⟩, rfl, rfl, fun a oe cls d pn hz hf => ?_⟩
    exact pss_len (pss_one (ps_ret (pe_tup (pa_cons pe_str (pa_cons (pe_xf Z.eC.xf Z.eC.no hz hf (pv 1)) pa_nil)))))
  · refine ⟨_, _, _, _, _, _, rfl, ⟨rfl, by decide, .inl Z.hD⟩, rfl, rfl, fun a oe cls d pn hz hf => ?_⟩
    exact pss_len (pss_one (ps_ret (pe_tup (pa_cons pe_str (pa_cons (pe_xf Z.eD.xf Z.eD.no hz hf (pv 1)) pa_nil)))))
  · refine ⟨_, _, _, _, _, _, rfl, ⟨rfl, by decide, .inl Z.hM⟩, rfl, rfl, fun a oe cls d pn hz hf => ?_⟩
    exact pss_len (pss_one (ps_ret (pe_tup (pa_cons pe_str (pa_cons (pe_xf Z.eM.xf Z.eM.no hz hf (pv 1)) pa_nil)))))
  · refine ⟨_, _, _, _, _, _, rfl, ⟨rfl, by decide, .inl Z.hN⟩, rfl, rfl, fun a oe cls d pn hz hf => ?_⟩
    exact pss_len (pss_one (ps_ret (pe_tup (pa_cons pe_str (pa_cons (pe_xf Z.eN.xf Z.eN.no hz hf (pv 1)) pa_nil)))))
  · refine ⟨_, _, _, _, _, _, rfl, ⟨rfl, by decide, .inl Z.hA⟩, rfl, rfl, fun a oe cls d pn hz hf => ?_⟩
    exact pss_len (pss_one (ps_ret (pe_tup (pa_cons pe_str (pa_cons (pe_xf Z.eA.xf Z.eA.no hz hf (pv 1)) pa_nil)))))
  · refine ⟨_, fun cls d σ' H' hE => ?_, rfl, hc, h⟩
    obtain ⟨C, at_, w, e, v, hC, rfl, rfl, he, hq⟩ := hE
    have h1 : ∀ {a : Addr}, (σ'.set 1 (some (V.ref a))).length = 2 → (σ'.set 1 (some (V.ref a)))[1]? = some (some (.ref a)) := fun {a} hl => by
      rw [List.length_set] at hl
      rw [List.getElem?_set_self (by omega)]
    rcases hC with ⟨rfl, rfl, rfl⟩ | ⟨rfl, rfl, rfl⟩ | ⟨rfl, rfl, rfl⟩ | ⟨rfl, rfl, rfl⟩ | ⟨rfl, rfl, rfl⟩
    · exact ⟨true, Z.x11, iteT fun a ha hl => ⟨_, h1 hl, rfl, rfl, e, _, v, rfl, he, rfl, two_line, fun p hp => hq p hp⟩⟩
    · exact ⟨false, Z.x21, iteF ⟨true, Z.x22, iteT fun a ha hl => ⟨_, h1 hl, rfl, rfl, e, _, v, rfl, he, rfl, two_line, fun p hp => hq p hp⟩⟩⟩
    · exact ⟨false, Z.x31, iteF ⟨false, Z.x32, iteF ⟨true, Z.x33, iteT fun a ha hl => ⟨_, h1 hl, rfl, rfl, e, _, v, rfl, he, rfl, two_line, fun p hp => hq p hp⟩⟩⟩⟩
    · exact ⟨false, Z.x41, iteF ⟨false, Z.x42, iteF ⟨false, Z.x43, iteF ⟨true, Z.x44, iteT fun a ha hl => ⟨_, h1 hl, rfl, rfl, e, _, v, rfl, he, rfl, two_line, fun p hp => hq p hp⟩⟩⟩⟩⟩
    · exact ⟨false, Z.x51, iteF ⟨false, Z.x52, iteF ⟨false, Z.x53, iteF ⟨false, Z.x54, iteF ⟨true, Z.x55, iteT fun a ha hl => ⟨_, h1 hl, rfl, rfl, e, _, v, rfl, he, rfl, two_line, fun p hp => hq p hp⟩⟩⟩⟩⟩⟩
end K38

set_option Elab.async false
set_option linter.all false
set_option maxRecDepth 100000
set_option maxHeartbeats 4000000
namespace K38
open PySem PySem.Spec PyProof.Rows L2 Sr
/-- data that may be compared -/
structure Odd (d : Dt) : Prop where
  pl : plainD d = true
  sh : PyData.canLay0 (toP d) = true
  dp : PyData.depth (toP d) ≤ 8
theorem Odd.shaped {d : Dt} (o : Odd d) : SeqAt.shaped (toP d) = true := by
  unfold SeqAt.shaped
  rw [o.sh, decide_eq_true (by have := o.dp; omega)]
  rfl
def spSame : Sp := fun vs H Q _ => ∃ f d w v dt, vs = [.ref f, .ref d] ∧ H f = some (.tup [.str w, v]) ∧ H d = some (.tup [.str w, v]) ∧ Is H v dt ∧ plainD dt = true ∧ PyData.canLay0 (toP dt) = true ∧ PyData.depth (toP dt) ≤ 8 ∧ PyData.canLay0 (.str w) = true ∧ w.length ≤ 1000 ∧ ∀ H', Same H H' → Q (.bl true) H'
section
variable {P : Program} {w : World} {K : PySem.W.Frag} {mg : Str → Option Value} {base : Heap}
abbrev s__law_same : Stmt := top 36
theorem sc__law_same : FnScope ["found", "due"] ["found", "due"] (defScope s__law_same) := ⟨rfl, rfl, rfl, by decide +kernel, rfl, by decide +kernel, by decide +kernel⟩
theorem c__law_same (T : Txt K mg) (D : Dfn K mg "_law_same" s__law_same) : Cal P w K mg base 1 "_law_same" ["found", "due"] spSame := by
  refine D.cal sc__law_same (fun _ _ _ _ _ _ us hl => match us, hl with | [_, _], _ => rfl) (fun vs H Q E h => ?_) fun cdv A outer s H vs Q E hr h => ?_
  · obtain ⟨f, d, w, v, dt, rfl, _⟩ := h
    rfl
  obtain ⟨f, d, w, v, dt, rfl, hf, hd, hv, pl, cl, dp, hw, lw, q⟩ := h
  refine ⟨_, (pss_one (ps_ret (pe_and (pe_cmpR (op_eqD hr.units) (pv 0) (pv 1) (nomark _)) (pe_one (pe_cmpR op_eq (pe_callB (id := "isinstance") call_isi (by rfl) T.isinstance (by decide +kernel) (pa_cons (pe_ix ix_tup (pv 0) pe_int (fun _ _ => rfl)) (pa_cons (pe_tyv (n := "bool") (by rfl) T.bool (by decide +kernel)) pa_nil))) (pe_callB (id := "isinstance") call_isi (by rfl) T.isinstance (by decide +kernel) (pa_cons (pe_ix ix_tup (pv 1) pe_int (fun _ _ => rfl)) (pa_cons (pe_tyv (n := "bool") (by rfl) T.bool (by decide +kernel)) pa_nil))) (nomark _)))))), ?_⟩
  have dq : ∀ a, H a = some (.tup [.str w, v]) → Dp K H (.ref a) (.tuple [.str w, toP dt]) := fun a ha => .tup (SqT.of ha) (.cons (.str w) (.cons (dp_of hv pl) .nil))
  have sh : SeqAt.shaped (.tuple [.str w, toP dt]) = true := by
    have hd : PyData.depth (.tuple [.str w, toP dt]) ≤ 64 := by
      show max (PyData.depth (.str w)) (max (PyData.depth (toP dt)) 0) + 1 ≤ 64
      have : PyData.depth (.str w) = 0 := rfl
      omega
    unfold SeqAt.shaped
    rw [decide_eq_true hd, Bool.and_true]
    show (PyData.canLay0 (.str w) && (PyData.canLay0 (toP dt) && true)) = true
    rw [hw, cl]
    rfl
  have eq : PyData.eqv (.tuple [.str w, toP dt]) (.tuple [.str w, toP dt]) = true := by
    show ((w == w) && (PyData.eqv (toP dt) (toP dt) && true)) = true
    rw [SeqAt.eqv_refl _ cl, beq_self_eq_true]
    rfl
  refine ⟨_, rfl, _, rfl, _, _, dq f hf, dq d hd, sh, sh, _, rfl, ?_⟩
  rw [eq]
  refine iteT ?_
  refine ⟨_, rfl, f, _, 1, _, rfl, rfl, SqT.of hf, rfl, v, _, _, _, _, rfl, .ty _, hv.ty, kit_bool K dt, _, rfl, d, _, 1, _, rfl, rfl, SqT.of hd, rfl, v, _, _, _, _, rfl, .ty _, hv.ty, kit_bool K dt, rfl, ?_⟩
  rw [decide_eq_true rfl]
  exact q H (Same.refl H)
end
end K38

set_option Elab.async false
set_option linter.all false
set_option maxRecDepth 100000
set_option maxHeartbeats 4000000
namespace Sr
open PySem PySem.Spec PyProof.Rows L2 LamX
/-- a lambda handed to a def, several tables about -/
theorem pe_lamT {X : Cx} (T : List (Addr × Str)) (qn : Str) {x a : Str} {st : Stmt} {Ng : List Str} {TT : (XK → Hp → VK → Prop) → Hp → VK → Prop} {k : Nat} {params : Arguments} {body : Expr} {scope : Scope} {t : XK → TE} {c P : Addr} {p lpos pos : Pos} (D : Dfn X.K X.mg x st) (Sg : FnScope Ng [a] (defScope st))
    (hb : ∀ (kV doc pm : Value) (an : Option Addr) (cdv ct : Value) (us : List Value), us.length = [a].length → bindArgs (PySem.W.fnOf x x (defArgs st) (defBody st) (defScope st) .none kV doc pm an cdv ct) ⟨us, []⟩ = pure ([a].zip us))
    (hmT : (P, qn ++ "<lambda>") ∈ T) (hu : ∀ p ∈ T, p.1 = P → p.2 = qn ++ "<lambda>")
    (hG : ∀ cdv : Value, GivesTo X Ng x (defScope st) (He.ga X.K x) cdv (defBody st) a (X.env.qual ++ "<lambda>") TT) (TB : TabB X.base X.mg c P) (hcode : X.env.code = .ref c) (hr : Room (k + 2) X.A)
    (hbody : ∀ (A : Around) (outer : List Env) (s : Shared) (H : Hp) (E : XK) (f c' : Addr), Room k (A.deeper (lamEnv X scope s.heap.objs.size f c')) → PE (lamCx X A outer s H E scope f c') body (t E))
    (hg : Gl X x) (L : LamS X.env.scope scope) (hbind : ∀ (q : Str) (cl : List (Str × Addr)) (pm cv ctv : Value), bindArgs (PySem.W.kla_fn "<lambda>" q params body scope cl pm cv ctv) ⟨[], []⟩ = pure [])
    (hqn : X.env.qual = qn := by rfl) (hdef : defaultsOf params X.env = ([], []) := by rfl) (hNg : Ng[0]? = some a := by rfl) (hva : Vis (defScope st) a := by first | exact Or.inl rfl | exact Or.inr (Or.inl rfl))
    (hdb : (x == ("__debug__" : Str)) = false := by decide) (hd : (a == ("__debug__" : Str)) = false := by decide) (hcd : (a == ("__classdict__" : Str)) = false := by decide) :
    PE X (.Call (.Name x p) [.Lambda params body scope lpos] [] pos) (tLam T TT t) := by
  subst hqn
  obtain ⟨fd, F⟩ := D.fn
  have hB := F.bindsN hb
  obtain ⟨oc, od, dV, kV, doc, pm, an, cdv, ct, osl, rfl, lk, hcg, _, _⟩ := F.ex
  exact pe_lamcall hg D.at_ F.kp lk hcg hB Sg hNg hva (hG cdv) TB hcode hmT hu hr L hdef hbind hbody hdb hd hcd
end Sr

set_option Elab.async false
set_option linter.all false
set_option maxRecDepth 100000
set_option maxHeartbeats 4000000
namespace K38
open PySem PySem.Spec PyProof.Rows L2 Sr LamX
abbrev Tb (P1 P2 P3 : Addr) : List (Addr × Str) := [(P1, "_law_splits_right" ++ ".<locals>." ++ "<lambda>"), (P2, "_law_given_right" ++ ".<locals>." ++ "<lambda>"), (P3, "_law_refused" ++ ".<locals>." ++ "<lambda>")]
theorem tb1 {P1 P2 P3 : Addr} (h2 : P1 ≠ P2) (h3 : P1 ≠ P3) : ∀ p ∈ Tb P1 P2 P3, p.1 = P1 → p.2 = "_law_splits_right" ++ ".<locals>." ++ "<lambda>" := fun p hp e => by
  simp only [List.mem_cons, List.not_mem_nil, or_false] at hp
  rcases hp with rfl | rfl | rfl
  · rfl
  · exact absurd e.symm h2
  · exact absurd e.symm h3
theorem tb2 {P1 P2 P3 : Addr} (h1 : P1 ≠ P2) (h3 : P2 ≠ P3) : ∀ p ∈ Tb P1 P2 P3, p.1 = P2 → p.2 = "_law_given_right" ++ ".<locals>." ++ "<lambda>" := fun p hp e => by
  simp only [List.mem_cons, List.not_mem_nil, or_false] at hp
  rcases hp with rfl | rfl | rfl
  · exact absurd e h1
  · rfl
  · exact absurd e.symm h3
theorem tb3 {P1 P2 P3 : Addr} (h1 : P1 ≠ P3) (h2 : P2 ≠ P3) : ∀ p ∈ Tb P1 P2 P3, p.1 = P3 → p.2 = "_law_refused" ++ ".<locals>." ++ "<lambda>" := fun p hp e => by
  simp only [List.mem_cons, List.not_mem_nil, or_false] at hp
  rcases hp with rfl | rfl | rfl
  · exact absurd e h1
  · exact absurd e h2
  · rfl
/-- a def with lambdas as a Cal: its code object is known -/
theorem calT {P : Program} {w : World} {K : PySem.W.Frag} {mg : Str → Option Value} {base : Heap} {x : Str} {st : Stmt} {N ps : List Str} {k : Nat} {sp : Sp} (D : Dfn K mg x st) (S : FnScope N ps (defScope st))
    (hb : ∀ (kV doc pm : Value) (an : Option Addr) (cdv ct : Value) (us : List Value), us.length = ps.length → bindArgs (PySem.W.fnOf x x (defArgs st) (defBody st) (defScope st) .none kV doc pm an cdv ct) ⟨us, []⟩ = pure (ps.zip us))
    (len : ∀ vs H Q E, sp vs H Q E → vs.length = ps.length)
    (hbody : ∀ (A : Around) (outer : List Env) (s : Shared) (H : Hp) (vs : List V) (Q : VK) (E : XK), Room k (A.deeper (envOfC x (defScope st) s.heap.objs.size (He.ga K x) (.ref (He.codeOf K (x, none))))) → sp vs H Q E →
      ∃ t, PSs (cxOf CX0 P w K mg base N x (defScope st) (He.ga K x) (.ref (He.codeOf K (x, none))) A outer s H E) (defBody st) t ∧ t { nx := fun _ H' => Q .non H', rt := Q } (L2.start N vs) H) : Cal P w K mg base (k + 1) x ps sp := by
  obtain ⟨fd, F⟩ := D.fn
  exact ⟨He.ga K x, fd, fun_ok F S len hbody, D.at_, F.kp, F.bindsN hb⟩
/-! ### all but the tables stays -/
theorem RowAt.ext {H H' : Hp} (e : ExtN H H') {v : V} {r : Str × Int} (h : RowAt H v r) : RowAt H' v r :=
  let ⟨t, a, b⟩ := h
  ⟨t, a, e _ _ b (fun _ z => by cases z)⟩
theorem RowsAt.ext {H H' : Hp} (e : ExtN H H') {v : V} {rs : Rw} (h : RowsAt H v rs) : RowsAt H' v rs :=
  let ⟨l, us, a, b, p⟩ := h
  ⟨l, us, a, e _ _ b (fun _ z => by cases z), L2.Paired.mapP p fun _ _ h => h.ext e⟩
theorem DebR.ext {K : PySem.W.Frag} {H H' : Hp} (e : ExtN H H') {x : Addr} {ws : List Mb} (h : DebR K H x ws) : DebR K H' x ws := by
  obtain ⟨dx, c, d, kc, kd, h1, h2, h3, h4, h5, h6⟩ := h
  exact ⟨dx, c, d, kc, kd, e _ _ h1 (fun _ z => by cases z), e _ _ h2 (fun _ z => by cases z), e _ _ h3 (fun _ z => by cases z), h4, L2.Paired.mapP h5 fun _ _ h => ⟨h.1, h.2.ext e⟩, h6⟩
theorem WorldR.ext {H H' : Hp} (e : ExtN H H') {v : V} {cs : Cn} {ds : Db} (h : WorldR H v cs ds) : WorldR H' v cs ds := by
  obtain ⟨t, c, d, kc, kd, e1, h1, h2, h3, h4, h5⟩ := h
  exact ⟨t, c, d, kc, kd, e1, e _ _ h1 (fun _ z => by cases z), e _ _ h2 (fun _ z => by cases z), h3, e _ _ h4 (fun _ z => by cases z), L2.Paired.mapP h5 fun _ _ h => ⟨h.1, h.2.ext e⟩⟩
mutual
theorem is_ext {H H' : Hp} (e : ExtN H H') : ∀ {v : V} {d : Dt}, Is H v d → plainD d = true → Is H' v d
  | _, _, .non, _ => .non
  | _, _, .bl b, _ => .bl b
  | _, _, .int i, _ => .int i
  | _, _, .str s h, _ => .str s h
  | _, _, .tup h r z, p => .tup (e _ _ h (fun _ z => by cases z)) (isA_ext e r p) z
  | _, _, .lst h r z, p => .lst (e _ _ h (fun _ z => by cases z)) (isA_ext e r p) z
  | _, _, .dic h, p => by cases p
theorem isA_ext {H H' : Hp} (e : ExtN H H') : ∀ {vs : List V} {ds : List Dt}, IsA H vs ds → plainDs ds = true → IsA H' vs ds
  | _, _, .nil, _ => .nil
  | _, _, .cons h r, p => .cons (is_ext e h (Bool.and_eq_true_iff.mp p).1) (isA_ext e r (Bool.and_eq_true_iff.mp p).2)
end
theorem ext_rm {H H' : Hp} {a : Addr} (e : ExtN H H') : ExtN (rm H a) (rm H' a) := fun b o h n => by
  by_cases c : b = a
  · rw [c, rm_at] at h
    cases h
  · rw [rm_ne c] at h ⊢
    exact e b o h n
theorem tab_draw {T : List (Addr × Str)} {n : Nat} {H H' : Hp} {a : Addr} (t : Tabs T H) (d : DnAt n H a) (s : Same (rm H a) (rm H' a)) : Tabs T H' := Tabs.ext (Tabs.off t d.at_) (s.trans rm_same)
theorem DnAt.ext {n : Nat} {H H' : Hp} {a : Addr} (e : ExtN H H') (h : DnAt n H a) : DnAt n H' a := by
  obtain ⟨o, h1, x, y, z, rfl, h2⟩ := h
  exact ⟨_, e _ _ h1 (fun _ z => by cases z), x, y, z, rfl, h2⟩
/-- what was new in between may change -/
theorem ext_free {M G H' : Hp} {p : Addr} {o : HO} (e : ExtN M G) (h : G p = none) (e2 : ExtN M H') : ExtN M (upd H' p o) := fun b u q n => by
  by_cases c : b = p
  · have := e _ _ q n
    rw [c, h] at this
    cases this
  · rw [upd_ne c]
    exact e2 _ _ q n
/-- under way: the draws, what stands from M on, the tables -/
structure Ax (T : List (Addr × Str)) (M : Hp) (a : Addr) (n : Nat) (H : Hp) : Prop where
  dr : DnAt n H a
  ex : ExtN M (rm H a)
  tb : Tabs T H
theorem Ax.same {T : List (Addr × Str)} {M : Hp} {a : Addr} {n : Nat} {H H' : Hp} (A : Ax T M a n H) (s : Same H H') : Ax T M a n H' := ⟨A.dr.up s, A.ex.trans (ext_rm (.of s)), A.tb.ext s⟩
theorem Ax.draw {T : List (Addr × Str)} {M : Hp} {a : Addr} {n : Nat} {H : Hp} {o : HO} (A : Ax T M a n H) (ho : DrN (n + 1) o) : Ax T M a (n + 1) (upd H a o) := ⟨DnAt.put ho, A.ex.trans (.of rm_put), tab_draw A.tb A.dr rm_put⟩
theorem Ax.lam {T : List (Addr × Str)} {M : Hp} {a : Addr} {n : Nat} {H G : Hp} (A : Ax T M a n H) (e : ExtN H G) (t : Tabs T G) : Ax T M a n G := ⟨A.dr.ext e, A.ex.trans (ext_rm e), t⟩
theorem Ax.le {T : List (Addr × Str)} {M : Hp} {a : Addr} {n m : Nat} {H : Hp} (A : Ax T M a n H) (h : n ≤ m) : Ax T M a m H := ⟨A.dr.le h, A.ex, A.tb⟩
/-- beside the draws all stays -/
theorem Ax.rm {T : List (Addr × Str)} {M : Hp} {a : Addr} {n m : Nat} {H H' : Hp} (A : Ax T M a n H) (d : DnAt m H' a) (s : Same (rm H a) (Sr.rm H' a)) : Ax T M a m H' := ⟨d, A.ex.trans (.of s), tab_draw A.tb A.dr s⟩
/-- the debts and the world -/
structure Sx (K : PySem.W.Frag) (x : Addr) (v : V) (cs : Cn) (ds : Db) (ys : List Str) (M : Hp) : Prop where
  deb : DebR K M x (wsOf cs ds ys)
  wor : WorldR M v cs ds
theorem Sx.ext {K : PySem.W.Frag} {x : Addr} {v : V} {cs : Cn} {ds : Db} {ys : List Str} {M M' : Hp} (S : Sx K x v cs ds ys M) (e : ExtN M M') : Sx K x v cs ds ys M' := ⟨S.deb.ext e, S.wor.ext e⟩
theorem Sx.at_ {K : PySem.W.Frag} {x : Addr} {v : V} {cs : Cn} {ds : Db} {ys : List Str} {T : List (Addr × Str)} {M : Hp} {a : Addr} {n : Nat} {H : Hp} (S : Sx K x v cs ds ys M) (A : Ax T M a n H) : Sx K x v cs ds ys H := (S.ext A.ex).ext (.of rm_same)
theorem ints_p {K : PySem.W.Frag} {H : Hp} : ∀ ns : List Int, DpAll K H (ns.map V.int) (ns.map PyData.int) ∧ PyData.canLayAll0 (ns.map PyData.int) = true ∧ PyData.depthAll (ns.map PyData.int) ≤ 0
  | [] => ⟨.nil, rfl, Nat.le_refl _⟩
  | n :: r => by
    obtain ⟨h1, h2, h3⟩ := ints_p (K := K) (H := H) r
    refine ⟨.cons (.int n) h1, ?_, ?_⟩
    · show (true && PyData.canLayAll0 (r.map PyData.int)) = true
      rw [h2]
      rfl
    · show max (PyData.depth (.int n)) (PyData.depthAll (r.map PyData.int)) ≤ 0
      have : PyData.depth (.int n) = 0 := rfl
      omega
theorem ints_sh (ns : List Int) : SeqAt.shaped (.list (ns.map PyData.int)) = true := by
  obtain ⟨_, h2, h3⟩ := ints_p (K := default) (H := fun _ => none) ns
  have hd : PyData.depth (.list (ns.map PyData.int)) ≤ 64 := by
    show PyData.depthAll (ns.map PyData.int) + 1 ≤ 64
    omega
  unfold SeqAt.shaped
  rw [decide_eq_true hd, Bool.and_true]
  exact h2
/-- what is found and what is due are one -/
theorem same_ok {G : Hp} {e p1 q2 : Addr} {at_ w : Str} {v : V} {dt : Dt} {Q : VK} {E : XK} (he : G e = none) (h1 : (upd G e (.xd [(at_, v)])) p1 = none) (h2 : (upd (upd G e (.xd [(at_, v)])) p1 (.tup [.str w, v])) q2 = none) (iv : Is G v dt) (od : Odd dt)
    (hw : PyData.canLay0 (.str w) = true) (lw : w.length ≤ 1000) (q : ∀ H', Same G H' → Q (.bl true) H') : spSame [.ref p1, .ref q2] (upd (upd (upd G e (.xd [(at_, v)])) p1 (.tup [.str w, v])) q2 (.tup [.str w, v])) Q E := by
  have s := ((Same.up (o := .xd [(at_, v)]) he).trans (Same.up (o := .tup [.str w, v]) h1)).trans (Same.up (o := .tup [.str w, v]) h2)
  exact ⟨p1, q2, w, v, dt, rfl, Same.up h2 _ _ upd_same, upd_same, iv.mono s, od.pl, od.sh, od.dp, hw, lw, fun H' s' => q H' (s.trans s')⟩
/-- one of a row of data -/
theorem pick_odd {H : Hp} {vs : List V} {ds : List Dt} (h : IsA H vs ds) (od : ∀ d ∈ ds, Odd d) {i : Nat} {v : V} (hv : vs[i]? = some v) : ∃ d ∈ ds, Is H v d ∧ Odd d := by
  obtain ⟨d, hd, hI⟩ := h.get hv
  exact ⟨d, List.mem_of_getElem? hd, hI, od d (List.mem_of_getElem? hd)⟩
theorem sumR_bound {rs : Rw} {m : Str} (h : rowsW m rs) : 0 ≤ sumR rs ∧ sumR rs ≤ 12 := by
  have aux : ∀ l : Rw, (∀ r ∈ l, 1 ≤ r.2 ∧ r.2 ≤ 4) → 0 ≤ sumR l ∧ sumR l ≤ 4 * (l.length : Int) := by
    intro l
    induction l with
    | nil => intro _; exact ⟨by decide, by decide⟩
    | cons r t ih =>
      intro h
      obtain ⟨h1, h2⟩ := ih fun x m => h x (List.mem_cons_of_mem _ m)
      obtain ⟨h3, h4⟩ := h r List.mem_cons_self
      have e : sumR (r :: t) = r.2 + sumR t := by
        show ((r :: t).map (·.2)).sum = _
        rw [List.map_cons, List.sum_cons]
        rfl
      rw [e, List.length_cons]
      omega
  obtain ⟨h1, h2⟩ := aux rs fun r mr => ⟨(h.2 r mr).2.2.1, (h.2 r mr).2.2.2⟩
  have := h.1
  omega
theorem Drawn.row {cs : Cn} {ds : Db} (g : Drawn cs ds) (n : Str) : 0 ≤ sumR (gD ds n) ∧ sumR (gD ds n) ≤ 12 := by
  unfold gD
  cases e : ds.lookup n with
  | none => exact ⟨by decide, by decide⟩
  | some rs => exact sumR_bound (g.de _ (look_mem e)).2
theorem Drawn.names {cs : Cn} {ds : Db} (g : Drawn cs ds) {ys : List Str} (n : Nms cs ds ys) : (∀ s ∈ ys, s ∈ names3) ∧ ys.length ≤ 3 := by
  have h : ∀ s ∈ ys, s ∈ names3 := fun s ms => by
    rcases all_mem.mp ((n.2.2 s).mp ms) with m | m | m
    · obtain ⟨p, mp, rfl⟩ := List.mem_map.mp m
      exact (g.co p mp).1
    · obtain ⟨p, mp, rfl⟩ := List.mem_map.mp m
      exact (g.de p mp).1
    · obtain ⟨p, mp, r, mr, rfl⟩ := told_mem.mp m
      exact ((g.de p mp).2.2 r mr).1
  exact ⟨h, nodup_len n.1 h⟩
end K38

set_option Elab.async false
set_option linter.all false
set_option maxRecDepth 100000
set_option maxHeartbeats 4000000
namespace K38
open PySem PySem.Spec PyProof.Rows L2 Sr LamX
/-! ### how debts are split -/
def spSplits (K : PySem.W.Frag) (P1 P2 P3 : Addr) : Sp := fun vs H Q _ => ∃ a x v cs ds ys n, vs = [.ref a, .ref x, v] ∧ DnAt n H a ∧ n ≤ 100000 ∧ DebR K (rm H a) x (wsOf cs ds ys) ∧ WorldR (rm H a) v cs ds ∧ Nms cs ds ys ∧ Drawn cs ds ∧ Tabs (Tb P1 P2 P3) H ∧
  ∀ H', DnAt (n + 7) H' a → ExtN (rm H a) (rm H' a) → Tabs (Tb P1 P2 P3) H' → Q (.bl true) H'
def oddA (o : Int) : List Dt := [.int (-1), .int (o + 1), .non, .str "0", .bl true, .lst [.int 0]]
theorem oddA_no {o : Int} (h : 0 ≤ o) : ∀ d ∈ oddA o, amtOk o d = false ∧ Odd d := by
  intro d m
  simp only [oddA, List.mem_cons, List.not_mem_nil, or_false] at m
  rcases m with rfl | rfl | rfl | rfl | rfl | rfl
  · exact ⟨rfl, rfl, rfl, Nat.zero_le _⟩
  · refine ⟨?_, rfl, rfl, Nat.zero_le _⟩
    show (decide (0 ≤ o + 1) && decide (o + 1 ≤ o)) = false
    rw [decide_eq_false (show ¬ o + 1 ≤ o by omega), Bool.and_false]
  · exact ⟨rfl, rfl, rfl, Nat.zero_le _⟩
  · exact ⟨rfl, rfl, by decide +kernel, Nat.zero_le _⟩
  · exact ⟨rfl, rfl, rfl, Nat.zero_le _⟩
  · exact ⟨rfl, rfl, rfl, by decide⟩
def oddM : List Dt := [.non, .int 5, .str "zz", .str "", .lst [.str "ann"], .tup [], .bl true]
theorem oddM_no {ys : List Str} (h : ∀ s ∈ ys, s ∈ names3) : ∀ d ∈ oddM, memD ys d = false ∧ Odd d := by
  have zz : ("zz" : Str) ∉ names3 := by decide +kernel
  have em : ("" : Str) ∉ names3 := by decide +kernel
  intro d m
  simp only [oddM, List.mem_cons, List.not_mem_nil, or_false] at m
  rcases m with rfl | rfl | rfl | rfl | rfl | rfl | rfl
  · exact ⟨rfl, rfl, rfl, Nat.zero_le _⟩
  · exact ⟨rfl, rfl, rfl, Nat.zero_le _⟩
  · exact ⟨decide_eq_false fun z => zz (h _ z), rfl, by decide +kernel, Nat.zero_le _⟩
  · exact ⟨decide_eq_false fun z => em (h _ z), rfl, by decide +kernel, Nat.zero_le _⟩
  · exact ⟨rfl, rfl, by decide +kernel, by decide⟩
  · exact ⟨rfl, rfl, rfl, by decide⟩
  · exact ⟨rfl, rfl, rfl, Nat.zero_le _⟩
theorem okW : PyData.canLay0 (.str "number") = true ∧ PyData.canLay0 (.str "member") = true ∧ PyData.canLay0 (.str "name") = true ∧ PyData.canLay0 (.str "coins") = true ∧ PyData.canLay0 (.str "debts") = true := by decide +kernel
theorem lenW : Str.length "number" ≤ 1000 ∧ Str.length "member" ≤ 1000 ∧ Str.length "name" ≤ 1000 ∧ Str.length "coins" ≤ 1000 ∧ Str.length "debts" ≤ 1000 := by decide +kernel
section
variable {P : Program} {w : World} {K : PySem.W.Frag} {mg : Str → Option Value} {base : Heap}
abbrev s__law_splits_right : Stmt := top 38
theorem sc__law_splits_right : FnScope ["stream", "made", "world", "name", "odd", "found", "owed", "amount", "one"] ["stream", "made", "world"] (defScope s__law_splits_right) := ⟨rfl, rfl, rfl, by decide +kernel, rfl, by decide +kernel, by decide +kernel⟩
theorem c__law_splits_right {P1 P2 P3 : Addr} (T : Txt K mg) (O : Deb K mg) (OM : DebM K) (Z : Xs K mg) (D : Dfn K mg "_law_splits_right" s__law_splits_right) (TB : TabB base mg (He.codeOf K ("_law_splits_right", none)) P1) (n12 : P1 ≠ P2) (n13 : P1 ≠ P3) (D_law_tried : Dfn K mg "_law_tried" s__law_tried)
    (C_law_draw : Cal P w K mg base 1 "_law_draw" ["stream", "many"] spDraw) (C_law_pick : Cal P w K mg base 2 "_law_pick" ["stream", "things"] (spPick K)) (C_law_members : Cal P w K mg base 1 "_law_members" ["world"] spMembL) (C_law_owed : Cal P w K mg base 1 "_law_owed" ["world", "member"] spOwedL) (C_law_split : Cal P w K mg base 1 "_law_split" ["world", "member", "amount"] spSplitL) (C_law_same : Cal P w K mg base 1 "_law_same" ["found", "due"] spSame)
    (MO : CalM P w K mg base (L2.CX P w) 4 (He.fAd K ("Debts", some "owed")) ["self", "member"] (spOwed K)) (MS : CalM P w K mg base (L2.CX P w) 5 (He.fAd K ("Debts", some "split")) ["self", "member", "many"] (spSplit K)) :
    Cal P w K mg base 10 "_law_splits_right" ["stream", "made", "world"] (spSplits K P1 P2 P3) := by
  refine calT D sc__law_splits_right (fun _ _ _ _ _ _ us hl => match us, hl with | [_, _, _], _ => rfl) (fun vs H Q E h => ?_) fun A outer s H vs Q E hr h => ?_
  · obtain ⟨a, x, v, cs, ds, ys, n, rfl, _⟩ := h
    rfl
  obtain ⟨a, x, v, cs, ds, ys, n, rfl, hd, hb, hx, hw, nm, g, tab, q⟩ := h
  refine ⟨_, PSs.nox (pss_cons (ps_for PassesOwn.never rfl (pi_list (pe_cal C_law_members hr (by first | decide | omega) (by rfl) (pa_cons (pv 2) pa_nil))) (pg_name (i := 3) sc__law_splits_right.nd rfl (by first | exact Or.inl rfl | exact Or.inr rfl))
      (pss_cons (ps_set (i := 6) sc__law_splits_right.nd rfl (by first | exact Or.inl rfl | exact Or.inr rfl) (pe_cal C_law_owed hr (by first | decide | omega) (by rfl) (pa_cons (pv 2) (pa_cons (pv 3) pa_nil))))
      (pss_cons (ps_set (i := 7) sc__law_splits_right.nd rfl (by first | exact Or.inl rfl | exact Or.inr rfl) (pe_cal C_law_draw hr (by first | decide | omega) (by rfl) (pa_cons (pv 0) (pa_cons (pe_op op_add (pv 6) pe_int) pa_nil))))
      (pss_cons (ps_expr (pe_bm PySem.F.plainAttrs_list PySem.F.slot_list_append PySem.F.type_list_append mt_append (mE_ (K := K) MS rfl hr (by decide) O.cl OM.split passes_never (pv 1) (pa_cons (pv 3) (pa_cons (pv 7) pa_nil))) (pa_cons pe_int pa_nil)))
      (pss_cons (ps_if (pt_cmpR (op_neD hr.units) (mE_ (K := K) MS rfl hr (by decide) O.cl OM.split passes_never (pv 1) (pa_cons (pv 3) (pa_cons (pv 7) pa_nil))) (pe_cal C_law_split hr (by first | decide | omega) (by rfl) (pa_cons (pv 2) (pa_cons (pv 3) (pa_cons (pv 7) pa_nil)))) (nomark _)) (pss_one (ps_ret pe_bl)) pss_nil)
      (pss_cons (ps_set (i := 4) sc__law_splits_right.nd rfl (by first | exact Or.inl rfl | exact Or.inr rfl) (pe_cal C_law_pick hr (by first | decide | omega) (by rfl) (pa_cons (pv 0) (pa_cons (pe_lst (pa_cons (pe_un un_neg pe_int) (pa_cons (pe_op op_add (pv 6) pe_int) (pa_cons pe_non (pa_cons pe_str (pa_cons pe_bl (pa_cons (pe_lst (pa_cons pe_int pa_nil)) pa_nil))))))) pa_nil))))
      (pss_one (ps_if (pt_not (pt_val (pe_cal C_law_same hr (by first | decide | omega) (by rfl) (pa_cons (pe_lamT (Tb P1 P2 P3) ("_law_splits_right" ++ ".<locals>.") D_law_tried sc__law_tried (fun _ _ _ _ _ _ us hl => match us, hl with | [_], _ => rfl) (.head _) (tb1 n12 n13) (fun cdv => g_tried Z cdv _) TB rfl hr (fun A outer s H E f c' hr => (mE_ (K := K) MS rfl hr (by decide) O.cl OM.split (passes_def rfl rfl rfl rfl) (pv 1) (pa_cons (pv 3) (pa_cons (pv 4) pa_nil)))) (by rfl) (lamS_by (by show lamSB (defScope s__law_splits_right) _ = true; decide +kernel)) (fun _ _ _ _ _ => rfl)) (pa_cons (pe_tup (pa_cons pe_str (pa_cons (pv 4) pa_nil))) pa_nil))))) (pss_one (ps_ret pe_bl)) pss_nil))))))))
      (pss_cons (ps_set (i := 4) sc__law_splits_right.nd rfl (by first | exact Or.inl rfl | exact Or.inr rfl) (pe_cal C_law_pick hr (by first | decide | omega) (by rfl) (pa_cons (pv 0) (pa_cons (pe_lst (pa_cons pe_non (pa_cons pe_int (pa_cons pe_str (pa_cons pe_str (pa_cons (pe_lst (pa_cons pe_str pa_nil)) (pa_cons (pe_tup pa_nil) (pa_cons pe_bl pa_nil)))))))) pa_nil))))
      (pss_cons (ps_set (i := 5) sc__law_splits_right.nd rfl (by first | exact Or.inl rfl | exact Or.inr rfl) (pe_lst (pa_cons (pe_lamT (Tb P1 P2 P3) ("_law_splits_right" ++ ".<locals>.") D_law_tried sc__law_tried (fun _ _ _ _ _ _ us hl => match us, hl with | [_], _ => rfl) (.head _) (tb1 n12 n13) (fun cdv => g_tried Z cdv _) TB rfl hr (fun A outer s H E f c' hr => (mE_ (K := K) MO rfl hr (by decide) O.cl OM.owed (passes_def rfl rfl rfl rfl) (pv 1) (pa_cons (pv 4) pa_nil))) (by rfl) (lamS_by (by show lamSB (defScope s__law_splits_right) _ = true; decide +kernel)) (fun _ _ _ _ _ => rfl)) pa_nil)))
      (pss_cons (ps_expr (pe_bm PySem.F.plainAttrs_list PySem.F.slot_list_append PySem.F.type_list_append mt_append (pv 5) (pa_cons (pe_lamT (Tb P1 P2 P3) ("_law_splits_right" ++ ".<locals>.") D_law_tried sc__law_tried (fun _ _ _ _ _ _ us hl => match us, hl with | [_], _ => rfl) (.head _) (tb1 n12 n13) (fun cdv => g_tried Z cdv _) TB rfl hr (fun A outer s H E f c' hr => (mE_ (K := K) MS rfl hr (by decide) O.cl OM.split (passes_def rfl rfl rfl rfl) (pv 1) (pa_cons (pv 4) (pa_cons pe_non pa_nil)))) (by rfl) (lamS_by (by show lamSB (defScope s__law_splits_right) _ = true; decide +kernel)) (fun _ _ _ _ _ => rfl)) pa_nil)))
      (pss_one (ps_ret (pe_callB (id := "all") (cr_all rfl) (by rfl) T.all (by decide +kernel) (pa_cons (pe_lc (own := [("one", 8)]) (g := gName 8) (tt := tYes) rfl sc__law_splits_right.nd (pi_list (pv 5)) (blkOk_by (N := ["stream", "made", "world", "name", "odd", "found", "owed", "amount", "one"]) (sc := defScope s__law_splits_right) (by decide +kernel)) (fun _ _ _ _ _ => (pg_name (i := 8) sc__law_splits_right.nd rfl (by first | exact Or.inl rfl | exact Or.inr rfl))) (fun _ _ _ _ _ => pts_nil) (fun _ _ _ _ _ => (pe_cal C_law_same hr (by first | decide | omega) (by rfl) (pa_cons (pv 8) (pa_cons (pe_tup (pa_cons pe_str (pa_cons (pv 4) pa_nil))) pa_nil))))) pa_nil)))))))), ?_⟩
  have S0 : Sx K x v cs ds ys (rm H a) := ⟨hx, hw⟩
  have good := g.good
  obtain ⟨l1, l2, l3, l4⟩ := good.lens
  obtain ⟨nsub, nl⟩ := g.names nm
  have okn : ∀ s ∈ ys, nameOk (.str s) = true := fun s m => good.name ((nm.2.2 s).mp m)
  refine cut_if (fun σ H' => ∃ nm' od ow am, σ = [some (.ref a), some (.ref x), some v, nm', od, none, ow, am, none] ∧ Ax (Tb P1 P2 P3) (rm H a) a (n + 6) H') ?_ fun rest => ?_
  rotate_left
  · refine ⟨_, rfl, v, cs, ds, rfl, hw.mono rm_same, good.al, g.dn, fun H1 pl ys1 s1 p0 hp n1 => ?_⟩
    obtain rfl : ys1 = ys := nms_one n1 nm fun _ => Iff.rfl
    have npl : pl ≠ a := hd.new p0
    have A1 : Ax (Tb P1 P2 P3) (rm H a) a n H1 := (⟨hd, ExtN.refl _, tab⟩ : Ax (Tb P1 P2 P3) (rm H a) a n H).same s1
    have S1 : Sx K x v cs ds ys1 (rm H1 a) := S0.ext A1.ex
    have pl1 : (rm H1 a) pl = some (.lst (ys1.map V.str)) := by rw [rm_ne npl]; exact hp
    have plx : ∀ {H' : Hp} {m : Nat}, Ax (Tb P1 P2 P3) (rm H1 a) a m H' → H' pl = some (.lst (ys1.map V.str)) := fun {H' m} A => rm_same _ _ (A.ex _ _ pl1 (fun _ z => by cases z))
    refine ⟨pl, rfl, ⟨_, SqL.of hp⟩, for_it walk_list (fun i σ H' => ∃ nm' od ow am, σ = [some (.ref a), some (.ref x), some v, nm', od, none, ow, am, none] ∧ Ax (Tb P1 P2 P3) (rm H1 a) a (n + 2 * i) H') ⟨_, _, _, _, rfl, A1.dr, ExtN.refl _, A1.tb⟩ (fun i σ H' _ p => by
      obtain ⟨_, _, _, _, _, A⟩ := p
      exact SqL.of (plx A)) ?_ ?_⟩
    · rintro i u σ H2 H2' lt ⟨nm', od, ow, am, rfl, A2⟩ ⟨rfl, hu⟩
      rw [List.length_map] at lt
      rw [List.getElem?_map] at hu
      obtain ⟨z, hz, rfl⟩ := Option.map_eq_some_iff.mp hu
      have mz := List.mem_of_getElem? hz
      obtain ⟨o0, o12⟩ := g.row z
      have mb := ws_in (cs := cs) (ds := ds) mz
      have S2 := S1.at_ A2
      refine ⟨_, rfl, _, rfl, v, z, cs, ds, rfl, S2.wor, l4, fun H3 s3 => ?_⟩
      have A3 := A2.same s3
      refine ⟨_, rfl, _, rfl, _, _, rfl, rfl, a, _, _, rfl, A3.dr, by omega, by omega, by omega, fun r o r0 r1 ho => ?_⟩
      have A4 := A3.draw ho
      generalize upd H3 a o = H4 at A4 ⊢
      have S4 := S1.at_ A4
      obtain ⟨dx, fc, fd, kc, kd, i4, _⟩ := id S4.deb
      refine ⟨_, rfl, x, dx, _, rfl, i4, rfl, _, rfl, _, rfl, x, _, _, _, rfl, S4.deb, .inl ⟨_, mb, rfl, gD_len l4 z, .inl ⟨r, rfl, r0, by show r ≤ sumR (gD ds z); omega, fun H5 p s5 hp5 hl5 => ?_⟩⟩⟩
      refine ⟨.inl ⟨rfl, _, SqL.of hl5⟩, p, _, .int 7, rfl, rfl, hl5, ?_, ?_⟩
      · rw [List.length_map, split_len]
        exact Nat.lt_of_le_of_lt (gD_len l4 z) (by decide)
      have s45 : Same H4 (upd H5 p (.lst ((splitR (gD ds z) r).map V.int ++ [.int 7]))) := fun c o e => by
        rw [upd_ne fun w => by rw [w, hp5] at e; cases e]
        exact s5 _ _ e
      have A5 := A4.same s45
      show tSeq _ _ _ _ _
      generalize upd H5 p _ = H6 at A5 ⊢
      have S6 := S1.at_ A5
      obtain ⟨dx, fc, fd, kc, kd, i6, _⟩ := id S6.deb
      refine ⟨_, rfl, x, dx, _, rfl, i6, rfl, _, rfl, _, rfl, x, _, _, _, rfl, S6.deb, .inl ⟨_, mb, rfl, gD_len l4 z, .inl ⟨r, rfl, r0, by show r ≤ sumR (gD ds z); omega, fun H7 p7 s7 hp7 hl7 => ?_⟩⟩⟩
      have A7 := A5.same s7
      refine ⟨_, rfl, _, rfl, _, rfl, v, z, r, cs, ds, rfl, (S1.at_ A7).wor, l4, fun H8 p8 s8 hp8 hl8 => ?_⟩
      have A8 := A7.same s8
      refine ⟨_, _, .lst (SqL.of (s8 _ _ hl7)) (ints_p _).1, .lst (SqL.of hl8) (ints_p _).1, ints_sh _, ints_sh _, _, rfl, ?_⟩
      rw [SeqAt.eqv_refl _ (SeqAt.canLay_of_shaped (ints_sh _))]
      refine iteF ?_
      refine ⟨_, rfl, 1, rfl, _, rfl, _, _, rfl, rfl, lineN (n := 1), fun l0 hl0 => ⟨lineN (n := 6), fun lo hlo => ?_⟩⟩
      have A9 := (A8.same (Same.up (o := .lst [.int 0]) hl0)).same (Same.up (o := .lst [.int (-1), .int (sumR (gD ds z) + 1), .non, .str "0", .bl true, .ref l0]) hlo)
      have nlo : lo ≠ a := (A8.same (Same.up (o := .lst [.int 0]) hl0)).dr.new hlo
      have nl0 : l0 ≠ a := A8.dr.new hl0
      have g0 := Same.up (o := .lst [.int (-1), .int (sumR (gD ds z) + 1), .non, .str "0", .bl true, .ref l0]) hlo l0 _ upd_same
      have glo : (upd (upd H8 l0 (.lst [.int 0])) lo (.lst [.int (-1), .int (sumR (gD ds z) + 1), .non, .str "0", .bl true, .ref l0])) lo = some (.lst [.int (-1), .int (sumR (gD ds z) + 1), .non, .str "0", .bl true, .ref l0]) := upd_same
      refine ⟨a, lo, _, _, rfl, A9.dr, by omega, nlo, .inl (SqL.of glo), Nat.succ_pos 5, show 6 < 1073741824 by decide, fun k v1 o1 hv1 ho1 => ?_⟩
      have ia : IsA (rm (upd (upd H8 l0 (.lst [.int 0])) lo (.lst [.int (-1), .int (sumR (gD ds z) + 1), .non, .str "0", .bl true, .ref l0])) a) [.int (-1), .int (sumR (gD ds z) + 1), .non, .str "0", .bl true, .ref l0] (oddA (sumR (gD ds z))) :=
        .cons (.int _) (.cons (.int _) (.cons .non (.cons (.str _ (by decide)) (.cons (.bl _) (.cons (.lst (by rw [rm_ne nl0]; exact g0) (.cons (.int _) .nil) (show 1 ≤ 60 by decide)) .nil)))))
      obtain ⟨d, md, iv, od⟩ := pick_odd ia (fun d m => (oddA_no o0 d m).2) hv1
      have no := (oddA_no o0 d md).1
      generalize upd (upd H8 l0 _) lo _ = G9 at A9 iv ⊢
      have AG : Ax (Tb P1 P2 P3) (rm G9 a) a (n + 2 * i + 1) G9 := ⟨A9.dr, ExtN.refl _, A9.tb⟩
      have AG2 := AG.draw ho1
      have S9 := S1.ext A9.ex
      generalize upd G9 a o1 = G10 at AG2 ⊢
      refine ⟨AG2.tb, fun G2 e2 t2 => ?_⟩
      have AG3 := AG2.lam e2 t2
      have SG := S9.at_ AG3
      have ivG := (is_ext AG3.ex iv od.pl).mono rm_same
      obtain ⟨dx, fc, fd, kc, kd, iG, _⟩ := id SG.deb
      refine ⟨_, rfl, x, dx, _, rfl, iG, rfl, _, rfl, _, rfl, x, _, _, _, rfl, SG.deb, .inl ⟨_, mb, rfl, gD_len l4 z, .inr ⟨d, ivG, no, fun G' e s' he => ⟨_, "number", "number", e, v1, .inr (.inr (.inr (.inl ⟨rfl, rfl, rfl⟩))), rfl, rfl, upd_same, fun p1 hp1 => ⟨_, rfl, two_line, fun q2 hq2 => ?_⟩⟩⟩⟩⟩
      delta tNil
      dsimp only
      refine same_ok he hp1 hq2 (ivG.mono s') od okW.1 lenW.1 fun H' sH => ⟨_, rfl, iteF ?_⟩
      have Af := AG3.same (s'.trans sH)
      exact ⟨_, _, _, _, rfl, Af.dr.le (by omega), A9.ex.trans Af.ex, Af.tb⟩
    · rintro σ H2 ⟨nm', od, ow, am, rfl, A2⟩
      rw [List.length_map] at A2
      exact rest _ _ ⟨_, _, _, _, rfl, (⟨A2.dr, A1.ex.trans A2.ex, A2.tb⟩ : Ax (Tb P1 P2 P3) (rm H a) a _ H2).le (by omega)⟩
  rintro σ H2 ⟨nm', od, ow, am, rfl, A2⟩
  try dsimp only
  refine ⟨_, rfl, lineN (n := 1), fun l0 hl0 => ⟨lineN (n := 0), fun t0 ht0 => ⟨lineN (n := 7), fun lo hlo => ?_⟩⟩⟩
  have B0 := A2.same (Same.up (o := .lst [.str "ann"]) hl0)
  have B1 := B0.same (Same.up (o := .tup []) ht0)
  have A9 := B1.same (Same.up (o := .lst [.non, .int 5, .str "zz", .str "", .ref l0, .ref t0, .bl true]) hlo)
  have nlo : lo ≠ a := B1.dr.new hlo
  have nl0 : l0 ≠ a := A2.dr.new hl0
  have nt0 : t0 ≠ a := B0.dr.new ht0
  have glo : (upd (upd (upd H2 l0 (.lst [.str "ann"])) t0 (.tup [])) lo (.lst [.non, .int 5, .str "zz", .str "", .ref l0, .ref t0, .bl true])) lo = some (.lst [.non, .int 5, .str "zz", .str "", .ref l0, .ref t0, .bl true]) := upd_same
  refine ⟨a, lo, _, _, rfl, A9.dr, by omega, nlo, .inl (SqL.of glo), Nat.succ_pos 6, show 7 < 1073741824 by decide, fun k v1 o1 hv1 ho1 => ?_⟩
  have ia : IsA (rm (upd (upd (upd H2 l0 (.lst [.str "ann"])) t0 (.tup [])) lo (.lst [.non, .int 5, .str "zz", .str "", .ref l0, .ref t0, .bl true])) a) [.non, .int 5, .str "zz", .str "", .ref l0, .ref t0, .bl true] oddM := by
    have g0 := (Same.up (o := .tup []) ht0).trans (Same.up (o := .lst [.non, .int 5, .str "zz", .str "", .ref l0, .ref t0, .bl true]) hlo) l0 _ upd_same
    have g1 := Same.up (o := .lst [.non, .int 5, .str "zz", .str "", .ref l0, .ref t0, .bl true]) hlo t0 _ upd_same
    exact .cons .non (.cons (.int _) (.cons (.str _ (by decide)) (.cons (.str _ (by decide)) (.cons (.lst (by rw [rm_ne nl0]; exact g0) (.cons (.str _ (by decide)) .nil) (show 1 ≤ 60 by decide)) (.cons (.tup (by rw [rm_ne nt0]; exact g1) .nil (Nat.zero_le _)) (.cons (.bl _) .nil))))))
  obtain ⟨d, md, iv, od⟩ := pick_odd ia (fun d m => (oddM_no nsub d m).2) hv1
  have no : memD ((wsOf cs ds ys).map (·.1)) d = false := by rw [ws_names]; exact (oddM_no nsub d md).1
  generalize upd (upd (upd H2 l0 _) t0 _) lo _ = G9 at A9 iv ⊢
  have AG : Ax (Tb P1 P2 P3) (rm G9 a) a (n + 6) G9 := ⟨A9.dr, ExtN.refl _, A9.tb⟩
  have AG2 := AG.draw ho1
  have S9 := S0.ext A9.ex
  generalize upd G9 a o1 = G10 at AG2 ⊢
  refine ⟨AG2.tb, fun G2 e2 t2 => ?_⟩
  have AG3 := AG2.lam e2 t2
  have SG := S9.at_ AG3
  have ivG := (is_ext AG3.ex iv od.pl).mono rm_same
  obtain ⟨dx, fc, fd, kc, kd, iG, _⟩ := id SG.deb
  refine ⟨_, rfl, x, dx, _, rfl, iG, rfl, _, rfl, x, _, _, rfl, SG.deb, .inr ⟨⟨d, ivG, od.pl, od.shaped, no⟩, fun G' e s' he => ⟨_, "member", "member", e, v1, .inr (.inr (.inl ⟨rfl, rfl, rfl⟩)), rfl, rfl, upd_same, fun p1 hp1 => ⟨lineN (n := 1), fun f hf => ?_⟩⟩⟩⟩
  have n1 : f ≠ p1 := fun w => by rw [w, upd_same] at hf; cases hf
  have A4 := ((AG3.same s').same (Same.up (o := .xd [("member", v1)]) he)).same (Same.up (o := .tup [.str "member", v1]) hp1)
  have A5 := A4.same (Same.up (o := .lst [.ref p1]) hf)
  have f5 : (upd (upd (upd G' e (.xd [("member", v1)])) p1 (.tup [.str "member", v1])) f (.lst [.ref p1])) f = some (.lst [.ref p1]) := upd_same
  have p5 : (upd (upd (upd G' e (.xd [("member", v1)])) p1 (.tup [.str "member", v1])) f (.lst [.ref p1])) p1 = some (.tup [.str "member", v1]) := Same.up hf _ _ upd_same
  generalize upd (upd (upd G' e _) p1 _) f _ = G5 at A5 f5 p5 ⊢
  refine ⟨_, rfl, .inl ⟨rfl, _, SqL.of f5⟩, A5.tb, fun G6 e6 t6 => ?_⟩
  have A6 := A5.lam e6 t6
  have f6 := e6 _ _ f5 (fun _ z => by cases z)
  have p6 := e6 _ _ p5 (fun _ z => by cases z)
  have S6 := S9.at_ A6
  have iv6 := (is_ext A6.ex iv od.pl).mono rm_same
  obtain ⟨dx6, fc6, fd6, kc6, kd6, i6, _⟩ := id S6.deb
  refine ⟨_, rfl, x, dx6, _, rfl, i6, rfl, _, rfl, x, _, _, _, rfl, S6.deb, .inr ⟨⟨d, iv6, od.pl, od.shaped, no⟩, fun G7 e7 s7 he7 => ⟨_, "member", "member", e7, v1, .inr (.inr (.inl ⟨rfl, rfl, rfl⟩)), rfl, rfl, upd_same, fun p2 hp2 => ?_⟩⟩⟩
  have s8 := (s7.trans (Same.up (o := .xd [("member", v1)]) he7)).trans (Same.up (o := .tup [.str "member", v1]) hp2)
  have A8 := A6.same s8
  have f8 := s8 _ _ f6
  have p8 := s8 _ _ p6
  have p28 : (upd (upd G7 e7 (.xd [("member", v1)])) p2 (.tup [.str "member", v1])) p2 = some (.tup [.str "member", v1]) := upd_same
  have iv8 := iv6.mono s8
  generalize upd (upd G7 e7 _) p2 _ = G8 at A8 f8 p8 p28 iv8 ⊢
  refine ⟨f, _, _, rfl, rfl, f8, show 1 < sizeLine from sz (m := 60) (by decide) (by decide), ?_⟩
  have fa : f ≠ a := fun w => by
    obtain ⟨o, ho, x1, y1, z1, rfl, _⟩ := A8.dr
    rw [← w, f8] at ho
    cases ho
  have np1 : p1 ≠ f := n1.symm
  have np2 : p2 ≠ f := fun w => by rw [w, f8] at p28; cases p28
  have f9 : (upd G8 f (.lst ([.ref p1] ++ [.ref p2]))) f = some (.lst ([p1, p2].map V.ref)) := upd_same
  have p9 : (upd G8 f (.lst ([.ref p1] ++ [.ref p2]))) p1 = some (.tup [.str "member", v1]) := by rw [upd_ne np1]; exact p8
  have p29 : (upd G8 f (.lst ([.ref p1] ++ [.ref p2]))) p2 = some (.tup [.str "member", v1]) := by rw [upd_ne np2]; exact p28
  have M9 : ExtN (rm G9 a) (rm (upd G8 f (.lst ([.ref p1] ++ [.ref p2]))) a) := by
    rw [rm_set fa]
    exact ext_free A4.ex (by rw [rm_ne fa]; exact hf) A8.ex
  have A10 : Ax (Tb P1 P2 P3) (rm G9 a) a (n + 6 + 1) (upd G8 f (.lst ([.ref p1] ++ [.ref p2]))) := ⟨A8.dr.set fa, M9, Tabs.set A8.tb f8⟩
  have iv10 := (is_ext A10.ex iv od.pl).mono rm_same
  generalize upd G8 f _ = G11 at A10 f9 p9 p29 iv10 ⊢
  refine ⟨_, rfl, f, rfl, ⟨_, SqL.of f9⟩, fun B hB => lc_f (walk_list (xs := [p1, p2].map V.ref)) at_any [p1, p2] (fun _ => V.bl true) rfl (show 2 < sizeLine from sz (m := 60) (by decide) (by decide)) hB (fun H' s' => SqL.of (s' _ _ f9)) (fun j u pp H3 A' lt hu hz s3 kA => ?_) (fun H3 s3 h3' => ?_)⟩
  · rw [List.getElem?_map, hz] at hu
    obtain rfl : V.ref pp = u := Option.some.inj hu
    have hpp : G11 pp = some (.tup [.str "member", v1]) := by
      have m := List.mem_of_getElem? hz
      simp only [List.mem_cons, List.not_mem_nil, or_false] at m
      rcases m with rfl | rfl
      · exact p9
      · exact p29
    refine ⟨rfl, _, rfl, _, rfl, two_line, fun q2 hq2 => ?_⟩
    delta tNil
    dsimp only
    have s4 := s3.trans (Same.up (o := .tup [.str "member", v1]) hq2)
    exact ⟨pp, q2, "member", v1, d, rfl, s4 _ _ hpp, upd_same, iv10.mono s4, od.pl, od.sh, od.dp, okW.2.1, lenW.2.1, fun H5 s5 => kA _ ((Same.up hq2).trans s5)⟩
  · refine ⟨B, [true, true], rfl, SqL.of h3', ?_⟩
    have A11 := A10.same s3
    exact q H3 (A11.dr.le (by omega)) (A9.ex.trans A11.ex) A11.tb
end
end K38

set_option Elab.async false
set_option linter.all false
set_option maxRecDepth 100000
set_option maxHeartbeats 4000000
namespace K38
open PySem PySem.Spec PyProof.Rows L2 Sr LamX
/-! ### more coins given: by the law's own coins -/
theorem look_map' {α : Type} {f : Str → α} : ∀ {ys : List Str} {s : Str}, (ys.map fun n => (n, f n)).lookup s = if s ∈ ys then some (f s) else none
  | [], s => by rw [if_neg List.not_mem_nil]; rfl
  | y :: r, s => by
    rw [List.map_cons, List.lookup_cons]
    by_cases c : s = y
    · rw [c, beq_self_eq_true, if_pos List.mem_cons_self]
    · rw [beq_false_of_ne c, look_map' (ys := r)]
      by_cases m : s ∈ r
      · rw [if_pos m, if_pos (List.mem_cons_of_mem _ m)]
      · rw [if_neg m, if_neg fun h => m ((List.mem_cons.mp h).resolve_left c)]
theorem csW_eq (cs : Cn) (ds : Db) (ys : List Str) : csW (wsOf cs ds ys) = ys.map fun n => (n, gC cs n) := by
  unfold csW wsOf
  rw [List.map_map]
  rfl
theorem dsW_eq (cs : Cn) (ds : Db) (ys : List Str) : dsW (wsOf cs ds ys) = ys.map fun n => (n, gD ds n) := by
  unfold dsW wsOf
  rw [List.map_map]
  rfl
theorem look_none' {α : Type} : ∀ {l : List (Str × α)} {s : Str}, s ∉ l.map (·.1) → l.lookup s = none
  | [], _, _ => rfl
  | p :: r, s, h => by
    rw [List.lookup_cons, beq_false_of_ne fun e => h (by rw [e]; exact List.mem_cons_self)]
    exact look_none' fun m => h (List.mem_cons_of_mem _ m)
theorem gC_csW {cs : Cn} {ds : Db} {ys : List Str} (n : Nms cs ds ys) (s : Str) : gC (csW (wsOf cs ds ys)) s = gC cs s := by
  rw [csW_eq]
  show ((ys.map fun n => (n, gC cs n)).lookup s).getD 0 = gC cs s
  rw [look_map']
  by_cases m : s ∈ ys
  · rw [if_pos m]; rfl
  · rw [if_neg m]
    unfold gC
    rw [look_none' fun h => m ((n.2.2 s).mpr (all_mem.mpr (.inl h)))]
theorem gD_dsW {cs : Cn} {ds : Db} {ys : List Str} (n : Nms cs ds ys) (s : Str) : gD (dsW (wsOf cs ds ys)) s = gD ds s := by
  rw [dsW_eq]
  show ((ys.map fun n => (n, gD ds n)).lookup s).getD [] = gD ds s
  rw [look_map']
  by_cases m : s ∈ ys
  · rw [if_pos m]; rfl
  · rw [if_neg m]
    unfold gD
    rw [look_none' fun h => m ((n.2.2 s).mpr (all_mem.mpr (.inr (.inl h))))]
theorem names_csW (cs : Cn) (ds : Db) (ys : List Str) : (csW (wsOf cs ds ys)).map (·.1) = ys ∧ (dsW (wsOf cs ds ys)).map (·.1) = ys := by
  rw [csW_eq, dsW_eq, List.map_map, List.map_map]
  exact ⟨List.map_id _, List.map_id _⟩
theorem mem_putC {cs : Cn} {n : Str} {z : Int} {s : Str} : s ∈ (putC cs n z).map (·.1) ↔ s ∈ cs.map (·.1) ∨ s = n := by
  rw [putC_names]
  split
  · rename_i c
    exact ⟨.inl, fun h => h.elim id fun e => by rw [e]; exact c⟩
  · rw [List.mem_append, List.mem_singleton]
theorem gD_mem {ds : Db} {n : Str} {r : Str × Int} (m : r ∈ gD ds n) : ∃ p ∈ ds, p.1 = n ∧ r ∈ p.2 := by
  unfold gD at m
  cases e : ds.lookup n with
  | none => rw [e] at m; cases m
  | some rs => rw [e] at m; exact ⟨_, look_mem e, rfl, m⟩
theorem told_sub {cs : Cn} {ds : Db} {ys : List Str} (n : Nms cs ds ys) {s : Str} (h : s ∈ toldN (dsW (wsOf cs ds ys))) : s ∈ ys := by
  obtain ⟨p, mp, r, mr, rfl⟩ := told_mem.mp h
  rw [dsW_eq] at mp
  obtain ⟨y, my, rfl⟩ := List.mem_map.mp mp
  obtain ⟨p, mp, e, mr'⟩ := gD_mem mr
  exact (n.2.2 _).mpr (all_mem.mpr (.inr (.inr (told_mem.mpr ⟨p, mp, r, mr', rfl⟩))))
theorem given_all {cs : Cn} {ds : Db} {ys : List Str} (n : Nms cs ds ys) (m : Str) (z z' : Int) (s : Str) : s ∈ allN (putC (csW (wsOf cs ds ys)) m z) (dsW (wsOf cs ds ys)) ↔ s ∈ allN (putC cs m z') ds := by
  obtain ⟨e1, e2⟩ := names_csW cs ds ys
  rw [all_mem, all_mem, mem_putC, mem_putC, e1, e2]
  constructor
  · rintro ((h | h) | h | h)
    · exact (all_mem.mp ((n.2.2 s).mp h)).elim (fun h => .inl (.inl h)) .inr
    · exact .inl (.inr h)
    · exact (all_mem.mp ((n.2.2 s).mp h)).elim (fun h => .inl (.inl h)) .inr
    · exact (all_mem.mp ((n.2.2 s).mp (told_sub n h))).elim (fun h => .inl (.inl h)) .inr
  · rintro ((h | h) | h | h)
    · exact .inl (.inl ((n.2.2 s).mpr (all_mem.mpr (.inl h))))
    · exact .inl (.inr h)
    · exact .inl (.inl ((n.2.2 s).mpr (all_mem.mpr (.inr (.inl h)))))
    · exact .inl (.inl ((n.2.2 s).mpr (all_mem.mpr (.inr (.inr h)))))
theorem given_ws {cs : Cn} {ds : Db} {ys ys' : List Str} (n : Nms cs ds ys) (m : Str) (i : Int) : wsOf (putC (csW (wsOf cs ds ys)) m (gC (csW (wsOf cs ds ys)) m + i)) (dsW (wsOf cs ds ys)) ys' = wsOf (putC cs m (gC cs m + i)) ds ys' := by
  unfold wsOf
  refine List.map_congr_left fun s _ => ?_
  show (s, gC (putC (csW (wsOf cs ds ys)) m (gC (csW (wsOf cs ds ys)) m + i)) s, gD (dsW (wsOf cs ds ys)) s) = _
  rw [putC_get, putC_get, gC_csW n, gC_csW n, gD_dsW n]
theorem nd_putC {cs : Cn} {m : Str} {z : Int} (h : (cs.map (·.1)).Nodup) : ((putC cs m z).map (·.1)).Nodup := by
  rw [putC_names]
  split
  · exact h
  · rename_i c
    refine List.nodup_append.mpr ⟨h, List.nodup_cons.mpr ⟨List.not_mem_nil, List.nodup_nil⟩, fun x mx y my e => c ?_⟩
    rw [List.mem_singleton.mp my] at e
    rw [← e]
    exact mx
theorem gC_nonneg {cs : Cn} (h : ∀ p ∈ cs, 0 ≤ p.2) (s : Str) : 0 ≤ gC cs s := by
  unfold gC
  cases e : cs.lookup s with
  | none => exact Int.le_refl _
  | some i => exact h _ (look_mem e)
theorem good_putC {cs : Cn} {ds : Db} (g : Good cs ds) (la : (allN cs ds).length ≤ 59) {m : Str} {z : Int} (hm : nameOk (.str m) = true) (hz : 0 ≤ z) : Good (putC cs m z) ds := by
  refine ⟨nd_putC g.cn, g.dn, ?_, fun p mp => ?_, g.de⟩
  · have := putC_len (cs := cs) (n := m) (z := z)
    unfold allN at la ⊢
    rw [List.length_append, List.length_append, List.length_map, List.length_map] at la ⊢
    omega
  · rcases putC_mem mp with rfl | mp
    · exact ⟨hm, hz⟩
    · exact g.co p mp
theorem Drawn.all {cs : Cn} {ds : Db} (g : Drawn cs ds) : (allN cs ds).length ≤ 15 := by
  obtain ⟨l1, l2, l3⟩ := g.lens
  unfold allN
  rw [List.length_append, List.length_append, List.length_map, List.length_map]
  omega
theorem Drawn.ws {cs : Cn} {ds : Db} (g : Drawn cs ds) {ys : List Str} (n : Nms cs ds ys) : Good (csW (wsOf cs ds ys)) (dsW (wsOf cs ds ys)) ∧ (allN (csW (wsOf cs ds ys)) (dsW (wsOf cs ds ys))).length ≤ 59 := by
  obtain ⟨e1, e2⟩ := names_csW cs ds ys
  obtain ⟨sub, ly⟩ := g.names n
  have l1 : (csW (wsOf cs ds ys)).length = ys.length := by rw [csW_eq, List.length_map]
  have l2 : (dsW (wsOf cs ds ys)).length = ys.length := by rw [dsW_eq, List.length_map]
  have l3 : (toldN (dsW (wsOf cs ds ys))).length ≤ 9 := by
    have := toldN_le (ds := dsW (wsOf cs ds ys)) fun p mp => by
      rw [dsW_eq] at mp
      obtain ⟨y, my, rfl⟩ := List.mem_map.mp mp
      show (gD ds y).length ≤ 3
      unfold gD
      cases e : ds.lookup y with
      | none => exact Nat.zero_le _
      | some rs => exact (g.de _ (look_mem e)).2.1
    omega
  have la : (allN (csW (wsOf cs ds ys)) (dsW (wsOf cs ds ys))).length ≤ 59 := by
    unfold allN
    rw [List.length_append, List.length_append, List.length_map, List.length_map]
    omega
  refine ⟨⟨by rw [e1]; exact n.1, by rw [e2]; exact n.1, by omega, fun p mp => ?_, fun p mp => ?_⟩, la⟩
  · rw [csW_eq] at mp
    obtain ⟨y, my, rfl⟩ := List.mem_map.mp mp
    exact ⟨names3_ok _ (sub y my), gC_nonneg (fun p m => (g.co p m).2.1) y⟩
  · rw [dsW_eq] at mp
    obtain ⟨y, my, rfl⟩ := List.mem_map.mp mp
    refine ⟨names3_ok _ (sub y my), fun r mr => ?_⟩
    obtain ⟨p, mp, e, mr'⟩ := gD_mem mr
    have := (g.good.de p mp).2 r mr'
    rw [e] at this
    exact this
end K38

set_option Elab.async false
set_option linter.all false
set_option maxRecDepth 100000
set_option maxHeartbeats 4000000
namespace K38
open PySem PySem.Spec PyProof.Rows L2 Sr LamX
def spGivenL (K : PySem.W.Frag) (P1 P2 P3 : Addr) : Sp := fun vs H Q _ => ∃ a x v cs ds ys n, vs = [.ref a, .ref x, v] ∧ DnAt n H a ∧ n ≤ 100000 ∧ DebR K (rm H a) x (wsOf cs ds ys) ∧ WorldR (rm H a) v cs ds ∧ Nms cs ds ys ∧ Drawn cs ds ∧ Tabs (Tb P1 P2 P3) H ∧
  ∀ H', DnAt (n + 4) H' a → ExtN (rm H a) (rm H' a) → Tabs (Tb P1 P2 P3) H' → Q (.bl true) H'
def oddN : List Dt := [.non, .int 5, .str "A", .str "", .lst [.str "ann"], .bl true]
theorem oddN_no : ∀ d ∈ oddN, nameOk d = false ∧ Odd d := by
  intro d m
  simp only [oddN, List.mem_cons, List.not_mem_nil, or_false] at m
  rcases m with rfl | rfl | rfl | rfl | rfl | rfl
  · exact ⟨rfl, rfl, rfl, Nat.zero_le _⟩
  · exact ⟨rfl, rfl, rfl, Nat.zero_le _⟩
  · exact ⟨by decide +kernel, rfl, by decide +kernel, Nat.zero_le _⟩
  · exact ⟨by decide +kernel, rfl, by decide +kernel, Nat.zero_le _⟩
  · exact ⟨rfl, rfl, by decide +kernel, by decide⟩
  · exact ⟨rfl, rfl, rfl, Nat.zero_le _⟩
def oddI : List Dt := [.non, .int (-1), .str "1", .bl true, .lst [.int 1]]
theorem oddI_no : ∀ d ∈ oddI, coinOk d = false ∧ Odd d := by
  intro d m
  simp only [oddI, List.mem_cons, List.not_mem_nil, or_false] at m
  rcases m with rfl | rfl | rfl | rfl | rfl
  · exact ⟨rfl, rfl, rfl, Nat.zero_le _⟩
  · exact ⟨rfl, rfl, rfl, Nat.zero_le _⟩
  · exact ⟨rfl, rfl, by decide +kernel, Nat.zero_le _⟩
  · exact ⟨rfl, rfl, rfl, Nat.zero_le _⟩
  · exact ⟨rfl, rfl, rfl, by decide⟩
theorem merge_app : ∀ (l acc : List (Key × V)) (k : Key) (v : V), mergeK acc (l ++ [(k, v)]) = L2.putK (mergeK acc l) k v
  | [], _, _, _ => rfl
  | p :: r, acc, k, v => merge_app r (L2.putK acc p.1 p.2) k v
theorem merge_self {kc : List (Key × V)} (nd : (kc.map (·.1)).Nodup) : mergeK [] kc = kc := merge_nodup (more := kc) (acc := []) nd
section
variable {P : Program} {w : World} {K : PySem.W.Frag} {mg : Str → Option Value} {base : Heap}
abbrev s__law_given_right : Stmt := top 39
theorem sc__law_given_right : FnScope ["stream", "made", "world", "coins", "odd", "name", "many"] ["stream", "made", "world"] (defScope s__law_given_right) := ⟨rfl, rfl, rfl, by decide +kernel, rfl, by decide +kernel, by decide +kernel⟩
theorem c__law_given_right {P1 P2 P3 : Addr} (T : Txt K mg) (O : Deb K mg) (OM : DebM K) (Z : Xs K mg) (D : Dfn K mg "_law_given_right" s__law_given_right) (TB : TabB base mg (He.codeOf K ("_law_given_right", none)) P2) (n12 : P1 ≠ P2) (n23 : P2 ≠ P3) (D_law_tried : Dfn K mg "_law_tried" s__law_tried)
    (C_law_pick : Cal P w K mg base 2 "_law_pick" ["stream", "things"] (spPick K)) (C_law_members : Cal P w K mg base 1 "_law_members" ["world"] spMembL) (C_law_is_told : Cal P w K mg base 5 "_law_is_told" ["made", "world"] (spTold K)) (C_law_same : Cal P w K mg base 1 "_law_same" ["found", "due"] spSame)
    (MG : CalM P w K mg base (L2.CX P w) 7 (He.fAd K ("Debts", some "given")) ["self", "member", "many"] (spGiven K)) :
    Cal P w K mg base 10 "_law_given_right" ["stream", "made", "world"] (spGivenL K P1 P2 P3) := by
  refine calT D sc__law_given_right (fun _ _ _ _ _ _ us hl => match us, hl with | [_, _, _], _ => rfl) (fun vs H Q E h => ?_) fun A outer s H vs Q E hr h => ?_
  · obtain ⟨a, x, v, cs, ds, ys, n, rfl, _⟩ := h
    rfl
  obtain ⟨a, x, v, cs, ds, ys, n, rfl, hd, hb, hx, hw, nm, g, tab, q⟩ := h
  refine ⟨_, PSs.nox (pss_cons (ps_asg (pe_tup (pa_cons (pe_cal C_law_pick hr (by first | decide | omega) (by rfl) (pa_cons (pv 0) (pa_cons (pe_op op_cat (pe_cal C_law_members hr (by first | decide | omega) (by rfl) (pa_cons (pv 2) pa_nil)) (pe_lst (pa_cons pe_str pa_nil))) pa_nil))) (pa_cons (pe_cal C_law_pick hr (by first | decide | omega) (by rfl) (pa_cons (pv 0) (pa_cons (pe_lst (pa_cons pe_int (pa_cons pe_int (pa_cons pe_int (pa_cons (pe_op op_pow pe_int pe_int) pa_nil))))) pa_nil))) pa_nil))) (pg_tup rfl (pgs_cons (pg_name (i := 5) sc__law_given_right.nd rfl (by first | exact Or.inl rfl | exact Or.inr rfl)) (pgs_cons (pg_name (i := 6) sc__law_given_right.nd rfl (by first | exact Or.inl rfl | exact Or.inr rfl)) pgs_nil))))
      (pss_cons (ps_set (i := 3) sc__law_given_right.nd rfl (by first | exact Or.inl rfl | exact Or.inr rfl) (pe_callTy (T := "dict") (call_dictP rfl) (by rfl) T.dict (by decide +kernel) (pa_cons (pe_op op_cat (LiI.pe_listItems rfl (pe_ix ix_tup (pv 2) pe_int (fun _ _ => rfl)) (by rfl) T.list (by decide +kernel)) (pe_lst (pa_cons (pe_tup (pa_cons (pv 5) (pa_cons (pe_op op_add (pe_dget2 (hu_of hr) (pe_ix ix_tup (pv 2) pe_int (fun _ _ => rfl)) (pv 5) pe_int ⟨rfl, by rfl, rfl, rfl⟩) (pv 6)) pa_nil))) pa_nil))) pa_nil)))
      (pss_cons (ps_if (PW.pt (pw_or (pt_not (pt_val (pe_cal C_law_is_told hr (by first | decide | omega) (by rfl) (pa_cons (mE_ (K := K) MG rfl hr (by decide) O.cl OM.given passes_never (pv 1) (pa_cons (pv 5) (pa_cons (pv 6) pa_nil))) (pa_cons (pe_tup (pa_cons (pv 3) (pa_cons (pe_ix ix_tup (pv 2) pe_int (fun _ _ => rfl)) pa_nil))) pa_nil))))) (pw_or1 (pt_not (pt_val (pe_cal C_law_is_told hr (by first | decide | omega) (by rfl) (pa_cons (pv 1) (pa_cons (pv 2) pa_nil)))))))) (pss_one (ps_ret pe_bl)) pss_nil)
      (pss_cons (ps_set (i := 4) sc__law_given_right.nd rfl (by first | exact Or.inl rfl | exact Or.inr rfl) (pe_cal C_law_pick hr (by first | decide | omega) (by rfl) (pa_cons (pv 0) (pa_cons (pe_lst (pa_cons pe_non (pa_cons pe_int (pa_cons pe_str (pa_cons pe_str (pa_cons (pe_lst (pa_cons pe_str pa_nil)) (pa_cons pe_bl pa_nil))))))) pa_nil))))
      (pss_cons (ps_if (pt_not (pt_val (pe_cal C_law_same hr (by first | decide | omega) (by rfl) (pa_cons (pe_lamT (Tb P1 P2 P3) ("_law_given_right" ++ ".<locals>.") D_law_tried sc__law_tried (fun _ _ _ _ _ _ us hl => match us, hl with | [_], _ => rfl) (.tail _ (.head _)) (tb2 n12 n23) (fun cdv => g_tried Z cdv _) TB rfl hr (fun A outer s H E f c' hr => (mE_ (K := K) MG rfl hr (by decide) O.cl OM.given (passes_def rfl rfl rfl rfl) (pv 1) (pa_cons (pv 4) (pa_cons pe_non pa_nil)))) (by rfl) (lamS_by (by show lamSB (defScope s__law_given_right) _ = true; decide +kernel)) (fun _ _ _ _ _ => rfl)) (pa_cons (pe_tup (pa_cons pe_str (pa_cons (pv 4) pa_nil))) pa_nil))))) (pss_one (ps_ret pe_bl)) pss_nil)
      (pss_cons (ps_set (i := 4) sc__law_given_right.nd rfl (by first | exact Or.inl rfl | exact Or.inr rfl) (pe_cal C_law_pick hr (by first | decide | omega) (by rfl) (pa_cons (pv 0) (pa_cons (pe_lst (pa_cons pe_non (pa_cons (pe_un un_neg pe_int) (pa_cons pe_str (pa_cons pe_bl (pa_cons (pe_lst (pa_cons pe_int pa_nil)) pa_nil)))))) pa_nil))))
      (pss_one (ps_ret (pe_cal C_law_same hr (by first | decide | omega) (by rfl) (pa_cons (pe_lamT (Tb P1 P2 P3) ("_law_given_right" ++ ".<locals>.") D_law_tried sc__law_tried (fun _ _ _ _ _ _ us hl => match us, hl with | [_], _ => rfl) (.tail _ (.head _)) (tb2 n12 n23) (fun cdv => g_tried Z cdv _) TB rfl hr (fun A outer s H E f c' hr => (mE_ (K := K) MG rfl hr (by decide) O.cl OM.given (passes_def rfl rfl rfl rfl) (pv 1) (pa_cons (pv 5) (pa_cons (pv 4) pa_nil)))) (by rfl) (lamS_by (by show lamSB (defScope s__law_given_right) _ = true; decide +kernel)) (fun _ _ _ _ _ => rfl)) (pa_cons (pe_tup (pa_cons pe_str (pa_cons (pv 4) pa_nil))) pa_nil))))))))))), ?_⟩
  have S0 : Sx K x v cs ds ys (rm H a) := ⟨hx, hw⟩
  have good := g.good
  obtain ⟨l1, l2, l3, l4⟩ := good.lens
  obtain ⟨nsub, nl⟩ := g.names nm
  have okn : ∀ s ∈ ys, nameOk (.str s) = true := fun s m => good.name ((nm.2.2 s).mp m)
  have A0 : Ax (Tb P1 P2 P3) (rm H a) a n H := ⟨hd, ExtN.refl _, tab⟩
  refine cut_if (fun σ H' => ∃ (nm' : Str) (mn' : Int), σ = [some (.ref a), some (.ref x), some v, none, none, some (.str nm'), some (.int mn')] ∧ Ax (Tb P1 P2 P3) (rm H a) a (n + 2) H' ∧ (nm' ∈ ys ∨ nm' = "eve") ∧ 0 ≤ mn') ?_ fun rest => ?_
  rotate_left
  · refine ⟨_, rfl, _, rfl, v, cs, ds, rfl, hw.mono rm_same, good.al, g.dn, fun H1 p ys1 s1 p0 hp n1 => ?_⟩
    obtain rfl : ys1 = ys := nms_one n1 nm fun _ => Iff.rfl
    refine ⟨lineN (n := 1), fun e he => ⟨p, e, _, _, rfl, rfl, Same.up he _ _ hp, upd_same, ?_, fun c hc => ?_⟩⟩
    · rw [List.length_map]
      exact Nat.le_trans (show ys1.length + 1 ≤ 60 by omega) (by decide)
    have B1 := (A0.same s1).same (Same.up (o := .lst [.str "eve"]) he)
    have A1 := B1.same (Same.up (o := .lst (ys1.map V.str ++ [.str "eve"])) hc)
    have nc := B1.dr.new hc
    refine ⟨a, c, _, _, rfl, A1.dr, by omega, nc, .inl (SqL.of upd_same), by rw [List.length_append]; exact Nat.succ_pos _, by rw [List.length_append, List.length_map]; show ys1.length + 1 < _; omega, fun k1 v1 o1 hv1 ho1 => ?_⟩
    obtain ⟨nm', rfl, hn'⟩ : ∃ nm', v1 = .str nm' ∧ (nm' ∈ ys1 ∨ nm' = "eve") := by
      rcases List.mem_append.mp (List.mem_of_getElem? hv1) with m | m
      · obtain ⟨s, ms, e⟩ := List.mem_map.mp m
        exact ⟨s, e.symm, .inl ms⟩
      · exact ⟨"eve", List.mem_singleton.mp m, .inr rfl⟩
    have A2 := A1.draw ho1
    generalize upd (upd (upd H1 e _) c _) a o1 = H2 at A2 ⊢
    refine ⟨_, rfl, _, _, rfl, rfl, ⟨by decide, by decide, by decide⟩, lineN (n := 4), fun l hl => ?_⟩
    have nl := A2.dr.new hl
    have A3 := A2.same (Same.up (o := .lst [.int 0, .int 1, .int 5, .int (10 ^ (12 : Int).toNat)]) hl)
    refine ⟨a, l, _, _, rfl, A3.dr, by omega, nl, .inl (SqL.of upd_same), Nat.succ_pos 3, show 4 < 1073741824 by decide, fun k2 v2 o2 hv2 ho2 => ?_⟩
    obtain ⟨mn', rfl, hm'⟩ : ∃ mn' : Int, v2 = .int mn' ∧ 0 ≤ mn' := by
      have m := List.mem_of_getElem? hv2
      simp only [List.mem_cons, List.not_mem_nil, or_false] at m
      rcases m with rfl | rfl | rfl | rfl
      · exact ⟨_, rfl, by decide⟩
      · exact ⟨_, rfl, by decide⟩
      · exact ⟨_, rfl, by decide⟩
      · exact ⟨_, rfl, by decide⟩
    have A4 := A3.draw ho2
    generalize upd (upd H2 l _) a o2 = H3 at A4 ⊢
    refine ⟨two_line, fun t ht => ⟨t, _, rfl, SqT.of upd_same, rfl, _, _, rfl, _, _, rfl, rfl, rest _ _ ⟨nm', mn', rfl, A4.same (Same.up ht), hn', hm'⟩⟩⟩
  rintro σ H2 ⟨nm', mn', rfl, A2, hn', hm'⟩
  try dsimp only
  have on' : nameOk (.str nm') = true := hn'.elim (okn nm') fun e => by rw [e]; decide +kernel
  refine cut_if (fun σ H' => ∃ (f : Addr) (kcf : List (Key × V)), σ = [some (.ref a), some (.ref x), some v, some (.ref f), none, some (.str nm'), some (.int mn')] ∧ Ax (Tb P1 P2 P3) (rm H a) a (n + 2) H' ∧ H' f = some (.dK kcf) ∧ CoinsC kcf (putC cs nm' (gC cs nm' + mn'))) ?_ fun rest => ?_
  rotate_left
  · have S2 := S0.at_ A2
    obtain ⟨t, wc, wd, wkc, wkd, rfl, b1, b2, b3, b4, b5⟩ := S2.wor
    refine ⟨_, rfl, t, _, 0, _, rfl, rfl, SqT.of b1, rfl, wc, wkc, rfl, b2, fun H3 p ts s3 p0 tn pn hp pr => ?_⟩
    have A3 := A2.same s3
    have eg : (valV wkc (Sum.inr nm')).getD (V.int 0) = .int (gC cs nm') := by
      rw [b3.val]
      unfold gC
      cases cs.lookup nm' <;> rfl
    refine ⟨_, rfl, _, rfl, t, _, 0, _, rfl, rfl, SqT.of (s3 _ _ b1), rfl, wc, rfl, .inl ⟨wkc, .inl (s3 _ _ b2)⟩, _, rfl, valV wkc (Sum.inr nm'), .inl ⟨wkc, Sum.inr nm', .inl (s3 _ _ b2), rfl, rfl⟩, ?_⟩
    rw [eg]
    refine ⟨_, rfl, _, _, rfl, rfl, two_line, fun t2 ht2 => ⟨lineN (n := 1), fun l2 hl2 => ?_⟩⟩
    have s4 := (Same.up (o := .tup [.str nm', .int (gC cs nm' + mn')]) ht2).trans (Same.up (o := .lst [.ref t2]) hl2)
    have lk : ts.length = wkc.length := Paired.length pr
    have lw : wkc.length = cs.length := Paired.length b3
    refine ⟨p, l2, _, _, rfl, rfl, s4 _ _ hp, upd_same, ?_, fun l3 hl3 => ?_⟩
    · rw [List.length_map]
      exact Nat.le_trans (show ts.length + 1 ≤ 100 by omega) (by decide)
    have s5 := s4.trans (Same.up (o := .lst (ts.map V.ref ++ [.ref t2])) hl3)
    have h3 : (upd (upd (upd H3 t2 (.tup [.str nm', .int (gC cs nm' + mn')])) l2 (.lst [.ref t2])) l3 (.lst (ts.map V.ref ++ [.ref t2]))) l3 = some (.lst ((ts ++ [t2]).map V.ref)) := by rw [upd_same, List.map_append]; rfl
    have h2 : (upd (upd (upd H3 t2 (.tup [.str nm', .int (gC cs nm' + mn')])) l2 (.lst [.ref t2])) l3 (.lst (ts.map V.ref ++ [.ref t2]))) t2 = some (.tup [.str nm', .int (gC cs nm' + mn')]) := (Same.up (o := .lst [.ref t2]) hl2).trans (Same.up (o := .lst (ts.map V.ref ++ [.ref t2])) hl3) _ _ upd_same
    have A5 := A3.same s5
    generalize upd (upd (upd H3 t2 _) l2 _) l3 _ = H5 at s5 h3 h2 A5 ⊢
    refine ⟨l3, ts ++ [t2], wkc ++ [(Sum.inr nm', .int (gC cs nm' + mn'))], rfl, SqL.of h3, ?_, fun f hf => ?_⟩
    · exact Paired.snoc (F := fun (p : Addr) (kv : Key × V) => SqT _ H5 p [kV kv.1, kv.2]) (SqT.of h2) (L2.Paired.mapP pr fun _ _ h => SqT.of (s5 _ _ h))
    rw [merge_app, merge_self (keys_nd (F := fun v i => v = V.int i) b3 g.cn)]
    exact rest _ _ ⟨f, _, rfl, A5.same (Same.up hf), upd_same, b3.put nm' _⟩
  rintro σ H3 ⟨f, kcf, rfl, A3, hf, cf⟩
  try dsimp only
  refine cut_if (fun σ H' => σ = [some (.ref a), some (.ref x), some v, some (.ref f), none, some (.str nm'), some (.int mn')] ∧ Ax (Tb P1 P2 P3) (rm H a) a (n + 2) H') ?_ fun rest => ?_
  rotate_left
  · have S3 := S0.at_ A3
    obtain ⟨dx, fc, fd, kc, kd, i3, _⟩ := id S3.deb
    obtain ⟨gw, gl⟩ := g.ws nm
    have z0 : 0 ≤ gC (csW (wsOf cs ds ys)) nm' + mn' := by
      have := gC_nonneg (fun p m => (g.co p m).2.1) nm'
      rw [gC_csW nm]
      omega
    refine ⟨_, rfl, x, dx, _, rfl, i3, rfl, _, rfl, _, rfl, x, _, _, _, rfl, S3.deb, .inr ⟨nm', rfl, on', .inr ⟨mn', rfl, hm', good_putC gw gl on' z0, fun x' H4 ys' x0 s4 n4 d4 => ?_⟩⟩⟩
    have A4 := A3.same s4
    have S4 := S0.at_ A4
    rw [given_ws nm] at d4
    obtain ⟨t, wc, wd, wkc, wkd, rfl, b1, b2, b3, b4, b5⟩ := S4.wor
    refine ⟨_, rfl, _, rfl, t, _, 1, _, rfl, rfl, SqT.of b1, rfl, two_line, fun wt hwt => ?_⟩
    delta tNil
    dsimp only
    have s5 := Same.up (o := .tup [.ref f, .ref wd]) hwt
    have z1 : 0 ≤ gC cs nm' + mn' := by rw [← gC_csW nm]; exact z0
    refine ⟨x', .ref wt, putC cs nm' (gC cs nm' + mn'), ds, ys', rfl, d4.mono s5, ⟨wt, f, wd, kcf, wkd, rfl, upd_same, s5 _ _ (s4 _ _ hf), cf, s5 _ _ b4, b5.mono s5⟩, ⟨n4.1, n4.2.1, fun s => (n4.2.2 s).trans (given_all nm nm' _ _ s)⟩, good_putC good (by have := g.all; omega) on' z1, fun H5 s6 => ⟨_, rfl, iteF ?_⟩⟩
    have A5 := (A4.same s5).same s6
    have S5 := S0.at_ A5
    exact ⟨_, rfl, _, rfl, x, _, cs, ds, ys, rfl, S5.deb, S5.wor, nm, good, fun H6 s7 => ⟨_, rfl, iteF (rest _ _ ⟨rfl, A5.same s7⟩)⟩⟩
  rintro σ H4 ⟨rfl, A4⟩
  try dsimp only
  refine ⟨_, rfl, lineN (n := 1), fun l0 hl0 => ⟨lineN (n := 6), fun lo hlo => ?_⟩⟩
  have B1 := A4.same (Same.up (o := .lst [.str "ann"]) hl0)
  have A9 := B1.same (Same.up (o := .lst [.non, .int 5, .str "A", .str "", .ref l0, .bl true]) hlo)
  have nlo : lo ≠ a := B1.dr.new hlo
  have nl0 : l0 ≠ a := A4.dr.new hl0
  have glo : (upd (upd H4 l0 (.lst [.str "ann"])) lo (.lst [.non, .int 5, .str "A", .str "", .ref l0, .bl true])) lo = some (.lst [.non, .int 5, .str "A", .str "", .ref l0, .bl true]) := upd_same
  refine ⟨a, lo, _, _, rfl, A9.dr, by omega, nlo, .inl (SqL.of glo), Nat.succ_pos 5, show 6 < 1073741824 by decide, fun k v1 o1 hv1 ho1 => ?_⟩
  have ia : IsA (rm (upd (upd H4 l0 (.lst [.str "ann"])) lo (.lst [.non, .int 5, .str "A", .str "", .ref l0, .bl true])) a) [.non, .int 5, .str "A", .str "", .ref l0, .bl true] oddN := by
    have g0 := Same.up (o := .lst [.non, .int 5, .str "A", .str "", .ref l0, .bl true]) hlo l0 _ upd_same
    exact .cons .non (.cons (.int _) (.cons (.str _ (by decide)) (.cons (.str _ (by decide)) (.cons (.lst (by rw [rm_ne nl0]; exact g0) (.cons (.str _ (by decide)) .nil) (show 1 ≤ 60 by decide)) (.cons (.bl _) .nil)))))
  obtain ⟨d, md, iv, od⟩ := pick_odd ia (fun d m => (oddN_no d m).2) hv1
  have no := (oddN_no d md).1
  generalize upd (upd H4 l0 _) lo _ = G9 at A9 iv ⊢
  have AG : Ax (Tb P1 P2 P3) (rm G9 a) a (n + 2) G9 := ⟨A9.dr, ExtN.refl _, A9.tb⟩
  have AG2 := AG.draw ho1
  have S9 := S0.ext A9.ex
  generalize upd G9 a o1 = G10 at AG2 ⊢
  refine ⟨AG2.tb, fun G2 e2 t2 => ?_⟩
  have AG3 := AG2.lam e2 t2
  have SG := S9.at_ AG3
  have ivG := (is_ext AG3.ex iv od.pl).mono rm_same
  obtain ⟨dx, fc, fd, kc, kd, iG, _⟩ := id SG.deb
  refine ⟨_, rfl, x, dx, _, rfl, iG, rfl, _, rfl, x, _, _, _, rfl, SG.deb, .inl ⟨d, ivG, no, fun G' e s' he => ⟨_, "thing", "name", e, v1, .inr (.inr (.inr (.inr ⟨rfl, rfl, rfl⟩))), rfl, rfl, upd_same, fun p1 hp1 => ⟨_, rfl, two_line, fun q2 hq2 => ?_⟩⟩⟩⟩
  delta tNil
  dsimp only
  refine same_ok he hp1 hq2 (ivG.mono s') od okW.2.2.1 lenW.2.2.1 fun H5 sH => ⟨_, rfl, iteF ?_⟩
  have A5 := AG3.same (s'.trans sH)
  have A6 : Ax (Tb P1 P2 P3) (rm H a) a (n + 3) H5 := ⟨A5.dr, A9.ex.trans A5.ex, A5.tb⟩
  clear A5 AG AG2 AG3 A9 S9 SG ivG iv ia iG e2 t2 s' sH hq2 hp1 he
  refine ⟨_, rfl, 1, rfl, lineN (n := 1), fun l0 hl0 => ⟨lineN (n := 5), fun lo hlo => ?_⟩⟩
  have B1 := A6.same (Same.up (o := .lst [.int 1]) hl0)
  have A9 := B1.same (Same.up (o := .lst [.non, .int (-1), .str "1", .bl true, .ref l0]) hlo)
  have nlo : lo ≠ a := B1.dr.new hlo
  have nl0 : l0 ≠ a := A6.dr.new hl0
  have glo : (upd (upd H5 l0 (.lst [.int 1])) lo (.lst [.non, .int (-1), .str "1", .bl true, .ref l0])) lo = some (.lst [.non, .int (-1), .str "1", .bl true, .ref l0]) := upd_same
  refine ⟨a, lo, _, _, rfl, A9.dr, by omega, nlo, .inl (SqL.of glo), Nat.succ_pos 4, show 5 < 1073741824 by decide, fun k v1 o1 hv1 ho1 => ?_⟩
  have ia : IsA (rm (upd (upd H5 l0 (.lst [.int 1])) lo (.lst [.non, .int (-1), .str "1", .bl true, .ref l0])) a) [.non, .int (-1), .str "1", .bl true, .ref l0] oddI := by
    have g0 := Same.up (o := .lst [.non, .int (-1), .str "1", .bl true, .ref l0]) hlo l0 _ upd_same
    exact .cons .non (.cons (.int _) (.cons (.str _ (by decide)) (.cons (.bl _) (.cons (.lst (by rw [rm_ne nl0]; exact g0) (.cons (.int _) .nil) (show 1 ≤ 60 by decide)) .nil))))
  obtain ⟨d, md, iv, od⟩ := pick_odd ia (fun d m => (oddI_no d m).2) hv1
  have no := (oddI_no d md).1
  generalize upd (upd H5 l0 _) lo _ = G9 at A9 iv ⊢
  have AG : Ax (Tb P1 P2 P3) (rm G9 a) a (n + 3) G9 := ⟨A9.dr, ExtN.refl _, A9.tb⟩
  have AG2 := AG.draw ho1
  have S9 := S0.ext A9.ex
  generalize upd G9 a o1 = G10 at AG2 ⊢
  refine ⟨AG2.tb, fun G2 e2 t2 => ?_⟩
  have AG3 := AG2.lam e2 t2
  have SG := S9.at_ AG3
  have ivG := (is_ext AG3.ex iv od.pl).mono rm_same
  obtain ⟨dx, fc, fd, kc, kd, iG, _⟩ := id SG.deb
  refine ⟨_, rfl, x, dx, _, rfl, iG, rfl, _, rfl, _, rfl, x, _, _, _, rfl, SG.deb, .inr ⟨nm', rfl, on', .inl ⟨d, ivG, no, fun G' e s' he => ⟨_, "number", "number", e, v1, .inr (.inr (.inr (.inl ⟨rfl, rfl, rfl⟩))), rfl, rfl, upd_same, fun p1 hp1 => ⟨_, rfl, two_line, fun q2 hq2 => ?_⟩⟩⟩⟩⟩
  try dsimp only
  refine same_ok he hp1 hq2 (ivG.mono s') od okW.1 lenW.1 fun H6 sH => ?_
  have Af := AG3.same (s'.trans sH)
  exact q H6 Af.dr (A9.ex.trans Af.ex) Af.tb
end
end K38

set_option Elab.async false
set_option linter.all false
set_option maxRecDepth 100000
set_option maxHeartbeats 4000000
namespace K38
open PySem PySem.Spec PyProof.Rows L2 Sr LamX
/-! ### data as they are written: a reading that builds a datum -/
structure Bd (t : TE) (d : Dt) : Prop where
  run : ∀ σ H Q, (∀ v H', Same H H' → Is H' v d → Q v H') → t σ H Q
structure BdA (t : TA) (ds : List Dt) : Prop where
  run : ∀ σ H (Q : List V → Hp → Prop), (∀ vs H', Same H H' → IsA H' vs ds → Q vs H') → t σ H Q
theorem bd_non : Bd (tC .non) .non := ⟨fun σ H Q k => k _ _ (Same.refl _) .non⟩
theorem bd_int {i : Int} : Bd (tC (.int i)) (.int i) := ⟨fun σ H Q k => k _ _ (Same.refl _) (.int i)⟩
theorem bd_bl {b : Bool} : Bd (tC (.bl b)) (.bl b) := ⟨fun σ H Q k => k _ _ (Same.refl _) (.bl b)⟩
theorem bd_str {s : Str} (h : s.length ≤ 1000 := by decide) : Bd (tC (.str s)) (.str s) := ⟨fun σ H Q k => k _ _ (Same.refl _) (.str s h)⟩
theorem bd_neg {i : Int} : Bd (tUn (rU fun i => V.int (-i)) (tC (.int i))) (.int (-i)) := ⟨fun σ H Q k => ⟨i, rfl, k _ _ (Same.refl _) (.int (-i))⟩⟩
theorem bd_nil : BdA tNil [] := ⟨fun σ H Q k => k _ _ (Same.refl _) .nil⟩
theorem bd_cons {t : TE} {ta : TA} {d : Dt} {ds : List Dt} (h : Bd t d) (r : BdA ta ds) : BdA (tCons t ta) (d :: ds) := ⟨fun σ H Q k => h.run σ H _ fun v H1 s1 i1 => r.run σ H1 _ fun vs H2 s2 i2 => k _ _ (s1.trans s2) (.cons (i1.mono s2) i2)⟩
theorem bd_tup {ta : TA} {ds : List Dt} (r : BdA ta ds) (z : ds.length ≤ 60 := by decide) : Bd (tTup ta) (.tup ds) := ⟨fun σ H Q k => r.run σ H _ fun vs H1 s1 i1 => ⟨Nat.le_of_lt (sz (m := 60) (by rw [i1.len]; exact z) (by decide)), fun p hp => k _ _ (s1.trans (Same.up hp)) (.tup upd_same (i1.mono (Same.up hp)) (by rw [i1.len]; exact z))⟩⟩
theorem bd_lst {ta : TA} {ds : List Dt} (r : BdA ta ds) (z : ds.length ≤ 60 := by decide) : Bd (tLst ta) (.lst ds) := ⟨fun σ H Q k => r.run σ H _ fun vs H1 s1 i1 => ⟨Nat.le_of_lt (sz (m := 60) (by rw [i1.len]; exact z) (by decide)), fun p hp => k _ _ (s1.trans (Same.up hp)) (.lst upd_same (i1.mono (Same.up hp)) (by rw [i1.len]; exact z))⟩⟩
theorem one_lst {ta : TA} {ds : List Dt} (r : BdA ta ds) (z : ds.length ≤ 60) {σ : L2.St} {H : Hp} {Q : List V → Hp → Prop} (k : ∀ l vs H1, Same H H1 → H1 l = none → IsA H1 vs ds → Q [.ref l] (upd H1 l (.lst vs))) : tCons (tLst ta) tNil σ H Q :=
  r.run σ H _ fun vs H1 s1 i1 => ⟨Nat.le_of_lt (sz (m := 60) (by rw [i1.len]; exact z) (by decide)), fun p hp => k p vs H1 s1 hp i1⟩
theorem a_lst {ta : TA} {ds : List Dt} (r : BdA ta ds) (z : ds.length ≤ 60) {σ : L2.St} {H : Hp} {Q : VK} (k : ∀ l vs H1, Same H H1 → H1 l = none → IsA H1 vs ds → Q (.ref l) (upd H1 l (.lst vs))) : tLst ta σ H Q :=
  r.run σ H _ fun vs H1 s1 i1 => ⟨Nat.le_of_lt (sz (m := 60) (by rw [i1.len]; exact z) (by decide)), fun p hp => k p vs H1 s1 hp i1⟩
theorem isA_app {H : Hp} : ∀ {vs us : List V} {ds es : List Dt}, IsA H vs ds → IsA H us es → IsA H (vs ++ us) (ds ++ es)
  | _, _, _, _, .nil, h => h
  | _, _, _, _, .cons a b, h => .cons a (isA_app b h)
theorem tabs_but {T : List (Addr × Str)} {H H' : Hp} {f : Addr} {kvs : List (Key × V)} (t : Tabs T H) (hf : H f = some (.dK kvs)) (s : ∀ b o, b ≠ f → H b = some o → H' b = some o) : Tabs T H' := fun p hp => by
  obtain ⟨ps, h1, h2, h3⟩ := t p hp
  refine ⟨ps, s _ _ (ne_of h1 hf (by intro z; cases z)) h1, h2, fun pos cv hc => ?_⟩
  obtain ⟨c, e1, e2⟩ := h3 pos cv hc
  exact ⟨c, e1, s _ _ (fun z => by rw [z, hf] at e2; injection e2 with e2; unfold CodeO at e2; cases e2) e2⟩
/-- a dict of one's own may be locked for ever -/
theorem Ax.but {T : List (Addr × Str)} {M : Hp} {a f : Addr} {n m : Nat} {H0 H H' : Hp} {kvs : List (Key × V)} (A0 : Ax T M a m H0) (h0 : H0 f = none) (A : Ax T M a n H) (hf : H f = some (.dK kvs)) (s : ∀ b o, b ≠ f → H b = some o → H' b = some o) : Ax T M a n H' := by
  have na : a ≠ f := fun z => by
    obtain ⟨o, ho, x, y, w, rfl, _⟩ := A.dr
    rw [z, hf] at ho
    cases ho
  refine ⟨?_, fun b o e nt => ?_, tabs_but A.tb hf s⟩
  · obtain ⟨o, ho, x⟩ := A.dr
    exact ⟨o, s _ _ na ho, x⟩
  · have h1 := A0.ex _ _ e nt
    have nb : b ≠ f := fun z => by
      have := rm_same _ _ h1
      rw [z, h0] at this
      cases this
    have h2 := A.ex _ _ e nt
    have nba := rm_dif h2
    rw [rm_ne nba] at h2 ⊢
    exact s _ _ nb h2
def oddC : List (Key × Dt) := [(.inr "A", .int 1), (.inl 5, .int 1), (.inr "eve", .int (-1)), (.inr "eve", .non), (.inr "eve", .bl true), (.inr "", .int 0), (.inr "eve", .str "1")]
def wrongD : List (Key × Dt) := [(.inr "A", .lst []), (.inl 5, .lst []), (.inr "eve", .non), (.inr "eve", .lst [.tup [.str "ann"]]), (.inr "eve", .lst [.tup [.str "ann", .int 0]]), (.inr "eve", .lst [.tup [.str "eve", .int 1]]),
  (.inr "eve", .lst [.tup [.str "ann", .int 1], .non]), (.inr "eve", .str "ab"), (.inr "eve", .lst [.tup [.str "B", .int 1]]), (.inr "eve", .lst [.tup [.str "ann", .bl true]]),
  (.inr "eve", .lst [.tup [.str "ann", .int 1, .int 2]]), (.inr "eve", .lst [.tup [.str "ann", .int (-1)]]), (.inr "eve", .lst [.tup [.int 5, .int 1]]), (.inr "eve", .lst [.tup [.str "ann", .str "1"]])]
def newKeys : List Key := [.inr "A", .inl 5, .inr "eve", .inr ""]
theorem oddC_no : ∀ p ∈ oddC, (nameOk (keyD p.1) && coinOk p.2) = false ∧ p.1 ∈ newKeys := by
  intro p m
  simp only [oddC, List.mem_cons, List.not_mem_nil, or_false] at m
  rcases m with rfl | rfl | rfl | rfl | rfl | rfl | rfl <;> exact ⟨by decide +kernel, by simp [newKeys]⟩
theorem wrongD_no : ∀ p ∈ wrongD, (nameOk (keyD p.1) && rowK p.1 p.2) = false ∧ p.1 ∈ newKeys ∧ plain p.2 = true := by
  intro p m
  simp only [wrongD, List.mem_cons, List.not_mem_nil, or_false] at m
  rcases m with rfl | rfl | rfl | rfl | rfl | rfl | rfl | rfl | rfl | rfl | rfl | rfl | rfl | rfl <;> exact ⟨by decide +kernel, by simp [newKeys], rfl⟩
theorem newKeys_odd : ∀ k ∈ newKeys, Odd (keyD k) ∧ (∀ s, k = .inr s → s.length ≤ 1000) ∧ k ≠ .inr "?" ∧ ∀ s ∈ names3, k ≠ .inr s := by
  intro k m
  simp only [newKeys, List.mem_cons, List.not_mem_nil, or_false] at m
  rcases m with rfl | rfl | rfl | rfl
  · exact ⟨⟨rfl, by decide +kernel, Nat.zero_le _⟩, fun s e => (by cases e; decide), (fun e => by have := Sum.inr.inj e; revert this; decide +kernel), fun s ms e => by have := Sum.inr.inj e; subst this; revert ms; decide +kernel⟩
  · exact ⟨⟨rfl, rfl, Nat.zero_le _⟩, fun s e => (by cases e), (fun e => by cases e), fun s _ e => by cases e⟩
  · exact ⟨⟨rfl, by decide +kernel, Nat.zero_le _⟩, fun s e => (by cases e; decide), (fun e => by have := Sum.inr.inj e; revert this; decide +kernel), fun s ms e => by have := Sum.inr.inj e; subst this; revert ms; decide +kernel⟩
  · exact ⟨⟨rfl, by decide +kernel, Nat.zero_le _⟩, fun s e => (by cases e; decide), (fun e => by have := Sum.inr.inj e; revert this; decide +kernel), fun s ms e => by have := Sum.inr.inj e; subst this; revert ms; decide +kernel⟩
theorem oddC_noD : ∀ p ∈ oddC, noD (.tup [keyD p.1, p.2]) = true := by
  intro p m
  simp only [oddC, List.mem_cons, List.not_mem_nil, or_false] at m
  rcases m with rfl | rfl | rfl | rfl | rfl | rfl | rfl <;> rfl
theorem wrongD_noD : ∀ p ∈ wrongD, noD (.tup [keyD p.1, p.2]) = true := by
  intro p m
  simp only [wrongD, List.mem_cons, List.not_mem_nil, or_false] at m
  rcases m with rfl | rfl | rfl | rfl | rfl | rfl | rfl | rfl | rfl | rfl | rfl | rfl | rfl | rfl <;> rfl
def pairD (p : Key × Dt) : Dt := .tup [keyD p.1, p.2]
theorem key_v {H : Hp} {v : V} {k : Key} (h : Is H v (keyD k)) : v = kV k := by
  cases k with
  | inl i => cases h; rfl
  | inr s => cases h; rfl
def wdA : List Dt := [.tup [.str "A", .lst []], .tup [.int 5, .lst []], .tup [.str "eve", .non], .tup [.str "eve", .lst [.tup [.str "ann"]]], .tup [.str "eve", .lst [.tup [.str "ann", .int 0]]], .tup [.str "eve", .lst [.tup [.str "eve", .int 1]]]]
def wdB : List Dt := [.tup [.str "eve", .lst [.tup [.str "ann", .int 1], .non]], .tup [.str "eve", .str "ab"], .tup [.str "eve", .lst [.tup [.str "B", .int 1]]], .tup [.str "eve", .lst [.tup [.str "ann", .bl true]]]]
def wdC : List Dt := [.tup [.str "eve", .lst [.tup [.str "ann", .int 1, .int 2]]], .tup [.str "eve", .lst [.tup [.str "ann", .int (-1)]]], .tup [.str "eve", .lst [.tup [.int 5, .int 1]]], .tup [.str "eve", .lst [.tup [.str "ann", .str "1"]]]]
theorem wd_noD : noDs wdA = true ∧ noDs (wdA ++ wdB) = true ∧ noDs (wdA ++ wdB ++ wdC) = true := by decide +kernel
theorem wd_all : wdA ++ wdB ++ wdC = wrongD.map pairD := rfl
theorem wd_A : wdA.length = 6 := rfl
theorem wd_AB : (wdA ++ wdB).length = 10 := rfl
theorem wd_B : wdB.length = 4 := rfl
theorem wd_C : wdC.length = 4 := rfl
def odA : List Dt := oddC.map pairD
def thD : List Dt := [.non, .int 5, .str "ab", .lst [], .tup []]
theorem thD_ok : ∀ d ∈ thD, Odd d ∧ d ≠ .dic := by
  intro d m
  simp only [thD, List.mem_cons, List.not_mem_nil, or_false] at m
  rcases m with rfl | rfl | rfl | rfl | rfl
  · exact ⟨⟨rfl, rfl, Nat.zero_le _⟩, by intro z; cases z⟩
  · exact ⟨⟨rfl, rfl, Nat.zero_le _⟩, by intro z; cases z⟩
  · exact ⟨⟨rfl, by decide +kernel, Nat.zero_le _⟩, by intro z; cases z⟩
  · exact ⟨⟨rfl, rfl, by decide⟩, by intro z; cases z⟩
  · exact ⟨⟨rfl, rfl, by decide⟩, by intro z; cases z⟩
theorem thD_noD : noDs thD = true := by decide +kernel
/-- a pair that was written -/
theorem pair_is {H : Hp} {v : V} {p : Key × Dt} (h : Is H v (pairD p)) : ∃ t u, v = .ref t ∧ H t = some (.tup [kV p.1, u]) ∧ Is H u p.2 := by
  cases h with
  | tup h r z =>
    rename_i t xs
    cases r with
    | cons i1 r => cases r with
      | cons i2 r =>
        cases r
        exact ⟨t, _, rfl, by rw [key_v i1] at h; exact h, i2⟩
end K38

set_option Elab.async false
set_option linter.all false
set_option maxRecDepth 100000
set_option maxHeartbeats 4000000
namespace K38
open PySem PySem.Spec PyProof.Rows L2 Sr LamX
def spRef (P1 P2 P3 : Addr) : Sp := fun vs H Q _ => ∃ a v cs ds n, vs = [.ref a, v] ∧ DnAt n H a ∧ n ≤ 100000 ∧ WorldR (rm H a) v cs ds ∧ Drawn cs ds ∧ Tabs (Tb P1 P2 P3) H ∧
  ∀ H', DnAt (n + 5) H' a → ExtN (rm H a) (rm H' a) → Tabs (Tb P1 P2 P3) H' → Q (.bl true) H'
/-- pairs of a dict, in a list -/
def PrsAt (H : Hp) (l : Addr) (kvs : List (Key × V)) : Prop := ∃ ts : List Addr, H l = some (.lst (ts.map V.ref)) ∧ Paired (fun (t : Addr) (kv : Key × V) => H t = some (.tup [kV kv.1, kv.2])) ts kvs
theorem PrsAt.ext {H H' : Hp} (e : ExtN H H') {l : Addr} {kvs : List (Key × V)} (h : PrsAt H l kvs) : PrsAt H' l kvs := by
  obtain ⟨ts, h1, h2⟩ := h
  exact ⟨ts, e _ _ h1 (fun _ z => by cases z), L2.Paired.mapP h2 fun _ _ h => e _ _ h (fun _ z => by cases z)⟩
theorem PrsAt.off {n : Nat} {H : Hp} {a l : Addr} {kvs : List (Key × V)} (d : DnAt n H a) (nl : l ≠ a) (h : PrsAt H l kvs) : PrsAt (rm H a) l kvs := by
  obtain ⟨ts, h1, h2⟩ := h
  exact ⟨ts, by rw [rm_ne nl]; exact h1, L2.Paired.mapP h2 fun _ _ h => at_off d h (fun _ z => by cases z)⟩
/-- what stands while it is refused -/
structure Rx (v : V) (cs : Cn) (ds : Db) (cl dl : Addr) (kc kd : List (Key × V)) (M : Hp) : Prop where
  wor : WorldR M v cs ds
  cl : PrsAt M cl kc
  dl : PrsAt M dl kd
  cc : CoinsC kc cs
  dd : DebA M kd ds
theorem Rx.ext {v : V} {cs : Cn} {ds : Db} {cl dl : Addr} {kc kd : List (Key × V)} {M M' : Hp} (R : Rx v cs ds cl dl kc kd M) (e : ExtN M M') : Rx v cs ds cl dl kc kd M' := ⟨R.wor.ext e, R.cl.ext e, R.dl.ext e, R.cc, L2.Paired.mapP R.dd fun _ _ h => ⟨h.1, h.2.ext e⟩⟩
def insK (l : List (Key × V)) (n : Nat) (x q : Key × V) : List (Key × V) := l.take n ++ [x] ++ l.drop n ++ [q]
theorem paired_app {α β : Type} {F : α → β → Prop} : ∀ {l l' : List α} {m m' : List β}, Paired F l m → Paired F l' m' → Paired F (l ++ l') (m ++ m')
  | _, _, _, _, .nil, h => h
  | _, _, _, _, .cons a b, h => .cons a (paired_app b h)
theorem paired_take {α β : Type} {F : α → β → Prop} : ∀ {l : List α} {m : List β} (n : Nat), Paired F l m → Paired F (l.take n) (m.take n)
  | _, _, 0, _ => by rw [List.take_zero, List.take_zero]; exact .nil
  | _, _, _ + 1, .nil => .nil
  | _, _, n + 1, .cons a b => .cons a (paired_take n b)
theorem paired_drop {α β : Type} {F : α → β → Prop} : ∀ {l : List α} {m : List β} (n : Nat), Paired F l m → Paired F (l.drop n) (m.drop n)
  | _, _, 0, h => h
  | _, _, _ + 1, .nil => .nil
  | _, _, n + 1, .cons _ b => paired_drop n b
theorem insK_nd {l : List (Key × V)} {n : Nat} {x q : Key × V} (nd : (l.map (·.1)).Nodup) (hx : x.1 ∉ l.map (·.1)) (hq : q.1 ∉ l.map (·.1)) (ne : x.1 ≠ q.1) : ((insK l n x q).map (·.1)).Nodup := by
  have p : (insK l n x q).Perm (x :: q :: l) := by
    unfold insK
    have h1 : (l.take n ++ [x] ++ l.drop n).Perm (x :: l) := by
      rw [List.append_assoc]
      have := List.perm_middle (a := x) (l₁ := l.take n) (l₂ := l.drop n)
      rwa [List.take_append_drop] at this
    exact (h1.append_right [q]).trans ((List.perm_append_comm (l₁ := x :: l) (l₂ := [q])).trans (List.Perm.swap x q l))
  refine (p.map _).nodup_iff.mpr ?_
  rw [List.map_cons, List.map_cons]
  refine List.nodup_cons.mpr ⟨fun m => ?_, List.nodup_cons.mpr ⟨hq, nd⟩⟩
  rcases List.mem_cons.mp m with e | m
  · exact ne e
  · exact hx m
theorem insK_at {l : List (Key × V)} {n : Nat} {x q : Key × V} (h : n ≤ l.length) : (insK l n x q)[n]? = some x := by
  unfold insK
  rw [List.append_assoc, List.append_assoc, List.getElem?_append_right (by rw [List.length_take]; omega), List.length_take, Nat.min_eq_left h, Nat.sub_self]
  rfl
theorem insK_before {l : List (Key × V)} {n i : Nat} {x q p : Key × V} (h : n ≤ l.length) (lt : i < n) (e : (insK l n x q)[i]? = some p) : p ∈ l := by
  unfold insK at e
  rw [List.append_assoc, List.append_assoc, List.getElem?_append_left (by rw [List.length_take]; omega)] at e
  exact List.mem_of_mem_take (List.mem_of_getElem? e)
theorem insK_len {l : List (Key × V)} {n : Nat} {x q : Key × V} : (insK l n x q).length = l.length + 2 := by
  unfold insK
  rw [List.length_append, List.length_append, List.length_append, List.length_take, List.length_drop, List.length_cons, List.length_cons, List.length_nil]
  omega
theorem keys3 {α : Type} {F : V → α → Prop} {kv : List (Key × V)} {l : List (Str × α)} (h : Paired (fun (kv : Key × V) (p : Str × α) => kv.1 = Sum.inr p.1 ∧ F kv.2 p.2) kv l) (g : ∀ p ∈ l, p.1 ∈ names3) {k : Key} (hk : ∀ s ∈ names3, k ≠ .inr s) : k ∉ kv.map (·.1) := by
  rw [(keys_names h).2]
  intro m
  obtain ⟨p, mp, e⟩ := List.mem_map.mp m
  exact hk _ (g p mp) e.symm
theorem q_out : ∀ s ∈ names3, (Sum.inr "?" : Key) ≠ .inr s := by
  intro s m e
  have := Sum.inr.inj e
  subst this
  revert m
  decide +kernel
theorem oddC_flat : ∀ p ∈ oddC, ∀ {H : Hp} {u : V}, Is H u p.2 → ∀ G, Is G u p.2 := by
  intro p m
  simp only [oddC, List.mem_cons, List.not_mem_nil, or_false] at m
  rcases m with rfl | rfl | rfl | rfl | rfl | rfl | rfl <;> intro H u h G <;> cases h <;> first | exact .non | exact .bl _ | exact .int _ | (rename_i hs; exact .str _ hs)
/-- what the checks want of the heap -/
structure Mx (h tb l0 : Addr) (kvh : List (Key × V)) (pb : Key × Dt) (ub : V) (H : Hp) : Prop where
  h : H h = some (.dK kvh)
  tb : H tb = some (.tup [kV pb.1, ub])
  ub : Is H ub pb.2
theorem Mx.ext {h tb l0 : Addr} {kvh : List (Key × V)} {pb : Key × Dt} {ub : V} {H H' : Hp} (M : Mx h tb l0 kvh pb ub H) (pl : plainD pb.2 = true) (e : ExtN H H') : Mx h tb l0 kvh pb ub H' := ⟨e _ _ M.h (fun _ z => by cases z), e _ _ M.tb (fun _ z => by cases z), is_ext e M.ub pl⟩
theorem Mx.but {h tb l0 f : Addr} {kvh kvf : List (Key × V)} {pb : Key × Dt} {ub : V} {H H' : Hp} (M : Mx h tb l0 kvh pb ub H) (pl : plain pb.2 = true) (hf : H f = some (.dK kvf)) (ne : h ≠ f) (s : ∀ b o, b ≠ f → H b = some o → H' b = some o) : Mx h tb l0 kvh pb ub H' :=
  ⟨s _ _ ne M.h, s _ _ (ne_of M.tb hf (by intro z; cases z)) M.tb, is_seqs (fun b xs => ⟨fun e => s _ _ (ne_of e hf (by intro z; cases z)) e, fun e => s _ _ (ne_of e hf (by intro z; cases z)) e⟩) M.ub pl⟩
theorem wrongD_plain : ∀ p ∈ wrongD, plainD p.2 = true := by
  intro p m
  simp only [wrongD, List.mem_cons, List.not_mem_nil, or_false] at m
  rcases m with rfl | rfl | rfl | rfl | rfl | rfl | rfl | rfl | rfl | rfl | rfl | rfl | rfl | rfl <;> rfl
section
variable {P : Program} {w : World} {K : PySem.W.Frag} {mg : Str → Option Value} {base : Heap}
abbrev s__law_refused : Stmt := top 40
theorem sc__law_refused : FnScope ["stream", "world", "odd", "wrong", "some", "more", "thing", "coins", "debts", "bad", "at", "spot"] ["stream", "world"] (defScope s__law_refused) := ⟨rfl, rfl, rfl, by decide +kernel, rfl, by decide +kernel, by decide +kernel⟩
theorem c__law_refused {P1 P2 P3 : Addr} (T : Txt K mg) (Z : Xs K mg) (MkD0 : MkD P w K mg base) (D : Dfn K mg "_law_refused" s__law_refused) (TB : TabB base mg (He.codeOf K ("_law_refused", none)) P3) (n13 : P1 ≠ P3) (n23 : P2 ≠ P3) (D_law_tried : Dfn K mg "_law_tried" s__law_tried)
    (C_law_draw : Cal P w K mg base 1 "_law_draw" ["stream", "many"] spDraw) (C_law_pick : Cal P w K mg base 2 "_law_pick" ["stream", "things"] (spPick K)) (C_law_same : Cal P w K mg base 1 "_law_same" ["found", "due"] spSame) :
    Cal P w K mg base 10 "_law_refused" ["stream", "world"] (spRef P1 P2 P3) := by
  refine calT D sc__law_refused (fun _ _ _ _ _ _ us hl => match us, hl with | [_, _], _ => rfl) (fun vs H Q E h => ?_) fun A outer s H vs Q E hr h => ?_
  · obtain ⟨a, v, cs, ds, n, rfl, _⟩ := h
    rfl
  obtain ⟨a, v, cs, ds, n, rfl, hd, hb, hw, g, tab, q⟩ := h
  refine ⟨_, PSs.nox (pss_cons (ps_asg (pe_tup (pa_cons (LiI.pe_listItems rfl (pe_ix ix_tup (pv 1) pe_int (fun _ _ => rfl)) (by rfl) T.list (by decide +kernel)) (pa_cons (LiI.pe_listItems rfl (pe_ix ix_tup (pv 1) pe_int (fun _ _ => rfl)) (by rfl) T.list (by decide +kernel)) pa_nil))) (pg_tup rfl (pgs_cons (pg_name (i := 7) sc__law_refused.nd rfl (by first | exact Or.inl rfl | exact Or.inr rfl)) (pgs_cons (pg_name (i := 8) sc__law_refused.nd rfl (by first | exact Or.inl rfl | exact Or.inr rfl)) pgs_nil))))
      (pss_cons (ps_set (i := 2) sc__law_refused.nd rfl (by first | exact Or.inl rfl | exact Or.inr rfl) (pe_cal C_law_pick hr (by first | decide | omega) (by rfl) (pa_cons (pv 0) (pa_cons (pe_lst (pa_cons (pe_tup (pa_cons pe_str (pa_cons pe_int pa_nil))) (pa_cons (pe_tup (pa_cons pe_int (pa_cons pe_int pa_nil))) (pa_cons (pe_tup (pa_cons pe_str (pa_cons (pe_un un_neg pe_int) pa_nil))) (pa_cons (pe_tup (pa_cons pe_str (pa_cons pe_non pa_nil))) (pa_cons (pe_tup (pa_cons pe_str (pa_cons pe_bl pa_nil))) (pa_cons (pe_tup (pa_cons pe_str (pa_cons pe_int pa_nil))) (pa_cons (pe_tup (pa_cons pe_str (pa_cons pe_str pa_nil))) pa_nil)))))))) pa_nil))))
      (pss_cons (ps_set (i := 3) sc__law_refused.nd rfl (by first | exact Or.inl rfl | exact Or.inr rfl) (pe_lst (pa_cons (pe_tup (pa_cons pe_str (pa_cons (pe_lst pa_nil) pa_nil))) (pa_cons (pe_tup (pa_cons pe_int (pa_cons (pe_lst pa_nil) pa_nil))) (pa_cons (pe_tup (pa_cons pe_str (pa_cons pe_non pa_nil))) (pa_cons (pe_tup (pa_cons pe_str (pa_cons (pe_lst (pa_cons (pe_tup (pa_cons pe_str pa_nil)) pa_nil)) pa_nil))) (pa_cons (pe_tup (pa_cons pe_str (pa_cons (pe_lst (pa_cons (pe_tup (pa_cons pe_str (pa_cons pe_int pa_nil))) pa_nil)) pa_nil))) (pa_cons (pe_tup (pa_cons pe_str (pa_cons (pe_lst (pa_cons (pe_tup (pa_cons pe_str (pa_cons pe_int pa_nil))) pa_nil)) pa_nil))) pa_nil))))))))
      (pss_cons (ps_set (i := 3) sc__law_refused.nd rfl (by first | exact Or.inl rfl | exact Or.inr rfl) (pe_op op_cat (pv 3) (pe_lst (pa_cons (pe_tup (pa_cons pe_str (pa_cons (pe_lst (pa_cons (pe_tup (pa_cons pe_str (pa_cons pe_int pa_nil))) (pa_cons pe_non pa_nil))) pa_nil))) (pa_cons (pe_tup (pa_cons pe_str (pa_cons pe_str pa_nil))) (pa_cons (pe_tup (pa_cons pe_str (pa_cons (pe_lst (pa_cons (pe_tup (pa_cons pe_str (pa_cons pe_int pa_nil))) pa_nil)) pa_nil))) (pa_cons (pe_tup (pa_cons pe_str (pa_cons (pe_lst (pa_cons (pe_tup (pa_cons pe_str (pa_cons pe_bl pa_nil))) pa_nil)) pa_nil))) pa_nil)))))))
      (pss_cons (ps_set (i := 3) sc__law_refused.nd rfl (by first | exact Or.inl rfl | exact Or.inr rfl) (pe_op op_cat (pv 3) (pe_lst (pa_cons (pe_tup (pa_cons pe_str (pa_cons (pe_lst (pa_cons (pe_tup (pa_cons pe_str (pa_cons pe_int (pa_cons pe_int pa_nil)))) pa_nil)) pa_nil))) (pa_cons (pe_tup (pa_cons pe_str (pa_cons (pe_lst (pa_cons (pe_tup (pa_cons pe_str (pa_cons (pe_un un_neg pe_int) pa_nil))) pa_nil)) pa_nil))) (pa_cons (pe_tup (pa_cons pe_str (pa_cons (pe_lst (pa_cons (pe_tup (pa_cons pe_int (pa_cons pe_int pa_nil))) pa_nil)) pa_nil))) (pa_cons (pe_tup (pa_cons pe_str (pa_cons (pe_lst (pa_cons (pe_tup (pa_cons pe_str (pa_cons pe_str pa_nil))) pa_nil)) pa_nil))) pa_nil)))))))
      (pss_cons (ps_par3 (i := 9) (j := 10) (l := 11) (by rfl) sc__law_refused.nd rfl rfl rfl (by decide) (by decide) (by decide) rfl rfl rfl (pa_cons (pe_cal C_law_pick hr (by first | decide | omega) (by rfl) (pa_cons (pv 0) (pa_cons (pv 3) pa_nil))) (pa_cons (pe_cal C_law_draw hr (by first | decide | omega) (by rfl) (pa_cons (pv 0) (pa_cons (pe_op op_add (pe_callB (id := "len") call_len_seq (by rfl) T.len (by decide +kernel) (pa_cons (pv 7) pa_nil)) pe_int) pa_nil))) (pa_cons (pe_cal C_law_draw hr (by first | decide | omega) (by rfl) (pa_cons (pv 0) (pa_cons (pe_op op_add (pe_callB (id := "len") call_len_seq (by rfl) T.len (by decide +kernel) (pa_cons (pv 8) pa_nil)) pe_int) pa_nil))) pa_nil))) (by rfl))
      (pss_cons (ps_set (i := 4) sc__law_refused.nd rfl (by first | exact Or.inl rfl | exact Or.inr rfl) (pe_callTy (T := "dict") (call_dictP rfl) (by rfl) T.dict (by decide +kernel) (pa_cons (pe_op op_cat (pe_op op_cat (pe_op op_cat (pe_slice sl_list (pv 7) po_none (po_some (pv 10))) (pe_lst (pa_cons (pv 2) pa_nil))) (pe_slice sl_list (pv 7) (po_some (pv 10)) po_none)) (pe_lst (pa_cons (pe_tup (pa_cons pe_str (pa_cons pe_int pa_nil))) pa_nil))) pa_nil)))
      (pss_cons (ps_set (i := 5) sc__law_refused.nd rfl (by first | exact Or.inl rfl | exact Or.inr rfl) (pe_callTy (T := "dict") (call_dictP rfl) (by rfl) T.dict (by decide +kernel) (pa_cons (pe_op op_cat (pe_op op_cat (pe_op op_cat (pe_slice sl_list (pv 8) po_none (po_some (pv 11))) (pe_lst (pa_cons (pv 9) pa_nil))) (pe_slice sl_list (pv 8) (po_some (pv 11)) po_none)) (pe_lst (pa_cons (pe_tup (pa_cons pe_str (pa_cons (pe_lst pa_nil) pa_nil))) pa_nil))) pa_nil)))
      (pss_cons (ps_if (pt_not (pt_val (pe_cal C_law_same hr (by first | decide | omega) (by rfl) (pa_cons (pe_lamT (Tb P1 P2 P3) ("_law_refused" ++ ".<locals>.") D_law_tried sc__law_tried (fun _ _ _ _ _ _ us hl => match us, hl with | [_], _ => rfl) (.tail _ (.tail _ (.head _))) (tb3 n13 n23) (fun cdv => g_tried Z cdv _) TB rfl hr (fun A outer s H E f c' hr => (MkD.pe (K := K) (w := w) MkD0 rfl rfl hr (by decide) (by rfl) (passes_def rfl rfl rfl rfl) (pa_cons (pv 4) (pa_cons (pv 5) pa_nil)))) (by rfl) (lamS_by (by show lamSB (defScope s__law_refused) _ = true; decide +kernel)) (fun _ _ _ _ _ => rfl)) (pa_cons (pe_tup (pa_cons pe_str (pa_cons (pe_ix ix_tup (pv 2) pe_int (fun _ _ => rfl)) pa_nil))) pa_nil))))) (pss_one (ps_ret pe_bl)) pss_nil)
      (pss_cons (ps_if (pt_not (pt_val (pe_cal C_law_same hr (by first | decide | omega) (by rfl) (pa_cons (pe_lamT (Tb P1 P2 P3) ("_law_refused" ++ ".<locals>.") D_law_tried sc__law_tried (fun _ _ _ _ _ _ us hl => match us, hl with | [_], _ => rfl) (.tail _ (.tail _ (.head _))) (tb3 n13 n23) (fun cdv => g_tried Z cdv _) TB rfl hr (fun A outer s H E f c' hr => (MkD.pe (K := K) (w := w) MkD0 rfl rfl hr (by decide) (by rfl) (passes_def rfl rfl rfl rfl) (pa_cons (pe_callTy (T := "dict") (call_dictPK K rfl rfl) (by rfl) T.dict (by decide +kernel) (pa_cons (pv 7) pa_nil)) (pa_cons (pv 5) pa_nil)))) (by rfl) (lamS_by (by show lamSB (defScope s__law_refused) _ = true; decide +kernel)) (fun _ _ _ _ _ => rfl)) (pa_cons (pe_tup (pa_cons pe_str (pa_cons (pe_ix ix_tup (pv 9) pe_int (fun _ _ => rfl)) pa_nil))) pa_nil))))) (pss_one (ps_ret pe_bl)) pss_nil)
      (pss_cons (ps_set (i := 6) sc__law_refused.nd rfl (by first | exact Or.inl rfl | exact Or.inr rfl) (pe_cal C_law_pick hr (by first | decide | omega) (by rfl) (pa_cons (pv 0) (pa_cons (pe_lst (pa_cons pe_non (pa_cons pe_int (pa_cons pe_str (pa_cons (pe_lst pa_nil) (pa_cons (pe_tup pa_nil) pa_nil)))))) pa_nil))))
      (pss_cons (ps_if (pt_not (pt_val (pe_cal C_law_same hr (by first | decide | omega) (by rfl) (pa_cons (pe_lamT (Tb P1 P2 P3) ("_law_refused" ++ ".<locals>.") D_law_tried sc__law_tried (fun _ _ _ _ _ _ us hl => match us, hl with | [_], _ => rfl) (.tail _ (.tail _ (.head _))) (tb3 n13 n23) (fun cdv => g_tried Z cdv _) TB rfl hr (fun A outer s H E f c' hr => (MkD.pe (K := K) (w := w) MkD0 rfl rfl hr (by decide) (by rfl) (passes_def rfl rfl rfl rfl) (pa_cons (pv 6) (pa_cons (pv 6) pa_nil)))) (by rfl) (lamS_by (by show lamSB (defScope s__law_refused) _ = true; decide +kernel)) (fun _ _ _ _ _ => rfl)) (pa_cons (pe_tup (pa_cons pe_str (pa_cons (pv 6) pa_nil))) pa_nil))))) (pss_one (ps_ret pe_bl)) pss_nil)
      (pss_one (ps_ret (pe_cal C_law_same hr (by first | decide | omega) (by rfl) (pa_cons (pe_lamT (Tb P1 P2 P3) ("_law_refused" ++ ".<locals>.") D_law_tried sc__law_tried (fun _ _ _ _ _ _ us hl => match us, hl with | [_], _ => rfl) (.tail _ (.tail _ (.head _))) (tb3 n13 n23) (fun cdv => g_tried Z cdv _) TB rfl hr (fun A outer s H E f c' hr => (MkD.pe (K := K) (w := w) MkD0 rfl rfl hr (by decide) (by rfl) (passes_def rfl rfl rfl rfl) (pa_cons (pe_callTy (T := "dict") (call_dictPK K rfl rfl) (by rfl) T.dict (by decide +kernel) (pa_cons (pv 7) pa_nil)) (pa_cons (pv 6) pa_nil)))) (by rfl) (lamS_by (by show lamSB (defScope s__law_refused) _ = true; decide +kernel)) (fun _ _ _ _ _ => rfl)) (pa_cons (pe_tup (pa_cons pe_str (pa_cons (pv 6) pa_nil))) pa_nil))))))))))))))))), ?_⟩
  have A0 : Ax (Tb P1 P2 P3) (rm H a) a n H := ⟨hd, ExtN.refl _, tab⟩
  refine cut_if (fun σ H' => ∃ cl dl kc kd, σ = [some (.ref a), some v, none, none, none, none, none, some (.ref cl), some (.ref dl), none, none, none] ∧ Ax (Tb P1 P2 P3) (rm H a) a n H' ∧ Rx v cs ds cl dl kc kd (rm H' a)) ?_ fun rest => ?_
  rotate_left
  · obtain ⟨t, wc, wd, wkc, wkd, rfl, b1, b2, b3, b4, b5⟩ := id hw
    have b1 := rm_same _ _ b1
    have b2 := rm_same _ _ b2
    have b4 := rm_same _ _ b4
    refine ⟨_, rfl, t, _, 0, _, rfl, rfl, SqT.of b1, rfl, wc, wkc, rfl, b2, fun H1 p1 ts1 s1 p10 t10 pn1 hp1 pr1 => ?_⟩
    refine ⟨_, rfl, t, _, 1, _, rfl, rfl, SqT.of (s1 _ _ b1), rfl, wd, wkd, rfl, s1 _ _ b4, fun H2 p2 ts2 s2 p20 t20 pn2 hp2 pr2 => ⟨two_line, fun tt htt => ⟨tt, _, rfl, SqT.of upd_same, rfl, _, _, rfl, _, _, rfl, rfl, ?_⟩⟩⟩
    have s12 : Same H H2 := fun b o e => s2 _ _ (s1 _ _ e)
    have s3 := Same.up (o := .tup [.ref p1, .ref p2]) htt
    have A3 := A0.same (s12.trans s3)
    have n1 := hd.new p10
    have n2 : p2 ≠ a := (hd.up (show Same H H1 from s1)).new p20
    refine rest _ _ ⟨p1, p2, wkc, wkd, rfl, A3, hw.ext A3.ex, PrsAt.off A3.dr n1 ⟨ts1, s3 _ _ (s2 _ _ hp1), L2.Paired.mapP pr1 fun _ _ h => s3 _ _ (s2 _ _ h)⟩, PrsAt.off A3.dr n2 ⟨ts2, s3 _ _ hp2, L2.Paired.mapP pr2 fun _ _ h => s3 _ _ h⟩, b3, ?_⟩
    exact L2.Paired.mapP b5 fun kv p h => ⟨h.1, h.2.ext A3.ex⟩
  rintro σ H1 ⟨cl, dl, kc, kd, rfl, A1, R1⟩
  try dsimp only
  have lkc : kc.length = cs.length := Paired.length R1.cc
  have lkd : kd.length = ds.length := Paired.length R1.dd
  obtain ⟨lcs, lds, _⟩ := g.lens
  have AB : Ax (Tb P1 P2 P3) (rm H1 a) a n H1 := ⟨A1.dr, ExtN.refl _, A1.tb⟩
  refine cut_if (fun σ H' => ∃ to u p, σ = [some (.ref a), some v, some (.ref to), none, none, none, none, some (.ref cl), some (.ref dl), none, none, none] ∧ Ax (Tb P1 P2 P3) (rm H1 a) a (n + 1) H' ∧ p ∈ oddC ∧ (rm H' a) to = some (.tup [kV p.1, u]) ∧ Is (rm H' a) u p.2) ?_ fun rest => ?_
  rotate_left
  · refine ⟨_, rfl, ?_⟩
    refine one_lst (bd_cons (bd_tup (bd_cons bd_str (bd_cons bd_int bd_nil))) (bd_cons (bd_tup (bd_cons bd_int (bd_cons bd_int bd_nil))) (bd_cons (bd_tup (bd_cons bd_str (bd_cons bd_neg bd_nil))) (bd_cons (bd_tup (bd_cons bd_str (bd_cons bd_non bd_nil))) (bd_cons (bd_tup (bd_cons bd_str (bd_cons bd_bl bd_nil))) (bd_cons (bd_tup (bd_cons bd_str (bd_cons bd_int bd_nil))) (bd_cons (bd_tup (bd_cons bd_str (bd_cons bd_str bd_nil))) bd_nil))))))) (by decide) fun l vs H2 s2 hl i2 => ?_
    have B2 := (AB.same s2).same (Same.up (o := .lst vs) hl)
    have nl := (AB.same s2).dr.new hl
    have lv : vs.length = 7 := i2.len
    refine ⟨a, l, vs, _, rfl, B2.dr, by omega, nl, .inl (SqL.of upd_same), by omega, by omega, fun k v1 o1 hv1 ho1 => ?_⟩
    have i3 : IsA (upd H2 l (.lst vs)) vs (oddC.map pairD) := IsA.mono (Same.up hl) i2
    obtain ⟨d, hd, hI⟩ := i3.get hv1
    rw [List.getElem?_map] at hd
    obtain ⟨p, hp, rfl⟩ := Option.map_eq_some_iff.mp hd
    have mp := List.mem_of_getElem? hp
    have io := Is.off B2.dr.at_ hI (oddC_noD p mp)
    have B3 := B2.draw ho1
    rw [show rm (upd H2 l (.lst vs)) a = rm (upd (upd H2 l (.lst vs)) a o1) a from rm_upd.symm] at io
    generalize upd (upd H2 l _) a o1 = H3 at B3 io ⊢
    obtain ⟨to, u, rfl, h1, h2⟩ := pair_is io
    exact rest _ _ ⟨to, u, p, rfl, B3, mp, h1, h2⟩
  rintro σ H2 ⟨to, uo, po, rfl, A2, mo, to2, uo2⟩
  try dsimp only
  refine cut_if (fun σ H' => ∃ wl vs, σ = [some (.ref a), some v, some (.ref to), some (.ref wl), none, none, none, some (.ref cl), some (.ref dl), none, none, none] ∧ Ax (Tb P1 P2 P3) (rm H1 a) a (n + 1) H' ∧ Same (rm H2 a) (rm H' a) ∧ (rm H' a) wl = some (.lst vs) ∧ IsA (rm H' a) vs wdA) ?_ fun rest => ?_
  rotate_left
  · delta tSeq tAsg
    dsimp only
    refine a_lst (bd_cons (bd_tup (bd_cons bd_str (bd_cons (bd_lst bd_nil) bd_nil))) (bd_cons (bd_tup (bd_cons bd_int (bd_cons (bd_lst bd_nil) bd_nil))) (bd_cons (bd_tup (bd_cons bd_str (bd_cons bd_non bd_nil))) (bd_cons (bd_tup (bd_cons bd_str (bd_cons (bd_lst (bd_cons (bd_tup (bd_cons bd_str bd_nil)) bd_nil)) bd_nil))) (bd_cons (bd_tup (bd_cons bd_str (bd_cons (bd_lst (bd_cons (bd_tup (bd_cons bd_str (bd_cons bd_int bd_nil))) bd_nil)) bd_nil))) (bd_cons (bd_tup (bd_cons bd_str (bd_cons (bd_lst (bd_cons (bd_tup (bd_cons bd_str (bd_cons bd_int bd_nil))) bd_nil)) bd_nil))) bd_nil)))))) (by decide) fun l vs H3 s3 hl i3 => ?_
    have B3 := (A2.same s3).same (Same.up (o := .lst vs) hl)
    have nl := (A2.same s3).dr.new hl
    have i4 : IsA (upd H3 l (.lst vs)) vs wdA := IsA.mono (Same.up hl) i3
    exact rest _ _ ⟨l, vs, rfl, B3, Same.rm (s3.trans (Same.up hl)), by rw [rm_ne nl, upd_same], IsA.off B3.dr.at_ i4 wd_noD.1⟩
  rintro σ H3 ⟨wl, vs3, rfl, A3, s3, wl3, iw3⟩
  try dsimp only
  refine cut_if (fun σ H' => ∃ wl vs, σ = [some (.ref a), some v, some (.ref to), some (.ref wl), none, none, none, some (.ref cl), some (.ref dl), none, none, none] ∧ Ax (Tb P1 P2 P3) (rm H1 a) a (n + 1) H' ∧ Same (rm H2 a) (rm H' a) ∧ (rm H' a) wl = some (.lst vs) ∧ IsA (rm H' a) vs (wdA ++ wdB)) ?_ fun rest => ?_
  rotate_left
  · refine ⟨_, rfl, ?_⟩
    refine a_lst (bd_cons (bd_tup (bd_cons bd_str (bd_cons (bd_lst (bd_cons (bd_tup (bd_cons bd_str (bd_cons bd_int bd_nil))) (bd_cons bd_non bd_nil))) bd_nil))) (bd_cons (bd_tup (bd_cons bd_str (bd_cons bd_str bd_nil))) (bd_cons (bd_tup (bd_cons bd_str (bd_cons (bd_lst (bd_cons (bd_tup (bd_cons bd_str (bd_cons bd_int bd_nil))) bd_nil)) bd_nil))) (bd_cons (bd_tup (bd_cons bd_str (bd_cons (bd_lst (bd_cons (bd_tup (bd_cons bd_str (bd_cons bd_bl bd_nil))) bd_nil)) bd_nil))) bd_nil)))) (by decide) fun l vs H4 s4 hl i4 => ?_
    have l3 : vs3.length = 6 := iw3.len.trans wd_A
    have l4 : vs.length = 4 := i4.len
    have s34 := s4.trans (Same.up (o := .lst vs) hl)
    refine ⟨wl, l, vs3, vs, rfl, rfl, s34 _ _ (rm_same _ _ wl3), upd_same, Nat.le_trans (show _ ≤ 60 by omega) (by decide), fun p hp => ?_⟩
    have B4 := (A3.same s34).same (Same.up (o := .lst (vs3 ++ vs)) hp)
    have np := (A3.same s34).dr.new hp
    have i5 : IsA (upd (upd H4 l (.lst vs)) p (.lst (vs3 ++ vs))) (vs3 ++ vs) (wdA ++ wdB) := isA_app ((iw3.mono rm_same).mono (s34.trans (Same.up hp))) (i4.mono ((Same.up hl).trans (Same.up hp)))
    exact rest _ _ ⟨p, vs3 ++ vs, rfl, B4, s3.trans (Same.rm (s34.trans (Same.up hp))), by rw [rm_ne np, upd_same], IsA.off B4.dr.at_ i5 wd_noD.2.1⟩
  clear s3 wl3 iw3 A3
  rintro σ H3 ⟨wl, vs3, rfl, A3, s3, wl3, iw3⟩
  try dsimp only
  refine cut_if (fun σ H' => ∃ wl vs, σ = [some (.ref a), some v, some (.ref to), some (.ref wl), none, none, none, some (.ref cl), some (.ref dl), none, none, none] ∧ Ax (Tb P1 P2 P3) (rm H1 a) a (n + 1) H' ∧ Same (rm H2 a) (rm H' a) ∧ (rm H' a) wl = some (.lst vs) ∧ IsA (rm H' a) vs (wdA ++ wdB ++ wdC)) ?_ fun rest => ?_
  rotate_left
  · refine ⟨_, rfl, ?_⟩
    refine a_lst (bd_cons (bd_tup (bd_cons bd_str (bd_cons (bd_lst (bd_cons (bd_tup (bd_cons bd_str (bd_cons bd_int (bd_cons bd_int bd_nil)))) bd_nil)) bd_nil))) (bd_cons (bd_tup (bd_cons bd_str (bd_cons (bd_lst (bd_cons (bd_tup (bd_cons bd_str (bd_cons bd_neg bd_nil))) bd_nil)) bd_nil))) (bd_cons (bd_tup (bd_cons bd_str (bd_cons (bd_lst (bd_cons (bd_tup (bd_cons bd_int (bd_cons bd_int bd_nil))) bd_nil)) bd_nil))) (bd_cons (bd_tup (bd_cons bd_str (bd_cons (bd_lst (bd_cons (bd_tup (bd_cons bd_str (bd_cons bd_str bd_nil))) bd_nil)) bd_nil))) bd_nil)))) (by decide) fun l vs H4 s4 hl i4 => ?_
    have l3 : vs3.length = 10 := iw3.len.trans wd_AB
    have l4 : vs.length = 4 := i4.len
    have s34 := s4.trans (Same.up (o := .lst vs) hl)
    refine ⟨wl, l, vs3, vs, rfl, rfl, s34 _ _ (rm_same _ _ wl3), upd_same, Nat.le_trans (show _ ≤ 60 by omega) (by decide), fun p hp => ?_⟩
    have B4 := (A3.same s34).same (Same.up (o := .lst (vs3 ++ vs)) hp)
    have np := (A3.same s34).dr.new hp
    have i5 : IsA (upd (upd H4 l (.lst vs)) p (.lst (vs3 ++ vs))) (vs3 ++ vs) (wdA ++ wdB ++ wdC) := isA_app ((iw3.mono rm_same).mono (s34.trans (Same.up hp))) (i4.mono ((Same.up hl).trans (Same.up hp)))
    exact rest _ _ ⟨p, vs3 ++ vs, rfl, B4, s3.trans (Same.rm (s34.trans (Same.up hp))), by rw [rm_ne np, upd_same], IsA.off B4.dr.at_ i5 wd_noD.2.2⟩
  clear s3 wl3 iw3 A3
  rintro σ H3 ⟨wl, vs3, rfl, A3, s3, wl3, iw3⟩
  try dsimp only
  refine cut_if (fun σ H' => ∃ tb ub pb, ∃ at' sp : Nat, σ = [some (.ref a), some v, some (.ref to), some (.ref wl), none, none, none, some (.ref cl), some (.ref dl), some (.ref tb), some (.int at'), some (.int sp)] ∧ Ax (Tb P1 P2 P3) (rm H1 a) a (n + 4) H' ∧ Same (rm H2 a) (rm H' a) ∧ pb ∈ wrongD ∧ (rm H' a) tb = some (.tup [kV pb.1, ub]) ∧ Is (rm H' a) ub pb.2 ∧ at' ≤ kc.length ∧ sp ≤ kd.length) ?_ fun rest => ?_
  rotate_left
  · have nwl := rm_dif wl3
    have lv : vs3.length = 14 := iw3.len
    refine ⟨_, rfl, _, rfl, a, wl, vs3, _, rfl, A3.dr, by omega, nwl, .inl (SqL.of (rm_same _ _ wl3)), by omega, by omega, fun k v1 o1 hv1 ho1 => ?_⟩
    rw [wd_all] at iw3
    obtain ⟨d, hd, hI⟩ := iw3.get hv1
    rw [List.getElem?_map] at hd
    obtain ⟨pb, hp, rfl⟩ := Option.map_eq_some_iff.mp hd
    have mp := List.mem_of_getElem? hp
    obtain ⟨tb, ub, rfl, h1, h2⟩ := pair_is hI
    have A4 := A3.draw ho1
    have s4 : Same (rm H3 a) (rm (upd H3 a o1) a) := rm_put
    generalize upd H3 a o1 = H4 at A4 s4 ⊢
    have R4 := R1.ext A4.ex
    obtain ⟨ts, c1, c2⟩ := R4.cl
    obtain ⟨td, d1, d2⟩ := R4.dl
    have lts : ts.length = kc.length := Paired.length c2
    have ltd : td.length = kd.length := Paired.length d2
    refine ⟨_, rfl, _, rfl, cl, _, rfl, .inl (SqL.of (rm_same _ _ c1)), _, _, rfl, rfl, a, _, _, rfl, A4.dr, by omega, by omega, by rw [List.length_map]; omega, fun r o r0 r1 ho => ?_⟩
    obtain ⟨at', rfl⟩ := Int.eq_ofNat_of_zero_le r0
    rw [List.length_map] at r1
    have A5 := A4.draw ho
    have s5 : Same (rm H4 a) (rm (upd H4 a o) a) := rm_put
    have d5 := s5 _ _ d1
    generalize upd H4 a o = H5 at A5 s5 d5 ⊢
    refine ⟨_, rfl, _, rfl, dl, _, rfl, .inl (SqL.of (rm_same _ _ d5)), _, _, rfl, rfl, a, _, _, rfl, A5.dr, by omega, by omega, by rw [List.length_map]; omega, fun r o r0 r2 ho => ?_⟩
    obtain ⟨sp, rfl⟩ := Int.eq_ofNat_of_zero_le r0
    rw [List.length_map] at r2
    have s6 : Same (rm H5 a) (rm (upd H5 a o) a) := rm_put
    have s46 := (s4.trans s5).trans s6
    exact ⟨_, _, _, rfl, rest _ _ ⟨tb, ub, pb, at', sp, rfl, A5.draw ho, s3.trans s46, mp, s46 _ _ h1, h2.mono s46, by omega, by omega⟩⟩
  clear s3 wl3 iw3 A3
  rintro σ H3 ⟨tb, ub, pb, at', sp, rfl, A3, s3, mb, tb3, ub3, lat, lsp⟩
  try dsimp only
  have to3 := s3 _ _ to2
  have uo3 := uo2.mono s3
  refine cut_if (fun σ H' => ∃ f, σ = [some (.ref a), some v, some (.ref to), some (.ref wl), some (.ref f), none, none, some (.ref cl), some (.ref dl), some (.ref tb), some (.int at'), some (.int sp)] ∧ Same H3 H' ∧ H3 f = none ∧ H' f = some (.dK (insK kc at' (po.1, uo) (.inr "?", .int 1)))) ?_ fun rest => ?_
  rotate_left
  · obtain ⟨ts, c1, c2⟩ := (R1.ext A3.ex).cl
    have c1 := rm_same _ _ c1
    have lts : ts.length = kc.length := Paired.length c2
    refine ⟨_, rfl, _, rfl, _, rfl, cl, _, rfl, SqL.of c1, fun p1 h1 => ⟨_, rfl, lineN (n := 1), fun p2 h2 => ?_⟩⟩
    rw [cut_to (ts.map V.ref) (k := at') (by rw [List.length_map]; omega)] at h2 ⊢
    have s1 := Same.up (o := .lst ((ts.map V.ref).take at')) h1
    have q1 : (upd H3 p1 (.lst ((ts.map V.ref).take at'))) p1 = some (.lst ((ts.map V.ref).take at')) := upd_same
    generalize upd H3 p1 _ = G1 at s1 q1 h2 ⊢
    have s2 := Same.up (o := .lst [.ref to]) h2
    have q2 : (upd G1 p2 (.lst [.ref to])) p2 = some (.lst [.ref to]) := upd_same
    have q1 := s2 _ _ q1
    generalize upd G1 p2 _ = G2 at s2 q1 q2 ⊢
    have s02 := s1.trans s2
    refine ⟨p1, p2, _, _, rfl, rfl, q1, q2, ?_, fun p3 h3 => ⟨_, rfl, _, rfl, _, rfl, cl, _, rfl, SqL.of ((s02.trans (Same.up h3)) _ _ c1), fun p4 h4 => ?_⟩⟩
    · rw [List.length_take, List.length_map]
      exact Nat.le_trans (show _ ≤ 100 by have : [V.ref to].length = 1 := rfl; omega) (by decide)
    rw [cut_from (ts.map V.ref) (k := at') (by rw [List.length_map]; omega)]
    have s3' := Same.up (o := .lst ((ts.map V.ref).take at' ++ [.ref to])) h3
    have q3 : (upd G2 p3 (.lst ((ts.map V.ref).take at' ++ [.ref to]))) p3 = some (.lst ((ts.map V.ref).take at' ++ [.ref to])) := upd_same
    generalize upd G2 p3 _ = G3 at s3' q3 h4 ⊢
    have s4 := Same.up (o := .lst ((ts.map V.ref).drop at')) h4
    have q4 : (upd G3 p4 (.lst ((ts.map V.ref).drop at'))) p4 = some (.lst ((ts.map V.ref).drop at')) := upd_same
    have q3 := s4 _ _ q3
    generalize upd G3 p4 _ = G4 at s4 q3 q4 ⊢
    have s04 := (s02.trans s3').trans s4
    refine ⟨p3, p4, _, _, rfl, rfl, q3, q4, ?_, fun p5 h5 => ⟨two_line, fun t0 ht0 => ⟨lineN (n := 1), fun p6 h6 => ?_⟩⟩⟩
    · rw [List.length_append, List.length_take, List.length_drop, List.length_map]
      exact Nat.le_trans (show _ ≤ 100 by have : [V.ref to].length = 1 := rfl; omega) (by decide)
    have s5 := Same.up (o := .lst ((ts.map V.ref).take at' ++ [.ref to] ++ (ts.map V.ref).drop at')) h5
    have q5 : (upd G4 p5 (.lst ((ts.map V.ref).take at' ++ [.ref to] ++ (ts.map V.ref).drop at'))) p5 = some (.lst ((ts.map V.ref).take at' ++ [.ref to] ++ (ts.map V.ref).drop at')) := upd_same
    generalize upd G4 p5 _ = G5 at s5 q5 ht0 h6 ⊢
    have s6 := (Same.up (o := .tup [.str "?", .int 1]) ht0).trans (Same.up (o := .lst [.ref t0]) h6)
    have q6 : (upd (upd G5 t0 (.tup [.str "?", .int 1])) p6 (.lst [.ref t0])) p6 = some (.lst [.ref t0]) := upd_same
    have qt : (upd (upd G5 t0 (.tup [.str "?", .int 1])) p6 (.lst [.ref t0])) t0 = some (.tup [.str "?", .int 1]) := Same.up h6 _ _ upd_same
    have q5 := s6 _ _ q5
    generalize upd (upd G5 t0 _) p6 _ = G6 at s6 q5 q6 qt ⊢
    have s06 := (s04.trans s5).trans s6
    refine ⟨p5, p6, _, _, rfl, rfl, q5, q6, ?_, fun p7 h7 => ?_⟩
    · rw [List.length_append, List.length_append, List.length_take, List.length_drop, List.length_map]
      exact Nat.le_trans (show _ ≤ 100 by have : [V.ref to].length = 1 := rfl; have : [V.ref t0].length = 1 := rfl; omega) (by decide)
    have s7 := Same.up (o := .lst ((ts.map V.ref).take at' ++ [.ref to] ++ (ts.map V.ref).drop at' ++ [.ref t0])) h7
    have q7 : (upd G6 p7 (.lst ((ts.map V.ref).take at' ++ [.ref to] ++ (ts.map V.ref).drop at' ++ [.ref t0]))) p7 = some (.lst ((ts.take at' ++ [to] ++ ts.drop at' ++ [t0]).map V.ref)) := by
      rw [upd_same, List.map_append, List.map_append, List.map_append, List.map_take, List.map_drop]
      rfl
    have qt := s7 _ _ qt
    generalize upd G6 p7 _ = G7 at s7 q7 qt ⊢
    have s07 := s06.trans s7
    have pp : Paired (fun (t : Addr) (kv : Key × V) => G7 t = some (.tup [kV kv.1, kv.2])) (ts.take at' ++ [to] ++ ts.drop at' ++ [t0]) (insK kc at' (po.1, uo) (.inr "?", .int 1)) := by
      have c3 := L2.Paired.mapP c2 fun _ _ h => s07 _ _ (rm_same _ _ h)
      exact paired_app (paired_app (paired_app (paired_take at' c3) (.cons (s07 _ _ (rm_same _ _ to3)) .nil)) (paired_drop at' c3)) (.cons qt .nil)
    refine ⟨p7, _, _, rfl, SqL.of q7, L2.Paired.mapP pp fun _ _ h => SqT.of h, fun f hf => ?_⟩
    obtain ⟨k1, k2, k3, k4⟩ := newKeys_odd _ (oddC_no po mo).2
    rw [merge_self (insK_nd (keys_nd (F := fun v i => v = V.int i) R1.cc g.cn) (keys3 (F := fun v i => v = V.int i) R1.cc (fun p m => (g.co p m).1) k4) (keys3 (F := fun v i => v = V.int i) R1.cc (fun p m => (g.co p m).1) q_out) k3)]
    refine rest _ _ ⟨f, rfl, s07.trans (Same.up hf), ?_, upd_same⟩
    cases e : H3 f with
    | none => rfl
    | some o => rw [s07 _ _ e] at hf; cases hf
  rintro σ H4 ⟨f, rfl, s4, f0, f4⟩
  try dsimp only
  have A4 := A3.same s4
  have s4r := Same.rm (a := a) s4
  have tb4 := s4r _ _ tb3
  have ub4 := ub3.mono s4r
  refine cut_if (fun σ H' => ∃ h, σ = [some (.ref a), some v, some (.ref to), some (.ref wl), some (.ref f), some (.ref h), none, some (.ref cl), some (.ref dl), some (.ref tb), some (.int at'), some (.int sp)] ∧ ∃ l0, Same H4 H' ∧ H4 h = none ∧ H' l0 = some (.lst []) ∧ H' h = some (.dK (insK kd sp (pb.1, ub) (.inr "?", .ref l0)))) ?_ fun rest => ?_
  rotate_left
  · obtain ⟨ts, c1, c2⟩ := (R1.ext A4.ex).dl
    have c1 := rm_same _ _ c1
    have lts : ts.length = kd.length := Paired.length c2
    refine ⟨_, rfl, _, rfl, _, rfl, dl, _, rfl, SqL.of c1, fun p1 h1 => ⟨_, rfl, lineN (n := 1), fun p2 h2 => ?_⟩⟩
    rw [cut_to (ts.map V.ref) (k := sp) (by rw [List.length_map]; omega)] at h2 ⊢
    have s1 := Same.up (o := .lst ((ts.map V.ref).take sp)) h1
    have q1 : (upd H4 p1 (.lst ((ts.map V.ref).take sp))) p1 = some (.lst ((ts.map V.ref).take sp)) := upd_same
    generalize upd H4 p1 _ = G1 at s1 q1 h2 ⊢
    have s2 := Same.up (o := .lst [.ref tb]) h2
    have q2 : (upd G1 p2 (.lst [.ref tb])) p2 = some (.lst [.ref tb]) := upd_same
    have q1 := s2 _ _ q1
    generalize upd G1 p2 _ = G2 at s2 q1 q2 ⊢
    have s02 := s1.trans s2
    refine ⟨p1, p2, _, _, rfl, rfl, q1, q2, ?_, fun p3 h3 => ⟨_, rfl, _, rfl, _, rfl, dl, _, rfl, SqL.of ((s02.trans (Same.up h3)) _ _ c1), fun p4 h4 => ?_⟩⟩
    · rw [List.length_take, List.length_map]
      exact Nat.le_trans (show _ ≤ 100 by have : [V.ref tb].length = 1 := rfl; omega) (by decide)
    rw [cut_from (ts.map V.ref) (k := sp) (by rw [List.length_map]; omega)]
    have s3' := Same.up (o := .lst ((ts.map V.ref).take sp ++ [.ref tb])) h3
    have q3 : (upd G2 p3 (.lst ((ts.map V.ref).take sp ++ [.ref tb]))) p3 = some (.lst ((ts.map V.ref).take sp ++ [.ref tb])) := upd_same
    generalize upd G2 p3 _ = G3 at s3' q3 h4 ⊢
    have s4 := Same.up (o := .lst ((ts.map V.ref).drop sp)) h4
    have q4 : (upd G3 p4 (.lst ((ts.map V.ref).drop sp))) p4 = some (.lst ((ts.map V.ref).drop sp)) := upd_same
    have q3 := s4 _ _ q3
    generalize upd G3 p4 _ = G4 at s4 q3 q4 ⊢
    have s04 := (s02.trans s3').trans s4
    refine ⟨p3, p4, _, _, rfl, rfl, q3, q4, ?_, fun p5 h5 => ⟨lineN (n := 0), fun l0 hl0 => ⟨two_line, fun t0 ht0 => ⟨lineN (n := 1), fun p6 h6 => ?_⟩⟩⟩⟩
    · rw [List.length_append, List.length_take, List.length_drop, List.length_map]
      exact Nat.le_trans (show _ ≤ 100 by have : [V.ref tb].length = 1 := rfl; omega) (by decide)
    have s5 := Same.up (o := .lst ((ts.map V.ref).take sp ++ [.ref tb] ++ (ts.map V.ref).drop sp)) h5
    have q5 : (upd G4 p5 (.lst ((ts.map V.ref).take sp ++ [.ref tb] ++ (ts.map V.ref).drop sp))) p5 = some (.lst ((ts.map V.ref).take sp ++ [.ref tb] ++ (ts.map V.ref).drop sp)) := upd_same
    generalize upd G4 p5 _ = G5 at s5 q5 hl0 ht0 h6 ⊢
    have s6 := ((Same.up (o := .lst []) hl0).trans (Same.up (o := .tup [.str "?", .ref l0]) ht0)).trans (Same.up (o := .lst [.ref t0]) h6)
    have q6 : (upd (upd (upd G5 l0 (.lst [])) t0 (.tup [.str "?", .ref l0])) p6 (.lst [.ref t0])) p6 = some (.lst [.ref t0]) := upd_same
    have qt : (upd (upd (upd G5 l0 (.lst [])) t0 (.tup [.str "?", .ref l0])) p6 (.lst [.ref t0])) t0 = some (.tup [.str "?", .ref l0]) := Same.up h6 _ _ upd_same
    have ql : (upd (upd (upd G5 l0 (.lst [])) t0 (.tup [.str "?", .ref l0])) p6 (.lst [.ref t0])) l0 = some (.lst []) := ((Same.up ht0).trans (Same.up h6)) _ _ upd_same
    have q5 := s6 _ _ q5
    generalize upd (upd (upd G5 l0 _) t0 _) p6 _ = G6 at s6 q5 q6 qt ql ⊢
    have s06 := (s04.trans s5).trans s6
    refine ⟨p5, p6, _, _, rfl, rfl, q5, q6, ?_, fun p7 h7 => ?_⟩
    · rw [List.length_append, List.length_append, List.length_take, List.length_drop, List.length_map]
      exact Nat.le_trans (show _ ≤ 100 by have : [V.ref tb].length = 1 := rfl; have : [V.ref t0].length = 1 := rfl; omega) (by decide)
    have s7 := Same.up (o := .lst ((ts.map V.ref).take sp ++ [.ref tb] ++ (ts.map V.ref).drop sp ++ [.ref t0])) h7
    have q7 : (upd G6 p7 (.lst ((ts.map V.ref).take sp ++ [.ref tb] ++ (ts.map V.ref).drop sp ++ [.ref t0]))) p7 = some (.lst ((ts.take sp ++ [tb] ++ ts.drop sp ++ [t0]).map V.ref)) := by
      rw [upd_same, List.map_append, List.map_append, List.map_append, List.map_take, List.map_drop]
      rfl
    have qt := s7 _ _ qt
    have ql := s7 _ _ ql
    generalize upd G6 p7 _ = G7 at s7 q7 qt ql ⊢
    have s07 := s06.trans s7
    have pp : Paired (fun (t : Addr) (kv : Key × V) => G7 t = some (.tup [kV kv.1, kv.2])) (ts.take sp ++ [tb] ++ ts.drop sp ++ [t0]) (insK kd sp (pb.1, ub) (.inr "?", .ref l0)) := by
      have c3 := L2.Paired.mapP c2 fun _ _ h => s07 _ _ (rm_same _ _ h)
      exact paired_app (paired_app (paired_app (paired_take sp c3) (.cons (s07 _ _ (rm_same _ _ tb4)) .nil)) (paired_drop sp c3)) (.cons qt .nil)
    refine ⟨p7, _, _, rfl, SqL.of q7, L2.Paired.mapP pp fun _ _ h => SqT.of h, fun h hf => ?_⟩
    obtain ⟨k1, k2, k3, k4⟩ := newKeys_odd _ (wrongD_no pb mb).2.1
    rw [merge_self (insK_nd (keys_nd (F := fun v rs => RowsAt (rm H1 a) v rs) R1.dd g.dn) (keys3 (F := fun v rs => RowsAt (rm H1 a) v rs) R1.dd (fun p m => (g.de p m).1) k4) (keys3 (F := fun v rs => RowsAt (rm H1 a) v rs) R1.dd (fun p m => (g.de p m).1) q_out) k3)]
    refine rest _ _ ⟨h, rfl, l0, s07.trans (Same.up hf), ?_, Same.up hf _ _ ql, upd_same⟩
    cases e : H4 h with
    | none => rfl
    | some o => rw [s07 _ _ e] at hf; cases hf
  rintro σ H5 ⟨h, rfl, l0, s5, h0, l05, h5⟩
  try dsimp only
  have A5 := A4.same s5
  have s5r := Same.rm (a := a) s5
  have f5 := s5 _ _ f4
  have nhf : h ≠ f := fun w => by rw [w, f4] at h0; cases h0
  have M5 : Mx h tb l0 (insK kd sp (pb.1, ub) (.inr "?", .ref l0)) pb ub H5 := ⟨h5, rm_same _ _ (s5r _ _ tb4), (ub4.mono s5r).mono rm_same⟩
  have to5 := rm_same _ _ (s5r _ _ (s4r _ _ to3))
  obtain ⟨no1, no2⟩ := oddC_no po mo
  obtain ⟨k1, k2, k3, k4⟩ := newKeys_odd _ no2
  obtain ⟨wo1, wo2, wo3⟩ := wrongD_no pb mb
  obtain ⟨w1, w2, w3, w4⟩ := newKeys_odd _ wo2
  have good := g.good
  have ndf := insK_nd (n := at') (x := (po.1, uo)) (q := (.inr "?", V.int 1)) (keys_nd (F := fun v i => v = V.int i) R1.cc g.cn) (keys3 (F := fun v i => v = V.int i) R1.cc (fun p m => (g.co p m).1) k4) (keys3 (F := fun v i => v = V.int i) R1.cc (fun p m => (g.co p m).1) q_out) k3
  have ndh := insK_nd (n := sp) (x := (pb.1, ub)) (q := (.inr "?", V.ref l0)) (keys_nd (F := fun v rs => RowsAt (rm H1 a) v rs) R1.dd g.dn) (keys3 (F := fun v rs => RowsAt (rm H1 a) v rs) R1.dd (fun p m => (g.de p m).1) w4) (keys3 (F := fun v rs => RowsAt (rm H1 a) v rs) R1.dd (fun p m => (g.de p m).1) q_out) w3
  have uoA := oddC_flat po mo uo3
  refine cut_if (fun σ H' => σ = [some (.ref a), some v, some (.ref to), some (.ref wl), some (.ref f), some (.ref h), none, some (.ref cl), some (.ref dl), some (.ref tb), some (.int at'), some (.int sp)] ∧ Ax (Tb P1 P2 P3) (rm H1 a) a (n + 4) H' ∧ Mx h tb l0 (insK kd sp (pb.1, ub) (.inr "?", .ref l0)) pb ub H') ?_ fun rest => ?_
  rotate_left
  · refine ⟨A5.tb, fun G1 e1 t1 => ⟨_, rfl, _, rfl, ?_⟩⟩
    have A6 := A5.lam e1 t1
    have M6 := M5.ext (wrongD_plain pb mb) e1
    have f6 := e1 _ _ f5 (fun _ z => by cases z)
    have to6 := e1 _ _ to5 (fun _ z => by cases z)
    delta tNil
    dsimp only
    refine bad_coins fun H' s' => ⟨.ref f, rfl, .inl ⟨f, _, rfl, s' _ _ f6, ndf, by rw [insK_len]; omega, .inr ⟨at', (po.1, uo), insK_at lat, fun i q lt e => coins_ok R1.cc good.co q (insK_before lat lt e), ⟨k2, po.2, uoA, no1⟩, fun H'' e ext he => ?_⟩⟩⟩
    have A7 := A3.but f0 (A6.same s') (s' _ _ f6) ext
    have M7 := (M6.ext (wrongD_plain pb mb) (.of s')).but wo3 (s' _ _ f6) nhf ext
    have to7 := ext _ _ (ne_of to6 f6 (by intro z; cases z)) (s' _ _ to6)
    refine ⟨_, "thing", "coins", e, kV po.1, .inl ⟨rfl, rfl, rfl⟩, rfl, rfl, upd_same, fun p1 hp1 => ?_⟩
    have s8 := (Same.up (o := .xd [("thing", kV po.1)]) he).trans (Same.up (o := .tup [.str "coins", kV po.1]) hp1)
    refine ⟨_, rfl, to, _, 0, kV po.1, rfl, rfl, SqT.of (s8 _ _ to7), rfl, two_line, fun q2 hq2 => ?_⟩
    refine same_ok he hp1 hq2 (key_is k2) k1 okW.2.2.2.1 lenW.2.2.2.1 fun H8 sH => ⟨_, rfl, iteF ?_⟩
    exact rest _ _ ⟨rfl, A7.same sH, M7.ext (wrongD_plain pb mb) (.of sH)⟩
  clear A5 M5 f5 to5
  rintro σ H6 ⟨rfl, A6, M6⟩
  try dsimp only
  have nc := keys_nd (F := fun v i => v = V.int i) R1.cc g.cn
  obtain ⟨l1, l2, l3, l4⟩ := good.lens
  refine cut_if (fun σ H' => σ = [some (.ref a), some v, some (.ref to), some (.ref wl), some (.ref f), some (.ref h), none, some (.ref cl), some (.ref dl), some (.ref tb), some (.int at'), some (.int sp)] ∧ Ax (Tb P1 P2 P3) (rm H1 a) a (n + 4) H') ?_ fun rest => ?_
  rotate_left
  · refine ⟨A6.tb, fun G1 e1 t1 => ?_⟩
    have A7 := A6.lam e1 t1
    have M7 := M6.ext (wrongD_plain pb mb) e1
    have R7 := R1.ext A7.ex
    obtain ⟨ts, c1, c2⟩ := R7.cl
    refine ⟨_, rfl, cl, ts, kc, rfl, SqL.of (rm_same _ _ c1), L2.Paired.mapP c2 fun _ _ h => SqT.of (rm_same _ _ h), fun gd hgd => ⟨_, rfl, ?_⟩⟩
    rw [merge_self nc]
    delta tNil
    dsimp only
    have sg := Same.up (o := .dK kc) hgd
    refine bad_debts ⟨gd, kc, rfl, upd_same, nc, by omega, coins_ok R1.cc good.co⟩ fun H' s' => ?_
    have sg' := sg.trans s'
    have M8 := M7.ext (wrongD_plain pb mb) (.of sg')
    refine ⟨.ref h, rfl, .inl ⟨h, _, rfl, M8.h, ndh, by rw [insK_len]; omega, .inr ⟨sp, (pb.1, ub), insK_at lsp, fun i q lt e => debts_ok (DebA.r (R7.dd.mono (rm_same.trans sg'))) (fun p m => ⟨good.de p m, l4 p m⟩) q (insK_before lsp lt e), ⟨w2, pb.2, M8.ub, wo3, wo1⟩, fun H'' e ext he => ?_⟩⟩⟩
    have A8 := A4.but h0 (A7.same sg') M8.h ext
    have tb8 := ext _ _ (ne_of M8.tb M8.h (by intro z; cases z)) M8.tb
    refine ⟨_, "thing", "debts", e, kV pb.1, .inr (.inl ⟨rfl, rfl, rfl⟩), rfl, rfl, upd_same, fun p1 hp1 => ?_⟩
    have s8 := (Same.up (o := .xd [("thing", kV pb.1)]) he).trans (Same.up (o := .tup [.str "debts", kV pb.1]) hp1)
    refine ⟨_, rfl, tb, _, 0, kV pb.1, rfl, rfl, SqT.of (s8 _ _ tb8), rfl, two_line, fun q2 hq2 => ?_⟩
    refine same_ok he hp1 hq2 (key_is w2) w1 okW.2.2.2.2 lenW.2.2.2.2 fun H8 sH => ⟨_, rfl, iteF ?_⟩
    exact rest _ _ ⟨rfl, A8.same sH⟩
  clear A6 M6
  rintro σ H6 ⟨rfl, A6⟩
  try dsimp only
  refine ⟨_, rfl, ?_⟩
  refine one_lst (bd_cons bd_non (bd_cons bd_int (bd_cons bd_str (bd_cons (bd_lst bd_nil) (bd_cons (bd_tup bd_nil) bd_nil))))) (by decide) fun l vs H7 s7 hl i7 => ?_
  have B7 := (A6.same s7).same (Same.up (o := .lst vs) hl)
  have nl := (A6.same s7).dr.new hl
  have lv : vs.length = 5 := i7.len
  refine ⟨a, l, vs, _, rfl, B7.dr, by omega, nl, .inl (SqL.of upd_same), by omega, by omega, fun k v1 o1 hv1 ho1 => ?_⟩
  have i8 : IsA (upd H7 l (.lst vs)) vs thD := IsA.mono (Same.up hl) i7
  obtain ⟨d, hd', hI⟩ := (IsA.off B7.dr.at_ i8 thD_noD).get hv1
  obtain ⟨od, ndc⟩ := thD_ok d (List.mem_of_getElem? hd')
  generalize upd H7 l _ = G7 at B7 hI ⊢
  have AG : Ax (Tb P1 P2 P3) (rm G7 a) a (n + 4) G7 := ⟨B7.dr, ExtN.refl _, B7.tb⟩
  have AG2 := AG.draw ho1
  have R7 := R1.ext B7.ex
  generalize upd G7 a o1 = G8 at AG2 ⊢
  refine ⟨AG2.tb, fun G9 e9 t9 => ⟨_, rfl, _, rfl, ?_⟩⟩
  have AG3 := AG2.lam e9 t9
  have iv9 := (is_ext AG3.ex hI od.pl).mono rm_same
  delta tNil
  dsimp only
  refine bad_coins fun H' s' => ⟨v1, rfl, .inr ⟨d, iv9.mono s', ndc, fun H'' e s'' he => ⟨_, "thing", "coins", e, v1, .inl ⟨rfl, rfl, rfl⟩, rfl, rfl, upd_same, fun p1 hp1 => ⟨_, rfl, two_line, fun q2 hq2 => ?_⟩⟩⟩⟩
  refine same_ok he hp1 hq2 (iv9.mono (s'.trans s'')) od okW.2.2.2.1 lenW.2.2.2.1 fun H8 sH => ⟨_, rfl, iteF ?_⟩
  have A8 := AG3.same ((s'.trans s'').trans sH)
  clear sH hq2 hp1 he s''
  refine ⟨A8.tb, fun G10 e10 t10 => ?_⟩
  have A10 := A8.lam e10 t10
  have iv10 := (is_ext A10.ex hI od.pl).mono rm_same
  have R10 := R7.ext A10.ex
  obtain ⟨ts, c1, c2⟩ := R10.cl
  refine ⟨_, rfl, cl, ts, kc, rfl, SqL.of (rm_same _ _ c1), L2.Paired.mapP c2 fun _ _ h => SqT.of (rm_same _ _ h), fun gd hgd => ⟨_, rfl, ?_⟩⟩
  rw [merge_self nc]
  try dsimp only
  have sg := Same.up (o := .dK kc) hgd
  refine bad_debts ⟨gd, kc, rfl, upd_same, nc, by omega, coins_ok R1.cc good.co⟩ fun H' s' => ⟨v1, rfl, .inr ⟨d, iv10.mono (sg.trans s'), ndc, fun H'' e s'' he => ⟨_, "thing", "debts", e, v1, .inr (.inl ⟨rfl, rfl, rfl⟩), rfl, rfl, upd_same, fun p1 hp1 => ⟨_, rfl, two_line, fun q2 hq2 => ?_⟩⟩⟩⟩
  try dsimp only
  refine same_ok he hp1 hq2 (iv10.mono ((sg.trans s').trans s'')) od okW.2.2.2.2 lenW.2.2.2.2 fun H9 sH => ?_
  have Af := A10.same (((sg.trans s').trans s'').trans sH)
  exact q H9 (Af.dr.le (by omega)) (A1.ex.trans (B7.ex.trans Af.ex)) Af.tb
end
end K38

set_option Elab.async false
set_option linter.all false
set_option maxRecDepth 100000
set_option maxHeartbeats 4000000
namespace Sr
open PySem PySem.Spec PyProof.Rows L2
/-! ### != of two tuples of dicts that hold the same plain data -/
section
open PySem.SeqAt PySem.AutoSeq1
open MeetsSeq MeetsSeq2 MeetsSeq3
variable {prog : Program} {w : World}
theorem tuple_neIn (l b : Addr) (items items2 : Array Value) (n n2 : Nat) (dd dd2 : Option Addr) (sl sl2 : Array (Option Value)) (hsz : items.size = items2.size) :
    MeetsIn prog w (Builtin.«tuple.__ne__» ⟨[.ref l, .ref b], []⟩)
      (fun A R s => s.heap.get? l = some { cls := .type "tuple", dict := dd, data := .seq items n, slots := sl } ∧ s.heap.get? b = some { cls := .type "tuple", dict := dd2, data := .seq items2 n2, slots := sl2 } ∧
        (∀ j (h1 : j < items.size) (h2 : j < items2.size), EqIn prog w A.in1 s items[j] items2[j] true) ∧
        R (.ok (.ret (.bool false))) s) :=
  .of_wp fun A R s h => by
    obtain ⟨hp, g, d, tk, os⟩ := s; obtain ⟨hl, hb, he, h⟩ := h
    have f2 := AutoSeq1.sub_tuple_tuple
    have hZ : (items.toList.zip items2.toList).length = items.size := by simp [hsz]
    wp_walk using wpAny_loadPart' hl, wpAny_loadPart' hb, wpAny_forIn_list _ (fun rest b s' => b.1 = none ∧ s' = ⟨hp, g, d, tk, os⟩ ∧ ∃ i, rest = (items.toList.zip items2.toList).drop i) _
    case turn =>
      rintro ⟨y, x⟩ rest b s' ⟨hb', rfl, i, hz⟩
      have hlt : i < (items.toList.zip items2.toList).length := by
        rcases Nat.lt_or_ge i (items.toList.zip items2.toList).length with h' | h'
        · exact h'
        · rw [List.drop_of_length_le h'] at hz; cases hz
      have h1 : i < items.size := hZ ▸ hlt
      have h2 : i < items2.size := hsz ▸ h1
      rw [List.drop_eq_getElem_cons hlt] at hz
      injection hz with hyx hrest
      have hy : y = items[i] := by have := congrArg Prod.fst hyx; simpa using this
      have hx : x = items2[i] := by have := congrArg Prod.snd hyx; simpa using this
      subst hy hx
      refine wpAny_bind (he i h1 h2 _ _ ?_)
      wp_walk
      exact ⟨rfl, rfl, i + 1, hrest⟩
    case fin =>
      rintro ⟨b1, b2⟩ s' ⟨hb', rfl, i, hz⟩
      simp only at hb'
      subst hb'
      wp_walk
      exact ⟨_, rfl, by simpa [Builtin.Tuple.tupleCompareSizes, bne, hsz] using h⟩
    case h =>
      exact ⟨rfl, rfl, 0, rfl⟩
theorem rcNeIn_tuples {A : Around} {s : Shared} {E : Value → Shared → Prop} {l b : Addr} {items items2 : Array Value} {Q : Value → Shared → Prop} (hl : s.heap.IsTuple l items) (hb : s.heap.IsTuple b items2) (hsz : items.size = items2.size) (hu : A.units < cLine)
    (he : ∀ j (h1 : j < items.size) (h2 : j < items2.size), EqIn prog w A.in1 s items[j] items2[j] true) (h : Q (.bool false) s) : wpAny (model prog w) A (richCompare .NotEq (.ref l) (.ref b)) Q E s := by
  obtain ⟨⟨cls, dd, data, sl⟩, ho, hc, n, hd⟩ := id hl
  obtain ⟨⟨cls2, dd2, data2, sl2⟩, ho2, hc2, n2, hd2⟩ := id hb
  simp only at hc hd hc2 hd2
  subst hc hd hc2 hd2
  exact wpAny_richCompare_same_room (T := "tuple") (op := .NotEq) ⟨_, ho, rfl⟩ ⟨_, ho2, rfl⟩ F.slot_tuple_ne (call_meetsIn F.slot_tuple_ne ⟨_, ho, rfl⟩ F.entry_tuple_ne (F.args_tuple_ne_2 _ _) (tuple_neIn l b items items2 n n2 dd dd2 sl sl2 hsz)
    ⟨ho, ho2, he, show Value.bool false ≠ Value.notImplemented ∧ Q (.bool false) s from ⟨(fun x => nomatch x), h⟩⟩) hu
end
/-- two dicts that hold the same -/
def SameDc (K : PySem.W.Frag) (H : Hp) (x y : V) : Prop := ∃ a b ks ls xs ys, x = .ref a ∧ y = .ref b ∧ H a = some (.dK ks) ∧ H b = some (.dK ls) ∧ DcD K H ks xs ∧ DcD K H ls ys ∧ eqvK xs ys = true
def rNeTup (K : PySem.W.Frag) : R2 := fun x y H Q => ∃ a b xs ys, x = .ref a ∧ y = .ref b ∧ H a = some (.tup xs) ∧ H b = some (.tup ys) ∧ Paired (SameDc K H) xs ys ∧ Q (.bl false) H
theorem same_eqIn {X : Cx} {pins : List (Addr × Obj)} {σ : L2.St} {H : Hp} {s : Shared} (I : Inv X pins σ H s) {A : Around} (hu : A.units + 16 < cLine) {x y : V} {v u : Value} (h : SameDc X.K H x y) (rx : RelV x v) (ry : RelV y u) : PySem.SeqAt.EqIn X.prog X.w A s v u true := by
  obtain ⟨a, b, ks, ls, xs, ys, rfl, rfl, ea, eb, dx, dy, q⟩ := h
  cases rx
  cases ry
  by_cases ne : a = b
  · subst ne
    exact (PySem.SeqAt.EqAt.same _).inModel _ _
  obtain ⟨_, ya, va, ra, da⟩ := (show ObjOk X.prog X.w H s.heap a (.dK ks) from I.hok a _ ea)
  obtain ⟨_, yb, vb, rb, db⟩ := (show ObjOk X.prog X.w H s.heap b (.dK ls) from I.hok b _ eb)
  refine PySem.SeqAt.EqIn.of_refs ne fun E Q hq => ?_
  refine PySem.W.keq_eq (knd := mixKind X.prog X.w) ya yb da db (by omega) (fun _ => hits_dp I (by simp only [Around.in1_units]; omega) dy rb ra dx) ?_
  rw [kv_len ra, kv_len rb, Paired.length dx, Paired.length dy]
  have e : (xs.length == ys.length && xs.all (hitK ys)) = true := q
  rw [e]
  exact hq
theorem vals_get : ∀ {xs : List V} {its : List Value}, Vals xs its → ∀ {j : Nat} (h : j < its.length), ∃ x, xs[j]? = some x ∧ RelV x its[j]
  | [], _, .nil, j, h => absurd h (Nat.not_lt_zero _)
  | _ :: _, _, .cons a r, 0, h => ⟨_, rfl, a⟩
  | _ :: _, _, .cons a r, j + 1, h => vals_get r (Nat.lt_of_succ_lt_succ h)
theorem op_neTup {X : Cx} (hu : X.A.units + 64 < cLine) : OpR X (compareOp .NotEq) (rNeTup X.K) := by
  intro pins s σ H x y v u Q I rx ry h
  obtain ⟨a, b, xs, ys, rfl, rfl, ea, eb, p, q⟩ := h
  cases rx
  cases ry
  obtain ⟨_, va, ra, ta⟩ := (show ObjOk X.prog X.w H s.heap a (.tup xs) from I.hok a _ ea)
  obtain ⟨_, vb, rb, tb⟩ := (show ObjOk X.prog X.w H s.heap b (.tup ys) from I.hok b _ eb)
  have la := Paired.length ra
  have lb := Paired.length rb
  have lp := Paired.length p
  refine rcNeIn_tuples (prog := X.prog) (w := X.w) ta tb (by simp only [List.size_toArray]; omega) (by omega) (fun j h1 h2 => ?_) (fin_bl I q rfl)
  simp only [List.size_toArray] at h1 h2
  obtain ⟨x, hx, rx⟩ := vals_get ra h1
  obtain ⟨y, hy, ry⟩ := vals_get rb h2
  simp only [List.getElem_toArray]
  exact same_eqIn I (by simp only [Around.in1_units]; omega) (Paired.at2 p hx hy) rx ry
end Sr

set_option Elab.async false
set_option linter.all false
set_option maxRecDepth 100000
set_option maxHeartbeats 4000000
namespace K38
open PySem PySem.Spec PyProof.Rows L2 Sr LamX
def spLaw (K : PySem.W.Frag) (P1 P2 P3 : Addr) : Sp := fun vs H Q _ => ∃ (l : Addr) (ns : List Int), vs = [.ref l] ∧ SqL K H l (ns.map V.int) ∧ H P1 = some (.tbl #[]) ∧ H P2 = some (.tbl #[]) ∧ H P3 = some (.tbl #[]) ∧ ∀ H', Q (.bl true) H'
def LawInv (K : PySem.W.Frag) (l P1 P2 P3 : Addr) (ns : List Int) (σ : L2.St) (H' : Hp) : Prop :=
  (∃ v1 v2 v3 v4 v5 v6 v7 v8 v9 v10 v11 v12 v13 v14, σ = [some (.ref l), v1, v2, v3, v4, v5, v6, v7, v8, v9, v10, v11, v12, v13, v14]) ∧ SqL K H' l (ns.map V.int) ∧ Tabs (Tb P1 P2 P3) H'
def bodyFor : Stmt → List Stmt
  | .For _ _ b _ _ => b
  | _ => []
/-- what stands through a turn -/
structure Lw (K : PySem.W.Frag) (T : List (Addr × Str)) (l a x : Addr) (v w0 : V) (cs : Cn) (ds : Db) (ys : List Str) (ns : List Int) (n : Nat) (H : Hp) : Prop where
  dr : DnAt n H a
  tb : Tabs T H
  deb : DebR K (rm H a) x (wsOf cs ds ys)
  wor : WorldR (rm H a) v cs ds
  old : WorldR (rm H a) w0 cs ds
  sql : SqL K (rm H a) l (ns.map V.int)
theorem Lw.to {K : PySem.W.Frag} {T : List (Addr × Str)} {l a x : Addr} {v w0 : V} {cs : Cn} {ds : Db} {ys : List Str} {ns : List Int} {n m : Nat} {H H' : Hp} (h : Lw K T l a x v w0 cs ds ys ns n H) (d : DnAt m H' a) (e : ExtN (rm H a) (rm H' a)) (t : Tabs T H') : Lw K T l a x v w0 cs ds ys ns m H' :=
  ⟨d, t, h.deb.ext e, h.wor.ext e, h.old.ext e, sql_ext e h.sql⟩
theorem Lw.same {K : PySem.W.Frag} {T : List (Addr × Str)} {l a x : Addr} {v w0 : V} {cs : Cn} {ds : Db} {ys : List Str} {ns : List Int} {n : Nat} {H H' : Hp} (h : Lw K T l a x v w0 cs ds ys ns n H) (s : Same H H') : Lw K T l a x v w0 cs ds ys ns n H' :=
  h.to (h.dr.up s) (ext_rm (.of s)) (h.tb.ext s)
theorem Lw.draws {K : PySem.W.Frag} {T : List (Addr × Str)} {l a x : Addr} {v w0 : V} {cs : Cn} {ds : Db} {ys : List Str} {ns : List Int} {n m : Nat} {H H' : Hp} (h : Lw K T l a x v w0 cs ds ys ns n H) (d : DnAt m H' a) (s : Same (rm H a) (rm H' a)) : Lw K T l a x v w0 cs ds ys ns m H' :=
  h.to d (.of s) (tab_draw h.tb h.dr s)
section
variable {P : Program} {w : World} {K : PySem.W.Frag} {mg : Str → Option Value} {base : Heap}
abbrev s_law : Stmt := top 41
theorem sc_law : FnScope ["script", "turn", "stream", "world", "as_drawn", "coins", "debts", "name", "names", "full", "other", "same", "made", "twin", "row"] ["script"] (defScope s_law) := ⟨rfl, rfl, rfl, by decide +kernel, rfl, by decide +kernel, by decide +kernel⟩
/-- what the law leans on -/
structure LawC (P : Program) (w : World) (K : PySem.W.Frag) (mg : Str → Option Value) (base : Heap) (P1 P2 P3 : Addr) : Prop where
  T : Txt K mg
  O : Deb K mg
  OM : DebM K
  N : DbN K mg
  MkD0 : MkD P w K mg base
  MM : CalM P w K mg base CX0 1 (He.fAd K ("Debts", some "members")) ["self"] (spMembers K)
  MC : CalM P w K mg base CX0 1 (He.fAd K ("Debts", some "coins")) ["self"] (spCoins K)
  MD : CalM P w K mg base CX0 1 (He.fAd K ("Debts", some "debts")) ["self"] (spDebts K)
  ME : CalM P w K mg base CX0 1 (He.fAd K ("Debts", some "__eq__")) ["self", "other"] (spEq K)
  C_law_stream : Cal P w K mg base 1 "_law_stream" ["script", "k"] (spStream K)
  C_law_world : Cal P w K mg base 3 "_law_world" ["stream", "most", "greatest"] spWorld
  C_law_mix : Cal P w K mg base 2 "_law_mix" ["stream", "things"] spMix
  C_law_members : Cal P w K mg base 1 "_law_members" ["world"] spMembL
  C_law_is_told : Cal P w K mg base 5 "_law_is_told" ["made", "world"] (spTold K)
  C_law_splits_right : Cal P w K mg base 10 "_law_splits_right" ["stream", "made", "world"] (spSplits K P1 P2 P3)
  C_law_given_right : Cal P w K mg base 10 "_law_given_right" ["stream", "made", "world"] (spGivenL K P1 P2 P3)
  C_law_refused : Cal P w K mg base 10 "_law_refused" ["stream", "world"] (spRef P1 P2 P3)
abbrev XL (P : Program) (w : World) (K : PySem.W.Frag) (mg : Str → Option Value) (base : Heap) (A : Around) (outer : List Env) (s : Shared) (H : Hp) (E : XK) : Cx := Cx.nox (cxOf CX0 P w K mg base ["script", "turn", "stream", "world", "as_drawn", "coins", "debts", "name", "names", "full", "other", "same", "made", "twin", "row"] "law" (defScope s_law) (He.ga K "law") (.ref (He.codeOf K ("law", none))) A outer s H E)
abbrev lawBody : List Stmt := match defBody s_law with
  | x :: _ => bodyFor x
  | _ => []
/-- a world's dicts, as what is kept -/
abbrev cW (cs : Cn) : List Mb := cs.map fun p => (p.1, p.2, [])
abbrev dW (ds : Db) : List Mb := ds.map fun p => (p.1, 0, p.2)
theorem dcc_names (cs : Cn) : (cW cs).map (·.1) = cs.map (·.1) := by rw [List.map_map]; rfl
theorem dcb_names (ds : Db) : (dW ds).map (·.1) = ds.map (·.1) := by rw [List.map_map]; rfl
theorem dcc {K : PySem.W.Frag} {H : Hp} {kc : List (Key × V)} {cs : Cn} (h : CoinsC kc cs) : DcD K H kc (mapD coinD (cW cs)) :=
  dcd_coins (pmap (f := fun p : Str × Int => ((p.1, p.2, []) : Mb)) (fun _ _ h => h) h)
theorem dcb {K : PySem.W.Frag} {H : Hp} {kd : List (Key × V)} {cs : Cn} {ds : Db} (g : Good cs ds) (h : DebA H kd ds) : DcD K H kd (mapD debtD (dW ds)) :=
  dcd_debts (pmap (f := fun p : Str × Rw => ((p.1, 0, p.2) : Mb)) (fun _ _ h => h) h) fun m hm => by
    obtain ⟨p, mp, rfl⟩ := List.mem_map.mp hm
    obtain ⟨l1, l2, l3, l4⟩ := g.lens
    exact ⟨(g.de p mp).1, l4 p mp, fun r mr => ((g.de p mp).2 r mr).1⟩
theorem nms_nil {ys : List Str} (h : Nms [] [] ys) : ys = [] := by
  cases ys with
  | nil => rfl
  | cons y r => exact absurd ((h.2.2 y).mp List.mem_cons_self) List.not_mem_nil
theorem good_nil : Good [] [] := ⟨List.nodup_nil, List.nodup_nil, Nat.zero_le _, fun p m => (by cases m), fun p m => (by cases m)⟩
theorem la_end {P1 P2 P3 : Addr} (C : LawC P w K mg base P1 P2 P3) {A : Around} {outer : List Env} {s : Shared} {H : Hp} {E : XK} {Q : VK} (hr : Room 13 (XL P w K mg base A outer s H E).A) :
    ∃ t, PSs (XL P w K mg base A outer s H E) ((defBody s_law).drop 1) t ∧ ∀ σ G, (∀ H', Q (.bl true) H') → t { nx := fun _ H' => Q .non H', rt := Q } σ G := by
  obtain ⟨T, O, OM, N, MkD0, MM, MC, MD, ME, C_law_stream, C_law_world, C_law_mix, C_law_members, C_law_is_told, C_law_splits_right, C_law_given_right, C_law_refused⟩ := C
  refine ⟨_, (pss_one (ps_ret (pe_cmpR (op_eqD hr.units) (m0_ MM hr (by decide) O.cl OM.members (MkD.pe (K := K) (w := w) MkD0 rfl rfl hr (by decide) (by rfl) passes_never (pa_cons pe_dnewK (pa_cons pe_dnewK pa_nil)))) (pe_lst pa_nil) (nomark _)))), ?_⟩
  intro σ G q
  refine fun d1 h1 => fun d2 h2 => ?_
  delta tNil
  dsimp only
  refine ok_debts (cs := []) (ds := []) (Same.up h2 _ _ upd_same) upd_same .nil .nil good_nil fun x H1 ys hx s1 nm db => ?_
  obtain rfl := nms_nil nm
  obtain ⟨dx, fc, fd, kc, kd, i1, _⟩ := id db
  refine ⟨x, dx, _, rfl, i1, rfl, x, _, rfl, db, fun p hp => ⟨lineN (n := 0), fun q0 hq => ?_⟩⟩
  exact ⟨.list [], .list [], .lst (SqL.of (Same.up hq _ _ upd_same)) .nil, .lst (SqL.of upd_same) .nil, by decide, by decide, q _⟩
theorem la_e {P1 P2 P3 : Addr} (C : LawC P w K mg base P1 P2 P3) {A : Around} {outer : List Env} {s : Shared} {H : Hp} {E : XK} (hr : Room 13 (XL P w K mg base A outer s H E).A) :
    ∃ t, PSs (XL P w K mg base A outer s H E) (lawBody.drop 21) t ∧ ∀ (D : Ends) (l a x : Addr) (v w0 : V) (v1 v5 v6 v7 v8 v9 v10 v11 v13 v14 : Option V) (cs : Cn) (ds : Db) (ys : List Str) (ns : List Int) (n : Nat) (G : Hp), Lw K (Tb P1 P2 P3) l a x v w0 cs ds ys ns n G → n ≤ 90000 → Drawn cs ds → Nms cs ds ys →
      (∀ σ H', LawInv K l P1 P2 P3 ns σ H' → D.nx σ H') →
      t D [some (.ref l), v1, some (.ref a), some v, some w0, v5, v6, v7, v8, v9, v10, v11, some (.ref x), v13, v14] G := by
  obtain ⟨T, O, OM, N, MkD0, MM, MC, MD, ME, C_law_stream, C_law_world, C_law_mix, C_law_members, C_law_is_told, C_law_splits_right, C_law_given_right, C_law_refused⟩ := C
  refine ⟨_, (pss_cons (ps_if (PW.pt (pw_or (pt_not (pt_val (pe_cal C_law_given_right hr (by first | decide | omega) (by rfl) (pa_cons (pv 2) (pa_cons (pv 12) (pa_cons (pv 3) pa_nil)))))) (pw_or1 (pt_not (pt_val (pe_cal C_law_refused hr (by first | decide | omega) (by rfl) (pa_cons (pv 2) (pa_cons (pv 3) pa_nil)))))))) (pss_one (ps_ret pe_bl)) pss_nil)
      (pss_one (ps_if (pt_cmpR (op_neTup hr.units) (pv 3) (pv 4) (nomark _)) (pss_one (ps_ret pe_bl)) pss_nil))), ?_⟩
  intro D l a x v w0 v1 v5 v6 v7 v8 v9 v10 v11 v13 v14 cs ds ys ns n G X nb g nm q
  refine ⟨_, rfl, _, rfl, _, rfl, a, x, v, cs, ds, ys, n, rfl, X.dr, by omega, X.deb, X.wor, nm, g, X.tb, fun H1 d1 e1 t1 => ⟨_, rfl, iteF ?_⟩⟩
  have X1 := X.to d1 e1 t1
  refine ⟨_, rfl, _, rfl, a, v, cs, ds, n + 4, rfl, X1.dr, by omega, X1.wor, g, X1.tb, fun H2 d2 e2 t2 => ⟨_, rfl, iteF ?_⟩⟩
  have X2 := X1.to d2 e2 t2
  try dsimp only
  have W := X2.wor.mono rm_same
  have W0 := X2.old.mono rm_same
  obtain ⟨p1, c1, q1, kc1, kd1, e1, a1, a2, a3, a4, a5⟩ := W
  obtain ⟨p2, c2, q2, kc2, kd2, e2, b1, b2, b3, b4, b5⟩ := W0
  refine ⟨_, rfl, _, rfl, p1, p2, _, _, e1, e2, a1, b1, .cons ⟨c1, c2, kc1, kc2, _, _, rfl, rfl, a2, b2, dcc a3, dcc b3, eqvK_self coin_self (by rw [dcc_names]; exact g.cn)⟩ (.cons ⟨q1, q2, kd1, kd2, _, _, rfl, rfl, a4, b4, dcb g.good a5, dcb g.good b5, eqvK_self debt_self (by rw [dcb_names]; exact g.dn)⟩ .nil), ?_⟩
  exact ⟨_, rfl, iteF (q _ _ ⟨⟨_, _, _, _, _, _, _, _, _, _, _, _, _, _, rfl⟩, sql_mono rm_same X2.sql, X2.tb⟩)⟩
end
end K38

set_option Elab.async false
set_option linter.all false
set_option maxRecDepth 100000
set_option maxHeartbeats 4000000
namespace K38
open PySem PySem.Spec PyProof.Rows L2 Sr LamX
theorem strs_eqv : ∀ ys zs : List Str, PyData.eqv (.list (ys.map PyData.str)) (.list (zs.map PyData.str)) = decide (ys = zs)
  | [], [] => rfl
  | [], _ :: _ => rfl
  | _ :: _, [] => rfl
  | y :: r, z :: u => by
    have ih : PyData.eqvAll (r.map PyData.str) (u.map PyData.str) = decide (r = u) := strs_eqv r u
    show ((y == z) && PyData.eqvAll (r.map PyData.str) (u.map PyData.str)) = _
    rw [ih]
    by_cases h1 : y = z
    · by_cases h2 : r = u
      · simp [h1, h2]
      · simp [h1, h2]
    · simp [h1]
theorem ws_all {cs cs2 : Cn} {ds ds2 : Db} : ∀ ys : List Str, (ys.map fun n => decide (V.int (gC cs2 n) = V.int (gC cs n)) && decide (gD ds2 n = gD ds n)).all id = decide (wsOf cs2 ds2 ys = wsOf cs ds ys)
  | [] => rfl
  | y :: r => by
    have ih := ws_all (cs := cs) (cs2 := cs2) (ds := ds) (ds2 := ds2) r
    rw [List.map_cons, List.all_cons, ih]
    show _ = decide ((y, gC cs2 y, gD ds2 y) :: wsOf cs2 ds2 r = (y, gC cs y, gD ds y) :: wsOf cs ds r)
    by_cases h1 : gC cs2 y = gC cs y
    · by_cases h2 : gD ds2 y = gD ds y
      · by_cases h3 : wsOf cs2 ds2 r = wsOf cs ds r
        · simp [h1, h2, h3]
        · simp [h1, h2, h3]
      · simp [h1, h2]
    · simp [h1]
theorem ws_other {cs cs2 : Cn} {ds ds2 : Db} {ys ys2 : List Str} (h : ys2 ≠ ys) : decide (wsOf cs2 ds2 ys2 = wsOf cs ds ys) = false :=
  decide_eq_false fun e => h (by rw [← ws_names cs2 ds2 ys2, e, ws_names])
theorem DebR.rt1 {K : PySem.W.Frag} {H : Hp} {x : Addr} {ws : List Mb} (o : DebR K H x ws) : EqRt K (He.ga K "Debts") H (.ref x) := by
  obtain ⟨dx, c, d, kc, kd, h1, _⟩ := o
  exact .inl ⟨x, _, dx, _, rfl, h1, first_self⟩
theorem get_coin {kc : List (Key × V)} {cs : Cn} (h : CoinsC kc cs) {z : Str} : (valV kc (Sum.inr z)).getD (V.int 0) = .int (gC cs z) := by
  rw [h.val]
  unfold gC
  cases cs.lookup z <;> rfl
theorem WorldR.mem {K : PySem.W.Frag} {H : Hp} {v : V} {cs : Cn} {ds : Db} (h : WorldR H v cs ds) (g : Drawn cs ds) : (allN cs ds).length ≤ 60 ∧ (ds.map (·.1)).Nodup := ⟨g.good.al, g.dn⟩
section
variable {P : Program} {w : World} {K : PySem.W.Frag} {mg : Str → Option Value} {base : Heap}
theorem la_d {P1 P2 P3 : Addr} (C : LawC P w K mg base P1 P2 P3) {A : Around} {outer : List Env} {s : Shared} {H : Hp} {E : XK} (hr : Room 13 (XL P w K mg base A outer s H E).A) :
    ∃ t, PSs (XL P w K mg base A outer s H E) (lawBody.drop 18) t ∧ ∀ (D : Ends) (l a x : Addr) (v w0 : V) (v1 v5 v6 v7 v8 v9 v10 v11 v13 v14 : Option V) (cs : Cn) (ds : Db) (ys : List Str) (ns : List Int) (n : Nat) (G : Hp), Lw K (Tb P1 P2 P3) l a x v w0 cs ds ys ns n G → n ≤ 80000 → Drawn cs ds → Nms cs ds ys →
      (∀ σ H', LawInv K l P1 P2 P3 ns σ H' → D.nx σ H') →
      t D [some (.ref l), v1, some (.ref a), some v, some w0, v5, v6, v7, v8, v9, v10, v11, some (.ref x), v13, v14] G := by
  obtain ⟨tt, pt, ht⟩ := la_e C (outer := outer) (H := H) (E := E) hr
  obtain ⟨T, O, OM, N, MkD0, MM, MC, MD, ME, C_law_stream, C_law_world, C_law_mix, C_law_members, C_law_is_told, C_law_splits_right, C_law_given_right, C_law_refused⟩ := C
  refine ⟨_, (pss_cons (ps_set (i := 10) sc_law.nd rfl (by first | exact Or.inl rfl | exact Or.inr rfl) (pe_cal C_law_world hr (by first | decide | omega) (by rfl) (pa_cons (pv 2) (pa_cons pe_int (pa_cons pe_int pa_nil)))))
      (pss_cons (ps_set (i := 11) sc_law.nd rfl (by first | exact Or.inl rfl | exact Or.inr rfl) (pe_and (pe_cmpR (op_eqD hr.units) (pe_cal C_law_members hr (by first | decide | omega) (by rfl) (pa_cons (pv 10) pa_nil)) (pe_cal C_law_members hr (by first | decide | omega) (by rfl) (pa_cons (pv 3) pa_nil)) (nomark _)) (pe_one (pe_callB (id := "all") (cr_all rfl) (by rfl) T.all (by decide +kernel) (pa_cons (pe_lc (own := [("name", 7)]) (g := gName 7) (tt := tYes) rfl sc_law.nd (pi_list (pe_cal C_law_members hr (by first | decide | omega) (by rfl) (pa_cons (pv 3) pa_nil))) (blkOk_by (N := ["script", "turn", "stream", "world", "as_drawn", "coins", "debts", "name", "names", "full", "other", "same", "made", "twin", "row"]) (sc := defScope s_law) (by decide +kernel)) (fun _ _ _ _ _ => (pg_name (i := 7) sc_law.nd rfl (by first | exact Or.inl rfl | exact Or.inr rfl))) (fun _ _ _ _ _ => pts_nil) (fun _ _ _ _ _ => (pe_and (pe_cmpR op_eq (pe_dget2 (hu_of hr) (pe_ix (ix_tupK K rfl) (pv 10) pe_int (fun _ _ => rfl)) (pv 7) pe_int ⟨rfl, by rfl, rfl, rfl⟩) (pe_dget2 (hu_of hr) (pe_ix (ix_tupK K rfl) (pv 3) pe_int (fun _ _ => rfl)) (pv 7) pe_int ⟨rfl, by rfl, rfl, rfl⟩) (nomark _)) (pe_one (pe_cmpR (op_eqDK K rfl hr.units) (pe_dget2 (hu_of hr) (pe_ix (ix_tupK K rfl) (pv 10) pe_int (fun _ _ => rfl)) (pv 7) (pe_lst pa_nil) ⟨rfl, by rfl, rfl, rfl⟩) (pe_dget2 (hu_of hr) (pe_ix (ix_tupK K rfl) (pv 3) pe_int (fun _ _ => rfl)) (pv 7) (pe_lst pa_nil) ⟨rfl, by rfl, rfl, rfl⟩) (nomark _)))))) pa_nil)))))
      (pss_cons (ps_if (pt_cmpR op_ne (pe_cmpR (eq_ (K := K) ME rfl hr (by decide) OM.eq OM.fn) (MkD.pe (K := K) (w := w) MkD0 rfl rfl hr (by decide) (by rfl) passes_never (pa_cons (pe_ix ix_tup (pv 10) pe_int (fun _ _ => rfl)) (pa_cons (pe_ix ix_tup (pv 10) pe_int (fun _ _ => rfl)) pa_nil))) (pv 12) (nomark _)) (pv 11) (nomark _)) (pss_one (ps_ret pe_bl)) pss_nil)
      pt))), ?_⟩
  intro D l a x v w0 v1 v5 v6 v7 v8 v9 v10 v11 v13 v14 cs ds ys ns n G X nb g nm q
  refine cut_if (fun σ H' => ∃ v2 cs2 ds2, σ = [some (.ref l), v1, some (.ref a), some v, some w0, v5, v6, v7, v8, v9, some v2, v11, some (.ref x), v13, v14] ∧ Lw K (Tb P1 P2 P3) l a x v w0 cs ds ys ns (n + 40) H' ∧ WorldR (rm H' a) v2 cs2 ds2 ∧ Drawn cs2 ds2) ?_ fun rest => ?_
  rotate_left
  · exact ⟨_, rfl, a, n, rfl, X.dr, by omega, fun v2 H1 cs2 ds2 d1 s1 w2 g2 => rest _ _ ⟨v2, cs2, ds2, rfl, X.draws d1 s1, w2, g2⟩⟩
  rintro σ G1 ⟨v2, cs2, ds2, rfl, X1, w2, g2⟩
  try dsimp only
  have okn : ∀ {c : Cn} {d : Db} {zs : List Str}, Drawn c d → Nms c d zs → ∀ s ∈ zs, nameOk (.str s) = true := fun g n s m => g.good.name ((n.2.2 s).mp m)
  refine cut_if (fun σ H' => ∃ ys2, σ = [some (.ref l), v1, some (.ref a), some v, some w0, v5, v6, v7, v8, v9, some v2, some (.bl (decide (wsOf cs2 ds2 ys2 = wsOf cs ds ys))), some (.ref x), v13, v14] ∧ Same G1 H' ∧ Nms cs2 ds2 ys2) ?_ fun rest => ?_
  rotate_left
  · have W2 := w2.mono rm_same
    have W := X1.wor.mono rm_same
    refine ⟨_, rfl, v2, cs2, ds2, rfl, W2, g2.good.al, g2.dn, fun H2 p2 ys2 s2 _ hp2 n2 => ?_⟩
    refine ⟨_, rfl, v, cs, ds, rfl, W.mono s2, g.good.al, g.dn, fun H3 p3 ys3 s3 _ hp3 n3 => ?_⟩
    obtain rfl : ys3 = ys := nms_one n3 nm fun _ => Iff.rfl
    refine ⟨_, _, .lst (SqL.of (s3 _ _ hp2)) (dp_strs ys2), .lst (SqL.of hp3) (dp_strs ys3), shaped_strs ys2 (okn g2 n2), shaped_strs ys3 (okn g nm), _, rfl, ?_⟩
    rw [strs_eqv]
    have s23 := s2.trans s3
    by_cases c : ys2 = ys3
    · subst c
      rw [decide_eq_true rfl]
      refine iteT ⟨_, rfl, v, cs, ds, rfl, W.mono s23, g.good.al, g.dn, fun H4 p4 ys4 s4 _ hp4 n4 => ?_⟩
      obtain rfl : ys4 = ys2 := nms_one n4 nm fun _ => Iff.rfl
      have W24 := W2.mono (s23.trans s4)
      have W4 := W.mono (s23.trans s4)
      obtain ⟨t, wc, wd, wkc, wkd, rfl, b1, b2, b3, b4, b5⟩ := W4
      obtain ⟨t2, wc2, wd2, wkc2, wkd2, rfl, c1, c2, c3, c4, c5⟩ := W24
      refine ⟨p4, rfl, ⟨_, SqL.of hp4⟩, fun B hB => lc_f walk_list at_any ys4 (fun z => V.bl (decide (V.int (gC cs2 z) = V.int (gC cs z)) && decide (gD ds2 z = gD ds z))) (by rw [List.length_map]) (sz (m := 60) (by rw [List.length_map]; exact nm.len g.good)) hB (fun H' s' => SqL.of (s' _ _ hp4))
        (fun j u z H5 A lt hu hz s5 kA => ?_) (fun H5 s5 h5 => ?_)⟩
      · rw [List.getElem?_map, hz] at hu
        obtain rfl : V.str z = u := Option.some.inj hu
        refine ⟨rfl, ?_⟩
        refine ⟨_, rfl, t2, _, 0, _, rfl, rfl, SqT.of (s5 _ _ c1), rfl, wc2, rfl, .inl ⟨wkc2, .inl (s5 _ _ c2)⟩, _, rfl, valV wkc2 (Sum.inr z), .inl ⟨wkc2, Sum.inr z, .inl (s5 _ _ c2), rfl, rfl⟩, ?_⟩
        refine ⟨_, rfl, t, _, 0, _, rfl, rfl, SqT.of (s5 _ _ b1), rfl, wc, rfl, .inl ⟨wkc, .inl (s5 _ _ b2)⟩, _, rfl, valV wkc (Sum.inr z), .inl ⟨wkc, Sum.inr z, .inl (s5 _ _ b2), rfl, rfl⟩, ?_⟩
        rw [get_coin c3, get_coin b3]
        refine ⟨rfl, _, rfl, ?_⟩
        by_cases e1 : V.int (gC cs2 z) = V.int (gC cs z)
        · rw [decide_eq_true e1] at kA ⊢
          rw [Bool.true_and] at kA
          refine iteT ?_
          refine ⟨_, rfl, t2, _, 1, _, rfl, rfl, SqT.of (s5 _ _ c1), rfl, wd2, rfl, .inl ⟨wkd2, .inl (s5 _ _ c4)⟩, _, rfl, lineN (n := 0), fun q0 hq => ?_⟩
          have s6 : Same H4 (upd H5 q0 (.lst [])) := s5.trans (Same.up hq)
          obtain ⟨l6, us6, el6, hl6, pr6⟩ := get_rows c5 z s6 upd_same
          refine ⟨valV wkd2 (Sum.inr z), .inl ⟨wkd2, Sum.inr z, .inl (s6 _ _ c4), rfl, rfl⟩, ?_⟩
          rw [el6]
          refine ⟨_, rfl, t, _, 1, _, rfl, rfl, SqT.of (s6 _ _ b1), rfl, wd, rfl, .inl ⟨wkd, .inl (s6 _ _ b4)⟩, _, rfl, lineN (n := 0), fun q1 hq1 => ?_⟩
          have s7 := s6.trans (Same.up (o := .lst []) hq1)
          obtain ⟨l7, us7, el7, hl7, pr7⟩ := get_rows b5 z s7 upd_same
          refine ⟨valV wkd (Sum.inr z), .inl ⟨wkd, Sum.inr z, .inl (s7 _ _ b4), rfl, rfl⟩, ?_⟩
          rw [el7]
          have mz := List.mem_of_getElem? hz
          have sq := Same.up (o := .lst []) hq1
          refine ⟨.list (rowsD (gD ds2 z)), .list (rowsD (gD ds z)), .lst (SqL.of (sq _ _ hl6)) (dp_rows (L2.Paired.mapP pr6 fun _ _ h => h.mono sq)), .lst (SqL.of hl7) (dp_rows pr7), shaped_rowsD (g2.good.mb n2 _ (ws_in mz)).2.2, shaped_rowsD (g.good.mb nm _ (ws_in mz)).2.2, ?_⟩
          have ee : PyData.eqv (.list (rowsD (gD ds2 z))) (.list (rowsD (gD ds z))) = decide (gD ds2 z = gD ds z) := eqv_rowsD _ _
          rw [ee]
          exact kA _ ((Same.up hq).trans sq)
        · rw [decide_eq_false e1] at kA ⊢
          exact iteF (kA _ (Same.refl _))
      · refine ⟨B, ys4.map (fun z => decide (V.int (gC cs2 z) = V.int (gC cs z)) && decide (gD ds2 z = gD ds z)), rfl, SqL.of (by rw [h5, List.map_map]; rfl), ?_⟩
        rw [ws_all]
        exact rest _ _ ⟨ys4, rfl, (s23.trans s4).trans s5, n2⟩
    · rw [decide_eq_false c]
      refine iteF (rest _ _ ⟨ys2, ?_, s23, n2⟩)
      rw [ws_other c]
      rfl
  rintro σ G2 ⟨ys2, rfl, s2, n2⟩
  try dsimp only
  have X2 := X1.same s2
  obtain ⟨t2, wc2, wd2, wkc2, wkd2, rfl, c1, c2, c3, c4, c5⟩ := w2.mono (rm_same.trans s2)
  refine ⟨_, rfl, t2, _, 0, _, rfl, rfl, SqT.of c1, rfl, _, rfl, t2, _, 1, _, rfl, rfl, SqT.of c1, rfl, ?_⟩
  delta tNil
  dsimp only
  refine ok_debts c2 c4 c3 c5.r g2.good fun x2 H3 ys3 hx3 s3 nm3 db3 => ?_
  obtain rfl : ys3 = ys2 := nms_one nm3 n2 fun _ => Iff.rfl
  obtain ⟨dx, fc, fd, kc, kd, i1, _⟩ := id db3
  have X3 := X2.same s3
  have dm := X3.deb.mono rm_same
  refine ⟨_, rfl, x2, dx, _, rfl, i1, .inl dm.rt1, x2, .ref x, _, rfl, db3, by rw [ws_names]; exact nm3.2.1, .inr ⟨x, _, rfl, dm, by rw [ws_names]; exact nm.2.1, ?_⟩⟩
  refine ⟨_, rfl, rfl, _, rfl, ?_⟩
  rw [decide_eq_true rfl]
  exact iteF (ht _ _ _ _ _ _ _ _ _ _ _ _ _ _ _ _ _ _ _ _ _ _ X3 (by omega) g nm q)
end
end K38

set_option Elab.async false
set_option linter.all false
set_option maxRecDepth 100000
set_option maxHeartbeats 4000000
namespace K38
open PySem PySem.Spec PyProof.Rows L2 Sr LamX
/-- the debts and the world lie apart -/
def Ly (K : PySem.W.Frag) (a x : Addr) (v : V) (cs : Cn) (ds : Db) (ys : List Str) (H : Hp) : Prop :=
  ∃ N M, DebR K N x (wsOf cs ds ys) ∧ WorldR M v cs ds ∧ ExtN N (rm H a) ∧ ExtN M (rm H a) ∧ ∀ b o, N b = some o → M b = none
theorem Ly.to {K : PySem.W.Frag} {a x : Addr} {v : V} {cs : Cn} {ds : Db} {ys : List Str} {H H' : Hp} (h : Ly K a x v cs ds ys H) (e : ExtN (rm H a) (rm H' a)) : Ly K a x v cs ds ys H' := by
  obtain ⟨N, M, h1, h2, h3, h4, h5⟩ := h
  exact ⟨N, M, h1, h2, h3.trans e, h4.trans e, h5⟩
theorem same_free {H H2 : Hp} {p : Addr} {o : HO} (s : Same H H2) (h : H p = none) : Same H (upd H2 p o) := fun b u e => by
  rw [upd_ne fun z => by rw [z, h] at e; cases e]
  exact s _ _ e
section
variable {P : Program} {w : World} {K : PySem.W.Frag} {mg : Str → Option Value} {base : Heap}
theorem la_c {P1 P2 P3 : Addr} (C : LawC P w K mg base P1 P2 P3) {A : Around} {outer : List Env} {s : Shared} {H : Hp} {E : XK} (hr : Room 13 (XL P w K mg base A outer s H E).A) :
    ∃ t, PSs (XL P w K mg base A outer s H E) (lawBody.drop 13) t ∧ ∀ (D : Ends) (l a x : Addr) (v w0 : V) (v1 v5 v6 v7 v8 v9 v10 v11 v13 v14 : Option V) (cs : Cn) (ds : Db) (ys : List Str) (ns : List Int) (n : Nat) (G : Hp), Lw K (Tb P1 P2 P3) l a x v w0 cs ds ys ns n G → Ly K a x v cs ds ys G → n ≤ 70000 → Drawn cs ds → Nms cs ds ys →
      (∀ σ H', LawInv K l P1 P2 P3 ns σ H' → D.nx σ H') →
      t D [some (.ref l), v1, some (.ref a), some v, some w0, v5, v6, v7, v8, v9, v10, v11, some (.ref x), v13, v14] G := by
  obtain ⟨tt, pt, ht⟩ := la_d C (outer := outer) (H := H) (E := E) hr
  obtain ⟨T, O, OM, N, MkD0, MM, MC, MD, ME, C_law_stream, C_law_world, C_law_mix, C_law_members, C_law_is_told, C_law_splits_right, C_law_given_right, C_law_refused⟩ := C
  refine ⟨_, (pss_cons (ps_expr (pe_dclear (m0_ MC hr (by decide) O.cl OM.coins (pv 12))))
      (pss_cons (ps_expr (pe_dclear (m0_ MD hr (by decide) O.cl OM.debts (pv 12))))
      (pss_cons (ps_expr (pe_bm PySem.F.plainAttrs_list PySem.F.slot_list_append PySem.F.type_list_append mt_append (m0_ MM hr (by decide) O.cl OM.members (pv 12)) (pa_cons pe_str pa_nil)))
      (pss_cons (ps_lock (ps_for PassesOwn.never rfl (pi_keys (pe_ix ix_tup (pv 3) pe_int (fun _ _ => rfl))) (pg_name (i := 7) sc_law.nd rfl (by first | exact Or.inl rfl | exact Or.inr rfl))
      (pss_one (ps_expr (pe_bm PySem.F.plainAttrs_list PySem.F.slot_list_append PySem.F.type_list_append mt_append (pe_dget (hu_of hr) (m0_ MD hr (by decide) O.cl OM.debts (pv 12)) (pv 7) (fun _ _ => rfl)) (pa_cons (pe_tup (pa_cons pe_str (pa_cons pe_int pa_nil))) pa_nil))))))
      (pss_cons (ps_if (PW.pt (pw_or (pt_not (pt_val (pe_cal C_law_is_told hr (by first | decide | omega) (by rfl) (pa_cons (pv 12) (pa_cons (pv 3) pa_nil))))) (pw_or1 (pt_not (pt_val (pe_cal C_law_splits_right hr (by first | decide | omega) (by rfl) (pa_cons (pv 2) (pa_cons (pv 12) (pa_cons (pv 3) pa_nil))))))))) (pss_one (ps_ret pe_bl)) pss_nil)
      pt))))), ?_⟩
  intro D l a x v w0 v1 v5 v6 v7 v8 v9 v10 v11 v13 v14 cs ds ys ns n G X Y nb g nm q
  have Lw0 : ∀ {H' : Hp}, Same G H' → Lw K (Tb P1 P2 P3) l a x v w0 cs ds ys ns n H' := fun s => X.same s
  have deb : ∀ {H' : Hp}, Same G H' → DebR K H' x (wsOf cs ds ys) := fun s => (X.same s).deb.mono rm_same
  obtain ⟨dx, fc, fd, kc, kd, i0, _⟩ := id (deb (Same.refl G))
  have ly := nm.len g.good
  refine cut_if (fun σ H' => σ = [some (.ref l), v1, some (.ref a), some v, some w0, v5, v6, v7, v8, v9, v10, v11, some (.ref x), v13, v14] ∧ Same G H') ?_ fun rest => ?_
  rotate_left
  · exact ⟨_, rfl, x, dx, _, rfl, i0, rfl, x, _, rfl, deb (Same.refl G), fun p kc hp cr => ⟨.inr (.inr (.inl ⟨rfl, .inl ⟨kc, upd_same⟩⟩)), p, kc, rfl, rfl, upd_same, rest _ _ ⟨rfl, same_free (Same.up hp) hp⟩⟩⟩
  rintro σ G1 ⟨rfl, s1⟩
  try dsimp only
  refine cut_if (fun σ H' => σ = [some (.ref l), v1, some (.ref a), some v, some w0, v5, v6, v7, v8, v9, v10, v11, some (.ref x), v13, v14] ∧ Same G H') ?_ fun rest => ?_
  rotate_left
  · exact ⟨_, rfl, x, dx, _, rfl, s1 _ _ i0, rfl, x, _, rfl, deb s1, fun H2 p kd s2 hp hp2 dd fr => ⟨.inr (.inr (.inl ⟨rfl, .inl ⟨kd, hp2⟩⟩)), p, kd, rfl, rfl, hp2, rest _ _ ⟨rfl, s1.trans (same_free s2 hp)⟩⟩⟩
  rintro σ G2 ⟨rfl, s2⟩
  try dsimp only
  refine cut_if (fun σ H' => σ = [some (.ref l), v1, some (.ref a), some v, some w0, v5, v6, v7, v8, v9, v10, v11, some (.ref x), v13, v14] ∧ Same G H') ?_ fun rest => ?_
  rotate_left
  · exact ⟨_, rfl, x, dx, _, rfl, s2 _ _ i0, rfl, x, _, rfl, deb s2, fun p hp => ⟨.inl ⟨rfl, _, SqL.of upd_same⟩, p, _, _, rfl, rfl, upd_same, by rw [ws_names, List.length_map]; exact sz (m := 60) ly, rest _ _ ⟨rfl, s2.trans (same_free (Same.up hp) hp)⟩⟩⟩
  rintro σ G3 ⟨rfl, s3⟩
  try dsimp only
  have X3 := X.same s3
  have Y3 := Y.to (ext_rm (.of s3))
  refine cut_if (fun σ H' => (∃ v7, σ = [some (.ref l), v1, some (.ref a), some v, some w0, v5, v6, v7, v8, v9, v10, v11, some (.ref x), v13, v14]) ∧ Same G3 H') ?_ fun rest => ?_
  rotate_left
  · obtain ⟨NN, M, y1, y2, y3, y4, y5⟩ := Y3
    obtain ⟨t, wc, wd, wkc, wkd, rfl, b1, b2, b3, b4, b5⟩ := y2
    have up : ∀ {b : Addr} {o : HO}, M b = some o → (∀ z, o ≠ .tbl z) → G3 b = some o := fun h n => rm_same _ _ (y4 _ _ h n)
    have g1 := up b1 (fun _ z => by cases z)
    have g4 := up b4 (fun _ z => by cases z)
    refine ⟨wd, .dK wkd, g4, trivial, fun od => ?_⟩
    have back : ∀ H', Same (upd G3 wd (.frz od (.dK wkd))) H' → Same G3 (upd H' wd (.dK wkd)) := fun H' s x o e => by
      by_cases hx : x = wd
      · rw [hx] at e ⊢
        rw [g4] at e
        cases e
        exact upd_same
      · rw [upd_ne hx]
        exact s _ _ (by rw [upd_ne hx]; exact e)
    have dF : DebR K (upd G3 wd (.frz od (.dK wkd))) x (wsOf cs ds ys) := y1.ext fun b o e n => by
      rw [upd_ne fun z => by
        have := y5 _ _ e
        rw [z, b4] at this
        cases this]
      exact rm_same _ _ (y3 _ _ e n)
    have g1F : (upd G3 wd (.frz od (.dK wkd))) t = some (.tup [.ref wc, .ref wd]) := by rw [upd_ne (ne_of g1 g4 (by intro z; cases z))]; exact g1
    have hwF : (upd G3 wd (.frz od (.dK wkd))) wd = some (.frz od (.dK wkd)) := upd_same
    generalize upd G3 wd (.frz od (.dK wkd)) = F at back dF g1F hwF ⊢
    have len : wkd.length = ds.length := Paired.length b5
    refine ⟨_, rfl, t, _, 1, _, rfl, rfl, SqT.of g1F, rfl, wd, od, rfl, .inl ⟨wkd, hwF, for_it walk_keys (fun i σ H' => (∃ v7, σ = [some (.ref l), v1, some (.ref a), some (.ref t), some w0, v5, v6, v7, v8, v9, v10, v11, some (.ref x), v13, v14]) ∧ Same F H') ⟨⟨_, rfl⟩, Same.refl F⟩ (fun i σ H' _ p => p.2 _ _ hwF) ?_ ?_⟩⟩
    · rintro i u σ H1 H2 hi ⟨⟨nm7, rfl⟩, sF⟩ ⟨rfl, k, v, hk, rfl⟩
      obtain ⟨p, hp⟩ : ∃ p, ds[i]? = some p := ⟨ds[i]'(by omega), List.getElem?_eq_getElem (by omega)⟩
      obtain ⟨ek, _⟩ := Paired.at2 b5 hk hp
      have ek : k = Sum.inr p.1 := ek
      subst ek
      have my : p.1 ∈ ys := (nm.2.2 _).mpr (all_mem.mpr (.inr (.inl (List.mem_map.mpr ⟨p, List.mem_of_getElem? hp, rfl⟩))))
      have d1 := dF.mono sF
      obtain ⟨dx1, fc1, fd1, kc1, kd1, i1, _⟩ := id d1
      refine ⟨_, rfl, x, dx1, _, rfl, i1, rfl, x, _, rfl, d1, fun H3 q3 kd3 s3' hq hq3 dd fr => ?_⟩
      obtain ⟨v3, ev, l3, us, rfl, hl3, pr⟩ := deb_val dd (by rw [ws_names]; exact nm.1) (ws_in (cs := cs) (ds := ds) my)
      obtain ⟨l', el, fl⟩ := fr _ (val_mem ev)
      cases el
      refine ⟨_, rfl, q3, _, rfl, .inl ⟨kd3, Sum.inr p.1, .inl hq3, rfl, ev.symm⟩, .inl ⟨rfl, _, SqL.of hl3⟩, two_line, fun t2 ht2 => ?_⟩
      delta tNil
      dsimp only
      refine ⟨l3, us, .ref t2, rfl, rfl, Same.up ht2 _ _ hl3, ?_, ⟨_, rfl⟩, sF.trans (same_free (s3'.trans (Same.up ht2)) fl)⟩
      rw [Paired.length pr]
      exact Nat.lt_of_le_of_lt (gD_len g.good.lens.2.2.2 p.1) (by decide)
    · rintro σ H1 ⟨⟨nm7, rfl⟩, sF⟩
      exact ⟨sF _ _ hwF, rest _ _ ⟨⟨_, rfl⟩, back _ sF⟩⟩
  rintro σ G4 ⟨⟨v7', rfl⟩, s4⟩
  try dsimp only
  have X4 := X3.same s4
  have W4 := X4.wor.mono rm_same
  refine ⟨_, rfl, _, rfl, x, v, cs, ds, ys, rfl, X4.deb.mono rm_same, W4, nm, g.good, fun H1 s5 => ⟨_, rfl, iteF ?_⟩⟩
  have X5 := X4.same s5
  refine ⟨_, rfl, _, rfl, _, rfl, a, x, v, cs, ds, ys, n, rfl, X5.dr, by omega, X5.deb, X5.wor, nm, g, X5.tb, fun H2 d2 e2 t2 => ⟨_, rfl, iteF ?_⟩⟩
  exact ht _ _ _ _ _ _ _ _ _ _ _ _ _ _ _ _ _ _ _ _ _ _ (X5.to d2 e2 t2) (by omega) g nm q
end
end K38

set_option Elab.async false
set_option linter.all false
set_option maxRecDepth 100000
set_option maxHeartbeats 4000000
namespace K38
open PySem PySem.Spec PyProof.Rows L2 Sr LamX
theorem ent_cs {cs : Cn} {ds : Db} {kvs : List (Key × V)} {ys : List Str} (h : Ent (fun s v => v = .int (gC cs s)) kvs ys) : CoinsC kvs (csW (wsOf cs ds ys)) := by
  rw [csW_eq]
  exact pmap (f := fun n => (n, gC cs n)) (fun _ _ h => h) h
theorem ent_ds {H : Hp} {cs : Cn} {ds : Db} {kvs : List (Key × V)} {ys : List Str} (h : Ent (fun s v => RowsV H v (gD ds s)) kvs ys) : DebtsR H kvs (dsW (wsOf cs ds ys)) := by
  rw [dsW_eq]
  exact pmap (f := fun n => (n, gD ds n)) (fun _ _ h => h) h
theorem ws_back {cs : Cn} {ds : Db} {ys ys' : List Str} (n : Nms cs ds ys) : wsOf (csW (wsOf cs ds ys)) (dsW (wsOf cs ds ys)) ys' = wsOf cs ds ys' := by
  unfold wsOf
  refine List.map_congr_left fun s _ => ?_
  have h1 := gC_csW n s
  have h2 := gD_dsW n s
  unfold wsOf at h1 h2
  rw [h1, h2]
/-- rows in a tuple -/
def RowsT (H : Hp) (v : V) (rs : Rw) : Prop := ∃ p us, v = .ref p ∧ H p = some (.tup us) ∧ Paired (RowAt H) us rs
theorem RowsT.mono {H H' : Hp} (s : Same H H') {v : V} {rs : Rw} (h : RowsT H v rs) : RowsT H' v rs := by
  obtain ⟨p, us, e, h, pr⟩ := h
  exact ⟨p, us, e, s _ _ h, L2.Paired.mapP pr fun _ _ h => h.mono s⟩
theorem RowsT.v {H : Hp} {v : V} {rs : Rw} (h : RowsT H v rs) : RowsV H v rs := by
  obtain ⟨p, us, e, h, pr⟩ := h
  exact ⟨p, us, e, .inr h, L2.Paired.mapP pr fun _ _ h => h.v⟩
theorem RowsT.lst {H : Hp} {D : Addr} {c : List V} {o : HO} (hD : H D = some (.lst c)) {v : V} {rs : Rw} (h : RowsT H v rs) : RowsT (upd H D o) v rs := by
  obtain ⟨p, us, e, h, pr⟩ := h
  exact ⟨p, us, e, by rw [upd_ne (ne_of h hD (by intro z; cases z))]; exact h, L2.Paired.mapP pr fun _ _ h => RowAt.lst hD h⟩
theorem all_back {cs : Cn} {ds : Db} {ys : List Str} (n : Nms cs ds ys) (s : Str) : s ∈ allN (csW (wsOf cs ds ys)) (dsW (wsOf cs ds ys)) ↔ s ∈ allN cs ds := by
  obtain ⟨e1, e2⟩ := names_csW cs ds ys
  rw [all_mem, e1, e2, ← n.2.2 s]
  exact ⟨fun h => h.elim id fun h => h.elim id fun h => told_sub n h, .inl⟩
section
variable {P : Program} {w : World} {K : PySem.W.Frag} {mg : Str → Option Value} {base : Heap}
theorem la_b {P1 P2 P3 : Addr} (C : LawC P w K mg base P1 P2 P3) {A : Around} {outer : List Env} {s : Shared} {H : Hp} {E : XK} (hr : Room 13 (XL P w K mg base A outer s H E).A) :
    ∃ t, PSs (XL P w K mg base A outer s H E) (lawBody.drop 10) t ∧ ∀ (D : Ends) (l a x : Addr) (v w0 : V) (v1 v5 v6 v7 v8 v9 v10 v11 v13 v14 : Option V) (cs : Cn) (ds : Db) (ys : List Str) (ns : List Int) (n : Nat) (G : Hp), Lw K (Tb P1 P2 P3) l a x v w0 cs ds ys ns n G → Ly K a x v cs ds ys G → n ≤ 70000 → Drawn cs ds → Nms cs ds ys →
      (∀ σ H', LawInv K l P1 P2 P3 ns σ H' → D.nx σ H') →
      t D [some (.ref l), v1, some (.ref a), some v, some w0, v5, v6, v7, v8, v9, v10, v11, some (.ref x), v13, v14] G := by
  obtain ⟨tt, pt, ht⟩ := la_c C (outer := outer) (H := H) (E := E) hr
  obtain ⟨T, O, OM, N, MkD0, MM, MC, MD, ME, C_law_stream, C_law_world, C_law_mix, C_law_members, C_law_is_told, C_law_splits_right, C_law_given_right, C_law_refused⟩ := C
  refine ⟨_, (pss_cons (ps_set (i := 8) sc_law.nd rfl (by first | exact Or.inl rfl | exact Or.inr rfl) (pe_cal C_law_members hr (by first | decide | omega) (by rfl) (pa_cons (pv 3) pa_nil)))
      (pss_cons (ps_set (i := 9) sc_law.nd rfl (by first | exact Or.inl rfl | exact Or.inr rfl) (pe_callTy (T := "dict") (call_dictP rfl) (by rfl) T.dict (by decide +kernel) (pa_cons (pe_lc (own := [("name", 7)]) (g := gName 7) (tt := tYes) rfl sc_law.nd (pi_list (pv 8)) (blkOk_by (N := ["script", "turn", "stream", "world", "as_drawn", "coins", "debts", "name", "names", "full", "other", "same", "made", "twin", "row"]) (sc := defScope s_law) (by decide +kernel)) (fun _ _ _ _ _ => (pg_name (i := 7) sc_law.nd rfl (by first | exact Or.inl rfl | exact Or.inr rfl))) (fun _ _ _ _ _ => pts_nil) (fun _ _ _ _ _ => (pe_tup (pa_cons (pv 7) (pa_cons (pe_dget2 (hu_of hr) (pe_ix (ix_tupK K rfl) (pv 3) pe_int (fun _ _ => rfl)) (pv 7) pe_int ⟨rfl, by rfl, rfl, rfl⟩) pa_nil))))) pa_nil)))
      (pss_cons (ps_if (pt_cmpR (ne_ (X := XL P w K mg base A outer s H E) ME hr (by decide) OM.eq OM.fn OM.ne N.cm) (MkD.pe (K := K) (w := w) MkD0 rfl rfl hr (by decide) (by rfl) passes_never (pa_cons (pv 9) (pa_cons (pe_callTy (T := "dict") (call_dictP rfl) (by rfl) T.dict (by decide +kernel) (pa_cons (pe_lc (own := [("name", 7)]) (g := gName 7) (tt := tYes) rfl sc_law.nd (pi_list (pv 8)) (blkOk_by (N := ["script", "turn", "stream", "world", "as_drawn", "coins", "debts", "name", "names", "full", "other", "same", "made", "twin", "row"]) (sc := defScope s_law) (by decide +kernel)) (fun _ _ _ _ _ => (pg_name (i := 7) sc_law.nd rfl (by first | exact Or.inl rfl | exact Or.inr rfl))) (fun _ _ _ _ _ => pts_nil) (fun _ _ _ _ _ => (pe_tup (pa_cons (pv 7) (pa_cons (pe_callTy (T := "tuple") (call_tuple_ofK K rfl) (by rfl) T.tuple (by decide +kernel) (pa_cons (pe_dget2 (hu_of hr) (pe_ix (ix_tupK K rfl) (pv 3) pe_int (fun _ _ => rfl)) (pv 7) (pe_lst pa_nil) ⟨rfl, by rfl, rfl, rfl⟩) pa_nil)) pa_nil))))) pa_nil)) pa_nil))) (pv 12) (nomark _)) (pss_one (ps_ret pe_bl)) pss_nil)
      pt))), ?_⟩
  intro D l a x v w0 v1 v5 v6 v7 v8 v9 v10 v11 v13 v14 cs ds ys ns n G X Y nb g nm q
  have W := X.wor.mono rm_same
  obtain ⟨t, wc, wd, wkc, wkd, rfl, b1, b2, b3, b4, b5⟩ := W
  have W := X.wor.mono rm_same
  have ly := nm.len g.good
  have zy : (ys.map V.str).length < sizeLine := sz (m := 60) (by rw [List.length_map]; exact ly)
  refine cut_if (fun σ H' => ∃ pn, σ = [some (.ref l), v1, some (.ref a), some (.ref t), some w0, v5, v6, v7, some (.ref pn), v9, v10, v11, some (.ref x), v13, v14] ∧ Same G H' ∧ H' pn = some (.lst (ys.map V.str))) ?_ fun rest => ?_
  rotate_left
  · refine ⟨_, rfl, .ref t, cs, ds, rfl, W, g.good.al, g.dn, fun H1 pn ys1 s1 _ hp n1 => ?_⟩
    obtain rfl : ys1 = ys := nms_one n1 nm fun _ => Iff.rfl
    exact rest _ _ ⟨pn, rfl, s1, hp⟩
  rintro σ G1 ⟨pn, rfl, s1, hpn⟩
  try dsimp only
  refine cut_if (fun σ H' => ∃ f kvs, σ = [some (.ref l), v1, some (.ref a), some (.ref t), some w0, v5, v6, v7, some (.ref pn), some (.ref f), v10, v11, some (.ref x), v13, v14] ∧ Same G1 H' ∧ H' f = some (.dK kvs) ∧ CoinsC kvs (csW (wsOf cs ds ys))) ?_ fun rest => ?_
  rotate_left
  · refine ⟨_, rfl, pn, rfl, ⟨_, SqL.of hpn⟩, fun B hB => lc_gen walk_list at_any ys (fun _ => true) (by rw [List.length_map]) zy hB (fun H' s' => SqL.of (s' _ _ hpn)) (PrAt fun _ s z => z = .int (gC cs s)) (fun _ _ _ _ e h => ?_) (fun _ _ _ _ _ e h => ?_)
      (fun j u z H3 A B lt hu hz s3 kA kB => ?_) (fun H3 acc s3 h3' p3 => ?_)⟩
    · obtain ⟨t2, z, e1, e2, e3⟩ := h
      exact ⟨t2, z, e1, e _ _ e2, e3⟩
    · obtain ⟨t2, z, e1, e2, e3⟩ := h
      exact ⟨t2, z, e1, by rw [upd_ne (ne_of e2 e (by intro z; cases z))]; exact e2, e3⟩
    · rw [List.getElem?_map, hz] at hu
      obtain rfl : V.str z = u := Option.some.inj hu
      have s4 := s1.trans s3
      refine ⟨rfl, ?_⟩
      simp only [tYes, if_true]
      refine ⟨_, rfl, _, rfl, t, _, 0, _, rfl, rfl, SqT.of (s4 _ _ b1), rfl, wc, rfl, .inl ⟨wkc, .inl (s4 _ _ b2)⟩, _, rfl, valV wkc (Sum.inr z), .inl ⟨wkc, Sum.inr z, .inl (s4 _ _ b2), rfl, rfl⟩, ?_⟩
      rw [get_coin b3]
      exact ⟨two_line, fun t2 ht2 => kA rfl _ _ (Same.up ht2) ⟨t2, _, rfl, upd_same, rfl⟩⟩
    rw [List.filter_eq_self.mpr fun _ _ => rfl] at p3
    obtain ⟨ts, kvs, rfl, pp, en⟩ := pairs_of (K := K) p3
    refine ⟨B, ts, kvs, rfl, SqL.of h3', pp, fun f hf => ?_⟩
    rw [merge_ent en nm.1]
    exact rest _ _ ⟨f, kvs, rfl, s3.trans (Same.up hf), upd_same, ent_cs en⟩
  rintro σ G2 ⟨f, kvs, rfl, s2, hf, cf⟩
  try dsimp only
  have s12 := s1.trans s2
  have hpn2 := s2 _ _ hpn
  refine ⟨_, rfl, _, rfl, pn, rfl, ⟨_, SqL.of hpn2⟩, fun B hB => lc_gen walk_list at_any ys (fun _ => true) (by rw [List.length_map]) zy hB (fun H' s' => SqL.of (s' _ _ hpn2)) (PrAt fun H s z => RowsT H z (gD ds s)) (fun _ _ _ _ e h => ?_) (fun H1 _ _ c c' e h => ?_)
    (fun j u z H3 A B lt hu hz s3 kA kB => ?_) (fun H3 acc s3 h3' p3 => ?_)⟩
  · obtain ⟨t2, z, e1, e2, e3⟩ := h
    exact ⟨t2, z, e1, e _ _ e2, e3.mono e⟩
  · obtain ⟨t2, z, e1, e2, e3⟩ := h
    exact ⟨t2, z, e1, by rw [upd_ne (ne_of e2 e (by intro z; cases z))]; exact e2, e3.lst e⟩
  · rw [List.getElem?_map, hz] at hu
    obtain rfl : V.str z = u := Option.some.inj hu
    have s4 := s12.trans s3
    refine ⟨rfl, ?_⟩
    simp only [tYes, if_true]
    refine ⟨_, rfl, _, rfl, t, _, 1, _, rfl, rfl, SqT.of (s4 _ _ b1), rfl, wd, rfl, .inl ⟨wkd, .inl (s4 _ _ b4)⟩, _, rfl, lineN (n := 0), fun q0 hq => ?_⟩
    have s0 : Same G (upd H3 q0 (.lst [])) := s4.trans (Same.up hq)
    obtain ⟨l5, us5, el, hl5, pr5⟩ := get_rows b5 z s0 upd_same
    refine ⟨valV wkd (Sum.inr z), .inl ⟨wkd, Sum.inr z, .inl (s0 _ _ b4), rfl, rfl⟩, ?_⟩
    rw [el]
    delta tNil
    dsimp only
    refine ⟨l5, us5, rfl, .inl ⟨SqL.of hl5, fun p2 hp2 => ⟨two_line, fun t2 ht2 => ?_⟩⟩⟩
    exact kA rfl _ _ (((Same.up hq).trans (Same.up hp2)).trans (Same.up ht2)) ⟨t2, _, rfl, upd_same, p2, us5, rfl, Same.up ht2 _ _ upd_same, L2.Paired.mapP pr5 fun _ _ h => (h.mono (Same.up hp2)).mono (Same.up ht2)⟩
  rw [List.filter_eq_self.mpr fun _ _ => rfl] at p3
  obtain ⟨ts, kvs2, rfl, pp, en⟩ := pairs_of (K := K) p3
  refine ⟨B, ts, kvs2, rfl, SqL.of h3', pp, fun f2 hf2 => ?_⟩
  rw [merge_ent en nm.1]
  have en2 : Ent (fun s v => RowsV (upd H3 f2 (.dK kvs2)) v (gD ds s)) kvs2 ys := en.imp fun s v h => (h.mono (Same.up hf2)).v
  delta tNil
  dsimp only
  have s3' := s3.trans (Same.up (o := .dK kvs2) hf2)
  refine ok_debts (s3' _ _ hf) upd_same cf (ent_ds (cs := cs) en2) (g.ws nm).1 fun x2 H4 ys2 hx2 s4 nm2 db2 => ?_
  obtain rfl : ys2 = ys := nms_one nm2 nm (all_back nm)
  rw [ws_back nm] at db2
  obtain ⟨dx, fc, fd, kc, kd, i1, _⟩ := id db2
  have s14 := s12.trans (s3'.trans s4)
  have X4 := X.same s14
  have dm := X4.deb.mono rm_same
  refine ⟨_, rfl, x2, dx, _, rfl, i1, dm.rt1, x2, .ref x, _, rfl, db2, by rw [ws_names]; exact nm2.2.1, .inr ⟨x, _, rfl, dm, by rw [ws_names]; exact nm.2.1, ?_⟩⟩
  rw [decide_eq_true rfl]
  refine ⟨_, rfl, _, rfl, iteF ?_⟩
  exact ht _ _ _ _ _ _ _ _ _ _ _ _ _ _ _ _ _ _ _ _ _ _ X4 (Y.to (ext_rm (.of s14))) (by omega) g nm q
end
end K38

set_option Elab.async false
set_option linter.all false
set_option maxRecDepth 100000
set_option maxHeartbeats 4000000
namespace K38
open PySem PySem.Spec PyProof.Rows L2 Sr LamX
/-! ### scratch: what is changed is one's own -/
def Keep (Z : Addr → Prop) (G H : Hp) : Prop := (∀ b o, ¬ Z b → G b = some o → H b = some o) ∧ ∀ b, Z b → (∃ o, G b = some o) → ∃ o, H b = some o
theorem Keep.refl {Z : Addr → Prop} (G : Hp) : Keep Z G G := ⟨fun _ _ _ h => h, fun _ _ h => h⟩
theorem Keep.trans {Z : Addr → Prop} {G H I : Hp} (a : Keep Z G H) (b : Keep Z H I) : Keep Z G I := ⟨fun x o n h => b.1 x o n (a.1 x o n h), fun x z h => b.2 x z (a.2 x z h)⟩
theorem Keep.of {Z : Addr → Prop} {G H : Hp} (s : Same G H) : Keep Z G H := ⟨fun _ _ _ h => s _ _ h, fun _ _ ⟨o, h⟩ => ⟨o, s _ _ h⟩⟩
theorem Keep.put {Z : Addr → Prop} {G : Hp} {b : Addr} {o : HO} (z : Z b) : Keep Z G (upd G b o) := ⟨fun x u n h => by rw [upd_ne fun e => n (by rw [e]; exact z)]; exact h, fun x _ ⟨u, h⟩ => by
  by_cases c : x = b
  · exact ⟨o, by rw [c, upd_same]⟩
  · exact ⟨u, by rw [upd_ne c]; exact h⟩⟩
def RowL (Z : Addr → Prop) (H : Hp) (u : V) : Prop := ∃ r s i, u = .ref r ∧ Z r ∧ H r = some (.lst [.str s, .int i])
def LstZ (Z : Addr → Prop) (H : Hp) (v : V) : Prop := ∃ p us, v = .ref p ∧ Z p ∧ H p = some (.lst us) ∧ us.length ≤ 60 ∧ ∀ u ∈ us, RowL Z H u
theorem RowL.keep {Z : Addr → Prop} {G H : Hp} (s : Same G H) {u : V} (h : RowL Z G u) : RowL Z H u := by
  obtain ⟨r, x, i, e, z, h⟩ := h
  exact ⟨r, x, i, e, z, s _ _ h⟩
theorem LstZ.keep {Z : Addr → Prop} {G H : Hp} (s : Same G H) {v : V} (h : LstZ Z G v) : LstZ Z H v := by
  obtain ⟨p, us, e, z, h, l, f⟩ := h
  exact ⟨p, us, e, z, s _ _ h, l, fun u m => (f u m).keep s⟩
theorem RowL.put {Z : Addr → Prop} {G : Hp} {r : Addr} {s : Str} {i : Int} {u : V} (h : RowL Z G u) : RowL Z (upd G r (.lst [.str s, .int i])) u := by
  obtain ⟨r', x, j, e, z, h⟩ := h
  by_cases c : r' = r
  · exact ⟨r', s, i, e, z, by rw [c, upd_same]⟩
  · exact ⟨r', x, j, e, z, by rw [upd_ne c]; exact h⟩
theorem lst_row {Z : Addr → Prop} {G : Hp} {p r : Addr} {us : List V} {s : Str} {i : Int} (h : G p = some (.lst us)) (f : ∀ u ∈ us, RowL Z G u) (hr : G r = some (.lst [.str s, .int i])) : p ≠ r := fun e => by
  rw [e, hr] at h
  have e2 : us = [.str s, .int i] := by injection h with h; injection h with h; exact h.symm
  obtain ⟨r', x, j, z, _⟩ := f (.str s) (by rw [e2]; exact List.mem_cons_self)
  cases z
theorem LstZ.put {Z : Addr → Prop} {G : Hp} {r : Addr} {s : Str} {i j : Int} {v : V} (hr : G r = some (.lst [.str s, .int j])) (h : LstZ Z G v) : LstZ Z (upd G r (.lst [.str s, .int i])) v := by
  obtain ⟨p, us, e, z, h, l, f⟩ := h
  exact ⟨p, us, e, z, by rw [upd_ne (lst_row h f hr)]; exact h, l, fun u m => (f u m).put⟩
theorem LstZ.more {Z : Addr → Prop} {G : Hp} {p : Addr} {us ns : List V} {v : V} (hp : G p = some (.lst us)) (f : ∀ u ∈ us, RowL Z G u) (n : v ≠ .ref p) (h : LstZ Z G v) : LstZ Z (upd G p (.lst ns)) v := by
  obtain ⟨q, ws, e, z, h, l, g⟩ := h
  refine ⟨q, ws, e, z, by rw [upd_ne fun w => n (by rw [e, w])]; exact h, l, fun u m => ?_⟩
  obtain ⟨r, x, i, e2, z2, h2⟩ := g u m
  exact ⟨r, x, i, e2, z2, by rw [upd_ne (lst_row hp f h2).symm]; exact h2⟩
/-- the debts' lists from the i-th on -/
def Sh (Z : Addr → Prop) (d : Addr) (kd : List (Key × V)) (i : Nat) (H : Hp) : Prop := H d = some (.dK kd) ∧ ∀ j kv, i ≤ j → kd[j]? = some kv → LstZ Z H kv.2
theorem Sh.keep {Z : Addr → Prop} {d : Addr} {kd : List (Key × V)} {i : Nat} {G H : Hp} (s : Same G H) (h : Sh Z d kd i G) : Sh Z d kd i H := ⟨s _ _ h.1, fun j kv l e => (h.2 j kv l e).keep s⟩
theorem Sh.put {Z : Addr → Prop} {d : Addr} {kd : List (Key × V)} {k : Nat} {G : Hp} {r : Addr} {s : Str} {i j : Int} (hr : G r = some (.lst [.str s, .int j])) (h : Sh Z d kd k G) : Sh Z d kd k (upd G r (.lst [.str s, .int i])) :=
  ⟨by rw [upd_ne (ne_of h.1 hr (by intro z; cases z))]; exact h.1, fun j kv l e => (h.2 j kv l e).put hr⟩
theorem Sh.dk {Z : Addr → Prop} {d c : Addr} {kd kc : List (Key × V)} {k : Nat} {G : Hp} {o : HO} (hc : G c = some (.dK kc)) (n : c ≠ d) (h : Sh Z d kd k G) : Sh Z d kd k (upd G c o) :=
  ⟨by rw [upd_ne n.symm]; exact h.1, fun j kv l e => by
    obtain ⟨p, us, e1, z, h1, l1, f⟩ := h.2 j kv l e
    refine ⟨p, us, e1, z, by rw [upd_ne (ne_of h1 hc (by intro z; cases z))]; exact h1, l1, fun u m => ?_⟩
    obtain ⟨r, x, i, e2, z2, h2⟩ := f u m
    exact ⟨r, x, i, e2, z2, by rw [upd_ne (ne_of h2 hc (by intro z; cases z))]; exact h2⟩⟩
theorem Sh.more {Z : Addr → Prop} {d p : Addr} {kd : List (Key × V)} {i : Nat} {k : Key} {us ns : List V} {G : Hp} (nv : (kd.map (·.2)).Nodup) (hk : kd[i]? = some (k, .ref p)) (hp : G p = some (.lst us)) (f : ∀ u ∈ us, RowL Z G u) (h : Sh Z d kd i G) : Sh Z d kd (i + 1) (upd G p (.lst ns)) :=
  ⟨by rw [upd_ne (ne_of h.1 hp (by intro z; cases z))]; exact h.1, fun j kv l e => (h.2 j kv (by omega) e).more hp f fun z => by
    have e1 : (kd.map (·.2))[i]? = some (.ref p) := by rw [List.getElem?_map, hk]; rfl
    have e2 : (kd.map (·.2))[j]? = some (.ref p) := by rw [List.getElem?_map, e]; exact congrArg some z
    have li : i < (kd.map (·.2)).length := (List.getElem?_eq_some_iff.mp e1).1
    have := (List.getElem?_inj li nv).mp (e1.trans e2.symm)
    omega⟩
/-- what stands beside the scratch -/
structure LaS (K : PySem.W.Frag) (T : List (Addr × Str)) (l a x x2 : Addr) (v w0 : V) (cs : Cn) (ds : Db) (ys : List Str) (ns : List Int) (n : Nat) (Z : Addr → Prop) (M N N2 G : Hp) : Prop where
  za : ¬ Z a
  dr : DnAt n G a
  tb : Tabs T M
  wor : WorldR M v cs ds
  old : WorldR M w0 cs ds
  sql : SqL K M l (ns.map V.int)
  deb : DebR K N x (wsOf cs ds ys)
  deb2 : DebR K N2 x2 (wsOf cs ds ys)
  mg : Same M (rm G a)
  ng : Same N (rm G a)
  n2g : Same N2 (rm G a)
  mz : ∀ b o, M b = some o → ¬ Z b
  nz : ∀ b o, N b = some o → ¬ Z b
  n2z : ∀ b o, N2 b = some o → ¬ Z b
  nm : ∀ b o, N b = some o → M b = none
  zs : ∀ b, Z b → ∃ o, G b = some o
theorem keep_rm {Z : Addr → Prop} {M G H : Hp} {a : Addr} (k : Keep Z G H) (s : Same M (rm G a)) (z : ∀ b o, M b = some o → ¬ Z b) : Same M (rm H a) := fun b o e => by
  have n := rm_dif (s _ _ e)
  have h := s _ _ e
  rw [rm_ne n] at h ⊢
  exact k.1 _ _ (z _ _ e) h
theorem LaS.keep {K : PySem.W.Frag} {T : List (Addr × Str)} {l a x x2 : Addr} {v w0 : V} {cs : Cn} {ds : Db} {ys : List Str} {ns : List Int} {n : Nat} {Z : Addr → Prop} {M N N2 G H : Hp} (X : LaS K T l a x x2 v w0 cs ds ys ns n Z M N N2 G) (k : Keep Z G H) : LaS K T l a x x2 v w0 cs ds ys ns n Z M N N2 H := by
  obtain ⟨za, dr, tb, wor, old, sql, deb, deb2, mg, ng, n2g, mz, nz, n2z, nm, zs⟩ := X
  refine ⟨za, ?_, tb, wor, old, sql, deb, deb2, keep_rm k mg mz, keep_rm k ng nz, keep_rm k n2g n2z, mz, nz, n2z, nm, fun b z => k.2 b z (zs b z)⟩
  obtain ⟨o, h, r⟩ := dr
  exact ⟨o, k.1 _ _ za h, r⟩
theorem LaS.lw {K : PySem.W.Frag} {T : List (Addr × Str)} {l a x x2 : Addr} {v w0 : V} {cs : Cn} {ds : Db} {ys : List Str} {ns : List Int} {n : Nat} {Z : Addr → Prop} {M N N2 G : Hp} (X : LaS K T l a x x2 v w0 cs ds ys ns n Z M N N2 G) : Lw K T l a x v w0 cs ds ys ns n G ∧ Ly K a x v cs ds ys G := by
  obtain ⟨za, dr, tb, wor, old, sql, deb, deb2, mg, ng, n2g, mz, nz, n2z, nm, zs⟩ := X
  exact ⟨⟨dr, Tabs.ext tb (mg.trans rm_same), deb.mono ng, wor.mono mg, old.mono mg, sql_mono mg sql⟩, N, M, deb, wor, .of ng, .of mg, nm⟩
section
variable {P : Program} {w : World} {K : PySem.W.Frag} {mg : Str → Option Value} {base : Heap}
theorem la_a {P1 P2 P3 : Addr} (C : LawC P w K mg base P1 P2 P3) {A : Around} {outer : List Env} {s : Shared} {H : Hp} {E : XK} (hr : Room 13 (XL P w K mg base A outer s H E).A) :
    ∃ t, PSs (XL P w K mg base A outer s H E) (lawBody.drop 6) t ∧ ∀ (D : Ends) (l a x x2 c d : Addr) (v w0 : V) (v1 v7 v8 v9 v10 v11 v14 : Option V) (cs : Cn) (ds : Db) (ys : List Str) (ns : List Int) (n : Nat) (kc kd : List (Key × V)) (Z : Addr → Prop) (M N N2 G : Hp), LaS K (Tb P1 P2 P3) l a x x2 v w0 cs ds ys ns n Z M N N2 G →
      G c = some (.dK kc) → Z c → Z d → c ≠ d → Sh Z d kd 0 G → (kd.map (·.1)).Nodup → (kd.map (·.2)).Nodup → kd.length ≤ 60 → n ≤ 70000 → Drawn cs ds → Nms cs ds ys →
      (∀ σ H', LawInv K l P1 P2 P3 ns σ H' → D.nx σ H') →
      t D [some (.ref l), v1, some (.ref a), some v, some w0, some (.ref c), some (.ref d), v7, v8, v9, v10, v11, some (.ref x), some (.ref x2), v14] G := by
  obtain ⟨tt, pt, ht⟩ := la_b C (outer := outer) (H := H) (E := E) hr
  obtain ⟨T, O, OM, N, MkD0, MM, MC, MD, ME, C_law_stream, C_law_world, C_law_mix, C_law_members, C_law_is_told, C_law_splits_right, C_law_given_right, C_law_refused⟩ := C
  refine ⟨_, (pss_cons (ps_expr (pe_dclear (pv 5)))
      (pss_cons (ps_for PassesOwn.never rfl (pi_list (pe_callTy (T := "list") (call_list_dK rfl) (by rfl) T.list (by decide +kernel) (pa_cons (pv 6) pa_nil))) (pg_name (i := 7) sc_law.nd rfl (by first | exact Or.inl rfl | exact Or.inr rfl))
      (pss_cons (ps_for PassesOwn.never rfl (pi_list (pe_dget (hu_of hr) (pv 6) (pv 7) (fun _ _ => rfl))) (pg_name (i := 14) sc_law.nd rfl (by first | exact Or.inl rfl | exact Or.inr rfl))
      (pss_one (ps_asg pe_int (pg_sub (pv 14) pe_int set_list))))
      (pss_one (ps_expr (pe_bm PySem.F.plainAttrs_list PySem.F.slot_list_append PySem.F.type_list_append mt_append (pe_dget (hu_of hr) (pv 6) (pv 7) (fun _ _ => rfl)) (pa_cons (pe_tup (pa_cons pe_str (pa_cons pe_int pa_nil))) pa_nil))))))
      (pss_cons (ps_expr (pe_dclear (pv 6)))
      (pss_cons (ps_if (PW.pt (pw_or (pt_not (pt_val (pe_cal C_law_is_told hr (by first | decide | omega) (by rfl) (pa_cons (pv 12) (pa_cons (pv 3) pa_nil))))) (pw_or (pt_cmpR (ne_ (X := XL P w K mg base A outer s H E) ME hr (by decide) OM.eq OM.fn OM.ne N.cm) (pv 12) (pv 13) (nomark _)) (pw_or (pt_not (pt_cmpR (eq_ (K := K) ME rfl hr (by decide) OM.eq OM.fn) (pv 12) (pv 13) (nomark _))) (pw_or1 (pt_cmpR (eq3_ (K := K) ME rfl hr (by decide) OM.eq OM.fn) (pv 12) (pv 3) (nomark _))))))) (pss_one (ps_ret pe_bl)) pss_nil)
      pt)))), ?_⟩
  intro D l a x x2 c d v w0 v1 v7 v8 v9 v10 v11 v14 cs ds ys ns n kc kd Z M NN N2 G X hc zc zd ncd sh nk nv lk nb g nm q
  have ly := nm.len g.good
  refine cut_if (fun σ H' => σ = [some (.ref l), v1, some (.ref a), some v, some w0, some (.ref c), some (.ref d), v7, v8, v9, v10, v11, some (.ref x), some (.ref x2), v14] ∧ Keep Z G H' ∧ Sh Z d kd 0 H') ?_ fun rest => ?_
  rotate_left
  · exact ⟨_, rfl, .inr (.inr (.inl ⟨rfl, .inl ⟨kc, hc⟩⟩)), c, kc, rfl, rfl, hc, rest _ _ ⟨rfl, .put zc, sh.dk hc ncd⟩⟩
  rintro σ G1 ⟨rfl, k1, sh1⟩
  try dsimp only
  have X1 := X.keep k1
  refine cut_if (fun σ H' => (∃ v7 v14, σ = [some (.ref l), v1, some (.ref a), some v, some w0, some (.ref c), some (.ref d), v7, v8, v9, v10, v11, some (.ref x), some (.ref x2), v14]) ∧ Keep Z G1 H' ∧ H' d = some (.dK kd)) ?_ fun rest => ?_
  rotate_left
  · refine ⟨_, rfl, d, kd, rfl, sh1.1, fun p hp => ?_⟩
    have zp : ¬ Z p := fun z => by
      obtain ⟨o, e⟩ := X1.zs p z
      rw [e] at hp
      cases hp
    have hp1 : (upd G1 p (.lst (kd.map fun kv => kV kv.1))) p = some (.lst (kd.map fun kv => kV kv.1)) := upd_same
    refine ⟨p, rfl, ⟨_, SqL.of hp1⟩, for_it walk_list (fun i σ H' => (∃ v7 v14, σ = [some (.ref l), v1, some (.ref a), some v, some w0, some (.ref c), some (.ref d), v7, v8, v9, v10, v11, some (.ref x), some (.ref x2), v14]) ∧ Keep Z G1 H' ∧ Sh Z d kd i H' ∧ H' p = some (.lst (kd.map fun kv => kV kv.1))) ⟨⟨_, _, rfl⟩, .of (Same.up hp), sh1.keep (Same.up hp), hp1⟩ (fun i σ H' _ p => SqL.of p.2.2.2) ?_ ?_⟩
    · rintro i u σ H2 H2' hi ⟨⟨v7', v14', rfl⟩, k2, sh2, hp2⟩ ⟨rfl, hu⟩
      rw [List.getElem?_map] at hu
      obtain ⟨kv, hk, rfl⟩ := Option.map_eq_some_iff.mp hu
      obtain ⟨p1, us, e1, zp1, h1, l1, f1⟩ := sh2.2 i kv (Nat.le_refl _) hk
      have hk' : kd[i]? = some (kv.1, .ref p1) := by rw [hk, ← e1]
      dsimp only [gName]
      refine cut_if (fun σ H' => (∃ v14, σ = [some (.ref l), v1, some (.ref a), some v, some w0, some (.ref c), some (.ref d), some (kV kv.1), v8, v9, v10, v11, some (.ref x), some (.ref x2), v14]) ∧ Keep Z G1 H' ∧ Sh Z d kd i H' ∧ H' p = some (.lst (kd.map fun kv => kV kv.1)) ∧ H' p1 = some (.lst us) ∧ ∀ u ∈ us, RowL Z H' u) ?_ fun rest2 => ?_
      rotate_left
      · refine ⟨_, rfl, _, rfl, d, .ref p1, rfl, .inl ⟨kd, kv.1, .inl sh2.1, rfl, (val_nodup nk _ (List.mem_of_getElem? hk')).symm⟩, p1, rfl, ⟨_, SqL.of h1⟩, for_it walk_list (fun j σ H' => (∃ v14, σ = [some (.ref l), v1, some (.ref a), some v, some w0, some (.ref c), some (.ref d), some (kV kv.1), v8, v9, v10, v11, some (.ref x), some (.ref x2), v14]) ∧ Keep Z G1 H' ∧ Sh Z d kd i H' ∧ H' p = some (.lst (kd.map fun kv => kV kv.1)) ∧ H' p1 = some (.lst us) ∧ ∀ u ∈ us, RowL Z H' u) ⟨⟨_, rfl⟩, k2, sh2, hp2, h1, f1⟩ (fun j σ H' _ p => SqL.of p.2.2.2.2.1) ?_ ?_⟩
        · rintro j y σ H3 H3' hj ⟨⟨v14'', rfl⟩, k3, sh3, hp3, h3, f3⟩ ⟨rfl, hy⟩
          obtain ⟨r, s0, i0, rfl, zr, hr0⟩ := f3 y (List.mem_of_getElem? hy)
          refine ⟨_, rfl, r, _, 1, 1, rfl, rfl, hr0, rfl, ⟨_, rfl⟩, k3.trans (.put zr), sh3.put hr0, ?_, ?_, fun u m => (f3 u m).put⟩
          · rw [upd_ne fun z => zp (by rw [z]; exact zr)]
            exact hp3
          · rw [upd_ne (lst_row h3 f3 hr0)]
            exact h3
        · rintro σ H3 ⟨⟨v14'', rfl⟩, k3, sh3, hp3, h3, f3⟩
          exact rest2 _ _ ⟨⟨_, rfl⟩, k3, sh3, hp3, h3, f3⟩
      rintro σ H3 ⟨⟨v14'', rfl⟩, k3, sh3, hp3, h3, f3⟩
      try dsimp only
      refine ⟨_, rfl, _, rfl, d, .ref p1, rfl, .inl ⟨kd, kv.1, .inl sh3.1, rfl, (val_nodup nk _ (List.mem_of_getElem? hk')).symm⟩, .inl ⟨rfl, _, SqL.of h3⟩, two_line, fun t2 ht2 => ?_⟩
      delta tNil
      dsimp only
      have s4 := Same.up (H := H3) (o := .tup [.str "zoe", .int 1]) ht2
      refine ⟨p1, us, .ref t2, rfl, rfl, s4 _ _ h3, Nat.lt_of_le_of_lt l1 (by decide), ⟨_, _, rfl⟩, k3.trans ((Keep.of s4).trans (.put zp1)), (sh3.keep s4).more nv hk' (s4 _ _ h3) (fun u m => (f3 u m).keep s4), ?_⟩
      rw [upd_ne fun z => zp (by rw [z]; exact zp1)]
      exact s4 _ _ hp3
    · rintro σ H2 ⟨⟨v7', v14', rfl⟩, k2, sh2, hp2⟩
      exact rest _ _ ⟨⟨_, _, rfl⟩, k2, sh2.1⟩
  rintro σ G2 ⟨⟨v7', v14', rfl⟩, k2, hd2⟩
  try dsimp only
  have X2 := X1.keep k2
  refine cut_if (fun σ H' => σ = [some (.ref l), v1, some (.ref a), some v, some w0, some (.ref c), some (.ref d), v7', v8, v9, v10, v11, some (.ref x), some (.ref x2), v14'] ∧ Keep Z G2 H') ?_ fun rest => ?_
  rotate_left
  · exact ⟨_, rfl, .inr (.inr (.inl ⟨rfl, .inl ⟨kd, hd2⟩⟩)), d, kd, rfl, rfl, hd2, rest _ _ ⟨rfl, .put zd⟩⟩
  rintro σ G3 ⟨rfl, k3⟩
  try dsimp only
  have X3 := X2.keep k3
  have W3 := X3.lw.1.wor.mono rm_same
  have d1 := (X3.deb.mono X3.ng).mono rm_same
  refine ⟨_, rfl, _, rfl, x, v, cs, ds, ys, rfl, d1, W3, nm, g.good, fun H1 s5 => ⟨_, rfl, iteF ?_⟩⟩
  have X4 := X3.keep (.of s5)
  have W4 := X4.lw.1.wor.mono rm_same
  have da := (X4.deb.mono X4.ng).mono rm_same
  have db := (X4.deb2.mono X4.n2g).mono rm_same
  obtain ⟨dx, fc, fd, kc1, kd1, i1, _⟩ := id da
  obtain ⟨tw, _, _, _, _, ev, htw, _⟩ := id W4
  have so : PyProof.Rows.sortedS ((wsOf cs ds ys).map (·.1)) = true := by rw [ws_names]; exact nm.2.1
  refine ⟨_, rfl, _, rfl, x, dx, _, rfl, i1, db.rt1, x, .ref x2, _, rfl, da, so, .inr ⟨x2, _, rfl, db, so, ?_⟩⟩
  rw [decide_eq_true rfl]
  refine ⟨_, rfl, _, rfl, iteF ?_⟩
  refine ⟨_, rfl, _, rfl, x, dx, _, rfl, i1, .inl db.rt1, x, .ref x2, _, rfl, da, so, .inr ⟨x2, _, rfl, db, so, ?_⟩⟩
  rw [decide_eq_true rfl]
  refine ⟨_, rfl, iteF ?_⟩
  refine ⟨_, rfl, _, rfl, x, dx, _, rfl, i1, .inr ⟨tw, _, ev, htw⟩, x, v, _, rfl, da, so, .inl ⟨tw, _, ev, htw, ⟨_, rfl, iteF ?_⟩⟩⟩
  exact ht _ _ _ _ _ _ _ _ _ _ _ _ _ _ _ _ _ _ _ _ _ _ X4.lw.1 X4.lw.2 (by omega) g nm q
end
end K38

set_option Elab.async false
set_option linter.all false
set_option maxRecDepth 100000
set_option maxHeartbeats 4000000
namespace K38
open PySem PySem.Spec PyProof.Rows L2 Sr LamX
/-! ### another order of the same -/
theorem perm_pairs {α β : Type} {F : α → β → Prop} {as as' : List α} (p : as'.Perm as) : ∀ {bs : List β}, Paired F as bs → ∃ bs', Paired F as' bs' ∧ bs'.Perm bs := by
  induction p with
  | nil => intro bs h; exact ⟨bs, h, List.Perm.refl _⟩
  | cons x _ ih =>
    intro bs h
    cases h with
    | @cons _ b _ bs h t =>
      obtain ⟨bs', h1, h2⟩ := ih t
      exact ⟨b :: bs', .cons h h1, h2.cons b⟩
  | swap x y l =>
    intro bs h
    cases h with
    | @cons _ b _ bs h t =>
      cases t with
      | @cons _ c _ bs h2 t => exact ⟨c :: b :: bs, .cons h2 (.cons h t), List.Perm.swap b c bs⟩
  | trans _ _ ih1 ih2 =>
    intro bs h
    obtain ⟨b1, h1, p1⟩ := ih2 h
    obtain ⟨b2, h2, p2⟩ := ih1 h1
    exact ⟨b2, h2, p2.trans p1⟩
theorem pair_map {α β : Type} {f : β → α} : ∀ bs : List β, Paired (fun a b => a = f b) (bs.map f) bs
  | [] => .nil
  | b :: r => .cons rfl (pair_map r)
theorem map_pair {α β : Type} {f : β → α} : ∀ {as : List α} {bs : List β}, Paired (fun a b => a = f b) as bs → as = bs.map f
  | _, _, .nil => rfl
  | _, _, .cons h t => by rw [h, map_pair t]; rfl
theorem perm_map {α β : Type} {f : β → α} {as : List α} {bs : List β} (p : as.Perm (bs.map f)) : ∃ bs' : List β, as = bs'.map f ∧ bs'.Perm bs := by
  obtain ⟨bs', h1, h2⟩ := perm_pairs p (pair_map bs)
  exact ⟨bs', map_pair h1, h2⟩
theorem mem_look {α : Type} {s : Str} {a : α} : ∀ {l : List (Str × α)}, (l.map (·.1)).Nodup → (s, a) ∈ l → l.lookup s = some a
  | p :: r, nd, m => by
    rw [List.map_cons] at nd
    obtain ⟨n1, n2⟩ := List.nodup_cons.mp nd
    rw [List.lookup_cons]
    rcases List.mem_cons.mp m with e | m
    · rw [← e, beq_self_eq_true]
    · have : s ≠ p.1 := fun e => n1 (by rw [← e]; exact List.mem_map.mpr ⟨_, m, rfl⟩)
      rw [beq_false_of_ne this]
      exact mem_look n2 m
theorem look_perm {α : Type} {l l' : List (Str × α)} (nd : (l.map (·.1)).Nodup) (p : l'.Perm l) (s : Str) : l'.lookup s = l.lookup s := by
  have nd' : (l'.map (·.1)).Nodup := (p.map (·.1)).nodup_iff.mpr nd
  cases e : l.lookup s with
  | some a => exact mem_look nd' (p.mem_iff.mpr (look_mem e))
  | none =>
    cases e' : l'.lookup s with
    | none => rfl
    | some a =>
      have := mem_look nd (p.mem_iff.mp (look_mem e'))
      rw [e] at this
      cases this
theorem gD_of {ds : Db} (nd : (ds.map (·.1)).Nodup) {p : Str × Rw} (m : p ∈ ds) : gD ds p.1 = p.2 := by
  unfold gD
  rw [mem_look nd (show (p.1, p.2) ∈ ds from m)]
  rfl
theorem ds_again {ds : Db} (nd : (ds.map (·.1)).Nodup) : (ds.map (·.1)).map (fun s => (s, gD ds s)) = ds := by
  rw [List.map_map]
  have : ∀ p ∈ ds, ((fun s => (s, gD ds s)) ∘ fun (p : Str × Rw) => p.1) p = p := fun p m => by
    show (p.1, gD ds p.1) = p
    rw [gD_of nd m]
  rw [List.map_congr_left this]
  exact List.map_id _
theorem allN_perm {cs cs' : Cn} {ds ds' : Db} (pc : cs'.Perm cs) (pd : ds'.Perm ds) : (allN cs' ds').Perm (allN cs ds) :=
  ((pc.map _).append (pd.map _)).append (List.Perm.flatMap_right _ pd)
theorem Good.perm {cs cs' : Cn} {ds ds' : Db} (g : Good cs ds) (pc : cs'.Perm cs) (pd : ds'.Perm ds) : Good cs' ds' :=
  ⟨(pc.map _).nodup_iff.mpr g.cn, (pd.map _).nodup_iff.mpr g.dn, by rw [(allN_perm pc pd).length_eq]; exact g.al, fun p m => g.co p (pc.mem_iff.mp m), fun p m => g.de p (pd.mem_iff.mp m)⟩
theorem ws_perm {cs cs' : Cn} {ds ds' : Db} (g : Good cs ds) (pc : cs'.Perm cs) (pd : ds'.Perm ds) (ys : List Str) : wsOf cs' ds' ys = wsOf cs ds ys := by
  unfold wsOf gC gD
  refine List.map_congr_left fun s _ => ?_
  rw [look_perm g.cn pc, look_perm g.dn pd]
/-- tuples and their lists -/
def LstN (H0 : Hp) (D : Addr) (H : Hp) (l : Addr) (rs : Rw) : Prop := H0 l = none ∧ l ≠ D ∧ ∃ us, H l = some (.lst us) ∧ Paired (fun u (r : Str × Int) => ∃ p, u = V.ref p ∧ H0 p = none ∧ p ≠ D ∧ H p = some (.lst [.str r.1, .int r.2])) us rs
theorem LstN.mono {H0 H H' : Hp} {D l : Addr} {rs : Rw} (s : Same H H') (h : LstN H0 D H l rs) : LstN H0 D H' l rs := by
  obtain ⟨h1, h2, us, h3, h4⟩ := h
  exact ⟨h1, h2, us, s _ _ h3, L2.Paired.mapP h4 fun _ _ ⟨p, e, a, b, c⟩ => ⟨p, e, a, b, s _ _ c⟩⟩
theorem LstN.put {H0 H : Hp} {D l : Addr} {rs : Rw} {o : HO} (h : LstN H0 D H l rs) : LstN H0 D (upd H D o) l rs := by
  obtain ⟨h1, h2, us, h3, h4⟩ := h
  exact ⟨h1, h2, us, by rw [upd_ne h2]; exact h3, L2.Paired.mapP h4 fun _ _ ⟨p, e, a, b, c⟩ => ⟨p, e, a, b, by rw [upd_ne b]; exact c⟩⟩
theorem acc_kvs {H0 H : Hp} {D : Addr} {F : Str → Rw} : ∀ {acc : List (Addr × Addr)} {ss : List Str}, Paired (fun q s => H q.1 = some (.tup [.str s, .ref q.2]) ∧ LstN H0 D H q.2 (F s)) acc ss →
    ∃ kvs : List (Key × V), Paired (fun (t : Addr) (kv : Key × V) => H t = some (.tup [kV kv.1, kv.2])) (acc.map (·.1)) kvs ∧ kvs.map (·.2) = acc.map (fun q => V.ref q.2) ∧ Paired (fun (kv : Key × V) s => kv.1 = Sum.inr s ∧ ∃ l, kv.2 = .ref l ∧ LstN H0 D H l (F s)) kvs ss
  | _, _, .nil => ⟨[], .nil, rfl, .nil⟩
  | _, _, .cons (a := q) (b := s) h t => by
    obtain ⟨kvs, h1, h2, h3⟩ := acc_kvs t
    exact ⟨(Sum.inr s, .ref q.2) :: kvs, .cons h.1 h1, by rw [List.map_cons, h2]; rfl, .cons ⟨rfl, q.2, rfl, h.2⟩ h3⟩
theorem refs_of {α : Type} {F : Addr → α → Prop} : ∀ {vs : List V} {as : List α}, Paired (fun v a => ∃ t, v = V.ref t ∧ F t a) vs as → ∃ ts, vs = ts.map V.ref ∧ Paired F ts as
  | _, _, .nil => ⟨[], rfl, .nil⟩
  | _, _, .cons ⟨t, e, h⟩ r => by
    obtain ⟨ts, e2, h2⟩ := refs_of r
    exact ⟨t :: ts, by rw [e, e2]; rfl, .cons h h2⟩
theorem to_refs {α : Type} {F : Addr → α → Prop} : ∀ {ts : List Addr} {as : List α}, Paired F ts as → Paired (fun v a => ∃ t, v = V.ref t ∧ F t a) (ts.map V.ref) as
  | _, _, .nil => .nil
  | _, _, .cons h r => .cons ⟨_, rfl, h⟩ (to_refs r)
theorem merge_nd {kvs : List (Key × V)} (h : (kvs.map (·.1)).Nodup) : mergeK [] kvs = kvs := by
  rw [merge_nodup]
  · rfl
  · rw [List.nil_append]
    exact h
end K38

set_option Elab.async false
set_option linter.all false
set_option maxRecDepth 100000
set_option maxHeartbeats 4000000
namespace K38
open PySem PySem.Spec PyProof.Rows L2 Sr LamX
theorem DebA.get {H : Hp} {kd : List (Key × V)} {ds : Db} (h : DebA H kd ds) (nd : (ds.map (·.1)).Nodup) {s : Str} (m : s ∈ ds.map (·.1)) : ∃ v, valV kd (Sum.inr s) = some v ∧ RowsAt H v (gD ds s) := by
  obtain ⟨p, mp, rfl⟩ := List.mem_map.mp m
  have dd : DebD H kd (dW ds) := pmap (f := fun p : Str × Rw => ((p.1, 0, p.2) : Mb)) (fun _ _ h => h) h
  obtain ⟨v, e1, e2⟩ := deb_val dd (by rw [dcb_names]; exact nd) (List.mem_map.mpr ⟨p, mp, rfl⟩)
  exact ⟨v, e1, by rw [gD_of nd mp]; exact e2⟩
theorem map_keys {H0 H : Hp} {D : Addr} {F : Str → Rw} : ∀ {kvs : List (Key × V)} {ss : List Str}, Paired (fun (kv : Key × V) s => kv.1 = Sum.inr s ∧ ∃ l, kv.2 = .ref l ∧ LstN H0 D H l (F s)) kvs ss → kvs.map (·.1) = ss.map Sum.inr
  | _, _, .nil => rfl
  | _, _, .cons h t => by rw [List.map_cons, List.map_cons, map_keys t, h.1]
section
variable {P : Program} {w : World} {K : PySem.W.Frag} {mg : Str → Option Value} {base : Heap}
theorem la_00 {P1 P2 P3 : Addr} (C : LawC P w K mg base P1 P2 P3) {A : Around} {outer : List Env} {s : Shared} {H : Hp} {E : XK} (hr : Room 13 (XL P w K mg base A outer s H E).A) :
    ∃ t, PSs (XL P w K mg base A outer s H E) (lawBody.drop 3) t ∧ ∀ (D : Ends) (l a : Addr) (v w0 : V) (v1 v5 v6 v7 v8 v9 v10 v11 v12 v13 v14 : Option V) (cs : Cn) (ds : Db) (ns : List Int) (n : Nat) (G : Hp), DnAt n G a → n ≤ 1000 → Tabs (Tb P1 P2 P3) G → SqL K (rm G a) l (ns.map V.int) → WorldR (rm G a) v cs ds → WorldR (rm G a) w0 cs ds → Drawn cs ds →
      (∀ σ H', LawInv K l P1 P2 P3 ns σ H' → D.nx σ H') →
      t D [some (.ref l), v1, some (.ref a), some v, some w0, v5, v6, v7, v8, v9, v10, v11, v12, v13, v14] G := by
  obtain ⟨tt, pt, ht⟩ := la_a C (outer := outer) (H := H) (E := E) hr
  obtain ⟨T, O, OM, N, MkD0, MM, MC, MD, ME, C_law_stream, C_law_world, C_law_mix, C_law_members, C_law_is_told, C_law_splits_right, C_law_given_right, C_law_refused⟩ := C
  refine ⟨_, (pss_cons (ps_set (i := 5) sc_law.nd rfl (by first | exact Or.inl rfl | exact Or.inr rfl) (pe_callTy (T := "dict") (call_dictP rfl) (by rfl) T.dict (by decide +kernel) (pa_cons (pe_cal C_law_mix hr (by first | decide | omega) (by rfl) (pa_cons (pv 2) (pa_cons (LiI.pe_listItems rfl (pe_ix ix_tup (pv 3) pe_int (fun _ _ => rfl)) (by rfl) T.list (by decide +kernel)) pa_nil))) pa_nil)))
      (pss_cons (ps_set (i := 6) sc_law.nd rfl (by first | exact Or.inl rfl | exact Or.inr rfl) (pe_callTy (T := "dict") (call_dictP rfl) (by rfl) T.dict (by decide +kernel) (pa_cons (pe_lc (own := [("name", 7)]) (g := gName 7) (tt := tYes) rfl sc_law.nd (pi_list (pe_cal C_law_mix hr (by first | decide | omega) (by rfl) (pa_cons (pv 2) (pa_cons (pe_callTy (T := "list") (call_list_dK rfl) (by rfl) T.list (by decide +kernel) (pa_cons (pe_ix ix_tup (pv 3) pe_int (fun _ _ => rfl)) pa_nil)) pa_nil)))) (blkOk_by (N := ["script", "turn", "stream", "world", "as_drawn", "coins", "debts", "name", "names", "full", "other", "same", "made", "twin", "row"]) (sc := defScope s_law) (by decide +kernel)) (fun _ _ _ _ _ => (pg_name (i := 7) sc_law.nd rfl (by first | exact Or.inl rfl | exact Or.inr rfl))) (fun _ _ _ _ _ => pts_nil) (fun _ _ _ _ _ => (pe_tup (pa_cons (pv 7) (pa_cons (pe_lc (own := [("row", 14)]) (g := gName 14) (tt := tYes) rfl sc_law.nd (pi_listK K rfl (pe_dget (hu_of hr) (pe_ix (ix_tupK K rfl) (pv 3) pe_int (fun _ _ => rfl)) (pv 7) (fun _ _ => rfl))) (blkOk_in (N := ["script", "turn", "stream", "world", "as_drawn", "coins", "debts", "name", "names", "full", "other", "same", "made", "twin", "row"]) (sc := defScope s_law) (by decide +kernel)) (fun _ _ _ _ _ => (pg_name (i := 14) sc_law.nd rfl (by first | exact Or.inl rfl | exact Or.inr rfl))) (fun _ _ _ _ _ => pts_nil) (fun _ _ _ _ _ => (pe_callTy (T := "list") (call_list_ofK K rfl) (by rfl) T.list (by decide +kernel) (pa_cons (pv 14) pa_nil)))) pa_nil))))) pa_nil)))
      (pss_cons (ps_par (i := 12) (j := 13) (by rfl) sc_law.nd rfl rfl (by decide) rfl rfl (pa_cons (MkD.pe (K := K) (w := w) MkD0 rfl rfl hr (by decide) (by rfl) passes_never (pa_cons (pv 5) (pa_cons (pv 6) pa_nil))) (pa_cons (MkD.pe (K := K) (w := w) MkD0 rfl rfl hr (by decide) (by rfl) passes_never (pa_cons (pe_ix ix_tup (pv 3) pe_int (fun _ _ => rfl)) (pa_cons (pe_ix ix_tup (pv 3) pe_int (fun _ _ => rfl)) pa_nil))) pa_nil)) (by rfl))
      pt))), ?_⟩
  intro D l a v w0 v1 v5 v6 v7 v8 v9 v10 v11 v12 v13 v14 cs ds ns n G dr nb tab sql wor old g q
  obtain ⟨l1, l2, l3⟩ := g.lens
  obtain ⟨t, wc, wd, wkc, wkd, rfl, b1, b2, b3, b4, b5⟩ := id wor
  refine cut_if (fun σ H' => ∃ (c : Addr) (kc : List (Key × V)) (cs' : Cn), σ = [some (.ref l), v1, some (.ref a), some (.ref t), some w0, some (.ref c), v6, v7, v8, v9, v10, v11, v12, v13, v14] ∧ DnAt (n + 3) H' a ∧ Same (rm G a) (rm H' a) ∧ (rm G a) c = none ∧ c ≠ a ∧ H' c = some (.dK kc) ∧ CoinsC kc cs' ∧ cs'.Perm cs) ?_ fun rest => ?_
  rotate_left
  · have c1 := rm_same _ _ b1
    have c2 := rm_same _ _ b2
    refine ⟨_, rfl, _, rfl, t, _, 0, _, rfl, rfl, SqT.of c1, rfl, wc, wkc, rfl, c2, fun H1 p1 ts1 s1 p10 t10 pn1 hp1 pr1 => ?_⟩
    have s1 : Same G H1 := s1
    have d1 := dr.up s1
    have np := dr.new p10
    have lts : ts1.length = cs.length := (Paired.length pr1).trans (Paired.length b3)
    delta tNil
    dsimp only
    refine ⟨a, p1, ts1.map V.ref, n, rfl, d1, by omega, by rw [rm_ne np]; exact hp1, by rw [List.length_map]; omega, fun p H2 ys d2 s2 p0 hp2 pm => ?_⟩
    have pr2 : Paired (fun v (kv : Key × V) => ∃ t, v = V.ref t ∧ H2 t = some (.tup [kV kv.1, kv.2])) (ts1.map V.ref) wkc := to_refs (L2.Paired.mapP pr1 fun t kv h => by
      obtain ⟨o, ho, x1, y1, z1, rfl, _⟩ := d1
      have nt : t ≠ a := ne_of h ho (by intro z; cases z)
      exact rm_same _ _ (s2 _ _ (by rw [rm_ne nt]; exact h)))
    obtain ⟨wk', q1, q2⟩ := perm_pairs pm pr2
    obtain ⟨ts', rfl, q3⟩ := refs_of q1
    obtain ⟨cs', q4, q5⟩ := perm_pairs q2 b3
    have nk : (wk'.map (·.1)).Nodup := keys_nd (F := fun v i => v = V.int i) q4 ((q5.map _).nodup_iff.mpr g.cn)
    refine ⟨p, ts', wk', rfl, SqL.of (rm_same _ _ hp2), L2.Paired.mapP q3 fun _ _ h => SqT.of h, fun f hf => ?_⟩
    rw [merge_nd nk]
    have nf := d2.new hf
    have s12 : Same (rm G a) (rm H2 a) := (Same.rm s1).trans s2
    have mf : (rm G a) f = none := rm_out s12 d2 hf
    exact rest _ _ ⟨f, wk', cs', rfl, (d2.set nf).le (by rw [List.length_map]; omega), s12.trans (Same.rm (Same.up hf)), mf, nf, upd_same, q4, q5⟩
  rintro σ G1 ⟨c, kc, cs', rfl, d1, s1, mc, nca, hc, cc, pc⟩
  try dsimp only
  refine cut_if (fun σ H' => ∃ (d : Addr) (kd : List (Key × V)) (ss : List Str), σ = [some (.ref l), v1, some (.ref a), some (.ref t), some w0, some (.ref c), some (.ref d), v7, v8, v9, v10, v11, v12, v13, v14] ∧ DnAt (n + 6) H' a ∧ Same (rm G1 a) (rm H' a) ∧ (rm G1 a) d = none ∧ d ≠ a ∧ H' d = some (.dK kd) ∧ (kd.map (·.2)).Nodup ∧ Paired (fun (kv : Key × V) s => kv.1 = Sum.inr s ∧ ∃ l, kv.2 = .ref l ∧ LstN (rm G a) a H' l (gD ds s)) kd ss ∧ ss.Perm (ds.map (·.1))) ?_ fun rest => ?_
  rotate_left
  · have c1 := rm_same _ _ (s1 _ _ b1)
    have c4 := rm_same _ _ (s1 _ _ b4)
    have ek := (keys_names (F := fun v rs => RowsAt (rm G a) v rs) b5).1
    refine ⟨_, rfl, _, rfl, t, _, 1, _, rfl, rfl, SqT.of c1, rfl, ?_⟩
    delta tNil
    dsimp only
    refine ⟨wd, wkd, rfl, c4, fun p1 hp1 => ?_⟩
    have sA := Same.up (o := .lst (wkd.map fun kv => kV kv.1)) hp1
    have np1 := d1.new hp1
    refine ⟨a, p1, _, n + 3, rfl, d1.up sA, by omega, by rw [rm_ne np1, upd_same], by rw [List.length_map, Paired.length b5]; omega, fun p H2 ys d2 s2 p0 hp2 pm => ?_⟩
    rw [ek] at pm
    obtain ⟨ss, rfl, ps⟩ := perm_map pm
    have lss : ss.length = ds.length := by rw [ps.length_eq, List.length_map]
    have s12 : Same (rm G1 a) (rm H2 a) := (Same.rm sA).trans s2
    have sM : Same (rm G a) (rm H2 a) := s1.trans s12
    have hp2 := rm_same _ _ hp2
    refine ⟨p, rfl, ⟨_, SqL.of hp2⟩, fun D0 hD => ?_⟩
    have belowM : ∀ {H : Hp} {b : Addr}, Same H2 H → H b = none → (rm G a) b = none ∧ b ≠ a := fun {H b} s hb => by
      have h2 := free_below s hb
      exact ⟨rm_out sM d2 h2, d2.new h2⟩
    refine lc_it walk_list (fun i H => Same H2 H ∧ ∃ acc : List (Addr × Addr), H D0 = some (.lst (acc.map fun q => V.ref q.1)) ∧ Paired (fun q s => H q.1 = some (.tup [.str s, .ref q.2]) ∧ LstN H2 D0 H q.2 (gD ds s)) acc (ss.take i) ∧ (acc.map (·.2)).Nodup) ⟨Same.up hD, [], upd_same, .nil, List.nodup_nil⟩ (fun i H _ p => SqL.of (p.1 _ _ hp2)) (fun i x H3 H3' hi pv y => ?_) fun H3 pv => ?_
    · obtain ⟨rfl, hu⟩ := y
      obtain ⟨s3, acc, hD3, pr3, nd3⟩ := pv
      rw [List.length_map] at hi
      rw [List.getElem?_map] at hu
      obtain ⟨sn, hs, rfl⟩ := Option.map_eq_some_iff.mp hu
      have ms : sn ∈ ds.map (·.1) := ps.mem_iff.mp (List.mem_of_getElem? hs)
      have sG : Same (rm G a) H3' := (sM.trans rm_same).trans s3
      obtain ⟨v3, ev, l3, us, rfl, hl3, rw3⟩ := b5.get g.dn ms
      have lus : us.length = (gD ds sn).length := Paired.length rw3
      have lrow : (gD ds sn).length ≤ 60 := gD_len g.good.lens.2.2.2 sn
      refine ⟨rfl, ?_⟩
      simp only [tYes, if_true]
      refine ⟨_, rfl, _, rfl, t, _, 1, _, rfl, rfl, SqT.of (sG _ _ b1), rfl, _, rfl, wd, .ref l3, rfl, .inl ⟨wkd, Sum.inr sn, .inl (sG _ _ b4), rfl, ev.symm⟩, l3, rfl, ⟨_, SqL.of (sG _ _ hl3)⟩, fun B hB => lc_genD walk_list at_any (gD ds sn) (fun _ => true) lus.symm (sz (m := 60) (by omega)) hB (fun H' s' => SqL.of (s' _ _ (sG _ _ hl3)))
        (fun H r v => ∃ p, v = V.ref p ∧ H2 p = none ∧ p ≠ D0 ∧ p ≠ B ∧ H p = some (.lst [.str r.1, .int r.2])) (fun _ _ _ _ e ⟨p, a, b, c, d, h⟩ => ⟨p, a, b, c, d, e _ _ h⟩) (fun _ _ _ _ _ e ⟨p, a, b, c, d, h⟩ => ⟨p, a, b, c, d, by rw [upd_ne d]; exact h⟩)
        (fun j u r H4 A B' lt hu hr nB s4 kA kB => ?_) (fun H4 acc4 s4 h4 p4 => ?_)⟩
      · obtain ⟨tr, rfl, htr⟩ := Paired.at2 rw3 hu hr
        refine ⟨rfl, ?_⟩
        simp only [tYes, if_true]
        refine ⟨_, rfl, tr, _, rfl, .inr (SqT.of (s4 _ _ (sG _ _ htr))), fun p hp => kA rfl _ _ (Same.up hp) ⟨p, rfl, free_below (s3.trans s4) hp, ?_, ?_, upd_same⟩⟩
        · intro z
          rw [z, s4 _ _ hD3] at hp
          cases hp
        · intro z
          rw [z] at hp
          exact nB hp
      · rw [List.filter_eq_self.mpr fun _ _ => rfl] at p4
        refine ⟨two_line, fun t2 ht2 => ?_⟩
        have s5 := Same.up (o := .tup [.str sn, .ref B]) ht2
        have s35 := s4.trans s5
        have hD5 := s35 _ _ hD3
        have lacc : acc.length = i := by
          rw [Paired.length pr3, List.length_take]
          omega
        have nBD : B ≠ D0 := fun z => by rw [z, hD3] at hB; cases hB
        have nt2 : t2 ≠ D0 := fun z => by rw [z, s4 _ _ hD3] at ht2; cases ht2
        refine ⟨_, hD5, by rw [List.length_map]; exact sz (m := 60) (by omega), ?_⟩
        have nD2 : H2 D0 = none := hD
        refine ⟨fun b o e => by
          rw [upd_ne fun z => by rw [z, nD2] at e; cases e]
          exact (s3.trans s35) _ _ e, acc ++ [(t2, B)], by rw [upd_same, List.map_append]; rfl, ?_, ?_⟩
        · rw [List.take_add_one, hs]
          refine paired_app (L2.Paired.mapP pr3 fun q s h => ⟨?_, (h.2.mono s35).put⟩) (.cons ⟨by rw [upd_ne nt2, upd_same], ?_⟩ .nil)
          · have := s35 _ _ h.1
            rw [upd_ne (ne_of this hD5 (by intro z; cases z))]
            exact this
          · refine LstN.put ⟨free_below s3 hB, nBD, acc4, s5 _ _ h4, L2.Paired.mapP p4 fun u r ⟨p, e, x1, x2, x3, h⟩ => ⟨p, e, x1, x2, s5 _ _ h⟩⟩
        · rw [List.map_append]
          refine List.nodup_append.mpr ⟨nd3, List.nodup_cons.mpr ⟨List.not_mem_nil, List.nodup_nil⟩, fun x mx y my e => ?_⟩
          obtain ⟨q, mq, rfl⟩ := List.mem_map.mp mx
          obtain rfl := List.mem_singleton.mp my
          obtain ⟨k, hk⟩ := List.mem_iff_getElem?.mp mq
          have lk := (List.getElem?_eq_some_iff.mp hk).1
          obtain ⟨z, hz⟩ : ∃ z, (ss.take i)[k]? = some z := by
            have := Paired.length pr3
            exact ⟨_, List.getElem?_eq_getElem (by omega)⟩
          obtain ⟨_, _, _, us', hq, _⟩ := Paired.at2 pr3 hk hz
          rw [e, hB] at hq
          cases hq
    · obtain ⟨s3, acc, hD3, pr3, nd3⟩ := pv
      rw [List.length_map, List.take_length] at pr3
      obtain ⟨kvs, q1, q2, q3⟩ := acc_kvs pr3
      have nk : (kvs.map (·.1)).Nodup := by
        have : kvs.map (·.1) = ss.map Sum.inr := map_keys q3
        rw [this]
        exact List.Pairwise.map _ (fun a b h e => h (Sum.inr.inj e)) (ps.nodup_iff.mpr g.dn)
      refine ⟨D0, acc.map (·.1), kvs, rfl, SqL.of (by rw [hD3, List.map_map]; rfl), L2.Paired.mapP q1 fun _ _ h => SqT.of h, fun f hf => ?_⟩
      rw [merge_nd nk]
      obtain ⟨mf, nf⟩ := belowM s3 hf
      have s4 := Same.up (o := .dK kvs) hf
      have mf1 : (rm G1 a) f = none := rm_out s12 d2 (free_below s3 hf)
      refine rest _ _ ⟨f, kvs, ss, rfl, ((d2.up (s3.trans s4)).le (by rw [List.length_map, Paired.length b5]; omega)), s12.trans (Same.rm (s3.trans s4)), mf1, nf, upd_same, ?_, L2.Paired.mapP q3 fun kv s ⟨e, l, el, h⟩ => ⟨e, l, el, ?_⟩, ps⟩
      · rw [q2]
        rw [show (acc.map fun q => V.ref q.2) = (acc.map (·.2)).map V.ref by rw [List.map_map]; rfl]
        exact List.Pairwise.map _ (fun a b h e => h (V.ref.inj e)) nd3
      · obtain ⟨x1, x2, us, x3, x4⟩ := h.mono s4
        obtain ⟨m1, m2⟩ := belowM (Same.refl H2) x1
        refine ⟨m1, m2, us, x3, L2.Paired.mapP x4 fun u r ⟨p, e, y1, y2, y3⟩ => ?_⟩
        obtain ⟨n1, n2⟩ := belowM (Same.refl H2) y1
        exact ⟨p, e, n1, n2, y3⟩
  rintro σ G2 ⟨d, kd, ss, rfl, d2, s2, md, nda, hd, nv, pk, ps⟩
  try dsimp only
  have sM2 : Same (rm G a) (rm G2 a) := s1.trans s2
  have ndc : d ≠ c := fun z => by
    rw [z, rm_ne nca, hc] at md
    cases md
  have hc2 : G2 c = some (.dK kc) := rm_same _ _ (s2 _ _ (by rw [rm_ne nca]; exact hc))
  have md0 : (rm G a) d = none := by
    cases e : rm G a d with
    | none => rfl
    | some o =>
      rw [s1 _ _ e] at md
      cases md
  have pds : (ss.map fun s => (s, gD ds s)).Perm ds := by
    have h := ps.map fun s => (s, gD ds s)
    rw [ds_again g.dn] at h
    exact h
  have g2 : Good cs' (ss.map fun s => (s, gD ds s)) := g.good.perm pc pds
  have pd : DebtsR G2 kd (ss.map fun s => (s, gD ds s)) := pmap (f := fun s => (s, gD ds s)) (fun kv s ⟨e, l, el, h⟩ => ⟨e, by
    obtain ⟨_, _, us, h3, h4⟩ := h
    exact ⟨l, us, el, .inl h3, L2.Paired.mapP h4 fun u r ⟨p, e, _, _, h⟩ => ⟨p, e, .inl h⟩⟩⟩) pk
  refine ⟨_, rfl, _, rfl, ?_⟩
  delta tNil
  dsimp only
  refine ok_debtsN hc2 hd cc pd g2 fun x H3 ys hx s3 nm db => ?_
  rw [ws_perm g.good pc pds] at db
  have nm' : Nms cs ds ys := ⟨nm.1, nm.2.1, fun s => by rw [nm.2.2, (allN_perm pc pds).mem_iff]⟩
  have s03 : Same (rm G a) H3 := (sM2.trans rm_same).trans s3
  refine ⟨_, rfl, t, _, 0, _, rfl, rfl, SqT.of (s03 _ _ b1), rfl, _, rfl, t, _, 1, _, rfl, rfl, SqT.of (s03 _ _ b1), rfl, ?_⟩
  refine ok_debtsN (s03 _ _ b2) (s03 _ _ b4) b3 (b5.r.mono (SeqsK.of s03)) g.good fun x2 H4 ys2 hx2 s4 nm2 db2 => ?_
  obtain rfl : ys2 = ys := nms_one nm2 nm' fun _ => Iff.rfl
  try dsimp only
  have s24 := s3.trans s4
  obtain ⟨oa, ha2, _⟩ := id d2
  have up : ∀ {b : Addr} {o : HO}, b ≠ a → H4 b = some o → (rm H4 a) b = some o := fun n h => by rw [rm_ne n]; exact h
  have nw : ∀ {X Y : Hp} {b : Addr} {o : HO}, Same G2 X → newH X Y b = some o → G2 b = none := fun s h => free_below s (new_no h)
  have nwa : ∀ {X Y : Hp} {b : Addr} {o : HO}, Same G2 X → newH X Y b = some o → b ≠ a := fun s h z => by
    have := nw s h
    rw [z, ha2] at this
    cases this
  have m2 : ∀ {b : Addr}, G2 b = none → (rm G a) b = none := fun {b} h => by
    cases e : rm G a b with
    | none => rfl
    | some o =>
      have := rm_same _ _ (sM2 _ _ e)
      rw [h] at this
      cases this
  refine ⟨_, _, rfl, ?_⟩
  refine ht D l a x x2 c d (.ref t) w0 _ _ _ _ _ _ _ cs ds ys2 ns (n + 6) kc kd (fun b => (rm G a) b = none ∧ b ≠ a ∧ ∃ o, G2 b = some o) (rm G a) (newH G2 H3) (newH H3 H4) H4 ⟨fun z => z.2.1 rfl, d2.up s24, ?_, wor, old, sql, db, db2, sM2.trans (Same.rm s24), fun b o h => up (nwa (Same.refl _) h) (s4 _ _ (new_same _ _ h)), fun b o h => up (nwa s3 h) (new_same _ _ h), fun b o h z => ?_, fun b o h z => ?_, fun b o h z => ?_, fun b o h => m2 (nw (Same.refl _) h), fun b z => ?_⟩ (s24 _ _ hc2) ⟨mc, nca, _, hc2⟩ ⟨md0, nda, _, hd⟩ ndc.symm ⟨s24 _ _ hd, fun j kv _ e => ?_⟩ ?_ nv ?_ (by omega) g nm2 q
  · exact Tabs.off tab dr.at_
  · rw [z.1] at h
    cases h
  · obtain ⟨_, _, o2, h2⟩ := z
    rw [nw (Same.refl _) h] at h2
    cases h2
  · obtain ⟨_, _, o2, h2⟩ := z
    rw [nw s3 h] at h2
    cases h2
  · obtain ⟨_, _, o2, h2⟩ := z
    exact ⟨o2, s24 _ _ h2⟩
  · obtain ⟨z, hz⟩ : ∃ z, ss[j]? = some z := by
      have lj := (List.getElem?_eq_some_iff.mp e).1
      have := Paired.length pk
      exact ⟨ss[j]'(by omega), List.getElem?_eq_getElem (by omega)⟩
    obtain ⟨_, l5, e5, z1, z2, us, hl5, pr5⟩ := Paired.at2 pk e hz
    have lus : us.length ≤ 60 := by rw [Paired.length pr5]; exact gD_len g.good.lens.2.2.2 z
    refine ⟨l5, us, e5, ⟨z1, z2, _, hl5⟩, s24 _ _ hl5, lus, fun u mu => ?_⟩
    obtain ⟨k, hk⟩ := List.mem_iff_getElem?.mp mu
    have lk := (List.getElem?_eq_some_iff.mp hk).1
    obtain ⟨r, hr5⟩ : ∃ r, (gD ds z)[k]? = some r := by
      have := Paired.length pr5
      exact ⟨(gD ds z)[k]'(by omega), List.getElem?_eq_getElem (by omega)⟩
    obtain ⟨p, rfl, y1, y2, y3⟩ := Paired.at2 pr5 hk hr5
    exact ⟨p, r.1, r.2, rfl, ⟨y1, y2, _, y3⟩, s24 _ _ y3⟩
  · rw [map_keys pk]
    exact List.Pairwise.map _ (fun a b h e => h (Sum.inr.inj e)) (ps.nodup_iff.mpr g.dn)
  · rw [Paired.length pk, ps.length_eq, List.length_map]
    omega
end
end K38

set_option Elab.async false
set_option linter.all false
set_option maxRecDepth 100000
set_option maxHeartbeats 4000000
namespace K38
open PySem PySem.Spec PyProof.Rows L2 Sr LamX
section
variable {P : Program} {w : World} {K : PySem.W.Frag} {mg : Str → Option Value} {base : Heap}
theorem c_law {fd : FuncData} {P1 P2 P3 : Addr} (C : LawC P w K mg base P1 P2 P3) (DL : FunD K "law" "law" (defArgs s_law) (defBody s_law) (defScope s_law) [] [] (He.ga K "law") fd) : FnOk P w K mg base CX0 14 (He.ga K "law") fd ["script"] (spLaw K P1 P2 P3) := by
  refine fun_ok DL sc_law (fun vs H Q E h => ?_) fun A outer s H vs Q E hr h => ?_
  · obtain ⟨l, ns, rfl, _⟩ := h
    rfl
  obtain ⟨l, ns, rfl, hs, h1, h2, h3, q⟩ := h
  obtain ⟨te, pe, he⟩ := la_end C (A := A) (outer := outer) (s := s) (H := H) (E := E) (Q := Q) hr
  obtain ⟨tt, pt, ht⟩ := la_00 C (A := A) (outer := outer) (s := s) (H := H) (E := E) hr
  obtain ⟨T, O, OM, N, MkD0, MM, MC, MD, ME, C_law_stream, C_law_world, C_law_mix, C_law_members, C_law_is_told, C_law_splits_right, C_law_given_right, C_law_refused⟩ := C
  refine ⟨_, PSs.nox (pss_cons (ps_for PassesOwn.never rfl (pi_range1 (by rfl) T.range (pa_cons pe_int pa_nil)) (pg_name (i := 1) sc_law.nd rfl (by first | exact Or.inl rfl | exact Or.inr rfl))
      (pss_cons (ps_set (i := 2) sc_law.nd rfl (by first | exact Or.inl rfl | exact Or.inr rfl) (pe_cal C_law_stream hr (by first | decide | omega) (by rfl) (pa_cons (pv 0) (pa_cons (pv 1) pa_nil))))
      (pss_cons (ps_set (i := 3) sc_law.nd rfl (by first | exact Or.inl rfl | exact Or.inr rfl) (pe_cal C_law_world hr (by first | decide | omega) (by rfl) (pa_cons (pv 2) (pa_cons pe_int (pa_cons pe_int pa_nil)))))
      (pss_cons (ps_set (i := 4) sc_law.nd rfl (by first | exact Or.inl rfl | exact Or.inr rfl) (pe_tup (pa_cons (pe_callTy (T := "dict") call_dictD (by rfl) T.dict (by decide +kernel) (pa_cons (pe_ix ix_tup (pv 3) pe_int (fun _ _ => rfl)) pa_nil)) (pa_cons (pe_callTy (T := "dict") (call_dictP rfl) (by rfl) T.dict (by decide +kernel) (pa_cons (pe_lock (pe_lc (own := [("name", 7)]) (g := gName 7) (tt := tYes) rfl sc_law.nd (pi_keys (pe_ix ix_tup (pv 3) pe_int (fun _ _ => rfl))) (blkOk_by (N := ["script", "turn", "stream", "world", "as_drawn", "coins", "debts", "name", "names", "full", "other", "same", "made", "twin", "row"]) (sc := defScope s_law) (by decide +kernel)) (fun _ _ _ _ _ => (pg_name (i := 7) sc_law.nd rfl (by first | exact Or.inl rfl | exact Or.inr rfl))) (fun _ _ _ _ _ => pts_nil) (fun _ _ _ _ _ => (pe_tup (pa_cons (pv 7) (pa_cons (pe_callTy (T := "list") (call_list_ofK K rfl) (by rfl) T.list (by decide +kernel) (pa_cons (pe_dget (hu_of hr) (pe_ix (ix_tupK K rfl) (pv 3) pe_int (fun _ _ => rfl)) (pv 7) (fun _ _ => rfl)) pa_nil)) pa_nil)))))) pa_nil)) pa_nil))))
      pt))))
      pe), ?_⟩
  have tab0 : Tabs (Tb P1 P2 P3) H := fun p hp => by
    simp only [List.mem_cons, List.not_mem_nil, or_false] at hp
    rcases hp with rfl | rfl | rfl
    · exact TabS.nil h1
    · exact TabS.nil h2
    · exact TabS.nil h3
  refine ⟨4, rfl, by decide, by decide, ?_⟩
  refine for_range (fun i σ H' => LawInv K l P1 P2 P3 ns σ H') ⟨⟨_, _, _, _, _, _, _, _, _, _, _, _, _, _, rfl⟩, hs, tab0⟩ ?_ ?_
  rotate_left
  · rintro σ H1 ⟨⟨v1, v2, v3, v4, v5, v6, v7, v8, v9, v10, v11, v12, v13, v14, rfl⟩, _, _⟩
    try dsimp only
    exact he _ _ q
  rintro i σ H1 hi ⟨⟨v1, v2, v3, v4, v5, v6, v7, v8, v9, v10, v11, v12, v13, v14, rfl⟩, sql1, tab1⟩
  refine ⟨_, rfl, _, rfl, l, _, ns, rfl, sql1, by omega, by omega, fun a o ha ho => ?_⟩
  have sN := rm_new (o := o) ha
  have dA : DnAt 0 (upd H1 a o) a := DnAt.put ho
  try dsimp only
  refine cut_if (fun σ H' => ∃ v cs ds, σ = [some (.ref l), some (.int (0 + (i : Nat))), some (.ref a), some v, v4, v5, v6, v7, v8, v9, v10, v11, v12, v13, v14] ∧ DnAt 40 H' a ∧ Same H1 (rm H' a) ∧ WorldR (rm H' a) v cs ds ∧ Drawn cs ds) ?_ fun rest => ?_
  rotate_left
  · exact ⟨_, rfl, a, 0, rfl, dA, by decide, fun v H2 cs ds d2 s2 w2 g => rest _ _ ⟨v, cs, ds, rfl, d2, sN.trans s2, w2, g⟩⟩
  rintro σ H2 ⟨v, cs, ds, rfl, d2, s2, wor, g⟩
  try dsimp only
  refine cut_if (fun σ H' => ∃ w0, σ = [some (.ref l), some (.int (0 + (i : Nat))), some (.ref a), some v, some w0, v5, v6, v7, v8, v9, v10, v11, v12, v13, v14] ∧ Same H2 H' ∧ WorldR (rm H' a) w0 cs ds) ?_ fun rest => ?_
  rotate_left
  · obtain ⟨t, wc, wd, wkc, wkd, rfl, b1, b2, b3, b4, b5⟩ := wor.mono rm_same
    refine ⟨_, rfl, t, _, 0, _, rfl, rfl, SqT.of b1, rfl, ?_⟩
    delta tNil
    dsimp only
    refine ⟨wc, wkc, rfl, .inl b2, fun p1 hp1 => ?_⟩
    have s3 := Same.up (o := .dK wkc) hp1
    have k1 : (upd H2 p1 (.dK wkc)) p1 = some (.dK wkc) := upd_same
    have c1 := s3 _ _ b1
    have c4 := s3 _ _ b4
    have c5 := b5.mono s3
    have n1 := d2.new hp1
    generalize upd H2 p1 (.dK wkc) = G at s3 k1 c1 c4 c5 ⊢
    have dG := d2.up s3
    have np : p1 ≠ wd := fun z => by
      rw [z, b4] at hp1
      cases hp1
    refine ⟨wd, .dK wkd, c4, trivial, fun od => ?_⟩
    have back : ∀ H', Same (upd G wd (.frz od (.dK wkd))) H' → Same G (upd H' wd (.dK wkd)) := fun H' s x o e => by
      by_cases hx : x = wd
      · rw [hx] at e ⊢
        rw [c4] at e
        cases e
        exact upd_same
      · rw [upd_ne hx]
        exact s _ _ (by rw [upd_ne hx]; exact e)
    have g1F : (upd G wd (.frz od (.dK wkd))) t = some (.tup [.ref wc, .ref wd]) := by rw [upd_ne (ne_of c1 c4 (by intro z; cases z))]; exact c1
    have hwF : (upd G wd (.frz od (.dK wkd))) wd = some (.frz od (.dK wkd)) := upd_same
    have c5F : DebA (upd G wd (.frz od (.dK wkd))) wkd ds := c5.seqs (SeqsK.frz c4)
    obtain ⟨oa, ha2, ra⟩ := id dG
    have haF : (upd G wd (.frz od (.dK wkd))) a = some oa := by
      rw [upd_ne fun z => by
        obtain ⟨x1, y1, z1, e, _⟩ := ra
        rw [z, c4, e] at ha2
        cases ha2]
      exact ha2
    generalize upd G wd (.frz od (.dK wkd)) = F at back g1F hwF c5F haF ⊢
    have ek := (keys_names (F := fun v rs => RowsAt F v rs) c5F).2
    have lk : wkd.length = ds.length := Paired.length c5F
    refine ⟨_, rfl, t, _, 1, _, rfl, rfl, SqT.of g1F, rfl, wd, od, rfl, .inl ⟨wkd, hwF, fun B hB => lc_genD walk_keys (At := fun i _ x => ∃ k v, wkd[i]? = some (k, v) ∧ x = kV k) (fun _ _ _ _ y => y) (ds.map (·.1)) (fun _ => true) (by rw [List.length_map, lk]) (sz (m := 60) (by have := g.lens; omega)) hB (fun H' s => s _ _ hwF)
      (PrAt fun H s z => ∃ l, z = .ref l ∧ l ≠ B ∧ l ≠ a ∧ RowsAt H (.ref l) (gD ds s)) (fun _ _ _ _ e h => ?_) (fun _ _ _ _ _ e h => ?_)
      (fun j u z H3 A B' lt hu hz nB s4 kA kB => ?_) (fun H3 acc s4 h3' p3 => ?_)⟩⟩
    · obtain ⟨t2, z, e1, e2, l, e3, e4, e6, e5⟩ := h
      exact ⟨t2, z, e1, e _ _ e2, l, e3, e4, e6, e5.mono e⟩
    · obtain ⟨t2, z, e1, e2, l, e3, e4, e6, e5⟩ := h
      exact ⟨t2, z, e1, by rw [upd_ne (ne_of e2 e (by intro z; cases z))]; exact e2, l, e3, e4, e6, RowsAt.ne e e4 e5⟩
    · obtain ⟨k, v, hk, rfl⟩ := hu
      have em : (wkd.map (·.1))[j]? = some k := by rw [List.getElem?_map, hk]; rfl
      rw [ek, List.getElem?_map] at em
      rw [List.getElem?_map] at hz
      obtain ⟨p, hp, rfl⟩ := Option.map_eq_some_iff.mp hz
      rw [hp] at em
      obtain rfl : Sum.inr p.1 = k := Option.some.inj em
      obtain ⟨v3, ev, l3, us, rfl, hl3, rw3⟩ := c5F.get g.dn (List.mem_map.mpr ⟨p, List.mem_of_getElem? hp, rfl⟩)
      refine ⟨rfl, ?_⟩
      simp only [tYes, if_true]
      refine ⟨_, rfl, _, rfl, t, _, 1, _, rfl, rfl, SqT.of (s4 _ _ g1F), rfl, _, rfl, wd, .ref l3, rfl, .inl ⟨wkd, Sum.inr p.1, .inr ⟨od, s4 _ _ hwF⟩, rfl, ev.symm⟩, ?_⟩
      dsimp only
      refine ⟨l3, us, rfl, .inl (SqL.of (s4 _ _ hl3)), fun p2 hp2 => ⟨two_line, fun t2 ht2 => ?_⟩⟩
      have npB : p2 ≠ B := fun e => nB (by rw [← e]; exact hp2)
      have npa : p2 ≠ a := fun e => by
        rw [e, s4 _ _ haF] at hp2
        cases hp2
      exact kA rfl _ _ ((Same.up hp2).trans (Same.up ht2)) ⟨t2, _, rfl, upd_same, p2, rfl, npB, npa, p2, us, rfl, Same.up ht2 _ _ upd_same, L2.Paired.mapP rw3 fun _ _ h => ((h.mono s4).mono (Same.up hp2)).mono (Same.up ht2)⟩
    · rw [List.filter_eq_self.mpr fun _ _ => rfl] at p3
      have hw3 := s4 _ _ hwF
      have sq : SeqsK H3 (upd H3 wd (.dK wkd)) := fun b xs => ⟨fun e => by rw [upd_ne (ne_of e hw3 (by intro z; cases z))]; exact e, fun e => by rw [upd_ne (ne_of e hw3 (by intro z; cases z))]; exact e⟩
      have sU := back H3 s4
      have hBU := (sq _ _).2 h3'
      have p3 := L2.Paired.mapP p3 fun v s h => (show PrAt (fun H s z => ∃ l, z = .ref l ∧ l ≠ B ∧ l ≠ a ∧ RowsAt H (.ref l) (gD ds s)) (upd H3 wd (.dK wkd)) s v from by
        obtain ⟨t2, z, e1, e2, l, e3, e4, e6, e5⟩ := h
        exact ⟨t2, z, e1, (sq _ _).1 e2, l, e3, e4, e6, e5.seqs sq⟩)
      obtain ⟨ts, kvs2, rfl, pp, en2⟩ := pairs_of (K := K) p3
      refine ⟨hw3, ?_⟩
      generalize upd H3 wd (.dK wkd) = U at sU hBU pp en2 ⊢
      refine ⟨B, ts, kvs2, rfl, SqL.of hBU, pp, fun f hf => ?_⟩
      rw [merge_ent en2 g.dn]
      refine ⟨two_line, fun t0 ht0 => ?_⟩
      have dU := dG.up sU
      have s5 := Same.up (o := .dK kvs2) hf
      have s6 := Same.up (o := .tup [.ref p1, .ref f]) ht0
      have s56 := s5.trans s6
      have nf := dU.new hf
      have nt0 := (dU.up s5).new ht0
      have off : ∀ {b : Addr} {o : HO}, b ≠ a → U b = some o → (rm (upd (upd U f (.dK kvs2)) t0 (.tup [.ref p1, .ref f])) a) b = some o := fun n h => by
        rw [rm_ne n]
        exact s56 _ _ h
      refine rest _ _ ⟨.ref t0, rfl, s3.trans (sU.trans s56), t0, p1, f, wkc, kvs2, rfl, by rw [rm_ne nt0, upd_same], off n1 (sU _ _ k1), b3, by rw [rm_ne nf]; exact s6 _ _ upd_same, ?_⟩
      have h := pmap (f := fun s => (s, gD ds s)) (G := fun (kv : Key × V) (p : Str × Rw) => kv.1 = Sum.inr p.1 ∧ RowsAt (rm (upd (upd U f (.dK kvs2)) t0 (.tup [.ref p1, .ref f])) a) kv.2 p.2) (fun kv s h => (show _ ∧ _ from by
        obtain ⟨e1, l, e2, _, e6, l', us, e7, hl, pr⟩ := h
        cases e7
        refine ⟨e1, l, us, e2, off e6 hl, L2.Paired.mapP pr fun v r ⟨t, e, h⟩ => ⟨t, e, off (fun z => ?_) h⟩⟩
        obtain ⟨o, ho, x1, y1, z1, rfl, _⟩ := dU
        rw [z, ho] at h
        cases h)) en2
      rw [ds_again g.dn] at h
      exact h
  rintro σ H3 ⟨w0, rfl, s3, old⟩
  try dsimp only
  exact ht _ _ _ _ _ _ _ _ _ _ _ _ _ _ _ _ cs ds ns 40 H3 (d2.up s3) (by decide) (Tabs.ext tab1 ((s2.trans rm_same).trans s3)) (sql_mono (s2.trans (Same.rm s3)) sql1) (wor.mono (Same.rm s3)) old g fun σ H' h => h
end
end K38

set_option Elab.async false
set_option linter.all false
set_option maxRecDepth 100000
set_option maxHeartbeats 0
namespace K38
open PySem PySem.Spec PyProof.Rows L2 Sr
/-! ### the head -/
def dd (x : Str) (i : Nat) : He.DefD := ⟨(x, none), x, x, defArgs (top i), defBody (top i), defScope (top i), [], []⟩
def dm (c m qual : Str) (st : Stmt) : He.DefD := ⟨(c, some m), m, qual, defArgs st, defBody st, defScope st, [], []⟩
def fn : List He.DefD := [dd "is_integer" 3, dd "is_list" 4, dd "is_name" 5, dd "check_member" 15, dd "_check_coins" 16, dd "_check_debts" 17, dd "_is_row" 18, dd "_is_debt" 19, dd "_law_stream" 21, dd "_law_draw" 22, dd "_law_pick" 23, dd "_law_world" 24, dd "_law_members" 25, dd "_law_owed" 26, dd "_law_split" 27, dd "_law_mix" 34, dd "_law_tried" 35, dd "_law_same" 36, dd "_law_is_told" 37, dd "_law_splits_right" 38, dd "_law_given_right" 39, dd "_law_refused" 40, dd "law" 41, dm "BadCoins" "__init__" "BadCoins.__init__" s_BadCoins___init__, dm "BadDebts" "__init__" "BadDebts.__init__" s_BadDebts___init__, dm "NoMember" "__init__" "NoMember.__init__" s_NoMember___init__, dm "BadNumber" "__init__" "BadNumber.__init__" s_BadNumber___init__, dm "BadName" "__init__" "BadName.__init__" s_BadName___init__, dm "Debts" "__init__" "Debts.__init__" s_Debts___init__, dm "Debts" "members" "Debts.members" s_Debts_members, dm "Debts" "coins" "Debts.coins" s_Debts_coins, dm "Debts" "debts" "Debts.debts" s_Debts_debts, dm "Debts" "owed" "Debts.owed" s_Debts_owed, dm "Debts" "split" "Debts.split" s_Debts_split, dm "Debts" "given" "Debts.given" s_Debts_given, dm "Debts" "__eq__" "Debts.__eq__" s_Debts___eq__]
def fa : List He.Fa := [.glo "is_integer", .glo "is_list", .glo "is_name", .glo "check_member", .glo "_check_coins", .glo "_check_debts", .glo "_is_row", .glo "_is_debt", .glo "_law_stream", .glo "_law_draw", .glo "_law_pick", .glo "_law_world", .glo "_law_members", .glo "_law_owed", .glo "_law_split", .glo "_law_mix", .glo "_law_tried", .glo "_law_same", .glo "_law_is_told", .glo "_law_splits_right", .glo "_law_given_right", .glo "_law_refused", .glo "law", .free "len", .free "isinstance", .free "all", .free "range", .free "sorted", .free "list", .free "tuple", .free "min", .free "int", .free "str", .free "bool", .free "dict", .free "zip", .free "enumerate", .str "SIGNS" signs, .int "LONGEST" 8, .free "max", .free "sum", .free "set", .free "any", .free "abs", .glo "BadCoins", .glo "BadDebts", .glo "NoMember", .glo "BadNumber", .glo "BadName", .glo "Debts", .cls "Debts", .noat "Debts" "_coins", .noat "Debts" "_debts", .meth "Debts" "members", .meth "Debts" "coins", .meth "Debts" "debts", .meth "Debts" "owed", .meth "Debts" "split", .meth "Debts" "given", .mkr "Debts"]
def ts : List He.Tab := []
def tf : List He.Defn := [("_law_splits_right", none), ("_law_given_right", none), ("_law_refused", none)]
def ex (K : PySem.W.Frag) : Bool := errAll K (He.ga K "BadCoins") (He.fAd K ("BadCoins", some "__init__")) "thing" && (errAll K (He.ga K "BadDebts") (He.fAd K ("BadDebts", some "__init__")) "thing" && (errAll K (He.ga K "NoMember") (He.fAd K ("NoMember", some "__init__")) "member" && (errAll K (He.ga K "BadNumber") (He.fAd K ("BadNumber", some "__init__")) "number" && (errAll K (He.ga K "BadName") (He.fAd K ("BadName", some "__init__")) "thing" && (decide (PySem.W.exmOne K (.ref (He.ga K "BadCoins")) (.ref (He.ga K "BadCoins")) = some true) && (decide (PySem.W.exmOne K (.ref (He.ga K "BadDebts")) (.ref (He.ga K "BadCoins")) = some false) && (decide (PySem.W.exmOne K (.ref (He.ga K "BadDebts")) (.ref (He.ga K "BadDebts")) = some true) && (decide (PySem.W.exmOne K (.ref (He.ga K "NoMember")) (.ref (He.ga K "BadCoins")) = some false) && (decide (PySem.W.exmOne K (.ref (He.ga K "NoMember")) (.ref (He.ga K "BadDebts")) = some false) && (decide (PySem.W.exmOne K (.ref (He.ga K "NoMember")) (.ref (He.ga K "NoMember")) = some true) && (decide (PySem.W.exmOne K (.ref (He.ga K "BadNumber")) (.ref (He.ga K "BadCoins")) = some false) && (decide (PySem.W.exmOne K (.ref (He.ga K "BadNumber")) (.ref (He.ga K "BadDebts")) = some false) && (decide (PySem.W.exmOne K (.ref (He.ga K "BadNumber")) (.ref (He.ga K "NoMember")) = some false) && (decide (PySem.W.exmOne K (.ref (He.ga K "BadNumber")) (.ref (He.ga K "BadNumber")) = some true) && (decide (PySem.W.exmOne K (.ref (He.ga K "BadName")) (.ref (He.ga K "BadCoins")) = some false) && (decide (PySem.W.exmOne K (.ref (He.ga K "BadName")) (.ref (He.ga K "BadDebts")) = some false) && (decide (PySem.W.exmOne K (.ref (He.ga K "BadName")) (.ref (He.ga K "NoMember")) = some false) && (decide (PySem.W.exmOne K (.ref (He.ga K "BadName")) (.ref (He.ga K "BadNumber")) = some false) && (decide (PySem.W.exmOne K (.ref (He.ga K "BadName")) (.ref (He.ga K "BadName")) = some true) && (decide ((He.cT K ("_law_splits_right", none)).2 ≠ (He.cT K ("_law_given_right", none)).2) && (decide ((He.cT K ("_law_splits_right", none)).2 ≠ (He.cT K ("_law_refused", none)).2) && (decide ((He.cT K ("_law_given_right", none)).2 ≠ (He.cT K ("_law_refused", none)).2) && (decide (PySem.W.findIn K (.ref (He.ga K "Debts")) "__class__" = some (some (.builtin "object.__class__"))) && (decide (PySem.W.specialIn K (.builtin "object.__class__") "__get__" = some (some (.builtin "getset_descriptor.__get__"))) && (decide (PySem.W.takesIn K (.builtin "object.__class__") = some true) && (decide (PySem.W.mroIn K (He.ga K "Debts") (.type "object") = some true) && (decide (PySem.W.kitOne K (.ref (He.ga K "Debts")) (.ref (He.ga K "Debts")) = some true) && (decide (PySem.W.kitOne K (.type "tuple") (.ref (He.ga K "Debts")) = some false) && (decide (PySem.W.findIn K (.ref (He.ga K "Debts")) "__eq__" = some (some (.ref (He.fAd K ("Debts", some "__eq__"))))) && (PySem.W.isFn K (.ref (He.fAd K ("Debts", some "__eq__"))) && (decide (PySem.W.findIn K (.ref (He.ga K "Debts")) "__ne__" = some (some (.builtin "object.__ne__"))))))))))))))))))))))))))))))))))
abbrev R : PySem.W.OpenRow := PySem.W.OpenLaw.row PySem.Challenge.rw_seatroads_k38_debts_told_and_refused
abbrev hk : PySem.W.Hook := He.hookX 6 fa fn ts tf ex
def ob (s : PySem.W.SharedT) : He.AlX := He.obsX 6 fa fn ts tf ex (HandSHeadRun.getT s)
theorem ob_eq (s : PySem.W.SharedT) : ob s = hk.obs s.abs := He.obsX_eq (HandSHeadRun.getT_eq s)
def loose0 : List Str := ["is_integer", "is_list", "is_name", "check_member", "_check_coins", "_check_debts", "_is_row", "_is_debt", "_law_stream", "_law_draw", "_law_pick", "_law_world", "_law_members"]
def loose1 : List Str := ["_law_owed", "_law_split", "_law_mix", "_law_tried", "_law_same", "_law_is_told", "_law_splits_right", "_law_given_right", "_law_refused", "_law_has", "_law_pays", "_law_fixed", "_law_greatest"]
def loose2 : List Str := ["_law_least", "_law_left", "SIGNS", "LONGEST", "OfficeError", "Debts", "BadCoins", "BadDebts", "NoMember", "BadNumber", "BadName"]
def loose : List Str := loose0 ++ loose1 ++ loose2
theorem run (w : World) : HandSHeadRun.RunEq R (PySem.W.view R.prog [41]) hk ob 60000 loose w := by
  intro os
  kernel_rfl
end K38

set_option Elab.async false
set_option linter.all false
set_option maxRecDepth 100000
set_option maxHeartbeats 4000000
namespace K38
open PySem PySem.Spec PyProof.Rows L2 Sr LamX
theorem facts {l : PySem.W.OpenLaw} {w : World} {K : PySem.W.Frag} {h : Heap} {mg : Str → Option Value} {f : Addr} (X : K.In h) (G : h.Ns mainGlobals mg) (hfa : mg ("law" : Str) = some (.ref f)) (c : He.SaysX fa fn ts tf ex w h K) : LawAtS l w K CX0 14 63 "script" mg f h := by
  have cd : He.SaysD fa fn K := c.t.d
  have e := hfa.symm.trans (He.glo_ok X G (cd.fact 22 (f := .glo "law") rfl))
  cases e
  obtain ⟨x0, y1⟩ := He.ba c.more
  obtain ⟨x1, y2⟩ := He.ba y1
  obtain ⟨x2, y3⟩ := He.ba y2
  obtain ⟨x3, y4⟩ := He.ba y3
  obtain ⟨x4, y5⟩ := He.ba y4
  obtain ⟨x5, y6⟩ := He.ba y5
  obtain ⟨x6, y7⟩ := He.ba y6
  obtain ⟨x7, y8⟩ := He.ba y7
  obtain ⟨x8, y9⟩ := He.ba y8
  obtain ⟨x9, y10⟩ := He.ba y9
  obtain ⟨x10, y11⟩ := He.ba y10
  obtain ⟨x11, y12⟩ := He.ba y11
  obtain ⟨x12, y13⟩ := He.ba y12
  obtain ⟨x13, y14⟩ := He.ba y13
  obtain ⟨x14, y15⟩ := He.ba y14
  obtain ⟨x15, y16⟩ := He.ba y15
  obtain ⟨x16, y17⟩ := He.ba y16
  obtain ⟨x17, y18⟩ := He.ba y17
  obtain ⟨x18, y19⟩ := He.ba y18
  obtain ⟨x19, y20⟩ := He.ba y19
  obtain ⟨x20, y21⟩ := He.ba y20
  obtain ⟨x21, y22⟩ := He.ba y21
  obtain ⟨x22, y23⟩ := He.ba y22
  obtain ⟨x23, y24⟩ := He.ba y23
  obtain ⟨x24, y25⟩ := He.ba y24
  obtain ⟨x25, y26⟩ := He.ba y25
  obtain ⟨x26, y27⟩ := He.ba y26
  obtain ⟨x27, y28⟩ := He.ba y27
  obtain ⟨x28, y29⟩ := He.ba y28
  obtain ⟨x29, y30⟩ := He.ba y29
  obtain ⟨x30, y31⟩ := He.ba y30
  have bE_BadCoins := x0
  have bE_BadDebts := x1
  have bE_NoMember := x2
  have bE_BadNumber := x3
  have bE_BadName := x4
  have bx11 := of_decide_eq_true x5
  have bx21 := of_decide_eq_true x6
  have bx22 := of_decide_eq_true x7
  have bx31 := of_decide_eq_true x8
  have bx32 := of_decide_eq_true x9
  have bx33 := of_decide_eq_true x10
  have bx41 := of_decide_eq_true x11
  have bx42 := of_decide_eq_true x12
  have bx43 := of_decide_eq_true x13
  have bx44 := of_decide_eq_true x14
  have bx51 := of_decide_eq_true x15
  have bx52 := of_decide_eq_true x16
  have bx53 := of_decide_eq_true x17
  have bx54 := of_decide_eq_true x18
  have bx55 := of_decide_eq_true x19
  have bn12 := of_decide_eq_true x20
  have bn13 := of_decide_eq_true x21
  have bn23 := of_decide_eq_true x22
  have bca := of_decide_eq_true x23
  have bcn := of_decide_eq_true x24
  have bct := of_decide_eq_true x25
  have bcm := of_decide_eq_true x26
  have byes := of_decide_eq_true x27
  have bnoT := of_decide_eq_true x28
  have beq := of_decide_eq_true x29
  have bfn := x30
  have bne := of_decide_eq_true y31
  have D_is_integer : Dfn K mg "is_integer" s_is_integer := ⟨cd.def_ 0 (d := dd "is_integer" 3) rfl, He.glo_ok X G (cd.fact 0 (f := .glo "is_integer") rfl)⟩
  have D_is_list : Dfn K mg "is_list" s_is_list := ⟨cd.def_ 1 (d := dd "is_list" 4) rfl, He.glo_ok X G (cd.fact 1 (f := .glo "is_list") rfl)⟩
  have D_is_name : Dfn K mg "is_name" s_is_name := ⟨cd.def_ 2 (d := dd "is_name" 5) rfl, He.glo_ok X G (cd.fact 2 (f := .glo "is_name") rfl)⟩
  have D_check_member : Dfn K mg "check_member" s_check_member := ⟨cd.def_ 3 (d := dd "check_member" 15) rfl, He.glo_ok X G (cd.fact 3 (f := .glo "check_member") rfl)⟩
  have D__check_coins : Dfn K mg "_check_coins" s__check_coins := ⟨cd.def_ 4 (d := dd "_check_coins" 16) rfl, He.glo_ok X G (cd.fact 4 (f := .glo "_check_coins") rfl)⟩
  have D__check_debts : Dfn K mg "_check_debts" s__check_debts := ⟨cd.def_ 5 (d := dd "_check_debts" 17) rfl, He.glo_ok X G (cd.fact 5 (f := .glo "_check_debts") rfl)⟩
  have D__is_row : Dfn K mg "_is_row" s__is_row := ⟨cd.def_ 6 (d := dd "_is_row" 18) rfl, He.glo_ok X G (cd.fact 6 (f := .glo "_is_row") rfl)⟩
  have D__is_debt : Dfn K mg "_is_debt" s__is_debt := ⟨cd.def_ 7 (d := dd "_is_debt" 19) rfl, He.glo_ok X G (cd.fact 7 (f := .glo "_is_debt") rfl)⟩
  have D__law_stream : Dfn K mg "_law_stream" s__law_stream := ⟨cd.def_ 8 (d := dd "_law_stream" 21) rfl, He.glo_ok X G (cd.fact 8 (f := .glo "_law_stream") rfl)⟩
  have D__law_draw : Dfn K mg "_law_draw" s__law_draw := ⟨cd.def_ 9 (d := dd "_law_draw" 22) rfl, He.glo_ok X G (cd.fact 9 (f := .glo "_law_draw") rfl)⟩
  have D__law_pick : Dfn K mg "_law_pick" s__law_pick := ⟨cd.def_ 10 (d := dd "_law_pick" 23) rfl, He.glo_ok X G (cd.fact 10 (f := .glo "_law_pick") rfl)⟩
  have D__law_world : Dfn K mg "_law_world" s__law_world := ⟨cd.def_ 11 (d := dd "_law_world" 24) rfl, He.glo_ok X G (cd.fact 11 (f := .glo "_law_world") rfl)⟩
  have D__law_members : Dfn K mg "_law_members" s__law_members := ⟨cd.def_ 12 (d := dd "_law_members" 25) rfl, He.glo_ok X G (cd.fact 12 (f := .glo "_law_members") rfl)⟩
  have D__law_owed : Dfn K mg "_law_owed" s__law_owed := ⟨cd.def_ 13 (d := dd "_law_owed" 26) rfl, He.glo_ok X G (cd.fact 13 (f := .glo "_law_owed") rfl)⟩
  have D__law_split : Dfn K mg "_law_split" s__law_split := ⟨cd.def_ 14 (d := dd "_law_split" 27) rfl, He.glo_ok X G (cd.fact 14 (f := .glo "_law_split") rfl)⟩
  have D__law_mix : Dfn K mg "_law_mix" s__law_mix := ⟨cd.def_ 15 (d := dd "_law_mix" 34) rfl, He.glo_ok X G (cd.fact 15 (f := .glo "_law_mix") rfl)⟩
  have D__law_tried : Dfn K mg "_law_tried" s__law_tried := ⟨cd.def_ 16 (d := dd "_law_tried" 35) rfl, He.glo_ok X G (cd.fact 16 (f := .glo "_law_tried") rfl)⟩
  have D__law_same : Dfn K mg "_law_same" s__law_same := ⟨cd.def_ 17 (d := dd "_law_same" 36) rfl, He.glo_ok X G (cd.fact 17 (f := .glo "_law_same") rfl)⟩
  have D__law_is_told : Dfn K mg "_law_is_told" s__law_is_told := ⟨cd.def_ 18 (d := dd "_law_is_told" 37) rfl, He.glo_ok X G (cd.fact 18 (f := .glo "_law_is_told") rfl)⟩
  have D__law_splits_right : Dfn K mg "_law_splits_right" s__law_splits_right := ⟨cd.def_ 19 (d := dd "_law_splits_right" 38) rfl, He.glo_ok X G (cd.fact 19 (f := .glo "_law_splits_right") rfl)⟩
  have D__law_given_right : Dfn K mg "_law_given_right" s__law_given_right := ⟨cd.def_ 20 (d := dd "_law_given_right" 39) rfl, He.glo_ok X G (cd.fact 20 (f := .glo "_law_given_right") rfl)⟩
  have D__law_refused : Dfn K mg "_law_refused" s__law_refused := ⟨cd.def_ 21 (d := dd "_law_refused" 40) rfl, He.glo_ok X G (cd.fact 21 (f := .glo "_law_refused") rfl)⟩
  obtain ⟨fd, DL⟩ := cd.def_ 22 (d := dd "law" 41) rfl
  have DM_BadCoins___init__ : DfnM K "BadCoins" "__init__" "BadCoins.__init__" s_BadCoins___init__ := ⟨cd.def_ 23 (d := dm "BadCoins" "__init__" "BadCoins.__init__" s_BadCoins___init__) rfl⟩
  have DM_BadDebts___init__ : DfnM K "BadDebts" "__init__" "BadDebts.__init__" s_BadDebts___init__ := ⟨cd.def_ 24 (d := dm "BadDebts" "__init__" "BadDebts.__init__" s_BadDebts___init__) rfl⟩
  have DM_NoMember___init__ : DfnM K "NoMember" "__init__" "NoMember.__init__" s_NoMember___init__ := ⟨cd.def_ 25 (d := dm "NoMember" "__init__" "NoMember.__init__" s_NoMember___init__) rfl⟩
  have DM_BadNumber___init__ : DfnM K "BadNumber" "__init__" "BadNumber.__init__" s_BadNumber___init__ := ⟨cd.def_ 26 (d := dm "BadNumber" "__init__" "BadNumber.__init__" s_BadNumber___init__) rfl⟩
  have DM_BadName___init__ : DfnM K "BadName" "__init__" "BadName.__init__" s_BadName___init__ := ⟨cd.def_ 27 (d := dm "BadName" "__init__" "BadName.__init__" s_BadName___init__) rfl⟩
  have DM_Debts___init__ : DfnM K "Debts" "__init__" "Debts.__init__" s_Debts___init__ := ⟨cd.def_ 28 (d := dm "Debts" "__init__" "Debts.__init__" s_Debts___init__) rfl⟩
  have DM_Debts_members : DfnM K "Debts" "members" "Debts.members" s_Debts_members := ⟨cd.def_ 29 (d := dm "Debts" "members" "Debts.members" s_Debts_members) rfl⟩
  have DM_Debts_coins : DfnM K "Debts" "coins" "Debts.coins" s_Debts_coins := ⟨cd.def_ 30 (d := dm "Debts" "coins" "Debts.coins" s_Debts_coins) rfl⟩
  have DM_Debts_debts : DfnM K "Debts" "debts" "Debts.debts" s_Debts_debts := ⟨cd.def_ 31 (d := dm "Debts" "debts" "Debts.debts" s_Debts_debts) rfl⟩
  have DM_Debts_owed : DfnM K "Debts" "owed" "Debts.owed" s_Debts_owed := ⟨cd.def_ 32 (d := dm "Debts" "owed" "Debts.owed" s_Debts_owed) rfl⟩
  have DM_Debts_split : DfnM K "Debts" "split" "Debts.split" s_Debts_split := ⟨cd.def_ 33 (d := dm "Debts" "split" "Debts.split" s_Debts_split) rfl⟩
  have DM_Debts_given : DfnM K "Debts" "given" "Debts.given" s_Debts_given := ⟨cd.def_ 34 (d := dm "Debts" "given" "Debts.given" s_Debts_given) rfl⟩
  have DM_Debts___eq__ : DfnM K "Debts" "__eq__" "Debts.__eq__" s_Debts___eq__ := ⟨cd.def_ 35 (d := dm "Debts" "__eq__" "Debts.__eq__" s_Debts___eq__) rfl⟩
  have T : Txt K mg := ⟨He.free_ok X G (cd.fact 23 (f := .free "len") rfl), He.free_ok X G (cd.fact 24 (f := .free "isinstance") rfl), He.free_ok X G (cd.fact 25 (f := .free "all") rfl), He.free_ok X G (cd.fact 26 (f := .free "range") rfl), He.free_ok X G (cd.fact 27 (f := .free "sorted") rfl), He.free_ok X G (cd.fact 28 (f := .free "list") rfl), He.free_ok X G (cd.fact 29 (f := .free "tuple") rfl), He.free_ok X G (cd.fact 30 (f := .free "min") rfl), He.free_ok X G (cd.fact 31 (f := .free "int") rfl), He.free_ok X G (cd.fact 32 (f := .free "str") rfl), He.free_ok X G (cd.fact 33 (f := .free "bool") rfl), He.free_ok X G (cd.fact 34 (f := .free "dict") rfl), He.free_ok X G (cd.fact 35 (f := .free "zip") rfl), He.free_ok X G (cd.fact 36 (f := .free "enumerate") rfl), He.str_ok X G (cd.fact 37 (f := .str "SIGNS" signs) rfl), He.int_ok X G (cd.fact 38 (f := .int "LONGEST" 8) rfl), He.free_ok X G (cd.fact 39 (f := .free "max") rfl), He.free_ok X G (cd.fact 40 (f := .free "sum") rfl), He.free_ok X G (cd.fact 41 (f := .free "set") rfl), He.free_ok X G (cd.fact 42 (f := .free "any") rfl), He.free_ok X G (cd.fact 43 (f := .free "abs") rfl)⟩
  have N_BadCoins := He.glo_ok X G (cd.fact 44 (f := .glo "BadCoins") rfl)
  have N_BadDebts := He.glo_ok X G (cd.fact 45 (f := .glo "BadDebts") rfl)
  have N_NoMember := He.glo_ok X G (cd.fact 46 (f := .glo "NoMember") rfl)
  have N_BadNumber := He.glo_ok X G (cd.fact 47 (f := .glo "BadNumber") rfl)
  have N_BadName := He.glo_ok X G (cd.fact 48 (f := .glo "BadName") rfl)
  have N_Debts := He.glo_ok X G (cd.fact 49 (f := .glo "Debts") rfl)
  have O : Deb K mg := ⟨He.cls_ok (cd.fact 50 (f := .cls "Debts") rfl), He.noat_ok (cd.fact 51 (f := .noat "Debts" "_coins") rfl), He.noat_ok (cd.fact 52 (f := .noat "Debts" "_debts") rfl)⟩
  have M_members : Meth K (He.ga K "Debts") "members" (He.fAd K ("Debts", some "members")) := He.meth_ok (cd.fact 53 (f := .meth "Debts" "members") rfl)
  have M_coins : Meth K (He.ga K "Debts") "coins" (He.fAd K ("Debts", some "coins")) := He.meth_ok (cd.fact 54 (f := .meth "Debts" "coins") rfl)
  have M_debts : Meth K (He.ga K "Debts") "debts" (He.fAd K ("Debts", some "debts")) := He.meth_ok (cd.fact 55 (f := .meth "Debts" "debts") rfl)
  have M_owed : Meth K (He.ga K "Debts") "owed" (He.fAd K ("Debts", some "owed")) := He.meth_ok (cd.fact 56 (f := .meth "Debts" "owed") rfl)
  have M_split : Meth K (He.ga K "Debts") "split" (He.fAd K ("Debts", some "split")) := He.meth_ok (cd.fact 57 (f := .meth "Debts" "split") rfl)
  have M_given : Meth K (He.ga K "Debts") "given" (He.fAd K ("Debts", some "given")) := He.meth_ok (cd.fact 58 (f := .meth "Debts" "given") rfl)
  have OM : DebM K := ⟨M_members, M_coins, M_debts, M_owed, M_split, M_given, beq, bfn, bne⟩
  have N : DbN K mg := ⟨N_Debts, bca, bcn, bct, bcm, byes, bnoT⟩
  have Mo : Mk K (He.ga K "Debts") (He.fAd K ("Debts", some "__init__")) := He.mkr_ok (cd.fact 59 (f := .mkr "Debts") rfl)
  have Z : Xs K mg := ⟨N_BadCoins, N_BadDebts, N_NoMember, N_BadNumber, N_BadName, errAll_ok bE_BadCoins, errAll_ok bE_BadDebts, errAll_ok bE_NoMember, errAll_ok bE_BadNumber, errAll_ok bE_BadName, bx11, bx21, bx22, bx31, bx32, bx33, bx41, bx42, bx43, bx44, bx51, bx52, bx53, bx54, bx55⟩
  have b := FunD.bindsA (ps := ["script"]) DL fun _ _ _ _ _ _ us hl => match us, hl with | [_], _ => rfl
  refine ⟨fd, [He.cT K ("_law_splits_right", none), He.cT K ("_law_given_right", none), He.cT K ("_law_refused", none)], spLaw K ((He.cT K ("_law_splits_right", none)).2) ((He.cT K ("_law_given_right", none)).2) ((He.cT K ("_law_refused", none)).2), ?_, ?_, ?_, fun s v => b s [v] rfl, fun H a ns hl _ hT hS => ⟨a, ns, rfl, hS, hT _ List.mem_cons_self, hT _ (List.mem_cons_of_mem _ List.mem_cons_self), hT _ (List.mem_cons_of_mem _ (List.mem_cons_of_mem _ List.mem_cons_self)), fun _ => rfl⟩, fun base _ _ TB => ?_⟩
  · intro p hp
    rcases List.mem_cons.mp hp with rfl | hp
    · exact c.empty _ List.mem_cons_self
    rcases List.mem_cons.mp hp with rfl | hp
    · exact c.empty _ (List.mem_cons_of_mem _ List.mem_cons_self)
    · rw [List.mem_singleton.mp hp]
      exact c.empty _ (List.mem_cons_of_mem _ (List.mem_cons_of_mem _ List.mem_cons_self))
  · intro p hp
    rcases List.mem_cons.mp hp with rfl | hp
    · exact c.out _ List.mem_cons_self
    rcases List.mem_cons.mp hp with rfl | hp
    · exact c.out _ (List.mem_cons_of_mem _ List.mem_cons_self)
    · rw [List.mem_singleton.mp hp]
      exact c.out _ (List.mem_cons_of_mem _ (List.mem_cons_of_mem _ List.mem_cons_self))
  · intro p hp
    rcases List.mem_cons.mp hp with rfl | hp
    · exact PySem.W.codeHd_of_K X (c.hd _ List.mem_cons_self)
    rcases List.mem_cons.mp hp with rfl | hp
    · exact PySem.W.codeHd_of_K X (c.hd _ (List.mem_cons_of_mem _ List.mem_cons_self))
    · rw [List.mem_singleton.mp hp]
      exact PySem.W.codeHd_of_K X (c.hd _ (List.mem_cons_of_mem _ (List.mem_cons_of_mem _ List.mem_cons_self)))
  have TB1 := TB _ List.mem_cons_self
  have TB2 := TB _ (List.mem_cons_of_mem _ List.mem_cons_self)
  have TB3 := TB _ (List.mem_cons_of_mem _ (List.mem_cons_of_mem _ List.mem_cons_self))
  have C_is_integer := c_is_integer (P := l.prog) (w := w) (base := base) T D_is_integer
  have C_is_list := c_is_list (P := l.prog) (w := w) (base := base) T D_is_list
  have C_is_name := c_is_name (P := l.prog) (w := w) (base := base) T D_is_name
  have R_BadCoins : ErrAt l.prog w K mg base "BadCoins" "thing" "thing" := ⟨errAll_ok bE_BadCoins, m_BadCoins (errAll_ok bE_BadCoins) DM_BadCoins___init__, N_BadCoins⟩
  have R_BadDebts : ErrAt l.prog w K mg base "BadDebts" "thing" "thing" := ⟨errAll_ok bE_BadDebts, m_BadDebts (errAll_ok bE_BadDebts) DM_BadDebts___init__, N_BadDebts⟩
  have R_NoMember : ErrAt l.prog w K mg base "NoMember" "member" "member" := ⟨errAll_ok bE_NoMember, m_NoMember (errAll_ok bE_NoMember) DM_NoMember___init__, N_NoMember⟩
  have R_BadNumber : ErrAt l.prog w K mg base "BadNumber" "number" "number" := ⟨errAll_ok bE_BadNumber, m_BadNumber (errAll_ok bE_BadNumber) DM_BadNumber___init__, N_BadNumber⟩
  have R_BadName : ErrAt l.prog w K mg base "BadName" "thing" "thing" := ⟨errAll_ok bE_BadName, m_BadName (errAll_ok bE_BadName) DM_BadName___init__, N_BadName⟩
  have C_is_debt := c__is_debt T D__is_debt C_is_list C_is_name C_is_integer
  have C_is_row := c__is_row T D__is_row C_is_list C_is_debt
  have C_ckc := c__check_coins T R_BadCoins D__check_coins C_is_name C_is_integer
  have C_ckd := c__check_debts T R_BadDebts D__check_debts C_is_name C_is_row
  have MkD0 : MkD l.prog w K mg base := ⟨m_Debts T O DM_Debts___init__ C_ckc C_ckd, Mo, N_Debts⟩
  have MM := m_members (P := l.prog) (w := w) (base := base) T O DM_Debts_members
  have MC := m_coins (P := l.prog) (w := w) (base := base) T O DM_Debts_coins
  have MD := m_debts (P := l.prog) (w := w) (base := base) T O DM_Debts_debts
  have C_ckm := c_check_member T O OM R_NoMember D_check_member MM
  have MO := m_owed T O DM_Debts_owed C_ckm
  have MS := m_split T O OM R_BadNumber DM_Debts_split C_is_integer MO
  have MG := m_given T O OM MkD0 R_BadName R_BadNumber DM_Debts_given C_is_name C_is_integer MC
  have ME := m_eq (P := l.prog) (w := w) (base := base) T O N DM_Debts___eq__
  have C_stream := c__law_stream (P := l.prog) (w := w) (base := base) T D__law_stream
  have C_draw := c__law_draw (P := l.prog) (w := w) (base := base) T D__law_draw
  have C_pick := c__law_pick T D__law_pick C_draw
  have C_world := c__law_world T D__law_world C_draw C_pick
  have C_mem := c__law_members (P := l.prog) (w := w) (base := base) T D__law_members
  have C_owed := c__law_owed (P := l.prog) (w := w) (base := base) T D__law_owed
  have C_split := c__law_split (P := l.prog) (w := w) (base := base) T D__law_split
  have C_mix := c__law_mix T D__law_mix C_draw
  have C_same := c__law_same (P := l.prog) (w := w) (base := base) T D__law_same
  have C_told := c__law_is_told T O OM D__law_is_told C_mem C_owed MM MC MD MO
  have C_spl := c__law_splits_right T O OM Z D__law_splits_right TB1 bn12 bn13 D__law_tried C_draw C_pick C_mem C_owed C_split C_same MO MS
  have C_giv := c__law_given_right T O OM Z D__law_given_right TB2 bn12 bn23 D__law_tried C_pick C_mem C_told C_same MG
  have C_ref := c__law_refused T Z MkD0 D__law_refused TB3 bn13 bn23 D__law_tried C_draw C_pick C_same
  exact c_law ⟨T, O, OM, N, MkD0, MM, MC, MD, ME, C_stream, C_world, C_mix, C_mem, C_told, C_spl, C_giv, C_ref⟩ DL
end K38
open PySem PySem.W PySem.Calls PyProof.Rows
theorem PySem.Challenge.cw_seatroads_k38_debts_told_and_refused_holds : PySem.Challenge.rw_seatroads_k38_debts_told_and_refused.Holds := by
  w_on; o_law
  refine HandSHeadRun.head_any (r := OpenLaw.row PySem.Challenge.rw_seatroads_k38_debts_told_and_refused) (q := view (OpenLaw.row PySem.Challenge.rw_seatroads_k38_debts_told_and_refused).prog [41]) (H := K38.hk) (ob := K38.ob) (M := 60000) (loose := K38.loose) (d := HandSHeadRun.topDef (OpenLaw.row PySem.Challenge.rw_seatroads_k38_debts_told_and_refused).prog 41) (kwd := []) K38.ob_eq
    (by kernel_rfl) (fun s => by kernel_rfl) K38.run (by kernel_rfl) (by kernel_rfl) (by kernel_rfl) (by rfl) (by first | assumption | decide +kernel) (by decide +kernel) ⟨rfl, rfl, rfl, rfl, rfl, by decide +kernel⟩ ?hw ?hc
  case hw => w_witness2
  case hc =>
    refine LamX.walk_ofTsE (l := PySem.Challenge.rw_seatroads_k38_debts_told_and_refused) (n := 63) (k := 14) (x := "script") (CX := fun _ => L2.CX0) rfl (by decide) (by kernel_rfl) ⟨rfl, by decide, by decide⟩ ?F (fun _ _ _ _ _ z => z)
    intro w mg fa h Y G hmg0
    obtain ⟨K, KX, c⟩ := Y
    have hmg : mg ("law" : PySem.Str) = some (.ref fa) := by
      have e : (HandSHeadRun.topDef (OpenLaw.row PySem.Challenge.rw_seatroads_k38_debts_told_and_refused).prog 41).name = ("law" : PySem.Str) := by kernel_rfl
      rw [← e]
      exact hmg0
    exact ⟨K, KX, K38.facts KX G hmg c⟩
