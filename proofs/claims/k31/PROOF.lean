import PyProof.Rows.All
import Wide.All
import OpenK.AllK
import Wide.FinOn
import KE.KStateDown
import HandS.ForMost
import HandS.Defaults
import HandS.IsInst
import HandS.CallLocal
import HandS.TupAny
import HandS.NoneIn
import HandS.Strs
import HandS.TryOnly
import HandS.Head0
import HandS.Head1
import HandS.Head2
import HandS.HeadEnd
import HandS.HeadHook1
import HandS.HeadHook2
import HandS.HeadHook3
import HandS.HeadHook4
import HandS.ListItems
import HandS.More
import HandS.Walk
import HandS.DictComp
import HandS.Zip
import KE.SortData
import HandS.Conv
import KE.KDictPairs
import HandS.Exc
import HandS.TryMany
import HandS.ExcInit
import HandS.ExcField
import KE.GoesEnum
import HandS.Lambda
import HandS.EndTab
import HandS.Deep
import HandS.WordsDict
import HandS.TupSets
import HandS.SetFor
import HandS.SlotsOwn
import KE.KEqDict
import KE.KEqNest
import PyProof.NeKinds
import HandS.SetKeys
import HandS.Style
import HandS.Finally
import HandS.HeadWalk
import PySem.Challenge.RW_seatroads_k31_queues_told
set_option Elab.async false
set_option linter.all false
set_option maxRecDepth 100000
set_option maxHeartbeats 4000000
namespace Sr
open PySem PySem.Spec PyProof.Rows L2

/-- a def of the top that may be called: its promise, its name -/
structure Cal (P : Program) (w : World) (K : PySem.W.Frag) (mg : Str → Option Value) (base : Heap) (k : Nat) (x : Str) (ps : List Str) (sp : Sp) : Prop where
  ex : ∃ (f : Addr) (fd : FuncData), FnOk P w K mg base CX0 k f fd ps sp ∧ mg x = some (.ref f) ∧ PySem.W.keepIn K (.ref f) = true ∧ Binds K fd ps []

theorem pe_cal {X : Cx} {k k' : Nat} {x : Str} {ps : List Str} {sp : Sp} {p pos : Pos} {e : Expr} {es : List Expr} {t : TA} (C : Cal X.prog X.w X.K X.mg X.base k x ps sp) (hr : Room k' X.A) (hk : k ≤ k') (hg : Gl X x) (ha : PA X (e :: es) t)
    (hdb : (x == ("__debug__" : Str)) = false := by decide) (he : starEach (e :: es) X.env = (false, eval e X.env) :: starEach es X.env := by rfl) (hpl : (backTo pos (starEach es X.env)).any (·.1) = false := by rfl) :
    PE X (.Call (.Name x p) (e :: es) [] pos) (tCall sp [] E0 t) := by
  obtain ⟨f, fd, F, hm, hkp, hb⟩ := C.ex
  exact pe_call F (hr.mono hk) hg hm hkp hb .nil pass0 ha hdb he hpl

/-- a def of the top as the head tells it -/
structure Dfn (K : PySem.W.Frag) (mg : Str → Option Value) (x : Str) (st : Stmt) : Prop where
  fn : ∃ fd, FunD K x x (defArgs st) (defBody st) (defScope st) [] [] (He.ga K x) fd
  at_ : mg x = some (.ref (He.ga K x))

theorem Dfn.cal {P : Program} {w : World} {K : PySem.W.Frag} {mg : Str → Option Value} {base : Heap} {x : Str} {st : Stmt} {N ps : List Str} {k : Nat} {sp : Sp} (D : Dfn K mg x st) (S : FnScope N ps (defScope st))
    (hb : ∀ (kV doc pm : Value) (an : Option Addr) (cdv ct : Value) (us : List Value), us.length = ps.length → bindArgs (PySem.W.fnOf x x (defArgs st) (defBody st) (defScope st) .none kV doc pm an cdv ct) ⟨us, []⟩ = pure (ps.zip us))
    (len : ∀ vs H Q E, sp vs H Q E → vs.length = ps.length)
    (body : ∀ (cdv : Value) (A : Around) (outer : List Env) (s : Shared) (H : Hp) (vs : List V) (Q : VK) (E : XK), Room k (A.deeper (envOfC x (defScope st) s.heap.objs.size (He.ga K x) cdv)) → sp vs H Q E →
      ∃ t, PSs (cxOf CX0 P w K mg base N x (defScope st) (He.ga K x) cdv A outer s H E).nox (defBody st) t ∧ t { nx := fun _ H' => Q .non H', rt := Q } (start N vs) H) :
    Cal P w K mg base (k + 1) x ps sp := by
  obtain ⟨fd, F⟩ := D.fn
  refine ⟨_, fd, F.ok S len fun cdv A outer s H vs Q E hr h => ?_, D.at_, F.kp, F.bindsN hb⟩
  obtain ⟨t, h1, h2⟩ := body cdv A outer s H vs Q E hr h
  exact ⟨t, PSs.nox h1, h2⟩

/-- a method of a class of the top -/
structure CalM (P : Program) (w : World) (K : PySem.W.Frag) (mg : Str → Option Value) (base : Heap) (CX : CXT) (k : Nat) (f : Addr) (ps : List Str) (sp : Sp) : Prop where
  ex : ∃ fd : FuncData, FnOk P w K mg base CX k f fd ps sp ∧ PySem.W.keepIn K (.ref f) = true ∧ Binds K fd ps []
/-- a method as the head tells it -/
structure DfnM (K : PySem.W.Frag) (c m qual : Str) (st : Stmt) : Prop where
  fn : ∃ fd, FunD K m qual (defArgs st) (defBody st) (defScope st) [] [] (He.fAd K (c, some m)) fd
theorem DfnM.cal {P : Program} {w : World} {K : PySem.W.Frag} {mg : Str → Option Value} {base : Heap} {c m qual : Str} {st : Stmt} {N ps : List Str} {k : Nat} {sp : Sp} (D : DfnM K c m qual st) (S : FnScope N ps (defScope st))
    (hb : ∀ (kV doc pm : Value) (an : Option Addr) (cdv ct : Value) (us : List Value), us.length = ps.length → bindArgs (PySem.W.fnOf m qual (defArgs st) (defBody st) (defScope st) .none kV doc pm an cdv ct) ⟨us, []⟩ = pure (ps.zip us))
    (len : ∀ vs H Q E, sp vs H Q E → vs.length = ps.length)
    (body : ∀ (cdv : Value) (A : Around) (outer : List Env) (s : Shared) (H : Hp) (vs : List V) (Q : VK) (E : XK), Room k (A.deeper (envOfC qual (defScope st) s.heap.objs.size (He.fAd K (c, some m)) cdv)) → sp vs H Q E →
      ∃ t, PSs (cxOf CX0 P w K mg base N qual (defScope st) (He.fAd K (c, some m)) cdv A outer s H E).nox (defBody st) t ∧ t { nx := fun _ H' => Q .non H', rt := Q } (start N vs) H) :
    CalM P w K mg base CX0 (k + 1) (He.fAd K (c, some m)) ps sp := by
  obtain ⟨fd, F⟩ := D.fn
  refine ⟨fd, F.ok S len fun cdv A outer s H vs Q E hr h => ?_, F.kp, F.bindsN hb⟩
  obtain ⟨t, h1, h2⟩ := body cdv A outer s H vs Q E hr h
  exact ⟨t, PSs.nox h1, h2⟩

/-- x in o, o an instance whose class says __contains__ -/
structure Has (K : PySem.W.Frag) (C f : Addr) : Prop where
  at_ : PySem.W.findIn K (.ref C) "__contains__" = some (some (.ref f))
  ty : PySem.W.typeIn K (.ref f) = some (.type "function")
def rInOwn (C : Addr) (sp : Sp) (E : XK) (neg : Bool) : R2 := fun x y H Q => ∃ a dx fs, y = .ref a ∧ H a = some (.ins C dx fs) ∧ sp [y, x] H (fun v H' => ∃ b, v = .bl b ∧ Q (.bl (if neg then !b else b)) H') E

theorem own_in {X : Cx} {CX : CXT} {k : Nat} {C f : Addr} {fd : FuncData} {ps : List Str} {sp : Sp} {E : XK} (F : FnOk X.prog X.w X.K X.mg X.base CX k f fd ps sp) (hr : Room k X.A) (hs : Has X.K C f) (hb : Binds X.K fd ps []) (hx : Passes CX X E)
    {pins : List (Addr × Obj)} {s : Shared} {σ : L2.St} {H : Hp} {x y : V} {v u : Value} {Q : Bool → Shared → Prop} (I : Inv X pins σ H s) (rx : RelV x v) (ry : RelV y u)
    (h : ∃ a dx fs, y = .ref a ∧ H a = some (.ins C dx fs) ∧ sp [y, x] H (fun v H' => ∃ b, v = .bl b ∧ ∀ s', Inv X pins σ H' s' → Q b s') E) :
    wpAny (model X.prog X.w) X.A (contains u v) Q X.xe s := by
  obtain ⟨a, dx, fs, rfl, ha, hsp⟩ := h
  cases ry
  obtain ⟨mA, J, _⟩ := ins_get I.hok ha
  obtain ⟨od, J, _⟩ := J.look
  unfold contains
  refine wpAny_holding ?_
  rw [stdlibNamesSay?_ref]
  refine wpAny_bind ?_
  unfold specialOf
  refine wpAny_bind (J.type.here ?_)
  refine (PySem.W.looks_findIn I.kIn hs.at_).here ?_
  show wpAny _ _ (if (some (Value.ref f) == some Value.none) = true then _ else _) _ _ _
  rw [if_neg (by simp)]
  refine wpAny_bind ?_
  unfold callSpecialUnlessNone?
  refine wpAny_bind ?_
  unfold specialOf
  refine wpAny_bind (J.type.here ?_)
  refine (PySem.W.looks_findIn I.kIn hs.at_).here ?_
  refine wpAny_holding ?_
  refine wpAny_bind ((PySem.W.bind_fn I.kIn (.ref a) hs.ty).here ?_)
  show wpAny _ _ (if (Value.ref f == Value.none) = true then _ else _) _ _ _
  rw [if_neg (by simp)]
  refine wpAny_bind ?_
  have r2 : Vals [V.ref a, x] [Value.ref a, v] := .cons rfl (.cons rx .nil)
  refine thn (run_fn (dvs := []) (ds := []) F hr hb .nil hx I r2 hsp) fun r s1 hq => ?_
  obtain ⟨z, H1, I1, rz, b, ez, hb1⟩ := hq
  subst ez
  obtain rfl : r = Value.bool b := rz
  exact wpAny_pure (wpAny_truthy_bool (hb1 s1 I1))

theorem op_inOwn {X : Cx} {CX : CXT} {k : Nat} {C f : Addr} {fd : FuncData} {ps : List Str} {sp : Sp} {E : XK} (F : FnOk X.prog X.w X.K X.mg X.base CX k f fd ps sp) (hr : Room k X.A) (hs : Has X.K C f) (hb : Binds X.K fd ps []) (hx : Passes CX X E)
    (hm : ∀ x y H Q Q' E, (∀ v H', Q v H' → Q' v H') → sp [x, y] H Q E → sp [x, y] H Q' E) :
    OpR X (compareOp .In) (rInOwn C sp E false) := by
  intro pins s σ H x y v u Q I rx ry h
  obtain ⟨a, dx, fs, e, ha, hsp⟩ := h
  show wpAny _ _ (do return Value.bool (← contains u v)) _ _ _
  refine wpAny_bind (own_in F hr hs hb hx (Q := fun b s' => wpAny (model X.prog X.w) X.A (pure (Value.bool b)) (EP X pins σ Q) X.xe s') I rx ry ⟨a, dx, fs, e, ha, hm _ _ _ _ _ _ (fun z H' hz => ?_) hsp⟩)
  obtain ⟨b, rfl, hq⟩ := hz
  exact ⟨b, rfl, fun s' I' => wpAny_pure ⟨.bl b, H', I', rfl, hq⟩⟩
theorem op_has {X : Cx} {k k' : Nat} {C f : Addr} {ps : List Str} {sp : Sp} (M : CalM X.prog X.w X.K X.mg X.base CX0 k f ps sp) (hr : Room k' X.A) (hk : k ≤ k') (hs : Has X.K C f)
    (hm : ∀ x y H Q Q' E, (∀ v H', Q v H' → Q' v H') → sp [x, y] H Q E → sp [x, y] H Q' E) : OpR X (compareOp .In) (rInOwn C sp E0 false) := by
  obtain ⟨fd, F, _, hb⟩ := M.ex
  exact op_inOwn F (hr.mono hk) hs hb pass0 hm
end Sr

set_option Elab.async false
set_option linter.all false
set_option maxRecDepth 100000
set_option maxHeartbeats 4000000
namespace Sr
open PySem PySem.Spec PyProof.Rows L2
open PySem.SeqAt
/-! ### set(texts): how many unlike ones -/
/-- the unlike texts among the first i, in the order in which they are met -/
def met (xs : List Str) : Nat → List Str
  | 0 => []
  | i + 1 => if (met xs i).any (· == xs.getD i Str.empty) = true then met xs i else met xs i ++ [xs.getD i Str.empty]
theorem met_le (xs : List Str) : ∀ i, (met xs i).length ≤ i
  | 0 => Nat.le_refl _
  | i + 1 => by
    have := met_le xs i
    unfold met
    split
    · omega
    · rw [List.length_append]; simp; omega
theorem met_any (xs : List Str) (i : Nat) (k : Str) : ((met xs i).any (· == k) || decide (k = xs.getD i Str.empty)) = (met xs (i + 1)).any (· == k) := by
  show _ = (if (met xs i).any (· == xs.getD i Str.empty) = true then met xs i else met xs i ++ [xs.getD i Str.empty]).any (· == k)
  split
  · rename_i h
    by_cases e : k = xs.getD i Str.empty
    · rw [e, h]; rfl
    · rw [decide_eq_false e, Bool.or_false]
  · rw [List.any_append]
    by_cases e : k = xs.getD i Str.empty
    · subst e; simp
    · rw [decide_eq_false e]
      have : (xs.getD i Str.empty == k) = false := by
        rw [beq_eq_false_iff_ne]; exact fun z => e z.symm
      simp only [List.any_cons, List.any_nil, this, Bool.or_false]
theorem met_len (xs : List Str) (i : Nat) : (if ((met xs i).any (· == xs.getD i Str.empty)) = true then (met xs i).length else (met xs i).length + 1) = (met xs (i + 1)).length := by
  show _ = (if (met xs i).any (· == xs.getD i Str.empty) = true then met xs i else met xs i ++ [xs.getD i Str.empty]).length
  split <;> rename_i h
  · rfl
  · rw [List.length_append]; rfl
abbrev nset (led : Bool) : Obj := { cls := .type "set", dict := none, data := .set #[] 0 (.fresh 0 0 led) }
section
variable {prog : Program} {w : World} {A : Around} {R : Result → Shared → Prop} {I : Addr} {fp wr : List Addr} {G : Array GenState → Array GenState → Prop} {n : Nat} {P : Nat → Value → Prop} {Stt : Nat → Shared → Prop}
theorem texts_loop (W : WalksS prog w A.in1 I fp wr G n P Stt) (S : Addr) (hSf : S ∉ fp) (xs : List Str) (hv : ∀ i v, P i v → ∃ t, v = .str (xs.getD i Str.empty) t) (hb : n + 1 < scanBound) (d : Nat) :
    ∀ (i : Nat) (s : Shared), n = i + d → Stt i s → s.heap.SetOf (PySem.strKind prog w) S (fun k => (met xs i).any (· == k)) (met xs i).length →
      (∀ s', Moved (S :: wr) G s s' → s'.heap.SetOf (PySem.strKind prog w) S (fun k => (met xs n).any (· == k)) (met xs n).length → R (.ok (.ret .none)) s') →
      codeAny (model prog w) A (.builtin "set.update.loop" ⟨[.ref S, .ref I], []⟩) R s := by
  have out : S ∉ wr := fun h => hSf (W.sub _ h)
  have more : ∀ b ∈ wr, b ∈ S :: wr := fun b h => List.mem_cons_of_mem _ h
  have moves : ∀ (s s' : Shared) (i : Nat), Moved wr G s s' → s.heap.SetOf (PySem.strKind prog w) S (fun k => (met xs i).any (· == k)) (met xs i).length →
      s'.heap.SetOf (PySem.strKind prog w) S (fun k => (met xs i).any (· == k)) (met xs i).length := fun s s' i hm ⟨o, es, ep, t, ho, r⟩ => ⟨o, es, ep, t, hm.heap S _ out ho, r⟩
  induction d with
  | zero =>
    intro i s hd hs hS hR
    obtain rfl : n = i := hd
    refine codeAny_builtin PyProof.Rows.F.entry_set_update_loop ?_
    rw [Around.under_plainId PyProof.Rows.F.plain_set_update_loop _]
    show wpAny _ A.in1 (pyNext (.ref I) >>= _) _ _ s
    refine wpAny_bind (W.done s _ _ hs fun s' hm => ?_)
    show wpAny _ A.in1 (ret Value.none) _ _ s'
    exact wpAny_pure (hR s' (hm.mono more) (moves s s' _ hm hS))
  | succ d ih =>
    intro i s hd hs hS hR
    have lt : i < n := by omega
    refine codeAny_builtin PyProof.Rows.F.entry_set_update_loop ?_
    rw [Around.under_plainId PyProof.Rows.F.plain_set_update_loop _]
    show wpAny _ A.in1 (pyNext (.ref I) >>= _) _ _ s
    refine wpAny_bind (W.item i s _ _ lt hs fun v s' hP hs' hm => ?_)
    obtain ⟨t, rfl⟩ := hv i v hP
    have hS' := moves s s' i hm hS
    show wpAny _ A.in1 (holding [Value.str (xs.getD i Str.empty) t] (setAdd S _) >>= _) _ _ s'
    refine wpAny_bind (wpAny_holding ?_)
    unfold setAdd
    refine wpAny_holding (wpAny_bind ((PySem.strKind prog w).pyHash (k := xs.getD i Str.empty) (strKind_is _ _ _ _) ?_))
    have room : (met xs i).length + 1 < scanBound := by have := met_le xs i; omega
    refine wpAny_setAddHashed_of (knd := PySem.strKind prog w) (s := { s' with toks := s'.toks + 1 }) (strKind_is _ _ _ _) rfl hS' room fun h' hsb hS2 => ?_
    have hS3 : h'.SetOf (PySem.strKind prog w) S (fun k => (met xs (i + 1)).any (· == k)) (met xs (i + 1)).length :=
      PyProof.Rows.SetOf_congr hS2 (fun k => met_any xs i k) (met_len xs i)
    refine wpAny_pure ⟨plainId_quiet PyProof.Rows.F.plain_set_update_loop _, ih (i + 1) _ (by omega) (W.frame _ s' _ _ hs' (Nat.le_succ _) fun b hb o e => ?_) hS3 fun s2 hm2 hS4 => ?_⟩
    · rw [hsb.2 b (fun h : b = S => hSf (by rw [← h]; exact hb))]
      exact e
    · refine hR s2 (Moved.trans W.gtrans ((hm.mono more).then_heap (Nat.le_succ _) fun b o hb e => ?_) hm2) hS4
      rw [hsb.2 b (fun h : b = S => hb (by rw [h]; exact List.mem_cons_self))]
      exact e
end
/-- what set(l) leaves -/
def SetOut (prog : Program) (w : World) (s : Shared) (xs : List Str) (n : Nat) (h' : Heap) : Prop :=
  h'.SetOf (PySem.strKind prog w) s.heap.objs.size (fun k => (met xs n).any (· == k)) (met xs n).length ∧ ∀ b o, b < s.heap.objs.size → s.heap.get? b = some o → h'.get? b = some o
section
variable {prog : Program} {w : World} {A : Around} {E : Value → Shared → Prop} {s : Shared}
theorem texts_set {l : Addr} {items : Array Value} {xs : List Str} {Q : Value → Shared → Prop} {ty : String} {walk : Obj} {wr : List Addr} {G : Array GenState → Array GenState → Prop} {Stt : Nat → Shared → Prop}
    (hl : s.heap.get? l ≠ none) (hi : PyProof.Rows.StrsAre items.toList xs) (hb : items.size + 1 < scanBound)
    (e1 : isSubtype (.type ty) (.type "set") = pure false) (e2 : isSubtype (.type ty) (.type "frozenset") = pure false) (e3 : (Value.type ty == Value.type "dict") = false)
    (hty : ∀ led, Shared.TypeIs { s with heap := s.heap.push (nset led) } (.ref l) ty)
    (hit : ∀ (led : Bool) (A : Around) (Q : Value → Shared → Prop) (E : Value → Shared → Prop), (∀ s' : Shared, s' = { s with heap := (s.heap.push (nset led)).push walk } → Q (.ref (s.heap.objs.size + 1)) s') → wpAny (model prog w) A (pyIter (.ref l)) Q E { s with heap := s.heap.push (nset led) })
    (hW : WalksS prog w A.in1.in1.in1 (s.heap.objs.size + 1) [s.heap.objs.size + 1, l] wr G items.size (fun i v => items[i]? = some v) Stt)
    (hG : ∀ a b, G a b → b = a)
    (hwr : ∀ b ∈ wr, b = s.heap.objs.size + 1)
    (hst : ∀ led, Stt 0 { s with heap := (s.heap.push (nset led)).push walk })
    (h : ∀ (h' : Heap) (tk : Nat), SetOut prog w s xs items.size h' → Q (.ref s.heap.objs.size) { s with heap := h', toks := tk }) :
    wpAny (model prog w) A (call (.type "set") [.ref l]) Q E s := by
  have lt : l < s.heap.objs.size := by
    cases e : s.heap.get? l with
    | none => exact absurd e hl
    | some o => exact Heap.lt_size e
  obtain ⟨c, tl, hmro⟩ := PySem.F.called_set.mro
  have a1 := PySem.F.called_set.made
  have a2 := PySem.F.called_set.sub
  have a3 := PySem.F.called_set.notType
  have a4 := PySem.F.called_set.canCreate
  have a5 := PySem.F.typeCall_set_1 (.ref l)
  refine wpAny_call (codeAny_of_tree ?_)
  show wpAny _ _ (callAny (.type "set") _) _ _ _
  refine wpAny_pure ⟨Code.quiet_builtin _ (by decide +kernel), codeAny_builtin PySem.F.entry_type_call ?_⟩
  rw [Around.under_plain (weight_type_call_type "set" [.ref l] []) rfl]
  repeat (any_goals (first | assumption | wp_step))
  refine codeAny_mono (code_set_new_1 (.ref l) (E := E) (Q₁ := fun obj t => ∃ led : Bool, obj = .ref s.heap.objs.size ∧ t = { s with heap := s.heap.push (nset led) }) fun led => ⟨led, rfl, rfl⟩) fun r t hr => ?_
  cases r with
  | error e => exact hr
  | ok fl =>
    cases fl with
    | ret obj =>
      obtain ⟨led, rfl, rfl⟩ := hr
      have b1 : (s.heap.push (nset led)).get? s.heap.objs.size = some (nset led) := Heap.get?_push_size _ rfl
      have b2 : Shared.TypeIs { s with heap := s.heap.push (nset led) } (.ref s.heap.objs.size) "set" := ⟨_, b1, rfl⟩
      have b3 := PySem.F.called_set.init.lookup
      have b4 := PySem.F.called_set.init.bind (.ref s.heap.objs.size)
      repeat (any_goals (first | assumption | wp_step))
      refine codeAny_mono (codeAny_call_builtin (R := wants (fun r t => r = .none ∧ ∃ h' tk, t = { s with heap := h', toks := tk } ∧ SetOut prog w s xs items.size h') E) PySem.F.called_set.init.plain PySem.F.entry_set_init (check_set_init_1 b2 ?_)) fun r t hr => ?_
      · have c1 := hty led
        unfold Builtin.«set.__init__» noKeywords Builtin.Frozenset.updateFrom
        generalize hPI : pyIter = PI
        wp_walk
        subst hPI
        refine hit led _ _ _ fun s' e => ?_
        subst e
        refine wpAny_bind (wpAny_runValue ?_)
        have nS : s.heap.objs.size ∉ [s.heap.objs.size + 1, l] := fun z => by
          rcases List.mem_cons.mp z with z | z
          · exact Nat.ne_of_lt (Nat.lt_succ_self _) z
          · exact Nat.ne_of_gt lt (List.mem_singleton.mp z)
        have hsz : xs.length = items.size := by rw [← PyProof.Rows.StrsAre.len_eq hi, Array.length_toList]
        have hS0 : ((s.heap.push (nset led)).push walk).SetOf (PySem.strKind prog w) s.heap.objs.size (fun k => (met xs 0).any (· == k)) (met xs 0).length := by
          have g : ((s.heap.push (nset led)).push walk).get? s.heap.objs.size = some (nset led) := Heap.get?_push_of_some _ b1
          exact PyProof.Rows.SetOf_congr ((PyProof.Rows.setObjOf_fresh (knd := PySem.strKind prog w) led).setOf g (by unfold scanBound; omega)) (fun _ => rfl) rfl
        refine texts_loop hW s.heap.objs.size nS xs (fun i v hv => SS.strs_at hi i v (by rw [Array.getElem?_toList]; exact hv)) hb items.size 0 _ (by omega) (hst led) hS0 fun s' hm hS' => ?_
        obtain ⟨h', g', d', tk', os'⟩ := s'
        obtain rfl : g' = s.gens := hG _ _ hm.gens
        obtain rfl : d' = s.drawn := hm.drawn
        obtain rfl : os' = s.os := hm.os
        show wpAny _ _ _ _ _ _
        refine wpAny_pure ?_
        show wpAny _ _ (ret Value.none) _ _ _
        refine wpAny_pure ⟨rfl, h', tk', rfl, hS', fun b o hb e => ?_⟩
        refine hm.heap b o ?_ (Heap.get?_push_of_some _ (Heap.get?_push_of_some _ e))
        intro z
        rcases List.mem_cons.mp z with z | z
        · exact Nat.ne_of_lt hb z
        · exact Nat.ne_of_lt (Nat.lt_succ_of_lt hb) (hwr b z)
      · cases r with
        | error e => exact hr
        | ok fl =>
          cases fl with
          | ret r =>
            obtain ⟨rfl, h', tk, rfl, o⟩ := hr
            repeat (any_goals (first | assumption | wp_step))
            exact h _ _ o
          | _ => exact hr.elim
    | _ => exact hr.elim
end

end Sr

set_option Elab.async false
set_option linter.all false
set_option maxRecDepth 100000
set_option maxHeartbeats 4000000
namespace Sr
open PySem PySem.Spec PyProof.Rows L2
open PySem.SeqAt

section
variable {X : Cx}
def tLenSetT (K : PySem.W.Frag) (ta : TE) : TE := fun σ H Q => ta σ H fun x H1 => ∃ (l : Addr) (xs : List Str), x = .ref l ∧ (SqL K H1 l (xs.map V.str) ∨ SqT K H1 l (xs.map V.str)) ∧ xs.length ≤ 60 ∧ Q (.int (met xs xs.length).length) H1
theorem pe_lenSetT {a : Expr} {ta : TE} {p p2 q pos : Pos} (hc : X.calm = true) (hg : Gl X "len") (hm : X.mg "len" = none) (hg2 : Gl X "set") (hm2 : X.mg "set" = none) (ha : PE X a ta)
    (na : starEach [a] X.env = (false, eval a X.env) :: starEach [] X.env := by rfl) : PE X (.Call (.Name "len" p) [.Call (.Name "set" p2) [a] [] q] [] pos) (tLenSetT X.K ta) := by
  refine ⟨fun pins s σ H Q I h => ?_⟩
  refine Call_ (ld_blt I hg hm boot_len ?_)
  refine PyProof.Rows.callWith_builtin1 (PyProof.Rows.args_cons ?_ rfl) rfl rfl
  refine Call_ (ld_blt (u := .type "set") I hg2 hm2 (by decide +kernel) ?_)
  refine PyProof.Rows.callWith_type1 (PyProof.Rows.args_cons (thn (ha.run pins s σ H _ I h) fun v s1 ⟨x, H1, I1, r1, q1⟩ => PyProof.Rows.args_nil ?_) na) na rfl
  obtain ⟨l, xs, rfl, hq, h1, q1⟩ := q1
  cases r1
  have fin : ∀ (its : List Value), Vals (xs.map V.str) its → ∀ (h' : Heap) (tk : Nat), SetOut X.prog X.w s1 xs its.toArray.size h' →
      wpAny (model X.prog X.w) X.A (spliced (backTo pos (starEach [] X.env))) (fun vs s₂ => wpAny (model X.prog X.w) X.A (call (.builtin "len") (Value.ref s1.heap.objs.size :: vs)) (EP X pins σ Q) X.xe s₂) X.xe { s1 with heap := h', toks := tk } := fun its r h' tk ⟨hS, hk⟩ => by
    refine PyProof.Rows.args_nil ?_
    have hl : its.toArray.size = xs.length := by rw [List.size_toArray, ← r.length, List.length_map]
    rw [hl] at hS
    have := met_le xs xs.length
    obtain ⟨o, es, ep, t, ho, hex, hd, _, _, _, hf, hn⟩ := hS
    have I2 : Inv X pins σ H1 { s1 with heap := h', toks := tk } := I1.kept fun b o e => hk b o (Heap.lt_size e) e
    exact call_len_set ho hex hd hf (by rw [hn] <;> omega) ⟨.int _, H1, I2.tok _, ⟨_, by rw [hn]⟩, q1⟩
  have zz : ∀ its : List Value, Vals (xs.map V.str) its → its.toArray.size + 1 < scanBound := fun its r => by
    rw [List.size_toArray, ← r.length, List.length_map]; unfold scanBound; omega
  have lts : ∀ {o : Obj}, s1.heap.get? l = some o → l < s1.heap.objs.size := fun e => Heap.lt_size e
  have hh : ∀ A : Around, A.handled = none → A.in1.in1.in1.handled = none := fun A h => by simp [h]
  have g2 : ∀ (led : Bool) (o : Obj) (ho : o.isFreed = false), ((s1.heap.push (nset led)).push o).get? (s1.heap.objs.size + 1) = some o := fun led o ho => by
    have e := Heap.get?_push_size (s1.heap.push (nset led)) ho
    rwa [Heap.size_push] at e
  have it : ∀ (led : Bool) (o : Obj) (Q : Value → Shared → Prop), (∀ s' : Shared, s' = { s1 with heap := (s1.heap.push (nset led)).push o } → Q (.ref (s1.heap.objs.size + 1)) s') → Q (.ref (s1.heap.push (nset led)).objs.size) { s1 with heap := (s1.heap.push (nset led)).push o } := fun led o Q k => by
    rw [Heap.size_push]
    exact k _ rfl
  rcases hq with hq | hq
  · obtain ⟨its, r, pl, hz⟩ := I1.list hq
    obtain ⟨ol, e, ec, nn, ed⟩ := pl.isList
    have il : s1.heap.IsList l its.toArray := ⟨ol, e, ec, nn, ed⟩
    have ne : l ≠ s1.heap.objs.size + 1 := Nat.ne_of_lt (Nat.lt_succ_of_lt (lts e))
    exact texts_set (ty := "list") (walk := { cls := .type "list_iterator", data := .fields #[.ref l, .int 0 0] }) (by rw [e]; simp) (by simpa using strsAre_of r) (zz its r) PySem.F.sub_list_set PySem.F.sub_list_frozenset (by decide) (fun led => ⟨_, Heap.get?_push_of_some _ e, ec⟩)
      (fun led A Q E k => wpAny_pyIter_list (il.push _) (it led _ Q k)) ((Walks.list (hh _ (I1.ok.hd hc)) _ l ne its.toArray).toS) (fun a b e => e) (fun b hb => List.mem_singleton.mp hb) (fun led => ⟨⟨_, g2 led _ rfl, rfl, rfl⟩, (il.push _).push _⟩) fun h' tk o => fin its r h' tk o
  · obtain ⟨its, r, pl, hz⟩ := I1.tuple hq
    have il : s1.heap.IsTuple l its.toArray := pl
    obtain ⟨ol, e, ec, nn, ed⟩ := pl
    have ne : l ≠ s1.heap.objs.size + 1 := Nat.ne_of_lt (Nat.lt_succ_of_lt (lts e))
    exact texts_set (ty := "tuple") (walk := { cls := .type "tuple_iterator", data := .fields #[.ref l, .int 0 0] }) (by rw [e]; simp) (by simpa using strsAre_of r) (zz its r) PySem.F.sub_tuple_set PySem.F.sub_tuple_frozenset (by decide) (fun led => ⟨_, Heap.get?_push_of_some _ e, ec⟩)
      (fun led A Q E k => wpAny_pyIter_tuple (il.push _) (it led _ Q k)) ((Walks.tuple (hh _ (I1.ok.hd hc)) _ l ne its.toArray).toS) (fun a b e => e) (fun b hb => List.mem_singleton.mp hb) (fun led => ⟨⟨_, g2 led _ rfl, rfl, rfl⟩, (il.push _).push _⟩) fun h' tk o => fin its r h' tk o
end
end Sr

set_option Elab.async false
set_option linter.all false
set_option maxRecDepth 100000
set_option maxHeartbeats 4000000
namespace Sr
open PySem PySem.Spec PyProof.Rows L2
/-! ### list(d.values()) -/
def tListValues (te : TE) : TE := fun σ H Q => te σ H fun x H1 => ∃ d kvs, x = .ref d ∧ H1 d = some (.dK kvs) ∧ ∀ p, H1 p = none → Q (.ref p) (upd H1 p (.lst (kvs.map (·.2))))
theorem vals_of_kv : ∀ {kvs : List (Key × V)} {vs : List (Key × Value)}, KV kvs vs → Vals (kvs.map (·.2)) (vs.map (·.2))
  | _, _, .nil => .nil
  | _, _, .cons h t => .cons h.2 (vals_of_kv t)
theorem pe_listValues {X : Cx} {e : Expr} {te : TE} {p apos cpos pos : Pos} (hg : Gl X "list") (hm : X.mg "list" = none) (he : PE X e te) (hc : X.calm = true := by rfl) (hbase : attributeBase e "values" X.env (eval e X.env) = eval e X.env := by rfl) (hline : (apos.endLine == cpos.line) = true := by rfl)
    (hs : starEach [.Call (.Attribute e "values" apos) [] [] cpos] X.env = (false, eval (.Call (.Attribute e "values" apos) [] [] cpos) X.env) :: starEach [] X.env := by rfl) :
    PE X (.Call (.Name "list" p) [.Call (.Attribute e "values" apos) [] [] cpos] [] pos) (tListValues te) := by
  refine ⟨fun pins s σ H Q I hq => ?_⟩
  refine wpAny_Call_Name_kw (ld_blt (u := .type "list") I hg hm (by decide +kernel) ?_)
  refine PyProof.Rows.callWith_type1 ?_ hs rfl
  rw [hs]
  show wpAny _ _ (spliced ((false, eval (.Call (.Attribute e "values" apos) [] [] cpos) X.env) :: backTo pos (starEach [] X.env))) _ _ s
  refine Calls.spliced_cons ?_
  refine wpAny_Call_method (T := "dict") (id := "dict.values") hbase rfl hline F.plainAttrs_dict F.slot_dict_values F.type_dict_values (thn (he.run pins s σ H _ I hq) fun u s1 ⟨x, H1, I1, rx, d, kvs, ex, hd, q⟩ => ?_)
  subst ex
  obtain rfl : u = Value.ref d := rx
  obtain ⟨hz, hs0, vs, kv, hdo⟩ := I1.hok d _ hd
  obtain ⟨ep, hat⟩ := hdo.dictAt
  have lk : kvs.length = vs.length := Paired.length kv
  have I2 : Inv X pins σ H1 { s1 with heap := s1.heap.push { cls := .type "dict_values", data := .fields #[.ref d] } } := I1.kept (t' := s1.toks) fun b ob q => Heap.get?_push_of_some _ q
  refine ⟨hdo.typeIs, hdo.mapOf.noDict, ?_⟩
  show wpAny _ _ (callWith cpos (.builtin "dict.values") [.ref d] [] []) _ X.xe s1
  refine method_meetsIn F.slot_dict_values F.entry_dict_values rfl (PySem.evalArgs_none ⟨rfl, hdo.typeIs, F.args_dict_values_1 _, _, meets_dict_values (mixKind X.prog X.w) d hs0, ⟨vs, hdo⟩, ?_⟩)
  refine Calls.spliced_nil ?_
  refine PySem.W.kdl_call (PySem.W.kdl_values (knd := mixKind X.prog X.w) (kvs := vs) (ep := ep) (d := d) (r := s1.heap.objs.size)) (I1.ok.hd hc) ⟨⟨_, Heap.get?_push_size _ rfl, rfl, rfl⟩, hat.push _⟩ (by omega) fun h' tk acc c hk hS hacc => ?_
  have ev : acc.toList = vs.map (·.2) := PySem.W.kdl_vals_eq _ (by rw [Array.length_toList]; exact hacc.1) fun j v e => hacc.2 j v (by rw [← Array.getElem?_toList]; exact e)
  have hv : Vals (kvs.map (·.2)) acc.toList := by rw [ev]; exact vals_of_kv kv
  exact ⟨.ref _, _, I2.laid (t' := tk) hk (Nat.le_refl _) (show ObjOk X.prog X.w _ _ _ (.lst (kvs.map (·.2))) from ⟨by rw [List.length_map]; exact hz, acc.toList, c, hv, by rw [Array.toArray_toList]; exact hS⟩), rfl, q _ (I2.hok.fresh (Nat.le_refl _))⟩
end Sr

set_option Elab.async false
set_option linter.all false
set_option maxRecDepth 100000
set_option maxHeartbeats 4000000
namespace Sr
open PySem PySem.Spec PyProof.Rows L2
/-! ### data as they are passed about -/
inductive Dt where
  | non | bl (b : Bool) | int (i : Int) | str (s : Str) | lst (l : List Dt) | tup (l : List Dt) | dic
mutual
/-- v stands for d in the heap H -/
inductive Is (H : Hp) : V → Dt → Prop
  | non : Is H .non .non
  | bl (b : Bool) : Is H (.bl b) (.bl b)
  | int (i : Int) : Is H (.int i) (.int i)
  | str (s : Str) (h : s.length ≤ 1000) : Is H (.str s) (.str s)
  | lst {a : Addr} {xs : List V} {ds : List Dt} : H a = some (.lst xs) → IsA H xs ds → xs.length ≤ 60 → Is H (.ref a) (.lst ds)
  | tup {a : Addr} {xs : List V} {ds : List Dt} : H a = some (.tup xs) → IsA H xs ds → xs.length ≤ 60 → Is H (.ref a) (.tup ds)
  | dic {a : Addr} {kvs : List (Key × V)} : H a = some (.dK kvs) → Is H (.ref a) .dic
inductive IsA (H : Hp) : List V → List Dt → Prop
  | nil : IsA H [] []
  | cons {v : V} {vs : List V} {d : Dt} {ds : List Dt} : Is H v d → IsA H vs ds → IsA H (v :: vs) (d :: ds)
end
mutual
theorem Is.mono {H H' : Hp} (e : Same H H') : ∀ {v : V} {d : Dt}, Is H v d → Is H' v d
  | _, _, .non => .non
  | _, _, .bl b => .bl b
  | _, _, .int i => .int i
  | _, _, .str s h => .str s h
  | _, _, .lst h r z => .lst (e _ _ h) (IsA.mono e r) z
  | _, _, .tup h r z => .tup (e _ _ h) (IsA.mono e r) z
  | _, _, .dic h => .dic (e _ _ h)
theorem IsA.mono {H H' : Hp} (e : Same H H') : ∀ {vs : List V} {ds : List Dt}, IsA H vs ds → IsA H' vs ds
  | _, _, .nil => .nil
  | _, _, .cons h r => .cons (Is.mono e h) (IsA.mono e r)
end
theorem IsA.len {H : Hp} : ∀ {vs : List V} {ds : List Dt}, IsA H vs ds → vs.length = ds.length
  | _, _, .nil => rfl
  | _, _, .cons _ r => congrArg (· + 1) (IsA.len r)
theorem IsA.get {H : Hp} : ∀ {vs : List V} {ds : List Dt} {i : Nat} {v : V}, IsA H vs ds → vs[i]? = some v → ∃ d, ds[i]? = some d ∧ Is H v d
  | _, _, _, _, .nil, e => by simp at e
  | _, _, 0, _, .cons h _, e => by simp at e; subst e; exact ⟨_, rfl, h⟩
  | _, _, i + 1, v, .cons _ r, e => by
    obtain ⟨d, h1, h2⟩ := IsA.get (i := i) (v := v) r (by simpa using e)
    exact ⟨d, by simpa using h1, h2⟩
theorem IsA.app {H : Hp} : ∀ {xs ys : List V} {ds es : List Dt}, IsA H xs ds → IsA H ys es → IsA H (xs ++ ys) (ds ++ es)
  | _, _, _, _, .nil, s => s
  | _, _, _, _, .cons h r, s => .cons h (IsA.app r s)
theorem IsA.take {H : Hp} : ∀ {xs : List V} {ds : List Dt} (n : Nat), IsA H xs ds → IsA H (xs.take n) (ds.take n)
  | _, _, 0, _ => by simp; exact .nil
  | _, _, _ + 1, .nil => .nil
  | _, _, n + 1, .cons h r => .cons h (IsA.take n r)
theorem IsA.drop {H : Hp} : ∀ {xs : List V} {ds : List Dt} (n : Nat), IsA H xs ds → IsA H (xs.drop n) (ds.drop n)
  | _, _, 0, r => r
  | _, _, _ + 1, .nil => .nil
  | _, _, n + 1, .cons _ r => IsA.drop n r
/-- the name of the type -/
def tyN : Dt → String
  | .non => "NoneType" | .bl _ => "bool" | .int _ => "int" | .str _ => "str" | .lst _ => "list" | .tup _ => "tuple" | .dic => "dict"
theorem Is.ty {K : PySem.W.Frag} {H : Hp} {v : V} {d : Dt} (h : Is H v d) : TyX K H v (.type (tyN d)) := by
  cases h with
  | non => exact .base .non
  | bl b => exact .base (.bl b)
  | int i => exact .base (.int i)
  | str s h => exact .base (.str s)
  | lst h r z => exact .base (.lst h)
  | tup h r z => exact .base (.tup h)
  | dic h => exact .base (.dK h)
def isSeq : Dt → Bool
  | .lst _ => true
  | .tup _ => true
  | _ => false
def isStr : Dt → Bool
  | .str _ => true
  | _ => false
def isInt : Dt → Bool
  | .int _ => true
  | .bl _ => true
  | _ => false
def isBl : Dt → Bool
  | .bl _ => true
  | _ => false
theorem kit_two {K : PySem.W.Frag} {t c1 c2 : Value} {a b : Bool} (h1 : PySem.W.kitOne K t c1 = some a) (h2 : PySem.W.kitOne K t c2 = some b) : PySem.W.kitAny K t [c1, c2] = some (a || b) := by
  refine kitAny_cons h1 (fun e => kitAny_cons h2 (fun e2 => ?_) fun e2 => ?_) fun e => ?_
  · rw [e, e2]; rfl
  · rw [e, e2]; rfl
  · rw [e]; rfl
def isLst : Dt → Bool
  | .lst _ => true
  | _ => false
def isTup : Dt → Bool
  | .tup _ => true
  | _ => false
theorem kit_list (K : PySem.W.Frag) : ∀ d : Dt, PySem.W.kitOne K (.type (tyN d)) (.type "list") = some (isLst d)
  | .non => kit_ty (show kitB "NoneType" "list" = some false by decide +kernel)
  | .bl b => kit_ty (show kitB "bool" "list" = some false by decide +kernel)
  | .int i => kit_ty (show kitB "int" "list" = some false by decide +kernel)
  | .str s => kit_ty (show kitB "str" "list" = some false by decide +kernel)
  | .lst l => kit_ty (show kitB "list" "list" = some true by decide +kernel)
  | .tup l => kit_ty (show kitB "tuple" "list" = some false by decide +kernel)
  | .dic => kit_ty (show kitB "dict" "list" = some false by decide +kernel)
theorem kit_tuple (K : PySem.W.Frag) : ∀ d : Dt, PySem.W.kitOne K (.type (tyN d)) (.type "tuple") = some (isTup d)
  | .non => kit_ty (show kitB "NoneType" "tuple" = some false by decide +kernel)
  | .bl b => kit_ty (show kitB "bool" "tuple" = some false by decide +kernel)
  | .int i => kit_ty (show kitB "int" "tuple" = some false by decide +kernel)
  | .str s => kit_ty (show kitB "str" "tuple" = some false by decide +kernel)
  | .lst l => kit_ty (show kitB "list" "tuple" = some false by decide +kernel)
  | .tup l => kit_ty (show kitB "tuple" "tuple" = some true by decide +kernel)
  | .dic => kit_ty (show kitB "dict" "tuple" = some false by decide +kernel)
theorem kit_seq (K : PySem.W.Frag) (d : Dt) : PySem.W.kitAny K (.type (tyN d)) [.type "list", .type "tuple"] = some (isSeq d) := by
  rw [kit_two (kit_list K d) (kit_tuple K d)]
  cases d <;> rfl
theorem kit_str (K : PySem.W.Frag) : ∀ d : Dt, PySem.W.kitOne K (.type (tyN d)) (.type "str") = some (isStr d)
  | .non => kit_ty (show kitB "NoneType" "str" = some false by decide +kernel)
  | .bl b => kit_ty (show kitB "bool" "str" = some false by decide +kernel)
  | .int i => kit_ty (show kitB "int" "str" = some false by decide +kernel)
  | .str s => kit_ty (show kitB "str" "str" = some true by decide +kernel)
  | .lst l => kit_ty (show kitB "list" "str" = some false by decide +kernel)
  | .tup l => kit_ty (show kitB "tuple" "str" = some false by decide +kernel)
  | .dic => kit_ty (show kitB "dict" "str" = some false by decide +kernel)
theorem kit_int (K : PySem.W.Frag) : ∀ d : Dt, PySem.W.kitOne K (.type (tyN d)) (.type "int") = some (isInt d)
  | .non => kit_ty (show kitB "NoneType" "int" = some false by decide +kernel)
  | .bl b => kit_ty (show kitB "bool" "int" = some true by decide +kernel)
  | .int i => kit_ty (show kitB "int" "int" = some true by decide +kernel)
  | .str s => kit_ty (show kitB "str" "int" = some false by decide +kernel)
  | .lst l => kit_ty (show kitB "list" "int" = some false by decide +kernel)
  | .tup l => kit_ty (show kitB "tuple" "int" = some false by decide +kernel)
  | .dic => kit_ty (show kitB "dict" "int" = some false by decide +kernel)
theorem kit_bool (K : PySem.W.Frag) : ∀ d : Dt, PySem.W.kitOne K (.type (tyN d)) (.type "bool") = some (isBl d)
  | .non => kit_ty (show kitB "NoneType" "bool" = some false by decide +kernel)
  | .bl b => kit_ty (show kitB "bool" "bool" = some true by decide +kernel)
  | .int i => kit_ty (show kitB "int" "bool" = some false by decide +kernel)
  | .str s => kit_ty (show kitB "str" "bool" = some false by decide +kernel)
  | .lst l => kit_ty (show kitB "list" "bool" = some false by decide +kernel)
  | .tup l => kit_ty (show kitB "tuple" "bool" = some false by decide +kernel)
  | .dic => kit_ty (show kitB "dict" "bool" = some false by decide +kernel)
/-- the texts of a list of data -/
def strsOf : List Dt → List Str
  | [] => []
  | .str s :: r => s :: strsOf r
  | _ :: r => strsOf r
theorem IsA.strs {H : Hp} : ∀ {xs : List V} {ds : List Dt}, IsA H xs ds → ds.all isStr = true → xs = (strsOf ds).map V.str
  | _, _, .nil, _ => rfl
  | _, _, .cons (.str s h) r, e => by
    have e2 := IsA.strs r (by simpa [isStr] using e)
    show _ = V.str s :: _
    rw [e2]
  | _, _, .cons .non r, e => by simp [isStr] at e
  | _, _, .cons (.bl b) r, e => by simp [isStr] at e
  | _, _, .cons (.int b) r, e => by simp [isStr] at e
  | _, _, .cons (.lst h z y) r, e => by simp [isStr] at e
  | _, _, .cons (.tup h z y) r, e => by simp [isStr] at e
  | _, _, .cons (.dic h) r, e => by simp [isStr] at e
theorem cls_two (a b : String) : Paired ClsV [V.ty a, V.ty b] [.type a, .type b] := .cons (.ty a) (.cons (.ty b) .nil)
theorem two_line : (2 : Nat) ≤ sizeLine := by rw [sizeLine_eq]; decide
theorem Same.up {H : Hp} {p : Addr} {o : HO} (h : H p = none) : Same H (upd H p o) := fun b u e => by
  rw [upd_ne (ne_of_none e h)]
  exact e
end Sr

set_option Elab.async false
set_option linter.all false
set_option maxRecDepth 100000
set_option maxHeartbeats 4000000
namespace Sr
open PySem PySem.Spec PyProof.Rows L2
/-- a comprehension of one name whose elements change nothing that stood: the list of what they are -/
theorem lc_pure {J : It} {n : Nat} {G : Hp → Prop} {Y : Nat → Hp → V → Hp → Prop} {At : Nat → V → Prop} (w : Walk J n G Y) (hy : ∀ i H x H', Y i H x H' → H' = H ∧ At i x) {te : TE} {j : Nat} {σ : L2.St} {H : Hp} {D : Addr} {Qd : Hp → Prop}
    (ys : List V) (hn : ys.length = n) (hz : n < sizeLine) (hD : H D = none) (hG : ∀ H', Same H H' → G H')
    (turn : ∀ (i : Nat) (x y : V) (H1 : Hp) (Q : VK), i < n → At i x → ys[i]? = some y → Same H H1 → (∀ H2, Same H1 H2 → Q y H2) → te ((σ.set j none).set j (some x)) H1 Q)
    (fin : ∀ H', Same H H' → H' D = some (.lst ys) → Qd H') :
    ∃ W : Nat → Nat → Hp → Prop, (∃ m, W 0 m (upd H D (.lst []))) ∧ ∀ i m H, W i m H →
      (J.stop i H ∧ Qd H) ∨ (J.go i H ∧ ∃ Nx : Hp → Prop, (∀ H', Nx H' → ∃ m', m' < m ∧ W (i + 1) m' H') ∧ ∀ x H', J.yld i H x H' → (gName j) x (wipe σ [j]) H' fun σ2 H2 => wipe σ2 [j] = wipe σ [j] ∧ tYes σ2 H2 fun b H3 =>
        if b = true then te σ2 H3 fun y H4 => ∃ acc, H4 D = some (.lst acc) ∧ acc.length < sizeLine ∧ Nx (upd H4 D (.lst (acc ++ [y]))) else Nx H3) := by
  have below : ∀ {H1 H2 : Hp} {o : HO}, Same H H1 → Same H1 H2 → Same H (upd H2 D o) := fun {H1 H2 o} a b c u e => by
    rw [upd_ne (ne_of_none e hD)]
    exact b _ _ (a _ _ e)
  refine lc_it w (fun i H' => Same H H' ∧ H' D = some (.lst (ys.take i))) ⟨Same.up hD, by rw [upd_same]; simp⟩ (fun i H' _ p => hG H' p.1) (fun i x H1 H2 hi p y => ?_) fun H' p => fin H' p.1 (by rw [p.2, ← hn, List.take_length])
  obtain ⟨rfl, hx⟩ := hy _ _ _ _ y
  refine ⟨?_, ?_⟩
  · show ((σ.set j none).set j (some x)).set j none = σ.set j none
    rw [List.set_set, List.set_set]
  · unfold tYes
    simp only [if_true]
    have hi' : i < ys.length := by omega
    refine turn i x ys[i] H2 _ hi hx (List.getElem?_eq_getElem hi') p.1 fun H3 s3 => ?_
    refine ⟨_, s3 _ _ p.2, by rw [List.length_take]; omega, below p.1 s3, ?_⟩
    rw [upd_same, List.take_add_one, List.getElem?_eq_getElem hi']
    rfl
theorem walk_at {xs : List V} : ∀ (i : Nat) (H : Hp) (x : V) (H' : Hp), YAt xs i H x H' → H' = H ∧ xs[i]? = some x := fun _ _ _ _ y => y
/-- all([.. for ..]) behind its list -/
theorem all_of {K : PySem.W.Frag} {H : Hp} {D : Addr} {bs : List Bool} {Q : VK} (h : H D = some (.lst (bs.map V.bl))) (q : Q (.bl (bs.all id)) H) : (rAll K) [V.ref D] H Q := ⟨D, bs, rfl, SqL.of h, q⟩
theorem sz {n m : Nat} (h : n ≤ m) (hm : m ≤ 1000000 := by decide) : n < sizeLine := by
  rw [sizeLine_eq]
  exact Nat.lt_of_le_of_lt (Nat.le_trans h hm) (by decide)
/-- a built-in class as a value -/
theorem pe_tyv {X : Cx} {x : Str} {n : String} {p : Pos} (hg : Gl X x) (hm : X.mg x = none) (hv : bootBuiltins x = some (.type n)) (hn : x ≠ "__name__" := by decide) (hd : (x == ("__debug__" : Str)) = false := by decide) : PE X (.Name x p) (tC (.ty n)) :=
  pe_bltn hg hm hv rfl hn hd
end Sr

set_option Elab.async false
set_option linter.all false
set_option maxRecDepth 100000
set_option maxHeartbeats 4000000
namespace Sr
open PySem PySem.Spec PyProof.Rows L2
/-! ### a table of the top with text keys, wholly known -/
theorem find_out {P : Params} {z : Str} : ∀ {es : List DictEntry} {ks : List Str}, es.map He.keyOf = He.keysIn P ks → z ∉ ks → es.find? (·.key.isStr z) = none ∧ es.any (·.refKey) = false
  | [], _, _, _ => ⟨rfl, rfl⟩
  | e :: r, [], h, _ => by cases h
  | e :: r, k :: ks, h, hz => by
    have h1 : He.keyOf e :: r.map He.keyOf = some (k, PyData.keyHash P k) :: He.keysIn P ks := h
    injection h1 with h2 h3
    obtain ⟨i1, i2⟩ := find_out h3 fun m => hz (List.mem_cons_of_mem _ m)
    have hk : k ≠ z := fun q => hz (by rw [q]; exact List.mem_cons_self)
    obtain ⟨hs, ky, vl⟩ := e
    unfold He.keyOf at h2
    cases ky with
    | str x t =>
      have e1 : (x, hs) = (k, PyData.keyHash P k) := Option.some.inj h2
      obtain rfl : x = k := congrArg Prod.fst e1
      have n1 : (Value.str x t).isStr z = false := by
        show (x == z) = false
        simpa using hk
      exact ⟨by rw [List.find?_cons, n1]; exact i1, by rw [List.any_cons, i2]; rfl⟩
    | _ => cases h2
theorem tab_list {K : PySem.W.Frag} {w : World} {a : Addr} {ks : List Str} (h : He.dicW K a = some (He.keysIn w.params ks)) : ∃ es n, KDict K w a es n ∧ es.toList.map He.keyOf = He.keysIn w.params ks := by
  obtain ⟨es, n, D⟩ := He.dicW_ok h
  refine ⟨es, n, D, ?_⟩
  unfold He.dicW at h
  rw [D.at_] at h
  have h1 : (match decide ("dict" = "dict") && (#[].isEmpty && !(a == sysModules)) with
    | true => some (es.toList.map He.keyOf)
    | false => none) = some (He.keysIn w.params ks) := h
  rw [D.low] at h1
  exact Option.some.inj h1
theorem nsIn_out {K : PySem.W.Frag} {w : World} {a : Addr} {es : Array DictEntry} {n : Nat} {ks : List Str} {z : Str} (D : KDict K w a es n) (h : es.toList.map He.keyOf = He.keysIn w.params ks) (hz : z ∉ ks) : PySem.W.nsIn K a z = some none := by
  obtain ⟨h1, h2⟩ := find_out h hz
  unfold PySem.W.nsIn
  rw [D.at_]
  show (match es.toList.find? (·.key.isStr z) with
      | some e => some (some e.val)
      | none => if es.toList.any (·.refKey) then none else some none) = some none
  rw [h1]
  show (if es.toList.any (·.refKey) then none else some none) = some none
  rw [h2]
  rfl
/-- a call of a local name that holds a def of the top -/
theorem pe_calL {X : Cx} {k k' i : Nat} {x x0 : Str} {ps : List Str} {sp : Sp} {a : Addr} {p pos : Pos} {e : Expr} {es : List Expr} {t : TA} (C : Cal X.prog X.w X.K X.mg X.base k x0 ps sp) (hm0 : X.mg x0 = some (.ref a)) (hr : Room k' X.A) (hk : k ≤ k') (hN : X.N[i]? = some x) (hv : Vis X.env.scope x) (ha : PA X (e :: es) t)
    (hdb : (x == ("__debug__" : Str)) = false := by decide) (hcd : (x == ("__classdict__" : Str)) = false := by decide)
    (he : starEach (e :: es) X.env = (false, eval e X.env) :: starEach es X.env := by rfl) (hpl : (backTo pos (starEach es X.env)).any (·.1) = false := by rfl) : PE X (.Call (.Name x p) (e :: es) [] pos) (tCallL i a sp [] E0 t) := by
  obtain ⟨f, fd, F, hm, hkp, hb⟩ := C.ex
  obtain rfl : f = a := by
    have := hm.symm.trans hm0
    injection this with this
    injection this
  exact pe_callL F (hr.mono hk) hN hv hkp hb .nil pass0 ha hdb hcd he hpl
end Sr

set_option Elab.async false
set_option linter.all false
set_option maxRecDepth 100000
set_option maxHeartbeats 4000000
namespace Sr
open PySem PySem.Spec PyProof.Rows L2
/-! ### dicts with text keys, as pairs of a text and what stands for it -/
/-- the entries of kvs are the texts ss, in order, and what Rv says of each stands under it -/
abbrev Ent (Rv : Str → V → Prop) (kvs : List (Key × V)) (ss : List Str) : Prop := Paired (fun kv s => kv.1 = Sum.inr s ∧ Rv s kv.2) kvs ss
theorem Ent.keys {Rv : Str → V → Prop} : ∀ {kvs : List (Key × V)} {ss : List Str}, Ent Rv kvs ss → kvs.map (·.1) = ss.map Sum.inr
  | _, _, .nil => rfl
  | _, _, .cons h r => by rw [List.map_cons, List.map_cons, h.1, Ent.keys r]
theorem Ent.imp {Rv Rv' : Str → V → Prop} (f : ∀ s v, Rv s v → Rv' s v) : ∀ {kvs : List (Key × V)} {ss : List Str}, Ent Rv kvs ss → Ent Rv' kvs ss
  | _, _, .nil => .nil
  | _, _, .cons h r => .cons ⟨h.1, f _ _ h.2⟩ (Ent.imp f r)
theorem Ent.len {Rv : Str → V → Prop} {kvs : List (Key × V)} {ss : List Str} (h : Ent Rv kvs ss) : kvs.length = ss.length := Paired.length h
theorem Ent.snoc {Rv : Str → V → Prop} {s : Str} {v : V} (hv : Rv s v) : ∀ {kvs : List (Key × V)} {ss : List Str}, Ent Rv kvs ss → Ent Rv (kvs ++ [(Sum.inr s, v)]) (ss ++ [s])
  | _, _, .nil => .cons ⟨rfl, hv⟩ .nil
  | _, _, .cons h r => .cons h (Ent.snoc hv r)
theorem Ent.at_ {Rv : Str → V → Prop} {s : Str} : ∀ {kvs : List (Key × V)} {ss : List Str}, Ent Rv kvs ss → s ∈ ss → ∃ v, valV kvs (Sum.inr s) = some v ∧ Rv s v
  | _, _, .cons (a := kv) (b := x) h r, m => by
    unfold valV
    rw [List.find?_cons]
    by_cases c : x = s
    · subst c
      rw [h.1, decide_eq_true rfl]
      exact ⟨_, rfl, h.2⟩
    · have m' : s ∈ _ := (List.mem_cons.mp m).resolve_left fun q => c q.symm
      rw [h.1, decide_eq_false fun q => c (Sum.inr.inj q)]
      exact Ent.at_ r m'
theorem Ent.out {Rv : Str → V → Prop} {s : Str} : ∀ {kvs : List (Key × V)} {ss : List Str}, Ent Rv kvs ss → s ∉ ss → valV kvs (Sum.inr s) = none
  | _, _, .nil, _ => rfl
  | _, _, .cons (a := kv) (b := x) h r, m => by
    unfold valV
    rw [List.find?_cons, h.1, decide_eq_false fun q => m (by rw [Sum.inr.inj q]; exact List.mem_cons_self)]
    exact Ent.out r fun q => m (List.mem_cons_of_mem _ q)
theorem Ent.has {Rv : Str → V → Prop} {kvs : List (Key × V)} {ss : List Str} (h : Ent Rv kvs ss) (s : Str) : (valV kvs (Sum.inr s)).isSome = decide (s ∈ ss) := by
  by_cases m : s ∈ ss
  · obtain ⟨v, e, _⟩ := h.at_ m
    rw [e, decide_eq_true m]
    rfl
  · rw [h.out m, decide_eq_false m]
    rfl
theorem putK_new {kvs : List (Key × V)} {k : Key} {v : V} (h : k ∉ kvs.map (·.1)) : putK kvs k v = kvs ++ [(k, v)] := by
  unfold putK
  rw [if_neg]
  intro q
  obtain ⟨kv, m, e⟩ := List.any_eq_true.mp q
  exact h (List.mem_map.mpr ⟨kv, m, of_decide_eq_true e⟩)
theorem Ent.put {Rv : Str → V → Prop} {kvs : List (Key × V)} {ss : List Str} {s : Str} {v : V} (h : Ent Rv kvs ss) (m : s ∉ ss) (hv : Rv s v) : Ent Rv (putK kvs (Sum.inr s) v) (ss ++ [s]) := by
  rw [putK_new]
  · exact h.snoc hv
  · rw [h.keys]
    intro q
    obtain ⟨x, m', e⟩ := List.mem_map.mp q
    exact m (by rw [← Sum.inr.inj e]; exact m')
/-- a dict comprehension of one name with unlike texts for keys; nothing that stood is changed -/
theorem dc_texts {J : It} {n : Nat} {G : Hp → Prop} {Y : Nat → Hp → V → Hp → Prop} {At : Nat → V → Prop} (w : Walk J n G Y) (hy : ∀ i H x H', Y i H x H' → H' = H ∧ At i x) {tk tv : TE} {j : Nat} {σ : L2.St} {H : Hp} {D : Addr} {Qd : Hp → Prop}
    (ss : List Str) (hn : ss.length = n) (nd : ss.Nodup) (hz : n < sizeLine) (hD : H D = none) (hG : ∀ H', Same H H' → G H') (Rv : Hp → Str → V → Prop) (mono : ∀ H1 H2 s v, Same H1 H2 → Rv H1 s v → Rv H2 s v)
    (lay : ∀ H1 s v c c', H1 D = some (.dK c) → Rv H1 s v → Rv (upd H1 D (.dK c')) s v)
    (turn : ∀ (i : Nat) (x : V) (s : Str) (H1 : Hp) (R : V → V → Hp → Prop), i < n → At i x → ss[i]? = some s → Same H H1 → (∀ H2 z, Same H1 H2 → Rv H2 s z → R (.str s) z H2) → tk ((σ.set j none).set j (some x)) H1 fun y H2 => tv ((σ.set j none).set j (some x)) H2 fun z H3 => R y z H3)
    (fin : ∀ H' kvs, Same H H' → H' D = some (.dK kvs) → Ent (Rv H') kvs ss → Qd H') :
    ∃ W : Nat → Nat → Hp → Prop, (∃ m, W 0 m (upd H D (.dK []))) ∧ ∀ i m H, W i m H →
      (J.stop i H ∧ Qd H) ∨ (J.go i H ∧ ∃ Nx : Hp → Prop, (∀ H', Nx H' → ∃ m', m' < m ∧ W (i + 1) m' H') ∧ ∀ x H', J.yld i H x H' → (gName j) x (wipe σ [j]) H' fun σ2 H2 => wipe σ2 [j] = wipe σ [j] ∧ tYes σ2 H2 fun b H3 =>
        if b = true then tk σ2 H3 fun y H4 => tv σ2 H4 fun z H5 => ∃ kvs k, y = kV k ∧ H5 D = some (.dK kvs) ∧ kvs.length < sizeLine ∧ Nx (upd H5 D (.dK (putK kvs k z))) else Nx H3) := by
  have below : ∀ {H1 H2 : Hp} {o : HO}, Same H H1 → Same H1 H2 → Same H (upd H2 D o) := fun {H1 H2 o} a b c u e => by
    rw [upd_ne (ne_of_none e hD)]
    exact b _ _ (a _ _ e)
  refine ⟨fun i m H' => m = n - i ∧ i ≤ n ∧ Same H H' ∧ ∃ kvs, H' D = some (.dK kvs) ∧ Ent (Rv H') kvs (ss.take i), ⟨n, by simp, Nat.zero_le _, Same.up hD, [], upd_same, by rw [List.take_zero]; exact .nil⟩, ?_⟩
  rintro i m H1 ⟨rfl, hi, s1, kvs, hd, he⟩
  by_cases lt : i < n
  · refine .inr ⟨w.goes i H1 lt (hG _ s1), fun H' => i + 1 ≤ n ∧ Same H H' ∧ ∃ kvs, H' D = some (.dK kvs) ∧ Ent (Rv H') kvs (ss.take (i + 1)), fun H' p => ⟨n - (i + 1), by omega, rfl, p⟩, fun x H2 y => ?_⟩
    obtain ⟨rfl, hx⟩ := hy _ _ _ _ (w.yields i H1 x H2 lt (hG _ s1) y)
    refine ⟨?_, ?_⟩
    · show ((σ.set j none).set j (some x)).set j none = σ.set j none
      rw [List.set_set, List.set_set]
    · unfold tYes
      simp only [if_true]
      have hi' : i < ss.length := by omega
      refine turn i x ss[i] H2 _ lt hx (List.getElem?_eq_getElem hi') s1 fun H3 z s3 rv => ?_
      have hl := he.len
      rw [List.length_take] at hl
      have nm : ss[i] ∉ ss.take i := fun q => by
        obtain ⟨a, ha, e⟩ := List.mem_take_iff_getElem.mp q
        exact (List.pairwise_iff_getElem.mp nd) a i (by omega) hi' (by omega) e
      refine ⟨kvs, Sum.inr ss[i], rfl, s3 _ _ hd, by omega, lt, below s1 s3, _, upd_same, ?_⟩
      rw [List.take_add_one, List.getElem?_eq_getElem hi']
      have r1 : Ent (Rv (upd H3 D (.dK (putK kvs (Sum.inr ss[i]) z)))) kvs (ss.take i) := he.imp fun s v r => lay _ _ _ _ _ (s3 _ _ hd) (mono _ _ _ _ s3 r)
      exact r1.put nm (lay _ _ _ _ _ (s3 _ _ hd) rv)
  · obtain rfl : i = n := by omega
    refine .inl ⟨w.stops H1 (hG _ s1), fin H1 kvs s1 hd ?_⟩
    rwa [← hn, List.take_length] at he
end Sr

set_option Elab.async false
set_option linter.all false
set_option maxRecDepth 100000
set_option maxHeartbeats 4000000
namespace Sr
open PySem PySem.Spec PyProof.Rows L2
/-! ### rules that name the written part, for a comprehension's block -/
section
variable {X : Cx}
theorem op_in_seqK (K : PySem.W.Frag) (hK : X.K = K) : OpR X (compareOp .In) (rIn K false) := hK ▸ op_in_seq
theorem call_isiK' (K : PySem.W.Frag) (hK : X.K = K) : CallR X (.builtin "isinstance") (rIsi K) := hK ▸ call_isi
theorem call_isiTK (K : PySem.W.Frag) (hK : X.K = K) : CallR X (.builtin "isinstance") (rIsiT K) := hK ▸ call_isiT
theorem ix_listK (K : PySem.W.Frag) (hK : X.K = K) : IxR X (rIxL K) := hK ▸ ix_list
theorem ix_tupK (K : PySem.W.Frag) (hK : X.K = K) : IxR X (rIxT K) := hK ▸ ix_tup
theorem call_len_seqK (K : PySem.W.Frag) (hK : X.K = K) : CallR X (.builtin "len") (fun xs H Q => ∃ p ys, xs = [.ref p] ∧ (SqL K H p ys ∨ SqT K H p ys) ∧ Q (.int ys.length) H) := hK ▸ call_len_seq
theorem call_list_ofK (K : PySem.W.Frag) (hK : X.K = K) : CallR X (.type "list") (fun xs H Q => ∃ p ys, xs = [.ref p] ∧ (SqL K H p ys ∨ SqT K H p ys) ∧ ∀ l, H l = none → Q (.ref l) (upd H l (.lst ys))) := hK ▸ call_list_of
theorem call_tuple_ofK (K : PySem.W.Frag) (hK : X.K = K) : CallR X (.type "tuple") (fun xs H Q => ∃ p ys, xs = [.ref p] ∧ ((SqL K H p ys ∧ ∀ l, H l = none → Q (.ref l) (upd H l (.tup ys))) ∨ (SqT K H p ys ∧ Q (.ref p) H))) := hK ▸ call_tuple_of
theorem op_eqDK (K : PySem.W.Frag) (hK : X.K = K) (h : X.A.units + 64 < cLine) : OpR X (compareOp .Eq) (rEqD K) := hK ▸ op_eqD h
theorem op_neDK (K : PySem.W.Frag) (hK : X.K = K) (h : X.A.units + 64 < cLine) : OpR X (compareOp .NotEq) (rNeD K) := hK ▸ op_neD h
end
theorem Paired.at2 {α β : Type} {F : α → β → Prop} : ∀ {l : List α} {m : List β} {i : Nat} {a : α} {b : β}, Paired F l m → l[i]? = some a → m[i]? = some b → F a b
  | _, _, _, _, _, .nil, h, _ => by simp at h
  | _, _, 0, _, _, .cons h _, h1, h2 => by
    simp at h1 h2
    rw [← h1, ← h2]
    exact h
  | _, _, i + 1, a, b, .cons _ r, h1, h2 => Paired.at2 (i := i) (a := a) (b := b) r (by simpa using h1) (by simpa using h2)
end Sr

set_option Elab.async false
set_option linter.all false
set_option maxRecDepth 100000
set_option maxHeartbeats 4000000
namespace Sr
open PySem PySem.Spec PyProof.Rows L2
/-! ### what a law's own steps leave: M is settled for ever, S may change -/
def DrawsO (o : HO) : Prop := ∃ x y z : Int, o = .lst [.int x, .int y, .int z]
def DrawsAt (H : Hp) (a : Addr) : Prop := ∃ o, H a = some o ∧ DrawsO o
structure Grow (S : List Addr) (M H M' H' : Hp) : Prop where
  stp : ∀ b o, b ∉ S → H b = some o → H' b = some o
  there : ∀ b, H b ≠ none → H' b ≠ none
  up : Same M M'
  nw : ∀ b o, M' b = some o → M b = some o ∨ H b = none
  sub : Same M' H'
theorem Grow.refl {S : List Addr} {M H : Hp} (s : Same M H) : Grow S M H M H := ⟨fun _ _ _ e => e, fun _ e => e, Same.refl _, fun _ _ e => .inl e, s⟩
theorem Grow.trans {S : List Addr} {M H M1 H1 M2 H2 : Hp} (g : Grow S M H M1 H1) (g' : Grow S M1 H1 M2 H2) : Grow S M H M2 H2 where
  stp := fun b o hb e => g'.stp b o hb (g.stp b o hb e)
  there := fun b e => g'.there b (g.there b e)
  up := g.up.trans g'.up
  nw := fun b o e => by
    rcases g'.nw b o e with h | h
    · exact g.nw b o h
    · cases q : H b with
      | none => exact .inr rfl
      | some u => exact absurd h (g.there b (by rw [q]; simp))
  sub := g'.sub
theorem Grow.mono {S S' : List Addr} {M H M' H' : Hp} (g : Grow S M H M' H') (h : ∀ b ∈ S, b ∈ S') : Grow S' M H M' H' :=
  ⟨fun b o hb e => g.stp b o (fun z => hb (h b z)) e, g.there, g.up, g.nw, g.sub⟩
/-- an address that stands and is not settled stays unsettled -/
theorem Grow.out {S : List Addr} {M H M' H' : Hp} (g : Grow S M H M' H') {b : Addr} (h1 : M b = none) (h2 : H b ≠ none) : M' b = none := by
  cases q : M' b with
  | none => rfl
  | some o =>
    rcases g.nw b o q with h | h
    · rw [h1] at h; cases h
    · exact absurd h h2
/-- nothing that stood is changed, nothing is settled -/
theorem Grow.same {S : List Addr} {M H H' : Hp} (s : Same M H) (e : Same H H') : Grow S M H M H' :=
  ⟨fun b o _ h => e b o h, fun b h => by
    cases q : H b with
    | none => exact absurd q h
    | some o => rw [e b o q]; simp, Same.refl _, fun _ _ h => .inl h, s.trans e⟩
/-- a new object, settled -/
theorem Grow.lay {S : List Addr} {M H : Hp} {p : Addr} {o : HO} (s : Same M H) (hp : H p = none) : Grow S M H (upd M p o) (upd H p o) := by
  have mp : M p = none := s.free hp
  refine ⟨fun b u _ e => Same.up hp b u e, fun b h => ?_, Same.up mp, fun b u e => ?_, fun b u e => ?_⟩
  · by_cases c : b = p
    · rw [c]; exact absurd hp (c ▸ h)
    · rw [upd_ne c]; exact h
  · by_cases c : b = p
    · rw [c]; exact .inr hp
    · rw [upd_ne c] at e; exact .inl e
  · by_cases c : b = p
    · rw [c] at e ⊢; rw [upd_same] at e ⊢; exact e
    · rw [upd_ne c] at e ⊢; exact s _ _ e
/-- an object that may change is changed -/
theorem Grow.chg {S : List Addr} {M H : Hp} {p : Addr} {o : HO} (s : Same M H) (mp : M p = none) (hS : p ∈ S) : Grow S M H M (upd H p o) :=
  ⟨fun b u hb e => by rw [upd_ne fun z => hb (by rw [z]; exact hS)]; exact e, fun b h => by
    by_cases c : b = p
    · rw [c, upd_same]; simp
    · rw [upd_ne c]; exact h, Same.refl _, fun _ _ h => .inl h, fun b u e => by
    rw [upd_ne fun z => by rw [z, mp] at e; cases e]
    exact s _ _ e⟩
/-- an object of one's own, made since, is changed -/
theorem Grow.own {S : List Addr} {M0 H0 M H : Hp} {p : Addr} {o : HO} (g : Grow S M0 H0 M H) (h0 : H0 p = none) (mp : M p = none) : Grow S M0 H0 M (upd H p o) :=
  ⟨fun b u hb e => by rw [upd_ne (ne_of_none e h0)]; exact g.stp b u hb e, fun b h => by
    by_cases c : b = p
    · rw [c, upd_same]; simp
    · rw [upd_ne c]; exact g.there b h, g.up, g.nw, fun b u e => by
    rw [upd_ne fun z => by rw [z, mp] at e; cases e]
    exact g.sub _ _ e⟩
/-- what was made since is settled from now on -/
theorem Grow.settle {S : List Addr} {M0 H0 M H : Hp} {p : Addr} {o : HO} (g : Grow S M0 H0 M H) (h0 : H0 p = none) (mp : M p = none) (hp : H p = some o) : Grow S M0 H0 (upd M p o) H :=
  ⟨g.stp, g.there, g.up.trans (Same.up mp), fun b u e => by
    by_cases c : b = p
    · rw [c]; exact .inr h0
    · rw [upd_ne c] at e; exact g.nw b u e, fun b u e => by
    by_cases c : b = p
    · rw [c] at e ⊢; rw [upd_same] at e; rw [hp]; exact e
    · rw [upd_ne c] at e; exact g.sub _ _ e⟩
theorem DrawsAt.some {H : Hp} {a : Addr} (d : DrawsAt H a) : H a ≠ none := by
  obtain ⟨o, e, _⟩ := d
  rw [e]
  simp
theorem seq_upd {K : PySem.W.Frag} {H : Hp} {a l : Addr} {o : HO} {xs : List V} (hn : l ≠ a) (h : SqL K H l xs ∨ SqT K H l xs) : SqL K (upd H a o) l xs ∨ SqT K (upd H a o) l xs := by
  have e : upd H a o l = H l := upd_ne hn
  rcases h with h | h
  · left
    rcases h with h | h
    · left
      rcases h with h | ⟨u, h⟩
      · exact .inl (e.trans h)
      · exact .inr ⟨u, e.trans h⟩
    · exact .inr h
  · right
    rcases h with h | h
    · left
      rcases h with h | ⟨u, h⟩
      · exact .inl (e.trans h)
      · exact .inr ⟨u, e.trans h⟩
    · exact .inr h
theorem atI_of {α : Type} {xs : List α} {i : Int} {j : Nat} {v : α} (e : i = (j : Int)) (h : xs[j]? = some v) : atI xs i = some v := by
  have hj : j < xs.length := (List.getElem?_eq_some_iff.mp h).1
  unfold atI ixN
  rw [if_pos (by omega), if_pos (by omega)]
  show xs[i.toNat]? = _
  rw [show i.toNat = j by omega]
  exact h
theorem iteB {b : Bool} {A B : Prop} (h1 : A) (h2 : B) : if b = true then A else B := by
  cases b
  · exact iteF h2
  · exact iteT h1
end Sr

set_option Elab.async false
set_option linter.all false
set_option maxRecDepth 100000
set_option maxHeartbeats 4000000
namespace Sr
open PySem PySem.Spec PyProof.Rows L2 RZ
/-! ### data of a depth, without dicts -/
inductive Dep : Nat → Dt → Prop
  | non (n : Nat) : Dep n .non
  | bl (n : Nat) (b : Bool) : Dep n (.bl b)
  | int (n : Nat) (i : Int) : Dep n (.int i)
  | str (n : Nat) (s : Str) : Dep n (.str s)
  | lst (n : Nat) (l : List Dt) : (∀ d ∈ l, Dep n d) → Dep (n + 1) (.lst l)
  | tup (n : Nat) (l : List Dt) : (∀ d ∈ l, Dep n d) → Dep (n + 1) (.tup l)
theorem kit_more {K : PySem.W.Frag} {t c c2 : Value} {r : List Value} {a b : Bool} (h1 : PySem.W.kitOne K t c = some a) (h2 : PySem.W.kitAny K t (c2 :: r) = some b) : PySem.W.kitAny K t (c :: c2 :: r) = some (a || b) := by
  refine kitAny_cons h1 (fun e => ?_) fun e => ?_
  · rw [e, h2]; rfl
  · rw [e]; rfl
theorem kit_ints (K : PySem.W.Frag) (d : Dt) : PySem.W.kitAny K (.type (tyN d)) [.type "bool", .type "int"] = some (isInt d) := by
  rw [kit_two (kit_bool K d) (kit_int K d)]
  cases d <;> rfl
theorem kit_four (K : PySem.W.Frag) (d : Dt) : PySem.W.kitAny K (.type (tyN d)) [.type "bool", .type "int", .type "list", .type "tuple"] = some (isInt d || isSeq d) := by
  rw [kit_more (kit_bool K d) (kit_more (kit_int K d) (kit_seq K d))]
  cases d <;> rfl
theorem cls_four (a b c d : String) : Paired ClsV [V.ty a, V.ty b, V.ty c, V.ty d] [.type a, .type b, .type c, .type d] := .cons (.ty a) (.cons (.ty b) (.cons (.ty c) (.cons (.ty d) .nil)))
theorem flat_eq {n : Nat} {H : Hp} {v u : V} {d : Dt} (dp : Dep n d) (hq : isSeq d = false) (iv : Is H v d) (iu : Is H u d) : v = u ∧ scal v u = true := by
  cases dp with
  | lst => cases hq
  | tup => cases hq
  | _ => cases iv; cases iu; exact ⟨rfl, rfl⟩
theorem walk_zipT {K : PySem.W.Frag} {a b : Addr} {xs ys : List V} {n : Nat} (hn : n = min xs.length ys.length) : Walk (ItzT K a b) n (fun H => SqT K H a xs ∧ SqT K H b ys) (YPair (fun i => xs[i]?) (fun i => ys[i]?)) := by
  subst hn
  refine ⟨fun i H hi g => ?_, fun H g => ?_, fun i H v H' _ g y => ?_⟩
  · exact ⟨xs, ys, xs[i]'(by omega), ys[i]'(by omega), g.1, g.2, List.getElem?_eq_getElem _, List.getElem?_eq_getElem _⟩
  · exact ⟨xs, ys, g.1, g.2, by omega⟩
  · obtain ⟨T, p, q, y1, y2, y3, y4, y5⟩ := y
    exact ⟨T, p, q, y1, y2, y3, y4 xs g.1, y5 ys g.2⟩
/-- a comprehension of two names over pairs whose elements change nothing that stood -/
theorem lc_pairs {J : It} {n : Nat} {G : Hp → Prop} {xs ys : Nat → Option V} (w : Walk J n G (YPair xs ys)) {K : PySem.W.Frag} {te : TE} {i j : Nat} {σ : L2.St} {H : Hp} {D : Addr} {Qd : Hp → Prop} (hij : i ≠ j)
    (zs : List V) (hn : zs.length = n) (hz : n < sizeLine) (hD : H D = none) (hG : ∀ H', Same H H' → G H')
    (turn : ∀ (k : Nat) (x y z : V) (H1 : Hp) (Q : VK), k < n → xs k = some x → ys k = some y → zs[k]? = some z → Same H H1 → (∀ H2, Same H1 H2 → Q z H2) → te ((wipe σ [i, j]).set i (some x) |>.set j (some y)) H1 Q)
    (fin : ∀ H', Same H H' → H' D = some (.lst zs) → Qd H') :
    ∃ W : Nat → Nat → Hp → Prop, (∃ m, W 0 m (upd H D (.lst []))) ∧ ∀ k m H, W k m H →
      (J.stop k H ∧ Qd H) ∨ (J.go k H ∧ ∃ Nx : Hp → Prop, (∀ H', Nx H' → ∃ m', m' < m ∧ W (k + 1) m' H') ∧ ∀ x H', J.yld k H x H' → (gTup K 2 (gCons (gName i) (gCons (gName j) gNil))) x (wipe σ [i, j]) H' fun σ2 H2 => wipe σ2 [i, j] = wipe σ [i, j] ∧ tYes σ2 H2 fun b H3 =>
        if b = true then te σ2 H3 fun y H4 => ∃ acc, H4 D = some (.lst acc) ∧ acc.length < sizeLine ∧ Nx (upd H4 D (.lst (acc ++ [y]))) else Nx H3) := by
  have below : ∀ {H1 H2 : Hp} {o : HO}, Same H H1 → Same H1 H2 → Same H (upd H2 D o) := fun {H1 H2 o} p q c u e => by
    rw [upd_ne (ne_of_none e hD)]
    exact q _ _ (p _ _ e)
  refine lc_it w (fun k H' => Same H H' ∧ H' D = some (.lst (zs.take k))) ⟨Same.up hD, by rw [upd_same]; simp⟩ (fun k H' _ p => hG H' p.1) (fun k v H1 H2 hk p y => ?_) fun H' p => fin H' p.1 (by rw [p.2, ← hn, List.take_length])
  obtain ⟨T, x, y, rfl, hT, rfl, hx, hy⟩ := y
  refine ⟨T, [x, y], rfl, SqT.of upd_same, rfl, ?_⟩
  have s2 : Same H1 _ := Same.up (o := .tup [x, y]) hT
  refine ⟨x, [y], rfl, y, [], rfl, rfl, ?_, ?_⟩
  · show ((((((σ.set j none).set i none).set i (some x)).set j (some y)).set j none).set i none) = (σ.set j none).set i none
    rw [List.set_set, List.set_set, List.set_comm _ _ hij, List.set_set, List.set_set]
  · unfold tYes
    simp only [if_true]
    have hk' : k < zs.length := by omega
    refine turn k x y zs[k] _ _ hk hx hy (List.getElem?_eq_getElem hk') (p.1.trans s2) fun H3 s3 => ?_
    refine ⟨_, s3 _ _ (s2 _ _ p.2), by rw [List.length_take]; omega, below (p.1.trans s2) s3, ?_⟩
    rw [upd_same, List.take_add_one, List.getElem?_eq_getElem hk']
    rfl
end Sr

set_option Elab.async false
set_option linter.all false
set_option maxRecDepth 100000
set_option maxHeartbeats 4000000
namespace Sr
open PySem PySem.Spec PyProof.Rows L2
/-! ### sorted(d) where the keys are pairs of texts -/
def pk (p : Str × Str) : List Key := [Sum.inr p.1, Sum.inr p.2]
def encP (p : Str × Str) : PyData := .tuple [.str p.1, .str p.2]
def pSort (l : List (Str × Str)) : List (Str × Str) := l.mergeSort (PySem.W.dataLe false encP)
theorem pSort_perm (l : List (Str × Str)) : (pSort l).Perm l := List.mergeSort_perm _ _
theorem encP_alike (p q : Str × Str) : PySem.W.alike (encP p) (encP q) = true := by simp [encP, PySem.W.alike, PySem.W.alikeAll]
theorem encP_depth (p : Str × Str) : (encP p).depth ≤ 2 := by
  show PyData.depth (.tuple [.str p.1, .str p.2]) ≤ 2
  simp [PyData.depth, PyData.depthAll]
theorem reads_pair {P : Program} {w : World} {H : Hp} {h : Heap} {q : Addr} {p : Str × Str} (hok : HOk P w H h) (hq : H q = some (.tup [.str p.1, .str p.2])) : PySem.Reads h (.ref q) (encP p) [] := by
  obtain ⟨_, its, rv, o, ho, hc, n, hd⟩ := hok q _ hq
  obtain ⟨a, t1, rfl, r1, t2⟩ := (show ∃ a t, its = a :: t ∧ RelV (.str p.1) a ∧ Vals [.str p.2] t from by cases rv with | cons h1 h2 => exact ⟨_, _, rfl, h1, h2⟩)
  obtain ⟨b, t3, rfl, r2, t4⟩ := (show ∃ a t, t1 = a :: t ∧ RelV (.str p.2) a ∧ Vals [] t from by cases t2 with | cons h1 h2 => exact ⟨_, _, rfl, h1, h2⟩)
  cases t4
  obtain ⟨u1, rfl⟩ := r1
  obtain ⟨u2, rfl⟩ := r2
  exact .tuple ho hc hd (.cons (as := []) (.str _ _) (.cons (as := []) (.str _ _) .nil))
def AtP (H : Hp) (q : Addr) (p : Str × Str) : Prop := H q = some (.tup [.str p.1, .str p.2])
theorem each_paired {α β : Type} {R : α → β → Prop} : ∀ {l : List α} {m : List β}, PySem.W.EachIs R l m → Paired R l m
  | _, _, .nil => .nil
  | _, _, .cons h t => .cons h (each_paired t)
theorem each_of {H : Hp} : ∀ {kvs : List (List Key × V)} {ks : List (List Key × Addr × Value)} {bs : List (Str × Str)}, Paired (fun (p : List Key × V) (q : List Key × Addr × Value) => p.1 = q.1 ∧ H q.2.1 = some (.tup (p.1.map kV)) ∧ RelV p.2 q.2.2) kvs ks →
    kvs.map (·.1) = bs.map pk → PySem.W.EachIs (fun v b => ∃ q, v = Value.ref q ∧ AtP H q b) (ks.map fun x => Value.ref x.2.1) bs
  | _, _, [], .nil, _ => .nil
  | _, _, _ :: _, .nil, h => by cases h
  | _, _, [], .cons _ _, h => by cases h
  | _, _, b :: bs, .cons h1 h2, h => by
    rw [List.map_cons, List.map_cons] at h
    obtain ⟨e1, e2⟩ := List.cons.inj h
    refine .cons ⟨_, rfl, ?_⟩ (each_of h2 e2)
    have h3 := h1.2.1
    rw [e1] at h3
    exact h3
theorem vals_of_each {H : Hp} : ∀ {vs : List Value} {bs : List (Str × Str)}, PySem.W.EachIs (fun v b => ∃ q, v = Value.ref q ∧ AtP H q b) vs bs → ∃ qs : List Addr, vs = qs.map Value.ref ∧ Vals (qs.map V.ref) vs ∧ Paired (AtP H) qs bs
  | _, _, .nil => ⟨[], rfl, .nil, .nil⟩
  | _, _, .cons ⟨q, e, h⟩ t => by
    obtain ⟨qs, e1, e2, e3⟩ := vals_of_each t
    exact ⟨q :: qs, by rw [e, e1]; rfl, by rw [e]; exact .cons rfl e2, .cons h e3⟩
section
variable {X : Cx}
theorem call_sortedDT (hcalm : X.calm = true) (hu : X.A.units + 64 < cLine) : CallR X (.builtin "sorted") (fun xs H Q => ∃ (a : Addr) (kvs : List (List Key × V)) (bs : List (Str × Str)), xs = [.ref a] ∧ Rd H a (.dT kvs) ∧ kvs.map (·.1) = bs.map pk ∧ bs.length ≤ 1000 ∧
    ∀ qs p, Paired (AtP H) qs (pSort bs) → H p = none → Q (.ref p) (upd H p (.lst (qs.map V.ref)))) := by
  intro pins s σ H xs us Q I r q
  obtain ⟨a, kvs, bs, ex, hd, hks, hz, q⟩ := q
  subst ex
  obtain ⟨u, eu, rx⟩ := vals1 r
  subst eu
  cases rx
  obtain ⟨z, hs, ks, pr, o, es, ep, ho, hx, hdt, he, hn⟩ := (show ObjOk X.prog X.w H s.heap a (.dT kvs) from hd.ok I.hok)
  have l1 : es.size = ks.length := size_of_entries he
  have l2 : kvs.length = ks.length := Paired.length pr
  have l3 : kvs.length = bs.length := by
    have e := congrArg List.length hks
    rwa [List.length_map, List.length_map] at e
  have h16 : es.size ≤ sizeLine := by rw [l1, ← l2, l3, sizeLine_eq]; omega
  refine Calls.call_function_entry PyProof.Rows.kind_sorted PyProof.Rows.plain_sorted PyProof.Rows.entry_sorted (PyProof.Rows.args_sorted1 _) ?_
  unfold Builtin.«sorted»
  refine wpAny_bind (m := checkCount "sorted" 1 1 _) (wpAny_pure ?_)
  refine wpAny_bind (PySem.W.kdu_collect (A := X.A.in1) (kdl_raw hs hx hdt) (I.ok.hd hcalm) ho h16 fun h' tk acc hk hacc => ?_)
  have ea : acc.toList = ks.map fun x => Value.ref x.2.1 := by
    have hl : acc.toList.length = ks.length := by rw [Array.length_toList, hacc.1]; exact l1
    apply List.ext_getElem?
    intro j
    rw [List.getElem?_map]
    cases hj : acc.toList[j]? with
    | none =>
      have h1 := List.getElem?_eq_none_iff.mp hj
      rw [List.getElem?_eq_none (by omega)]
      rfl
    | some v =>
      obtain ⟨en, hen, hv⟩ := hacc.2 j v (by rw [← Array.getElem?_toList]; exact hj)
      have qe := entry_at he j
      rw [hen] at qe
      cases hb : ks[j]? with
      | none =>
        rw [hb] at qe
        exact nomatch (show some en = none from qe)
      | some b =>
        rw [hb] at qe
        have e2 : en = entryOfKey (tupleKind (mixKind X.prog X.w)) b := Option.some.inj qe
        rw [hv, e2]
        rfl
  have e0 : PySem.W.EachIs (fun v b => ∃ q, v = Value.ref q ∧ AtP H q b) acc.toList bs := by rw [ea]; exact each_of pr hks
  have I1 : Inv X pins σ H { s with heap := h', toks := tk } := I.kept hk
  have hal : acc.toList.length = bs.length := e0.length
  refine wpAny_bind (wpAny_newList ?_ (by rw [hal, sizeLine_eq]; omega))
  have hoL : (h'.push (seqObj "list" acc.toList.toArray 0)).get? h'.objs.size = some (seqObj "list" acc.toList.toArray 0) := Heap.get?_push_size _ rfl
  show wpAny _ _ _ _ _ { s with heap := h'.push (seqObj "list" acc.toList.toArray 0), toks := tk }
  have k2 : ∀ b o, h'.get? b = some o → (h'.push (seqObj "list" acc.toList.toArray 0)).get? b = some o := fun b o e => Heap.get?_push_of_some _ e
  have hok2 : HOk X.prog X.w H (h'.push (seqObj "list" acc.toList.toArray 0)) := I1.hok.kept k2
  have er : PySem.W.EachIs (fun v b => ∃ as, Reads (h'.push (seqObj "list" acc.toList.toArray 0)) v (encP b) as ∧ h'.objs.size ∉ as) acc.toList bs := e0.mono fun v b ⟨q, e, h⟩ => ⟨[], by rw [e]; exact reads_pair hok2 h, by simp⟩
  refine wpAny_bind (wpAny_holding (PySem.W.list_sort_data (s := { s with heap := h'.push (seqObj "list" acc.toList.toArray 0), toks := tk }) (enc := encP) hoL e0 er (PySem.W.AllAlike.of encP_alike) (PySem.W.Sortable.tuples fun b => ⟨_, _, rfl⟩) (by rw [sizeLine_eq]; omega) (fun b _ => ?_) fun out hlen eo => ?_))
  · have := encP_depth b
    simp only [Around.in1_units]
    omega
  obtain ⟨qs, e1, e2, e3⟩ := vals_of_each eo
  obtain ⟨e', he'⟩ := PyProof.Rows.sortedHeap_at (vs := acc.toList) (out := out.toArray) hoL
  have hlen2 : (qs.map V.ref).length ≤ sizeLine := by
    rw [e2.length, hlen, sizeLine_eq]
    omega
  refine wpAny_pure ⟨_, rfl, .ref h'.objs.size, upd H h'.objs.size (.lst (qs.map V.ref)), I1.laid (t' := tk) (fun b u e => ?_) (Nat.le_refl _)
    (show ObjOk X.prog X.w _ _ _ (.lst (qs.map V.ref)) from ⟨hlen2, out, e', e2, he'⟩), rfl, q qs _ e3 (I1.hok.fresh (Nat.le_refl _))⟩
  have hb : b < h'.objs.size := Heap.lt_size e
  rw [PyProof.Rows.sortedHeap_old (Nat.ne_of_lt hb) (by rw [size_push']; exact Nat.lt_succ_of_lt hb)]
  exact Heap.get?_push_of_some _ e
/-! ### dict(pairs) where the keys are tuples, all unlike -/
theorem tupPairs_of {pins : List (Addr × Obj)} {σ : L2.St} {H : Hp} {s : Shared} (I : Inv X pins σ H s) : ∀ {ts : List Addr} {kvs : List (List Key × V)}, Paired (fun t kv => ∃ q, SqT X.K H t [.ref q, kv.2] ∧ H q = some (.tup (kv.1.map kV))) ts kvs →
    ∃ xs : List (List Key × Addr × Value), KT H kvs xs ∧ xs.length = ts.length ∧ ∀ (j : Nat) (x : List Key × Addr × Value), xs[j]? = some x → ∃ t, ts[j]? = some t ∧ IsTup s.heap t #[.ref x.2.1, x.2.2] ∧ H x.2.1 = some (.tup (x.1.map kV))
  | _, _, .nil => ⟨[], .nil, rfl, fun j q e => by simp at e⟩
  | _, _, .cons (a := t) (b := kv) h r => by
    obtain ⟨xs, r1, hl, hp⟩ := tupPairs_of I r
    obtain ⟨q, hq, hk⟩ := h
    obtain ⟨its, rv, ht, _⟩ := I.tuple hq
    obtain ⟨u, y, ei, ru, ry⟩ := vals2 rv
    subst ei
    obtain rfl : u = Value.ref q := ru
    refine ⟨(kv.1, q, y) :: xs, .cons ⟨rfl, hk, ry⟩ r1, by rw [List.length_cons, List.length_cons, hl], fun j x e => ?_⟩
    cases j with
    | zero =>
      obtain rfl : (kv.1, q, y) = x := Option.some.inj e
      exact ⟨t, rfl, ht, hk⟩
    | succ j =>
      obtain ⟨t', e1, e2⟩ := hp j x (by simpa using e)
      exact ⟨t', by simpa using e1, e2⟩
theorem stored_snoc : ∀ (ps acc : List (List Key × Addr × Value)), ((acc ++ ps).map (·.1)).Nodup → PySem.storedAllH acc ps = acc ++ ps
  | [], acc, _ => by simp [PySem.storedAllH]
  | p :: r, acc, h => by
    have e : PySem.storedH acc p.1 p.2.1 p.2.2 = acc ++ [p] := by
      refine PySem.storedH_new ?_ _ _
      have nm : p.1 ∉ acc.map (·.1) := by
        rw [List.map_append, List.map_cons] at h
        intro m
        exact (List.nodup_append.mp h).2.2 _ m _ List.mem_cons_self rfl
      unfold PySem.atKey
      rw [List.find?_eq_none.mpr]
      · rfl
      · intro x hx e
        exact nm (List.mem_map.mpr ⟨x, hx, of_decide_eq_true e⟩)
    have h2 : ((acc ++ [p] ++ r).map (·.1)).Nodup := by simpa using h
    have e2 := stored_snoc r (acc ++ [p]) h2
    show PySem.storedAllH (PySem.storedH acc p.1 p.2.1 p.2.2) r = _
    rw [e, e2]
    simp
theorem keys_eq {H : Hp} : ∀ {kvs : List (List Key × V)} {xs : List (List Key × Addr × Value)}, KT H kvs xs → kvs.map (·.1) = xs.map (·.1)
  | _, _, .nil => rfl
  | _, _, .cons h t => by rw [List.map_cons, List.map_cons, h.1, keys_eq t]
theorem call_dictPT (hcalm : X.calm = true) (hu : X.A.units + 64 < cLine) : CallR X (.type "dict") (fun xs H Q => ∃ (a : Addr) (ts : List Addr) (kvs : List (List Key × V)), xs = [.ref a] ∧ SqL X.K H a (ts.map V.ref) ∧ Paired (fun t kv => ∃ q, SqT X.K H t [.ref q, kv.2] ∧ H q = some (.tup (kv.1.map kV))) ts kvs ∧
    (kvs.map (·.1)).Nodup ∧ ∀ p, H p = none → Q (.ref p) (upd H p (.dT kvs))) := by
  intro pins s σ H xs us Q I r q
  obtain ⟨a, ts, kvs, ex, hq, hp, nd, q⟩ := q
  subst ex
  obtain ⟨u, eu, rx⟩ := vals1 r
  subst eu
  cases rx
  obtain ⟨its, rv, pl, hz⟩ := I.list hq
  have ei := refs_at rv
  subst ei
  rw [List.length_map] at hz
  obtain ⟨ps, kt, hl, hpr⟩ := tupPairs_of I hp
  obtain ⟨o, n, ho, hc, hd, hdat⟩ := pl
  have len2 : (ps.map fun x => (Value.ref x.2.1, x.2.2)).length = ts.length := by rw [List.length_map, hl]
  have P := PairArg.list (prog := X.prog) (w := X.w) a (ts.map Value.ref).toArray (fun j => ts.getD j 0) (ps.map fun x => (Value.ref x.2.1, x.2.2))
  refine call_dict_pairsH (knd := tupleKind (mixKind X.prog X.w)) (ps := ps) P (I.ok.hd hcalm) (by show _ + 1 < cLine; simp only [Around.in1_units]; omega) ⟨⟨o, n, ho, hc, hd, hdat⟩, by simp [hl], fun j k v e => ?_⟩ ⟨by simp, fun i k v e => ?_⟩ (fun h' hk x hx => ?_) (by rw [len2]; exact hz) fun h' tk hd' hk => ?_
  · rw [List.getElem?_map] at e
    obtain ⟨x, hx, e⟩ := Option.map_eq_some_iff.mp e
    obtain ⟨t, e1, e2, e3⟩ := hpr j x hx
    cases e
    have g : ts.getD j 0 = t := by rw [List.getD_eq_getElem?_getD, e1]; rfl
    exact ⟨by simp [e1], .inl (by show IsTup s.heap (ts.getD j 0) _; rw [g]; exact e2)⟩
  · have e : (ps.map fun x => (Value.ref x.2.1, x.2.2))[i]? = some (k, v) := e
    rw [List.getElem?_map] at e
    obtain ⟨x, hx, e⟩ := Option.map_eq_some_iff.mp e
    cases e
    exact ⟨x.1, x.2.1, hx, rfl⟩
  · obtain ⟨j, hj⟩ := List.mem_iff_getElem?.mp hx
    obtain ⟨t, e1, e2, e3⟩ := hpr j x hj
    have k0 := key_of (P := X.prog) (w := X.w) I.hok e3
    obtain ⟨o', items, n', g1, g2⟩ := k0
    exact ⟨o', items, n', hk _ _ (Nat.ne_of_lt (Heap.lt_size g1)) (by simp) g1, g2⟩
  · have hm : (s.heap.objs.size == sysModules) = false := beq_eq_false_iff_ne.mpr (Nat.ne_of_gt I.big)
    have nd2 : (ps.map (·.1)).Nodup := by rw [← keys_eq kt]; exact nd
    rw [stored_snoc ps [] (by simpa using nd2)] at hd'
    obtain ⟨o', es, ep, g1, g2, g3, g4, g5, g6⟩ := hd'
    have hlen : kvs.length ≤ sizeLine := by rw [Paired.length kt, hl]; exact hz
    have keep : ∀ b o, s.heap.get? b = some o → h'.get? b = some o := fun b o e => hk b o (by simp) e
    refine ⟨.ref s.heap.objs.size, upd H s.heap.objs.size (.dT kvs), I.laid (t' := tk) keep (Nat.le_refl _) (show ObjOk X.prog X.w _ _ _ (.dT kvs) from ⟨hlen, hm, ps, kt.keeps fun b ys e => ?_, o', es, ep, g1, g2, g3, g4, g6⟩), rfl, q _ (I.hok.fresh (Nat.le_refl _))⟩
    first
      | exact e
      | (rw [upd_ne (ne_of_none e (I.hok.fresh (Nat.le_refl _)))]; exact e)
end
end Sr

set_option Elab.async false
set_option linter.all false
set_option maxRecDepth 100000
set_option maxHeartbeats 4000000
namespace Sr
open PySem PySem.Spec PyProof.Rows L2
/-! ### several except clauses, each with a name for the error -/
abbrev Su := Addr → Value → Option Addr → TS
/-- a clause: the class, the slot of the name, what the suite does -/
abbrev Clause := Value × Nat × Su
/-- the ends of a suite: the name goes -/
def gone (i : Nat) (D : Ends) : Ends where
  nx := fun σ H => D.nx (σ.set i none) H
  rt := D.rt
  bk := fun σ H => D.bk (σ.set i none) H
  ct := fun σ H => D.ct (σ.set i none) H
def wNamed (K : PySem.W.Frag) (Wout : WX) (D : Ends) : List Clause → WX
  | [] => Wout
  | k :: r => fun cls d σ H => ∃ hit, PySem.W.exmOne K cls k.1 = some hit ∧
      (if hit = true then ∀ a, H a = none → k.2.2 a cls d (gone k.2.1 D) (σ.set k.2.1 (some (.ref a))) H else wNamed K Wout D r cls d σ H)
structure ClauseOk (X : Cx) (h : ExceptHandler) (k : Clause) : Prop where
  is_ : ∃ (x n : Str) (b₀ : Stmt) (rest : List Stmt) (p q : Pos), h = .ExceptHandler (some (.Name x p)) (some n) (b₀ :: rest) q ∧ Names X x k.1 ∧ X.N[k.2.1]? = some n ∧ X.env.kindOf n = some .local ∧
    ∀ (a : Addr) (oe : Obj) (cls : Value) (d : Option Addr) (pn : List (Addr × Obj)), Zc cls d oe → (∃ vs, oe.data = .fields vs) → PSs (X.suite a ((a, oe) :: pn)) (b₀ :: rest) (k.2.2 a cls d)
/-- an error has been caught: what stood stays, the error flies no more -/
def Fell (X : Cx) (pins : List (Addr × Obj)) (σ : L2.St) (H : Hp) (B : Heap) (a : Addr) (cls : Value) (d : Option Addr) (t : Shared) : Prop :=
  ∃ sI : Shared, Inv X pins σ H sI ∧ (∀ b o, sI.heap.get? b = some o → b ∉ frs X.stack → B.get? b = some o) ∧ sI.heap.UpToSlots t.heap ∧
    HandSPX.FlyingZ B (X.env :: X.outer) a (Zc cls d) t.heap ∧ H a = none ∧ t.os = sI.os ∧ AllBare t.gens
section
variable {X : Cx} {pins : List (Addr × Obj)} {σ : L2.St} {H : Hp} {B : Heap} {a : Addr} {cls : Value} {d : Option Addr} {t : Shared}
theorem Fell.inv (f : Fell X pins σ H B a cls d t) : Inv X pins σ H t := by
  obtain ⟨sI, I, nb, up, fl, _, os, ag⟩ := f
  exact I.landed nb fl.1 up os ag
theorem Fell.again (f : Fell X pins σ H B a cls d t) {h' : Heap} (fl' : HandSPX.FlyingZ B (X.env :: X.outer) a (Zc cls d) h') (up' : t.heap.UpToSlots h') : Fell X pins σ H B a cls d { t with heap := h' } := by
  obtain ⟨sI, I, nb, up, _, na, os, ag⟩ := f
  exact ⟨sI, I, nb, up.trans up', fl', na, os, ag⟩
theorem Fell.stands (f : Fell X pins σ H B a cls d t) (hf : X.env.frame = some X.env.locals) :
    ∃ oe, t.heap.get? a = some oe ∧ Zc cls d oe ∧ (∃ vs, oe.data = .fields vs) ∧ Inv (X.suite a ((a, oe) :: (X.pn ++ pins))) [] σ H t := by
  have J := f.inv
  obtain ⟨sI, I, nb, up, fl, na, os, ag⟩ := f
  obtain ⟨oe, vs, e, z, dd⟩ := fl.there
  have out : a ∉ frs (X.env :: X.outer) := fun m => by
    obtain ⟨_, o2, e2, nf⟩ := fl.2.2.1.mem m
    rw [e] at e2
    cases e2
    exact nf vs dd
  have o1 : a ≠ X.env.locals := fun z => out (List.mem_filterMap.mpr ⟨_, List.mem_cons_self, z ▸ hf⟩)
  have o2 : a ∉ X.fs := fun m => by
    obtain ⟨v, mv, ev⟩ := List.mem_filterMap.mp m
    exact out (List.mem_filterMap.mpr ⟨v, List.mem_cons_of_mem _ mv, ev⟩)
  exact ⟨oe, e, z, ⟨vs, dd⟩, J.suite e dd na o1 o2⟩
/-- no clause fits: the error flies on -/
theorem Fell.on (f : Fell X pins σ H B a cls d t) (hs : X.stack = X.env :: X.outer) (hf : X.env.frame = some X.env.locals) {Wout : WX} {D : Ends} (tk : Takes X Wout) (w : Wout cls d σ H) :
    wpAny (model X.prog X.w) X.A (handleBy (.ref a) X.env []) (SP X pins D) X.xe t := by
  obtain ⟨sI, I, nb, up, fl, na, os, ag⟩ := f
  obtain ⟨_, _, _, oe, vs, T, oT, ts, e, z, dd, v1, _⟩ := id fl
  have leaves : wpAny (model X.prog X.w) X.A (setFlight (.ref a) X.env.frame) (fun _ u => wpAny (model X.prog X.w) X.A (throw (.ref a) : Sem Flow) (SP X pins D) X.xe u) X.xe t := by
    rw [hf]
    exact HandSPX.setFlight_upZ fl fun h' held up' => wpAny_throw (tk _ _ ⟨a, B, sI, pins, σ, H, cls, d, rfl, I, nb, up.trans up', .inr (.inr (hs ▸ held)), na, os, ag, w⟩)
  refine wpAny_handleBy_nil ?_
  unfold PySem.passOn
  refine wpAny_bind (wpAny_field e dd v1 ?_)
  have no : ¬ ((Value.ref T == Value.none) = true) := by simp
  rw [if_neg no]
  first
    | exact wpAny_bind leaves
    | exact wpAny_bind (wpAny_pure (wpAny_bind leaves))
theorem Fell.cls_ (f : Fell X pins σ H B a cls d t) (hf : X.env.frame = some X.env.locals) {x : Str} {c : Value} {np : Pos} (hc : Names X x c) {Q : Value → Shared → Prop} {E : Value → Shared → Prop} (q : Q c t) :
    wpAny (model X.prog X.w) (X.A.mark (some (.ref a))) (eval (.Name x np) X.env) Q E t := by
  obtain ⟨oe, _, _, _, S⟩ := f.stands hf
  obtain ⟨g, nd, c1 | ⟨c1, c2, c3⟩⟩ := hc
  · exact ld_glob (X := X.suite a _) S g c1 q nd
  · exact ld_blt (X := X.suite a _) S g c1 c2 q c3 nd
theorem Fell.go {Wout : WX} {D : Ends} (hs : X.stack = X.env :: X.outer) (hf : X.env.frame = some X.env.locals) (hN : X.N.Nodup) (tk : Takes X Wout) : ∀ {hds : List ExceptHandler} {l : List Clause}, Paired (ClauseOk X) hds l → ∀ {t : Shared}, Fell X pins σ H B a cls d t →
    wNamed X.K Wout D l cls d σ H → wpAny (model X.prog X.w) X.A (handleBy (.ref a) X.env hds) (SP X pins D) X.xe t
  | _, _, .nil, _, f, w => f.on hs hf tk w
  | _, _, .cons hk r, t, f, w => by
    obtain ⟨x, n, b₀, rest, p, p', rfl, hc, hi, hl, body⟩ := hk.is_
    obtain ⟨hit, e1, w⟩ := w
    obtain ⟨oe, e, z, _, _⟩ := f.stands hf
    have looks : PySem.W.Looks (model X.prog X.w) t.heap (typeOf (.ref a)) cls := fun _ _ _ _ k q => wpAny_typeOf_ref (k _ _ e) (by rw [z.1]; exact q)
    have fits := PySem.W.exm_one (M := model X.prog X.w) f.inv.kIn looks e1
    refine wpAny_handleBy_cons (codeAny_handlers_test (f.cls_ hf hc (fits.here ?_))) fun q => by cases q
    cases hit with
    | false => exact Fell.go hs hf hN tk r f w
    | true =>
      refine codeAny_handlers_suite_as (HandSPX.lands_againZ (by obtain ⟨_, _, _, _, fl, _⟩ := f; exact fl) fun h' fl' up' => ?_)
      have f' := f.again fl' up'
      obtain ⟨oe2, _, z2, dd2, S⟩ := f'.stands hf
      have na : H a = none := by obtain ⟨_, _, _, _, _, na, _⟩ := f; exact na
      refine store_ok (X := X.suite a _) (v := .ref a) S hN hi (.inl hl) rfl (fun s5 S5 => ?_) (.inr hl)
      refine wpAny_mono ((body a oe2 cls d _ z2 dd2).run [] s5 _ H (gone _ D) S5 (w a na)) (fun fl s6 sp => ?_) fun _ _ z => z.elim
      have off : ∀ {σ6 : L2.St} {H6 : Hp} {Q : Shared → Prop}, Inv (X.suite a ((a, oe2) :: (X.pn ++ pins))) [] σ6 H6 s6 → (∀ s7, Inv X pins (σ6.set _ none) H6 s7 → Q s7) →
          wpAny (model X.prog X.w) X.A (do bindName X.env n .none; unbindBehindTheSuite X.env n p') (fun _ s7 => Q s7) X.xe s6 := fun S6 hq => gone_ok (S6.unsuite f.inv.ok) hN hi hl hq
      cases fl with
      | ret u =>
        obtain ⟨v6, _, _, S6, r6, q6⟩ := sp
        exact off S6 fun _ J => ⟨v6, _, _, J, r6, q6⟩
      | next => exact sp.elim fun _ y => y.elim fun _ y => off y.1 fun _ J => ⟨_, _, J, y.2⟩
      | brk => exact sp.elim fun _ y => y.elim fun _ y => off y.1 fun _ J => ⟨_, _, J, y.2⟩
      | cont => exact sp.elim fun _ y => y.elim fun _ y => off y.1 fun _ J => ⟨_, _, J, y.2⟩
end
/-- try: body, except x as n: .. except y as m: .. -/
theorem ps_try_named {X : Cx} {body : List Stmt} {h₀ : ExceptHandler} {hds : List ExceptHandler} {l : List Clause} {pos : Pos} {tb : WX → TS} {Wout : WX} (hs : X.stack = X.env :: X.outer) (hf : X.env.frame = some X.env.locals) (hN : X.N.Nodup) (tk : Takes X Wout)
    (hb : ∀ (W : WX) (pn : List (Addr × Obj)) (xe : Value → Shared → Prop), Takes (X.tr pn xe) W → PassesOwn (model X.prog X.w) X.A X.env xe → PSs (X.tr pn xe) body (tb W)) (hk : Paired (ClauseOk X) (h₀ :: hds) l) :
    PS X (.Try body (h₀ :: hds) [] [] pos) (fun D σ H => tb (wNamed X.K Wout D l) D σ H) := by
  refine ⟨fun pins s σ H D I h => wpAny_Try_except ?_⟩
  let xt : Value → Shared → Prop := fun e s₁ => wpAny (model X.prog X.w) X.A (noteFrame e X.env) (fun _ s₂ => wpAny (model X.prog X.w) X.A (setFlight e none)
    (fun _ s₃ => wpAny (model X.prog X.w) X.A (handleBy e X.env (h₀ :: hds)) (SP X pins D) X.xe s₃) X.xe s₂) X.xe s₁
  have takes : Takes (X.tr (X.pn ++ pins) xt) (wNamed X.K Wout D l) := fun u s' y => by
    obtain ⟨a, B, sI, pins', σ', H', cls, d, rfl, J', nb, up, sky, na, os, ag, w⟩ := y
    have hfr : X.A.frames = some (X.env :: X.outer) := I.ok.frames.trans (congrArg some hs)
    exact Sky.land Zc.steady hfr hf (hs ▸ sky) fun h3 fl3 up3 => Fell.go hs hf hN tk hk ⟨sI, J'.ofTry I.ok, nb, up.trans up3, fl3, na, os, ag⟩ w
  refine wpAny_mono ((hb _ _ xt takes PassesOwn.looking).run [] s σ H D (I.toTry _) h) (fun f s1 sp => ?_) fun _ _ he => he
  cases f with
  | ret u =>
    obtain ⟨v, _, _, J, r, q⟩ := sp
    exact ⟨v, _, _, J.ofTry I.ok, r, q⟩
  | next => exact sp.elim fun _ y => y.elim fun _ y => wpAny_execs_nil ⟨_, _, y.1.ofTry I.ok, y.2⟩
  | brk => exact sp.elim fun _ y => y.elim fun _ y => ⟨_, _, y.1.ofTry I.ok, y.2⟩
  | cont => exact sp.elim fun _ y => y.elim fun _ y => ⟨_, _, y.1.ofTry I.ok, y.2⟩
end Sr

set_option Elab.async false
set_option linter.all false
set_option maxRecDepth 100000
set_option maxHeartbeats 4000000
namespace Sr
open PySem PySem.Spec PyProof.Rows L2
/-! ### own errors below ValueError, at any depth of classes, with an own __init__ -/
def errSl (sl : Array (Option Value)) : Bool := match sl.toList with
  | [_, _, _, _, some (.builtin n), _] => decide (n = "ValueError.__new__")
  | _ => false
def errCl (C : Addr) (k : ClassData) : Bool := match k.mro with
  | .ref c :: r => decide (c = C) && (PySem.HandSPX.refsVE r && (k.hasDict && !k.hasDel))
  | _ => false
def errB (K : PySem.W.Frag) (C : Addr) : Bool := match K.lookup C with
  | some ⟨.type t, _, .cls k, sl⟩ => decide (t = "type") && (errCl C k && errSl sl)
  | _ => false
theorem errSl_ok {sl : Array (Option Value)} (h : errSl sl = true) : ∃ k0 k1 k2 k3 k5, sl = #[k0, k1, k2, k3, some (.builtin "ValueError.__new__"), k5] := by
  obtain ⟨l⟩ := sl
  unfold errSl at h
  match l, h with
  | [k0, k1, k2, k3, some (.builtin n), k5], h =>
    obtain rfl : n = "ValueError.__new__" := of_decide_eq_true h
    exact ⟨k0, k1, k2, k3, k5, rfl⟩
theorem errCl_ok {C : Addr} {k : ClassData} (h : errCl C k = true) : ∃ bm, k.mro = .ref C :: bm ∧ PySem.HandSPX.refsVE bm = true ∧ k.hasDict = true ∧ k.hasDel = false := by
  unfold errCl at h
  cases e : k.mro with
  | nil => rw [e] at h; cases h
  | cons c r =>
    rw [e] at h
    cases c with
    | ref c =>
      have h' : (decide (c = C) && (PySem.HandSPX.refsVE r && (k.hasDict && !k.hasDel))) = true := h
      obtain ⟨a1, a2⟩ := Bool.and_eq_true_iff.mp h'
      obtain ⟨a2, a3⟩ := Bool.and_eq_true_iff.mp a2
      obtain ⟨a3, a4⟩ := Bool.and_eq_true_iff.mp a3
      obtain rfl : c = C := of_decide_eq_true a1
      exact ⟨r, rfl, a2, a3, by simpa using a4⟩
    | _ => cases h
theorem errB_ok {K : PySem.W.Frag} {C : Addr} (h : errB K C = true) : ∃ nm q N bs bm sn sub ab col dd k0 k1 k2 k3 k5,
    K.lookup C = some (excClassObj nm q C N bs bm true sn sub ab col dd k0 k1 k2 k3 k5 "ValueError.__new__") ∧ PySem.HandSPX.refsVE bm = true := by
  unfold errB at h
  cases e : K.lookup C with
  | none => rw [e] at h; cases h
  | some o =>
    rw [e] at h
    obtain ⟨oc, od, dt, sl⟩ := o
    cases oc with
    | type t =>
      cases dt with
      | cls k =>
        have h' : (decide (t = "type") && (errCl C k && errSl sl)) = true := h
        obtain ⟨h1, h2⟩ := Bool.and_eq_true_iff.mp h'
        obtain ⟨h4, h5⟩ := Bool.and_eq_true_iff.mp h2
        obtain ⟨bm, m1, m2, m3, m4⟩ := errCl_ok h4
        obtain rfl : t = "type" := of_decide_eq_true h1
        obtain ⟨k0, k1, k2, k3, k5, rfl⟩ := errSl_ok h5
        obtain ⟨nm, bs, mro, N, q, hd, sn, sub, ab, col, del⟩ := k
        obtain rfl : mro = .ref C :: bm := m1
        obtain rfl : hd = true := m3
        obtain rfl : del = false := m4
        exact ⟨nm, q, N, bs, bm, sn, sub, ab, col, od, k0, k1, k2, k3, k5, rfl, m2⟩
      | _ => cases h
    | _ => cases h
/-- all that an own error's class must be, as one look -/
def errAll (K : PySem.W.Frag) (C f : Addr) (at_ : Str) : Bool := errB K C && (decide (PySem.W.findIn K (.ref C) "__setattr__" = some (some (.builtin "object.__setattr__"))) && (decide (PySem.W.subIn K (.ref C) (.type "BaseException") = some true) &&
  (decide (PySem.W.typeIn K (.ref C) = some (.type "type")) && (PySem.W.keepIn K (.ref C) && (decide (PySem.W.findIn K (.ref C) "__init__" = some (some (.ref f))) && (decide (PySem.W.typeIn K (.ref f) = some (.type "function")) &&
  (decide (PySem.W.findIn K (.ref C) at_ = some none) && xfB K C)))))))
structure Err (K : PySem.W.Frag) (C f : Addr) (at_ : Str) : Prop where
  oex : OexC K C
  init : PySem.W.findIn K (.ref C) "__init__" = some (some (.ref f))
  fn : PySem.W.typeIn K (.ref f) = some (.type "function")
  no : PySem.W.findIn K (.ref C) at_ = some none
  xf : XfC K C
theorem errAll_ok {K : PySem.W.Frag} {C f : Addr} {at_ : Str} (h : errAll K C f at_ = true) : Err K C f at_ := by
  obtain ⟨h1, h⟩ := Bool.and_eq_true_iff.mp h
  obtain ⟨h2, h⟩ := Bool.and_eq_true_iff.mp h
  obtain ⟨h3, h⟩ := Bool.and_eq_true_iff.mp h
  obtain ⟨h4, h⟩ := Bool.and_eq_true_iff.mp h
  obtain ⟨h5, h⟩ := Bool.and_eq_true_iff.mp h
  obtain ⟨h6, h⟩ := Bool.and_eq_true_iff.mp h
  obtain ⟨h7, h⟩ := Bool.and_eq_true_iff.mp h
  obtain ⟨h8, h9⟩ := Bool.and_eq_true_iff.mp h
  exact ⟨⟨errB_ok h1, of_decide_eq_true h2, of_decide_eq_true h3, of_decide_eq_true h4, h5⟩, of_decide_eq_true h6, of_decide_eq_true h7, of_decide_eq_true h8, xfB_ok h9⟩
/-- __init__(self, v): self.at_ = v -/
def spErr (K : PySem.W.Frag) (C : Addr) (at_ : Str) : Sp := fun vs H Q _ => ∃ a v, vs = [.ref a, v] ∧ H a = some (exo a C none) ∧ ∀ dx, H dx = none → dx ≠ a → Q .non (upd (upd H dx (exd dx [(at_, v)])) a (exo a C (some dx)))
/-- C(v) raised: the dict of the error stands -/
theorem err_at {K : PySem.W.Frag} {C : Addr} {at_ : Str} {v : V} {H1 : Hp} {Q : XK} (q : ∀ dx, H1 dx = none → Q (.ref C) (some dx) (upd H1 dx (.xd [(at_, v)]))) : [v].length ≤ 1000 ∧ ∀ a, H1 a = none → spErr K C at_ (.ref a :: ([v] ++ [])) (upd H1 a (exo a C none))
    (fun u H2 => u = .non ∧ ∃ (d : Addr) (fs : List (Str × V)), H2 a = some (exo a C (some d)) ∧ H2 d = some (exd d fs) ∧ H1 d = none ∧ Q (.ref C) (some d) (upd (del H2 a) d (.xd fs))) (fun _ _ _ => False) := by
  refine ⟨by simp, fun a ha => ⟨a, v, rfl, upd_same, fun dx hdx nd => ?_⟩⟩
  have h1 : H1 dx = none := (upd_ne nd).symm.trans hdx
  refine ⟨rfl, dx, [(at_, v)], upd_same, (upd_ne nd).trans upd_same, h1, ?_⟩
  have e : upd (del (upd (upd (upd H1 a (exo a C none)) dx (exd dx [(at_, v)])) a (exo a C (some dx))) a) dx (.xd [(at_, v)]) = upd H1 dx (.xd [(at_, v)]) := by
    funext b
    by_cases c : b = dx
    · rw [c, upd_same, upd_same]
    · rw [upd_ne c, upd_ne c]
      by_cases c2 : b = a
      · rw [c2, del_same, ha]
      · rw [del_ne c2, upd_ne c2, upd_ne c, upd_ne c2]
  rw [e]
  exact q dx h1
theorem pmk_err {X : Cx} {k k' : Nat} {C f : Addr} {at_ x : Str} {ps : List Str} {e : Expr} {ta : TA} {p pos : Pos} (E : Err X.K C f at_) (M : CalM X.prog X.w X.K X.mg X.base CX0 k f ps (spErr X.K C at_)) (hr : Room k' X.A) (hk : k + 1 ≤ k') (hg : Gl X x) (hm : X.mg x = some (.ref C)) (ha : PA X [e] ta)
    (hdb : (x == ("__debug__" : Str)) = false := by decide) (he : starEach [e] X.env = (false, eval e X.env) :: starEach [] X.env := by rfl) (hpl : (backTo pos (starEach [] X.env)).any (·.1) = false := by rfl) :
    PMk X (.Call (.Name x p) [e] [] pos) (tMkO C (spErr X.K C at_) [] ta) := by
  obtain ⟨fd, F, _, hb⟩ := M.ex
  exact pmk_oex (CX := CX0) E.oex E.init E.fn F (hr.mono hk) hb .nil (fun _ _ _ _ _ _ _ h => h.elim) hg hm ha hdb he hpl
/-- an own error that may be raised: its class, its __init__, its name -/
structure ErrAt (P : Program) (w : World) (K : PySem.W.Frag) (mg : Str → Option Value) (base : Heap) (x at_ p : Str) : Prop where
  e : Err K (He.ga K x) (He.fAd K (x, some "__init__")) at_
  m : CalM P w K mg base CX0 1 (He.fAd K (x, some "__init__")) ["self", p] (spErr K (He.ga K x) at_)
  g : mg x = some (.ref (He.ga K x))
theorem ErrAt.mk_ {X : Cx} {k : Nat} {x at_ q : Str} {e : Expr} {ta : TA} {p pos : Pos} (R : ErrAt X.prog X.w X.K X.mg X.base x at_ q) (hr : Room k X.A) (hk : 2 ≤ k) (hg : Gl X x) (ha : PA X [e] ta)
    (hdb : (x == ("__debug__" : Str)) = false := by decide) (he : starEach [e] X.env = (false, eval e X.env) :: starEach [] X.env := by rfl) (hpl : (backTo pos (starEach [] X.env)).any (·.1) = false := by rfl) :
    PMk X (.Call (.Name x p) [e] [] pos) (tMkO (He.ga X.K x) (spErr X.K (He.ga X.K x) at_) [] ta) := pmk_err R.e R.m hr hk hg R.g ha hdb he hpl
/-- a method that errors may leave -/
theorem DfnM.calE {P : Program} {w : World} {K : PySem.W.Frag} {mg : Str → Option Value} {base : Heap} {c m qual : Str} {st : Stmt} {N ps : List Str} {k : Nat} {sp : Sp} (D : DfnM K c m qual st) (S : FnScope N ps (defScope st))
    (hb : ∀ (kV doc pm : Value) (an : Option Addr) (cdv ct : Value) (us : List Value), us.length = ps.length → bindArgs (PySem.W.fnOf m qual (defArgs st) (defBody st) (defScope st) .none kV doc pm an cdv ct) ⟨us, []⟩ = pure (ps.zip us))
    (len : ∀ vs H Q E, sp vs H Q E → vs.length = ps.length)
    (body : ∀ (cdv : Value) (A : Around) (outer : List Env) (s : Shared) (H : Hp) (vs : List V) (Q : VK) (E : XK), Room k (A.deeper (envOfC qual (defScope st) s.heap.objs.size (He.fAd K (c, some m)) cdv)) → sp vs H Q E →
      ∃ t, PSs (cxOf (L2.CX P w) P w K mg base N qual (defScope st) (He.fAd K (c, some m)) cdv A outer s H E) (defBody st) t ∧ t { nx := fun _ H' => Q .non H', rt := Q } (start N vs) H) :
    CalM P w K mg base (L2.CX P w) (k + 1) (He.fAd K (c, some m)) ps sp := by
  obtain ⟨fd, F⟩ := D.fn
  exact ⟨fd, F.ok S len body, F.kp, F.bindsN hb⟩
theorem op_notHas {X : Cx} {k k' : Nat} {C f : Addr} {ps : List Str} {sp : Sp} (M : CalM X.prog X.w X.K X.mg X.base CX0 k f ps sp) (hr : Room k' X.A) (hk : k ≤ k') (hs : Has X.K C f)
    (hm : ∀ x y H Q Q' E, (∀ v H', Q v H' → Q' v H') → sp [x, y] H Q E → sp [x, y] H Q' E) : OpR X (compareOp .NotIn) (rInOwn C sp E0 true) := by
  obtain ⟨fd, F, _, hb⟩ := M.ex
  intro pins s σ H x y v u Q I rx ry h
  obtain ⟨a, dx, fs, e, ha, hsp⟩ := h
  show wpAny _ _ (do return Value.bool (!(← contains u v))) _ _ _
  refine wpAny_bind (own_in F (hr.mono hk) hs hb pass0 (Q := fun b s' => wpAny (model X.prog X.w) X.A (pure (Value.bool (!b))) (EP X pins σ Q) X.xe s') I rx ry ⟨a, dx, fs, e, ha, hm _ _ _ _ _ _ (fun z H' hz => ?_) hsp⟩)
  obtain ⟨b, rfl, hq⟩ := hz
  exact ⟨b, rfl, fun s' I' => wpAny_pure ⟨.bl (!b), H', I', rfl, hq⟩⟩
end Sr

set_option Elab.async false
set_option linter.all false
set_option maxRecDepth 100000
set_option maxHeartbeats 4000000
namespace Sr
open PySem PySem.Spec PyProof.Rows L2
/-! ### defs that errors may leave -/
structure CalE (P : Program) (w : World) (K : PySem.W.Frag) (mg : Str → Option Value) (base : Heap) (k : Nat) (x : Str) (ps : List Str) (sp : Sp) : Prop where
  ex : ∃ (f : Addr) (fd : FuncData), FnOk P w K mg base (L2.CX P w) k f fd ps sp ∧ mg x = some (.ref f) ∧ PySem.W.keepIn K (.ref f) = true ∧ Binds K fd ps []
theorem pe_calE {X : Cx} {k k' : Nat} {x : Str} {ps : List Str} {sp : Sp} {E : XK} {p pos : Pos} {e : Expr} {es : List Expr} {t : TA} (C : CalE X.prog X.w X.K X.mg X.base k x ps sp) (hr : Room k' X.A) (hk : k ≤ k') (hg : Gl X x) (hx : Passes (L2.CX X.prog X.w) X E) (ha : PA X (e :: es) t)
    (hdb : (x == ("__debug__" : Str)) = false := by decide) (he : starEach (e :: es) X.env = (false, eval e X.env) :: starEach es X.env := by rfl) (hpl : (backTo pos (starEach es X.env)).any (·.1) = false := by rfl) :
    PE X (.Call (.Name x p) (e :: es) [] pos) (tCall sp [] E t) := by
  obtain ⟨f, fd, F, hm, hkp, hb⟩ := C.ex
  exact pe_call F (hr.mono hk) hg hm hkp hb .nil hx ha hdb he hpl
theorem Dfn.calE {P : Program} {w : World} {K : PySem.W.Frag} {mg : Str → Option Value} {base : Heap} {x : Str} {st : Stmt} {N ps : List Str} {k : Nat} {sp : Sp} (D : Dfn K mg x st) (S : FnScope N ps (defScope st))
    (hb : ∀ (kV doc pm : Value) (an : Option Addr) (cdv ct : Value) (us : List Value), us.length = ps.length → bindArgs (PySem.W.fnOf x x (defArgs st) (defBody st) (defScope st) .none kV doc pm an cdv ct) ⟨us, []⟩ = pure (ps.zip us))
    (len : ∀ vs H Q E, sp vs H Q E → vs.length = ps.length)
    (body : ∀ (cdv : Value) (A : Around) (outer : List Env) (s : Shared) (H : Hp) (vs : List V) (Q : VK) (E : XK), Room k (A.deeper (envOfC x (defScope st) s.heap.objs.size (He.ga K x) cdv)) → sp vs H Q E →
      ∃ t, PSs (cxOf (L2.CX P w) P w K mg base N x (defScope st) (He.ga K x) cdv A outer s H E) (defBody st) t ∧ t { nx := fun _ H' => Q .non H', rt := Q } (start N vs) H) :
    CalE P w K mg base (k + 1) x ps sp := by
  obtain ⟨fd, F⟩ := D.fn
  exact ⟨_, fd, F.ok S len body, D.at_, F.kp, F.bindsN hb⟩
/-- where the callee's contract lets no error out -/
theorem passes_never {X : Cx} : Passes (L2.CX X.prog X.w) X E0 := fun _ _ _ _ _ _ _ c => by
  obtain ⟨_, _, _, _, _, _, _, _, _, _, _, _, h⟩ := c
  exact h.elim
/-- within a def that errors may leave -/
theorem passes_def {X : Cx} {E : XK} {E₁ : Value → Shared → Prop} (hs : X.stack = X.env :: X.outer) (hf : X.env.frame = some X.env.locals) (hex : X.ex = [])
    (hx : X.xe = fun e s' => wpAny (model X.prog X.w) X.A (leaving X.env e) (fun _ s'' => L2.CX X.prog X.w X.outer X.H_0 X.s_0 E e s'') E₁ s') : Passes (L2.CX X.prog X.w) X E :=
  passes_call (takes_of hs hf hex hx) fun _ _ _ _ h => h
end Sr

set_option Elab.async false
set_option linter.all false
set_option maxRecDepth 100000
set_option maxHeartbeats 4000000
namespace Sr
open PySem PySem.Spec PyProof.Rows L2
open Sem (wp)
/-! ### enumerate(tuple) -/
theorem meets_enumerate_newT {v : Value} {o : Obj} {H : Heap → Prop} (B : Begins v o H) :
    Meets (Builtin.«enumerate.__new__» ⟨[.type "enumerate", v], []⟩) (fun _ R s => H s.heap ∧
      R (.ok (.ret (.ref (s.heap.push o).objs.size))) { s with heap := (s.heap.push o).push { cls := .type "enumerate", data := .fields #[.none, .bool false, .ref s.heap.objs.size, rawInt 0, .none, .none] } }) :=
  .of_wp fun prog w A R s h => by
    obtain ⟨hp, g, d, tk, os⟩ := s; obtain ⟨h1, h⟩ := h
    have hsub := sub_enumerate
    have q1 : ∀ {A' : Around} {E : Value → Shared → Prop} {Q : Value → Shared → Prop}, Q (.ref hp.objs.size) ⟨hp.push o, g, d, tk, os⟩ → wpAny (model prog w) A' (pyIter v) Q E ⟨hp, g, d, tk, os⟩ :=
      fun q => B.iter prog w _ _ ⟨hp, g, d, tk, os⟩ _ h1 q
    wp_walk using q1
    refine wpAny_stack_any fun st => wpAny_pure ?_
    split
    · rename_i c _ _ _ _ _
      cases (c == Value.type "enumerate")
      · wp_walk using q1
        exact ⟨_, rfl, h⟩
      · wp_walk using q1
        exact ⟨_, rfl, h⟩
    · wp_walk using q1
      exact ⟨_, rfl, h⟩
section
variable {prog : Program} {w : World} {A : Around} {E : Value → Shared → Prop} {s : Shared}
theorem enumT_begins {v : Value} {o : Obj} {H : Heap → Prop} {Q : Value → Shared → Prop} (B : Begins v o H) (h1 : H s.heap)
    (h : ∀ h', IsEnum h' (s.heap.objs.size + 1) s.heap.objs.size 0 .none → h'.get? s.heap.objs.size = some o → h'.objs.size = s.heap.objs.size + 2 →
      (∀ b o, s.heap.get? b = some o → h'.get? b = some o) → Q (.ref (s.heap.objs.size + 1)) { s with heap := h' }) :
    wpAny (model prog w) A (call (.type "enumerate") [v]) Q E s := by
  refine callType_new PySem.F.called_enumerate (by decide) (PySem.F.typeCall_enumerate_1 _) (PySem.F.newCall_enumerate_1 _) (fun obj => PySem.F.args_object_init_2 obj _) PySem.F.entry_enumerate_new
    (meets_enumerate_newT B) ⟨h1, ?_⟩
  have hz : (s.heap.push o).objs.size = s.heap.objs.size + 1 := Heap.size_push ..
  show _ ∧ _
  rw [hz]
  have he : IsEnum ((s.heap.push o).push { cls := .type "enumerate", data := .fields #[.none, .bool false, .ref s.heap.objs.size, rawInt 0, .none, .none] }) (s.heap.objs.size + 1) s.heap.objs.size 0 .none := by
    have := Heap.get?_push_size (s.heap.push o) (o := { cls := .type "enumerate", data := .fields #[.none, .bool false, .ref s.heap.objs.size, rawInt 0, .none, .none] }) rfl
    rw [hz] at this; exact this
  refine ⟨⟨_, he, rfl⟩, h _ he (Heap.get?_push_of_some _ (Heap.get?_push_size _ B.free)) (by rw [Heap.size_push, hz]) fun b o x => Heap.get?_push_of_some _ (Heap.get?_push_of_some _ x)⟩
end
theorem enum_endT {prog : Program} {w : World} {A : Around} {E : Value → Shared → Prop} {s : Shared} {e it t : Addr} {j : Nat} {items : Array Value} {i : Int} {old : Value} {Q : Option Value → Shared → Prop} (hh : A.in1.handled = none)
    (he : IsEnum s.heap e it i old) (hit : s.heap.IsTupleIter it t j) (ht : s.heap.IsTuple t items) (hx : items[j]? = none)
    (hQ : ∀ h', Heap.ExtBut it s.heap h' → Q none { s with heap := h' }) : wpAny (model prog w) A (pyNext (.ref e)) Q E s := by
  have hT : s.TypeIs (.ref e) "enumerate" := ⟨_, he, rfl⟩
  unfold pyNext
  refine wpAny_bind (wpAny_attempt (wpAny_callSpecial?_slot (name := Str.ofString "__next__") hT PySem.F.slot_enumerate_next
    (wpAny_call_entry PySem.F.slot_enumerate_next hT PySem.F.entry_enumerate_next ?_ (PySem.F.args_enumerate_next_1 _))))
  show wpAny _ _ (field (.ref e) 2 >>= _) _ _ _
  refine wpAny_bind (wpAny_field he rfl (x := .ref it) rfl ?_)
  refine wpAny_bind (wpAny_nextOf_tuple_end hh hit ht hx fun h' x he' hx' => ?_)
  obtain ⟨o, ho, hc⟩ := hx'
  refine wpAny_bind (wpAny_isInstance (T := "StopIteration") (b := true) ⟨o, ho, hc⟩ isSubtype_stop ?_)
  exact wpAny_pure (hQ _ he')
/-- the tuple at a, each item in a new pair -/
def Itet (K : PySem.W.Frag) (a : Addr) : It :=
  ⟨fun i H => ∃ (xs : List V) (x : V), SqT K H a xs ∧ xs[i]? = some x, fun i H v H' => ∃ T x, v = .ref T ∧ H T = none ∧ H' = upd H T (.tup [.int (i : Nat), x]) ∧ ∀ xs, SqT K H a xs → xs[i]? = some x, fun i H => ∃ xs : List V, SqT K H a xs ∧ xs.length ≤ i⟩
theorem turn_enumT {P : Program} {w : World} {K : PySem.W.Frag} {elts : List Expr} {kk : Nat} {tpos : Pos} (a e it : Addr) :
    Turn P w K (.Tuple elts kk tpos) (Itet K a) [e, it] e (fun i h => (∃ old, IsEnum h e it ((i : Nat) : Int) old) ∧ h.IsTupleIter it a i ∧ e ≠ it) where
  mem := by simp
  obj := fun i h st b hb => by
    obtain ⟨⟨old, he⟩, ⟨o, ho, hc, hd⟩, _⟩ := st
    have e' : b = e ∨ b = it := by simpa using hb
    rcases e' with z | z
    · rw [z]; exact ⟨_, he, fun v q => nomatch q⟩
    · rw [z]; exact ⟨o, ho, fun v q => by rw [hd] at q; cases q⟩
  keep := fun i h h' st k => let ⟨⟨old, he⟩, hi, hne⟩ := st; ⟨⟨old, k e (by simp) _ he⟩, hi.at fun o q => k it (by simp) o q, hne⟩
  item := by
    intro X hP hw hK hc i pins s σ H E I hf st hg
    subst hP hw hK
    obtain ⟨⟨old, he⟩, hit, hne⟩ := st
    obtain ⟨xs, x, hq, hx⟩ := hg
    obtain ⟨its, rv, p, hz⟩ := I.tuple hq
    obtain ⟨u, hu, ru⟩ := rv.get hx
    have hel : e < s.heap.objs.size := Heap.lt_size he
    have hil : it < s.heap.objs.size := by obtain ⟨_, q, _⟩ := hit; exact Heap.lt_size q
    have hai : a ≠ it := fun z => by
      obtain ⟨o1, g1, g2, _⟩ := p
      obtain ⟨o2, g3, g4, _⟩ := hit
      rw [z, g3] at g1
      cases g1
      rw [g2] at g4
      injection g4 with g4
      exact absurd g4 (by decide)
    have hea : e ≠ a := fun z => by
      obtain ⟨o1, g1, g2, _⟩ := p
      have he2 : s.heap.get? a = _ := z ▸ he
      rw [he2] at g1
      cases g1
      injection g2 with g2
      exact absurd g2 (by decide)
    have D := Draws.tuple (prog := X.prog) (w := X.w) (A := X.A.in1) (I.ok.hd hc) it a hai its.toArray
    have hlt : i < its.toArray.size := by
      have := (List.getElem?_eq_some_iff.mp hu).1
      simpa using this
    refine wpAny_pyNext_enum_itemC D he ⟨hit, p⟩ hlt hne (by simp [hne, hea]) fun y h' tk hP ho hst' hT hsz hk => ?_
    have ey : y = u := by
      have hP : its.toArray[i]? = some y := hP
      rw [List.getElem?_toArray, hu] at hP
      exact (Option.some.inj hP).symm
    subst ey
    refine ⟨_, rfl, wpAny_letOwnedTupleGo_enum (s := { s with heap := h', toks := tk + 1 }) ho fun h'' he' sb => ?_⟩
    have hT2 : h''.get? s.heap.objs.size = some { cls := .type "tuple", data := .seq #[.int i tk, y] } := (sb.2 _ (Nat.ne_of_gt hel)).trans hT
    have new : ObjOk X.prog X.w (upd H s.heap.objs.size (.tup [.int (i : Nat), x])) h'' s.heap.objs.size (.tup [.int (i : Nat), x]) :=
      ⟨by show 2 ≤ sizeLine; decide, [.int i tk, y], .cons ⟨_, rfl⟩ (.cons ru .nil), ⟨_, hT2, rfl, _, rfl⟩⟩
    have I1 : L2.Inv X pins σ (upd H s.heap.objs.size (.tup [.int (i : Nat), x])) { s with heap := h'', toks := tk + 1 } :=
      I.turnedNew (ch := [e, it]) (fun b ob hb q => (sb.2 b (fun z => hb (by simp [z]))).trans (hk b ob (fun z => hb (by simp [z])) (fun z => hb (by simp [z])) q)) hf (Nat.le_refl _) new
    refine ⟨.ref s.heap.objs.size, _, I1, rfl, ⟨_, x, rfl, I.hok.fresh (Nat.le_refl _), rfl, fun ys hy => by rw [I.tuple_inj hy hq]; exact hx⟩, ⟨⟨y, ?_⟩, hst'.1.at fun o q => (sb.2 it (Ne.symm hne)).trans q, hne⟩, fun b hb => ?_⟩
    · have e1 : ((i + 1 : Nat) : Int) = (i : Int) + 1 := by omega
      rw [e1]; exact he'
    · have hb' : b < s.heap.objs.size := by
        have e' : b = e ∨ b = it := by simpa using hb
        rcases e' with z | z
        · rw [z]; exact hel
        · rw [z]; exact hil
      rw [upd_ne (Nat.ne_of_lt hb')]
      exact (hf b hb).1
  done := by
    intro X hP hw hK hc i pins s σ H E I hf st hg
    subst hP hw hK
    obtain ⟨⟨old, he⟩, hit, hne⟩ := st
    obtain ⟨xs, hq, hx⟩ := hg
    obtain ⟨its, rv, p, hz⟩ := I.tuple hq
    obtain ⟨f0, f1, f2, f3, f4, f5⟩ := hf it (by simp)
    have hl := rv.length
    refine enum_endT (I.ok.hd hc) he hit (show s.heap.IsTuple a its.toArray from p) (by simp; omega) fun h' eb => ⟨rfl, I.turned (t' := s.toks) (fun b o hb q => eb b o hb q) f0 f1 f3 f4 f5⟩
  self := fun A i s Q E st h => let ⟨⟨_, he⟩, _⟩ := st; wpAny_pyIter_enum he h
def iEnumT (K : PySem.W.Frag) (ta : TA) : TI := fun σ H R => ta σ H fun vs H1 => ∃ a xs, vs = [.ref a] ∧ SqT K H1 a xs ∧ R (Itet K a) H1
theorem pi_enumT {X : Cx} {e : Expr} {ta : TA} {p pos tpos : Pos} {elts : List Expr} {kk : Nat} (hg : Gl X "enumerate") (hm : X.mg "enumerate" = none) (ha : PA X [e] ta) (hs : starEach [e] X.env = [(false, eval e X.env)] := by rfl) :
    PI X (.Tuple elts kk tpos) (.Call (.Name "enumerate" p) [e] [] pos) (iEnumT X.K ta) := by
  refine ⟨fun pins s σ H R I h => ?_⟩
  refine Call_ (ld_blt I hg hm boot_enumerate (PyProof.Rows.callWith_type1 (thn (ha.run pos pins s σ H _ I h) fun us s1 ⟨vs, H1, I1, r1, q1⟩ => ?_) hs rfl))
  obtain ⟨a, xs, ex, hq, q⟩ := q1
  subst ex
  cases r1 with
  | cons r rr =>
    cases rr
    cases r
    obtain ⟨its, rv, p', hz⟩ := I1.tuple hq
    refine enumT_begins (begins_tuple a its.toArray) (show s1.heap.IsTuple a its.toArray from p') fun h' he hit hsz hk => wpAny_pyIter_enum he ?_
    have I2 : L2.Inv X pins σ H1 { s1 with heap := h' } := I1.kept (t' := s1.toks) hk
    refine ⟨s1.heap.objs.size + 1, [s1.heap.objs.size + 1, s1.heap.objs.size], _, _, H1, rfl, I2, turn_enumT a (s1.heap.objs.size + 1) s1.heap.objs.size, ⟨⟨.none, he⟩, ⟨_, hit, rfl, rfl⟩, Nat.succ_ne_self _⟩, fun b hb => ?_, q⟩
    have e' : b = s1.heap.objs.size + 1 ∨ b = s1.heap.objs.size := by simpa using hb
    have hle : s1.heap.objs.size ≤ b := by
      rcases e' with z | z
      · rw [z]; exact Nat.le_add_right _ _
      · rw [z]; exact Nat.le_refl _
    exact I1.fpOk hle (I1.hok.fresh hle)
theorem walk_enumT {K : PySem.W.Frag} {a : Addr} {xs : List V} : Walk (Itet K a) xs.length (fun H => SqT K H a xs) (YPair (fun i => some (.int (i : Nat))) (fun i => xs[i]?)) := by
  refine ⟨fun i _ hi q => ⟨xs, xs[i], q, by simp [hi]⟩, fun _ q => ⟨xs, q, Nat.le_refl _⟩, fun i H v H' _ q y => ?_⟩
  obtain ⟨T, x, h1, h2, h3, h4⟩ := y
  exact ⟨T, .int (i : Nat), x, h1, h2, h3, rfl, h4 xs q⟩
end Sr

set_option Elab.async false
set_option linter.all false
set_option maxRecDepth 100000
set_option maxHeartbeats 4000000
namespace Sr
open PySem PySem.Spec PyProof.Rows L2 LamX
/-! ### a def that calls what it got within a try, and tells what is told or refused -/
/-- try: return (s1, a()) / except CS as e: return (s2, e.at_) -/
def TTried (CS : Addr) (at_ : Str) (s1 s2 : Str) : (XK → Hp → VK → Prop) → Hp → VK → Prop := fun tl H Q =>
  tl (fun cls d H' => cls = .ref CS ∧ ∃ e v, d = some e ∧ H' e = some (.xd [(at_, v)]) ∧ ∀ p, H' p = none → Q (.ref p) (upd H' p (.tup [.str s2, v]))) H
    (fun v H' => [V.str s1, v].length ≤ sizeLine ∧ ∀ p, H' p = none → Q (.ref p) (upd H' p (.tup [.str s1, v])))
theorem lineN {n : Nat} (h : n ≤ 1000 := by decide) : n ≤ sizeLine := Nat.le_of_lt (sz h)
theorem three_line : (3 : Nat) ≤ sizeLine := by rw [sizeLine_eq]; decide
theorem rd_mono {H H' : Hp} {a : Addr} {o : HO} (e : Same H H') (h : Rd H a o) : Rd H' a o := h.elim (fun h => .inl (e _ _ h)) fun ⟨u, h⟩ => .inr ⟨u, e _ _ h⟩
theorem sql_mono {K : PySem.W.Frag} {H H' : Hp} {a : Addr} {xs : List V} (e : Same H H') (h : SqL K H a xs) : SqL K H' a xs := h.elim (fun h => .inl (rd_mono e h)) .inr
theorem sqt_mono {K : PySem.W.Frag} {H H' : Hp} {a : Addr} {xs : List V} (e : Same H H') (h : SqT K H a xs) : SqT K H' a xs := h.elim (fun h => .inl (rd_mono e h)) .inr
theorem sq_mono {K : PySem.W.Frag} {H H' : Hp} {a : Addr} {xs : List V} (e : Same H H') (h : SqL K H a xs ∨ SqT K H a xs) : SqL K H' a xs ∨ SqT K H' a xs := h.elim (fun h => .inl (sql_mono e h)) fun h => .inr (sqt_mono e h)
/-- a body whose slots are as many as its names -/
theorem pss_len {X : Cx} {sts : List Stmt} {t : TS} {n : Nat} (h : PSs X sts t) (hn : X.N.length = n := by rfl) : PSs X sts (fun D σ H => σ.length = n → t D σ H) :=
  ⟨fun pins s σ H D I q => h.run pins s σ H D I (q (I.len.trans hn))⟩
/-! ### a def called with a lambda -/
theorem pe_lam {X : Cx} (qn : Str) {x a : Str} {st : Stmt} {Ng : List Str} {TT : (XK → Hp → VK → Prop) → Hp → VK → Prop} {k : Nat} {params : Arguments} {body : Expr} {scope : Scope} {t : XK → TE} {c P : Addr} {p lpos pos : Pos} (D : Dfn X.K X.mg x st) (Sg : FnScope Ng [a] (defScope st))
    (hb : ∀ (kV doc pm : Value) (an : Option Addr) (cdv ct : Value) (us : List Value), us.length = [a].length → bindArgs (PySem.W.fnOf x x (defArgs st) (defBody st) (defScope st) .none kV doc pm an cdv ct) ⟨us, []⟩ = pure ([a].zip us))
    (hG : ∀ cdv : Value, GivesTo X Ng x (defScope st) (He.ga X.K x) cdv (defBody st) a (X.env.qual ++ "<lambda>") TT) (TB : TabB X.base X.mg c P) (hcode : X.env.code = .ref c) (hr : Room (k + 2) X.A)
    (hbody : ∀ (A : Around) (outer : List Env) (s : Shared) (H : Hp) (E : XK) (f c' : Addr), Room k (A.deeper (lamEnv X scope s.heap.objs.size f c')) → PE (lamCx X A outer s H E scope f c') body (t E))
    (hg : Gl X x) (L : LamS X.env.scope scope) (hbind : ∀ (q : Str) (cl : List (Str × Addr)) (pm cv ctv : Value), bindArgs (PySem.W.kla_fn "<lambda>" q params body scope cl pm cv ctv) ⟨[], []⟩ = pure [])
    (hqn : X.env.qual = qn := by rfl) (hdef : defaultsOf params X.env = ([], []) := by rfl) (hNg : Ng[0]? = some a := by rfl) (hva : Vis (defScope st) a := by first | exact Or.inl rfl | exact Or.inr (Or.inl rfl))
    (hdb : (x == ("__debug__" : Str)) = false := by decide) (hd : (a == ("__debug__" : Str)) = false := by decide) (hcd : (a == ("__classdict__" : Str)) = false := by decide) :
    PE X (.Call (.Name x p) [.Lambda params body scope lpos] [] pos) (tLam [(P, qn ++ "<lambda>")] TT t) := by
  subst hqn
  obtain ⟨fd, F⟩ := D.fn
  have hB := F.bindsN hb
  obtain ⟨oc, od, dV, kV, doc, pm, an, cdv, ct, osl, rfl, lk, hcg, _, _⟩ := F.ex
  exact pe_lamcall hg D.at_ F.kp lk hcg hB Sg hNg hva (hG cdv) TB hcode List.mem_cons_self (fun p hp _ => by rw [List.mem_singleton.mp hp]) hr L hdef hbind hbody hdb hd hcd
/-- a def of the top, with its code object known -/
theorem fun_ok {P : Program} {w : World} {K : PySem.W.Frag} {mg : Str → Option Value} {base : Heap} {CX : CXT} {x : Str} {st : Stmt} {N ps : List Str} {k : Nat} {sp : Sp} {fd : FuncData} (F : FunD K x x (defArgs st) (defBody st) (defScope st) [] [] (He.ga K x) fd) (S : FnScope N ps (defScope st)) (len : ∀ vs H Q E, sp vs H Q E → vs.length = ps.length)
    (hbody : ∀ (A : Around) (outer : List Env) (s : Shared) (H : Hp) (vs : List V) (Q : VK) (E : XK), Room k (A.deeper (envOfC x (defScope st) s.heap.objs.size (He.ga K x) (.ref (He.codeOf K (x, none))))) → sp vs H Q E →
      ∃ t, PSs (cxOf CX P w K mg base N x (defScope st) (He.ga K x) (.ref (He.codeOf K (x, none))) A outer s H E) (defBody st) t ∧ t { nx := fun _ H' => Q .non H', rt := Q } (L2.start N vs) H) : FnOk P w K mg base CX (k + 1) (He.ga K x) fd ps sp := by
  obtain ⟨oc, od, dV, kV, doc, pm, an, cdv, ct, osl, rfl, lk, hcd, _, _⟩ := F.ex
  obtain ⟨c, rfl⟩ := He.codeIn_ref hcd
  have e : He.codeOf K (x, none) = c := He.codeOf_eq (p := (x, none)) lk rfl
  rw [e] at hbody
  exact fn_of lk hcd S len hbody
end Sr

set_option Elab.async false
set_option linter.all false
set_option maxRecDepth 100000
set_option maxHeartbeats 4000000
namespace Sr
open PySem PySem.Spec PyProof.Rows L2
/-! ### a list or a tuple, whichever it is -/
def SqAny (K : PySem.W.Frag) (H : Hp) (a : Addr) (xs : List V) : Prop := SqL K H a xs ∨ SqT K H a xs
theorem PG.or {X : Cx} {e : Expr} {t u : TG} (h : PG X e t) (k : PG X e u) : PG X e (fun v σ H Q => t v σ H Q ∨ u v σ H Q) :=
  ⟨fun pins s σ H v w Q I r q => q.elim (h.run pins s σ H v w Q I r) (k.run pins s σ H v w Q I r)⟩
def gSeq (K : PySem.W.Frag) (n : Nat) (t : TGs) : TG := fun v σ H Q => ∃ a xs, v = .ref a ∧ SqAny K H a xs ∧ xs.length = n ∧ t xs σ H Q
theorem pg_seq {X : Cx} {pos : Pos} {es : List Expr} {k : Nat} {t : TGs} {n : Nat} (hc : X.calm = true) (h : PGs X es t)
    (hn : (assignEach es X.env).length = n := by rfl) (hst : (assignEach es X.env).findIdx? (·.1) = none := by rfl) : PG X (.Tuple es k pos) (gSeq X.K n t) := by
  refine ⟨fun pins s σ H v u Q I r hw => ?_⟩
  obtain ⟨a, xs, e1, hq, hl, hw⟩ := hw
  rcases hq with hq | hq
  · exact (pg_unl (pos := pos) (k := k) hc h hn hst).run pins s σ H v u Q I r ⟨a, xs, e1, hq, hl, hw⟩
  · exact (pg_tup (pos := pos) (k := k) hc h hn hst).run pins s σ H v u Q I r ⟨a, xs, e1, hq, hl, hw⟩
def SeqIt (K : PySem.W.Frag) (H1 : Hp) (a : Addr) (R : It → Hp → Prop) : Prop := ((∃ xs, SqL K H1 a xs) ∧ R (Itl K a) H1) ∨ ((∃ xs, SqT K H1 a xs) ∧ R (Itt K a) H1)
def SeqItE (K : PySem.W.Frag) (H1 : Hp) (a : Addr) (R : It → Hp → Prop) : Prop := ((∃ xs, SqL K H1 a xs) ∧ R (Ite K a) H1) ∨ ((∃ xs, SqT K H1 a xs) ∧ R (Itet K a) H1)
def iSeq (K : PySem.W.Frag) (tl : TE) : TI := fun σ H R => tl σ H fun x H1 => ∃ a, x = .ref a ∧ SeqIt K H1 a R
/-- an iterator just laid down, at the next place, stands for its walk -/
theorem pie_new {X : Cx} {pins : List (Addr × Obj)} {σ : L2.St} {tg : Expr} {R : It → Hp → Prop} {s : Shared} {H : Hp} {J : It} {tn : Nat → Heap → Prop} {o : Obj} {n : Addr} (I : L2.Inv X pins σ H s) (hn : n = s.heap.objs.size) (T : Turn X.prog X.w X.K tg J [n] n tn)
    (h0 : tn 0 (s.heap.push o)) (q : R J H) : PIE X pins σ tg R (.ref n) { s with heap := s.heap.push o } := by
  have keep : L2.Inv X pins σ H { s with heap := s.heap.push o } := I.kept (t' := s.toks) fun _ _ e => Heap.get?_push_of_some _ e
  have fresh : FpOk X pins H n := I.fpOk (Nat.le_of_eq hn.symm) (I.hok.fresh (Nat.le_of_eq hn.symm))
  exact ⟨n, [n], tn, J, H, rfl, keep, T, h0, fun b hb => (List.mem_singleton.mp hb) ▸ fresh, q⟩
theorem pi_seq {X : Cx} {tg l : Expr} {tl : TE} (hl : PE X l tl) : PI X tg l (iSeq X.K tl) := by
  refine ⟨fun pins s σ H R I h => thn (hl.run pins s σ H _ I h) ?_⟩
  rintro v s1 ⟨_, H1, I1, r1, a, rfl, q | q⟩ <;> cases r1 <;> obtain ⟨⟨xs, hq⟩, q⟩ := q
  · obtain ⟨its, _, p, _⟩ := I1.list hq
    exact wpAny_pyIter_list p.isList (pie_new I1 rfl (turn_list a _) ⟨_, Heap.get?_push_size _ rfl, rfl, rfl⟩ q)
  · obtain ⟨its, _, p, _⟩ := I1.tuple hq
    exact wpAny_pyIter_tuple (items := its.toArray) p (pie_new I1 rfl (turn_tuple a _) ⟨_, Heap.get?_push_size _ rfl, rfl, rfl⟩ q)
def iEnumS (K : PySem.W.Frag) (ta : TA) : TI := fun σ H R => ta σ H fun vs H1 => ∃ a, vs = [.ref a] ∧ SeqItE K H1 a R
/-- the same, of two things laid down, the upper one of which is asked -/
theorem pie_two {X : Cx} {pins : List (Addr × Obj)} {σ : L2.St} {tg : Expr} {R : It → Hp → Prop} {s : Shared} {h' : Heap} {H : Hp} {J : It} {tn : Nat → Heap → Prop} {n : Nat} (I : L2.Inv X pins σ H s) (hn : n = s.heap.objs.size) (hk : ∀ b o, s.heap.get? b = some o → h'.get? b = some o)
    (T : Turn X.prog X.w X.K tg J [n + 1, n] (n + 1) tn) (h0 : tn 0 h') (q : R J H) : PIE X pins σ tg R (.ref (n + 1)) { s with heap := h' } := by
  have fresh : ∀ b, n ≤ b → FpOk X pins H b := fun b hb => I.fpOk (hn ▸ hb) (I.hok.fresh (hn ▸ hb))
  refine ⟨n + 1, [n + 1, n], tn, J, H, rfl, I.kept (t' := s.toks) hk, T, h0, ?_, q⟩
  simp only [List.forall_mem_cons, List.not_mem_nil, false_implies, implies_true, and_true]
  exact ⟨fresh _ (Nat.le_succ _), fresh _ (Nat.le_refl _)⟩
theorem pi_enumS {X : Cx} {e : Expr} {ta : TA} {p pos tpos : Pos} {elts : List Expr} {kk : Nat} (hg : Gl X "enumerate") (hm : X.mg "enumerate" = none) (ha : PA X [e] ta) (hs : starEach [e] X.env = [(false, eval e X.env)] := by rfl) :
    PI X (.Tuple elts kk tpos) (.Call (.Name "enumerate" p) [e] [] pos) (iEnumS X.K ta) := by
  refine ⟨fun pins s σ H R I h => Call_ (ld_blt I hg hm boot_enumerate (PyProof.Rows.callWith_type1 (thn (ha.run pos pins s σ H _ I h) ?_) hs rfl))⟩
  rintro us s1 ⟨_, H1, I1, r1, a, rfl, q⟩
  cases r1 with
  | cons r rr =>
    cases rr
    cases r
    rcases q with ⟨⟨xs, hq⟩, q⟩ | ⟨⟨xs, hq⟩, q⟩
    · obtain ⟨its, _, p', _⟩ := I1.list hq
      exact call_enumerate_list p'.isList fun h' he hit _ hk => wpAny_pyIter_enum he (pie_two I1 rfl hk (turn_enum a _ _) ⟨⟨.none, he⟩, hit, Nat.succ_ne_self _⟩ q)
    · obtain ⟨its, _, p', _⟩ := I1.tuple hq
      exact enumT_begins (begins_tuple a its.toArray) p' fun h' he hit _ hk => wpAny_pyIter_enum he (pie_two I1 rfl hk (turn_enumT a _ _) ⟨⟨.none, he⟩, ⟨_, hit, rfl, rfl⟩, Nat.succ_ne_self _⟩ q)
/-- the object of a list or a tuple -/
def seqO (xs : List V) (o : HO) : Prop := o = .lst xs ∨ o = .tup xs
theorem seqO.any {K : PySem.W.Frag} {H : Hp} {a : Addr} {xs : List V} {o : HO} (h : seqO xs o) (e : H a = some o) : SqAny K H a xs := by
  rcases h with rfl | rfl
  · exact .inl (SqL.of e)
  · exact .inr (SqT.of e)
/-- a walk over it, as one walk -/
theorem seq_walk {K : PySem.W.Frag} {a : Addr} {xs : List V} {o : HO} (h : seqO xs o) : ∃ J, Walk J xs.length (fun H => H a = some o) (YAt xs) ∧
    ∀ (H : Hp) (R : It → Hp → Prop), H a = some o → R J H → SeqIt K H a R := by
  rcases h with rfl | rfl
  · exact ⟨Itl K a, walk_list.mono (fun H e => SqL.of e) fun _ _ _ _ _ _ y => y, fun H R e r => .inl ⟨⟨_, SqL.of e⟩, r⟩⟩
  · exact ⟨Itt K a, walk_tup.mono (fun H e => SqT.of e) fun _ _ _ _ _ _ y => y, fun H R e r => .inr ⟨⟨_, SqT.of e⟩, r⟩⟩
theorem seq_walkE {K : PySem.W.Frag} {a : Addr} {xs : List V} {o : HO} (h : seqO xs o) : ∃ J, Walk J xs.length (fun H => H a = some o) (YPair (fun i => some (.int (i : Nat))) (fun i => xs[i]?)) ∧
    ∀ (H : Hp) (R : It → Hp → Prop), H a = some o → R J H → SeqItE K H a R := by
  rcases h with rfl | rfl
  · exact ⟨Ite K a, walk_enum.mono (fun H e => SqL.of e) fun _ _ _ _ _ _ y => y, fun H R e r => .inl ⟨⟨_, SqL.of e⟩, r⟩⟩
  · exact ⟨Itet K a, walk_enumT.mono (fun H e => SqT.of e) fun _ _ _ _ _ _ y => y, fun H R e r => .inr ⟨⟨_, SqT.of e⟩, r⟩⟩
/-- what stands for a list or a tuple -/
def seqOfD : Dt → Option (List Dt)
  | .lst l => some l
  | .tup l => some l
  | _ => none
theorem Is.seq {H : Hp} {v : V} {d : Dt} {l : List Dt} (h : Is H v d) (e : seqOfD d = some l) : ∃ a xs o, v = .ref a ∧ H a = some o ∧ seqO xs o ∧ IsA H xs l ∧ xs.length ≤ 60 := by
  cases h with
  | lst h r z => cases e; exact ⟨_, _, _, rfl, h, .inl rfl, r, z⟩
  | tup h r z => cases e; exact ⟨_, _, _, rfl, h, .inr rfl, r, z⟩
  | _ => cases e
end Sr

set_option Elab.async false
set_option linter.all false
set_option maxRecDepth 100000
set_option maxHeartbeats 4000000
namespace Sr
open PySem PySem.Spec PyProof.Rows L2
/-! ### data as plain data, for == -/
mutual
def toP : Dt → PyData
  | .non => .none
  | .bl b => .bool b
  | .int i => .int i
  | .str s => .str s
  | .lst l => .list (toPs l)
  | .tup l => .tuple (toPs l)
  | .dic => .none
def toPs : List Dt → List PyData
  | [] => []
  | d :: r => toP d :: toPs r
end
mutual
/-- without dicts -/
def plainD : Dt → Bool
  | .lst l => plainDs l
  | .tup l => plainDs l
  | .dic => false
  | _ => true
def plainDs : List Dt → Bool
  | [] => true
  | d :: r => plainD d && plainDs r
end
theorem toPs_map : ∀ l : List Dt, toPs l = l.map toP
  | [] => rfl
  | d :: r => by
    show toP d :: toPs r = toP d :: r.map toP
    rw [toPs_map r]
theorem plainDs_all : ∀ {l : List Dt}, (∀ d ∈ l, plainD d = true) → plainDs l = true
  | [], _ => rfl
  | d :: r, h => by
    unfold plainDs
    rw [h d List.mem_cons_self, plainDs_all fun x m => h x (List.mem_cons_of_mem _ m)]
    rfl
mutual
theorem dp_of {K : PySem.W.Frag} {H : Hp} : ∀ {v : V} {d : Dt}, Is H v d → plainD d = true → Dp K H v (toP d)
  | _, _, .non, _ => .non
  | _, _, .bl b, _ => .bl b
  | _, _, .int i, _ => .int i
  | _, _, .str s h, _ => .str s
  | _, _, .lst h r z, p => .lst (SqL.of h) (dp_ofs r p)
  | _, _, .tup h r z, p => .tup (SqT.of h) (dp_ofs r p)
  | _, _, .dic h, p => by cases p
theorem dp_ofs {K : PySem.W.Frag} {H : Hp} : ∀ {vs : List V} {ds : List Dt}, IsA H vs ds → plainDs ds = true → DpAll K H vs (toPs ds)
  | _, _, .nil, _ => .nil
  | _, _, .cons h r, p => .cons (dp_of h (Bool.and_eq_true_iff.mp p).1) (dp_ofs r (Bool.and_eq_true_iff.mp p).2)
end
/-- a last thing that is otherwise -/
theorem eqvAll_last {x y : PyData} (h : PyData.eqv x y = false) : ∀ l : List PyData, PyData.eqvAll (l ++ [x]) (l ++ [y]) = false
  | [] => by
    show (PyData.eqv x y && true) = false
    rw [h]
    rfl
  | d :: r => by
    show (PyData.eqv d d && PyData.eqvAll (r ++ [x]) (r ++ [y])) = false
    rw [eqvAll_last h r, Bool.and_false]
theorem eqvAll_more {x : PyData} : ∀ l : List PyData, PyData.eqvAll (l ++ [x]) l = false
  | [] => rfl
  | d :: r => by
    show (PyData.eqv d d && PyData.eqvAll (r ++ [x]) r) = false
    rw [eqvAll_more r, Bool.and_false]
/-- data that may be compared, n deep -/
structure Lay (n : Nat) (d : Dt) : Prop where
  pl : plainD d = true
  cl : PyData.canLay0 (toP d) = true
  dp : PyData.depth (toP d) ≤ n
theorem lays {n : Nat} : ∀ {l : List Dt}, (∀ d ∈ l, Lay n d) → plainDs l = true ∧ PyData.canLayAll0 (toPs l) = true ∧ PyData.depthAll (toPs l) ≤ n
  | [], _ => ⟨rfl, rfl, Nat.zero_le _⟩
  | d :: r, h => by
    have h1 := h d List.mem_cons_self
    obtain ⟨a, b, c⟩ := lays fun x m => h x (List.mem_cons_of_mem _ m)
    refine ⟨?_, ?_, ?_⟩
    · show (plainD d && plainDs r) = true
      rw [h1.pl, a]
      rfl
    · show (PyData.canLay0 (toP d) && PyData.canLayAll0 (toPs r)) = true
      rw [h1.cl, b]
      rfl
    · show max (PyData.depth (toP d)) (PyData.depthAll (toPs r)) ≤ n
      have := h1.dp
      omega
theorem Lay.tup {n : Nat} {l : List Dt} (h : ∀ d ∈ l, Lay n d) : Lay (n + 1) (.tup l) := by
  obtain ⟨a, b, c⟩ := lays h
  exact ⟨a, b, Nat.succ_le_succ c⟩
theorem Lay.lst {n : Nat} {l : List Dt} (h : ∀ d ∈ l, Lay n d) : Lay (n + 1) (.lst l) := by
  obtain ⟨a, b, c⟩ := lays h
  exact ⟨a, b, Nat.succ_le_succ c⟩
theorem Lay.int {n : Nat} {i : Int} : Lay n (.int i) := ⟨rfl, rfl, Nat.zero_le _⟩
theorem Lay.str {n : Nat} {s : Str} (h : PyData.canLay0 (.str s) = true) : Lay n (.str s) := ⟨rfl, h, Nat.zero_le _⟩
theorem lay_shaped {n : Nat} {l : List Dt} (h : ∀ d ∈ l, Lay n d) (hn : n + 1 ≤ 64) : plainDs l = true ∧ SeqAt.shaped (.list (toPs l)) = true := by
  obtain ⟨a, b, c⟩ := lays h
  refine ⟨a, ?_⟩
  show (PyData.canLayAll0 (toPs l) && decide (PyData.depthAll (toPs l) + 1 ≤ 64)) = true
  rw [b, decide_eq_true (by omega)]
  rfl
end Sr

set_option Elab.async false
set_option linter.all false
set_option maxRecDepth 100000
set_option maxHeartbeats 4000000
namespace Sr
open PySem PySem.Spec PyProof.Rows L2
/-! ### x in a tuple, by what they stand for; two rules for one operation -/
def rInDT (K : PySem.W.Frag) : R2 := fun x y H Q => ∃ d ds, Dp K H x d ∧ Dp K H y (.tuple ds) ∧ SeqAt.shaped d = true ∧ PyData.canLayAll0 ds = true ∧ Q (.bl (ds.any fun z => PyData.eqv z d)) H
theorem op_inDT {X : Cx} (hu : X.A.units + 65 < cLine) : OpR X (compareOp .In) (rInDT X.K) := by
  intro pins s σ H x y v u Q I rx ry h
  obtain ⟨d, ds, hd, he, sd, se, q⟩ := h
  obtain ⟨as, r1⟩ := Dp.reads I d x v hd rx
  obtain ⟨bs, r2⟩ := Dp.reads I (.tuple ds) y u he ry
  exact SeqAt.in_tuple_reads r2 r1 se (SeqAt.canLay_of_shaped sd) (room_in_shaped sd hu) ⟨.bl _, H, I, rfl, q⟩
theorem op_or {X : Cx} {op : Value → Value → Sem Value} {r r' : R2} (h : OpR X op r) (h' : OpR X op r') : OpR X op (fun x y H Q => r x y H Q ∨ r' x y H Q) := by
  intro pins s σ H x y v u Q I rx ry z
  rcases z with z | z
  · exact h pins s σ H x y v u Q I rx ry z
  · exact h' pins s σ H x y v u Q I rx ry z
theorem u65 {k : Nat} {A : Around} (r : Room k A) : A.units + 65 < cLine := by have := r.un; omega
end Sr

set_option Elab.async false
set_option linter.all false
set_option maxRecDepth 100000
set_option maxHeartbeats 4000000
namespace K31
open PySem PySem.Spec PyProof.Rows L2 Sr
def top (i : Nat) : Stmt := PySem.Challenge.pw_seatroads_k31_queues_told.main.body.getD i (.Pass ⟨0, 0, 0, 0⟩)
def signs : Str := "abcdefghijklmnopqrstuvwxyz0123456789"
/-- what the top leaves besides defs -/
structure Txt (K : PySem.W.Frag) (mg : Str → Option Value) : Prop where
  len : mg "len" = none
  isinstance : mg "isinstance" = none
  all : mg "all" = none
  range : mg "range" = none
  sorted : mg "sorted" = none
  list : mg "list" = none
  tuple : mg "tuple" = none
  min : mg "min" = none
  int : mg "int" = none
  str : mg "str" = none
  bool : mg "bool" = none
  dict : mg "dict" = none
  zip : mg "zip" = none
  enumerate : mg "enumerate" = none
  gSigns : ∃ t, mg "SIGNS" = some (.str signs t)
  gLongest : ∃ t, mg "LONGEST" = some (.int 8 t)
  max : mg "max" = none
  sum : mg "sum" = none
  set : mg "set" = none
  any : mg "any" = none
  abs : mg "abs" = none
theorem Txt.e_SIGNS {X : Cx} {p : Pos} (T : Txt X.K X.mg) (h : Gl X "SIGNS" := by rfl) : PE X (.Name "SIGNS" p) (tC (.str signs)) := by
  obtain ⟨t, e⟩ := T.gSigns
  exact pe_glob h e ⟨t, rfl⟩
theorem Txt.e_LONGEST {X : Cx} {p : Pos} (T : Txt X.K X.mg) (h : Gl X "LONGEST" := by rfl) : PE X (.Name "LONGEST" p) (tC (.int 8)) := by
  obtain ⟨t, e⟩ := T.gLongest
  exact pe_glob h e ⟨t, rfl⟩
/-! ### what the defs tell -/
def nameOk : Dt → Bool
  | .str s => (decide (1 ≤ s.length) && decide (s.length ≤ 8)) && s.cps.toList.all fun c => decide (c ∈ signs.cps.toList)
  | _ => false
/-- of one datum: told a Bool, what stood stays -/
def spB (f : Dt → Bool) : Sp := fun vs H Q _ => ∃ v d, vs = [v] ∧ Is H v d ∧ ∀ H', Same H H' → Q (.bl (f d)) H'
theorem spB_len {f : Dt → Bool} (vs : List V) (H : Hp) (Q : VK) (E : XK) (h : spB f vs H Q E) : vs.length = 1 := by
  obtain ⟨v, d, rfl, _⟩ := h
  rfl
abbrev one {α : Type} {l : List α} (h : l.length = 1) : ∃ x, l = [x] := List.length_eq_one_iff.mp h
section
variable {P : Program} {w : World} {K : PySem.W.Frag} {mg : Str → Option Value} {base : Heap}
abbrev s_is_list : Stmt := top 4
theorem sc_is_list : FnScope ["thing"] ["thing"] (defScope s_is_list) := ⟨rfl, rfl, rfl, by decide +kernel, rfl, by decide +kernel, by decide +kernel⟩
theorem c_is_list (T : Txt K mg) (D : Dfn K mg "is_list" s_is_list) : Cal P w K mg base 1 "is_list" ["thing"] (spB isSeq) := by
  refine D.cal sc_is_list (fun _ _ _ _ _ _ us hl => match us, hl with | [_], _ => rfl) spB_len fun cdv A outer s H vs Q E hr h => ?_
  obtain ⟨v, d, rfl, hv, q⟩ := h
  refine ⟨_, (pss_one (ps_ret (pe_callB (id := "isinstance") call_isiT (by rfl) T.isinstance (by decide +kernel) (pa_cons (pv 0) (pa_cons (pe_tup (pa_cons (pe_tyv (n := "list") (by rfl) T.list (by decide +kernel)) (pa_cons (pe_tyv (n := "tuple") (by rfl) T.tuple (by decide +kernel)) pa_nil))) pa_nil))))), ?_⟩
  refine ⟨_, rfl, two_line, fun p hp => ⟨v, p, [.ty "list", .ty "tuple"], .type (tyN d), [.type "list", .type "tuple"], _, rfl, upd_same, cls_two _ _, (hv.mono (Same.up hp)).ty, kit_seq K d, q _ (Same.up hp)⟩⟩
abbrev s_is_integer : Stmt := top 3
theorem sc_is_integer : FnScope ["thing"] ["thing"] (defScope s_is_integer) := ⟨rfl, rfl, rfl, by decide +kernel, rfl, by decide +kernel, by decide +kernel⟩
def isInteger (d : Dt) : Bool := isInt d && !isBl d
theorem c_is_integer (T : Txt K mg) (D : Dfn K mg "is_integer" s_is_integer) : Cal P w K mg base 1 "is_integer" ["thing"] (spB isInteger) := by
  refine D.cal sc_is_integer (fun _ _ _ _ _ _ us hl => match us, hl with | [_], _ => rfl) spB_len fun cdv A outer s H vs Q E hr h => ?_
  obtain ⟨v, d, rfl, hv, q⟩ := h
  refine ⟨_, (pss_one (ps_ret (pe_and (pe_callB (id := "isinstance") call_isi (by rfl) T.isinstance (by decide +kernel) (pa_cons (pv 0) (pa_cons (pe_tyv (n := "int") (by rfl) T.int (by decide +kernel)) pa_nil))) (pe_one (pe_not (pe_callB (id := "isinstance") call_isi (by rfl) T.isinstance (by decide +kernel) (pa_cons (pv 0) (pa_cons (pe_tyv (n := "bool") (by rfl) T.bool (by decide +kernel)) pa_nil)))))))), ?_⟩
  refine ⟨_, rfl, v, _, _, _, _, rfl, .ty _, hv.ty, kit_int K d, _, rfl, ?_⟩
  have e : isInteger d = if isInt d = true then !isBl d else false := by
    unfold isInteger
    cases isInt d <;> rfl
  cases c : isInt d with
  | true =>
    rw [c, if_pos rfl] at e
    exact iteT ⟨_, rfl, v, _, _, _, _, rfl, .ty _, hv.ty, kit_bool K d, _, rfl, by rw [← e]; exact q _ (Same.refl H)⟩
  | false =>
    rw [c] at e
    exact iteF (by rw [show (false : Bool) = isInteger d from e.symm]; exact q _ (Same.refl H))
abbrev s_is_name : Stmt := top 5
theorem sc_is_name : FnScope ["thing", "sign"] ["thing"] (defScope s_is_name) := ⟨rfl, rfl, rfl, by decide +kernel, rfl, by decide +kernel, by decide +kernel⟩
theorem c_is_name (T : Txt K mg) (D : Dfn K mg "is_name" s_is_name) : Cal P w K mg base 1 "is_name" ["thing"] (spB nameOk) := by
  refine D.cal sc_is_name (fun _ _ _ _ _ _ us hl => match us, hl with | [_], _ => rfl) spB_len fun cdv A outer s H vs Q E hr h => ?_
  obtain ⟨v, d, rfl, hv, q⟩ := h
  refine ⟨_, (pss_cons (ps_if (PW.pt (pw_or (pt_not (pt_val (pe_callB (id := "isinstance") call_isi (by rfl) T.isinstance (by decide +kernel) (pa_cons (pv 0) (pa_cons (pe_tyv (n := "str") (by rfl) T.str (by decide +kernel)) pa_nil))))) (pw_or1 (pt_not (pt_chain op_le op_le pe_int (pe_callB (id := "len") call_len_str (by rfl) T.len (by decide +kernel) (pa_cons (pv 0) pa_nil)) (T.e_LONGEST (by rfl))))))) (pss_one (ps_ret pe_bl)) pss_nil)
      (pss_one (ps_ret (pe_callB (id := "all") (cr_all rfl) (by rfl) T.all (by decide +kernel) (pa_cons (pe_lc (own := [("sign", 1)]) (g := gName 1) (tt := tYes) rfl sc_is_name.nd (pi_str (pv 0)) (blkOk_by (N := ["thing", "sign"]) (sc := defScope s_is_name) (by decide +kernel)) (fun _ _ _ _ _ => (pg_name (i := 1) sc_is_name.nd rfl (by first | exact Or.inl rfl | exact Or.inr rfl))) (fun _ _ _ _ _ => pts_nil) (fun _ _ _ _ _ => (pe_cmpR op_in_sign (pv 1) (T.e_SIGNS (by rfl)) (by rfl)))) pa_nil))))), ?_⟩
  refine ⟨_, rfl, v, _, _, _, _, rfl, .ty _, hv.ty, kit_str K d, _, rfl, ?_⟩
  cases hv with
  | str z hz =>
    refine iteF ?_
    refine ⟨_, rfl, z, rfl, Nat.le_of_lt (sz hz), _, _, rfl, rfl, _, rfl, ?_⟩
    have hS : z.cps.toList.length = z.cps.size := Array.length_toList
    have key : ∀ b : Bool, nameOk (.str z) = b → ∀ H', Same H H' → Q (.bl b) H' := fun b e => e ▸ q
    by_cases h1 : (1 : Int) ≤ (z.length : Int)
    · rw [decide_eq_true h1]
      refine iteT ⟨_, _, rfl, rfl, _, rfl, ?_⟩
      by_cases h2 : (z.length : Int) ≤ 8
      · rw [decide_eq_true h2]
        refine iteF ?_
        refine ⟨_, rfl, z, rfl, fun D hD => lc_pure walk_str (At := fun i x => ∃ c, z.cps[i]? = some c ∧ x = .str ⟨#[c]⟩) (fun _ _ _ _ y => y) ((z.cps.toList.map fun c => decide (c ∈ signs.cps.toList)).map V.bl)
          (by rw [List.length_map, List.length_map, hS]) (sz (m := 1000) hz) hD (fun _ _ => trivial) (fun i x y H1 Q hi hx hy s1 k => ?_) (fun H' s' h' => all_of h' ?_)⟩
        · obtain ⟨c, hc, rfl⟩ := hx
          refine ⟨_, rfl, c, signs, rfl, rfl, ?_⟩
          rw [List.getElem?_map, List.getElem?_map, Array.getElem?_toList, hc] at hy
          obtain rfl : V.bl (decide (c ∈ signs.cps.toList)) = y := Option.some.inj hy
          exact k _ (Same.refl _)
        · refine key _ ?_ H' s'
          show ((decide (1 ≤ z.length) && decide (z.length ≤ 8)) && _) = _
          rw [decide_eq_true (by omega), decide_eq_true (by omega), List.all_map]
          rfl
      · rw [decide_eq_false h2]
        refine iteT (key _ ?_ _ (Same.refl H))
        show ((decide (1 ≤ z.length) && decide (z.length ≤ 8)) && _) = _
        rw [decide_eq_false (show ¬ z.length ≤ 8 by omega), Bool.and_false, Bool.false_and]
    · rw [decide_eq_false h1]
      refine iteF ⟨_, rfl, iteT (key _ ?_ _ (Same.refl H))⟩
      show ((decide (1 ≤ z.length) && decide (z.length ≤ 8)) && _) = _
      rw [decide_eq_false (show ¬ 1 ≤ z.length by omega), Bool.false_and, Bool.false_and]
  | _ => exact iteT (q _ (Same.refl H))
end
end K31

set_option Elab.async false
set_option linter.all false
set_option maxRecDepth 100000
set_option maxHeartbeats 4000000
namespace Sr
open PySem PySem.Spec PyProof.Rows L2
theorem Paired.snoc {α β : Type} {F : α → β → Prop} {a : α} {b : β} (h : F a b) : ∀ {l : List α} {m : List β}, Paired F l m → Paired F (l ++ [a]) (m ++ [b])
  | _, _, .nil => .cons h .nil
  | _, _, .cons h1 t => .cons h1 (Paired.snoc h t)
theorem Paired.imp' {α β : Type} {F G : α → β → Prop} (f : ∀ a b, F a b → G a b) : ∀ {l : List α} {m : List β}, Paired F l m → Paired G l m
  | _, _, .nil => .nil
  | _, _, .cons h t => .cons (f _ _ h) (Paired.imp' f t)
/-- a comprehension over items, some of which are kept, each kept one a new thing; nothing that stood is changed -/
theorem lc_genD {α : Type} {J : It} {n : Nat} {G : Hp → Prop} {Y : Nat → Hp → V → Hp → Prop} {At : Nat → Hp → V → Prop} (w : Walk J n G Y) (hy : ∀ i H x H', Y i H x H' → H' = H ∧ At i H x) {g : TG} {tt : TT} {te : TE} {vs : List Nat} {σ : L2.St} {H : Hp} {D : Addr} {Qd : Hp → Prop}
    (items : List α) (keep : α → Bool) (hn : items.length = n) (hz : n < sizeLine) (hD : H D = none) (hG : ∀ H', Same H H' → G H') (Rel : Hp → α → V → Prop) (mono : ∀ H1 H2 a y, Same H1 H2 → Rel H1 a y → Rel H2 a y) (lay : ∀ H1 a y c c', H1 D = some (.lst c) → Rel H1 a y → Rel (upd H1 D (.lst c')) a y)
    (turn : ∀ (i : Nat) (x : V) (a : α) (H1 : Hp) (A : V → Hp → Prop) (B : Hp → Prop), i < n → At i H1 x → items[i]? = some a → H1 D ≠ none → Same H H1 → (keep a = true → ∀ y H2, Same H1 H2 → Rel H2 a y → A y H2) → (keep a = false → ∀ H2, Same H1 H2 → B H2) →
      g x (wipe σ vs) H1 fun σ2 H2 => wipe σ2 vs = wipe σ vs ∧ tt σ2 H2 fun b H3 => if b = true then te σ2 H3 A else B H3)
    (fin : ∀ H' acc, Same H H' → H' D = some (.lst acc) → Paired (fun y a => Rel H' a y) acc (items.filter keep) → Qd H') :
    ∃ W : Nat → Nat → Hp → Prop, (∃ m, W 0 m (upd H D (.lst []))) ∧ ∀ i m H, W i m H →
      (J.stop i H ∧ Qd H) ∨ (J.go i H ∧ ∃ Nx : Hp → Prop, (∀ H', Nx H' → ∃ m', m' < m ∧ W (i + 1) m' H') ∧ ∀ x H', J.yld i H x H' → g x (wipe σ vs) H' fun σ2 H2 => wipe σ2 vs = wipe σ vs ∧ tt σ2 H2 fun b H3 =>
        if b = true then te σ2 H3 fun y H4 => ∃ acc, H4 D = some (.lst acc) ∧ acc.length < sizeLine ∧ Nx (upd H4 D (.lst (acc ++ [y]))) else Nx H3) := by
  have below : ∀ {H1 H2 : Hp} {o : HO}, Same H H1 → Same H1 H2 → Same H (upd H2 D o) := fun {H1 H2 o} a b c u e => by
    rw [upd_ne (ne_of_none e hD)]
    exact b _ _ (a _ _ e)
  refine lc_it w (fun i H' => Same H H' ∧ ∃ acc, H' D = some (.lst acc) ∧ Paired (fun y a => Rel H' a y) acc ((items.take i).filter keep)) ⟨Same.up hD, [], upd_same, by simp; exact .nil⟩ (fun i H' _ p => hG H' p.1) (fun i x H1 H2 hi p y => ?_) fun H' p => ?_
  · obtain ⟨rfl, hx⟩ := hy _ _ _ _ y
    obtain ⟨s1, acc, hd, pr⟩ := p
    have hi' : i < items.length := by omega
    have tk : items.take (i + 1) = items.take i ++ [items[i]] := by rw [List.take_add_one, List.getElem?_eq_getElem hi']; rfl
    have hl : acc.length < sizeLine := by
      have h1 := Paired.length pr
      have h2 := List.length_filter_le keep (items.take i)
      rw [List.length_take] at h2
      omega
    refine turn i x items[i] H2 _ _ hi hx (List.getElem?_eq_getElem hi') (by rw [hd]; simp) s1 (fun hk y H3 s3 r => ?_) fun hk H3 s3 => ?_
    · refine ⟨acc, s3 _ _ hd, hl, below s1 s3, _, upd_same, ?_⟩
      rw [tk, List.filter_append, List.filter_cons, if_pos hk]
      have r1 : Rel (upd H3 D (.lst (acc ++ [y]))) items[i] y := lay _ _ _ _ _ (s3 _ _ hd) r
      have pr1 : Paired (fun z a => Rel (upd H3 D (.lst (acc ++ [y]))) a z) acc ((items.take i).filter keep) := Paired.imp' (fun y a h => lay _ a y _ _ (s3 _ _ hd) (mono _ _ a y s3 h)) pr
      exact Paired.snoc (F := fun z a => Rel (upd H3 D (.lst (acc ++ [y]))) a z) r1 pr1
    · refine ⟨s1.trans s3, acc, s3 _ _ hd, ?_⟩
      rw [tk, List.filter_append, List.filter_cons, if_neg (by rw [hk]; simp)]
      simp only [List.filter_nil, List.append_nil]
      exact Paired.imp' (fun y a h => mono _ _ _ _ s3 h) pr
  · obtain ⟨s1, acc, hd, pr⟩ := p
    rw [← hn, List.take_length] at pr
    exact fin H' acc s1 hd pr
/-- a comprehension over items, some of which are kept, each kept one a new thing; nothing that stood is changed -/
theorem lc_gen {α : Type} {J : It} {n : Nat} {G : Hp → Prop} {Y : Nat → Hp → V → Hp → Prop} {At : Nat → Hp → V → Prop} (w : Walk J n G Y) (hy : ∀ i H x H', Y i H x H' → H' = H ∧ At i H x) {g : TG} {tt : TT} {te : TE} {vs : List Nat} {σ : L2.St} {H : Hp} {D : Addr} {Qd : Hp → Prop}
    (items : List α) (keep : α → Bool) (hn : items.length = n) (hz : n < sizeLine) (hD : H D = none) (hG : ∀ H', Same H H' → G H') (Rel : Hp → α → V → Prop) (mono : ∀ H1 H2 a y, Same H1 H2 → Rel H1 a y → Rel H2 a y) (lay : ∀ H1 a y c c', H1 D = some (.lst c) → Rel H1 a y → Rel (upd H1 D (.lst c')) a y)
    (turn : ∀ (i : Nat) (x : V) (a : α) (H1 : Hp) (A : V → Hp → Prop) (B : Hp → Prop), i < n → At i H1 x → items[i]? = some a → Same H H1 → (keep a = true → ∀ y H2, Same H1 H2 → Rel H2 a y → A y H2) → (keep a = false → ∀ H2, Same H1 H2 → B H2) →
      g x (wipe σ vs) H1 fun σ2 H2 => wipe σ2 vs = wipe σ vs ∧ tt σ2 H2 fun b H3 => if b = true then te σ2 H3 A else B H3)
    (fin : ∀ H' acc, Same H H' → H' D = some (.lst acc) → Paired (fun y a => Rel H' a y) acc (items.filter keep) → Qd H') :
    ∃ W : Nat → Nat → Hp → Prop, (∃ m, W 0 m (upd H D (.lst []))) ∧ ∀ i m H, W i m H →
      (J.stop i H ∧ Qd H) ∨ (J.go i H ∧ ∃ Nx : Hp → Prop, (∀ H', Nx H' → ∃ m', m' < m ∧ W (i + 1) m' H') ∧ ∀ x H', J.yld i H x H' → g x (wipe σ vs) H' fun σ2 H2 => wipe σ2 vs = wipe σ vs ∧ tt σ2 H2 fun b H3 =>
        if b = true then te σ2 H3 fun y H4 => ∃ acc, H4 D = some (.lst acc) ∧ acc.length < sizeLine ∧ Nx (upd H4 D (.lst (acc ++ [y]))) else Nx H3) :=
  lc_genD w hy items keep hn hz hD hG Rel mono lay (fun i x a H1 A B hi hx ha _ s1 => turn i x a H1 A B hi hx ha s1) fin
end Sr

set_option Elab.async false
set_option linter.all false
set_option maxRecDepth 100000
set_option maxHeartbeats 4000000
namespace Sr
open PySem PySem.Spec PyProof.Rows L2
/-! ### dicts of sums -/
def intOf : Option V → Int
  | some (.int i) => i
  | _ => 0
section
variable {κ : Type} [DecidableEq κ]
def bump (kvs : List (κ × V)) (k : κ) (n : Int) : List (κ × V) := putK kvs k (.int (intOf (valV kvs k) + n))
structure Ints (P : κ → Prop) (kvs : List (κ × V)) : Prop where
  ent : ∀ e ∈ kvs, P e.1 ∧ ∃ n, e.2 = .int n
  nd : (kvs.map (·.1)).Nodup
theorem Ints.nil {P : κ → Prop} : Ints P ([] : List (κ × V)) := ⟨fun _ m => absurd m (by simp), List.nodup_nil⟩
theorem Ints.bump {P : κ → Prop} {kvs : List (κ × V)} {k : κ} {n : Int} (h : Ints P kvs) (hk : P k) : Ints P (Sr.bump kvs k n) := by
  unfold Sr.bump putK
  split
  · refine ⟨fun e m => ?_, ?_⟩
    · obtain ⟨e0, m0, rfl⟩ := List.mem_map.mp m
      split
      · exact ⟨(h.ent _ m0).1, _, rfl⟩
      · exact h.ent _ m0
    · rw [List.map_map]
      have e : (kvs.map ((fun x : κ × V => x.1) ∘ fun kv => if kv.1 = k then (kv.1, V.int (intOf (valV kvs k) + n)) else kv)) = kvs.map (·.1) := by
        refine List.map_congr_left fun kv _ => ?_
        show (if kv.1 = k then (kv.1, V.int (intOf (valV kvs k) + n)) else kv).1 = kv.1
        split <;> rfl
      rw [e]
      exact h.nd
  · rename_i no
    refine ⟨fun e m => ?_, ?_⟩
    · rcases List.mem_append.mp m with m | m
      · exact h.ent _ m
      · rw [List.mem_singleton.mp m]
        exact ⟨hk, _, rfl⟩
    · rw [List.map_append]
      refine List.nodup_append.mpr ⟨h.nd, by simp, fun a ha b hb e => no ?_⟩
      have hb' : b = k := by simpa using hb
      obtain ⟨kv, m, e2⟩ := List.mem_map.mp ha
      exact List.any_eq_true.mpr ⟨kv, m, decide_eq_true (e2.trans (e.trans hb'))⟩
theorem bump_len {kvs : List (κ × V)} {k : κ} {n : Int} : (Sr.bump kvs k n).length ≤ kvs.length + 1 := length_putK _ _ _
theorem val_of {kvs : List (κ × V)} : (kvs.map (·.1)).Nodup → ∀ {e : κ × V}, e ∈ kvs → valV kvs e.1 = some e.2 := by
  induction kvs with
  | nil => intro _ e m; cases m
  | cons p r ih =>
    intro nd e m
    rw [List.map_cons] at nd
    obtain ⟨n1, n2⟩ := List.nodup_cons.mp nd
    rcases List.mem_cons.mp m with rfl | m
    · exact valV_pos rfl
    · rw [valV_neg (fun z => n1 (by rw [z]; exact List.mem_map.mpr ⟨e, m, rfl⟩))]
      exact ih n2 m
theorem val_mem {kvs : List (κ × V)} {k : κ} {v : V} (h : valV kvs k = some v) : (k, v) ∈ kvs := by
  unfold valV at h
  obtain ⟨e, h1, h2⟩ := Option.map_eq_some_iff.mp h
  have h3 := List.find?_some h1
  have h4 : e.1 = k := of_decide_eq_true h3
  have m := List.mem_of_find?_eq_some h1
  rw [← h4, ← h2]
  exact m
/-- d.get(k, 0) -/
theorem Ints.get {P : κ → Prop} {kvs : List (κ × V)} (h : Ints P kvs) (k : κ) : (valV kvs k).getD (.int 0) = .int (intOf (valV kvs k)) := by
  cases e : valV kvs k with
  | none => rfl
  | some v =>
    obtain ⟨_, n, en⟩ := h.ent _ (val_mem e)
    have en : v = .int n := en
    subst en
    rfl
theorem Ints.at_ {P : κ → Prop} {kvs : List (κ × V)} (h : Ints P kvs) {k : κ} (m : k ∈ kvs.map (·.1)) : valV kvs k = some (.int (intOf (valV kvs k))) := by
  obtain ⟨e, m2, rfl⟩ := List.mem_map.mp m
  obtain ⟨_, n, en⟩ := h.ent _ m2
  rw [val_of h.nd m2, en]
  rfl
/-- sums of rows, each at its key -/
def sums {α : Type} (key : α → κ) (am : α → Int) (rows : List α) : List (κ × V) := rows.foldl (fun kvs r => bump kvs (key r) (am r)) []
theorem sums_snoc {α : Type} (key : α → κ) (am : α → Int) (rows : List α) (r : α) : sums key am (rows ++ [r]) = bump (sums key am rows) (key r) (am r) := by
  unfold sums
  rw [List.foldl_append]
  rfl
theorem sums_len {α : Type} (key : α → κ) (am : α → Int) : ∀ (rows : List α) (kvs : List (κ × V)), (rows.foldl (fun kvs r => bump kvs (key r) (am r)) kvs).length ≤ kvs.length + rows.length
  | [], _ => Nat.le_refl _
  | r :: t, kvs => by
    have h1 := sums_len key am t (bump kvs (key r) (am r))
    have h2 := bump_len (kvs := kvs) (k := key r) (n := am r)
    simp only [List.foldl_cons, List.length_cons]
    omega
theorem sums_ints {α : Type} {P : κ → Prop} (key : α → κ) (am : α → Int) : ∀ (rows : List α) (kvs : List (κ × V)), Ints P kvs → (∀ r ∈ rows, P (key r)) → Ints P (rows.foldl (fun kvs r => bump kvs (key r) (am r)) kvs)
  | [], _, h, _ => h
  | r :: t, kvs, h, hp => sums_ints key am t _ (h.bump (hp r List.mem_cons_self)) fun x m => hp x (List.mem_cons_of_mem _ m)
end
/-! ### what is told of sums with pairs of texts for keys -/
def small (p : Str × Str) : Prop := p.1.length ≤ 1000 ∧ p.2.length ≤ 1000
def isPk (k : List Key) : Prop := ∃ p, k = pk p ∧ small p
def unpk : List Key → Str × Str
  | [.inr a, .inr b] => (a, b)
  | _ => ("", "")
theorem unpk_pk (p : Str × Str) : unpk (pk p) = p := rfl
theorem pk_inj {p q : Str × Str} (h : pk p = pk q) : p = q := by rw [← unpk_pk p, ← unpk_pk q, h]
def keysOf (kvs : List (List Key × V)) : List (Str × Str) := kvs.map fun e => unpk e.1
theorem keysOf_eq {kvs : List (List Key × V)} (h : Ints isPk kvs) : kvs.map (·.1) = (keysOf kvs).map pk := by
  unfold keysOf
  rw [List.map_map]
  refine List.map_congr_left fun e m => ?_
  obtain ⟨⟨p, e1, _⟩, _⟩ := h.ent e m
  show e.1 = pk (unpk e.1)
  rw [e1, unpk_pk]
theorem keysOf_small {kvs : List (List Key × V)} (h : Ints isPk kvs) : ∀ p ∈ keysOf kvs, small p := fun p m => by
  obtain ⟨e, m2, rfl⟩ := List.mem_map.mp m
  obtain ⟨⟨q, e1, sm⟩, _⟩ := h.ent e m2
  rw [e1]
  exact sm
theorem keysOf_nodup {kvs : List (List Key × V)} (h : Ints isPk kvs) : (keysOf kvs).Nodup := by
  have nd := h.nd
  rw [keysOf_eq h] at nd
  exact List.Pairwise.imp (fun {a b} ne e => ne (by rw [e])) (List.pairwise_map.mp nd)
def amt (kvs : List (List Key × V)) (p : Str × Str) : Int := intOf (valV kvs (pk p))
def kept (kvs : List (List Key × V)) : List (Str × Str) := (pSort (keysOf kvs)).filter fun p => decide (amt kvs p ≠ 0)
def rowTd (p : Str × Str) (n : Int) : Dt := .tup [.str p.1, .str p.2, .int n]
def toldOf (kvs : List (List Key × V)) : List Dt := (kept kvs).map fun p => rowTd p (amt kvs p)
/-- what is told stands in the heap -/
theorem isA_told {H : Hp} {f : Str × Str → Int} : ∀ {acc : List V} {ks : List (Str × Str)}, Paired (fun y k => ∃ q, y = V.ref q ∧ H q = some (.tup [.str k.1, .str k.2, .int (f k)])) acc ks → (∀ k ∈ ks, small k) → IsA H acc (ks.map fun p => rowTd p (f p))
  | _, _, .nil, _ => .nil
  | _, _, .cons (b := k) ⟨q, e, h⟩ t, sm => by
    rw [e]
    have h1 := sm k List.mem_cons_self
    exact .cons (.tup h (.cons (.str _ h1.1) (.cons (.str _ h1.2) (.cons (.int _) .nil))) (show (3 : Nat) ≤ 60 by decide)) (isA_told t fun x m => sm x (List.mem_cons_of_mem _ m))
theorem kept_mem {kvs : List (List Key × V)} {p : Str × Str} (m : p ∈ kept kvs) : p ∈ keysOf kvs := (pSort_perm _).mem_iff.mp (List.mem_filter.mp m).1
theorem kept_nodup {kvs : List (List Key × V)} (h : Ints isPk kvs) : (kept kvs).Nodup := ((pSort_perm _).nodup_iff.mpr (keysOf_nodup h)).filter _
theorem kept_len {kvs : List (List Key × V)} : (kept kvs).length ≤ kvs.length := by
  refine Nat.le_trans (List.length_filter_le _ _) ?_
  rw [(pSort_perm _).length_eq]
  unfold keysOf
  rw [List.length_map]
  exact Nat.le_refl _
end Sr

set_option Elab.async false
set_option linter.all false
set_option maxRecDepth 100000
set_option maxHeartbeats 4000000
namespace Sr
open PySem PySem.Spec PyProof.Rows L2 LamX
/-! ### all but the draws' list -/
def rm (H : Hp) (a : Addr) : Hp := fun b => if b = a then none else H b
theorem cut_if {S REST : TS} {D : Ends} {σ : L2.St} {H : Hp} (G : L2.St → Hp → Prop) (hr : ∀ σ2 H2, G σ2 H2 → REST D σ2 H2) (h : (∀ σ2 H2, G σ2 H2 → REST D σ2 H2) → tSeq S REST D σ H) : tSeq S REST D σ H := h hr
theorem rm_same {H : Hp} {a : Addr} : Same (rm H a) H := fun b o e => by
  unfold rm at e
  split at e
  · cases e
  · exact e
theorem rm_at {H : Hp} {a : Addr} : rm H a a = none := by unfold rm; rw [if_pos rfl]
theorem rm_ne {H : Hp} {a b : Addr} (h : b ≠ a) : rm H a b = H b := by unfold rm; rw [if_neg h]
theorem rm_new {H : Hp} {a : Addr} {o : HO} (h : H a = none) : Same H (rm (upd H a o) a) := fun b x e => by
  have n := ne_of_none e h
  rw [rm_ne n, upd_ne n]
  exact e
theorem rm_upd {H : Hp} {a : Addr} {o : HO} : rm (upd H a o) a = rm H a := by
  funext b
  by_cases c : b = a
  · rw [c, rm_at, rm_at]
  · rw [rm_ne c, rm_ne c, upd_ne c]
theorem Same.rm {H H' : Hp} {a : Addr} (s : Same H H') : Same (Sr.rm H a) (Sr.rm H' a) := fun b o e => by
  by_cases c : b = a
  · rw [c, rm_at] at e; cases e
  · rw [rm_ne c] at e ⊢; exact s _ _ e
theorem rm_free {H : Hp} {a p : Addr} (h : H p = none) : rm H a p = none := by
  by_cases c : p = a
  · rw [c, rm_at]
  · rw [rm_ne c, h]
/-- an object of one's own changes: what stood ahead of it stays -/
theorem Same.set {M H : Hp} {p : Addr} {o : HO} (s : Same M H) (h : M p = none) : Same M (upd H p o) := fun b u e => by
  rw [upd_ne (ne_of_none e h)]
  exact s _ _ e
mutual
theorem Is.ext {H H' : Hp} (e : ExtN H H') : ∀ {v : V} {d : Dt}, Is H v d → Is H' v d
  | _, _, .non => .non
  | _, _, .bl b => .bl b
  | _, _, .int i => .int i
  | _, _, .str s h => .str s h
  | _, _, .lst h r z => .lst (e _ _ h (fun _ q => by cases q)) (IsA.ext e r) z
  | _, _, .tup h r z => .tup (e _ _ h (fun _ q => by cases q)) (IsA.ext e r) z
  | _, _, .dic h => .dic (e _ _ h (fun _ q => by cases q))
theorem IsA.ext {H H' : Hp} (e : ExtN H H') : ∀ {vs : List V} {ds : List Dt}, IsA H vs ds → IsA H' vs ds
  | _, _, .nil => .nil
  | _, _, .cons h r => .cons (Is.ext e h) (IsA.ext e r)
end
/-- what data consist of -/
def dataO : HO → Prop
  | .lst _ => True
  | .tup _ => True
  | .dK _ => True
  | _ => False
mutual
theorem Is.keep {H H' : Hp} (e : ∀ b o, H b = some o → dataO o → H' b = some o) : ∀ {v : V} {d : Dt}, Is H v d → Is H' v d
  | _, _, .non => .non
  | _, _, .bl b => .bl b
  | _, _, .int i => .int i
  | _, _, .str s h => .str s h
  | _, _, .lst h r z => .lst (e _ _ h trivial) (IsA.keep e r) z
  | _, _, .tup h r z => .tup (e _ _ h trivial) (IsA.keep e r) z
  | _, _, .dic h => .dic (e _ _ h trivial)
theorem IsA.keep {H H' : Hp} (e : ∀ b o, H b = some o → dataO o → H' b = some o) : ∀ {vs : List V} {ds : List Dt}, IsA H vs ds → IsA H' vs ds
  | _, _, .nil => .nil
  | _, _, .cons h r => .cons (Is.keep e h) (IsA.keep e r)
end
/-- a frozen thing let go -/
theorem thaw {H : Hp} {p : Addr} {od : Obj} {u o : HO} (h : H p = some (.frz od u)) : ∀ b x, H b = some x → dataO x → (upd H p o) b = some x := fun b x e d => by
  rw [upd_ne fun z => ?_]
  · exact e
  · rw [z, h] at e
    cases e
    exact d.elim
/-- no list of three ints within -/
def three : List Dt → Bool
  | [.int _, .int _, .int _] => true
  | _ => false
mutual
def noD : Dt → Bool
  | .lst l => !three l && noDs l
  | .tup l => noDs l
  | _ => true
def noDs : List Dt → Bool
  | [] => true
  | d :: r => noD d && noDs r
end
theorem noDs_all : ∀ {l : List Dt}, (∀ d ∈ l, noD d = true) → noDs l = true
  | [], _ => rfl
  | d :: r, h => by
    unfold noDs
    rw [h d List.mem_cons_self, noDs_all fun x m => h x (List.mem_cons_of_mem _ m)]
    rfl
theorem ints_three {H : Hp} {x y z : Int} {ds : List Dt} (h : IsA H [.int x, .int y, .int z] ds) : three ds = true := by
  cases h with
  | cons h1 t => cases t with
    | cons h2 t => cases t with
      | cons h3 t => cases t with
        | nil => cases h1 with
          | int i => cases h2 with
            | int j => cases h3 with
              | int k => rfl
mutual
theorem Is.off {H : Hp} {a : Addr} (hd : DrawsAt H a) : ∀ {v : V} {d : Dt}, Is H v d → noD d = true → Is (rm H a) v d
  | _, _, .non, _ => .non
  | _, _, .bl b, _ => .bl b
  | _, _, .int i, _ => .int i
  | _, _, .str s h, _ => .str s h
  | _, _, .lst (a := b) (xs := xs) (ds := ds) h r z, n => by
    unfold noD at n
    obtain ⟨n1, n2⟩ := Bool.and_eq_true_iff.mp n
    have ne : b ≠ a := fun e => by
      obtain ⟨o, ho, x, y, w, rfl⟩ := hd
      rw [← e, h] at ho
      have e2 : xs = [.int x, .int y, .int w] := by injection ho with ho; injection ho
      rw [e2] at r
      rw [ints_three r] at n1
      cases n1
    exact .lst (by rw [rm_ne ne]; exact h) (IsA.off hd r n2) z
  | _, _, .tup (a := b) h r z, n => by
    unfold noD at n
    have ne : b ≠ a := fun e => by
      obtain ⟨o, ho, x, y, w, rfl⟩ := hd
      rw [← e, h] at ho
      injection ho with ho
      cases ho
    exact .tup (by rw [rm_ne ne]; exact h) (IsA.off hd r n) z
  | _, _, .dic (a := b) h, _ => by
    have ne : b ≠ a := fun e => by
      obtain ⟨o, ho, x, y, w, rfl⟩ := hd
      rw [← e, h] at ho
      injection ho with ho
      cases ho
    exact .dic (by rw [rm_ne ne]; exact h)
theorem IsA.off {H : Hp} {a : Addr} (hd : DrawsAt H a) : ∀ {vs : List V} {ds : List Dt}, IsA H vs ds → noDs ds = true → IsA (rm H a) vs ds
  | _, _, .nil, _ => .nil
  | _, _, .cons h r, n => by
    unfold noDs at n
    obtain ⟨n1, n2⟩ := Bool.and_eq_true_iff.mp n
    exact .cons (Is.off hd h n1) (IsA.off hd r n2)
end
theorem Tabs.off {T : List (Addr × Str)} {H : Hp} {a : Addr} (t : Tabs T H) (hd : DrawsAt H a) : Tabs T (rm H a) := fun p hp => by
  obtain ⟨o, ho, x, y, w, rfl⟩ := hd
  obtain ⟨ps, h1, h2, h3⟩ := t p hp
  have n1 : p.1 ≠ a := fun e => by rw [e, ho] at h1; injection h1 with h1; cases h1
  refine ⟨ps, by rw [rm_ne n1]; exact h1, h2, fun pos cv hc => ?_⟩
  obtain ⟨c, e1, e2⟩ := h3 pos cv hc
  have n2 : c ≠ a := fun e => by
    rw [e, ho] at e2
    injection e2 with e2
    unfold CodeO at e2
    cases e2
  exact ⟨c, e1, by rw [rm_ne n2]; exact e2⟩
theorem ExtN.set {M H : Hp} {p : Addr} {o : HO} (e : ExtN M H) (h : M p = none) : ExtN M (upd H p o) := fun b u q n => by
  rw [upd_ne (ne_of_none q h)]
  exact e _ _ q n
theorem ExtN.none {H H' : Hp} {p : Addr} (e : ExtN H H') (h : H' p = Option.none) (n : ∀ ps, H p ≠ some (.tbl ps)) : H p = Option.none := by
  cases q : H p with
  | none => rfl
  | some o =>
    have := e _ _ q (fun ps z => n ps (by rw [q, z]))
    rw [this] at h
    cases h
theorem sql_ext {K : PySem.W.Frag} {H H' : Hp} {a : Addr} {xs : List V} (e : ExtN H H') (h : SqL K H a xs) : SqL K H' a xs := by
  rcases h with (h | ⟨u, h⟩) | h
  · exact .inl (.inl (e _ _ h fun _ q => by cases q))
  · exact .inl (.inr ⟨u, e _ _ h fun _ q => by cases q⟩)
  · exact .inr h
/-- a list changes: the tables stay -/
theorem Tabs.set {T : List (Addr × Str)} {H : Hp} {f : Addr} {xs ys : List V} (t : Tabs T H) (hf : H f = some (.lst xs)) : Tabs T (upd H f (.lst ys)) := fun p hp => by
  obtain ⟨ps, h1, h2, h3⟩ := t p hp
  have n1 : p.1 ≠ f := fun e => by rw [e, hf] at h1; injection h1 with h1; cases h1
  refine ⟨ps, by rw [upd_ne n1]; exact h1, h2, fun pos cv hc => ?_⟩
  obtain ⟨c, e1, e2⟩ := h3 pos cv hc
  have n2 : c ≠ f := fun e => by
    rw [e, hf] at e2
    injection e2 with e2
    unfold CodeO at e2
    cases e2
  exact ⟨c, e1, by rw [upd_ne n2]; exact e2⟩
theorem cut_to (xs : List V) {k : Nat} (h : k ≤ xs.length) : cutV xs none (some (k : Int)) = xs.take k := by
  unfold cutV
  rw [HT.sIx_none, HT.sIx_nat, Nat.min_eq_left h, Nat.sub_zero, List.drop_zero]
theorem cut_from (xs : List V) {k : Nat} (h : k ≤ xs.length) : cutV xs (some (k : Int)) none = xs.drop k := by
  unfold cutV
  rw [HT.sIx_none, HT.sIx_nat, Nat.min_eq_left h, List.take_of_length_le (by rw [List.length_drop]; exact Nat.le_refl _)]
/-! ### what is settled, beside the draws' list at a -/
structure Dr (a : Addr) (M H : Hp) : Prop where
  d : DrawsAt H a
  s : Same M (rm H a)
section
variable {a p : Addr} {M H H' : Hp} {o : HO}
theorem Dr.ne (D : Dr a M H) {b : Addr} {x : HO} (e : M b = some x) : b ≠ a := fun z => by
  have h := D.s _ _ e
  rw [z, rm_at] at h
  cases h
theorem Dr.get (D : Dr a M H) {b : Addr} {x : HO} (e : M b = some x) : H b = some x := rm_same _ _ (D.s _ _ e)
theorem Dr.up (D : Dr a M H) : Same M H := fun _ _ e => D.get e
theorem Dr.free (D : Dr a M H) {b : Addr} (h : H b = none) : M b = none := by
  cases q : M b with
  | none => rfl
  | some x => rw [D.get q] at h; cases h
theorem Dr.grow (D : Dr a M H) (s : Same H H') : Dr a M H' := ⟨by
  obtain ⟨o, e, x⟩ := D.d
  exact ⟨o, s _ _ e, x⟩, D.s.trans (Same.rm s)⟩
theorem Dr.lay (D : Dr a M H) (hp : H p = none) : Dr a (upd M p o) (upd H p o) ∧ Same M (upd M p o) := by
  have np : p ≠ a := fun z => D.d.some (by rw [← z]; exact hp)
  refine ⟨⟨(D.grow (Same.up hp)).d, fun b x e => ?_⟩, Same.up (D.free hp)⟩
  by_cases c : b = p
  · rw [c, upd_same] at e
    rw [c, rm_ne np, upd_same]
    exact e
  · rw [upd_ne c] at e
    have h := D.s _ _ e
    have nb : b ≠ a := D.ne e
    rw [rm_ne nb] at h ⊢
    rw [upd_ne c]
    exact h
theorem Dr.pick (D : Dr a M H) (ho : DrawsO o) : Dr a M (upd H a o) := ⟨⟨o, upd_same, ho⟩, by rw [rm_upd]; exact D.s⟩
end
end Sr

set_option Elab.async false
set_option linter.all false
set_option maxRecDepth 100000
set_option maxHeartbeats 4000000
namespace K31
open PySem PySem.Spec PyProof.Rows L2 Sr RZ
/-! ### draws (their count is not needed here) -/
def DrN (_ : Nat) (o : HO) : Prop := ∃ x y z : Int, o = .lst [.int x, .int y, .int z] ∧ True
def DnAt (n : Nat) (H : Hp) (a : Addr) : Prop := ∃ o, H a = some o ∧ DrN n o
theorem DrN.le {n m : Nat} {o : HO} (h : DrN n o) (l : n ≤ m) : DrN m o := by
  exact h
theorem DnAt.le {n m : Nat} {H : Hp} {a : Addr} (h : DnAt n H a) (l : n ≤ m) : DnAt m H a := by
  obtain ⟨o, e, x⟩ := h
  exact ⟨o, e, x.le l⟩
theorem DnAt.up {n : Nat} {H H' : Hp} {a : Addr} (h : DnAt n H a) (s : Same H H') : DnAt n H' a := by
  obtain ⟨o, e, x⟩ := h
  exact ⟨o, s _ _ e, x⟩
theorem DnAt.at_ {n : Nat} {H : Hp} {a : Addr} (h : DnAt n H a) : DrawsAt H a := by
  obtain ⟨o, e, x, y, z, r, _⟩ := h
  exact ⟨o, e, x, y, z, r⟩
theorem DnAt.some {n : Nat} {H : Hp} {a : Addr} (h : DnAt n H a) : H a ≠ none := h.at_.some
/-- something else is changed -/
theorem DnAt.set {n : Nat} {H : Hp} {a p : Addr} {o : HO} (h : DnAt n H a) (ne : p ≠ a) : DnAt n (upd H p o) a := by
  obtain ⟨o', e, x⟩ := h
  exact ⟨o', by rw [upd_ne ne.symm]; exact e, x⟩
theorem DnAt.new {n : Nat} {H : Hp} {a p : Addr} (h : DnAt n H a) (e : H p = none) : p ≠ a := fun z => h.some (by rw [← z]; exact e)
/-! ### what is beside the draws -/
theorem same_set {M H : Hp} {a t : Addr} {o : HO} (s : Same M (rm H a)) (n : M t = none) : Same M (rm (upd H t o) a) := fun b x e => by
  have nt : b ≠ t := ne_of_none e n
  have h := s _ _ e
  have na : b ≠ a := fun z => by rw [z, rm_at] at h; cases h
  rw [rm_ne na] at h ⊢
  rw [upd_ne nt]
  exact h
theorem DnAt.put {n : Nat} {H : Hp} {a : Addr} {o : HO} (h : DrN n o) : DnAt n (upd H a o) a := ⟨o, upd_same, h⟩
theorem rm_put {H : Hp} {a : Addr} {o : HO} : Same (rm H a) (rm (upd H a o) a) := by rw [rm_upd]; exact Same.refl _
theorem at_off {n : Nat} {H : Hp} {a b : Addr} {o : HO} (d : DnAt n H a) (h : H b = some o) (x : ∀ xs, o ≠ .lst xs) : rm H a b = some o := by
  rw [rm_ne fun z => ?_]
  · exact h
  · obtain ⟨o', e, _, _, _, e2, _⟩ := d
    rw [← z, h] at e
    cases e
    exact x _ e2
theorem rm_out {n : Nat} {H H' : Hp} {a b : Addr} (s : Same (rm H a) (rm H' a)) (d : DnAt n H' a) (h : H' b = none) : (rm H a) b = none := by
  cases e : rm H a b with
  | none => rfl
  | some o =>
    have := rm_same _ _ (s _ _ e)
    rw [h] at this
    cases this
/-- a comprehension that draws for each item; beside the draws and itself nothing is changed -/
theorem lc_draw {α : Type} {J : It} {n : Nat} {G : Hp → Prop} {Y : Nat → Hp → V → Hp → Prop} {At : Nat → Hp → V → Prop} (w : Walk J n G Y) (hy : ∀ i H x H', Y i H x H' → H' = H ∧ At i H x) {g : TG} {te : TE} {vs : List Nat} {σ : L2.St} {H : Hp} {a D : Addr} {k c : Nat} {Qd : Hp → Prop}
    (items : List α) (hn : items.length = n) (hz : n < sizeLine) (hD : H D = none) (d0 : DnAt k H a) (hG : ∀ H', Same (rm H a) (rm H' a) → G H') (Rel : Hp → α → V → Prop) (mono : ∀ H1 H2 x y, Same H1 H2 → Rel H1 x y → Rel H2 x y) (lay : ∀ H1 x y c c', H1 D = some (.lst c) → Rel H1 x y → Rel (upd H1 D (.lst c')) x y)
    (turn : ∀ (i : Nat) (x : V) (z : α) (H1 : Hp) (A : V → Hp → Prop) (B : Hp → Prop), i < n → At i H1 x → items[i]? = some z → H1 D ≠ none → DnAt (k + c * i) H1 a → Same (rm H a) (rm H1 a) → (∀ y H2, DnAt (k + c * (i + 1)) H2 a → Same (rm H1 a) (rm H2 a) → Rel (rm H2 a) z y → A y H2) →
      g x (wipe σ vs) H1 fun σ2 H2 => wipe σ2 vs = wipe σ vs ∧ tYes σ2 H2 fun b H3 => if b = true then te σ2 H3 A else B H3)
    (fin : ∀ H' acc, DnAt (k + c * n) H' a → Same (rm H a) (rm H' a) → H' D = some (.lst acc) → Paired (fun y z => Rel (rm H' a) z y) acc items → Qd H') :
    ∃ W : Nat → Nat → Hp → Prop, (∃ m, W 0 m (upd H D (.lst []))) ∧ ∀ i m H, W i m H →
      (J.stop i H ∧ Qd H) ∨ (J.go i H ∧ ∃ Nx : Hp → Prop, (∀ H', Nx H' → ∃ m', m' < m ∧ W (i + 1) m' H') ∧ ∀ x H', J.yld i H x H' → g x (wipe σ vs) H' fun σ2 H2 => wipe σ2 vs = wipe σ vs ∧ tYes σ2 H2 fun b H3 =>
        if b = true then te σ2 H3 fun y H4 => ∃ acc, H4 D = some (.lst acc) ∧ acc.length < sizeLine ∧ Nx (upd H4 D (.lst (acc ++ [y]))) else Nx H3) := by
  have nDa : D ≠ a := d0.new hD
  have mD : (rm H a) D = none := by rw [rm_ne nDa]; exact hD
  refine lc_it w (fun i H' => DnAt (k + c * i) H' a ∧ Same (rm H a) (rm H' a) ∧ ∃ acc, H' D = some (.lst acc) ∧ Paired (fun y z => Rel (rm H' a) z y) acc (items.take i)) ⟨d0.set nDa, same_set (Same.refl _) mD, [], upd_same, by simp; exact .nil⟩ (fun i H' _ p => hG H' p.2.1) (fun i x H1 H2 hi p y => ?_) fun H' p => ?_
  · obtain ⟨rfl, hx⟩ := hy _ _ _ _ y
    obtain ⟨d1, s1, acc, hd, pr⟩ := p
    have hi' : i < items.length := by omega
    have tk : items.take (i + 1) = items.take i ++ [items[i]] := by rw [List.take_add_one, List.getElem?_eq_getElem hi']; rfl
    have hl : acc.length < sizeLine := by
      have h1 := Paired.length pr
      rw [List.length_take] at h1
      omega
    refine turn i x items[i] H2 _ _ hi hx (List.getElem?_eq_getElem hi') (by rw [hd]; simp) d1 s1 fun y H3 d3 s3 r => ?_
    have hd3 : H3 D = some (.lst acc) := by
      have := s3 D _ (by rw [rm_ne nDa]; exact hd)
      rwa [rm_ne nDa] at this
    have hdr : (rm H3 a) D = some (.lst acc) := by rw [rm_ne nDa]; exact hd3
    have eu : rm (upd H3 D (.lst (acc ++ [y]))) a = upd (rm H3 a) D (.lst (acc ++ [y])) := by
      funext b
      by_cases c1 : b = a
      · rw [c1, rm_at, upd_ne nDa.symm, rm_at]
      · rw [rm_ne c1]
        by_cases c2 : b = D
        · rw [c2, upd_same, upd_same]
        · rw [upd_ne c2, upd_ne c2, rm_ne c1]
    refine ⟨acc, hd3, hl, d3.set nDa, same_set (s1.trans s3) mD, _, upd_same, ?_⟩
    rw [tk, eu]
    exact Paired.snoc (F := fun z a => Rel _ a z) (Paired.imp' (fun y a h => lay _ a y _ _ hdr (mono _ _ a y s3 h)) pr) (lay _ _ _ _ _ hdr r)
  · obtain ⟨d1, s1, acc, hd, pr⟩ := p
    rw [← hn, List.take_length] at pr
    exact fin H' acc d1 s1 hd pr
def spSource (K : PySem.W.Frag) : Sp := fun vs H Q _ => ∃ (s : Addr) (t : Int) (ns : List Int), vs = [.ref s, .int t] ∧ SqL K H s (ns.map V.int) ∧ 0 ≤ t ∧ ∀ p o, H p = none → DrN 0 o → Q (.ref p) (upd H p o)
def spDraw : Sp := fun vs H Q _ => ∃ (a : Addr) (m : Int) (n : Nat), vs = [.ref a, .int m] ∧ DnAt n H a ∧ n ≤ 1000000000 ∧ 1 ≤ m ∧ m < 1073741824 ∧ ∀ r o, 0 ≤ r → r < m → DrN (n + 1) o → Q (.int r) (upd H a o)
def spPick (K : PySem.W.Frag) : Sp := fun vs H Q _ => ∃ (a l : Addr) (xs : List V) (n : Nat), vs = [.ref a, .ref l] ∧ DnAt n H a ∧ n ≤ 1000000000 ∧ l ≠ a ∧ (SqL K H l xs ∨ SqT K H l xs) ∧ 1 ≤ xs.length ∧ xs.length < 1073741824 ∧ ∀ (i : Nat) v o, xs[i]? = some v → DrN (n + 1) o → Q v (upd H a o)
theorem kit_three (K : PySem.W.Frag) (d : Dt) : PySem.W.kitAny K (.type (tyN d)) [.type "int", .type "list", .type "tuple"] = some (isInt d || isSeq d) := by
  rw [kit_more (kit_int K d) (kit_seq K d)]
theorem cls_three (a b c : String) : Paired ClsV [V.ty a, V.ty b, V.ty c] [.type a, .type b, .type c] := .cons (.ty a) (.cons (.ty b) (.cons (.ty c) .nil))
/-- two that stand for one datum are the same -/
def spDeep (n : Nat) : Sp := fun vs H Q _ => ∃ (v u : V) (d : Dt), vs = [v, u] ∧ Is H v d ∧ Is H u d ∧ Dep n d ∧ ∀ H', Same H H' → Q (.bl true) H'
section
variable {P : Program} {w : World} {K : PySem.W.Frag} {mg : Str → Option Value} {base : Heap}
abbrev s__law_source : Stmt := top 21
theorem sc__law_source : FnScope ["script", "turn", "cell"] ["script", "turn"] (defScope s__law_source) := ⟨rfl, rfl, rfl, by decide +kernel, rfl, by decide +kernel, by decide +kernel⟩
theorem c__law_source (T : Txt K mg) (D : Dfn K mg "_law_source" s__law_source) : Cal P w K mg base 1 "_law_source" ["script", "turn"] (spSource K) := by
  refine D.cal sc__law_source (fun _ _ _ _ _ _ us hl => match us, hl with | [_, _], _ => rfl) (fun vs H Q E h => ?_) fun cdv A outer s H vs Q E hr h => ?_
  · obtain ⟨s, t, ns, rfl, _⟩ := h
    rfl
  obtain ⟨sc, t, ns, rfl, hS, h0, q⟩ := h
  refine ⟨_, (pss_cons (ps_set (i := 2) sc__law_source.nd rfl (by first | exact Or.inl rfl | exact Or.inr rfl) (pe_ifExp (pt_cmpR op_lt (pv 1) (pe_callB (id := "len") call_len_seq (by rfl) T.len (by decide +kernel) (pa_cons (pv 0) pa_nil)) (nomark _)) (pe_ix ix_list (pv 0) (pv 1) (fun _ _ => rfl)) (pe_op op_add (pe_op op_mul pe_int (pv 1)) pe_int)))
      (pss_one (ps_ret (pe_lst (pa_cons (pe_ifExp (pt_cmpR op_ge (pv 2) (pe_op op_pow pe_int pe_int) (nomark _)) (pv 2) pe_int) (pa_cons (pe_op op_mod (pe_callTy (T := "int") call_int1 (by rfl) T.int (by decide +kernel) (pa_cons (pv 2) pa_nil)) pe_int) (pa_cons pe_int pa_nil))))))), ?_⟩
  refine ⟨_, rfl, _, rfl, sc, _, rfl, .inl hS, _, _, rfl, rfl, _, rfl, ?_⟩
  by_cases h : t < ((ns.map V.int).length : Int)
  · rw [decide_eq_true h]
    have hlt : t.toNat < ns.length := by rw [List.length_map] at h; omega
    refine iteT ⟨_, rfl, _, rfl, sc, _, _, .int ns[t.toNat], rfl, rfl, hS, atI_of (j := t.toNat) (by omega) (by rw [List.getElem?_map, List.getElem?_eq_getElem hlt]; rfl), ?_⟩
    refine ⟨_, rfl, _, _, rfl, rfl, ⟨by decide, by decide, by decide⟩, _, _, rfl, rfl, _, rfl, ?_⟩
    refine iteB ?_ ?_
    · exact ⟨_, rfl, _, rfl, .inl ⟨_, rfl, _, _, rfl, rfl, (by show (0 : Int) < 2147483629; decide), three_line, fun p hp => q p _ hp ⟨_, _, _, rfl, trivial⟩⟩⟩
    · exact ⟨_, rfl, .inl ⟨_, rfl, _, _, rfl, rfl, (by show (0 : Int) < 2147483629; decide), three_line, fun p hp => q p _ hp ⟨_, _, _, rfl, trivial⟩⟩⟩
  · rw [decide_eq_false h]
    refine iteF ⟨_, rfl, _, _, rfl, rfl, .inl ⟨by decide, by decide⟩, _, _, rfl, rfl, ?_⟩
    refine ⟨_, rfl, _, _, rfl, rfl, ⟨by decide, by decide, by decide⟩, _, _, rfl, rfl, _, rfl, ?_⟩
    refine iteB ?_ ?_
    · exact ⟨_, rfl, _, rfl, .inl ⟨_, rfl, _, _, rfl, rfl, (by show (0 : Int) < 2147483629; decide), three_line, fun p hp => q p _ hp ⟨_, _, _, rfl, trivial⟩⟩⟩
    · exact ⟨_, rfl, .inl ⟨_, rfl, _, _, rfl, rfl, (by show (0 : Int) < 2147483629; decide), three_line, fun p hp => q p _ hp ⟨_, _, _, rfl, trivial⟩⟩⟩
abbrev s__law_draw : Stmt := top 22
theorem sc__law_draw : FnScope ["draws", "many", "digit"] ["draws", "many"] (defScope s__law_draw) := ⟨rfl, rfl, rfl, by decide +kernel, rfl, by decide +kernel, by decide +kernel⟩
theorem c__law_draw (T : Txt K mg) (D : Dfn K mg "_law_draw" s__law_draw) : Cal P w K mg base 1 "_law_draw" ["draws", "many"] spDraw := by
  refine D.cal sc__law_draw (fun _ _ _ _ _ _ us hl => match us, hl with | [_, _], _ => rfl) (fun vs H Q E h => ?_) fun cdv A outer s H vs Q E hr h => ?_
  · obtain ⟨a, m, n, rfl, _⟩ := h
    rfl
  obtain ⟨a, m, n, rfl, ⟨o, ho, x, y, z, rfl, _⟩, _, h1, h2, q⟩ := h
  refine ⟨_, (pss_cons (ps_if (pt_cmpR op_gt (pe_ix ix_list (pv 0) pe_int (fun _ _ => rfl)) pe_int (nomark _)) (pss_cons (ps_set (i := 2) sc__law_draw.nd rfl (by first | exact Or.inl rfl | exact Or.inr rfl) (pe_op op_mod (pe_callTy (T := "int") call_int1 (by rfl) T.int (by decide +kernel) (pa_cons (pe_ix ix_list (pv 0) pe_int (fun _ _ => rfl)) pa_nil)) (pv 1)))
      (pss_cons (ps_asg (pe_op op_fdiv (pe_ix ix_list (pv 0) pe_int (fun _ _ => rfl)) (pv 1)) (pg_sub (pv 0) pe_int set_list))
      (pss_one (ps_ret (pv 2))))) pss_nil)
      (pss_cons (ps_asg (pe_op op_add (pe_ix ix_list (pv 0) pe_int (fun _ _ => rfl)) pe_int) (pg_sub (pv 0) pe_int set_list))
      (pss_cons (ps_asg (pe_op op_mod (pe_callTy (T := "int") call_int1 (by rfl) T.int (by decide +kernel) (pa_cons (pe_op op_add (pe_op op_add (pe_op op_mul (pe_ix ix_list (pv 0) pe_int (fun _ _ => rfl)) pe_int) (pe_op op_mul (pe_ix ix_list (pv 0) pe_int (fun _ _ => rfl)) pe_int)) pe_int) pa_nil)) pe_int) (pg_sub (pv 0) pe_int set_list))
      (pss_one (ps_ret (pe_op op_mod (pe_callTy (T := "int") call_int1 (by rfl) T.int (by decide +kernel) (pa_cons (pe_op op_add (pe_op op_fdiv (pe_ix ix_list (pv 0) pe_int (fun _ _ => rfl)) pe_int) (pe_ix ix_list (pv 0) pe_int (fun _ _ => rfl))) pa_nil)) (pv 1))))))), ?_⟩
  have c : ∀ (X Y Z : Int), (V.int X :: V.int Y :: V.int Z :: []).length = 3 := fun _ _ _ => rfl
  refine ⟨_, rfl, a, _, _, _, rfl, rfl, SqL.of ho, rfl, _, _, rfl, rfl, _, rfl, ?_⟩
  refine iteB ?_ ?_
  rotate_left
  · refine ⟨_, rfl, a, _, _, _, rfl, rfl, SqL.of ho, rfl, _, _, rfl, rfl, _, rfl, a, _, _, 2, rfl, rfl, ho, rfl, ?_⟩
    refine ⟨_, rfl, a, _, _, _, rfl, rfl, SqL.of upd_same, rfl, _, _, rfl, rfl, .inr ⟨by decide, by decide⟩, ?_⟩
    refine ⟨_, rfl, a, _, _, _, rfl, rfl, SqL.of upd_same, rfl, _, _, rfl, rfl, .inr ⟨by decide, by decide⟩, _, _, rfl, rfl, _, _, rfl, rfl, .inl ⟨_, rfl, _, _, rfl, rfl, (by show (0 : Int) < 2147483629; decide), ?_⟩⟩
    refine ⟨_, rfl, a, _, _, 1, rfl, rfl, upd_same, rfl, ?_⟩
    rw [upd_upd]
    refine ⟨_, rfl, a, _, _, _, rfl, rfl, SqL.of upd_same, rfl, _, _, rfl, rfl, ⟨by decide, by decide⟩, _, rfl, a, _, _, _, rfl, rfl, SqL.of upd_same, rfl, _, _, rfl, rfl, .inl ⟨_, rfl, _, rfl, _, _, rfl, rfl, (show (0 : Int) < m by omega), ?_⟩⟩
    exact q _ _ (Int.emod_nonneg _ (by omega)) (Int.emod_lt_of_pos _ (by omega)) ⟨_, _, _, rfl, trivial⟩
  · refine ⟨_, rfl, a, _, _, _, rfl, rfl, SqL.of ho, rfl, .inl ⟨_, rfl, _, rfl, _, _, rfl, rfl, (show (0 : Int) < m by omega), ?_⟩⟩
    refine ⟨_, rfl, a, _, _, _, rfl, rfl, SqL.of ho, rfl, _, rfl, _, _, rfl, rfl, ⟨by omega, h2⟩, _, rfl, a, _, _, 0, rfl, rfl, ho, rfl, _, rfl, ?_⟩
    exact q _ _ (Int.emod_nonneg _ (by omega)) (Int.emod_lt_of_pos _ (by omega)) ⟨_, _, _, rfl, trivial⟩
abbrev s__law_pick : Stmt := top 23
theorem sc__law_pick : FnScope ["draws", "things"] ["draws", "things"] (defScope s__law_pick) := ⟨rfl, rfl, rfl, by decide +kernel, rfl, by decide +kernel, by decide +kernel⟩
theorem c__law_pick (T : Txt K mg) (D : Dfn K mg "_law_pick" s__law_pick) (C_law_draw : Cal P w K mg base 1 "_law_draw" ["draws", "many"] spDraw) : Cal P w K mg base 2 "_law_pick" ["draws", "things"] (spPick K) := by
  refine D.cal sc__law_pick (fun _ _ _ _ _ _ us hl => match us, hl with | [_, _], _ => rfl) (fun vs H Q E h => ?_) fun cdv A outer s H vs Q E hr h => ?_
  · obtain ⟨a, l, xs, n, rfl, _⟩ := h
    rfl
  obtain ⟨a, l, xs, n, rfl, hd, hb, hn, hx, l1, l2, q⟩ := h
  refine ⟨_, (pss_one (ps_ret (pe_ix ix_seq (pv 1) (pe_cal C_law_draw hr (by first | decide | omega) (by rfl) (pa_cons (pv 0) (pa_cons (pe_callB (id := "len") call_len_seq (by rfl) T.len (by decide +kernel) (pa_cons (pv 1) pa_nil)) pa_nil))) (fun _ _ => rfl)))), ?_⟩
  refine ⟨_, rfl, _, rfl, _, rfl, l, xs, rfl, hx, a, _, n, rfl, hd, hb, by omega, by omega, fun r o r0 r1 ho => ?_⟩
  have hlt : r.toNat < xs.length := by omega
  have e : atI xs r = some xs[r.toNat] := atI_of (j := r.toNat) (by omega) (List.getElem?_eq_getElem hlt)
  rcases seq_upd (o := o) hn hx with h | h
  · exact .inl ⟨l, xs, r, _, rfl, rfl, h, e, q r.toNat _ o (List.getElem?_eq_getElem hlt) ho⟩
  · exact .inr (.inl ⟨l, xs, r, _, rfl, rfl, h, e, q r.toNat _ o (List.getElem?_eq_getElem hlt) ho⟩)
abbrev s__law_same : Stmt := top 25
theorem sc__law_same : FnScope ["found", "due", "one", "other"] ["found", "due"] (defScope s__law_same) := ⟨rfl, rfl, rfl, by decide +kernel, rfl, by decide +kernel, by decide +kernel⟩
theorem c__law_same_deep (T : Txt K mg) (D : Dfn K mg "_law_same" s__law_same) : ∀ n : Nat, Cal P w K mg base (n + 1) "_law_same" ["found", "due"] (spDeep n) := by
  intro n
  induction n with
  | zero =>
    refine D.cal sc__law_same (fun _ _ _ _ _ _ us hl => match us, hl with | [_, _], _ => rfl) (fun vs H Q E h => ?_) fun cdv A outer s H vs Q E hr h => ?_
    · obtain ⟨v, u, d, rfl, _⟩ := h
      rfl
    obtain ⟨v, u, d, rfl, iv, iu, dp, q⟩ := h
    have hq : isSeq d = false := by cases dp <;> rfl
    refine ⟨_, (pss_cons (ps_if (pt_val (pe_callB (id := "isinstance") call_isiT (by rfl) T.isinstance (by decide +kernel) (pa_cons (pv 1) (pa_cons (pe_tup (pa_cons (pe_tyv (n := "list") (by rfl) T.list (by decide +kernel)) (pa_cons (pe_tyv (n := "tuple") (by rfl) T.tuple (by decide +kernel)) pa_nil))) pa_nil)))) pss_never pss_nil)
      (pss_cons (ps_if (pt_val (pe_callB (id := "isinstance") call_isi (by rfl) T.isinstance (by decide +kernel) (pa_cons (pv 1) (pa_cons (pe_tyv (n := "int") (by rfl) T.int (by decide +kernel)) pa_nil)))) (pss_one (ps_ret (pe_and (pe_callB (id := "isinstance") call_isi (by rfl) T.isinstance (by decide +kernel) (pa_cons (pv 0) (pa_cons (pe_tyv (n := "int") (by rfl) T.int (by decide +kernel)) pa_nil))) (pe_and (pe_cmpR op_eq (pe_callB (id := "isinstance") call_isi (by rfl) T.isinstance (by decide +kernel) (pa_cons (pv 0) (pa_cons (pe_tyv (n := "bool") (by rfl) T.bool (by decide +kernel)) pa_nil))) (pe_callB (id := "isinstance") call_isi (by rfl) T.isinstance (by decide +kernel) (pa_cons (pv 1) (pa_cons (pe_tyv (n := "bool") (by rfl) T.bool (by decide +kernel)) pa_nil))) (nomark _)) (pe_one (pe_cmpR op_eq (pv 0) (pv 1) (nomark _))))))) pss_nil)
      (pss_one (ps_ret (pe_and (pe_not (pe_callB (id := "isinstance") call_isiT (by rfl) T.isinstance (by decide +kernel) (pa_cons (pv 0) (pa_cons (pe_tup (pa_cons (pe_tyv (n := "int") (by rfl) T.int (by decide +kernel)) (pa_cons (pe_tyv (n := "list") (by rfl) T.list (by decide +kernel)) (pa_cons (pe_tyv (n := "tuple") (by rfl) T.tuple (by decide +kernel)) pa_nil)))) pa_nil)))) (pe_one (pe_cmpR op_eq (pv 0) (pv 1) (nomark _)))))))), ?_⟩
    refine ⟨_, rfl, two_line, fun p hp => ⟨_, p, [.ty "list", .ty "tuple"], _, _, _, rfl, upd_same, cls_two _ _, (iu.mono (Same.up hp)).ty, kit_seq K d, _, rfl, ?_⟩⟩
    rw [hq]
    have s1 : Same H _ := Same.up (o := .tup [.ty "list", .ty "tuple"]) hp
    refine iteF ⟨_, rfl, _, _, _, _, _, rfl, .ty _, (iu.mono s1).ty, kit_int K d, _, rfl, ?_⟩
    have s2 := s1
    have iv2 := iv.mono s2
    have iu2 := iu.mono s2
    cases hi : isInt d with
    | true =>
      refine iteT ⟨_, rfl, _, _, _, _, _, rfl, .ty _, iv2.ty, kit_int K d, _, rfl, ?_⟩
      rw [hi]
      refine iteT ⟨_, rfl, _, _, _, _, _, rfl, .ty _, iv2.ty, kit_bool K d, _, rfl, _, _, _, _, _, rfl, .ty _, iu2.ty, kit_bool K d, rfl, _, rfl, ?_⟩
      rw [decide_eq_true rfl]
      refine iteT ⟨_, rfl, _, rfl, ?_⟩
      obtain ⟨rfl, sc⟩ := flat_eq dp hq iv iu
      refine ⟨sc, ?_⟩
      rw [decide_eq_true rfl]
      exact q _ s2
    | false =>
      refine iteF ⟨_, rfl, lineN, fun p3 hp3 => ⟨_, p3, [.ty "int", .ty "list", .ty "tuple"], _, _, _, rfl, upd_same, cls_three _ _ _, (iv2.mono (Same.up hp3)).ty, kit_three K d, _, rfl, ?_⟩⟩
      have s3 := s2.trans (Same.up (o := .tup [.ty "int", .ty "list", .ty "tuple"]) hp3)
      rw [hi, hq]
      refine ⟨_, rfl, iteT ⟨_, rfl, _, rfl, ?_⟩⟩
      obtain ⟨rfl, sc⟩ := flat_eq dp hq iv iu
      refine ⟨sc, ?_⟩
      rw [decide_eq_true rfl]
      exact q _ s3
  | succ n ih =>
    refine D.cal sc__law_same (fun _ _ _ _ _ _ us hl => match us, hl with | [_, _], _ => rfl) (fun vs H Q E h => ?_) fun cdv A outer s H vs Q E hr h => ?_
    · obtain ⟨v, u, d, rfl, _⟩ := h
      rfl
    obtain ⟨v, u, d, rfl, iv, iu, dp, q⟩ := h
    cases hq : isSeq d with
    | false =>
      refine ⟨_, (pss_cons (ps_if (pt_val (pe_callB (id := "isinstance") call_isiT (by rfl) T.isinstance (by decide +kernel) (pa_cons (pv 1) (pa_cons (pe_tup (pa_cons (pe_tyv (n := "list") (by rfl) T.list (by decide +kernel)) (pa_cons (pe_tyv (n := "tuple") (by rfl) T.tuple (by decide +kernel)) pa_nil))) pa_nil)))) pss_never pss_nil)
      (pss_cons (ps_if (pt_val (pe_callB (id := "isinstance") call_isi (by rfl) T.isinstance (by decide +kernel) (pa_cons (pv 1) (pa_cons (pe_tyv (n := "int") (by rfl) T.int (by decide +kernel)) pa_nil)))) (pss_one (ps_ret (pe_and (pe_callB (id := "isinstance") call_isi (by rfl) T.isinstance (by decide +kernel) (pa_cons (pv 0) (pa_cons (pe_tyv (n := "int") (by rfl) T.int (by decide +kernel)) pa_nil))) (pe_and (pe_cmpR op_eq (pe_callB (id := "isinstance") call_isi (by rfl) T.isinstance (by decide +kernel) (pa_cons (pv 0) (pa_cons (pe_tyv (n := "bool") (by rfl) T.bool (by decide +kernel)) pa_nil))) (pe_callB (id := "isinstance") call_isi (by rfl) T.isinstance (by decide +kernel) (pa_cons (pv 1) (pa_cons (pe_tyv (n := "bool") (by rfl) T.bool (by decide +kernel)) pa_nil))) (nomark _)) (pe_one (pe_cmpR op_eq (pv 0) (pv 1) (nomark _))))))) pss_nil)
      (pss_one (ps_ret (pe_and (pe_not (pe_callB (id := "isinstance") call_isiT (by rfl) T.isinstance (by decide +kernel) (pa_cons (pv 0) (pa_cons (pe_tup (pa_cons (pe_tyv (n := "int") (by rfl) T.int (by decide +kernel)) (pa_cons (pe_tyv (n := "list") (by rfl) T.list (by decide +kernel)) (pa_cons (pe_tyv (n := "tuple") (by rfl) T.tuple (by decide +kernel)) pa_nil)))) pa_nil)))) (pe_one (pe_cmpR op_eq (pv 0) (pv 1) (nomark _)))))))), ?_⟩
      refine ⟨_, rfl, two_line, fun p hp => ⟨_, p, [.ty "list", .ty "tuple"], _, _, _, rfl, upd_same, cls_two _ _, (iu.mono (Same.up hp)).ty, kit_seq K d, _, rfl, ?_⟩⟩
      rw [hq]
      have s1 : Same H _ := Same.up (o := .tup [.ty "list", .ty "tuple"]) hp
      refine iteF ⟨_, rfl, _, _, _, _, _, rfl, .ty _, (iu.mono s1).ty, kit_int K d, _, rfl, ?_⟩
      have s2 := s1
      have iv2 := iv.mono s2
      have iu2 := iu.mono s2
      cases hi : isInt d with
      | true =>
        refine iteT ⟨_, rfl, _, _, _, _, _, rfl, .ty _, iv2.ty, kit_int K d, _, rfl, ?_⟩
        rw [hi]
        refine iteT ⟨_, rfl, _, _, _, _, _, rfl, .ty _, iv2.ty, kit_bool K d, _, rfl, _, _, _, _, _, rfl, .ty _, iu2.ty, kit_bool K d, rfl, _, rfl, ?_⟩
        rw [decide_eq_true rfl]
        refine iteT ⟨_, rfl, _, rfl, ?_⟩
        obtain ⟨rfl, sc⟩ := flat_eq dp hq iv iu
        refine ⟨sc, ?_⟩
        rw [decide_eq_true rfl]
        exact q _ s2
      | false =>
        refine iteF ⟨_, rfl, lineN, fun p3 hp3 => ⟨_, p3, [.ty "int", .ty "list", .ty "tuple"], _, _, _, rfl, upd_same, cls_three _ _ _, (iv2.mono (Same.up hp3)).ty, kit_three K d, _, rfl, ?_⟩⟩
        have s3 := s2.trans (Same.up (o := .tup [.ty "int", .ty "list", .ty "tuple"]) hp3)
        rw [hi, hq]
        refine ⟨_, rfl, iteT ⟨_, rfl, _, rfl, ?_⟩⟩
        obtain ⟨rfl, sc⟩ := flat_eq dp hq iv iu
        refine ⟨sc, ?_⟩
        rw [decide_eq_true rfl]
        exact q _ s3
    | true =>
      have C_law_same := ih
      refine ⟨_, (pss_cons (ps_if (pt_val (pe_callB (id := "isinstance") call_isiT (by rfl) T.isinstance (by decide +kernel) (pa_cons (pv 1) (pa_cons (pe_tup (pa_cons (pe_tyv (n := "list") (by rfl) T.list (by decide +kernel)) (pa_cons (pe_tyv (n := "tuple") (by rfl) T.tuple (by decide +kernel)) pa_nil))) pa_nil)))) (pss_cons (ps_if (PW.pt (pw_or (pt_cmpR op_ne (pe_callB (id := "isinstance") call_isi (by rfl) T.isinstance (by decide +kernel) (pa_cons (pv 0) (pa_cons (pe_tyv (n := "list") (by rfl) T.list (by decide +kernel)) pa_nil))) (pe_callB (id := "isinstance") call_isi (by rfl) T.isinstance (by decide +kernel) (pa_cons (pv 1) (pa_cons (pe_tyv (n := "list") (by rfl) T.list (by decide +kernel)) pa_nil))) (nomark _)) (pw_or1 (pt_cmpR op_ne (pe_callB (id := "isinstance") call_isi (by rfl) T.isinstance (by decide +kernel) (pa_cons (pv 0) (pa_cons (pe_tyv (n := "tuple") (by rfl) T.tuple (by decide +kernel)) pa_nil))) (pe_callB (id := "isinstance") call_isi (by rfl) T.isinstance (by decide +kernel) (pa_cons (pv 1) (pa_cons (pe_tyv (n := "tuple") (by rfl) T.tuple (by decide +kernel)) pa_nil))) (nomark _))))) (pss_one (ps_ret pe_bl)) pss_nil)
      (pss_one (ps_ret (pe_and (pe_cmpR op_eq (pe_callB (id := "len") call_len_seq (by rfl) T.len (by decide +kernel) (pa_cons (pv 0) pa_nil)) (pe_callB (id := "len") call_len_seq (by rfl) T.len (by decide +kernel) (pa_cons (pv 1) pa_nil)) (nomark _)) (pe_one (pe_callB (id := "all") (cr_all rfl) (by rfl) T.all (by decide +kernel) (pa_cons (pe_lc (own := [("one", 2), ("other", 3)]) (g := gTup K 2 (gCons (gName 2) (gCons (gName 3) gNil))) (tt := tYes) rfl sc__law_same.nd (pi_zipA (by rfl) T.zip (pa_cons (pv 0) (pa_cons (pv 1) pa_nil))) (blkOk_by (N := ["found", "due", "one", "other"]) (sc := defScope s__law_same) (by decide +kernel)) (fun _ _ _ _ _ => (pg_tup rfl (pgs_cons (pg_name (i := 2) sc__law_same.nd rfl (by first | exact Or.inl rfl | exact Or.inr rfl)) (pgs_cons (pg_name (i := 3) sc__law_same.nd rfl (by first | exact Or.inl rfl | exact Or.inr rfl)) pgs_nil)))) (fun _ _ _ _ _ => pts_nil) (fun _ _ _ _ _ => (pe_cal C_law_same hr (by first | decide | omega) (by rfl) (pa_cons (pv 2) (pa_cons (pv 3) pa_nil))))) pa_nil))))))) pss_nil)
      (pss_cons (ps_if (pt_val (pe_callB (id := "isinstance") call_isi (by rfl) T.isinstance (by decide +kernel) (pa_cons (pv 1) (pa_cons (pe_tyv (n := "int") (by rfl) T.int (by decide +kernel)) pa_nil)))) (pss_one (ps_ret (pe_and (pe_callB (id := "isinstance") call_isi (by rfl) T.isinstance (by decide +kernel) (pa_cons (pv 0) (pa_cons (pe_tyv (n := "int") (by rfl) T.int (by decide +kernel)) pa_nil))) (pe_and (pe_cmpR op_eq (pe_callB (id := "isinstance") call_isi (by rfl) T.isinstance (by decide +kernel) (pa_cons (pv 0) (pa_cons (pe_tyv (n := "bool") (by rfl) T.bool (by decide +kernel)) pa_nil))) (pe_callB (id := "isinstance") call_isi (by rfl) T.isinstance (by decide +kernel) (pa_cons (pv 1) (pa_cons (pe_tyv (n := "bool") (by rfl) T.bool (by decide +kernel)) pa_nil))) (nomark _)) (pe_one (pe_cmpR op_eq (pv 0) (pv 1) (nomark _))))))) pss_nil)
      pss_never)), ?_⟩
      cases iv with
      | lst hv rv zv =>
        cases iu with
        | lst hu ru zu =>
        rename_i a xs l b ys
        refine ⟨_, rfl, two_line, fun p hp => ⟨_, p, [.ty "list", .ty "tuple"], _, _, _, rfl, upd_same, cls_two _ _, ((Is.lst hu ru zu).mono (Same.up hp)).ty, kit_seq K _, _, rfl, iteT ?_⟩⟩
        have s1 : Same H _ := Same.up (o := .tup [.ty "list", .ty "tuple"]) hp
        have iv1 := (Is.lst hv rv zv).mono s1
        have iu1 := (Is.lst hu ru zu).mono s1
        refine ⟨_, rfl, _, _, _, _, _, rfl, .ty _, iv1.ty, kit_list K _, _, rfl, _, _, _, _, _, rfl, .ty _, iu1.ty, kit_list K _, rfl, _, rfl, ?_⟩
        rw [decide_eq_true rfl]
        refine iteF ⟨_, rfl, _, _, _, _, _, rfl, .ty _, iv1.ty, kit_tuple K _, _, rfl, _, _, _, _, _, rfl, .ty _, iu1.ty, kit_tuple K _, rfl, _, rfl, ?_⟩
        rw [decide_eq_true rfl]
        refine iteF ⟨_, rfl, a, xs, rfl, .inl (SqL.of (s1 _ _ hv)), _, rfl, b, ys, rfl, .inl (SqL.of (s1 _ _ hu)), rfl, _, rfl, ?_⟩
        have el : xs.length = ys.length := rv.len.trans ru.len.symm
        rw [el, decide_eq_true rfl]
        refine iteT ⟨_, rfl, _, rfl, a, b, xs, ys, rfl, .inl ⟨SqL.of (s1 _ _ hv), SqL.of (s1 _ _ hu), fun D hD =>
          lc_pairs (walk_zip (n := xs.length) (by omega)) (by decide) ((l.map fun _ => true).map V.bl) (by rw [List.length_map, List.length_map, rv.len]) (sz zv) hD (fun H2 s2 => ⟨SqL.of (s2 _ _ (s1 _ _ hv)), SqL.of (s2 _ _ (s1 _ _ hu))⟩)
            (fun k x y z H2 R hk hx hy hz s2 kk => ?_) (fun H2 s2 h2 => ⟨D, l.map fun _ => true, rfl, SqL.of h2, ?_⟩)⟩⟩
        · obtain ⟨d1, e1, i1⟩ := rv.get hx
          obtain ⟨d2, e2, i2⟩ := ru.get hy
          rw [e1] at e2
          cases e2
          rw [List.getElem?_map, List.getElem?_map, e1] at hz
          obtain rfl : V.bl true = z := Option.some.inj hz
          have dd : Dep n d1 := by
            cases dp with
            | lst _ _ h => exact h _ (List.mem_of_getElem? e1)
          exact ⟨_, rfl, _, rfl, x, y, d1, rfl, i1.mono (s1.trans s2), i2.mono (s1.trans s2), dd, kk⟩
        · rw [show (l.map fun _ => true).all id = true from by rw [List.all_map]; exact List.all_eq_true.mpr fun _ _ => rfl]
          exact q _ (s1.trans s2)
      | tup hv rv zv =>
        cases iu with
        | tup hu ru zu =>
        rename_i a xs l b ys
        refine ⟨_, rfl, two_line, fun p hp => ⟨_, p, [.ty "list", .ty "tuple"], _, _, _, rfl, upd_same, cls_two _ _, ((Is.tup hu ru zu).mono (Same.up hp)).ty, kit_seq K _, _, rfl, iteT ?_⟩⟩
        have s1 : Same H _ := Same.up (o := .tup [.ty "list", .ty "tuple"]) hp
        have iv1 := (Is.tup hv rv zv).mono s1
        have iu1 := (Is.tup hu ru zu).mono s1
        refine ⟨_, rfl, _, _, _, _, _, rfl, .ty _, iv1.ty, kit_list K _, _, rfl, _, _, _, _, _, rfl, .ty _, iu1.ty, kit_list K _, rfl, _, rfl, ?_⟩
        rw [decide_eq_true rfl]
        refine iteF ⟨_, rfl, _, _, _, _, _, rfl, .ty _, iv1.ty, kit_tuple K _, _, rfl, _, _, _, _, _, rfl, .ty _, iu1.ty, kit_tuple K _, rfl, _, rfl, ?_⟩
        rw [decide_eq_true rfl]
        refine iteF ⟨_, rfl, a, xs, rfl, .inr (SqT.of (s1 _ _ hv)), _, rfl, b, ys, rfl, .inr (SqT.of (s1 _ _ hu)), rfl, _, rfl, ?_⟩
        have el : xs.length = ys.length := rv.len.trans ru.len.symm
        rw [el, decide_eq_true rfl]
        refine iteT ⟨_, rfl, _, rfl, a, b, xs, ys, rfl, .inr ⟨SqT.of (s1 _ _ hv), SqT.of (s1 _ _ hu), fun D hD =>
          lc_pairs (walk_zipT (n := xs.length) (by omega)) (by decide) ((l.map fun _ => true).map V.bl) (by rw [List.length_map, List.length_map, rv.len]) (sz zv) hD (fun H2 s2 => ⟨SqT.of (s2 _ _ (s1 _ _ hv)), SqT.of (s2 _ _ (s1 _ _ hu))⟩)
            (fun k x y z H2 R hk hx hy hz s2 kk => ?_) (fun H2 s2 h2 => ⟨D, l.map fun _ => true, rfl, SqL.of h2, ?_⟩)⟩⟩
        · obtain ⟨d1, e1, i1⟩ := rv.get hx
          obtain ⟨d2, e2, i2⟩ := ru.get hy
          rw [e1] at e2
          cases e2
          rw [List.getElem?_map, List.getElem?_map, e1] at hz
          obtain rfl : V.bl true = z := Option.some.inj hz
          have dd : Dep n d1 := by
            cases dp with
            | tup _ _ h => exact h _ (List.mem_of_getElem? e1)
          exact ⟨_, rfl, _, rfl, x, y, d1, rfl, i1.mono (s1.trans s2), i2.mono (s1.trans s2), dd, kk⟩
        · rw [show (l.map fun _ => true).all id = true from by rw [List.all_map]; exact List.all_eq_true.mpr fun _ _ => rfl]
          exact q _ (s1.trans s2)
      | _ => cases hq
end
end K31

set_option Elab.async false
set_option linter.all false
set_option maxRecDepth 100000
set_option maxHeartbeats 4000000
namespace Sr
open PySem PySem.Spec PyProof.Rows L2
/-- a method of a list or a dict called in a comprehension's block -/
theorem pe_bmK {X : Cx} {T id name : String} {r : V → List V → Hp → VK → Prop} {o e : Expr} {es : List Expr} {to : TE} {t : TA} {apos cpos : Pos} (K : PySem.W.Frag) (hK : X.K = K) (pa : PlainAttrs T) (slot : Slot T name id) (hty : typeOf (.builtin id) = pure (.type "method_descriptor")) (hm : MtR X id r) (ho : PE X o to) (ha : PA X (e :: es) t)
    (hbase : attributeBase o name X.env (eval o X.env) = eval o X.env := by rfl)
    (hfew : ((backTo cpos (starEach (e :: es) X.env)).all (fun x => !x.1) && (backToKw cpos (keywordEach [] X.env)).all (fun x => x.1.isSome)
      && decide ((e :: es).length + ([] : List Keyword).length + (if ([] : List Keyword).isEmpty then 0 else 1) < 30)) = true := by rfl)
    (hline : (apos.endLine == cpos.line) = true := by rfl) (hs : starEach (e :: es) X.env = (false, eval e X.env) :: starEach es X.env := by rfl) (hplain : (backTo cpos (starEach es X.env)).any (·.1) = false := by rfl) :
    PE X (.Call (.Attribute o name apos) (e :: es) [] cpos) (tBM K T r to t) := by
  subst hK
  exact pe_bm pa slot hty hm ho ha hbase hfew hline hs hplain
end Sr

set_option Elab.async false
set_option linter.all false
set_option maxRecDepth 100000
set_option maxHeartbeats 4000000
namespace K31
open PySem PySem.Spec PyProof.Rows L2 Sr
theorem rm_dif {H : Hp} {a b : Addr} {o : HO} (h : (rm H a) b = some o) : b ≠ a := fun z => by rw [z, rm_at] at h; cases h
theorem rm_set {H : Hp} {a b : Addr} {o : HO} (n : b ≠ a) : rm (upd H b o) a = upd (rm H a) b o := by
  funext x
  by_cases c1 : x = a
  · rw [c1, rm_at, upd_ne n.symm, rm_at]
  · rw [rm_ne c1]
    by_cases c2 : x = b
    · rw [c2, upd_same, upd_same]
    · rw [upd_ne c2, upd_ne c2, rm_ne c1]
theorem erase_map {α β : Type} (f : α → β) : ∀ (l : List α) (i : Nat), (l.map f).eraseIdx i = (l.eraseIdx i).map f
  | [], _ => rfl
  | _ :: _, 0 => rfl
  | x :: r, i + 1 => congrArg (f x :: ·) (erase_map f r i)
theorem erase_perm {α : Type} : ∀ {l : List α} {i : Nat} {x : α}, l[i]? = some x → l.Perm (x :: l.eraseIdx i)
  | [], _, _, h => by simp at h
  | y :: r, 0, x, h => by
    obtain rfl : y = x := by simpa using h
    exact List.Perm.refl _
  | y :: r, i + 1, x, h => by
    have p := erase_perm (l := r) (i := i) (x := x) (by simpa using h)
    exact (p.cons y).trans (List.Perm.swap x y _)
/-- new ranks -/
def spMix : Sp := fun vs H Q _ => ∃ (a l : Addr) (xs : List V) (n : Nat), vs = [.ref a, .ref l] ∧ DnAt n H a ∧ n ≤ 1000000 ∧ (rm H a) l = some (.lst xs) ∧ xs.length ≤ 60 ∧
  ∀ (p : Addr) (H' : Hp) (ys : List V), DnAt (n + xs.length) H' a → Same (rm H a) (rm H' a) → (rm H a) p = none → (rm H' a) p = some (.lst ys) → ys.Perm xs → Q (.ref p) H'
section
variable {P : Program} {w : World} {K : PySem.W.Frag} {mg : Str → Option Value} {base : Heap}
abbrev s__law_mixed : Stmt := top 24
theorem sc__law_mixed : FnScope ["draws", "things", "left", "k"] ["draws", "things"] (defScope s__law_mixed) := ⟨rfl, rfl, rfl, by decide +kernel, rfl, by decide +kernel, by decide +kernel⟩
theorem c__law_mixed (T : Txt K mg) (D : Dfn K mg "_law_mixed" s__law_mixed) (C_law_draw : Cal P w K mg base 1 "_law_draw" ["draws", "many"] spDraw) : Cal P w K mg base 2 "_law_mixed" ["draws", "things"] spMix := by
  refine D.cal sc__law_mixed (fun _ _ _ _ _ _ us hl => match us, hl with | [_, _], _ => rfl) (fun vs H Q E h => ?_) fun cdv A outer s H vs Q E hr h => ?_
  · obtain ⟨a, l, xs, n, rfl, _⟩ := h
    rfl
  obtain ⟨a, l, xs, n, rfl, hd, hb, hl, hz, q⟩ := h
  refine ⟨_, (pss_cons (ps_set (i := 2) sc__law_mixed.nd rfl (by first | exact Or.inl rfl | exact Or.inr rfl) (pe_callTy (T := "list") call_list_of (by rfl) T.list (by decide +kernel) (pa_cons (pv 1) pa_nil)))
      (pss_one (ps_ret (pe_lc (own := [("k", 3)]) (g := gName 3) (tt := tYes) rfl sc__law_mixed.nd (pi_range1 (by rfl) T.range (pa_cons (pe_callB (id := "len") call_len_seq (by rfl) T.len (by decide +kernel) (pa_cons (pv 2) pa_nil)) pa_nil)) (blkOk_by (N := ["draws", "things", "left", "k"]) (sc := defScope s__law_mixed) (by decide +kernel)) (fun _ _ _ _ _ => (pg_name (i := 3) sc__law_mixed.nd rfl (by first | exact Or.inl rfl | exact Or.inr rfl))) (fun _ _ _ _ _ => pts_nil) (fun _ _ _ _ _ => (pe_bmK K rfl PySem.F.plainAttrs_list PySem.F.slot_list_pop PySem.F.type_list_pop mt_popAt (pv 2) (pa_cons (pe_cal C_law_draw hr (by first | decide | omega) (by rfl) (pa_cons (pv 0) (pa_cons (pe_callB (id := "len") (call_len_seqK K rfl) (by rfl) T.len (by decide +kernel) (pa_cons (pv 2) pa_nil)) pa_nil))) pa_nil))))))), ?_⟩
  have hl0 := rm_same _ _ hl
  have nla : l ≠ a := fun z => by rw [z, rm_at] at hl; cases hl
  refine ⟨_, rfl, _, _, rfl, .inl (SqL.of hl0), fun m hm => ?_⟩
  have sm := Same.up (H := H) (o := .lst xs) hm
  have nma := hd.new hm
  have d1 := hd.up sm
  have mm : (rm H a) m = none := by rw [rm_ne nma]; exact hm
  refine ⟨_, rfl, m, _, rfl, .inl (SqL.of upd_same), _, rfl, by omega, by omega, fun D hD => ?_⟩
  have nDa := d1.new hD
  have nDm : D ≠ m := fun z => by rw [z, upd_same] at hD; cases hD
  have hD0 : H D = none := by rw [upd_ne nDm] at hD; exact hD
  have mD : (rm H a) D = none := by rw [rm_ne nDa]; exact hD0
  refine lc_it walk_range (fun i H' => DnAt (n + i) H' a ∧ Same (rm H a) (rm H' a) ∧ ∃ ls acc, H' m = some (.lst ls) ∧ H' D = some (.lst acc) ∧ (acc ++ ls).Perm xs ∧ acc.length = i) ⟨d1.set nDa, same_set (Same.rm sm) mD, xs, [], (upd_ne nDm.symm).trans upd_same, upd_same, List.Perm.refl _, rfl⟩ (fun _ _ _ _ => trivial) (fun i x H1 H2 hi p y => ?_) fun H' p => ?_
  · obtain ⟨rfl, rfl⟩ := y
    obtain ⟨d2, s2, ls, acc, hm2, hD2, pm, la⟩ := p
    have hi' : i < xs.length := by omega
    have ll : acc.length + ls.length = xs.length := by rw [← List.length_append, pm.length_eq]
    refine ⟨rfl, _, rfl, .inl ⟨rfl, _, SqL.of hm2⟩, _, rfl, _, rfl, m, _, rfl, .inl (SqL.of hm2), a, _, n + i, rfl, d2, by omega, by omega, by omega, fun k o q0 q1 ho => ?_⟩
    have lt : k.toNat < ls.length := by omega
    have hy : ls[k.toNat]? = some ls[k.toNat] := List.getElem?_eq_getElem lt
    have pm1 := erase_perm hy
    refine ⟨m, ls, k, k.toNat, ls[k.toNat], rfl, rfl, (upd_ne nma).trans hm2, by omega, by omega, PySem.StrLaws.seqIndex_nonneg q0 (by omega), hy, acc, (upd_ne nDm).trans ((upd_ne nDa).trans hD2), sz (m := 60) (by omega), ?_⟩
    refine ⟨((DnAt.put ho).set nma).set nDa, same_set (same_set (s2.trans rm_put) mm) mD, ls.eraseIdx k.toNat, acc ++ [ls[k.toNat]], (upd_ne nDm.symm).trans upd_same, upd_same, ?_, by rw [List.length_append, la]; rfl⟩
    rw [List.append_assoc]
    exact (List.Perm.append_left acc pm1.symm).trans pm
  · obtain ⟨d2, s2, ls, acc, hm2, hD2, pm, la⟩ := p
    have e0 : ls = [] := by
      have := pm.length_eq
      rw [List.length_append] at this
      exact List.length_eq_zero_iff.mp (by omega)
    subst e0
    rw [List.append_nil] at pm
    exact q D H' acc (d2.le (by omega)) s2 mD (by rw [rm_ne nDa]; exact hD2) pm
end
end K31

set_option Elab.async false
set_option linter.all false
set_option maxRecDepth 100000
set_option maxHeartbeats 4000000
namespace K31
open PySem PySem.Spec PyProof.Rows L2 Sr
mutual
def tupD : Dt → Bool
  | .lst _ => false
  | .dic => false
  | .tup l => tupDs l
  | _ => true
def tupDs : List Dt → Bool
  | [] => true
  | d :: r => tupD d && tupDs r
end
def Tups (H H' : Hp) : Prop := ∀ b xs, H b = some (.tup xs) → H' b = some (.tup xs)
theorem Tups.trans {H H' H'' : Hp} (a : Tups H H') (b : Tups H' H'') : Tups H H'' := fun c xs e => b c xs (a c xs e)
theorem Tups.of {H H' : Hp} (s : Same H H') : Tups H H' := fun b xs e => s _ _ e
mutual
theorem is_tups {H H' : Hp} (k : Tups H H') : ∀ {v : V} {d : Dt}, Is H v d → tupD d = true → Is H' v d
  | _, _, .non, _ => .non
  | _, _, .bl b, _ => .bl b
  | _, _, .int i, _ => .int i
  | _, _, .str s h, _ => .str s h
  | _, _, .tup h r z, p => .tup (k _ _ h) (isA_tups k r p) z
  | _, _, .lst _ _ _, p => by cases p
  | _, _, .dic _, p => by cases p
theorem isA_tups {H H' : Hp} (k : Tups H H') : ∀ {vs : List V} {ds : List Dt}, IsA H vs ds → tupDs ds = true → IsA H' vs ds
  | _, _, .nil, _ => .nil
  | _, _, .cons h r, p => .cons (is_tups k h (Bool.and_eq_true_iff.mp p).1) (isA_tups k r (Bool.and_eq_true_iff.mp p).2)
end
theorem tups_set {H : Hp} {p : Addr} {o : HO} (n : ∀ xs, H p ≠ some (.tup xs)) : Tups H (upd H p o) := fun b xs e => by
  rw [upd_ne fun z => n xs (by rw [← z]; exact e)]
  exact e
/-! ### tuples for lists throughout -/
mutual
def frzD : Dt → Dt
  | .lst l => .tup (frzDs l)
  | .tup l => .tup (frzDs l)
  | d => d
def frzDs : List Dt → List Dt
  | [] => []
  | d :: r => frzD d :: frzDs r
end
theorem frzDs_map : ∀ l : List Dt, frzDs l = l.map frzD
  | [] => rfl
  | d :: r => by
    show frzD d :: frzDs r = frzD d :: r.map frzD
    rw [frzDs_map r]
theorem tupDs_of : ∀ {l : List Dt}, (∀ d ∈ l, tupD d = true) → tupDs l = true
  | [], _ => rfl
  | d :: r, h => by
    show (tupD d && tupDs r) = true
    rw [h d List.mem_cons_self, tupDs_of fun x m => h x (List.mem_cons_of_mem _ m)]
    rfl
theorem frz_tup : ∀ {n : Nat} {d : Dt}, Dep n d → tupD (frzD d) = true
  | _, _, .non _ => rfl
  | _, _, .bl _ _ => rfl
  | _, _, .int _ _ => rfl
  | _, _, .str _ _ => rfl
  | _, _, .lst n l h => by
    show tupDs (frzDs l) = true
    rw [frzDs_map]
    exact tupDs_of fun x m => by
      obtain ⟨d, md, e⟩ := List.mem_map.mp m
      rw [← e]
      exact frz_tup (h d md)
  | _, _, .tup n l h => by
    show tupDs (frzDs l) = true
    rw [frzDs_map]
    exact tupDs_of fun x m => by
      obtain ⟨d, md, e⟩ := List.mem_map.mp m
      rw [← e]
      exact frz_tup (h d md)
def spFrz (n : Nat) : Sp := fun vs H Q _ => ∃ v d, vs = [v] ∧ Is H v d ∧ Dep n d ∧ ∀ u H', Same H H' → Is H' u (frzD d) → Q u H'
theorem isA_paired {H : Hp} {f : Dt → Dt} : ∀ {us : List V} {ds : List Dt}, Paired (fun v d => Is H v (f d)) us ds → IsA H us (ds.map f)
  | _, _, .nil => .nil
  | _, _, .cons h r => .cons h (isA_paired r)
section
variable {P : Program} {w : World} {K : PySem.W.Frag} {mg : Str → Option Value} {base : Heap}
abbrev s_frozen : Stmt := top 6
theorem sc_frozen : FnScope ["thing", "part"] ["thing"] (defScope s_frozen) := ⟨rfl, rfl, rfl, by decide +kernel, rfl, by decide +kernel, by decide +kernel⟩
theorem c_frozen (T : Txt K mg) (D : Dfn K mg "frozen" s_frozen) (C_is_list : Cal P w K mg base 1 "is_list" ["thing"] (spB isSeq)) : ∀ n : Nat, Cal P w K mg base (n + 2) "frozen" ["thing"] (spFrz n) := by
  intro n
  induction n with
  | zero =>
    refine D.cal sc_frozen (fun _ _ _ _ _ _ us hl => match us, hl with | [_], _ => rfl) (fun vs H Q E h => ?_) fun cdv A outer s H vs Q E hr h => ?_
    · obtain ⟨v, d, rfl, _⟩ := h
      rfl
    obtain ⟨v, d, rfl, iv, dp, q⟩ := h
    have hq : isSeq d = false := by cases dp <;> rfl
    refine ⟨_, (pss_cons (ps_if (pt_val (pe_cal C_is_list hr (by first | decide | omega) (by rfl) (pa_cons (pv 0) pa_nil))) pss_never pss_nil)
      (pss_one (ps_ret (pv 0)))), ?_⟩
    refine ⟨_, rfl, v, d, rfl, iv, fun H1 s1 => ⟨_, rfl, ?_⟩⟩
    rw [hq]
    have e : frzD d = d := by cases dp <;> rfl
    exact iteF ⟨_, rfl, q v H1 s1 (by rw [e]; exact iv.mono s1)⟩
  | succ n ih =>
    have C_frozen := ih
    refine D.cal sc_frozen (fun _ _ _ _ _ _ us hl => match us, hl with | [_], _ => rfl) (fun vs H Q E h => ?_) fun cdv A outer s H vs Q E hr h => ?_
    · obtain ⟨v, d, rfl, _⟩ := h
      rfl
    obtain ⟨v, d, rfl, iv, dp, q⟩ := h
    have iv0 := iv
    cases iv with
    | lst hv rv zv =>
      rename_i a xs l
      have dl : ∀ d ∈ l, Dep n d := by cases dp with | lst _ _ h => exact h
      refine ⟨_, (pss_cons (ps_if (pt_val (pe_cal C_is_list hr (by first | decide | omega) (by rfl) (pa_cons (pv 0) pa_nil))) (pss_one (ps_ret (pe_callTy (T := "tuple") call_tuple_of (by rfl) T.tuple (by decide +kernel) (pa_cons (pe_lc (own := [("part", 1)]) (g := gName 1) (tt := tYes) rfl sc_frozen.nd (pi_list (pv 0)) (blkOk_by (N := ["thing", "part"]) (sc := defScope s_frozen) (by decide +kernel)) (fun _ _ _ _ _ => (pg_name (i := 1) sc_frozen.nd rfl (by first | exact Or.inl rfl | exact Or.inr rfl))) (fun _ _ _ _ _ => pts_nil) (fun _ _ _ _ _ => (pe_cal C_frozen hr (by first | decide | omega) (by rfl) (pa_cons (pv 1) pa_nil)))) pa_nil)))) pss_nil)
      (pss_one (ps_ret (pv 0)))), ?_⟩
      refine ⟨_, rfl, _, _, rfl, iv0, fun H1 s1 => ⟨_, rfl, iteT ⟨_, rfl, a, rfl, ⟨_, SqL.of (s1 _ _ hv)⟩, fun D hD => lc_gen walk_list walk_at l (fun _ => true) rv.len.symm (sz zv) hD (fun H' s' => SqL.of (s' _ _ (s1 _ _ hv))) (fun H' d v => Is H' v (frzD d) ∧ tupD (frzD d) = true) (fun _ _ _ _ e h => ⟨h.1.mono e, h.2⟩) (fun _ _ _ _ _ e h => ⟨is_tups (tups_set fun xs => by rw [e]; intro z; cases z) h.1 h.2, h.2⟩) (fun i x d H2 A B hi hx hd s2 kA kB => ?_) (fun H2 acc s2 h2 pr => ?_)⟩⟩⟩
      · obtain ⟨d', e1, i1⟩ := rv.get hx
        rw [hd] at e1
        cases e1
        have dd := dl d (List.mem_of_getElem? hd)
        exact ⟨rfl, _, rfl, x, d, rfl, i1.mono (s1.trans s2), dd, fun u H3 s3 iu => kA rfl u H3 s3 ⟨iu, frz_tup dd⟩⟩
      · rw [List.filter_eq_self.mpr fun _ _ => rfl] at pr
        have ia := isA_paired (f := frzD) (L2.Paired.mapP pr fun _ _ h => h.1)
        refine ⟨D, acc, rfl, .inl ⟨SqL.of h2, fun p hp => q _ _ (s1.trans (s2.trans (Same.up hp))) ?_⟩⟩
        show Is _ (.ref p) (.tup (frzDs l))
        rw [frzDs_map]
        exact .tup upd_same (ia.mono (Same.up hp)) (by rw [Paired.length pr, ← rv.len]; exact zv)
    | tup hv rv zv =>
      rename_i a xs l
      have dl : ∀ d ∈ l, Dep n d := by cases dp with | tup _ _ h => exact h
      refine ⟨_, (pss_cons (ps_if (pt_val (pe_cal C_is_list hr (by first | decide | omega) (by rfl) (pa_cons (pv 0) pa_nil))) (pss_one (ps_ret (pe_callTy (T := "tuple") call_tuple_of (by rfl) T.tuple (by decide +kernel) (pa_cons (pe_lc (own := [("part", 1)]) (g := gName 1) (tt := tYes) rfl sc_frozen.nd (pi_tup (pv 0)) (blkOk_by (N := ["thing", "part"]) (sc := defScope s_frozen) (by decide +kernel)) (fun _ _ _ _ _ => (pg_name (i := 1) sc_frozen.nd rfl (by first | exact Or.inl rfl | exact Or.inr rfl))) (fun _ _ _ _ _ => pts_nil) (fun _ _ _ _ _ => (pe_cal C_frozen hr (by first | decide | omega) (by rfl) (pa_cons (pv 1) pa_nil)))) pa_nil)))) pss_nil)
      (pss_one (ps_ret (pv 0)))), ?_⟩
      refine ⟨_, rfl, _, _, rfl, iv0, fun H1 s1 => ⟨_, rfl, iteT ⟨_, rfl, a, rfl, ⟨_, SqT.of (s1 _ _ hv)⟩, fun D hD => lc_gen walk_tup walk_at l (fun _ => true) rv.len.symm (sz zv) hD (fun H' s' => SqT.of (s' _ _ (s1 _ _ hv))) (fun H' d v => Is H' v (frzD d) ∧ tupD (frzD d) = true) (fun _ _ _ _ e h => ⟨h.1.mono e, h.2⟩) (fun _ _ _ _ _ e h => ⟨is_tups (tups_set fun xs => by rw [e]; intro z; cases z) h.1 h.2, h.2⟩) (fun i x d H2 A B hi hx hd s2 kA kB => ?_) (fun H2 acc s2 h2 pr => ?_)⟩⟩⟩
      · obtain ⟨d', e1, i1⟩ := rv.get hx
        rw [hd] at e1
        cases e1
        have dd := dl d (List.mem_of_getElem? hd)
        exact ⟨rfl, _, rfl, x, d, rfl, i1.mono (s1.trans s2), dd, fun u H3 s3 iu => kA rfl u H3 s3 ⟨iu, frz_tup dd⟩⟩
      · rw [List.filter_eq_self.mpr fun _ _ => rfl] at pr
        have ia := isA_paired (f := frzD) (L2.Paired.mapP pr fun _ _ h => h.1)
        refine ⟨D, acc, rfl, .inl ⟨SqL.of h2, fun p hp => q _ _ (s1.trans (s2.trans (Same.up hp))) ?_⟩⟩
        show Is _ (.ref p) (.tup (frzDs l))
        rw [frzDs_map]
        exact .tup upd_same (ia.mono (Same.up hp)) (by rw [Paired.length pr, ← rv.len]; exact zv)
    | _ =>
      refine ⟨_, (pss_cons (ps_if (pt_val (pe_cal C_is_list hr (by first | decide | omega) (by rfl) (pa_cons (pv 0) pa_nil))) pss_never pss_nil)
      (pss_one (ps_ret (pv 0)))), ?_⟩
      exact ⟨_, rfl, _, _, rfl, iv0, fun H1 s1 => ⟨_, rfl, iteF ⟨_, rfl, q _ H1 s1 (iv0.mono s1)⟩⟩⟩
end
end K31

set_option Elab.async false
set_option linter.all false
set_option maxRecDepth 100000
set_option maxHeartbeats 4000000
namespace Sr
open PySem PySem.Spec PyProof.Rows L2
theorem blkOk_in {N : List Str} {sc sc2 scope : Scope} {own : List (Str × Nat)} (h : blkC N { sc with names := [] } scope own = true) : BlkOk N sc2 scope own := by
  obtain ⟨h1, h2, h3, h4, h5⟩ := blkOk_by h
  refine ⟨h1, h2, h3, fun y hy e => ?_, h5⟩
  rcases h4 y hy e with z | z <;> cases z
theorem pi_seqK {X : Cx} (K : PySem.W.Frag) (hK : X.K = K) {tg l : Expr} {tl : TE} (hl : PE X l tl) : PI X tg l (iSeq K tl) := hK ▸ pi_seq hl
theorem pi_listK {X : Cx} (K : PySem.W.Frag) (hK : X.K = K) {tg l : Expr} {tl : TE} (hl : PE X l tl) : PI X tg l (iList K tl) := hK ▸ pi_list hl
theorem pe_fldK {X : Cx} (K : PySem.W.Frag) (hK : X.K = K) {e : Expr} {f : Str} {ta : TE} {pos : Pos} (he : PE X e ta) (hb : attributeBase e f X.env (eval e X.env) = eval e X.env) : PE X (.Attribute e f pos) (tFld K ta f) := hK ▸ pe_fld he hb
/-- a comprehension that tells f of each item, whatever its target -/
theorem lc_f {α : Type} {J : It} {n : Nat} {G : Hp → Prop} {Y : Nat → Hp → V → Hp → Prop} {At : Nat → Hp → V → Prop} (w : Walk J n G Y) (hy : ∀ i H x H', Y i H x H' → H' = H ∧ At i H x) {g : TG} {te : TE} {vs : List Nat} {σ : L2.St} {H : Hp} {D : Addr} {Qd : Hp → Prop}
    (items : List α) (f : α → V) (hn : items.length = n) (hz : n < sizeLine) (hD : H D = none) (hG : ∀ H', Same H H' → G H')
    (turn : ∀ (i : Nat) (x : V) (a : α) (H1 : Hp) (A : V → Hp → Prop), i < n → At i H1 x → items[i]? = some a → Same H H1 → (∀ H2, Same H1 H2 → A (f a) H2) → g x (wipe σ vs) H1 fun σ2 H2 => wipe σ2 vs = wipe σ vs ∧ te σ2 H2 A)
    (fin : ∀ H', Same H H' → H' D = some (.lst (items.map f)) → Qd H') :
    ∃ W : Nat → Nat → Hp → Prop, (∃ m, W 0 m (upd H D (.lst []))) ∧ ∀ i m H, W i m H →
      (J.stop i H ∧ Qd H) ∨ (J.go i H ∧ ∃ Nx : Hp → Prop, (∀ H', Nx H' → ∃ m', m' < m ∧ W (i + 1) m' H') ∧ ∀ x H', J.yld i H x H' → g x (wipe σ vs) H' fun σ2 H2 => wipe σ2 vs = wipe σ vs ∧ tYes σ2 H2 fun b H3 =>
        if b = true then te σ2 H3 fun y H4 => ∃ acc, H4 D = some (.lst acc) ∧ acc.length < sizeLine ∧ Nx (upd H4 D (.lst (acc ++ [y]))) else Nx H3) := by
  refine lc_gen w hy items (fun _ => true) hn hz hD hG (fun _ a y => y = f a) (fun _ _ _ _ _ h => h) (fun _ _ _ _ _ _ h => h) (fun i x a H1 A B lt hx ha s1 kA kB => ?_) (fun H' acc s' h' p' => fin H' s' ?_)
  · have h := turn i x a H1 A lt hx ha s1 fun H2 s2 => kA rfl _ _ s2 rfl
    simp only [tYes, if_true]
    exact h
  · rw [List.filter_eq_self.mpr fun _ _ => rfl] at p'
    rw [h']
    have : ∀ {l : List V} {m : List α}, Paired (fun y a => y = f a) l m → l = m.map f := by
      intro l m h
      induction h with
      | nil => rfl
      | cons h _ ih => rw [h, ih, List.map_cons]
    rw [this p']
theorem at_any {xs : List V} : ∀ (i : Nat) (H : Hp) (x : V) (H' : Hp), YAt xs i H x H' → H' = H ∧ xs[i]? = some x := fun _ _ _ _ y => y
theorem call_dictPK {X : Cx} (K : PySem.W.Frag) (hK : X.K = K) (hc : X.calm = true) : CallR X (.type "dict") (fun xs H Q => ∃ (a : Addr) (ps : List Addr) (kvs : List (Key × V)), xs = [.ref a] ∧ SqL K H a (ps.map V.ref) ∧ Paired (fun p kv => SqT K H p [kV kv.1, kv.2]) ps kvs ∧ ∀ p, H p = none → Q (.ref p) (upd H p (.dK (mergeK [] kvs)))) := hK ▸ call_dictP hc
end Sr

set_option Elab.async false
set_option linter.all false
set_option maxRecDepth 100000
set_option maxHeartbeats 4000000
namespace K31
open PySem PySem.Spec PyProof.Rows L2 Sr
theorem name_short {s : Str} (h : nameOk (.str s) = true) : s.length ≤ 1000 := by
  have h2 := (Bool.and_eq_true_iff.mp (Bool.and_eq_true_iff.mp h).1).2
  have := of_decide_eq_true h2
  omega
theorem lenN (n m : Nat) : decide (V.int (n : Nat) = V.int (m : Nat)) = decide (n = m) := by
  by_cases c : n = m
  · rw [c, decide_eq_true rfl, decide_eq_true rfl]
  · rw [decide_eq_false c, decide_eq_false fun h => c (by have := V.int.inj h; omega)]
/-! ### legs and items -/
abbrev Leg := Str × Str × Int × Str
def goodL (g : Leg) : Prop := nameOk (.str g.1) = true ∧ nameOk (.str g.2.1) = true ∧ nameOk (.str g.2.2.2) = true ∧ g.1 ≠ g.2.2.2 ∧ 1 ≤ g.2.2.1
def legVs (g : Leg) : List V := [.str g.1, .str g.2.1, .int g.2.2.1, .str g.2.2.2]
def legDs (g : Leg) : List Dt := [.str g.1, .str g.2.1, .int g.2.2.1, .str g.2.2.2]
def LegV (H : Hp) (v : V) (g : Leg) : Prop := ∃ t, v = .ref t ∧ (H t = some (.lst (legVs g)) ∨ H t = some (.tup (legVs g)))
def ItmV (H : Hp) (v : V) (it : List Leg) : Prop := ∃ t us, v = .ref t ∧ (H t = some (.lst us) ∨ H t = some (.tup us)) ∧ Paired (LegV H) us it
def ItsV (H : Hp) (v : V) (its : List (List Leg)) : Prop := ∃ t us, v = .ref t ∧ (H t = some (.lst us) ∨ H t = some (.tup us)) ∧ Paired (ItmV H) us its
def goodIts (its : List (List Leg)) : Prop := its.length ≤ 12 ∧ ∀ it ∈ its, it.length ≤ 2 ∧ ∀ g ∈ it, goodL g
theorem LegV.mono {H H' : Hp} (s : Same H H') {v : V} {g : Leg} (h : LegV H v g) : LegV H' v g := by
  obtain ⟨t, e, h⟩ := h
  exact ⟨t, e, h.imp (s _ _) (s _ _)⟩
theorem ItmV.mono {H H' : Hp} (s : Same H H') {v : V} {it : List Leg} (h : ItmV H v it) : ItmV H' v it := by
  obtain ⟨t, us, e, h, p⟩ := h
  exact ⟨t, us, e, h.imp (s _ _) (s _ _), L2.Paired.mapP p fun _ _ h => h.mono s⟩
theorem ItsV.mono {H H' : Hp} (s : Same H H') {v : V} {its : List (List Leg)} (h : ItsV H v its) : ItsV H' v its := by
  obtain ⟨t, us, e, h, p⟩ := h
  exact ⟨t, us, e, h.imp (s _ _) (s _ _), L2.Paired.mapP p fun _ _ h => h.mono s⟩
theorem any_of {K : PySem.W.Frag} {H : Hp} {t : Addr} {us : List V} (h : H t = some (.lst us) ∨ H t = some (.tup us)) : SqL K H t us ∨ SqT K H t us := h.imp SqL.of SqT.of
theorem isA_leg {H : Hp} {g : Leg} (h : goodL g) : IsA H (legVs g) (legDs g) := .cons (.str _ (name_short h.1)) (.cons (.str _ (name_short h.2.1)) (.cons (.int _) (.cons (.str _ (name_short h.2.2.1)) .nil)))
theorem LegV.is {H : Hp} {v : V} {g : Leg} (h : LegV H v g) (k : goodL g) : ∃ d, Is H v d ∧ isSeq d = true ∧ (d = .lst (legDs g) ∨ d = .tup (legDs g)) := by
  obtain ⟨t, rfl, h | h⟩ := h
  · exact ⟨_, .lst h (isA_leg k) (show 4 ≤ 60 by decide), rfl, .inl rfl⟩
  · exact ⟨_, .tup h (isA_leg k) (show 4 ≤ 60 by decide), rfl, .inr rfl⟩
def spLeg : Sp := fun vs H Q _ => ∃ v g, vs = [v] ∧ LegV H v g ∧ goodL g ∧ ∀ H', Same H H' → Q (.bl true) H'
section
variable {P : Program} {w : World} {K : PySem.W.Frag} {mg : Str → Option Value} {base : Heap}
abbrev s__is_leg : Stmt := top 18
theorem sc__is_leg : FnScope ["thing", "giver", "given", "many", "taker"] ["thing"] (defScope s__is_leg) := ⟨rfl, rfl, rfl, by decide +kernel, rfl, by decide +kernel, by decide +kernel⟩
theorem c__is_leg (T : Txt K mg) (D : Dfn K mg "_is_leg" s__is_leg) (C_is_list : Cal P w K mg base 1 "is_list" ["thing"] (spB isSeq)) (C_is_name : Cal P w K mg base 1 "is_name" ["thing"] (spB nameOk)) (C_is_integer : Cal P w K mg base 1 "is_integer" ["thing"] (spB isInteger)) :
    Cal P w K mg base 2 "_is_leg" ["thing"] spLeg := by
  refine D.cal sc__is_leg (fun _ _ _ _ _ _ us hl => match us, hl with | [_], _ => rfl) (fun vs H Q E h => ?_) fun cdv A outer s H vs Q E hr h => ?_
  · obtain ⟨v, g, rfl, _⟩ := h
    rfl
  obtain ⟨v, g, rfl, hv, k, q⟩ := h
  obtain ⟨d, id_, hs, _⟩ := hv.is k
  obtain ⟨t, rfl, ht⟩ := id hv
  refine ⟨_, (pss_cons (ps_if (PW.pt (pw_or (pt_not (pt_val (pe_cal C_is_list hr (by first | decide | omega) (by rfl) (pa_cons (pv 0) pa_nil)))) (pw_or1 (pt_cmpR op_ne (pe_callB (id := "len") call_len_seq (by rfl) T.len (by decide +kernel) (pa_cons (pv 0) pa_nil)) pe_int (nomark _))))) (pss_one (ps_ret pe_bl)) pss_nil)
      (pss_cons (ps_asg (pv 0) (pg_seq rfl (pgs_cons (pg_name (i := 1) sc__is_leg.nd rfl (by first | exact Or.inl rfl | exact Or.inr rfl)) (pgs_cons (pg_name (i := 2) sc__is_leg.nd rfl (by first | exact Or.inl rfl | exact Or.inr rfl)) (pgs_cons (pg_name (i := 3) sc__is_leg.nd rfl (by first | exact Or.inl rfl | exact Or.inr rfl)) (pgs_cons (pg_name (i := 4) sc__is_leg.nd rfl (by first | exact Or.inl rfl | exact Or.inr rfl)) pgs_nil))))))
      (pss_cons (ps_if (PW.pt (pw_or (pt_not (pt_val (pe_cal C_is_name hr (by first | decide | omega) (by rfl) (pa_cons (pv 1) pa_nil)))) (pw_or (pt_not (pt_val (pe_cal C_is_name hr (by first | decide | omega) (by rfl) (pa_cons (pv 2) pa_nil)))) (pw_or (pt_not (pt_val (pe_cal C_is_name hr (by first | decide | omega) (by rfl) (pa_cons (pv 4) pa_nil)))) (pw_or1 (pt_cmpR op_eq (pv 1) (pv 4) (nomark _))))))) (pss_one (ps_ret pe_bl)) pss_nil)
      (pss_one (ps_ret (pe_and (pe_cal C_is_integer hr (by first | decide | omega) (by rfl) (pa_cons (pv 3) pa_nil)) (pe_one (pe_cmpR op_ge (pv 3) pe_int (nomark _))))))))), ?_⟩
  refine ⟨_, rfl, _, d, rfl, id_, fun H1 s1 => ⟨_, rfl, ?_⟩⟩
  rw [hs]
  have a1 := any_of (K := K) (ht.imp (s1 _ _) (s1 _ _))
  refine iteF ⟨_, rfl, t, _, rfl, a1, rfl, _, rfl, ?_⟩
  rw [show decide (V.int ((legVs g).length : Nat) = V.int 4) = decide ((legVs g).length = 4) from lenN _ 4, decide_eq_true (show (legVs g).length = 4 from rfl)]
  refine iteF ?_
  refine ⟨_, rfl, t, _, rfl, a1, rfl, _, _, rfl, _, _, rfl, _, _, rfl, _, _, rfl, rfl, ?_⟩
  try dsimp only
  refine ⟨_, rfl, _, _, rfl, .str _ (name_short k.1), fun H2 s2 => ⟨_, rfl, ?_⟩⟩
  rw [k.1]
  refine iteF ⟨_, rfl, _, _, rfl, .str _ (name_short k.2.1), fun H3 s3 => ⟨_, rfl, ?_⟩⟩
  rw [k.2.1]
  refine iteF ⟨_, rfl, _, _, rfl, .str _ (name_short k.2.2.1), fun H4 s4 => ⟨_, rfl, ?_⟩⟩
  rw [k.2.2.1]
  refine iteF ⟨_, rfl, _, rfl, rfl, _, rfl, ?_⟩
  rw [decide_eq_false (show ¬ V.str g.1 = V.str g.2.2.2 from fun h => k.2.2.2.1 (V.str.inj h))]
  refine iteF ⟨_, rfl, _, _, rfl, .int _, fun H5 s5 => ⟨_, rfl, iteT ⟨_, rfl, _, _, rfl, rfl, ?_⟩⟩⟩
  dsimp only
  rw [decide_eq_true k.2.2.2.2]
  exact q _ (s1.trans (s2.trans (s3.trans (s4.trans s5))))
end
end K31

set_option Elab.async false
set_option linter.all false
set_option maxRecDepth 100000
set_option maxHeartbeats 4000000
namespace K31
open PySem PySem.Spec PyProof.Rows L2 Sr
abbrev Its := List (List Leg)
def legT (g : Leg) : Dt := .tup (legDs g)
def itD (it : List Leg) : Dt := .tup (it.map legT)
theorem seqIt_of {K : PySem.W.Frag} {H : Hp} {a : Addr} {xs : List V} {R : It → Hp → Prop} (h : H a = some (.lst xs) ∨ H a = some (.tup xs)) (k : ∀ (J : It) (G : Hp → Prop), Walk J xs.length G (YAt xs) → (∀ H', H' a = H a → G H') → R J H) : SeqIt K H a R := by
  rcases h with h | h
  · exact .inl ⟨⟨xs, SqL.of h⟩, k _ _ walk_list fun H' s => SqL.of (s.trans h)⟩
  · exact .inr ⟨⟨xs, SqT.of h⟩, k _ _ walk_tup fun H' s => SqT.of (s.trans h)⟩
theorem so_of {H : Hp} {t : Addr} {us : List V} (h : H t = some (.lst us) ∨ H t = some (.tup us)) : ∃ o, seqO us o ∧ H t = some o := by
  rcases h with h | h
  · exact ⟨_, .inl rfl, h⟩
  · exact ⟨_, .inr rfl, h⟩
theorem leg_dep (g : Leg) : ∀ d ∈ legDs g, Dep 0 d := by
  intro d m
  simp only [legDs, List.mem_cons, List.not_mem_nil, or_false] at m
  rcases m with rfl | rfl | rfl | rfl
  · exact .str _ _
  · exact .str _ _
  · exact .int _ _
  · exact .str _ _
theorem legs_is {H : Hp} : ∀ {us : List V} {it : List Leg}, Paired (LegV H) us it → (∀ g ∈ it, goodL g) → ∃ ds, IsA H us ds ∧ frzDs ds = it.map legT ∧ ∀ d ∈ ds, Dep 1 d
  | _, _, .nil, _ => ⟨[], .nil, rfl, fun d m => by cases m⟩
  | _, _, .cons (b := g) h r, k => by
    obtain ⟨d, h1, _, h3⟩ := h.is (k g List.mem_cons_self)
    obtain ⟨ds, r1, r2, r3⟩ := legs_is r fun x m => k x (List.mem_cons_of_mem _ m)
    refine ⟨d :: ds, .cons h1 r1, ?_, fun x m => ?_⟩
    · show frzD d :: frzDs ds = legT g :: _
      rw [r2]
      rcases h3 with rfl | rfl <;> rfl
    · rcases List.mem_cons.mp m with rfl | m
      · rcases h3 with rfl | rfl
        · exact .lst _ _ (leg_dep g)
        · exact .tup _ _ (leg_dep g)
      · exact r3 x m
theorem ItmV.is {H : Hp} {v : V} {it : List Leg} (h : ItmV H v it) (l : it.length ≤ 2) (k : ∀ g ∈ it, goodL g) : ∃ d, Is H v d ∧ isSeq d = true ∧ frzD d = itD it ∧ Dep 2 d := by
  obtain ⟨t, us, rfl, h, p⟩ := h
  obtain ⟨ds, h1, h2, h3⟩ := legs_is p k
  have lu : us.length ≤ 60 := by rw [Paired.length p]; omega
  rcases h with h | h
  · exact ⟨.lst ds, .lst h h1 lu, rfl, congrArg Dt.tup h2, .lst _ _ h3⟩
  · exact ⟨.tup ds, .tup h h1 lu, rfl, congrArg Dt.tup h2, .tup _ _ h3⟩
theorem itms_is {H : Hp} : ∀ {us : List V} {its : Its}, Paired (ItmV H) us its → (∀ it ∈ its, it.length ≤ 2 ∧ ∀ g ∈ it, goodL g) → ∃ ds, IsA H us ds ∧ frzDs ds = its.map itD ∧ ∀ d ∈ ds, Dep 2 d
  | _, _, .nil, _ => ⟨[], .nil, rfl, fun d m => by cases m⟩
  | _, _, .cons (b := it) h r, k => by
    obtain ⟨k1, k2⟩ := k it List.mem_cons_self
    obtain ⟨d, h1, _, h3, h4⟩ := h.is k1 k2
    obtain ⟨ds, r1, r2, r3⟩ := itms_is r fun x m => k x (List.mem_cons_of_mem _ m)
    refine ⟨d :: ds, .cons h1 r1, ?_, fun x m => ?_⟩
    · show frzD d :: frzDs ds = itD it :: _
      rw [h3, r2]
    · rcases List.mem_cons.mp m with rfl | m
      · exact h4
      · exact r3 x m
theorem ItsV.is {H : Hp} {v : V} {its : Its} (h : ItsV H v its) (k : goodIts its) : ∃ d, Is H v d ∧ isSeq d = true ∧ frzD d = .tup (its.map itD) ∧ Dep 3 d := by
  obtain ⟨t, us, rfl, h, p⟩ := h
  obtain ⟨ds, h1, h2, h3⟩ := itms_is p k.2
  have lu : us.length ≤ 60 := by rw [Paired.length p]; have := k.1; omega
  rcases h with h | h
  · exact ⟨.lst ds, .lst h h1 lu, rfl, congrArg Dt.tup h2, .lst _ _ h3⟩
  · exact ⟨.tup ds, .tup h h1 lu, rfl, congrArg Dt.tup h2, .tup _ _ h3⟩
def spCkI : Sp := fun vs H Q _ => ∃ v its, vs = [v] ∧ ItsV H v its ∧ goodIts its ∧ ∀ H', Same H H' → Q .non H'
section
variable {P : Program} {w : World} {K : PySem.W.Frag} {mg : Str → Option Value} {base : Heap}
abbrev s__check_items : Stmt := top 17
theorem sc__check_items : FnScope ["items", "index", "item", "leg"] ["items"] (defScope s__check_items) := ⟨rfl, rfl, rfl, by decide +kernel, rfl, by decide +kernel, by decide +kernel⟩
theorem c__check_items (T : Txt K mg) (D : Dfn K mg "_check_items" s__check_items) (C_is_list : Cal P w K mg base 1 "is_list" ["thing"] (spB isSeq)) (C_is_leg : Cal P w K mg base 2 "_is_leg" ["thing"] spLeg) :
    Cal P w K mg base 3 "_check_items" ["items"] spCkI := by
  refine D.cal sc__check_items (fun _ _ _ _ _ _ us hl => match us, hl with | [_], _ => rfl) (fun vs H Q E h => ?_) fun cdv A outer s H vs Q E hr h => ?_
  · obtain ⟨v, its, rfl, _⟩ := h
    rfl
  obtain ⟨v, its, rfl, hv, k, q⟩ := h
  obtain ⟨d, hd, hs, _⟩ := hv.is k
  obtain ⟨t, us, rfl, ht, p⟩ := id hv
  obtain ⟨o, so, ho⟩ := so_of ht
  obtain ⟨J, wJ, put⟩ := seq_walkE (K := K) (a := t) so
  refine ⟨_, (pss_cons (ps_if (pt_not (pt_val (pe_cal C_is_list hr (by first | decide | omega) (by rfl) (pa_cons (pv 0) pa_nil)))) pss_never pss_nil)
      (pss_one (ps_for PassesOwn.never rfl (pi_enumS (by rfl) T.enumerate (pa_cons (pv 0) pa_nil)) (pg_tup rfl (pgs_cons (pg_name (i := 1) sc__check_items.nd rfl (by first | exact Or.inl rfl | exact Or.inr rfl)) (pgs_cons (pg_name (i := 2) sc__check_items.nd rfl (by first | exact Or.inl rfl | exact Or.inr rfl)) pgs_nil)))
      (pss_one (ps_if (PW.pt (pw_or (pt_not (pt_val (pe_cal C_is_list hr (by first | decide | omega) (by rfl) (pa_cons (pv 2) pa_nil)))) (pw_or1 (pt_not (pt_val (pe_callB (id := "all") (cr_all rfl) (by rfl) T.all (by decide +kernel) (pa_cons (pe_lc (own := [("leg", 3)]) (g := gName 3) (tt := tYes) rfl sc__check_items.nd (pi_seq (pv 2)) (blkOk_by (N := ["items", "index", "item", "leg"]) (sc := defScope s__check_items) (by decide +kernel)) (fun _ _ _ _ _ => (pg_name (i := 3) sc__check_items.nd rfl (by first | exact Or.inl rfl | exact Or.inr rfl))) (fun _ _ _ _ _ => pts_nil) (fun _ _ _ _ _ => (pe_cal C_is_leg hr (by first | decide | omega) (by rfl) (pa_cons (pv 3) pa_nil)))) pa_nil))))))) pss_never pss_nil))))), ?_⟩
  refine ⟨_, rfl, _, d, rfl, hd, fun H1 s1 => ⟨_, rfl, ?_⟩⟩
  rw [hs]
  refine iteF ?_
  refine ⟨_, rfl, t, rfl, put H1 _ (s1 _ _ ho) (for_it wJ (fun i σ H' => (∃ x y z, σ = [some (.ref t), x, y, z]) ∧ Same H1 H') ⟨⟨_, _, _, rfl⟩, Same.refl _⟩ (fun i σ H' _ pp => pp.2 _ _ (s1 _ _ ho)) ?_ ?_)⟩
  · rintro i u σ H2 H2' hi ⟨⟨x, y, z, rfl⟩, s2⟩ ⟨T', x1, y1, rfl, hT, rfl, hx, hy⟩
    obtain rfl : V.int (i : Nat) = x1 := Option.some.inj hx
    have s3 : Same H2 _ := Same.up (o := .tup [.int (i : Nat), y1]) hT
    obtain ⟨it, hit⟩ : ∃ it, its[i]? = some it := ⟨its[i]'(by rw [← Paired.length p]; exact hi), List.getElem?_eq_getElem _⟩
    obtain ⟨k1, k2⟩ := k.2 it (List.mem_of_getElem? hit)
    have s13 := s1.trans (s2.trans s3)
    have iv := (Paired.at2 p hy hit).mono s13
    obtain ⟨dy, i1, i2, _⟩ := iv.is k1 k2
    refine ⟨T', _, rfl, SqT.of upd_same, rfl, _, _, rfl, _, _, rfl, rfl, ?_⟩
    generalize upd H2 T' _ = G at s3 s13 iv i1 ⊢
    refine ⟨_, rfl, y1, dy, rfl, i1, fun H4 s4 => ⟨_, rfl, ?_⟩⟩
    rw [i2]
    obtain ⟨t3, us3, rfl, h3, p3⟩ := iv.mono s4
    refine iteF ⟨_, rfl, t3, rfl, seqIt_of h3 fun J3 G3 w3 hG3 => fun B hB => lc_f w3 at_any it (fun _ => V.bl true) (Paired.length p3).symm (sz (m := 60) (by rw [Paired.length p3]; omega)) hB (fun H' s' => hG3 H' (by rcases h3 with h | h <;> rw [s' _ _ h, h])) (fun j u g H5 A lt hu hz s5 kA => ?_) (fun H5 s5 h5 => ?_)⟩
    · exact ⟨rfl, _, rfl, u, g, rfl, (Paired.at2 p3 hu hz).mono s5, k2 g (List.mem_of_getElem? hz), fun H6 s6 => kA _ s6⟩
    · refine ⟨B, it.map fun _ => true, rfl, SqL.of (by rw [h5, List.map_map]; rfl), ?_⟩
      rw [show (it.map fun _ => true).all id = true from by rw [List.all_map]; exact List.all_eq_true.mpr fun _ _ => rfl]
      exact ⟨_, rfl, iteF ⟨⟨_, _, _, rfl⟩, s2.trans (s3.trans (s4.trans s5))⟩⟩
  · rintro σ H2 ⟨_, s2⟩
    exact q _ (s1.trans s2)
end
end K31

set_option Elab.async false
set_option linter.all false
set_option maxRecDepth 100000
set_option maxHeartbeats 4000000
namespace Sr
open PySem PySem.Spec PyProof.Rows L2
/-! ### sorted(set(xs)), xs a list of pairs of texts (TupSets's way through the table, for pairs of texts) -/
def pHash (P : Program) (w : World) (p : Str × Str) : Int := tupleKeyHash (mixKind P w) (pk p)
def PAt (P : Program) (w : World) (h : Heap) (p : Str × Str) (b : Addr) : Prop := IsTupleKey (mixKind P w) h (pk p) b
section
variable {P : Program} {w : World} {A : Around} {E : Value → Shared → Prop} {s : Shared}
theorem PAt.raw {h : Heap} {p : Str × Str} {b : Addr} (x : PAt P w h p b) : ∃ (o : Obj) (t1 t2 : Tok) (n : Nat), h.get? b = some o ∧ o.cls = .type "tuple" ∧ o.data = .seq #[.str p.1 t1, .str p.2 t2] n := by
  obtain ⟨o, its, n, ho, hc, hd, hi⟩ := x
  have z : ∃ t1 t2, its.toList = [Value.str p.1 t1, Value.str p.2 t2] := by
    generalize its.toList = l at hi
    cases hi with
    | cons h1 r => cases r with
      | cons h2 r =>
        cases r
        rcases keyIs_shape (show keyIs (Sum.inr p.1) _ = true from h1) with ⟨i, t, e, _⟩ | ⟨x1, t1, e1, rfl⟩
        · cases e
        rcases keyIs_shape (show keyIs (Sum.inr p.2) _ = true from h2) with ⟨i, t, e, _⟩ | ⟨x2, t2, e2, rfl⟩
        · cases e
        cases e1
        cases e2
        exact ⟨_, _, rfl⟩
  obtain ⟨t1, t2, e⟩ := z
  have e2 : its = #[.str p.1 t1, .str p.2 t2] := Array.toList_inj.mp e
  exact ⟨o, t1, t2, n, ho, hc, e2 ▸ hd⟩
theorem PAt.in_ {h h' : Heap} {p : Str × Str} {b : Addr} (x : PAt P w h p b) (k : ∀ o, h.get? b = some o → h'.get? b = some o) : PAt P w h' p b := by
  obtain ⟨o, its, n, ho, r⟩ := x
  exact ⟨o, its, n, k o ho, r⟩
theorem PAt.off {h h' : Heap} {p : Str × Str} {a b : Addr} {o : Obj} {es : Array (Int × Value)} {ep : Nat} {t : SetTable} (x : PAt P w h p b) (ha : h.get? a = some o) (hd : o.data = .set es ep t) (z : Heap.SameBut a h h') : PAt P w h' p b := by
  refine x.in_ fun u hu => (z.2 b fun e => ?_).trans hu
  obtain ⟨o2, _, _, _, h1, _, h3⟩ := x.raw
  subst e
  rw [ha] at h1
  cases h1
  rw [hd] at h3
  cases h3
theorem cls_text (n : Nat) (z : Str) (t : Tok) : ofAClassStatement n (.str z t) = pure false := by cases n <;> rfl
theorem cls_pair {p : Str × Str} {b : Addr} {Q : Bool → Shared → Prop} (x : PAt P w s.heap p b) (q : Q false s) : wpAny (model P w) A (ofAClassStatement 8 (.ref b)) Q E s := by
  obtain ⟨o, t1, t2, n, ho, hc, hd⟩ := x.raw
  unfold ofAClassStatement
  refine wpAny_bind (wpAny_typeOf (T := "tuple") ⟨o, ho, hc⟩ ?_)
  dsimp only
  simp only [show (("tuple" : String) == "tuple") = true from by decide, if_true]
  refine wpAny_bind (wpAny_pure ?_)
  simp only [Bool.not_true, Bool.false_eq_true, if_false]
  refine wpAny_bind (wpAny_seqItems ho hd ?_)
  dsimp only
  rw [← Array.forIn_toList]
  simp only [List.forIn_cons, List.forIn_nil, cls_text, pure_bind, Bool.false_eq_true, if_false]
  exact wpAny_pure q
theorem hash_pair {p : Str × Str} {b : Addr} {Q : Bool → Shared → Prop} (x : PAt P w s.heap p b) (q : Q false s) : wpAny (model P w) A (hashByValue 8 (.ref b)) Q E s := by
  have hT := x.typeIs
  obtain ⟨o, t1, t2, n, ho, hc, hd⟩ := x.raw
  unfold hashByValue
  refine wpAny_bind (wpAny_specialOf hT F.slot_tuple_hash.lookup ?_)
  show wpAny _ _ (seqItems? (.ref b) >>= _) _ _ s
  refine wpAny_bind (wpAny_seqItems ho hd ?_)
  rw [← Array.forIn_toList]
  simp only [Option.getD_some, List.forIn_cons, hashByValue, pure_bind, Bool.not_false, if_true]
  exact wpAny_pure q

/-- a search among pairs shows nothing of the table -/
theorem shy_pairs {p : Str × Str} {b : Addr} {Q : Bool → Shared → Prop} (x : PAt P w s.heap p b) (q : Q false s) : ∀ {ys : List Value}, (∀ y ∈ ys, ∃ p' c, y = Value.ref c ∧ PAt P w s.heap p' c) → wpAny (model P w) A (searchCouldBeSeen (.ref b) ys) Q E s := by
  intro ys hy
  unfold searchCouldBeSeen
  refine wpAny_bind (wpAny_forIn_list _ (fun rest r s' => (r.1 = none ∧ s' = s) ∧ ∀ y ∈ rest, ∃ p' c, y = Value.ref c ∧ PAt P w s.heap p' c) _ ?_ ?_ _ _ ⟨⟨rfl, rfl⟩, hy⟩)
  · rintro y rest r s' ⟨⟨hr, rfl⟩, all⟩
    have go : r.1 = none ∧ s' = s' := ⟨hr, rfl⟩
    have tail := fun z (hz : z ∈ rest) => all z (List.mem_cons_of_mem _ hz)
    obtain ⟨p', c, rfl, xc⟩ := all y List.mem_cons_self
    dsimp only
    split
    · exact wpAny_pure ⟨⟨rfl, rfl⟩, tail⟩
    · refine wpAny_bind (wpAny_eqIsQuiet_tuple x ?_)
      simp only [Bool.not_true, Bool.false_eq_true, if_false]
      refine wpAny_bind (wpAny_eqIsQuiet_tuple xc ?_)
      simp only [Bool.not_true, Bool.false_eq_true, if_false]
      refine wpAny_bind (cls_pair x ?_)
      simp only [Bool.false_eq_true, if_false]
      refine wpAny_bind (cls_pair xc ?_)
      simp only [Bool.false_eq_true, if_false]
      exact wpAny_pure ⟨⟨rfl, rfl⟩, tail⟩
  · rintro ⟨r1, r2⟩ s' ⟨⟨hr, rfl⟩, _⟩
    cases (show r1 = none from hr)
    exact wpAny_pure q
abbrev Pq := Addr × (Str × Str)
def pRow (P : Program) (w : World) (q : Pq) : Int × Value := (pHash P w q.2, .ref q.1)
/-- the set at a has the pairs L, in the order of its table -/
structure PSet (P : Program) (w : World) (h : Heap) (a : Addr) (L : List Pq) (es : Array (Int × Value)) (ep : Nat) (t : SetTable) : Prop where
  obj : ∃ o, h.get? a = some o ∧ o.ExactSet ∧ o.data = .set es ep t
  ent : es.toList = L.map (pRow P w)
  tab : TabOk t (L.map fun q => pHash P w q.2)
  one : (L.map (·.2)).Nodup
  tup : ∀ q ∈ L, PAt P w h q.2 q.1
  ord : w.params.followText "set-order" = true ∨ t.led = true
  gap : L.length * 5 < t.mask * 3
  few : L.length < 64
variable {a : Addr} {L : List Pq} {es : Array (Int × Value)} {ep : Nat} {t : SetTable}
theorem PSet.len (R : PSet P w s.heap a L es ep t) : es.size = L.length := by
  rw [← Array.length_toList, R.ent, List.length_map]
theorem PSet.places (R : PSet P w s.heap a L es ep t) : t.place.toList.length = L.length := by
  rw [Array.length_toList, R.tab.sz, List.length_map]
theorem fits_of {t : SetTable} {n : Nat} (h1 : t.place.size = n) (h2 : t.dummies = #[]) (h3 : n ≤ t.mask) : t.fits n = true := by
  simp [SetTable.fits, SetTable.fill, h1, h2, h3]
theorem PSet.fit (R : PSet P w s.heap a L es ep t) : t.fits es.size = true := by
  have h1 := R.places
  have h2 := R.len
  have h3 := R.gap
  rw [Array.length_toList] at h1
  exact fits_of (by omega) R.tab.dm (by omega)
theorem PSet.at_ (R : PSet P w s.heap a L es ep t) {i : Nat} {q : Pq} (h : L[i]? = some q) : es[i]? = some (pRow P w q) := by
  rw [← Array.getElem?_toList, R.ent, List.getElem?_map, h, Option.map_some]
theorem not_gave {m : SetTable} (h : MaskOk m.mask) : ¬ m.gaveWay = true := by
  unfold SetTable.gaveWay
  rw [mask_odd h]
  decide
abbrev stepAt (m : Nat) (h : Int) (c : Nat) : SetTable.Probe := nth m (runAt m (SetTable.bits h % (m + 1)) (SetTable.bits h)) c
theorem step_more (m : Nat) (h : Int) (c q : Nat) : nth m (stepAt m h c) q = stepAt m h (c + q) := (nth_add m c _ q).symm
theorem nth_dummy {m : Nat} : ∀ (n : Nat) (p : SetTable.Probe), p.dummy = none → (nth m p n).dummy = none
  | 0, _, h => h
  | n + 1, p, h => nth_dummy n _ (by unfold adv; split <;> exact h)
theorem opt_fst {es : Array (Int × Value)} {i : Nat} {x : Int × Value} (h : es[i]? = some x) : ((es[i]?.map (·.1)).getD 0) = x.1 := by rw [h]; rfl
theorem pRow_mk (x : Addr) (p : Str × Str) : pRow P w (x, p) = (pHash P w p, Value.ref x) := by unfold pRow; rfl
theorem pRow_fst (q : Pq) : (pRow P w q).1 = pHash P w q.2 := by unfold pRow; rfl
theorem PSet.hash (R : PSet P w s.heap a L es ep t) {i : Nat} {q : Pq} (hq : L[i]? = some q) : ((es[i]?.map (·.1)).getD 0) = pHash P w q.2 := (opt_fst (R.at_ hq)).trans (pRow_fst q)
/-- the search, from the c-th step of its way on -/
theorem seek (R : PSet P w s.heap a L es ep t) {x : Addr} {p : Str × Str} (hx : PAt P w s.heap p x) (hu : A.units < cLine) {K : Nat} (far : K < 10 * SetTable.turns t.mask)
    (fr : way t.mask (pHash P w p) K ∉ t.place.toList) (bsy : ∀ c, c < K → way t.mask (pHash P w p) c ∈ t.place.toList) {Q : SetFound → Shared → Prop}
    (yes : p ∈ L.map (·.2) → Q (.there none) s) (no : p ∉ L.map (·.2) → Q (.free (way t.mask (pHash P w p) K) false) s) :
    ∀ (f c : Nat) (st : Option SetTable.Probe), st.getD (t.probeStart (pHash P w p)) = stepAt t.mask (pHash P w p) c → c ≤ K → K < c + f →
      (∀ (i : Nat) (q : Pq), L[i]? = some q → q.2 = p → ∃ d, c ≤ d ∧ d < K ∧ t.place.toList[i]? = some (way t.mask (pHash P w p) d)) →
      wpAny (model P w) A (setSearchFrom a (.ref x) (pHash P w p) true f st) Q E s := by
  obtain ⟨o, ho, hex, hd⟩ := R.obj
  intro f
  induction f with
  | zero => intro c st _ h1 h2; omega
  | succ f ih =>
    intro c st hst hc hf here
    have wy : ∀ q, (nth t.mask (stepAt t.mask (pHash P w p) c) q).j = way t.mask (pHash P w p) (c + q) := fun q => congrArg SetTable.Probe.j (step_more _ _ c q)
    have hashes : ∀ (i : Nat) (q : Pq), L[i]? = some q → ((es[i]?.map (·.1)).getD 0) = pHash P w q.2 := fun i q hq => R.hash hq
    have spec := go_spec t R.tab.ris R.tab.dm (fun i => (es[i]?.map (·.1)).getD 0) (pHash P w p) (10 * SetTable.turns t.mask) (K - c) (stepAt t.mask (pHash P w p) c) (nth_dummy _ _ rfl) (by omega)
      (fun q hq => by rw [wy]; exact bsy _ (by omega)) (by rw [wy, show c + (K - c) = K by omega]; exact fr)
    rw [setSearchFrom_succ]
    refine wpAny_bind (wpAny_setState_of ho hd R.fit ?_)
    dsimp only
    refine wp_if_neg (not_gave R.tab.mok) ?_
    try refine wpAny_bind (wpAny_pure ?_)
    rcases spec with ⟨q, i, hq, hi, _, none_, hp⟩ | ⟨none_, hp⟩
    · have hp2 : t.probe (fun i => (es[i]?.map (·.1)).getD 0) (pHash P w p) (st.getD (t.probeStart (pHash P w p))) = some (.candidate (way t.mask (pHash P w p) (c + q)) i (stepAt t.mask (pHash P w p) (c + (q + 1)))) := by
        rw [hst, ← wy, ← step_more]
        exact hp
      rw [hp2]
      dsimp only
      rw [wy] at hi
      obtain ⟨hi2, _⟩ := List.getElem?_eq_some_iff.mp hi
      rw [R.places] at hi2
      have hL : L[i]? = some L[i] := List.getElem?_eq_getElem hi2
      generalize L[i] = u at hL
      have mu := List.mem_of_getElem? hL
      have live := slot_live R.tab.ris hi
      have onward : wpAny (model P w) A (searchRest a (.ref x) (pHash P w p) true f es t (way t.mask (pHash P w p) (c + q)) i (stepAt t.mask (pHash P w p) (c + (q + 1)))) Q E s := by
        unfold searchRest
        rw [R.at_ hL]
        dsimp only [pRow]
        refine wpAny_bind (wpAny_holding (wpAny_eqBool_tuple hu (R.tup u mu) hx ?_))
        refine wpAny_bind (wpAny_setState_of ho hd R.fit ?_)
        dsimp only
        by_cases e : u.2 = p
        · rw [decide_eq_true (show pk u.2 = pk p by rw [e])]
          refine wp_if_pos rfl (wpAny_pure (yes (List.mem_map.mpr ⟨u, mu, e⟩)))
        · have ne : ¬ pk u.2 = pk p := fun z => e (pk_inj z)
          rw [decide_eq_false ne]
          refine wp_if_neg (by decide) ?_
          try refine wpAny_bind (wpAny_pure ?_)
          rw [sameMem]
          dsimp only
          simp only [if_true, live, R.at_ hL, pRow]
          refine wpAny_bind (wpAny_isSame_ref_self (wpAny_bind (wpAny_pure ?_)))
          simp only [if_true]
          refine wp_if_neg (by decide) ?_
          refine ih (c + (q + 1)) _ rfl (by omega) (by omega) fun i2 u2 h2 e2 => ?_
          obtain ⟨d, d1, d2, d3⟩ := here i2 u2 h2 e2
          refine ⟨d, ?_, d2, d3⟩
          rcases Nat.lt_trichotomy d (c + q) with z | z | z
          · refine absurd ((hashes i2 u2 h2).trans (by rw [e2])) (none_ (d - c) i2 (by omega) ?_)
            rw [wy, show c + (d - c) = d by omega]
            exact d3
          · rw [z] at d3
            have l2 := slot_live R.tab.ris d3
            rw [live] at l2
            injection l2 with l2
            rw [← l2, hL] at h2
            cases h2
            exact absurd e2 e
          · omega
      by_cases hl : t.led = true
      · refine wp_if_neg (by rw [hl]; decide) ?_
        try refine wpAny_bind (wpAny_pure ?_)
        exact onward
      · refine wp_if_pos (by simpa using hl) ?_
        refine wpAny_bind (shy_pairs hx ?_ fun y hy => ?_)
        · refine wp_if_neg (by decide) ?_
          try refine wpAny_bind (wpAny_pure ?_)
          exact onward
        · obtain ⟨e, he, rfl⟩ := List.mem_map.mp hy
          have he2 : e ∈ es.toList := by
            have := (show e ∈ es ∧ e.1 = pHash P w p by simpa using he).1
            simpa using this
          rw [R.ent] at he2
          obtain ⟨u2, m2, rfl⟩ := List.mem_map.mp he2
          exact ⟨u2.2, u2.1, rfl, R.tup u2 m2⟩
    · have hp2 : t.probe (fun i => (es[i]?.map (·.1)).getD 0) (pHash P w p) (st.getD (t.probeStart (pHash P w p))) = some (.empty (way t.mask (pHash P w p) K) none) := by
        rw [hst, show way t.mask (pHash P w p) K = (nth t.mask (stepAt t.mask (pHash P w p) c) (K - c)).j by rw [wy, show c + (K - c) = K by omega]]
        exact hp
      rw [hp2]
      dsimp only
      refine wpAny_pure (no fun m => ?_)
      obtain ⟨u, mu, e⟩ := List.mem_map.mp m
      obtain ⟨i, hi⟩ := List.mem_iff_getElem?.mp mu
      obtain ⟨d, d1, d2, d3⟩ := here i u hi e
      refine none_ (d - c) i (by omega) ?_ ((hashes i u hi).trans (by rw [e]))
      rw [wy, show c + (d - c) = d by omega]
      exact d3
theorem seek_all (R : PSet P w s.heap a L es ep t) {x : Addr} {p : Str × Str} (hx : PAt P w s.heap p x) (hu : A.units < cLine) {Q : SetFound → Shared → Prop} (yes : p ∈ L.map (·.2) → Q (.there none) s)
    (no : ∀ K, p ∉ L.map (·.2) → way t.mask (pHash P w p) K ∉ t.place.toList → (∀ c, c < K → way t.mask (pHash P w p) c ∈ t.place.toList) → Q (.free (way t.mask (pHash P w p) K) false) s) :
    wpAny (model P w) A (setSearch a (.ref x) (pHash P w p) true) Q E s := by
  have g := R.gap
  obtain ⟨K, k1, k2, k3⟩ := R.tab.first (h := pHash P w p) (by rw [List.length_map]; omega)
  have small : 10 * SetTable.turns t.mask ≤ 1420 := by
    unfold SetTable.turns
    rcases R.tab.mok with e | e | e <;> omega
  unfold setSearch
  refine seek R hx hu k1 k2 k3 yes (fun n => no K n k2 k3) 100000 0 none rfl (Nat.zero_le _) (by omega) fun i q hq e => ?_
  have hi : (L.map fun q => pHash P w q.2)[i]? = some (pHash P w p) := by rw [List.getElem?_map, hq, ← e, Option.map_some]
  have lt : i < t.place.toList.length := by rw [R.places]; exact (List.getElem?_eq_some_iff.mp hq).1
  have hj := List.getElem?_eq_getElem lt
  obtain ⟨d, d1, d2⟩ := R.tab.before k2 hi hj
  exact ⟨d, Nat.zero_le _, d1, by rw [hj, d2]⟩
end
end Sr

set_option Elab.async false
set_option linter.all false
set_option maxRecDepth 100000
set_option maxHeartbeats 4000000
namespace Sr
open PySem PySem.Spec PyProof.Rows L2
section
variable {P : Program} {w : World} {A : Around} {E : Value → Shared → Prop} {s : Shared} {a : Addr} {L : List Pq} {es : Array (Int × Value)} {ep : Nat} {t : SetTable}
/-! ### the table laid anew -/
theorem fm_range {α : Type} : ∀ l : List α, (List.range l.length).filterMap (fun i => l[i]?) = l
  | [] => rfl
  | x :: l => by
    rw [List.length_cons, List.range_succ_eq_map, List.filterMap_cons]
    show x :: List.filterMap _ _ = _
    rw [List.filterMap_map]
    exact congrArg (x :: ·) (fm_range l)
theorem fm_some {α β : Type} {f : α → Option β} {g : α → β} : ∀ {l : List α}, (∀ x ∈ l, f x = some (g x)) → l.filterMap f = l.map g
  | [], _ => rfl
  | x :: l, h => by rw [List.filterMap_cons, h x List.mem_cons_self, List.map_cons, fm_some fun y m => h y (List.mem_cons_of_mem _ m)]
theorem order_fst {α : Type} {f : α → Int × Value} {es : Array (Int × Value)} {L : List α} (get : ∀ i : Nat, es[i]? = (L[i]?).map f) {o : List Nat} (within : ∀ i ∈ o, i < L.length) :
    (o.filterMap fun i => L[i]?).map (fun q => (f q).1) = o.map fun i => (es.map (·.1)).getD i 0 := by
  rw [List.map_filterMap]
  refine fm_some fun i m => ?_
  have lt := within i m
  have e5 : (es.map (·.1))[i]? = some (f L[i]).1 := by
    rw [Array.getElem?_map, get, List.getElem?_eq_getElem lt]
    rfl
  rw [List.getElem?_eq_getElem lt, Array.getD_eq_getD_getElem?, e5]
  rfl
theorem laid_anew {o : Obj} (ho : s.heap.get? a = some o) (hex : o.ExactSet) (hd : o.data = .set es ep t) (ent : es.toList = L.map (pRow P w)) (pl : t.place.size = es.size) (dm : t.dummies = #[]) (le : es.size ≤ t.mask)
    (one : (L.map (·.2)).Nodup) (tup : ∀ q ∈ L, PAt P w s.heap q.2 q.1) (ord : w.params.followText "set-order" = true ∨ t.led = true) (few : L.length < 64) {big M : Nat}
    (hw : SetTable.sizeAbove big - 1 = M) (mok : MaskOk M) (hw2 : SetTable.sizeAbove big ≤ 128) (gap : L.length * 5 < M * 3) {Q : Unit → Shared → Prop}
    (hQ : ∀ h' L' es' ep' t', Heap.SameBut a s.heap h' → PSet P w h' a L' es' ep' t' → L'.Perm L → Q () { s with heap := h' }) : wpAny (model P w) A (setRelay a big) Q E s := by
  have el : es.size = L.length := by rw [← Array.length_toList, ent, List.length_map]
  have get : ∀ i : Nat, es[i]? = (L[i]?).map (pRow P w) := fun i => by rw [← Array.getElem?_toList, ent, List.getElem?_map]
  obtain ⟨t2, order, e, perm, tab, em, eled, _, edm⟩ := relaid_ok t (hs := es.map (·.1)) (wanted := big) hw mok (by rw [Array.size_map]; omega)
  rw [Array.size_map, el] at perm
  have within : ∀ i ∈ order.toList, i < L.length := fun i m => List.mem_range.mp (perm.mem_iff.mp m)
  have r1 : (order.filterMap (es[·]?)).toList = (order.toList.filterMap fun i => L[i]?).map (pRow P w) := by
    rw [Array.toList_filterMap, List.map_filterMap]
    exact congrArg (fun f => List.filterMap f order.toList) (funext get)
  have r2 : (order.toList.filterMap fun i => L[i]?).Perm L := by
    have h := perm.filterMap (fun i => L[i]?)
    rwa [fm_range] at h
  have r3 := order_fst (f := pRow P w) get within
  simp only [pRow_fst] at r3
  rw [← r3] at tab
  have sz : (order.filterMap (es[·]?)).size = es.size := by rw [← Array.length_toList, r1, List.length_map, r2.length_eq, el]
  rw [setRelay_eq]
  refine wpAny_bind (wpAny_setState_of ho hd (fits_of pl dm le) ?_)
  dsimp only
  refine wp_if_neg (by rw [sizeLine_eq]; omega) ?_
  try refine wpAny_bind (wpAny_pure ?_)
  rw [e]
  dsimp only
  refine wpAny_bind ?_
  refine wp_if_neg (by rw [sz]; simp) ?_
  try refine wpAny_bind (wpAny_pure ?_)
  refine wpAny_pure ?_
  dsimp only
  refine wpAny_storeSet_of ho hd ?_ (by rw [sz, el, sizeLine_eq]; omega)
  have but : Heap.SameBut a s.heap (s.heap.update a (Obj.putSet (order.filterMap (es[·]?)) t2)) := Heap.SameBut.update ..
  exact hQ _ _ _ (ep + 1) t2 but ⟨⟨_, store_at ho hd, ⟨hex.1, hex.2.1, hex.2.2⟩, rfl⟩, r1, tab, (r2.map (·.2)).nodup_iff.mpr one, fun q m => (tup q (r2.mem_iff.mp m)).off ho hd but, by rw [eled]; exact ord, by rw [r2.length_eq, em]; exact gap, by rw [r2.length_eq]; exact few⟩ r2
/-- behind a put: the store, and the table laid anew where it is full -/
theorem stored {o : Obj} {L1 : List Pq} {es1 : Array (Int × Value)} {t1 : SetTable} (ho : s.heap.get? a = some o) (hex : o.ExactSet) (hd : o.data = .set es ep t) (el : es.size + 1 = L1.length) (ent : es1.toList = L1.map (pRow P w)) (tab : TabOk t1 (L1.map fun q => pHash P w q.2)) (one : (L1.map (·.2)).Nodup)
    (tup : ∀ q ∈ L1, PAt P w s.heap q.2 q.1) (ord : w.params.followText "set-order" = true ∨ t1.led = true) (few : L1.length < 64) (gap : (L1.length - 1) * 5 < t1.mask * 3) {Q : Bool → Shared → Prop}
    (hQ : ∀ h' L' es' ep' t', Heap.SameBut a s.heap h' → PSet P w h' a L' es' ep' t' → L'.Perm L1 → Q true { s with heap := h' }) :
    wpAny (model P w) A (do
      storeSet a es1 t1
      if !false && t1.tooFull then setRelay a (SetTable.grown (es.size + 1))
      return true) Q E s := by
  have el1 : es1.size = L1.length := by rw [← Array.length_toList, ent, List.length_map]
  refine wpAny_bind (wpAny_storeSet_of ho hd ?_ (by rw [el1, sizeLine_eq]; omega))
  have but : Heap.SameBut a s.heap (s.heap.update a (Obj.putSet es1 t1)) := Heap.SameBut.update ..
  have ho1 := store_at (es' := es1) (t' := t1) ho hd
  generalize s.heap.update a (Obj.putSet es1 t1) = h1 at but ho1 ⊢
  have tup1 : ∀ q ∈ L1, PAt P w h1 q.2 q.1 := fun q m => (tup q m).off ho hd but
  have pl1 : t1.place.size = L1.length := by rw [tab.sz, List.length_map]
  have fill : t1.tooFull = decide (L1.length * 5 ≥ t1.mask * 3) := by simp [SetTable.tooFull, SetTable.fill, tab.dm, pl1]
  rw [Bool.not_false, Bool.true_and, fill]
  by_cases full : L1.length * 5 ≥ t1.mask * 3
  · rw [decide_eq_true full]
    have which : (t1.mask = 7 ∧ L1.length = 5) ∨ (t1.mask = 31 ∧ L1.length = 19) := by
      rcases tab.mok with e | e | e <;> rw [e] at full gap <;> omega
    have go : ∀ M, SetTable.sizeAbove (SetTable.grown L1.length) - 1 = M → MaskOk M → SetTable.sizeAbove (SetTable.grown L1.length) ≤ 128 → L1.length * 5 < M * 3 →
        wpAny (model P w) A (setRelay a (SetTable.grown (es.size + 1))) (fun _ s' => wpAny (model P w) A (pure true) Q E s') E { s with heap := h1 } := fun M h1' h2' h3' h4' => by
      rw [el]
      exact laid_anew (s := { s with heap := h1 }) ho1 ⟨hex.1, hex.2.1, hex.2.2⟩ rfl ent (by rw [pl1, el1]) tab.dm (by rw [el1]; rcases which with ⟨e, e2⟩ | ⟨e, e2⟩ <;> omega) one tup1 ord few h1' h2' h3' h4' fun h2 L2 es2 ep2 t2 b2 R2 p2 => wpAny_pure (hQ h2 L2 es2 ep2 t2 (but.trans b2) R2 p2)
    have gone : wpAny (model P w) A (setRelay a (SetTable.grown (es.size + 1))) (fun _ s' => wpAny (model P w) A (pure true) Q E s') E { s with heap := h1 } := by
      rcases which with ⟨_, e2⟩ | ⟨_, e2⟩
      · exact go 31 (by rw [e2, size_20]) (.inr (.inl rfl)) (by rw [e2, size_20]; decide) (by omega)
      · exact go 127 (by rw [e2, size_76]) (.inr (.inr rfl)) (by rw [e2, size_76]; decide) (by omega)
    first
      | exact wp_if_pos rfl (wpAny_bind gone)
      | exact wpAny_bind (wp_if_pos rfl gone)
  · rw [decide_eq_false full]
    have fin : wpAny (model P w) A (pure true) Q E { s with heap := h1 } := wpAny_pure (hQ h1 L1 es1 (ep + 1) t1 but ⟨⟨_, ho1, ⟨hex.1, hex.2.1, hex.2.2⟩, rfl⟩, ent, tab, one, tup1, ord, by omega, few⟩ (List.Perm.refl _))
    first
      | exact wp_if_neg (by decide) fin
      | exact wpAny_bind (wp_if_neg (by decide) (wpAny_pure fin))
theorem mid_perm {α : Type} (L : List α) (p : Nat) (x : α) : (L.take p ++ x :: L.drop p).Perm (x :: L) := by
  have h : (L.take p ++ x :: L.drop p).Perm (x :: (L.take p ++ L.drop p)) := List.perm_middle
  rwa [List.take_append_drop] at h
/-- a pair put in -/
theorem put_in (R : PSet P w s.heap a L es ep t) {x : Addr} {p : Str × Str} (hx : PAt P w s.heap p x) (hu : A.units < cLine) (few : L.length + 1 < 64) {Q : Bool → Shared → Prop}
    (hQ : ∀ b h' L' es' ep' t', Heap.SameBut a s.heap h' → PSet P w h' a L' es' ep' t' → (p ∈ L.map (·.2) ∧ L' = L ∨ p ∉ L.map (·.2) ∧ L'.Perm ((x, p) :: L)) → Q b { s with heap := h' }) :
    wpAny (model P w) A (setAddHashed a (.ref x) (pHash P w p)) Q E s := by
  obtain ⟨o, ho, hex, hd⟩ := R.obj
  have el := R.len
  have gp := R.gap
  unfold setAddHashed
  refine wpAny_holding ?_
  rw [show (100000 : Nat) = 99999 + 1 from rfl, setAddHashedIn_succ]
  refine wpAny_bind (wpAny_setState_of ho hd R.fit ?_)
  dsimp only
  refine wp_if_neg (by simp [byScan, Value.scannable]) ?_
  try refine wpAny_bind (wpAny_pure ?_)
  refine wpAny_bind (seek_all R hx hu (fun m => ?_) fun K m k2 k3 => ?_)
  · dsimp only
    exact wpAny_pure (hQ false s.heap L es ep t (Heap.SameBut.refl a s.heap) R (.inl ⟨m, rfl⟩))
  · dsimp only
    refine wpAny_bind (wpAny_setState_of ho hd R.fit ?_)
    dsimp only
    obtain ⟨q1, q2, q3, q4, q5, q6, _, _, _⟩ := R.tab.put k2 k3
    generalize t.put (way t.mask (pHash P w p) K) = tp at q1 q3 q4 q5 q6 ⊢
    obtain ⟨t1, j⟩ := tp
    dsimp only at q1 q3 q4 q5 q6 ⊢
    rw [← q1] at q2 q3
    have pm := mid_perm L j (x, p)
    have tab1 : TabOk t1 ((L.take j ++ (x, p) :: L.drop j).map fun q => pHash P w q.2) := by
      rw [List.map_append, List.map_cons, List.map_take, List.map_drop]
      exact q3
    have ent1 : (SetTable.insertAt es j (pHash P w p, Value.ref x)).toList = (L.take j ++ (x, p) :: L.drop j).map (pRow P w) := by
      rw [SetTable.toList_insertAt, R.ent, List.map_append, List.map_cons, List.map_take, List.map_drop, pRow_mk]
    have one1 : ((L.take j ++ (x, p) :: L.drop j).map (·.2)).Nodup := by
      refine (pm.map (·.2)).nodup_iff.mpr ?_
      rw [List.map_cons]
      exact List.nodup_cons.mpr ⟨m, R.one⟩
    have len1 := pm.length_eq
    rw [List.length_cons] at len1
    have tup1 : ∀ q ∈ L.take j ++ (x, p) :: L.drop j, PAt P w s.heap q.2 q.1 := fun q mq => by
      rcases List.mem_cons.mp (pm.mem_iff.mp mq) with e | mq
      · rw [e]; exact hx
      · exact R.tup q mq
    have fin : ∀ t2 : SetTable, t2.place = t1.place → t2.dummies = t1.dummies → t2.mask = t1.mask → t2.led = t1.led → wpAny (model P w) A (do
        storeSet a (SetTable.insertAt es j (pHash P w p, Value.ref x)) t2
        if !false && t2.tooFull then setRelay a (SetTable.grown (es.size + 1))
        return true) Q E s := fun t2 e1 e2 e3 e4 => by
      refine stored ho hex hd (by omega) ent1 ⟨by rw [e1]; exact tab1.ris, by rw [e2]; exact tab1.dm, by rw [e1]; exact tab1.sz, by rw [e3]; exact tab1.mok, by rw [e1, e3]; exact tab1.bd, by rw [e1, e3]; exact tab1.reach⟩ one1 tup1 (by rw [e4, q5]; exact R.ord) (by omega) (by rw [e3, q4]; omega) fun h' L' es' ep' t' b R' p' => hQ true h' L' es' ep' t' b R' (.inr ⟨m, p'.trans pm⟩)
    by_cases hp : t1.plain = true
    · first
        | (refine wpAny_bind ?_; refine wp_if_pos hp ?_; refine hash_pair hx ?_)
        | refine wp_if_pos hp (wpAny_bind (hash_pair hx ?_))
      simp only [Bool.false_eq_true, if_false]
      exact fin _ rfl rfl rfl rfl
    · first
        | (refine wpAny_bind ?_; refine wp_if_neg hp ?_; refine wpAny_pure ?_)
        | refine wp_if_neg hp (wpAny_bind (wpAny_pure ?_))
        | refine wp_if_neg hp ?_
      simp only [if_true]
      exact fin _ rfl rfl rfl rfl
end
end Sr

set_option Elab.async false
set_option linter.all false
set_option maxRecDepth 100000
set_option maxHeartbeats 4000000
namespace Sr
open PySem PySem.Spec PyProof.Rows L2
/-! ### set(xs) of a list of pairs -/
/-- what a set has behind the first i of ks -/
structure HasP (ks : List Pq) (i : Nat) (L : List Pq) : Prop where
  old : ∀ q ∈ L, q ∈ ks.take i
  all : ∀ q ∈ ks.take i, q.2 ∈ L.map (·.2)
  few : L.length ≤ i
theorem HasP.next {ks L L' : List Pq} {i : Nat} {q : Pq} (g : HasP ks i L) (h : ks[i]? = some q) (c : q.2 ∈ L.map (·.2) ∧ L' = L ∨ q.2 ∉ L.map (·.2) ∧ L'.Perm (q :: L)) : HasP ks (i + 1) L' := by
  have et : ks.take (i + 1) = ks.take i ++ [q] := by rw [List.take_succ, h]; rfl
  rcases c with ⟨m, rfl⟩ | ⟨_, pm⟩
  · refine ⟨fun u mu => ?_, fun u mu => ?_, Nat.le_succ_of_le g.few⟩
    · rw [et]; exact List.mem_append_left _ (g.old u mu)
    · rw [et] at mu
      rcases List.mem_append.mp mu with z | z
      · exact g.all u z
      · rw [List.mem_singleton.mp z]; exact m
  · refine ⟨fun u mu => ?_, fun u mu => ?_, ?_⟩
    · rw [et]
      rcases List.mem_cons.mp (pm.mem_iff.mp mu) with z | z
      · rw [z]; exact List.mem_append_right _ List.mem_cons_self
      · exact List.mem_append_left _ (g.old u z)
    · rw [(pm.map (·.2)).mem_iff, List.map_cons]
      rw [et] at mu
      rcases List.mem_append.mp mu with z | z
      · exact List.mem_cons_of_mem _ (g.all u z)
      · rw [List.mem_singleton.mp z]; exact List.mem_cons_self
    · rw [pm.length_eq, List.length_cons]
      exact Nat.succ_le_succ g.few
theorem perm_lift {α β : Type} {f : α → β} {l k : List β} (h : l.Perm k) : ∀ m : List α, k = m.map f → ∃ m2 : List α, m2.Perm m ∧ l = m2.map f := by
  induction h with
  | nil =>
    intro m e
    cases m with
    | nil => exact ⟨[], .nil, rfl⟩
    | cons _ _ => cases e
  | cons x _ ih =>
    intro m e
    cases m with
    | nil => cases e
    | cons y m =>
      rw [List.map_cons] at e
      obtain ⟨e1, e2⟩ := List.cons.inj e
      obtain ⟨m', p, e3⟩ := ih m e2
      exact ⟨y :: m', p.cons y, by rw [List.map_cons, e1, e3]⟩
  | swap x y l =>
    intro m e
    cases m with
    | nil => cases e
    | cons a m => cases m with
      | nil => cases e
      | cons b m =>
        rw [List.map_cons, List.map_cons] at e
        obtain ⟨e1, e2⟩ := List.cons.inj e
        obtain ⟨e3, e4⟩ := List.cons.inj e2
        exact ⟨b :: a :: m, .swap _ _ _, by rw [List.map_cons, List.map_cons, e1, e3, e4]⟩
  | trans _ _ ih1 ih2 =>
    intro m e
    obtain ⟨m2, p2, e2⟩ := ih2 m e
    obtain ⟨m1, p1, e1⟩ := ih1 m2 e2
    exact ⟨m1, p1.trans p2, e1⟩
section
variable {P : Program} {w : World} {A : Around} {E : Value → Shared → Prop} {s : Shared}
theorem PSet.in_ {h h' : Heap} {a : Addr} {L : List Pq} {es : Array (Int × Value)} {ep : Nat} {t : SetTable} (R : PSet P w h a L es ep t) (ka : ∀ o, h.get? a = some o → h'.get? a = some o) (kt : ∀ q ∈ L, PAt P w h' q.2 q.1) : PSet P w h' a L es ep t := by
  obtain ⟨o, ho, r⟩ := R.obj
  exact ⟨⟨o, ka o ho, r⟩, R.ent, R.tab, R.one, kt, R.ord, R.gap, R.few⟩
abbrev fresh0 (w : World) : Obj := nset (!w.params.followText "set-order")
theorem PSet.new {h : Heap} {a : Addr} (ho : h.get? a = some (fresh0 w)) : PSet P w h a [] #[] 0 (.fresh 0 0 (!w.params.followText "set-order")) where
  obj := ⟨_, ho, ⟨rfl, rfl, rfl⟩, rfl⟩
  ent := rfl
  tab := ⟨List.Pairwise.nil, rfl, rfl, .inl rfl, fun x hx => (by cases hx), fun i h j hi => (by simp at hi)⟩
  one := List.nodup_nil
  tup := fun q m => (by cases m)
  ord := by
    show _ ∨ (!w.params.followText "set-order") = true
    cases w.params.followText "set-order" <;> simp
  gap := by show 0 * 5 < 7 * 3; decide
  few := by show 0 < 64; decide
theorem pairs_loop {I : Addr} {fp wr : List Addr} {G : Array GenState → Array GenState → Prop} {n : Nat} {Pv : Nat → Value → Prop} {Stt : Nat → Shared → Prop} {R : Result → Shared → Prop}
    (W : WalksS P w A.in1 I fp wr G n Pv Stt) (S : Addr) (hSf : S ∉ fp) (ks : List Pq) (hn : n = ks.length) (few : ks.length < 64) (hv : ∀ i v, Pv i v → ∃ q, ks[i]? = some q ∧ v = .ref q.1)
    (h0 : Heap) (hk : ∀ q ∈ ks, PAt P w h0 q.2 q.1) (hS0 : h0.get? S = none) (hw0 : ∀ b ∈ wr, h0.get? b = none) (hu : A.in1.units < cLine) (d : Nat) :
    ∀ (i : Nat) (s : Shared), n = i + d → Stt i s → (∀ b o, h0.get? b = some o → s.heap.get? b = some o) → (∃ L es ep t, PSet P w s.heap S L es ep t ∧ HasP ks i L) →
      (∀ s' L es ep t, Moved (S :: wr) G s s' → PSet P w s'.heap S L es ep t → HasP ks n L → (∀ b o, h0.get? b = some o → s'.heap.get? b = some o) → R (.ok (.ret .none)) s') →
      codeAny (model P w) A (.builtin "set.update.loop" ⟨[.ref S, .ref I], []⟩) R s := by
  have out : S ∉ wr := fun h => hSf (W.sub _ h)
  have more : ∀ b ∈ wr, b ∈ S :: wr := fun b h => List.mem_cons_of_mem _ h
  have stays : ∀ {s s' : Shared}, Moved wr G s s' → (∀ b o, h0.get? b = some o → s.heap.get? b = some o) → ∀ b o, h0.get? b = some o → s'.heap.get? b = some o := fun hm k b o e =>
    hm.heap b o (fun z => by rw [hw0 b z] at e; cases e) (k b o e)
  have sets : ∀ {s s' : Shared} {L es ep t i}, Moved wr G s s' → (∀ b o, h0.get? b = some o → s.heap.get? b = some o) → PSet P w s.heap S L es ep t → HasP ks i L → PSet P w s'.heap S L es ep t := fun hm k hS g =>
    hS.in_ (fun o e => hm.heap S o out e) fun q m => (hk q (List.mem_of_mem_take (g.old q m))).in_ fun o e => stays hm k _ o e
  induction d with
  | zero =>
    intro i s hd hs k ⟨L, es, ep, t, hS, g⟩ hR
    obtain rfl : n = i := hd
    refine codeAny_builtin PyProof.Rows.F.entry_set_update_loop ?_
    rw [Around.under_plainId PyProof.Rows.F.plain_set_update_loop _]
    show wpAny _ A.in1 (pyNext (.ref I) >>= _) _ _ s
    refine wpAny_bind (W.done s _ _ hs fun s' hm => ?_)
    show wpAny _ A.in1 (ret Value.none) _ _ s'
    exact wpAny_pure (hR s' L es ep t (hm.mono more) (sets hm k hS g) g (stays hm k))
  | succ d ih =>
    intro i s hd hs k ⟨L, es, ep, t, hS, g⟩ hR
    have lt : i < n := by omega
    refine codeAny_builtin PyProof.Rows.F.entry_set_update_loop ?_
    rw [Around.under_plainId PyProof.Rows.F.plain_set_update_loop _]
    show wpAny _ A.in1 (pyNext (.ref I) >>= _) _ _ s
    refine wpAny_bind (W.item i s _ _ lt hs fun v s' hP hs' hm => ?_)
    obtain ⟨q, hq, rfl⟩ := hv i v hP
    have k' := stays hm k
    have hS' := sets hm k hS g
    have hx : PAt P w s'.heap q.2 q.1 := (hk q (List.mem_of_getElem? hq)).in_ fun o e => k' _ o e
    show wpAny _ A.in1 (holding [Value.ref q.1] (setAdd S (.ref q.1)) >>= _) _ _ s'
    refine wpAny_bind (wpAny_holding ?_)
    unfold setAdd
    refine wpAny_holding (wpAny_bind (wpAny_pyHash_tuple hu hx ?_))
    refine put_in (s := { s' with toks := s'.toks + ((pk q.2).length + 1) }) hS' hx hu (by have := g.few; omega) fun b h' L' es' ep' t' hsb hS2 c => ?_
    have k2 : ∀ b o, h0.get? b = some o → h'.get? b = some o := fun b o e => (hsb.2 b fun z => by rw [z, hS0] at e; cases e).trans (k' b o e)
    refine wpAny_pure ⟨plainId_quiet PyProof.Rows.F.plain_set_update_loop _, ih (i + 1) _ (by omega) (W.frame _ s' _ _ hs' (Nat.le_add_right _ _) fun b hb o e => ?_) k2 ⟨L', es', ep', t', hS2, g.next hq c⟩ fun s2 L2 es2 ep2 t2 hm2 hS3 g2 k3 => ?_⟩
    · rw [hsb.2 b (fun h : b = S => hSf (by rw [← h]; exact hb))]
      exact e
    · refine hR s2 L2 es2 ep2 t2 (Moved.trans W.gtrans ((hm.mono more).then_heap (Nat.le_add_right _ _) fun b o hb e => ?_) hm2) hS3 g2 k3
      rw [hsb.2 b (fun h : b = S => hb (by rw [h]; exact List.mem_cons_self))]
      exact e
/-- what set(l) leaves -/
def PSetOut (P : Program) (w : World) (s : Shared) (ks : List Pq) (h' : Heap) : Prop :=
  ∃ L es ep t, PSet P w h' s.heap.objs.size L es ep t ∧ HasP ks ks.length L ∧ ∀ b o, s.heap.get? b = some o → h'.get? b = some o
theorem pairs_set {l : Addr} {items : Array Value} (ks : List Pq) {Q : Value → Shared → Prop} (hh : A.handled = none) (hl : s.heap.IsList l items) (hit : items.toList = ks.map fun q => Value.ref q.1) (hk : ∀ q ∈ ks, PAt P w s.heap q.2 q.1) (few : ks.length < 64) (hu : A.units + 8 < cLine)
    (h : ∀ (h' : Heap) (tk : Nat), PSetOut P w s ks h' → Q (.ref s.heap.objs.size) { s with heap := h', toks := tk }) :
    wpAny (model P w) A (call (.type "set") [.ref l]) Q E s := by
  have isz : items.size = ks.length := by rw [← Array.length_toList, hit, List.length_map]
  obtain ⟨ol, hol, hcl, nl, hdl⟩ := id hl
  have lt : l < s.heap.objs.size := Heap.lt_size hol
  obtain ⟨c, tl, hmro⟩ := PySem.F.called_set.mro
  have a1 := PySem.F.called_set.made
  have a2 := PySem.F.called_set.sub
  have a3 := PySem.F.called_set.notType
  have a4 := PySem.F.called_set.canCreate
  have a5 := PySem.F.typeCall_set_1 (.ref l)
  refine wpAny_call (codeAny_of_tree ?_)
  show wpAny _ _ (callAny (.type "set") _) _ _ _
  refine wpAny_pure ⟨Code.quiet_builtin _ (by decide +kernel), codeAny_builtin PySem.F.entry_type_call ?_⟩
  rw [Around.under_plain (weight_type_call_type "set" [.ref l] []) rfl]
  repeat (any_goals (first | assumption | wp_step))
  refine codeAny_mono (code_set_led1 (.ref l) (E := E) (Q₁ := fun obj t => obj = .ref s.heap.objs.size ∧ t = { s with heap := s.heap.push (fresh0 w) }) ⟨rfl, rfl⟩) fun r t hr => ?_
  cases r with
  | error e => exact hr
  | ok fl =>
    cases fl with
    | ret obj =>
      obtain ⟨rfl, rfl⟩ := hr
      have b1 : (s.heap.push (fresh0 w)).get? s.heap.objs.size = some (fresh0 w) := Heap.get?_push_size _ rfl
      have b2 : Shared.TypeIs { s with heap := s.heap.push (fresh0 w) } (.ref s.heap.objs.size) "set" := ⟨_, b1, rfl⟩
      have b3 := PySem.F.called_set.init.lookup
      have b4 := PySem.F.called_set.init.bind (.ref s.heap.objs.size)
      repeat (any_goals (first | assumption | wp_step))
      refine codeAny_mono (codeAny_call_builtin (R := wants (fun r t => r = .none ∧ ∃ h' tk, t = { s with heap := h', toks := tk } ∧ PSetOut P w s ks h') E) PySem.F.called_set.init.plain PySem.F.entry_set_init (check_set_init_1 b2 ?_)) fun r t hr => ?_
      · have c1 : Shared.TypeIs { s with heap := s.heap.push (fresh0 w) } (.ref l) "list" := ⟨ol, Heap.get?_push_of_some _ hol, hcl⟩
        have e1 := PySem.F.sub_list_set
        have e2 := PySem.F.sub_list_frozenset
        have e3 : (Value.type "list" == Value.type "dict") = false := by decide
        have il : (s.heap.push (fresh0 w)).IsList l items := hl.push _
        unfold Builtin.«set.__init__» noKeywords Builtin.Frozenset.updateFrom
        generalize hPI : pyIter = PI
        wp_walk
        subst hPI
        refine wpAny_pyIter_list il ?_
        have z1 : (s.heap.push (fresh0 w)).objs.size = s.heap.objs.size + 1 := Heap.size_push ..
        rw [z1]
        refine wpAny_bind (wpAny_runValue ?_)
        have nS : s.heap.objs.size ∉ [s.heap.objs.size + 1, l] := fun z => by
          rcases List.mem_cons.mp z with z | z
          · exact Nat.ne_of_lt (Nat.lt_succ_self _) z
          · exact Nat.ne_of_gt lt (List.mem_singleton.mp z)
        have ne : l ≠ s.heap.objs.size + 1 := Nat.ne_of_lt (Nat.lt_succ_of_lt lt)
        have free : ∀ b, s.heap.objs.size ≤ b → s.heap.get? b = none := fun b hb => by
          cases q : s.heap.get? b with
          | none => rfl
          | some o => exact absurd (Heap.lt_size q) (Nat.not_lt.mpr hb)
        have g2 : ((s.heap.push (fresh0 w)).push { cls := .type "list_iterator", data := .fields #[.ref l, .int 0 0] }).get? (s.heap.objs.size + 1) = some { cls := .type "list_iterator", data := .fields #[.ref l, .int 0 0] } := by
          have e := Heap.get?_push_size (s.heap.push (fresh0 w)) (o := { cls := .type "list_iterator", data := .fields #[.ref l, .int 0 0] }) rfl
          rwa [Heap.size_push] at e
        refine pairs_loop ((Walks.list (by simp [hh]) _ l ne items).toS) s.heap.objs.size nS ks isz few (fun i v hv => ?_) s.heap hk (free _ (Nat.le_refl _)) (fun b hb => free b (by rw [List.mem_singleton.mp hb]; omega)) (by simp only [Around.in1_units]; omega) items.size 0 _ (by omega)
          ⟨⟨_, g2, rfl, rfl⟩, il.push _⟩ (fun b o e => Heap.get?_push_of_some _ (Heap.get?_push_of_some _ e)) ⟨[], #[], 0, _, PSet.new (Heap.get?_push_of_some _ b1), ⟨fun q m => (by cases m), fun q m => (by simp at m), Nat.le_refl _⟩⟩ fun s' L es ep t hm hS g k => ?_
        · have e : items.toList[i]? = some v := by rw [Array.getElem?_toList]; exact hv
          rw [hit, List.getElem?_map] at e
          obtain ⟨q, h1, h2⟩ := Option.map_eq_some_iff.mp e
          exact ⟨q, h1, h2.symm⟩
        · obtain ⟨h', g', d', tk', os'⟩ := s'
          obtain rfl : g' = s.gens := hm.gens
          obtain rfl : d' = s.drawn := hm.drawn
          obtain rfl : os' = s.os := hm.os
          show wpAny _ _ _ _ _ _
          refine wpAny_pure ?_
          show wpAny _ _ (ret Value.none) _ _ _
          rw [isz] at g
          exact wpAny_pure ⟨rfl, h', tk', rfl, L, es, ep, t, hS, g, k⟩
      · cases r with
        | error e => exact hr
        | ok fl =>
          cases fl with
          | ret r =>
            obtain ⟨rfl, h', tk, rfl, o⟩ := hr
            repeat (any_goals (first | assumption | wp_step))
            exact h _ _ o
          | _ => exact hr.elim
    | _ => exact hr.elim
end
end Sr

set_option Elab.async false
set_option linter.all false
set_option maxRecDepth 100000
set_option maxHeartbeats 4000000
namespace Sr
open PySem PySem.Spec PyProof.Rows L2
/-! ### sorted(set(xs)) of texts -/
def txtOf (e : Int × Value) : Str := match e.2 with
  | .str z _ => z
  | _ => Str.empty
def TxtE (P : Program) (w : World) (e : Int × Value) : Prop := ∃ z t, e.2 = Value.str z t ∧ e.1 = (PySem.strKind P w).hash z
/-- the set at a has the texts L (each once, in any order) -/
def TSet (P : Program) (w : World) (h : Heap) (a : Addr) (L : List Str) : Prop :=
  ∃ o es ep t, h.get? a = some o ∧ o.ExactSet ∧ o.data = .set es ep t ∧ (∀ e ∈ es.toList, TxtE P w e) ∧ (es.toList.map txtOf).Perm L ∧ es.size < scanBound ∧ t.fits es.size = true ∧ Ris t.place.toList ∧ (w.params.followText "set-order" = true ∨ t.led = true)
section
variable {P : Program} {w : World} {A : Around} {E : Value → Shared → Prop} {s : Shared} {a : Addr} {L : List Str}
theorem TSet.in_ {h h' : Heap} (R : TSet P w h a L) (k : ∀ o, h.get? a = some o → h'.get? a = some o) : TSet P w h' a L :=
  let ⟨o, es, ep, t, ho, r⟩ := R
  ⟨o, es, ep, t, k o ho, r⟩
theorem txt_elems {l : List (Int × Value)} (g : ∀ e ∈ l, TxtE P w e) : ElemsOf (PySem.strKind P w) l := fun e m => by
  obtain ⟨z, t, e1, e2⟩ := g e m
  exact ⟨⟨z, by rw [e1]; exact strKind_is P w z t, e2⟩, by rw [e1]; rfl⟩
theorem txt_is {e : Int × Value} (g : TxtE P w e) (z : Str) : (PySem.strKind P w).is z e.2 = true ↔ txtOf e = z := by
  obtain ⟨y, t, e1, _⟩ := g
  unfold txtOf
  rw [e1]
  show ((y == z) = true) ↔ y = z
  exact beq_iff_eq
/-- what is stored behind a text that is new, the table laid anew where it is too full -/
theorem tset_stored {mark : Bool → Sem Unit} (hm : ∀ (b : Bool) (s₁ : Shared) (Q' : Unit → Shared → Prop), Q' () s₁ → wpAny (model P w) A (mark b) Q' E s₁)
    {o : Obj} {es es1 : Array (Int × Value)} {ep : Nat} {t t1 : SetTable} (ho : s.heap.get? a = some o) (hex : o.ExactSet) (hd : o.data = .set es ep t) (g : ∀ e ∈ es1.toList, TxtE P w e) (pm : (es1.toList.map txtOf).Perm L) (hb : es1.size < scanBound) (hf : t1.fits es1.size = true)
    (hr : Ris t1.place.toList) (hl : w.params.followText "set-order" = true ∨ t1.led = true) {dm : Bool} {R : Option Bool → Shared → Prop} (hR : ∀ h', Heap.SameBut a s.heap h' → TSet P w h' a L → R (some true) { s with heap := h' }) :
    wpAny (model P w) A (do
      storeSet a es1 t1
      if (!dm && t1.tooFull) = true then do
        mark (relayAll t1 es1 (SetTable.grown es1.size)).2.2
        storeSet a (relayAll t1 es1 (SetTable.grown es1.size)).1 (relayAll t1 es1 (SetTable.grown es1.size)).2.1
        pure (some true)
      else pure (some true)) R E s := by
  have but := Heap.SameBut.update s.heap a (Obj.putSet es1 t1)
  have at1 := store_at (es' := es1) (t' := t1) ho hd
  refine wpAny_bind (wpAny_storeSet_of ho hd ?_ (fits_of_scanBound hb))
  by_cases full : (!dm && t1.tooFull) = true
  · rw [if_pos full]
    have q1 := relayAll_perm t1 es1 (SetTable.grown es1.size)
    have q2 := relayAll_fits t1 es1 (SetTable.grown es1.size)
    have q3 := relayAll_ris t1 es1 (SetTable.grown es1.size)
    have q4 := relayAll_led t1 es1 (SetTable.grown es1.size)
    generalize relayAll t1 es1 (SetTable.grown es1.size) = Z at q1 q2 q3 q4 ⊢
    have sz : Z.1.size = es1.size := by
      have := q1.length_eq
      rwa [Array.length_toList, Array.length_toList] at this
    have hb2 : Z.1.size < scanBound := by omega
    refine wpAny_bind (hm _ _ _ (wpAny_bind (wpAny_storeSet_of at1 rfl ?_ (fits_of_scanBound hb2))))
    exact wpAny_pure (hR _ (but.trans (Heap.SameBut.update _ a _)) ⟨_, Z.1, _, Z.2.1, store_at at1 rfl, hex, rfl, fun e m => g e (q1.mem_iff.mp m), (q1.map txtOf).trans pm, hb2, q2, q3, hl.imp id fun z => by rw [q4]; exact z⟩)
  · rw [if_neg full]
    exact wpAny_pure (hR _ but ⟨_, es1, _, t1, at1, hex, rfl, g, pm, hb, hf, hr, hl⟩)
/-- a text put in -/
theorem tset_put {z : Str} {tk : Tok} {Q : Bool → Shared → Prop} (R : TSet P w s.heap a L) (room : L.length + 1 < scanBound)
    (hQ : ∀ b h', Heap.SameBut a s.heap h' → TSet P w h' a (if L.any (· == z) = true then L else L ++ [z]) → Q b { s with heap := h' }) :
    wpAny (model P w) A (setAddHashed a (.str z tk) ((PySem.strKind P w).hash z)) Q E s := by
  obtain ⟨o, es, ep, t, ho, hex, hd, g, pm, hb, hf, hr, hl⟩ := id R
  have hk : (PySem.strKind P w).is z (.str z tk) = true := strKind_is P w z tk
  have hc : (Value.str z tk).scannable = true := rfl
  have hel := txt_elems g
  have hn : es.size = L.length := by
    have := pm.length_eq
    rwa [List.length_map, Array.length_toList] at this
  have has : L.any (· == z) = true ↔ ∃ e ∈ es.toList, (PySem.strKind P w).is z e.2 = true := by
    rw [List.any_eq_true]
    constructor
    · rintro ⟨y, my, e⟩
      obtain ⟨e2, m2, rfl⟩ := List.mem_map.mp (pm.mem_iff.mpr my)
      exact ⟨e2, m2, (txt_is (g e2 m2) z).mpr (beq_iff_eq.mp e)⟩
    · rintro ⟨e2, m2, e⟩
      exact ⟨txtOf e2, pm.mem_iff.mp (List.mem_map.mpr ⟨e2, m2, rfl⟩), beq_iff_eq.mpr ((txt_is (g e2 m2) z).mp e)⟩
  unfold setAddHashed setAddHashedIn
  refine wpAny_holding (wpAny_bind (wpAny_setState_of ho hd hf ?_))
  dsimp only
  rw [byScan_of hc hb hel, if_pos rfl]
  unfold setAddByScan
  refine wpAny_bind (wpAny_bind (wpAny_rule (wpAny_bind (wpAny_setScan_of hk ho hd hf hel ?_))))
  cases hi : List.findIdx? (fun e => (PySem.strKind P w).is z e.2) es.toList with
  | some j =>
    obtain ⟨hj, pj, _⟩ := List.findIdx?_eq_some_iff_getElem.mp hi
    refine wpAny_pure (wpAny_pure (hQ _ s.heap (Heap.SameBut.refl a s.heap) ?_))
    rw [if_pos (has.mpr ⟨_, List.getElem_mem hj, pj⟩)]
    exact R
  | none =>
    have no : ¬ L.any (· == z) = true := fun h => by
      obtain ⟨e, m, q⟩ := has.mp h
      have c := List.findIdx?_eq_none_iff.mp hi e m
      rw [q] at c
      cases c
    rw [if_neg no] at hQ
    dsimp only
    have mk : ∀ (b : Bool) {s₁ : Shared} {Q' : Unit → Shared → Prop}, Q' () s₁ → wpAny (model P w) A (match b with | true => rule "set.scan.the-table-gave-way" | false => pure ()) Q' E s₁ :=
      fun b s₁ Q' q => by cases b <;> first | exact wpAny_pure q | exact wpAny_rule q
    have q1 := layNew_perm t es ((PySem.strKind P w).hash z) (.str z tk)
    have q2 := layNew_fits t es ((PySem.strKind P w).hash z) (.str z tk)
    have q3 := layNew_ris t es ((PySem.strKind P w).hash z) (.str z tk) hr
    have q4 := layNew_led t es ((PySem.strKind P w).hash z) (.str z tk)
    generalize layNew t es ((PySem.strKind P w).hash z) (.str z tk) = Z at q1 q2 q3 q4 ⊢
    obtain ⟨es1, t1, dm, gave⟩ := Z
    dsimp only at q1 q2 q3 q4 ⊢
    rw [Array.toList_push] at q1
    have p1 : (es1.toList.map txtOf).Perm (L ++ [z]) := by
      refine (q1.map txtOf).trans ?_
      rw [List.map_append]
      exact pm.append_right _
    have sz : es1.size = L.length + 1 := by
      have := p1.length_eq
      rwa [List.length_map, Array.length_toList, List.length_append] at this
    have hb1 : es1.size < scanBound := by omega
    have g1 : ∀ e ∈ es1.toList, TxtE P w e := fun e m => by
      rcases List.mem_append.mp (q1.mem_iff.mp m) with m | m
      · exact g e m
      · rw [List.mem_singleton.mp m]
        exact ⟨z, tk, rfl, rfl⟩
    have led : w.params.followText "set-order" = true ∨ t1.led = true := hl.imp id fun y => by rw [q4]; exact y
    have ok : ∀ t2 : SetTable, t2.fits es1.size = true → t2.place = t1.place → t2.led = t1.led → Ris t2.place.toList ∧ (w.params.followText "set-order" = true ∨ t2.led = true) := fun t2 _ e1 e2 => ⟨by rw [e1]; exact q3, by rw [e2]; exact led⟩
    refine wpAny_bind (mk _ ?_)
    split
    · refine wpAny_bind ?_
      rw [hashByValue_scannable 8 hc]
      refine wpAny_pure (tset_stored (L := L ++ [z]) ?_ ho hex hd g1 p1 hb1 ?_ ?_ ?_ fun h' but r => ?_)
      · intro b s₁ Q' q; cases b <;> first | exact wpAny_pure q | exact wpAny_rule q
      · first | (split <;> first | exact q2 | exact SetTable.fits_plain_off q2) | exact q2
      · first | (split <;> exact q3) | exact q3
      · first | (split <;> exact led) | exact led
      · dsimp only; exact wpAny_pure (hQ _ h' but r)
    · refine wpAny_bind (wpAny_pure ?_)
      simp only [↓reduceIte]
      refine tset_stored (L := L ++ [z]) ?_ ho hex hd g1 p1 hb1 q2 q3 led fun h' but r => ?_
      · intro b s₁ Q' q; cases b <;> first | exact wpAny_pure q | exact wpAny_rule q
      · dsimp only; exact wpAny_pure (hQ _ h' but r)
end
end Sr

set_option Elab.async false
set_option linter.all false
set_option maxRecDepth 100000
set_option maxHeartbeats 4000000
namespace Sr
open PySem PySem.Spec PyProof.Rows L2
section
variable {P : Program} {w : World} {A : Around} {E : Value → Shared → Prop} {s : Shared}
theorem TSet.new {h : Heap} {a : Addr} (ho : h.get? a = some (fresh0 w)) : TSet P w h a [] := by
  refine ⟨_, #[], 0, _, ho, ⟨rfl, rfl, rfl⟩, rfl, fun e m => (by cases m), .nil, by decide, by rfl, List.Pairwise.nil, ?_⟩
  show _ ∨ (!w.params.followText "set-order") = true
  cases w.params.followText "set-order" <;> simp
theorem met_at (xs : List Str) (i : Nat) : (if ((met xs i).any (· == xs.getD i Str.empty)) = true then met xs i else met xs i ++ [xs.getD i Str.empty]) = met xs (i + 1) := rfl
theorem tset_loop {R : Result → Shared → Prop} {I : Addr} {fp wr : List Addr} {G : Array GenState → Array GenState → Prop} {n : Nat} {Pv : Nat → Value → Prop} {Stt : Nat → Shared → Prop}
    (W : WalksS P w A.in1 I fp wr G n Pv Stt) (S : Addr) (hSf : S ∉ fp) (xs : List Str) (hv : ∀ i v, Pv i v → ∃ t, v = .str (xs.getD i Str.empty) t) (hb : n + 1 < scanBound) (d : Nat) :
    ∀ (i : Nat) (s : Shared), n = i + d → Stt i s → TSet P w s.heap S (met xs i) → (∀ s', Moved (S :: wr) G s s' → TSet P w s'.heap S (met xs n) → R (.ok (.ret .none)) s') →
      codeAny (model P w) A (.builtin "set.update.loop" ⟨[.ref S, .ref I], []⟩) R s := by
  have out : S ∉ wr := fun h => hSf (W.sub _ h)
  have more : ∀ b ∈ wr, b ∈ S :: wr := fun b h => List.mem_cons_of_mem _ h
  have moves : ∀ (s s' : Shared) (i : Nat), Moved wr G s s' → TSet P w s.heap S (met xs i) → TSet P w s'.heap S (met xs i) := fun s s' i hm R => R.in_ fun o e => hm.heap S o out e
  induction d with
  | zero =>
    intro i s hd hs hS hR
    obtain rfl : n = i := hd
    refine codeAny_builtin PyProof.Rows.F.entry_set_update_loop ?_
    rw [Around.under_plainId PyProof.Rows.F.plain_set_update_loop _]
    show wpAny _ A.in1 (pyNext (.ref I) >>= _) _ _ s
    refine wpAny_bind (W.done s _ _ hs fun s' hm => ?_)
    show wpAny _ A.in1 (ret Value.none) _ _ s'
    exact wpAny_pure (hR s' (hm.mono more) (moves s s' _ hm hS))
  | succ d ih =>
    intro i s hd hs hS hR
    have lt : i < n := by omega
    refine codeAny_builtin PyProof.Rows.F.entry_set_update_loop ?_
    rw [Around.under_plainId PyProof.Rows.F.plain_set_update_loop _]
    show wpAny _ A.in1 (pyNext (.ref I) >>= _) _ _ s
    refine wpAny_bind (W.item i s _ _ lt hs fun v s' hP hs' hm => ?_)
    obtain ⟨t, rfl⟩ := hv i v hP
    have hS' := moves s s' i hm hS
    show wpAny _ A.in1 (holding [Value.str (xs.getD i Str.empty) t] (setAdd S _) >>= _) _ _ s'
    refine wpAny_bind (wpAny_holding ?_)
    unfold setAdd
    refine wpAny_holding (wpAny_bind ((PySem.strKind P w).pyHash (k := xs.getD i Str.empty) (strKind_is _ _ _ _) ?_))
    have room : (met xs i).length + 1 < scanBound := by have := met_le xs i; omega
    refine tset_put (s := { s' with toks := s'.toks + 1 }) hS' room fun b h' hsb hS2 => ?_
    rw [met_at] at hS2
    refine wpAny_pure ⟨plainId_quiet PyProof.Rows.F.plain_set_update_loop _, ih (i + 1) _ (by omega) (W.frame _ s' _ _ hs' (Nat.le_succ _) fun b hb o e => ?_) hS2 fun s2 hm2 hS4 => ?_⟩
    · rw [hsb.2 b (fun h : b = S => hSf (by rw [← h]; exact hb))]
      exact e
    · refine hR s2 (Moved.trans W.gtrans ((hm.mono more).then_heap (Nat.le_succ _) fun b o hb e => ?_) hm2) hS4
      rw [hsb.2 b (fun h : b = S => hb (by rw [h]; exact List.mem_cons_self))]
      exact e
theorem strs_getD {us : List Value} {xs : List Str} (h : PyProof.Rows.StrsAre us xs) : ∀ (i : Nat) (v : Value), us[i]? = some v → ∃ t, v = .str (xs.getD i Str.empty) t := by
  induction h with
  | nil => intro i v e; simp at e
  | cons _ _ _ ih =>
    intro i v e
    cases i with
    | zero => simp at e; exact ⟨_, e.symm⟩
    | succ i => exact ih i v (by simpa using e)
def TSetOut (P : Program) (w : World) (s : Shared) (xs : List Str) (h' : Heap) : Prop := TSet P w h' s.heap.objs.size (met xs xs.length) ∧ ∀ b o, s.heap.get? b = some o → h'.get? b = some o
theorem texts_tset {l : Addr} {items : Array Value} (xs : List Str) {Q : Value → Shared → Prop} (hh : A.handled = none) (hl : s.heap.IsList l items) (hit : PyProof.Rows.StrsAre items.toList xs) (few : xs.length < 64)
    (h : ∀ (h' : Heap) (tk : Nat), TSetOut P w s xs h' → Q (.ref s.heap.objs.size) { s with heap := h', toks := tk }) :
    wpAny (model P w) A (call (.type "set") [.ref l]) Q E s := by
  have isz : items.size = xs.length := by
    have z := hit.length
    rwa [Array.length_toList] at z
  obtain ⟨ol, hol, hcl, nl, hdl⟩ := id hl
  have lt : l < s.heap.objs.size := Heap.lt_size hol
  obtain ⟨c, tl, hmro⟩ := PySem.F.called_set.mro
  have a1 := PySem.F.called_set.made
  have a2 := PySem.F.called_set.sub
  have a3 := PySem.F.called_set.notType
  have a4 := PySem.F.called_set.canCreate
  have a5 := PySem.F.typeCall_set_1 (.ref l)
  refine wpAny_call (codeAny_of_tree ?_)
  show wpAny _ _ (callAny (.type "set") _) _ _ _
  refine wpAny_pure ⟨Code.quiet_builtin _ (by decide +kernel), codeAny_builtin PySem.F.entry_type_call ?_⟩
  rw [Around.under_plain (weight_type_call_type "set" [.ref l] []) rfl]
  repeat (any_goals (first | assumption | wp_step))
  refine codeAny_mono (code_set_led1 (.ref l) (E := E) (Q₁ := fun obj t => obj = .ref s.heap.objs.size ∧ t = { s with heap := s.heap.push (fresh0 w) }) ⟨rfl, rfl⟩) fun r t hr => ?_
  cases r with
  | error e => exact hr
  | ok fl =>
    cases fl with
    | ret obj =>
      obtain ⟨rfl, rfl⟩ := hr
      have b1 : (s.heap.push (fresh0 w)).get? s.heap.objs.size = some (fresh0 w) := Heap.get?_push_size _ rfl
      have b2 : Shared.TypeIs { s with heap := s.heap.push (fresh0 w) } (.ref s.heap.objs.size) "set" := ⟨_, b1, rfl⟩
      have b3 := PySem.F.called_set.init.lookup
      have b4 := PySem.F.called_set.init.bind (.ref s.heap.objs.size)
      repeat (any_goals (first | assumption | wp_step))
      refine codeAny_mono (codeAny_call_builtin (R := wants (fun r t => r = .none ∧ ∃ h' tk, t = { s with heap := h', toks := tk } ∧ TSetOut P w s xs h') E) PySem.F.called_set.init.plain PySem.F.entry_set_init (check_set_init_1 b2 ?_)) fun r t hr => ?_
      · have c1 : Shared.TypeIs { s with heap := s.heap.push (fresh0 w) } (.ref l) "list" := ⟨ol, Heap.get?_push_of_some _ hol, hcl⟩
        have e1 := PySem.F.sub_list_set
        have e2 := PySem.F.sub_list_frozenset
        have e3 : (Value.type "list" == Value.type "dict") = false := by decide
        have il : (s.heap.push (fresh0 w)).IsList l items := hl.push _
        unfold Builtin.«set.__init__» noKeywords Builtin.Frozenset.updateFrom
        generalize hPI : pyIter = PI
        wp_walk
        subst hPI
        refine wpAny_pyIter_list il ?_
        have z1 : (s.heap.push (fresh0 w)).objs.size = s.heap.objs.size + 1 := Heap.size_push ..
        rw [z1]
        refine wpAny_bind (wpAny_runValue ?_)
        have nS : s.heap.objs.size ∉ [s.heap.objs.size + 1, l] := fun z => by
          rcases List.mem_cons.mp z with z | z
          · exact Nat.ne_of_lt (Nat.lt_succ_self _) z
          · exact Nat.ne_of_gt lt (List.mem_singleton.mp z)
        have ne : l ≠ s.heap.objs.size + 1 := Nat.ne_of_lt (Nat.lt_succ_of_lt lt)
        have g2 : ((s.heap.push (fresh0 w)).push { cls := .type "list_iterator", data := .fields #[.ref l, .int 0 0] }).get? (s.heap.objs.size + 1) = some { cls := .type "list_iterator", data := .fields #[.ref l, .int 0 0] } := by
          have e := Heap.get?_push_size (s.heap.push (fresh0 w)) (o := { cls := .type "list_iterator", data := .fields #[.ref l, .int 0 0] }) rfl
          rwa [Heap.size_push] at e
        refine tset_loop ((Walks.list (by simp [hh]) _ l ne items).toS) s.heap.objs.size nS xs (fun i v hv => strs_getD hit i v (by rw [Array.getElem?_toList]; exact hv)) (by unfold scanBound; omega) items.size 0 _ (by omega)
          ⟨⟨_, g2, rfl, rfl⟩, il.push _⟩ (TSet.new (Heap.get?_push_of_some _ b1)) fun s' hm hS => ?_
        obtain ⟨h', g', d', tk', os'⟩ := s'
        obtain rfl : g' = s.gens := hm.gens
        obtain rfl : d' = s.drawn := hm.drawn
        obtain rfl : os' = s.os := hm.os
        show wpAny _ _ _ _ _ _
        refine wpAny_pure ?_
        show wpAny _ _ (ret Value.none) _ _ _
        rw [isz] at hS
        refine wpAny_pure ⟨rfl, h', tk', rfl, hS, fun b o e => ?_⟩
        have lb : b < s.heap.objs.size := Heap.lt_size e
        refine hm.heap b o (fun z => ?_) (Heap.get?_push_of_some _ (Heap.get?_push_of_some _ e))
        simp only [List.mem_cons, List.not_mem_nil, or_false] at z
        rcases z with z | z
        · exact Nat.ne_of_lt lb z
        · exact Nat.ne_of_lt (Nat.lt_succ_of_lt lb) z
      · cases r with
        | error e => exact hr
        | ok fl =>
          cases fl with
          | ret r =>
            obtain ⟨rfl, h', tk, rfl, o⟩ := hr
            repeat (any_goals (first | assumption | wp_step))
            exact h _ _ o
          | _ => exact hr.elim
    | _ => exact hr.elim
theorem strs_each {us : List Value} : (∀ v ∈ us, ∃ z t, v = Value.str z t) → PyProof.Rows.StrsAre us (us.map fun v => txtOf (0, v)) := by
  induction us with
  | nil => intro _; exact .nil
  | cons u us ih =>
    intro h
    obtain ⟨z, t, rfl⟩ := h u List.mem_cons_self
    exact .cons _ _ (ih fun v m => h v (List.mem_cons_of_mem _ m))
end
section
variable {X : Cx}
def tSortTxt (K : PySem.W.Frag) (ta : TE) : TE := fun σ H Q => ta σ H fun x H1 => ∃ (l : Addr) (xs : List Str), x = .ref l ∧ SqL K H1 l (xs.map V.str) ∧ xs.length < 64 ∧
  ∀ (ys : List Str) (p : Addr), ys.Perm (met xs xs.length) → sortedS ys = true → H1 p = none → Q (.ref p) (upd H1 p (.lst (ys.map V.str)))
theorem pe_sortTxt {a : Expr} {ta : TE} {p p2 q pos : Pos} (hc : X.calm = true) (hg : Gl X "sorted") (hm : X.mg "sorted" = none) (hg2 : Gl X "set") (hm2 : X.mg "set" = none) (ha : PE X a ta)
    (na : starEach [a] X.env = (false, eval a X.env) :: starEach [] X.env := by rfl) : PE X (.Call (.Name "sorted" p) [.Call (.Name "set" p2) [a] [] q] [] pos) (tSortTxt X.K ta) := by
  refine ⟨fun pins s σ H Q I h => ?_⟩
  refine Call_ (ld_blt (u := .builtin "sorted") I hg hm (by decide +kernel) ?_)
  refine PyProof.Rows.callWith_builtin1 (PyProof.Rows.args_cons ?_ rfl) rfl rfl
  refine Call_ (ld_blt (u := .type "set") I hg2 hm2 (by decide +kernel) ?_)
  refine PyProof.Rows.callWith_type1 (PyProof.Rows.args_cons (thn (ha.run pins s σ H _ I h) fun v s1 ⟨x, H1, I1, r1, q1⟩ => PyProof.Rows.args_nil ?_) na) na rfl
  obtain ⟨l, xs, rfl, hq, few, q1⟩ := q1
  cases r1
  obtain ⟨its, r, pl, hz⟩ := I1.list hq
  refine texts_tset (P := X.prog) (w := X.w) xs (I1.ok.hd hc) pl.isList (by simpa using r.strs) few fun h' tk ⟨R, keep⟩ => ?_
  refine PyProof.Rows.args_nil ?_
  have I2 : L2.Inv X pins σ H1 { s1 with heap := h', toks := tk } := I1.kept keep
  refine Calls.call_function_entry PyProof.Rows.kind_sorted PyProof.Rows.plain_sorted PyProof.Rows.entry_sorted (PyProof.Rows.args_sorted1 _) ?_
  unfold Builtin.«sorted»
  refine wpAny_bind (m := checkCount "sorted" 1 1 _) (wpAny_pure ?_)
  obtain ⟨o, es, ep, t, ho, hex, hd, g, pm, hb, hf, hr, hl⟩ := R
  have lm := met_le xs xs.length
  refine wpAny_bind (collect_set (P := X.prog) (w := X.w) (A := X.A.in1) (I1.ok.hd hc) ⟨o, ho, hex.1, hd⟩ hf hb hr hl fun s2 vs k2 hz2 g2 o2 pv => ?_)
  have lv : vs.length < 64 := by
    have h1 := pv.length_eq
    have h2 := pm.length_eq
    rw [List.length_map] at h1 h2
    omega
  have hS : PyProof.Rows.StrsAre vs (vs.map fun v => txtOf (0, v)) := strs_each fun v m => by
    obtain ⟨e, me, q⟩ := List.mem_map.mp (pv.mem_iff.mp m)
    obtain ⟨z, t, e1, _⟩ := g e me
    exact ⟨z, t, by rw [← q]; exact e1⟩
  have pt : (vs.map fun v => txtOf (0, v)).Perm (met xs xs.length) := by
    refine (pv.map fun v => txtOf (0, v)).trans ?_
    rw [List.map_map]
    exact pm
  refine wpAny_bind (wpAny_newList ?_ (by rw [sizeLine_eq]; omega))
  have hoL : (s2.heap.push (seqObj "list" vs.toArray 0)).get? s2.heap.objs.size = some (seqObj "list" vs.toArray 0) := Heap.get?_push_size _ rfl
  refine wpAny_bind (wpAny_holding (wpAny_call_entry PyProof.Rows.slot_list_sort ⟨_, hoL, rfl⟩ PyProof.Rows.entry_list_sort
    (list_sort_treeK strKind_oneLt hoL hS.keysOf (fun v₁ v₂ rest e => keyKind_strs (by rw [← e]; exact hS)) lv fun st' hp hs => ⟨_, rfl, ?_⟩) (PyProof.Rows.args_list_sort _)))
  obtain ⟨ys, y1, y2, y3⟩ := sorted_out_str hS hp hs
  obtain ⟨e', he'⟩ := PyProof.Rows.sortedHeap_at (vs := vs) (out := (arrOf st').map (·.2)) hoL
  have hlen : (ys.map V.str).length ≤ sizeLine := by
    rw [List.length_map, y2.length_eq, List.length_map, sizeLine_eq]
    omega
  have kk : ∀ b o, h'.get? b = some o → (PyProof.Rows.sortedHeap (s2.heap.push (seqObj "list" vs.toArray 0)) s2.heap.objs.size vs ((arrOf st').map (·.2))).get? b = some o := fun b o e => by
    have lb : b < s2.heap.objs.size := Heap.lt_size (k2 b o e)
    rw [PyProof.Rows.sortedHeap_old (Nat.ne_of_lt lb) (by rw [size_push']; exact Nat.lt_succ_of_lt lb)]
    exact Heap.get?_push_of_some _ (k2 b o e)
  have hn : H1 s2.heap.objs.size = none := I2.hok.fresh hz2
  have J : L2.Inv X pins σ (upd H1 s2.heap.objs.size (.lst (ys.map V.str))) { ({ s1 with heap := h', toks := tk } : Shared) with heap := PyProof.Rows.sortedHeap (s2.heap.push (seqObj "list" vs.toArray 0)) s2.heap.objs.size vs ((arrOf st').map (·.2)), gens := s2.gens, drawn := s2.drawn, toks := s2.toks } :=
    I2.call (ch := []) (Un.laid kk hz2 hn) (I2.hok.laid kk hz2 ⟨hlen, ((arrOf st').map (·.2)).toList, e', vals_of_strs y1, by rw [Array.toArray_toList]; exact he'⟩) (by rw [g2]; exact I2.bare) (fun _ z => nomatch z)
  have es2 : s2 = { ({ s1 with heap := h', toks := tk } : Shared) with heap := s2.heap, gens := s2.gens, drawn := s2.drawn, toks := s2.toks } := by
    cases s2
    cases o2
    rfl
  refine wpAny_pure ⟨_, rfl, .ref s2.heap.objs.size, upd H1 s2.heap.objs.size (.lst (ys.map V.str)), ?_, rfl, q1 ys _ (y2.trans pt) y3 hn⟩
  rw [es2]
  exact J
end
end Sr

set_option Elab.async false
set_option linter.all false
set_option maxRecDepth 100000
set_option maxHeartbeats 4000000
namespace K31
open PySem PySem.Spec PyProof.Rows L2 Sr
/-- two orders of the same names, both ascending -/
def leS (a b : Str) : Prop := a.cps.toList ≤ b.cps.toList
theorem leS_of {a b : Str} (h : (!ltCps b.cps.toList a.cps.toList) = true) : leS a b := by
  rw [ltCps_eq] at h
  exact List.not_lt.mp (of_decide_eq_false (by simpa using h))
theorem rising_pw : ∀ {r : List Str} {p : Str}, PyProof.Rows.risingS p r = true → (p :: r).Pairwise leS
  | [], p, _ => List.pairwise_singleton _ _
  | x :: r, p, h => by
    obtain ⟨h1, h2⟩ := Bool.and_eq_true_iff.mp h
    have ih := rising_pw h2
    have px := leS_of h1
    refine List.pairwise_cons.mpr ⟨fun y m => ?_, ih⟩
    rcases List.mem_cons.mp m with rfl | m
    · exact px
    · exact List.le_trans px ((List.pairwise_cons.mp ih).1 y m)
theorem sorted_pw {ys : List Str} (h : PyProof.Rows.sortedS ys = true) : ys.Pairwise leS := by
  cases ys with
  | nil => exact List.Pairwise.nil
  | cons y r => exact rising_pw h
theorem sorted_one {xs ys zs : List Str} (hx : xs.Perm zs) (hy : ys.Perm zs) (sx : PyProof.Rows.sortedS xs = true) (sy : PyProof.Rows.sortedS ys = true) : xs = ys := by
  refine List.Perm.eq_of_pairwise (le := leS) (fun a b _ _ h1 h2 => ?_) (sorted_pw sx) (sorted_pw sy) (hx.trans hy.symm)
  have e : a.cps.toList = b.cps.toList := List.le_antisymm h1 h2
  obtain ⟨⟨ca⟩⟩ := a
  obtain ⟨⟨cb⟩⟩ := b
  simp only at e
  rw [e]
theorem nodup_len : ∀ {ys xs : List Str}, ys.Nodup → (∀ s ∈ ys, s ∈ xs) → ys.length ≤ xs.length
  | [], _, _, _ => Nat.zero_le _
  | y :: r, xs, nd, h => by
    obtain ⟨n1, n2⟩ := List.nodup_cons.mp nd
    have my := h y List.mem_cons_self
    have ih := nodup_len (xs := xs.erase y) n2 fun s m => (List.mem_erase_of_ne (fun (e : s = y) => n1 (by rw [← e]; exact m))).mpr (h s (List.mem_cons_of_mem _ m))
    have := List.length_erase_of_mem my
    have pos : 0 < xs.length := List.length_pos_of_mem my
    rw [List.length_cons]
    omega
abbrev Rw := List (Str × Int)
abbrev Hs := List (Str × Rw)
def gC (cs : Rw) (n : Str) : Int := (cs.lookup n).getD 0
def gR (hs : Hs) (n : Str) : Rw := (hs.lookup n).getD []
def CoinsC (kc : List (Key × V)) (cs : Rw) : Prop := Paired (fun (kv : Key × V) (p : Str × Int) => kv.1 = Sum.inr p.1 ∧ kv.2 = .int p.2) kc cs
/-- a dict of dicts of numbers -/
def HldR (H : Hp) (kv : List (Key × V)) (hs : Hs) : Prop := Paired (fun (kv : Key × V) (p : Str × Rw) => kv.1 = Sum.inr p.1 ∧ ∃ d kr, kv.2 = .ref d ∧ H d = some (.dK kr) ∧ CoinsC kr p.2) kv hs
theorem HldR.mono {H H' : Hp} (s : Same H H') {kv : List (Key × V)} {hs : Hs} (h : HldR H kv hs) : HldR H' kv hs := L2.Paired.mapP h fun _ _ ⟨e, d, kr, a, b, c⟩ => ⟨e, d, kr, a, s _ _ b, c⟩
def goodR (r : Rw) : Prop := (r.map (·.1)).Nodup ∧ r.length ≤ 6 ∧ ∀ p ∈ r, nameOk (.str p.1) = true ∧ 0 ≤ p.2
def goodH (hs : Hs) : Prop := (hs.map (·.1)).Nodup ∧ hs.length ≤ 6 ∧ ∀ p ∈ hs, nameOk (.str p.1) = true ∧ goodR p.2
theorem CoinsC.val {kc : List (Key × V)} {cs : Rw} (h : CoinsC kc cs) (n : Str) : valV kc (Sum.inr n) = (cs.lookup n).map V.int := by
  unfold CoinsC at h
  induction h with
  | nil => rfl
  | @cons kv p kc cs h r ih =>
    rw [List.lookup_cons]
    by_cases c : n = p.1
    · subst c
      rw [valV_pos (by rw [h.1]), beq_self_eq_true, h.2]
      rfl
    · rw [valV_neg (by rw [h.1]; exact fun z => c (Sum.inr.inj z).symm), beq_false_of_ne c]
      exact ih
theorem look_mem {α : Type} {l : List (Str × α)} {n : Str} {a : α} (h : l.lookup n = some a) : (n, a) ∈ l := by
  induction l with
  | nil => cases h
  | cons p r ih =>
    rw [List.lookup_cons] at h
    by_cases c : n = p.1
    · subst c
      rw [beq_self_eq_true] at h
      cases h
      exact List.mem_cons_self
    · rw [beq_false_of_ne c] at h
      exact List.mem_cons_of_mem _ (ih h)
theorem keys_names {α : Type} {F : V → α → Prop} {kv : List (Key × V)} {l : List (Str × α)} (h : Paired (fun (kv : Key × V) (p : Str × α) => kv.1 = Sum.inr p.1 ∧ F kv.2 p.2) kv l) : kv.map (fun kv => kV kv.1) = (l.map (·.1)).map V.str ∧ kv.map (·.1) = l.map fun p => (Sum.inr p.1 : Key) := by
  induction h with
  | nil => exact ⟨rfl, rfl⟩
  | @cons kv p kc cs h r ih =>
    refine ⟨?_, ?_⟩
    · rw [List.map_cons, List.map_cons, List.map_cons, ih.1, h.1]
      rfl
    · rw [List.map_cons, List.map_cons, ih.2, h.1]
theorem keys_nd {α : Type} {F : V → α → Prop} {kv : List (Key × V)} {l : List (Str × α)} (h : Paired (fun (kv : Key × V) (p : Str × α) => kv.1 = Sum.inr p.1 ∧ F kv.2 p.2) kv l) (nd : (l.map (·.1)).Nodup) : (kv.map (·.1)).Nodup := by
  rw [(keys_names h).2, show (l.map fun p => (Sum.inr p.1 : Key)) = (l.map (·.1)).map Sum.inr by rw [List.map_map]; rfl]
  exact List.Pairwise.map _ (fun a b h e => h (Sum.inr.inj e)) nd
def spHeld : Sp := fun vs H Q _ => ∃ d kr row, vs = [.ref d] ∧ H d = some (.dK kr) ∧ CoinsC kr row ∧ goodR row ∧ ∀ H', Same H H' → Q (.bl true) H'
def spCkH : Sp := fun vs H Q _ => ∃ a kv hs, vs = [.ref a] ∧ H a = some (.dK kv) ∧ HldR H kv hs ∧ goodH hs ∧ ∀ H', Same H H' → Q .non H'
theorem back_of {H H' : Hp} {a : Addr} {od : HO} {kv : List (Key × V)} (ha : H a = some (.dK kv)) (s : Same (upd H a od) H') : Same H (upd H' a (.dK kv)) := fun x o e => by
  by_cases hx : x = a
  · rw [hx] at e ⊢
    rw [ha] at e
    cases e
    exact upd_same
  · rw [upd_ne hx]
    exact s _ _ (by rw [upd_ne hx]; exact e)
section
variable {P : Program} {w : World} {K : PySem.W.Frag} {mg : Str → Option Value} {base : Heap}
abbrev s__is_held : Stmt := top 16
theorem sc__is_held : FnScope ["thing", "key"] ["thing"] (defScope s__is_held) := ⟨rfl, rfl, rfl, by decide +kernel, rfl, by decide +kernel, by decide +kernel⟩
theorem c__is_held (T : Txt K mg) (D : Dfn K mg "_is_held" s__is_held) (C_is_name : Cal P w K mg base 1 "is_name" ["thing"] (spB nameOk)) (C_is_integer : Cal P w K mg base 1 "is_integer" ["thing"] (spB isInteger)) :
    Cal P w K mg base 2 "_is_held" ["thing"] spHeld := by
  refine D.cal sc__is_held (fun _ _ _ _ _ _ us hl => match us, hl with | [_], _ => rfl) (fun vs H Q E h => ?_) fun cdv A outer s H vs Q E hr h => ?_
  · obtain ⟨d, kr, row, rfl, _⟩ := h
    rfl
  obtain ⟨d, kr, row, rfl, hd, cc, g, q⟩ := h
  refine ⟨_, (pss_cons (ps_if (pt_not (pt_val (pe_callB (id := "isinstance") call_isi (by rfl) T.isinstance (by decide +kernel) (pa_cons (pv 0) (pa_cons (pe_tyv (n := "dict") (by rfl) T.dict (by decide +kernel)) pa_nil))))) (pss_one (ps_ret pe_bl)) pss_nil)
      (pss_one (ps_ret (pe_callB (id := "all") (cr_all rfl) (by rfl) T.all (by decide +kernel) (pa_cons (pe_lock (pe_lc (own := [("key", 1)]) (g := gName 1) (tt := tYes) rfl sc__is_held.nd (pi_keys (pv 0)) (blkOk_by (N := ["thing", "key"]) (sc := defScope s__is_held) (by decide +kernel)) (fun _ _ _ _ _ => (pg_name (i := 1) sc__is_held.nd rfl (by first | exact Or.inl rfl | exact Or.inr rfl))) (fun _ _ _ _ _ => pts_nil) (fun _ _ _ _ _ => (pe_and (pe_cal C_is_name hr (by first | decide | omega) (by rfl) (pa_cons (pv 1) pa_nil)) (pe_and (pe_cal C_is_integer hr (by first | decide | omega) (by rfl) (pa_cons (pe_dget (hu_of hr) (pv 0) (pv 1) (fun _ _ => rfl)) pa_nil)) (pe_one (pe_cmpR op_ge (pe_dget (hu_of hr) (pv 0) (pv 1) (fun _ _ => rfl)) pe_int (nomark _)))))))) pa_nil))))), ?_⟩
  refine ⟨_, rfl, _, _, _, _, _, rfl, .ty _, .base (.dK hd), kit_ty (show kitB "dict" "dict" = some true by decide +kernel), _, rfl, iteF ?_⟩
  have nd := keys_nd (F := fun v i => v = V.int i) cc g.1
  have lk : kr.length = row.length := Paired.length cc
  refine ⟨d, _, hd, trivial, fun od => ?_⟩
  have hF : (upd H d (.frz od (.dK kr))) d = some (.frz od (.dK kr)) := upd_same
  have bk : ∀ {H'}, Same (upd H d (.frz od (.dK kr))) H' → Same H (upd H' d (.dK kr)) := fun s => back_of hd s
  generalize upd H d (.frz od (.dK kr)) = F at hF bk ⊢
  refine ⟨_, rfl, d, od, rfl, .inl ⟨kr, hF, fun B hB => lc_f walk_keys (At := fun i _ x => ∃ k v, kr[i]? = some (k, v) ∧ x = kV k) (fun _ _ _ _ y => y) row (fun _ => V.bl true) lk.symm (sz (m := 60) (by rw [lk]; have := g.2.1; omega)) hB (fun H' s' => s' _ _ hF) (fun j u p H5 A lt hu hz s5 kA => ?_) (fun H5 s5 h5 => ?_)⟩⟩
  · obtain ⟨k, v, hk, rfl⟩ := hu
    obtain ⟨ek, ev⟩ := Paired.at2 cc hk hz
    obtain ⟨g1, g2⟩ := g.2.2 p (List.mem_of_getElem? hz)
    have ek : k = Sum.inr p.1 := ek
    have ev : v = .int p.2 := ev
    subst ek
    subst ev
    have vv : valV kr (Sum.inr p.1) = some (.int p.2) := val_nodup nd _ (List.mem_of_getElem? hk)
    have dg : ∀ {G : Hp}, Same H5 G → DGet G d (kV (Sum.inr p.1)) (some (.int p.2)) := fun {G} sG => .inl ⟨kr, Sum.inr p.1, .inr ⟨od, sG _ _ (s5 _ _ hF)⟩, rfl, vv.symm⟩
    refine ⟨rfl, ?_⟩
    refine ⟨_, rfl, .str p.1, .str p.1, rfl, .str _ (name_short g1), fun H6 s6 => ?_⟩
    rw [g1]
    refine ⟨_, rfl, iteT ⟨_, rfl, _, rfl, d, _, rfl, dg s6, _, _, rfl, .int _, fun H7 s7 => ⟨_, rfl, iteT ⟨_, rfl, _, rfl, d, _, rfl, dg (s6.trans s7), _, _, rfl, rfl, ?_⟩⟩⟩⟩
    dsimp only
    rw [decide_eq_true g2]
    exact kA _ (s6.trans s7)
  · refine ⟨s5 _ _ hF, B, row.map fun _ => true, rfl, SqL.of ?_, ?_⟩
    · have nB : B ≠ d := fun z => by
        rw [z, hF] at hB
        cases hB
      rw [upd_ne nB, h5, List.map_map]
      rfl
    rw [show (row.map fun _ => true).all id = true from by rw [List.all_map]; exact List.all_eq_true.mpr fun _ _ => rfl]
    exact q _ (bk s5)
abbrev s__check_holdings : Stmt := top 15
theorem sc__check_holdings : FnScope ["holdings", "member"] ["holdings"] (defScope s__check_holdings) := ⟨rfl, rfl, rfl, by decide +kernel, rfl, by decide +kernel, by decide +kernel⟩
theorem c__check_holdings (T : Txt K mg) (D : Dfn K mg "_check_holdings" s__check_holdings) (C_is_name : Cal P w K mg base 1 "is_name" ["thing"] (spB nameOk)) (C_is_held : Cal P w K mg base 2 "_is_held" ["thing"] spHeld) :
    Cal P w K mg base 3 "_check_holdings" ["holdings"] spCkH := by
  refine D.cal sc__check_holdings (fun _ _ _ _ _ _ us hl => match us, hl with | [_], _ => rfl) (fun vs H Q E h => ?_) fun cdv A outer s H vs Q E hr h => ?_
  · obtain ⟨a, kv, hs, rfl, _⟩ := h
    rfl
  obtain ⟨a, kv, hs, rfl, ha, hh, g, q⟩ := h
  refine ⟨_, (pss_cons (ps_if (pt_not (pt_val (pe_callB (id := "isinstance") call_isi (by rfl) T.isinstance (by decide +kernel) (pa_cons (pv 0) (pa_cons (pe_tyv (n := "dict") (by rfl) T.dict (by decide +kernel)) pa_nil))))) pss_never pss_nil)
      (pss_one (ps_lock (ps_for PassesOwn.never rfl (pi_keys (pv 0)) (pg_name (i := 1) sc__check_holdings.nd rfl (by first | exact Or.inl rfl | exact Or.inr rfl))
      (pss_one (ps_if (PW.pt (pw_or (pt_not (pt_val (pe_cal C_is_name hr (by first | decide | omega) (by rfl) (pa_cons (pv 1) pa_nil)))) (pw_or1 (pt_not (pt_val (pe_cal C_is_held hr (by first | decide | omega) (by rfl) (pa_cons (pe_dget (hu_of hr) (pv 0) (pv 1) (fun _ _ => rfl)) pa_nil))))))) pss_never pss_nil)))))), ?_⟩
  refine ⟨_, rfl, _, _, _, _, _, rfl, .ty _, .base (.dK ha), kit_ty (show kitB "dict" "dict" = some true by decide +kernel), _, rfl, iteF ?_⟩
  have nd := keys_nd (F := fun v (r : Rw) => ∃ d kr, v = .ref d ∧ H d = some (.dK kr) ∧ CoinsC kr r) hh g.1
  have lk : kv.length = hs.length := Paired.length hh
  refine ⟨a, _, ha, trivial, fun od => ?_⟩
  have hF : (upd H a (.frz od (.dK kv))) a = some (.frz od (.dK kv)) := upd_same
  have bk : ∀ {H'}, Same (upd H a (.frz od (.dK kv))) H' → Same H (upd H' a (.dK kv)) := fun s => back_of ha s
  have fz : ∀ b o, b ≠ a → H b = some o → (upd H a (.frz od (.dK kv))) b = some o := fun b o n e => by rw [upd_ne n]; exact e
  generalize upd H a (.frz od (.dK kv)) = F at hF bk fz ⊢
  refine ⟨_, rfl, a, od, rfl, .inl ⟨kv, hF, for_it walk_keys (fun i σ H' => (∃ v, σ = [some (.ref a), v]) ∧ Same F H') ⟨⟨_, rfl⟩, Same.refl _⟩ (fun i σ H' hi p => p.2 _ _ hF) ?_ ?_⟩⟩
  · rintro i u σ H1 H2 hi ⟨⟨v0, rfl⟩, s1⟩ ⟨rfl, k, v, hk, rfl⟩
    obtain ⟨p, hp⟩ : ∃ p, hs[i]? = some p := ⟨hs[i]'(by omega), List.getElem?_eq_getElem (by omega)⟩
    obtain ⟨ek, d, kr, ev, hd, cc⟩ := Paired.at2 hh hk hp
    obtain ⟨g1, g2⟩ := g.2.2 p (List.mem_of_getElem? hp)
    have ek : k = Sum.inr p.1 := ek
    have ev : v = .ref d := ev
    subst ek
    subst ev
    have nda : d ≠ a := fun z => by
      rw [z, ha] at hd
      cases hd
      obtain ⟨c, hc⟩ : ∃ c, p.2[i]? = some c := by
        have h1 := (List.getElem?_eq_some_iff.mp hk).1
        have h2 := Paired.length cc
        exact ⟨p.2[i]'(by omega), List.getElem?_eq_getElem (by omega)⟩
      have := (Paired.at2 cc hk hc).2
      cases this
    have vv : valV kv (Sum.inr p.1) = some (.ref d) := val_nodup nd _ (List.mem_of_getElem? hk)
    have dg : ∀ {G : Hp}, Same H2 G → DGet G a (kV (Sum.inr p.1)) (some (.ref d)) := fun {G} sG => .inl ⟨kv, Sum.inr p.1, .inr ⟨od, sG _ _ (s1 _ _ hF)⟩, rfl, vv.symm⟩
    refine ⟨_, rfl, .str p.1, .str p.1, rfl, .str _ (name_short g1), fun H3 s3 => ⟨_, rfl, ?_⟩⟩
    rw [g1]
    refine iteF ⟨_, rfl, _, rfl, a, _, rfl, dg s3, ?_⟩
    delta tNil
    dsimp only
    exact ⟨d, kr, p.2, rfl, s3 _ _ (s1 _ _ (fz _ _ nda hd)), cc, g2, fun H4 s4 => ⟨_, rfl, iteF ⟨⟨_, rfl⟩, s1.trans (s3.trans s4)⟩⟩⟩
  · rintro σ H1 ⟨_, s1⟩
    exact ⟨s1 _ _ hF, q _ (bk s1)⟩
end
end K31

set_option Elab.async false
set_option linter.all false
set_option maxRecDepth 100000
set_option maxHeartbeats 4000000
namespace Sr
open PySem PySem.Spec PyProof.Rows L2
/-- a dict comprehension over texts, some of them kept -/
theorem dc_textsF {J : It} {n : Nat} {G : Hp → Prop} {Y : Nat → Hp → V → Hp → Prop} {At : Nat → V → Prop} (w : Walk J n G Y) (hy : ∀ i H x H', Y i H x H' → H' = H ∧ At i x) {tt : TT} {tk tv : TE} {j : Nat} {σ : L2.St} {H : Hp} {D : Addr} {Qd : Hp → Prop}
    (ss : List Str) (keep : Str → Bool) (hn : ss.length = n) (nd : ss.Nodup) (hz : n < sizeLine) (hD : H D = none) (hG : ∀ H', Same H H' → G H') (Rv : Hp → Str → V → Prop) (mono : ∀ H1 H2 s v, Same H1 H2 → Rv H1 s v → Rv H2 s v)
    (lay : ∀ H1 s v c c', H1 D = some (.dK c) → Rv H1 s v → Rv (upd H1 D (.dK c')) s v)
    (turn : ∀ (i : Nat) (x : V) (s : Str) (H1 : Hp) (R : V → V → Hp → Prop) (B : Hp → Prop), i < n → At i x → ss[i]? = some s → Same H H1 → (keep s = true → ∀ H2 z, Same H1 H2 → Rv H2 s z → R (.str s) z H2) → (keep s = false → ∀ H2, Same H1 H2 → B H2) →
      tt ((σ.set j none).set j (some x)) H1 fun b H3 => if b = true then tk ((σ.set j none).set j (some x)) H3 fun y H2 => tv ((σ.set j none).set j (some x)) H2 fun z H3 => R y z H3 else B H3)
    (fin : ∀ H' kvs, Same H H' → H' D = some (.dK kvs) → Ent (Rv H') kvs (ss.filter keep) → Qd H') :
    ∃ W : Nat → Nat → Hp → Prop, (∃ m, W 0 m (upd H D (.dK []))) ∧ ∀ i m H, W i m H →
      (J.stop i H ∧ Qd H) ∨ (J.go i H ∧ ∃ Nx : Hp → Prop, (∀ H', Nx H' → ∃ m', m' < m ∧ W (i + 1) m' H') ∧ ∀ x H', J.yld i H x H' → (gName j) x (wipe σ [j]) H' fun σ2 H2 => wipe σ2 [j] = wipe σ [j] ∧ tt σ2 H2 fun b H3 =>
        if b = true then tk σ2 H3 fun y H4 => tv σ2 H4 fun z H5 => ∃ kvs k, y = kV k ∧ H5 D = some (.dK kvs) ∧ kvs.length < sizeLine ∧ Nx (upd H5 D (.dK (putK kvs k z))) else Nx H3) := by
  have below : ∀ {H1 H2 : Hp} {o : HO}, Same H H1 → Same H1 H2 → Same H (upd H2 D o) := fun {H1 H2 o} a b c u e => by
    rw [upd_ne (ne_of_none e hD)]
    exact b _ _ (a _ _ e)
  refine ⟨fun i m H' => m = n - i ∧ i ≤ n ∧ Same H H' ∧ ∃ kvs, H' D = some (.dK kvs) ∧ Ent (Rv H') kvs ((ss.take i).filter keep), ⟨n, by simp, Nat.zero_le _, Same.up hD, [], upd_same, by rw [List.take_zero]; exact .nil⟩, ?_⟩
  rintro i m H1 ⟨rfl, hi, s1, kvs, hd, he⟩
  by_cases lt : i < n
  · refine .inr ⟨w.goes i H1 lt (hG _ s1), fun H' => i + 1 ≤ n ∧ Same H H' ∧ ∃ kvs, H' D = some (.dK kvs) ∧ Ent (Rv H') kvs ((ss.take (i + 1)).filter keep), fun H' p => ⟨n - (i + 1), by omega, rfl, p⟩, fun x H2 y => ?_⟩
    obtain ⟨rfl, hx⟩ := hy _ _ _ _ (w.yields i H1 x H2 lt (hG _ s1) y)
    refine ⟨?_, ?_⟩
    · show ((σ.set j none).set j (some x)).set j none = σ.set j none
      rw [List.set_set, List.set_set]
    · have hi' : i < ss.length := by omega
      have et : (ss.take (i + 1)).filter keep = (ss.take i).filter keep ++ (if keep ss[i] = true then [ss[i]] else []) := by
        rw [List.take_add_one, List.getElem?_eq_getElem hi', List.filter_append]
        congr 1
        show List.filter keep [ss[i]] = _
        rw [List.filter_cons]
        rfl
      refine turn i x ss[i] H2 _ _ lt hx (List.getElem?_eq_getElem hi') s1 (fun kp H3 z s3 rv => ?_) fun kp H3 s3 => ?_
      · have hl : kvs.length ≤ i := by
          have h1 := he.len
          have h2 := List.length_filter_le keep (ss.take i)
          rw [List.length_take] at h2
          omega
        have nm : ss[i] ∉ (ss.take i).filter keep := fun q => by
          obtain ⟨a, ha, e⟩ := List.mem_take_iff_getElem.mp (List.mem_filter.mp q).1
          exact (List.pairwise_iff_getElem.mp nd) a i (by omega) hi' (by omega) e
        refine ⟨kvs, Sum.inr ss[i], rfl, s3 _ _ hd, by omega, lt, below s1 s3, _, upd_same, ?_⟩
        rw [et, if_pos kp]
        have r1 : Ent (Rv (upd H3 D (.dK (putK kvs (Sum.inr ss[i]) z)))) kvs ((ss.take i).filter keep) := he.imp fun s v r => lay _ _ _ _ _ (s3 _ _ hd) (mono _ _ _ _ s3 r)
        exact r1.put nm (lay _ _ _ _ _ (s3 _ _ hd) rv)
      · refine ⟨lt, s1.trans s3, kvs, s3 _ _ hd, ?_⟩
        rw [et, if_neg (by rw [kp]; exact Bool.false_ne_true), List.append_nil]
        exact he.imp fun s v r => mono _ _ _ _ s3 r
  · obtain rfl : i = n := by omega
    refine .inl ⟨w.stops H1 (hG _ s1), fin H1 kvs s1 hd ?_⟩
    rwa [← hn, List.take_length] at he
/-- a dict comprehension over texts, some of them kept; the new dict is there -/
theorem dc_textsD {J : It} {n : Nat} {G : Hp → Prop} {Y : Nat → Hp → V → Hp → Prop} {At : Nat → V → Prop} (w : Walk J n G Y) (hy : ∀ i H x H', Y i H x H' → H' = H ∧ At i x) {tt : TT} {tk tv : TE} {j : Nat} {σ : L2.St} {H : Hp} {D : Addr} {Qd : Hp → Prop}
    (ss : List Str) (keep : Str → Bool) (hn : ss.length = n) (nd : ss.Nodup) (hz : n < sizeLine) (hD : H D = none) (hG : ∀ H', Same H H' → G H') (Rv : Hp → Str → V → Prop) (mono : ∀ H1 H2 s v, Same H1 H2 → Rv H1 s v → Rv H2 s v)
    (lay : ∀ H1 s v c c', H1 D = some (.dK c) → Rv H1 s v → Rv (upd H1 D (.dK c')) s v)
    (turn : ∀ (i : Nat) (x : V) (s : Str) (H1 : Hp) (R : V → V → Hp → Prop) (B : Hp → Prop), i < n → At i x → ss[i]? = some s → Same H H1 → H1 D ≠ none → (keep s = true → ∀ H2 z, Same H1 H2 → Rv H2 s z → R (.str s) z H2) → (keep s = false → ∀ H2, Same H1 H2 → B H2) →
      tt ((σ.set j none).set j (some x)) H1 fun b H3 => if b = true then tk ((σ.set j none).set j (some x)) H3 fun y H2 => tv ((σ.set j none).set j (some x)) H2 fun z H3 => R y z H3 else B H3)
    (fin : ∀ H' kvs, Same H H' → H' D = some (.dK kvs) → Ent (Rv H') kvs (ss.filter keep) → Qd H') :
    ∃ W : Nat → Nat → Hp → Prop, (∃ m, W 0 m (upd H D (.dK []))) ∧ ∀ i m H, W i m H →
      (J.stop i H ∧ Qd H) ∨ (J.go i H ∧ ∃ Nx : Hp → Prop, (∀ H', Nx H' → ∃ m', m' < m ∧ W (i + 1) m' H') ∧ ∀ x H', J.yld i H x H' → (gName j) x (wipe σ [j]) H' fun σ2 H2 => wipe σ2 [j] = wipe σ [j] ∧ tt σ2 H2 fun b H3 =>
        if b = true then tk σ2 H3 fun y H4 => tv σ2 H4 fun z H5 => ∃ kvs k, y = kV k ∧ H5 D = some (.dK kvs) ∧ kvs.length < sizeLine ∧ Nx (upd H5 D (.dK (putK kvs k z))) else Nx H3) := by
  have below : ∀ {H1 H2 : Hp} {o : HO}, Same H H1 → Same H1 H2 → Same H (upd H2 D o) := fun {H1 H2 o} a b c u e => by
    rw [upd_ne (ne_of_none e hD)]
    exact b _ _ (a _ _ e)
  refine ⟨fun i m H' => m = n - i ∧ i ≤ n ∧ Same H H' ∧ ∃ kvs, H' D = some (.dK kvs) ∧ Ent (Rv H') kvs ((ss.take i).filter keep), ⟨n, by simp, Nat.zero_le _, Same.up hD, [], upd_same, by rw [List.take_zero]; exact .nil⟩, ?_⟩
  rintro i m H1 ⟨rfl, hi, s1, kvs, hd, he⟩
  by_cases lt : i < n
  · refine .inr ⟨w.goes i H1 lt (hG _ s1), fun H' => i + 1 ≤ n ∧ Same H H' ∧ ∃ kvs, H' D = some (.dK kvs) ∧ Ent (Rv H') kvs ((ss.take (i + 1)).filter keep), fun H' p => ⟨n - (i + 1), by omega, rfl, p⟩, fun x H2 y => ?_⟩
    obtain ⟨rfl, hx⟩ := hy _ _ _ _ (w.yields i H1 x H2 lt (hG _ s1) y)
    refine ⟨?_, ?_⟩
    · show ((σ.set j none).set j (some x)).set j none = σ.set j none
      rw [List.set_set, List.set_set]
    · have hi' : i < ss.length := by omega
      have et : (ss.take (i + 1)).filter keep = (ss.take i).filter keep ++ (if keep ss[i] = true then [ss[i]] else []) := by
        rw [List.take_add_one, List.getElem?_eq_getElem hi', List.filter_append]
        congr 1
        show List.filter keep [ss[i]] = _
        rw [List.filter_cons]
        rfl
      refine turn i x ss[i] H2 _ _ lt hx (List.getElem?_eq_getElem hi') s1 (by rw [hd]; simp) (fun kp H3 z s3 rv => ?_) fun kp H3 s3 => ?_
      · have hl : kvs.length ≤ i := by
          have h1 := he.len
          have h2 := List.length_filter_le keep (ss.take i)
          rw [List.length_take] at h2
          omega
        have nm : ss[i] ∉ (ss.take i).filter keep := fun q => by
          obtain ⟨a, ha, e⟩ := List.mem_take_iff_getElem.mp (List.mem_filter.mp q).1
          exact (List.pairwise_iff_getElem.mp nd) a i (by omega) hi' (by omega) e
        refine ⟨kvs, Sum.inr ss[i], rfl, s3 _ _ hd, by omega, lt, below s1 s3, _, upd_same, ?_⟩
        rw [et, if_pos kp]
        have r1 : Ent (Rv (upd H3 D (.dK (putK kvs (Sum.inr ss[i]) z)))) kvs ((ss.take i).filter keep) := he.imp fun s v r => lay _ _ _ _ _ (s3 _ _ hd) (mono _ _ _ _ s3 r)
        exact r1.put nm (lay _ _ _ _ _ (s3 _ _ hd) rv)
      · refine ⟨lt, s1.trans s3, kvs, s3 _ _ hd, ?_⟩
        rw [et, if_neg (by rw [kp]; exact Bool.false_ne_true), List.append_nil]
        exact he.imp fun s v r => mono _ _ _ _ s3 r
  · obtain rfl : i = n := by omega
    refine .inl ⟨w.stops H1 (hG _ s1), fin H1 kvs s1 hd ?_⟩
    rwa [← hn, List.take_length] at he
/-- a dict comprehension over texts, some of them kept; the values new and apart -/
theorem dc_textsN {J : It} {n : Nat} {G : Hp → Prop} {Y : Nat → Hp → V → Hp → Prop} {At : Nat → V → Prop} (w : Walk J n G Y) (hy : ∀ i H x H', Y i H x H' → H' = H ∧ At i x) {tt : TT} {tk tv : TE} {j : Nat} {σ : L2.St} {H : Hp} {D : Addr} {Qd : Hp → Prop}
    (ss : List Str) (keep : Str → Bool) (hn : ss.length = n) (nd : ss.Nodup) (hz : n < sizeLine) (hD : H D = none) (hG : ∀ H', Same H H' → G H') (Rv : Hp → Str → V → Prop) (mono : ∀ H1 H2 s v, Same H1 H2 → Rv H1 s v → Rv H2 s v)
    (fr : ∀ H s v, Rv H s v → ∃ d, v = V.ref d ∧ H d ≠ none)
    (lay : ∀ H1 s v c c', H1 D = some (.dK c) → Rv H1 s v → Rv (upd H1 D (.dK c')) s v)
    (turn : ∀ (i : Nat) (x : V) (s : Str) (H1 : Hp) (R : V → V → Hp → Prop) (B : Hp → Prop), i < n → At i x → ss[i]? = some s → Same H H1 → H1 D ≠ none → (keep s = true → ∀ H2 z, Same H1 H2 → Rv H2 s z → (∃ d, z = V.ref d ∧ H1 d = none) → R (.str s) z H2) → (keep s = false → ∀ H2, Same H1 H2 → B H2) →
      tt ((σ.set j none).set j (some x)) H1 fun b H3 => if b = true then tk ((σ.set j none).set j (some x)) H3 fun y H2 => tv ((σ.set j none).set j (some x)) H2 fun z H3 => R y z H3 else B H3)
    (fin : ∀ H' kvs, Same H H' → H' D = some (.dK kvs) → Ent (Rv H') kvs (ss.filter keep) → (kvs.map (·.2)).Nodup → Qd H') :
    ∃ W : Nat → Nat → Hp → Prop, (∃ m, W 0 m (upd H D (.dK []))) ∧ ∀ i m H, W i m H →
      (J.stop i H ∧ Qd H) ∨ (J.go i H ∧ ∃ Nx : Hp → Prop, (∀ H', Nx H' → ∃ m', m' < m ∧ W (i + 1) m' H') ∧ ∀ x H', J.yld i H x H' → (gName j) x (wipe σ [j]) H' fun σ2 H2 => wipe σ2 [j] = wipe σ [j] ∧ tt σ2 H2 fun b H3 =>
        if b = true then tk σ2 H3 fun y H4 => tv σ2 H4 fun z H5 => ∃ kvs k, y = kV k ∧ H5 D = some (.dK kvs) ∧ kvs.length < sizeLine ∧ Nx (upd H5 D (.dK (putK kvs k z))) else Nx H3) := by
  have below : ∀ {H1 H2 : Hp} {o : HO}, Same H H1 → Same H1 H2 → Same H (upd H2 D o) := fun {H1 H2 o} a b c u e => by
    rw [upd_ne (ne_of_none e hD)]
    exact b _ _ (a _ _ e)
  refine ⟨fun i m H' => m = n - i ∧ i ≤ n ∧ Same H H' ∧ ∃ kvs, H' D = some (.dK kvs) ∧ Ent (Rv H') kvs ((ss.take i).filter keep) ∧ (kvs.map (·.2)).Nodup, ⟨n, by simp, Nat.zero_le _, Same.up hD, [], upd_same, by rw [List.take_zero]; exact .nil, List.nodup_nil⟩, ?_⟩
  rintro i m H1 ⟨rfl, hi, s1, kvs, hd, he, nv⟩
  by_cases lt : i < n
  · refine .inr ⟨w.goes i H1 lt (hG _ s1), fun H' => i + 1 ≤ n ∧ Same H H' ∧ ∃ kvs, H' D = some (.dK kvs) ∧ Ent (Rv H') kvs ((ss.take (i + 1)).filter keep) ∧ (kvs.map (·.2)).Nodup, fun H' p => ⟨n - (i + 1), by omega, rfl, p⟩, fun x H2 y => ?_⟩
    obtain ⟨rfl, hx⟩ := hy _ _ _ _ (w.yields i H1 x H2 lt (hG _ s1) y)
    refine ⟨?_, ?_⟩
    · show ((σ.set j none).set j (some x)).set j none = σ.set j none
      rw [List.set_set, List.set_set]
    · have hi' : i < ss.length := by omega
      have et : (ss.take (i + 1)).filter keep = (ss.take i).filter keep ++ (if keep ss[i] = true then [ss[i]] else []) := by
        rw [List.take_add_one, List.getElem?_eq_getElem hi', List.filter_append]
        congr 1
        show List.filter keep [ss[i]] = _
        rw [List.filter_cons]
        rfl
      refine turn i x ss[i] H2 _ _ lt hx (List.getElem?_eq_getElem hi') s1 (by rw [hd]; simp) (fun kp H3 z s3 rv nz => ?_) fun kp H3 s3 => ?_
      · have hl : kvs.length ≤ i := by
          have h1 := he.len
          have h2 := List.length_filter_le keep (ss.take i)
          rw [List.length_take] at h2
          omega
        have nm : ss[i] ∉ (ss.take i).filter keep := fun q => by
          obtain ⟨a, ha, e⟩ := List.mem_take_iff_getElem.mp (List.mem_filter.mp q).1
          exact (List.pairwise_iff_getElem.mp nd) a i (by omega) hi' (by omega) e
        refine ⟨kvs, Sum.inr ss[i], rfl, s3 _ _ hd, by omega, lt, below s1 s3, _, upd_same, ?_, ?_⟩
        rotate_left
        · rw [putK_new (by rw [he.keys]; intro q; obtain ⟨y, my, ey⟩ := List.mem_map.mp q; exact nm (by rw [← Sum.inr.inj ey]; exact my)), List.map_append]
          refine List.nodup_append.mpr ⟨nv, List.nodup_cons.mpr ⟨List.not_mem_nil, List.nodup_nil⟩, fun x mx y my e => ?_⟩
          obtain rfl := List.mem_singleton.mp my
          obtain ⟨kv, mk, rfl⟩ := List.mem_map.mp mx
          obtain ⟨a, ha⟩ := List.mem_iff_getElem?.mp mk
          obtain ⟨s', hs'⟩ : ∃ s', ((ss.take i).filter keep)[a]? = some s' := by
            have l1 := (List.getElem?_eq_some_iff.mp ha).1
            have l2 := he.len
            exact ⟨((ss.take i).filter keep)[a]'(by omega), List.getElem?_eq_getElem (by omega)⟩
          obtain ⟨d, e1, e2⟩ := fr _ _ _ (Paired.at2 he ha hs').2
          obtain ⟨d', e3, e4⟩ := nz
          have : d = d' := V.ref.inj (e1.symm.trans (e.trans e3))
          rw [this] at e2
          exact e2 e4
        rw [et, if_pos kp]
        have r1 : Ent (Rv (upd H3 D (.dK (putK kvs (Sum.inr ss[i]) z)))) kvs ((ss.take i).filter keep) := he.imp fun s v r => lay _ _ _ _ _ (s3 _ _ hd) (mono _ _ _ _ s3 r)
        exact r1.put nm (lay _ _ _ _ _ (s3 _ _ hd) rv)
      · refine ⟨lt, s1.trans s3, kvs, s3 _ _ hd, ?_, nv⟩
        rw [et, if_neg (by rw [kp]; exact Bool.false_ne_true), List.append_nil]
        exact he.imp fun s v r => mono _ _ _ _ s3 r
  · obtain rfl : i = n := by omega
    refine .inl ⟨w.stops H1 (hG _ s1), fin H1 kvs s1 hd ?_ nv⟩
    rwa [← hn, List.take_length] at he
end Sr

set_option Elab.async false
set_option linter.all false
set_option maxRecDepth 100000
set_option maxHeartbeats 4000000
namespace Sr
open PySem PySem.Spec PyProof.Rows L2
section
variable {X : Cx}
/-- name = {k: v for ..} on one line, the name a local -/
theorem ps_setDc {i : Nat} {y : Str} {py spos : Pos} {kx vx tg iter : Expr} {ifs : List Expr} {scope : Scope} {own : List (Str × Nat)} {pos : Pos} {wi : TI} {g : TG} {tt : TT} {tk tv : TE} (hc : X.calm = true) (hN : X.N.Nodup) (hy : X.N[i]? = some y) (hyl : X.env.scope.names.lookup y = some .local)
    (hsw : swapsWith (.DictComp kx vx [⟨tg, iter, ifs, 0⟩] scope pos) (some (.Name y py)) spos.line X.env = pure true) (hi : PI X tg iter wi) (ok : BlkOk X.N X.env.scope scope own)
    (hg : ∀ (s : Shared) (H : Hp) (C : Addr) (cl : List (Str × Addr)) (fp : List Addr), PG (X.blk s H scope (compEnvC scope cl C X.env) fp) tg g) (ht : ∀ (s : Shared) (H : Hp) (C : Addr) (cl : List (Str × Addr)) (fp : List Addr), PTs (X.blk s H scope (compEnvC scope cl C X.env) fp) ifs tt)
    (hk : ∀ (s : Shared) (H : Hp) (C : Addr) (cl : List (Str × Addr)) (fp : List Addr), PE (X.blk s H scope (compEnvC scope cl C X.env) fp) kx tk)
    (he : ∀ (s : Shared) (H : Hp) (C : Addr) (cl : List (Str × Addr)) (fp : List Addr), PE (X.blk s H scope (compEnvC scope cl C X.env) fp) vx tv) (hs : ∀ x, foldedSetIterable iter X.env x = pure x := by intro _; rfl) :
    PS X (.Assign [.Name y py] (.DictComp kx vx [⟨tg, iter, ifs, 0⟩] scope pos) spos) (tAsg (tDc wi g tt tk tv (own.map (·.2))) (gName i)) := by
  refine ⟨fun pins s σ H D I h => ?_⟩
  rw [exec_Assign_Name_used _ _ _ _ hsw]
  refine wpAny_bind (wpAny_standAt (wpAny_bind ?_))
  show wpAny _ X.A (do let _ ← comprehension (.DictComp kx vx [⟨tg, iter, ifs, 0⟩] scope pos) scope X.env (firstIterPos [⟨tg, iter, ifs, 0⟩] pos) newDict false (eval iter X.env) (some (assign (.Name y py) X.env))) _ _ s
  have h : tDc wi g tt tk tv (own.map (·.2)) σ H (fun x H1 => gName i x σ H1 D.nx) := h
  refine wpAny_bind (thn (dc_core (Qf := fun _ s' => SP X pins D .next s') hc hN I hi ok hg ht hk he hs h fun L C s' m H' I' q hn f => ?_) fun _ s' hq => wpAny_pure (wpAny_pure hq))
  show wpAny _ _ (assign (.Name y py) X.env (.ref L)) _ _ _
  refine wpAny_assign_Name (store_ok2 (v := V.ref L) I' hN hy (.inl hyl) rfl (fun s2 I2 ⟨a, sb, ha⟩ => ?_) (.inr hyl))
  obtain ⟨f0, f1, f2, f3, f4, f5⟩ := f
  have haC : C ≠ a := by
    rcases ha with z | z
    · rw [z]; exact f1
    · exact fun e => f4 y a z e.symm
  refine ⟨m, hn.sameBut sb haC, fun h3 sb3 => ?_⟩
  exact ⟨_, H', I2.turned (t' := s2.toks) (fun b o hb e => (sb3.2 b hb).trans e) f0 f1 f3 f4 f5, q⟩
theorem sw_dict2 {kx vx : Expr} {gs : List Comprehension} {scope : Scope} {pos py : Pos} {y : Str} {l : Nat} {env : Env} (hk : env.scope.kind = .function) (hy : env.scope.names.lookup y = some .local) (hl : (py.line == pos.line) = true)
    (ha : (scope.names.any fun (n, k) => n == y && (k == .local || k == .cell)) = false) : swapsWith (.DictComp kx vx gs scope pos) (some (.Name y py)) l env = pure true := by
  have ky : env.kindOf y = some .local := hy
  have hb : env.blockKind = .function := by unfold Env.blockKind; rw [hk]; rfl
  unfold swapsWith
  simp only [hb, ky, ha, Expr.pos, hl]
  rfl
end
end Sr

set_option Elab.async false
set_option linter.all false
set_option maxRecDepth 100000
set_option maxHeartbeats 4000000
namespace K31
open PySem PySem.Spec PyProof.Rows L2 Sr
/-! ### what is new in a heap -/
theorem free_below {H H' : Hp} (s : Same H H') {l : Addr} (h : H' l = none) : H l = none := by
  cases e : H l with
  | none => rfl
  | some o => rw [s _ _ e] at h; cases h
def newH (H H' : Hp) : Hp := fun b => match H b with
  | none => H' b
  | some _ => none
theorem new_at {H H' : Hp} {b : Addr} (h : H b = none) : newH H H' b = H' b := by unfold newH; rw [h]
theorem new_no {H H' : Hp} {b : Addr} {o : HO} (h : newH H H' b = some o) : H b = none := by
  unfold newH at h
  cases e : H b with
  | none => rfl
  | some o => rw [e] at h; cases h
theorem new_same {H H' : Hp} : Same (newH H H') H' := fun b o h => (new_at (new_no h)).symm.trans h
theorem new_mono {H H' H'' : Hp} (s : Same H' H'') : Same (newH H H') (newH H H'') := fun b o h => by
  have n := new_no h
  rw [new_at n] at h ⊢
  exact s _ _ h
/-! ### what is told of holdings: members and things ascending, what is above 0 -/
def CanRow (row0 row : Rw) : Prop := ∃ zs : List Str, zs.Perm (row0.map (·.1)) ∧ PyProof.Rows.sortedS zs = true ∧ row = (zs.filter fun t => decide (0 < gC row0 t)).map fun t => (t, gC row0 t)
def canZ (ys : List Str) (rows : List Rw) : Hs := (ys.zip rows).filter fun p => !p.2.isEmpty
def Can (hs0 hs : Hs) : Prop := ∃ (ys : List Str) (rows : List Rw), ys.Perm (hs0.map (·.1)) ∧ PyProof.Rows.sortedS ys = true ∧ Paired (fun y r => CanRow (gR hs0 y) r) ys rows ∧ hs = canZ ys rows
theorem canRow_one {r0 r r' : Rw} (a : CanRow r0 r) (b : CanRow r0 r') : r = r' := by
  obtain ⟨zs, p, s, rfl⟩ := a
  obtain ⟨zs', p', s', rfl⟩ := b
  rw [sorted_one p p' s s']
theorem canRows_one {F : Str → Rw} : ∀ {ys : List Str} {rs rs' : List Rw}, Paired (fun y r => CanRow (F y) r) ys rs → Paired (fun y r => CanRow (F y) r) ys rs' → rs = rs'
  | _, _, _, .nil, .nil => rfl
  | _, _, _, .cons a r, .cons b s => by rw [canRow_one a b, canRows_one r s]
theorem can_one {h0 h h' : Hs} (a : Can h0 h) (b : Can h0 h') : h = h' := by
  obtain ⟨ys, rs, p, s, r, rfl⟩ := a
  obtain ⟨ys', rs', p', s', r', rfl⟩ := b
  obtain rfl := sorted_one p p' s s'
  rw [canRows_one r r']
theorem CoinsC.get {kr : List (Key × V)} {row : Rw} (h : CoinsC kr row) {z : Str} (m : z ∈ row.map (·.1)) : valV kr (Sum.inr z) = some (.int (gC row z)) := by
  rw [h.val]
  obtain ⟨p, mp, rfl⟩ := List.mem_map.mp m
  unfold gC
  cases e : row.lookup p.1 with
  | some i => rfl
  | none => exact absurd (List.lookup_eq_none_iff.mp e p mp) (by simp)
theorem HldR.get {H : Hp} {kv : List (Key × V)} {hs : Hs} (h : HldR H kv hs) (g : goodH hs) {y : Str} (m : y ∈ hs.map (·.1)) : ∃ d kr, valV kv (Sum.inr y) = some (.ref d) ∧ H d = some (.dK kr) ∧ CoinsC kr (gR hs y) ∧ goodR (gR hs y) := by
  have nd := keys_nd (F := fun v (r : Rw) => ∃ d kr, v = .ref d ∧ H d = some (.dK kr) ∧ CoinsC kr r) h g.1
  obtain ⟨p, mp, rfl⟩ := List.mem_map.mp m
  obtain ⟨i, hi⟩ := List.mem_iff_getElem?.mp mp
  obtain ⟨kp, hk⟩ : ∃ kp, kv[i]? = some kp := by
    have h1 := (List.getElem?_eq_some_iff.mp hi).1
    have h2 := Paired.length h
    exact ⟨kv[i]'(by omega), List.getElem?_eq_getElem (by omega)⟩
  obtain ⟨e, d, kr, ev, hd, cc⟩ := Paired.at2 h hk hi
  have eg : gR hs p.1 = p.2 := by
    unfold gR
    cases el : hs.lookup p.1 with
    | none => exact absurd (List.lookup_eq_none_iff.mp el p mp) (by simp)
    | some r =>
      have m2 := look_mem el
      have : (p.1, r) = p := by
        obtain ⟨j, hj⟩ := List.mem_iff_getElem?.mp m2
        have lj := (List.getElem?_eq_some_iff.mp hj).1
        have e1 : (hs.map (·.1))[j]? = some p.1 := by rw [List.getElem?_map, hj]; rfl
        have e2 : (hs.map (·.1))[i]? = some p.1 := by rw [List.getElem?_map, hi]; rfl
        have : j = i := (List.getElem?_inj (by rw [List.length_map]; exact lj) g.1).mp (e1.trans e2.symm)
        rw [this, hi] at hj
        exact (Option.some.inj hj).symm
      show r = p.2
      rw [← this]
  refine ⟨d, kr, ?_, hd, by rw [eg]; exact cc, by rw [eg]; exact (g.2.2 p mp).2⟩
  have := val_nodup nd _ (List.mem_of_getElem? hk)
  rw [e, ev] at this
  exact this
theorem canZ_snoc {ys : List Str} {rs : List Rw} (h : ys.length = rs.length) (y : Str) (r : Rw) : canZ (ys ++ [y]) (rs ++ [r]) = canZ ys rs ++ (if r.isEmpty = true then [] else [(y, r)]) := by
  unfold canZ
  rw [List.zip_append h, List.filter_append]
  congr 1
  show List.filter _ [(y, r)] = _
  rw [List.filter_cons]
  cases r.isEmpty <;> rfl
def TkR (H0 : Hp) (p : Addr) (H : Hp) (tk : List (Key × V)) (hs : Hs) : Prop := Paired (fun (kv : Key × V) (q : Str × Rw) => kv.1 = Sum.inr q.1 ∧ ∃ d kr, kv.2 = .ref d ∧ d ≠ p ∧ H0 d = none ∧ H d = some (.dK kr) ∧ CoinsC kr q.2) tk hs
theorem TkR.mono {H0 H H' : Hp} {p : Addr} (s : Same H H') {tk : List (Key × V)} {hs : Hs} (h : TkR H0 p H tk hs) : TkR H0 p H' tk hs := L2.Paired.mapP h fun _ _ ⟨e, d, kr, a, b, c, x, y⟩ => ⟨e, d, kr, a, b, c, s _ _ x, y⟩
theorem TkR.put {H0 H : Hp} {p : Addr} {o : HO} {tk : List (Key × V)} {hs : Hs} (h : TkR H0 p H tk hs) : TkR H0 p (upd H p o) tk hs := L2.Paired.mapP h fun _ _ ⟨e, d, kr, a, b, c, x, y⟩ => ⟨e, d, kr, a, b, c, by rw [upd_ne b]; exact x, y⟩
theorem TkR.snoc {H0 H : Hp} {p d : Addr} {tk : List (Key × V)} {hs : Hs} (h : TkR H0 p H tk hs) {y : Str} {kr : List (Key × V)} {row : Rw} (n : d ≠ p) (f : H0 d = none) (hd : H d = some (.dK kr)) (cc : CoinsC kr row) : TkR H0 p H (tk ++ [(Sum.inr y, .ref d)]) (hs ++ [(y, row)]) :=
  Sr.Paired.snoc (F := fun (kv : Key × V) (q : Str × Rw) => kv.1 = Sum.inr q.1 ∧ ∃ d kr, kv.2 = .ref d ∧ d ≠ p ∧ H0 d = none ∧ H d = some (.dK kr) ∧ CoinsC kr q.2) ⟨rfl, d, kr, rfl, n, f, hd, cc⟩ h
theorem TkR.new {H0 H : Hp} {p : Addr} {tk : List (Key × V)} {hs : Hs} (h : TkR H0 p H tk hs) : HldR (newH H0 H) tk hs := L2.Paired.mapP h fun _ _ ⟨e, d, kr, a, b, c, x, y⟩ => ⟨e, d, kr, a, (new_at c).trans x, y⟩
theorem pmap {α β γ : Type} {F : α → β → Prop} {G : α → γ → Prop} {f : β → γ} (k : ∀ a b, F a b → G a (f b)) : ∀ {l : List α} {m : List β}, Paired F l m → Paired G l (m.map f)
  | _, _, .nil => .nil
  | _, _, .cons h t => .cons (k _ _ h) (pmap k t)
theorem tk_keys {H0 H : Hp} {p : Addr} : ∀ {tk : List (Key × V)} {hs : Hs}, TkR H0 p H tk hs → tk.map (·.1) = hs.map fun q => (Sum.inr q.1 : Key)
  | _, _, .nil => rfl
  | _, _, .cons h r => by rw [List.map_cons, List.map_cons, h.1, tk_keys r]
def spToldH : Sp := fun vs H Q _ => ∃ a kv hs, vs = [.ref a] ∧ H a = some (.dK kv) ∧ HldR H kv hs ∧ goodH hs ∧ ∀ H' p tk hs', Same H H' → H p = none → H' p = some (.dK tk) → HldR (newH H H') tk hs' → Can hs hs' → Q (.ref p) H'
section
variable {P : Program} {w : World} {K : PySem.W.Frag} {mg : Str → Option Value} {base : Heap}
abbrev s__told_holdings : Stmt := top 19
theorem sc__told_holdings : FnScope ["holdings", "told", "member", "held", "left", "thing"] ["holdings"] (defScope s__told_holdings) := ⟨rfl, rfl, rfl, by decide +kernel, rfl, by decide +kernel, by decide +kernel⟩
theorem c__told_holdings (T : Txt K mg) (D : Dfn K mg "_told_holdings" s__told_holdings) : Cal P w K mg base 1 "_told_holdings" ["holdings"] spToldH := by
  refine D.cal sc__told_holdings (fun _ _ _ _ _ _ us hl => match us, hl with | [_], _ => rfl) (fun vs H Q E h => ?_) fun cdv A outer s H vs Q E hr h => ?_
  · obtain ⟨a, kv, hs, rfl, _⟩ := h
    rfl
  obtain ⟨a, kv, hs, rfl, ha, hh, g, q⟩ := h
  refine ⟨_, (pss_cons (ps_set (i := 1) sc__told_holdings.nd rfl (by first | exact Or.inl rfl | exact Or.inr rfl) pe_dnewK)
      (pss_cons (ps_for PassesOwn.never rfl (pi_list (pe_callB (id := "sorted") (call_sortedD rfl) (by rfl) T.sorted (by decide +kernel) (pa_cons (pv 0) pa_nil))) (pg_name (i := 2) sc__told_holdings.nd rfl (by first | exact Or.inl rfl | exact Or.inr rfl))
      (pss_cons (ps_set (i := 3) sc__told_holdings.nd rfl (by first | exact Or.inl rfl | exact Or.inr rfl) (pe_dget (hu_of hr) (pv 0) (pv 2) (fun _ _ => rfl)))
      (pss_cons (ps_setDc (i := 4) (own := [("thing", 5)]) (g := gName 5) rfl sc__told_holdings.nd rfl rfl (sw_dict2 rfl rfl rfl rfl) (pi_list (pe_callB (id := "sorted") (call_sortedD rfl) (by rfl) T.sorted (by decide +kernel) (pa_cons (pv 3) pa_nil))) (blkOk_by (N := ["holdings", "told", "member", "held", "left", "thing"]) (sc := defScope s__told_holdings) (by decide +kernel)) (fun _ _ _ _ _ => (pg_name (i := 5) sc__told_holdings.nd rfl (by first | exact Or.inl rfl | exact Or.inr rfl))) (fun _ _ _ _ _ => (pts_one (pt_cmpR op_gt (pe_dget (hu_of hr) (pv 3) (pv 5) (fun _ _ => rfl)) pe_int (nomark _)))) (fun _ _ _ _ _ => (pv 5)) (fun _ _ _ _ _ => (pe_dget (hu_of hr) (pv 3) (pv 5) (fun _ _ => rfl))))
      (pss_one (ps_if (pt_truth (pv 4) (fun _ => rfl)) (pss_one (ps_dput (hu_of hr) (pv 1) (pv 2) (pv 4) rfl)) pss_nil)))))
      (pss_one (ps_ret (pv 1))))), ?_⟩
  have ek := (keys_names (F := fun v (r : Rw) => ∃ d kr, v = .ref d ∧ H d = some (.dK kr) ∧ CoinsC kr r) hh).2
  have lk : kv.length = hs.length := Paired.length hh
  refine fun p hp => ?_
  have s0 := Same.up (H := H) (o := .dK []) hp
  have p0 : (upd H p (.dK [])) p = some (.dK []) := upd_same
  try dsimp only
  refine ⟨_, rfl, a, kv, hs.map (·.1), rfl, .inl (s0 _ _ ha), ?_, by rw [List.length_map]; have := g.2.1; omega, fun ys kl pm so hkl => ?_⟩
  · rw [ek, List.map_map]
    rfl
  have lys : ys.length ≤ 6 := by rw [pm.length_eq, List.length_map]; exact g.2.1
  have nkp : kl ≠ p := fun z => by rw [z, p0] at hkl; cases hkl
  have H0kl : H kl = none := free_below s0 hkl
  refine ⟨kl, rfl, ⟨_, SqL.of upd_same⟩, for_it walk_list (fun i σ H' => (∃ v2 v3 v4 v5, σ = [some (.ref a), some (.ref p), v2, v3, v4, v5]) ∧ Same H H' ∧ H' kl = some (.lst (ys.map V.str)) ∧ ∃ tk rows, H' p = some (.dK tk) ∧ Paired (fun y r => CanRow (gR hs y) r) (ys.take i) rows ∧ TkR H p H' tk (canZ (ys.take i) rows)) ⟨⟨_, _, _, _, rfl⟩, s0.trans (Same.up hkl), upd_same, [], [], by rw [upd_ne nkp.symm]; exact p0, .nil, .nil⟩ (fun i σ H' _ pp => SqL.of pp.2.2.1) ?_ ?_⟩
  · rintro i u σ H1 H2 hi ⟨⟨v2, v3, v4, v5, rfl⟩, s1, hkl1, tk, rows, hp1, cr, tr⟩ ⟨rfl, hu⟩
    rw [List.length_map] at hi
    rw [List.getElem?_map] at hu
    obtain ⟨y, hy, rfl⟩ := Option.map_eq_some_iff.mp hu
    have my : y ∈ hs.map (·.1) := pm.mem_iff.mp (List.mem_of_getElem? hy)
    obtain ⟨d, kr, ev, hd, cc, gr⟩ := hh.get g my
    have ekr := (keys_names (F := fun v i => v = V.int i) cc).2
    dsimp only [gName]
    refine ⟨_, rfl, _, rfl, a, .ref d, rfl, .inl ⟨kv, Sum.inr y, .inl (s1 _ _ ha), rfl, ev.symm⟩, ?_⟩
    try dsimp only
    have hd1 := s1 _ _ hd
    have lkr : kr.length ≤ 6 := by rw [Paired.length cc]; exact gr.2.1
    refine ⟨_, rfl, d, kr, (gR hs y).map (·.1), rfl, .inl hd1, ?_, by rw [List.length_map]; have := gr.2.1; omega, fun zs k2 pm2 so2 hk2 => ?_⟩
    · rw [ekr, List.map_map]
      rfl
    have s2 := Same.up (o := .lst (zs.map V.str)) hk2
    have nz : zs.Nodup := pm2.nodup_iff.mpr gr.1
    have lz : zs.length ≤ 6 := by rw [pm2.length_eq, List.length_map]; exact gr.2.1
    refine ⟨k2, rfl, ⟨_, SqL.of upd_same⟩, fun D hD => dc_textsF walk_list (At := fun i x => (zs.map V.str)[i]? = some x) (fun _ _ _ _ y => y) zs (fun t => decide (0 < gC (gR hs y) t)) (by rw [List.length_map]) nz (sz (m := 60) (by rw [List.length_map]; omega)) hD (fun H' s' => SqL.of (s' _ _ upd_same)) (fun _ t v => v = .int (gC (gR hs y) t)) (fun _ _ _ _ _ h => h) (fun _ _ _ _ _ _ h => h)
      (fun j u z H3 R B lt hu hz s3 kR kB => ?_) (fun H3 kvs s3 h3 en => ?_)⟩
    · rw [List.getElem?_map, hz] at hu
      obtain rfl : V.str z = u := Option.some.inj hu
      have mz : z ∈ (gR hs y).map (·.1) := pm2.mem_iff.mp (List.mem_of_getElem? hz)
      have vz := cc.get mz
      have hd3 := s3 _ _ (s2 _ _ hd1)
      refine ⟨_, rfl, _, rfl, d, _, rfl, .inl ⟨kr, Sum.inr z, .inl hd3, rfl, vz.symm⟩, _, _, rfl, rfl, _, rfl, ?_⟩
      dsimp only at kR kB ⊢
      by_cases c : 0 < gC (gR hs y) z
      · rw [decide_eq_true c] at kR ⊢
        exact iteT ⟨_, rfl, _, rfl, _, rfl, d, _, rfl, .inl ⟨kr, Sum.inr z, .inl hd3, rfl, vz.symm⟩, kR rfl _ _ (Same.refl _) rfl⟩
      · rw [decide_eq_false c] at kB ⊢
        exact iteF (kB rfl _ (Same.refl _))
    · have s13 := s2.trans s3
      have hD0 : H D = none := free_below (s1.trans s2) hD
      have nDp : D ≠ p := fun z => by rw [z, s2 _ _ hp1] at hD; cases hD
      have cr2 : CanRow (gR hs y) ((zs.filter fun t => decide (0 < gC (gR hs y) t)).map fun t => (t, gC (gR hs y) t)) := ⟨zs, pm2, so2, rfl⟩
      have ccD : CoinsC kvs ((zs.filter fun t => decide (0 < gC (gR hs y) t)).map fun t => (t, gC (gR hs y) t)) := pmap (f := fun t => (t, gC (gR hs y) t)) (fun _ _ h => h) en
      generalize hrow : ((zs.filter fun t => decide (0 < gC (gR hs y) t)).map fun t => (t, gC (gR hs y) t)) = row at cr2 ccD
      have lrow : kvs.length = row.length := Paired.length ccD
      have et : ys.take (i + 1) = ys.take i ++ [y] := by rw [List.take_add_one, hy]; rfl
      have ltk : (ys.take i).length = rows.length := Paired.length cr
      have crn : Paired (fun y r => CanRow (gR hs y) r) (ys.take (i + 1)) (rows ++ [row]) := by rw [et]; exact Sr.Paired.snoc (F := fun y r => CanRow (gR hs y) r) cr2 cr
      have hp3 := s13 _ _ hp1
      have ntk : tk.length ≤ 6 := by
        rw [Paired.length tr]
        unfold canZ
        have h1 := List.length_filter_le (fun (p : Str × Rw) => !p.2.isEmpty) ((ys.take i).zip rows)
        rw [List.length_zip, List.length_take] at h1
        omega
      refine ⟨_, rfl, _, .inr (.inr ⟨kvs, h3, rfl⟩), ?_⟩
      have ee : kvs.isEmpty = row.isEmpty := by
        cases kvs <;> cases row <;> first | rfl | cases lrow
      rw [ee]
      cases em : row.isEmpty with
      | true =>
        refine iteF ⟨⟨_, _, _, _, rfl⟩, s1.trans s13, s13 _ _ hkl1, tk, rows ++ [row], hp3, crn, ?_⟩
        rw [et, canZ_snoc ltk, em, if_pos rfl, List.append_nil]
        exact tr.mono s13
      | false =>
        refine iteT ⟨_, rfl, _, rfl, _, rfl, p, _, rfl, .inl ⟨tk, Sum.inr y, hp3, rfl, sz (m := 60) (by omega) (by decide), rfl⟩, ⟨_, _, _, _, rfl⟩, ?_, ?_, putK tk (Sum.inr y) (.ref D), rows ++ [row], upd_same, crn, ?_⟩
        · exact fun b o e => by
            rw [upd_ne fun z => by rw [z, hp] at e; cases e]
            exact (s1.trans s13) _ _ e
        · rw [upd_ne nkp]
          exact s13 _ _ hkl1
        · rw [et, canZ_snoc ltk, em, if_neg Bool.false_ne_true]
          have ny : (Sum.inr y : Key) ∉ tk.map (·.1) := by
            have hk : tk.map (·.1) = (canZ (ys.take i) rows).map fun q => (Sum.inr q.1 : Key) := tk_keys tr
            rw [hk]
            intro m
            obtain ⟨q, mq, e⟩ := List.mem_map.mp m
            have e2 : q.1 = y := Sum.inr.inj e
            have m3 := (List.of_mem_zip (List.mem_filter.mp mq).1).1
            rw [e2] at m3
            have nys : ys.Nodup := pm.nodup_iff.mpr g.1
            obtain ⟨b, hb, eb⟩ := List.mem_take_iff_getElem.mp m3
            have hi' : i < ys.length := (List.getElem?_eq_some_iff.mp hy).1
            have e4 : ys[i] = y := (List.getElem?_eq_some_iff.mp hy).2
            exact (List.pairwise_iff_getElem.mp nys) b i (by omega) hi' (by omega) (eb.trans e4.symm)
          rw [Sr.putK_new ny]
          exact (tr.mono s13).put.snoc nDp hD0 (by rw [upd_ne nDp]; exact h3) ccD
  · rintro σ H1 ⟨⟨v2, v3, v4, v5, rfl⟩, s1, _, tk, rows, hp1, cr, tr⟩
    rw [List.length_map, List.take_length] at cr tr
    try dsimp only
    exact ⟨_, rfl, q _ p tk _ s1 hp hp1 tr.new ⟨ys, rows, pm, so, cr, rfl⟩⟩
end
end K31

set_option Elab.async false
set_option linter.all false
set_option maxRecDepth 100000
set_option maxHeartbeats 4000000
namespace K31
open PySem PySem.Spec PyProof.Rows L2 Sr
/-! ### queues: what is kept (N: what is their own; H: where the items' tuples lie) -/
def QueR (K : PySem.W.Frag) (N H : Hp) (x : Addr) (hs : Hs) (its : Its) : Prop := ∃ dx c l kc us, N x = some (.ins (He.ga K "Queues") dx [("_holdings", .ref c), ("_items", .ref l)]) ∧ N c = some (.dK kc) ∧ HldR N kc hs ∧ N l = some (.lst us) ∧ IsA H us (its.map itD) ∧ goodH hs ∧ goodIts its
theorem its_tup (its : Its) : tupDs (its.map itD) = true := tupDs_of fun d m => by
  obtain ⟨it, _, rfl⟩ := List.mem_map.mp m
  show tupDs (it.map legT) = true
  exact tupDs_of fun d m => by
    obtain ⟨g, _, rfl⟩ := List.mem_map.mp m
    rfl
theorem QueR.keep {K : PySem.W.Frag} {N N' H H' : Hp} {x : Addr} {hs : Hs} {its : Its} (h : QueR K N H x hs its) (s : Same N N') (t : Tups H H') : QueR K N' H' x hs its := by
  obtain ⟨dx, c, l, kc, us, h1, h2, h3, h4, h5, h6⟩ := h
  exact ⟨dx, c, l, kc, us, s _ _ h1, s _ _ h2, h3.mono s, s _ _ h4, isA_tups t h5 (its_tup its), h6⟩
theorem QueR.mono {K : PySem.W.Frag} {H H' : Hp} {x : Addr} {hs : Hs} {its : Its} (h : QueR K H H x hs its) (s : Same H H') : QueR K H' H' x hs its := h.keep s (Tups.of s)
theorem same_free {H H2 : Hp} {p : Addr} {o : HO} (s : Same H H2) (h : H p = none) : Same H (upd H2 p o) := fun b u e => by
  rw [upd_ne fun z => by rw [z, h] at e; cases e]
  exact s _ _ e
theorem sq_ins {H : Hp} {x t : Addr} {c dx : Addr} {fs : List (Str × V)} {o : HO} {us : List V} (hx : H x = some (.ins c dx fs)) (h : H t = some (.lst us) ∨ H t = some (.tup us)) : (upd H x o) t = some (.lst us) ∨ (upd H x o) t = some (.tup us) := by
  have n : t ≠ x := by rcases h with h | h <;> exact ne_of h hx (by intro z; cases z)
  rw [upd_ne n]
  exact h
theorem ItsV.ins {H : Hp} {x : Addr} {c dx : Addr} {fs : List (Str × V)} {o : HO} (hx : H x = some (.ins c dx fs)) {v : V} {its : Its} (h : ItsV H v its) : ItsV (upd H x o) v its := by
  obtain ⟨t, us, e, h, p⟩ := h
  exact ⟨t, us, e, sq_ins hx h, L2.Paired.mapP p fun _ _ ⟨t2, us2, e2, h2, p2⟩ => ⟨t2, us2, e2, sq_ins hx h2, L2.Paired.mapP p2 fun _ _ ⟨t3, e3, h3⟩ => ⟨t3, e3, sq_ins hx h3⟩⟩⟩
structure Que (K : PySem.W.Frag) (mg : Str → Option Value) : Prop where
  cl : Cls K (He.ga K "Queues")
  nH : NoAttr K (He.ga K "Queues") "_holdings"
  nI : NoAttr K (He.ga K "Queues") "_items"
theorem zip_rel {α β : Type} {F : α → β → Prop} : ∀ {as : List α} {bs : List β}, Paired F as bs → ∀ p ∈ as.zip bs, F p.1 p.2
  | _, _, .nil, p, m => by cases m
  | _, _, .cons h r, p, m => by
    rw [List.zip_cons_cons] at m
    rcases List.mem_cons.mp m with rfl | m
    · exact h
    · exact zip_rel r p m
theorem gR_good {h0 : Hs} (g : goodH h0) (y : Str) : goodR (gR h0 y) := by
  unfold gR
  cases e : h0.lookup y with
  | none => exact ⟨List.nodup_nil, Nat.zero_le _, fun p m => by cases m⟩
  | some r => exact (g.2.2 _ (look_mem e)).2
theorem canRow_good {r0 r : Rw} (c : CanRow r0 r) (g : goodR r0) : goodR r := by
  obtain ⟨zs, p, s, rfl⟩ := c
  have nz : zs.Nodup := p.nodup_iff.mpr g.1
  have lz : zs.length ≤ 6 := by rw [p.length_eq, List.length_map]; exact g.2.1
  refine ⟨?_, ?_, fun q m => ?_⟩
  · rw [List.map_map]
    show ((zs.filter _).map id).Nodup
    rw [List.map_id]
    exact nz.filter _
  · rw [List.length_map]
    exact Nat.le_trans (List.length_filter_le _ _) lz
  · obtain ⟨z, mz, rfl⟩ := List.mem_map.mp m
    obtain ⟨m1, m2⟩ := List.mem_filter.mp mz
    obtain ⟨q, mq, eq⟩ := List.mem_map.mp (p.mem_iff.mp m1)
    refine ⟨?_, ?_⟩
    · show nameOk (.str z) = true
      rw [← eq]
      exact (g.2.2 q mq).1
    · have := of_decide_eq_true m2
      show 0 ≤ gC r0 z
      omega
theorem can_good {h0 h : Hs} (c : Can h0 h) (g : goodH h0) : goodH h := by
  obtain ⟨ys, rows, p, s, r, rfl⟩ := c
  have ny : ys.Nodup := p.nodup_iff.mpr g.1
  have ly : ys.length ≤ 6 := by rw [p.length_eq, List.length_map]; exact g.2.1
  have lr := Paired.length r
  refine ⟨?_, ?_, fun q m => ?_⟩
  · have sub : ((canZ ys rows).map (·.1)).Sublist ((ys.zip rows).map (·.1)) := List.Sublist.map _ List.filter_sublist
    rw [List.map_fst_zip (by omega)] at sub
    exact sub.nodup ny
  · unfold canZ
    have := List.length_filter_le (fun (p : Str × Rw) => !p.2.isEmpty) (ys.zip rows)
    rw [List.length_zip] at this
    omega
  · have m1 := (List.mem_filter.mp m).1
    have m2 := (List.of_mem_zip m1).1
    obtain ⟨q', mq, eq⟩ := List.mem_map.mp (p.mem_iff.mp m2)
    refine ⟨?_, canRow_good (zip_rel r q m1) (gR_good g q.1)⟩
    rw [← eq]
    exact (g.2.2 q' mq).1
def spQInit (K : PySem.W.Frag) : Sp := fun vs H Q _ => ∃ x a v kv hs its H0 dx, vs = [.ref x, .ref a, v] ∧ Same H0 H ∧ H0 x = none ∧ H x = some (.ins (He.ga K "Queues") dx []) ∧ H a = some (.dK kv) ∧ HldR H kv hs ∧ goodH hs ∧ ItsV H v its ∧ goodIts its ∧
  ∀ H' hs', Same H0 H' → Can hs hs' → QueR K (newH H0 H') H' x hs' its → Q .non H'
section
variable {P : Program} {w : World} {K : PySem.W.Frag} {mg : Str → Option Value} {base : Heap}
abbrev s_Queues___init__ : Stmt := inClass (top 14) 0
theorem sc_Queues___init__ : FnScope ["self", "holdings", "items"] ["self", "holdings", "items"] (defScope s_Queues___init__) := ⟨rfl, rfl, rfl, by decide +kernel, rfl, by decide +kernel, by decide +kernel⟩
theorem m_init (T : Txt K mg) (O : Que K mg) (D : DfnM K "Queues" "__init__" "Queues.__init__" s_Queues___init__) (C_check_holdings : Cal P w K mg base 3 "_check_holdings" ["holdings"] spCkH) (C_check_items : Cal P w K mg base 3 "_check_items" ["items"] spCkI) (C_told_holdings : Cal P w K mg base 1 "_told_holdings" ["holdings"] spToldH) (C_frozen : Cal P w K mg base 5 "frozen" ["thing"] (spFrz 3)) :
    CalM P w K mg base CX0 6 (He.fAd K ("Queues", some "__init__")) ["self", "holdings", "items"] (spQInit K) := by
  refine D.cal sc_Queues___init__ (fun _ _ _ _ _ _ us hl => match us, hl with | [_, _, _], _ => rfl) (fun vs H Q E h => ?_) fun cdv A outer s H vs Q E hr h => ?_
  · obtain ⟨x, a, v, kv, hs, its, H0, dx, rfl, _⟩ := h
    rfl
  obtain ⟨x, a, v, kv, hs, its, H0, dx, rfl, s0, x0, hx, ha, hh, g, hv, gi, q⟩ := h
  refine ⟨_, (pss_cons (ps_expr (pe_cal C_check_holdings hr (by first | decide | omega) (by rfl) (pa_cons (pv 1) pa_nil)))
      (pss_cons (ps_expr (pe_cal C_check_items hr (by first | decide | omega) (by rfl) (pa_cons (pv 2) pa_nil)))
      (pss_cons (ps_fld (pv 0) (pe_cal C_told_holdings hr (by first | decide | omega) (by rfl) (pa_cons (pv 1) pa_nil)) rfl)
      (pss_one (ps_fld (pv 0) (pe_callTy (T := "list") call_list_of (by rfl) T.list (by decide +kernel) (pa_cons (pe_cal C_frozen hr (by first | decide | omega) (by rfl) (pa_cons (pv 2) pa_nil)) pa_nil)) rfl))))), ?_⟩
  refine ⟨_, rfl, a, kv, hs, rfl, ha, hh, g, fun H1 s1 => ?_⟩
  refine ⟨_, rfl, v, its, rfl, hv.mono s1, gi, fun H2 s2 => ?_⟩
  have s12 := s1.trans s2
  refine ⟨_, rfl, a, kv, hs, rfl, s12 _ _ ha, hh.mono s12, g, fun H3 c tk hs' s3 hc htk ht can => ?_⟩
  have s13 := s12.trans s3
  have z3 : Same H0 H3 := s0.trans s13
  refine ⟨_, rfl, x, _, dx, [], rfl, s13 _ _ hx, O.cl, O.nH, by decide, ?_⟩
  have nx : c ≠ x := fun z => by rw [z, s12 _ _ hx] at hc; cases hc
  have off : ∀ b o, H3 b = some o → b ≠ x → (upd H3 x (.ins (He.ga K "Queues") dx (putF "_holdings" (.ref c) []))) b = some o := fun b o e n => by rw [upd_ne n]; exact e
  have hx4 : (upd H3 x (.ins (He.ga K "Queues") dx (putF "_holdings" (.ref c) []))) x = some (.ins (He.ga K "Queues") dx [("_holdings", .ref c)]) := upd_same
  have z4 : Same H0 (upd H3 x (.ins (He.ga K "Queues") dx (putF "_holdings" (.ref c) []))) := same_free z3 x0
  have c0 : H0 c = none := free_below (s0.trans s12) hc
  have ht4 : HldR (newH H0 (upd H3 x (.ins (He.ga K "Queues") dx (putF "_holdings" (.ref c) [])))) tk hs' := L2.Paired.mapP ht fun kv q ⟨e, d, kr, a1, b1, c1⟩ => ⟨e, d, kr, a1, by
    have n2 := new_no b1
    rw [new_at n2] at b1
    have n0 : H0 d = none := free_below (s0.trans s12) n2
    rw [new_at n0]
    exact off _ _ b1 (ne_of b1 (s13 _ _ hx) (by intro z; cases z)), c1⟩
  have hv4 := (hv.mono s13)
  have hv4 : ItsV (upd H3 x (.ins (He.ga K "Queues") dx (putF "_holdings" (.ref c) []))) v its := ItsV.ins (s13 _ _ hx) hv4
  have hc4 := off c _ htk nx
  generalize upd H3 x (.ins (He.ga K "Queues") dx (putF "_holdings" (.ref c) [])) = G at hx4 z4 ht4 hv4 hc4 ⊢
  obtain ⟨d, id_, _, ef, dp⟩ := hv4.is gi
  refine ⟨_, rfl, v, d, rfl, id_, dp, fun u H5 s5 iu => ?_⟩
  rw [ef] at iu
  cases iu with
  | tup hu ru zu =>
    rename_i tu us
    refine ⟨tu, us, rfl, .inr (SqT.of hu), fun l hl => ?_⟩
    have s6 := Same.up (o := .lst us) hl
    have s56 := s5.trans s6
    refine ⟨_, rfl, x, _, dx, [("_holdings", .ref c)], rfl, s56 _ _ hx4, O.cl, O.nI, show 1 < 1000 by decide, ?_⟩
    have l0 : H0 l = none := free_below (z4.trans s5) hl
    have nlx : l ≠ x := fun z => by rw [z, s5 _ _ hx4] at hl; cases hl
    have off2 : ∀ b o, (upd H5 l (.lst us)) b = some o → b ≠ x → (upd (upd H5 l (.lst us)) x (.ins (He.ga K "Queues") dx (putF "_items" (.ref l) [("_holdings", .ref c)]))) b = some o := fun b o e n => by rw [upd_ne n]; exact e
    refine q _ hs' (same_free (z4.trans s56) x0) can ⟨dx, c, l, tk, us, (new_at x0).trans upd_same, (new_at c0).trans (off2 _ _ (s56 _ _ hc4) nx), ?_, (new_at l0).trans (off2 _ _ upd_same nlx), isA_tups (tups_set fun xs e => ?_) ((ru.mono s6)) (its_tup its), can_good can g, gi⟩
    · exact L2.Paired.mapP ht4 fun kv q ⟨e, d, kr, a1, b1, c1⟩ => ⟨e, d, kr, a1, by
        have n2 := new_no b1
        rw [new_at n2] at b1 ⊢
        exact off2 _ _ (s56 _ _ b1) (ne_of b1 hx4 (by intro z; cases z)), c1⟩
    · rw [s56 _ _ hx4] at e
      cases e
end
end K31

set_option Elab.async false
set_option linter.all false
set_option maxRecDepth 100000
set_option maxHeartbeats 4000000
namespace K31
open PySem PySem.Spec PyProof.Rows L2 Sr
theorem mem_look {α : Type} {s : Str} {a : α} : ∀ {l : List (Str × α)}, (l.map (·.1)).Nodup → (s, a) ∈ l → l.lookup s = some a
  | p :: r, nd, m => by
    rw [List.map_cons] at nd
    obtain ⟨n1, n2⟩ := List.nodup_cons.mp nd
    rw [List.lookup_cons]
    rcases List.mem_cons.mp m with e | m
    · rw [← e, beq_self_eq_true]
    · have : s ≠ p.1 := fun e => n1 (by rw [← e]; exact List.mem_map.mpr ⟨_, m, rfl⟩)
      rw [beq_false_of_ne this]
      exact mem_look n2 m
theorem hs_again {hs : Hs} (nd : (hs.map (·.1)).Nodup) : (hs.map (·.1)).map (fun s => (s, gR hs s)) = hs := by
  rw [List.map_map]
  have : ∀ p ∈ hs, ((fun s => (s, gR hs s)) ∘ fun (p : Str × Rw) => p.1) p = p := fun p m => by
    show (p.1, gR hs p.1) = p
    unfold gR
    rw [mem_look nd (show (p.1, p.2) ∈ hs from m)]
    rfl
  rw [List.map_congr_left this]
  exact List.map_id _
/-! ### holdings() and all_items() -/
def spHold (K : PySem.W.Frag) : Sp := fun vs H Q _ => ∃ x hs its, vs = [.ref x] ∧ QueR K H H x hs its ∧ ∀ H' p kd, Same H H' → H p = none → H' p = some (.dK kd) → HldR (newH H H') kd hs → (kd.map (·.2)).Nodup → Q (.ref p) H'
def spItems (K : PySem.W.Frag) : Sp := fun vs H Q _ => ∃ x hs its, vs = [.ref x] ∧ QueR K H H x hs its ∧ ∀ p us, H p = none → IsA H us (its.map itD) → Q (.ref p) (upd H p (.lst us))
section
variable {P : Program} {w : World} {K : PySem.W.Frag} {mg : Str → Option Value} {base : Heap}
abbrev s_Queues_holdings : Stmt := inClass (top 14) 1
theorem sc_Queues_holdings : FnScope ["self", "member"] ["self"] (defScope s_Queues_holdings) := ⟨rfl, rfl, rfl, by decide +kernel, rfl, by decide +kernel, by decide +kernel⟩
theorem m_holdings (T : Txt K mg) (O : Que K mg) (D : DfnM K "Queues" "holdings" "Queues.holdings" s_Queues_holdings) : CalM P w K mg base CX0 1 (He.fAd K ("Queues", some "holdings")) ["self"] (spHold K) := by
  refine D.cal sc_Queues_holdings (fun _ _ _ _ _ _ us hl => match us, hl with | [_], _ => rfl) (fun vs H Q E h => ?_) fun cdv A outer s H vs Q E hr h => ?_
  · obtain ⟨x, hs, its, rfl, _⟩ := h
    rfl
  obtain ⟨x, hs, its, rfl, h, q⟩ := h
  obtain ⟨dx, c, l, kc, us, h1, h2, h3, h4, h5, g, gi⟩ := id h
  refine ⟨_, (pss_one (ps_ret (pe_lock (pe_dc (own := [("member", 1)]) (g := gName 1) (tt := tYes) rfl sc_Queues_holdings.nd (pi_keys (pe_fld (pv 0) rfl)) (blkOk_by (N := ["self", "member"]) (sc := defScope s_Queues_holdings) (by decide +kernel)) (fun _ _ _ _ _ => (pg_name (i := 1) sc_Queues_holdings.nd rfl (by first | exact Or.inl rfl | exact Or.inr rfl))) (fun _ _ _ _ _ => pts_nil) (fun _ _ _ _ _ => (pv 1)) (fun _ _ _ _ _ => (pe_callTy (T := "dict") call_dictD (by rfl) T.dict (by decide +kernel) (pa_cons (pe_dget (hu_of hr) (pe_fldK K rfl (pv 0) rfl) (pv 1) (fun _ _ => rfl)) pa_nil))))))), ?_⟩
  refine ⟨c, _, h2, trivial, fun od => ?_⟩
  have x1 : (upd H c (.frz od (.dK kc))) x = some (.ins (He.ga K "Queues") dx [("_holdings", .ref c), ("_items", .ref l)]) := by rw [upd_ne (ne_of h1 h2 (by intro z; cases z))]; exact h1
  have hF : (upd H c (.frz od (.dK kc))) c = some (.frz od (.dK kc)) := upd_same
  have bk : ∀ {H'}, Same (upd H c (.frz od (.dK kc))) H' → Same H (upd H' c (.dK kc)) := fun s => back_of h2 s
  have fz : ∀ b o, b ≠ c → H b = some o → (upd H c (.frz od (.dK kc))) b = some o := fun b o n e => by rw [upd_ne n]; exact e
  have none_ : ∀ b, (upd H c (.frz od (.dK kc))) b = none → H b = none := fun b e => by
    by_cases hb : b = c
    · rw [hb, hF] at e; cases e
    · rw [upd_ne hb] at e; exact e
  generalize upd H c (.frz od (.dK kc)) = F at x1 hF bk fz none_ ⊢
  have lk : kc.length = hs.length := Paired.length h3
  have ek := (keys_names (F := fun v (r : Rw) => ∃ d kr, v = .ref d ∧ H d = some (.dK kr) ∧ CoinsC kr r) h3).2
  refine ⟨_, rfl, x, _, dx, _, _, rfl, x1, O.cl, O.nH, rfl, c, od, rfl, .inl ⟨kc, hF, fun B hB => dc_textsN walk_keys (At := fun i x => ∃ k v, kc[i]? = some (k, v) ∧ x = kV k) (fun _ _ _ _ y => y) (hs.map (·.1)) (fun _ => true) (by rw [List.length_map, lk]) g.1 (sz (m := 60) (by rw [lk]; have := g.2.1; omega)) hB (fun H' s => s _ _ hF)
    (fun H' s v => ∃ d kr, v = .ref d ∧ F d = none ∧ d ≠ B ∧ H' d = some (.dK kr) ∧ CoinsC kr (gR hs s)) (fun _ _ _ _ e ⟨d, kr, a1, a2, a3, a4, a5⟩ => ⟨d, kr, a1, a2, a3, e _ _ a4, a5⟩) (fun _ _ _ ⟨d, kr, a1, a2, a3, a4, a5⟩ => ⟨d, a1, by rw [a4]; simp⟩) (fun _ _ _ _ _ e ⟨d, kr, a1, a2, a3, a4, a5⟩ => ⟨d, kr, a1, a2, a3, by rw [upd_ne a3]; exact a4, a5⟩)
    (fun i u y H2 R B' hi hu hy s2 nB kR kB => ?_) (fun H2 kvs s2 g2 e2 nv => ?_)⟩⟩
  · obtain ⟨k, v, hk, rfl⟩ := hu
    have em : (kc.map (·.1))[i]? = some k := by rw [List.getElem?_map, hk]; rfl
    rw [List.getElem?_map] at hy
    obtain ⟨p, hp, rfl⟩ := Option.map_eq_some_iff.mp hy
    rw [ek, List.getElem?_map, hp] at em
    obtain rfl : Sum.inr p.1 = k := Option.some.inj em
    obtain ⟨d, kr, ev, hd, cc, gr⟩ := h3.get g (List.mem_map.mpr ⟨p, List.mem_of_getElem? hp, rfl⟩)
    have ndc : d ≠ c := fun z => by
      rw [z, h2] at hd
      cases hd
      obtain ⟨_, d2, kr2, ev2, _⟩ := Paired.at2 h3 hk hp
      have ev2 : v = .ref d2 := ev2
      obtain ⟨b, hb⟩ : ∃ b, (gR hs p.1)[i]? = some b := by
        have h1 := (List.getElem?_eq_some_iff.mp hk).1
        have h2 := Paired.length cc
        exact ⟨(gR hs p.1)[i]'(by omega), List.getElem?_eq_getElem (by omega)⟩
      have := (Paired.at2 cc hk hb).2
      have : v = .int b.2 := this
      rw [ev2] at this
      cases this
    simp only [tYes, if_true]
    refine ⟨_, rfl, _, rfl, x, _, dx, _, _, rfl, s2 _ _ x1, O.cl, O.nH, rfl, _, rfl, c, .ref d, rfl, .inl ⟨kc, Sum.inr p.1, .inr ⟨od, s2 _ _ hF⟩, rfl, ev.symm⟩, d, kr, rfl, .inl (s2 _ _ (fz _ _ ndc hd)), fun q0 hq => kR rfl _ _ (Same.up hq) ⟨q0, kr, rfl, free_below s2 hq, fun z => nB (by rw [← z]; exact hq), upd_same, cc⟩ ⟨q0, rfl, hq⟩⟩
  · have hc2 := s2 _ _ hF
    have nB : B ≠ c := fun z => by rw [z, hF] at hB; cases hB
    rw [List.filter_eq_self.mpr fun _ _ => rfl] at e2
    refine ⟨hc2, q _ B kvs (bk s2) (none_ B hB) (by rw [upd_ne nB]; exact g2) ?_ nv⟩
    have e3 := pmap (f := fun s => (s, gR hs s)) (G := fun (kv : Key × V) (p : Str × Rw) => kv.1 = Sum.inr p.1 ∧ ∃ d kr, kv.2 = .ref d ∧ (newH H (upd H2 c (.dK kc))) d = some (.dK kr) ∧ CoinsC kr p.2) (fun kv s ⟨e, d, kr, a1, a2, a3, a4, a5⟩ => ⟨e, d, kr, a1, (new_at (none_ d a2)).trans (by
      rw [upd_ne fun z => by rw [z, hF] at a2; cases a2]
      exact a4), a5⟩) e2
    have eh : (hs.map (·.1)).map (fun s => (s, gR hs s)) = hs := hs_again g.1
    rw [eh] at e3
    exact e3
end
end K31

set_option Elab.async false
set_option linter.all false
set_option maxRecDepth 100000
set_option maxHeartbeats 4000000
namespace K31
open PySem PySem.Spec PyProof.Rows L2 Sr
/-! ### all_items() and _legs() -/
def legsOf (its : Its) : List Leg := its.flatten
theorem isA_snoc {H : Hp} {v : V} {d : Dt} (h : Is H v d) : ∀ {us : List V} {ds : List Dt}, IsA H us ds → IsA H (us ++ [v]) (ds ++ [d])
  | _, _, .nil => .cons h .nil
  | _, _, .cons a r => .cons a (isA_snoc h r)
theorem legs_len {its : Its} (g : goodIts its) : ∀ i, (legsOf (its.take i)).length ≤ 2 * i := by
  intro i
  induction i with
  | zero => exact Nat.le_refl _
  | succ i ih =>
    unfold legsOf at ih ⊢
    rw [List.take_add_one, List.flatten_append, List.length_append]
    cases e : its[i]? with
    | none => show _ + 0 ≤ _; omega
    | some it =>
      have := (g.2 it (List.mem_of_getElem? e)).1
      show _ + ([it].flatten).length ≤ _
      rw [List.flatten_singleton]
      omega
theorem legs_all {its : Its} (g : goodIts its) : (legsOf its).length ≤ 24 := by
  have h := legs_len g its.length
  rw [List.take_length] at h
  have := g.1
  omega
def spLegs (K : PySem.W.Frag) : Sp := fun vs H Q _ => ∃ x hs its, vs = [.ref x] ∧ QueR K H H x hs its ∧ ∀ H' p us, Same H H' → H p = none → H' p = some (.lst us) → IsA H' us ((legsOf its).map legT) → Q (.ref p) H'
section
variable {P : Program} {w : World} {K : PySem.W.Frag} {mg : Str → Option Value} {base : Heap}
abbrev s_Queues_all_items : Stmt := inClass (top 14) 2
theorem sc_Queues_all_items : FnScope ["self"] ["self"] (defScope s_Queues_all_items) := ⟨rfl, rfl, rfl, by decide +kernel, rfl, by decide +kernel, by decide +kernel⟩
theorem m_all_items (T : Txt K mg) (O : Que K mg) (D : DfnM K "Queues" "all_items" "Queues.all_items" s_Queues_all_items) : CalM P w K mg base CX0 1 (He.fAd K ("Queues", some "all_items")) ["self"] (spItems K) := by
  refine D.cal sc_Queues_all_items (fun _ _ _ _ _ _ us hl => match us, hl with | [_], _ => rfl) (fun vs H Q E h => ?_) fun cdv A outer s H vs Q E hr h => ?_
  · obtain ⟨x, hs, its, rfl, _⟩ := h
    rfl
  obtain ⟨x, hs, its, rfl, h, q⟩ := h
  obtain ⟨dx, c, l, kc, us, h1, h2, h3, h4, h5, g, gi⟩ := id h
  refine ⟨_, (pss_one (ps_ret (pe_callTy (T := "list") call_list_of (by rfl) T.list (by decide +kernel) (pa_cons (pe_fld (pv 0) rfl) pa_nil)))), ?_⟩
  exact ⟨_, rfl, x, _, dx, _, _, rfl, h1, O.cl, O.nI, rfl, l, us, rfl, .inl (SqL.of h4), fun p hp => q p us hp h5⟩
abbrev s_Queues__legs : Stmt := inClass (top 14) 11
theorem sc_Queues__legs : FnScope ["self", "item", "leg"] ["self"] (defScope s_Queues__legs) := ⟨rfl, rfl, rfl, by decide +kernel, rfl, by decide +kernel, by decide +kernel⟩
theorem m_legs (T : Txt K mg) (O : Que K mg) (D : DfnM K "Queues" "_legs" "Queues._legs" s_Queues__legs) : CalM P w K mg base CX0 1 (He.fAd K ("Queues", some "_legs")) ["self"] (spLegs K) := by
  refine D.cal sc_Queues__legs (fun _ _ _ _ _ _ us hl => match us, hl with | [_], _ => rfl) (fun vs H Q E h => ?_) fun cdv A outer s H vs Q E hr h => ?_
  · obtain ⟨x, hs, its, rfl, _⟩ := h
    rfl
  obtain ⟨x, hs, its, rfl, h, q⟩ := h
  obtain ⟨dx, c, l, kc, us, h1, h2, h3, h4, h5, g, gi⟩ := id h
  refine ⟨_, (pss_one (ps_ret (pe_lc2 (own := [("item", 1), ("leg", 2)]) (vs1 := [2]) (g := gName 1) (tt := tYes) (g1 := gName 2) (tt1 := tYes) rfl sc_Queues__legs.nd (pi_list (pe_fld (pv 0) rfl)) (blkOk_by (N := ["self", "item", "leg"]) (sc := defScope s_Queues__legs) (by decide +kernel)) (by decide) (fun _ _ _ _ _ => (pg_name (i := 1) sc_Queues__legs.nd rfl (by first | exact Or.inl rfl | exact Or.inr rfl))) (fun _ _ _ _ _ => pts_nil) (fun _ _ _ _ _ => (pi_seqK K rfl (pv 1))) (fun _ _ _ _ _ => (pg_name (i := 2) sc_Queues__legs.nd rfl (by first | exact Or.inl rfl | exact Or.inr rfl))) (fun _ _ _ _ _ => pts_nil) (fun _ _ _ _ _ => (pv 2))))), ?_⟩
  refine ⟨_, rfl, x, _, dx, _, _, rfl, h1, O.cl, O.nI, rfl, l, rfl, ⟨_, SqL.of h4⟩, fun B hB => ?_⟩
  have lus : us.length = its.length := by rw [h5.len, List.length_map]
  have below : ∀ {H' : Hp} {o : HO}, Same H H' → Same H (upd H' B o) := fun {H' o} s c u e => by
    rw [upd_ne (ne_of_none e hB)]
    exact s _ _ e
  have isB : ∀ {H' : Hp} {acc acc' : List V} {ds : List Dt}, H' B = some (.lst acc) → IsA H' acc ds → tupDs ds = true → IsA (upd H' B (.lst acc')) acc ds := fun {H' acc acc' ds} e i t => isA_tups (tups_set fun xs z => by rw [e] at z; cases z) i t
  have tl : ∀ gs : List Leg, tupDs (gs.map legT) = true := fun gs => tupDs_of fun d m => by
    obtain ⟨g, _, rfl⟩ := List.mem_map.mp m
    rfl
  refine ⟨fun i m H' => i + m = us.length ∧ Same H H' ∧ ∃ acc, H' B = some (.lst acc) ∧ IsA H' acc ((legsOf (its.take i)).map legT), ⟨us.length, by omega, below (Same.refl H), [], upd_same, .nil⟩, ?_⟩
  rintro i m H3 ⟨im, s3, acc, a3, i3⟩
  by_cases lt : i < us.length
  · have li : i < its.length := by omega
    have hit : its[i]? = some its[i] := List.getElem?_eq_getElem li
    obtain ⟨gi1, gi2⟩ := gi.2 its[i] (List.mem_of_getElem? hit)
    have ll := legs_len gi i
    have et : legsOf (its.take (i + 1)) = legsOf (its.take i) ++ its[i] := by
      unfold legsOf
      rw [List.take_add_one, hit, List.flatten_append]
      show _ ++ [its[i]].flatten = _
      rw [List.flatten_singleton]
    refine .inr ⟨walk_list.goes i H3 lt (SqL.of (s3 _ _ h4)), fun H' => Same H H' ∧ ∃ acc, H' B = some (.lst acc) ∧ IsA H' acc ((legsOf (its.take (i + 1))).map legT), fun H' h' => ⟨m - 1, by omega, by omega, h'⟩, fun y H4 yy => ?_⟩
    obtain ⟨rfl, hy⟩ := walk_list.yields i H3 y H4 lt (SqL.of (s3 _ _ h4)) yy
    obtain ⟨d, e1, iv⟩ := h5.get hy
    rw [List.getElem?_map, hit] at e1
    obtain rfl : itD its[i] = d := Option.some.inj e1
    refine ⟨rfl, ?_⟩
    simp only [tYes, if_true]
    cases iv with
    | tup hv rv zv =>
      rename_i t ws
      refine ⟨_, rfl, t, rfl, .inr ⟨⟨_, SqT.of (s3 _ _ hv)⟩, ?_⟩⟩
      have lw : ws.length = its[i].length := by rw [rv.len, List.length_map]
      refine ⟨fun j n H' => j + n = ws.length ∧ Same H H' ∧ ∃ acc, H' B = some (.lst acc) ∧ IsA H' acc ((legsOf (its.take i) ++ its[i].take j).map legT), ⟨ws.length, by omega, s3, acc, a3, by rw [List.take_zero, List.append_nil]; exact i3⟩, ?_⟩
      rintro j n H5 ⟨jn, s5, acc5, a5, i5⟩
      by_cases lj : j < ws.length
      · refine .inr ⟨walk_tup.goes j H5 lj (SqT.of (s5 _ _ hv)), fun H' => Same H H' ∧ ∃ acc, H' B = some (.lst acc) ∧ IsA H' acc ((legsOf (its.take i) ++ its[i].take (j + 1)).map legT), fun H' h' => ⟨n - 1, by omega, by omega, h'⟩, fun y H6 yy => ?_⟩
        obtain ⟨rfl, hy2⟩ := walk_tup.yields j H5 y H6 lj (SqT.of (s5 _ _ hv)) yy
        obtain ⟨d2, e2, iv2⟩ := rv.get hy2
        have lg : j < its[i].length := by omega
        have hg : its[i][j]? = some its[i][j] := List.getElem?_eq_getElem lg
        rw [List.getElem?_map, hg] at e2
        obtain rfl : legT its[i][j] = d2 := Option.some.inj e2
        have la : acc5.length < 1000 := by
          rw [i5.len, List.length_map, List.length_append, List.length_take]
          have := gi.1
          omega
        refine ⟨rfl, _, rfl, acc5, a5, Nat.lt_of_lt_of_le la (by rw [sizeLine_eq]; decide), below s5, _, upd_same, ?_⟩
        rw [List.take_add_one, hg, ← List.append_assoc, List.map_append]
        exact isA_snoc (is_tups (tups_set fun xs z => by rw [a5] at z; cases z) (iv2.mono s5) rfl) (isB a5 i5 (tl _))
      · obtain rfl : j = ws.length := by omega
        refine .inl ⟨walk_tup.stops H5 (SqT.of (s5 _ _ hv)), s5, acc5, a5, ?_⟩
        rw [et]
        rw [lw, List.take_length] at i5
        exact i5
  · obtain rfl : i = us.length := by omega
    rw [lus, List.take_length] at i3
    refine .inl ⟨walk_list.stops H3 (SqL.of (s3 _ _ h4)), q H3 B acc s3 hB a3 i3⟩
end
end K31

set_option Elab.async false
set_option linter.all false
set_option maxRecDepth 100000
set_option maxHeartbeats 4000000
namespace Sr
open PySem PySem.Spec PyProof.Rows L2
/-! ### == and != by an own __eq__, whatever it says -/
/-- what the right side may be: an instance, or a list -/
def EqRt (K : PySem.W.Frag) (C : Addr) (H : Hp) (y : V) : Prop := (∃ b C' dy gs, y = .ref b ∧ H b = some (.ins C' dy gs) ∧ PySem.W.notFirst K C (.ref C') = true) ∨ ∃ b ys, y = .ref b ∧ H b = some (.lst ys)
def rEqIns (K : PySem.W.Frag) (C : Addr) (sp : Sp) (E : XK) : R2 := fun x y H Q => ∃ a dx fs, x = .ref a ∧ H a = some (.ins C dx fs) ∧ EqRt K C H y ∧ sp [x, y] H Q E
theorem first_list {K : PySem.W.Frag} {C : Addr} : PySem.W.notFirst K C (.type "list") = true := by
  have e : fastBuiltinMro "list" = some [.type "list", .type "object"] := by decide +kernel
  have s : PySem.W.subIn K (.type "list") (.ref C) = some false := by
    show (fastBuiltinMro "list").map (·.contains (.ref C)) = some false
    rw [e]
    first
      | rfl
      | simp
  unfold PySem.W.notFirst
  rw [s]
  simp
theorem first_self {K : PySem.W.Frag} {C : Addr} : PySem.W.notFirst K C (.ref C) = true := by
  unfold PySem.W.notFirst
  simp
section
variable {X : Cx} {pins : List (Addr × Obj)} {σ : L2.St} {H : Hp} {s : Shared}
/-- the type of the right side -/
theorem EqRt.ty {C : Addr} {y : V} {u : Value} (I : L2.Inv X pins σ H s) (ry : L2.RelV y u) (h : EqRt X.K C H y) : ∃ tb, PySem.W.notFirst X.K C tb = true ∧ PySem.W.Looks (model X.prog X.w) s.heap (typeOf u) tb := by
  rcases h with ⟨b, C', dy, gs, rfl, hb, hn⟩ | ⟨b, ys, rfl, hb⟩
  · cases ry
    obtain ⟨mA, J, _⟩ := ins_get I.hok hb
    obtain ⟨od, J, _⟩ := J.look
    exact ⟨_, hn, J.type⟩
  · cases ry
    obtain ⟨_, its, n, _, hq⟩ := (show ObjOk X.prog X.w H s.heap b (.lst ys) from I.hok b _ hb)
    exact ⟨_, first_list, (PySem.W.Looks.ld (part := none) hq).andThen .now⟩
variable {CX : CXT} {k : Nat} {C f : Addr} {fd : FuncData} {ps : List Str} {sp : Sp} {E : XK}
theorem op_eqIns (F : FnOk X.prog X.w X.K X.mg X.base CX k f fd ps sp) (hr : Room k X.A) (hb : Binds X.K fd ps []) (hx : Passes CX X E) (hs : PySem.W.findIn X.K (.ref C) "__eq__" = some (some (.ref f))) (hf : PySem.W.isFn X.K (.ref f) = true) :
    OpR X (compareOp .Eq) (rEqIns X.K C sp E) := by
  intro pins s σ H x y v u Q I rx ry h
  obtain ⟨a, dx, fs, rfl, ha, hy, q⟩ := h
  cases rx
  obtain ⟨mA, J, _⟩ := ins_get I.hok ha
  obtain ⟨od, J, _⟩ := J.look
  obtain ⟨m, hF⟩ := I.fr
  obtain ⟨tb, hn, ht⟩ := hy.ty I ry
  show wpAny _ _ (richCompare .Eq (.ref a) u) _ _ _
  refine PySem.W.cmp_K (op := .Eq) (tb := tb) hr.units0 hF I.ok.mod.kin J ht hn hs hf ?_
  refine thn (run_fn (us := [.ref a, u]) (vs := [.ref a, y]) (dvs := []) (ds := []) F hr hb .nil hx I (.cons rfl (.cons ry .nil)) q) fun w s' z => ?_
  obtain ⟨z', H', I', rz, qz⟩ := z
  exact SlX.cmpback rz ⟨z', H', I', rz, qz⟩
/-- object.__ne__ asks the own __eq__ -/
theorem ne_entry {A : Around} {Em : Value → Shared → Prop} {x : Addr} {ox : Obj} {od : Option Obj} {y : Value} {Q : Fin → Shared → Prop} (hu : A.units < cLine) (Xk : X.K.In s.heap) (J : PySem.W.InstAt s.heap x ox C od)
    (hs : PySem.W.findIn X.K (.ref C) "__eq__" = some (some (.ref f))) (hf : PySem.W.isFn X.K (.ref f) = true)
    (h : wpAny (model X.prog X.w) A (call (.ref f) [.ref x, y]) (fun v s' => ∃ b, v = .bool b ∧ Q (.done (.ret (.bool (!b)))) s') Em s) : wpAny (model X.prog X.w) A (Builtin.«object.__ne__» ⟨[.ref x, y], []⟩) Q Em s := by
  have eq_ : wpAny (model X.prog X.w) A (callSpecialIfBound? (.ref x) (Str.ofString "__eq__") [y]) (fun r s' => ∃ b, r = some (.bool b) ∧ Q (.done (.ret (.bool (!b)))) s') Em s :=
    PySem.W.ifBound_K Xk J hs hf (thn h fun v s' ⟨b, e, q⟩ => ⟨b, by rw [e], q⟩)
  unfold Builtin.«object.__ne__»
  repeat (first
    | with_reducible refine wpAny_cRoomFor hu ?_
    | (refine wpAny_bind (m := callSpecialIfBound? (.ref x) (Str.ofString "__eq__") [y]) (thn eq_ fun r s' z => ?_)
       obtain ⟨b, rfl, q⟩ := z
       repeat (first | exact q | exact wpAny_pure q | exact wpAny_truthy_bool q | (refine wpAny_bind (m := truthy (.bool _)) (wpAny_truthy_bool ?_)) | wp_step))
    | wp_step)
/-- a special method that is a built-in of object, asked of an instance -/
theorem bound_ne {M : Model} {A : Around} {Em : Value → Shared → Prop} {x : Addr} {ox : Obj} {od : Option Obj} {args : List Value} {Q : Option Value → Shared → Prop} (Xk : X.K.In s.heap) (J : PySem.W.InstAt s.heap x ox C od)
    (hs : PySem.W.findIn X.K (.ref C) "__ne__" = some (some (.builtin "object.__ne__"))) (h : wpAny M A (call (.builtin "object.__ne__") (.ref x :: args)) (fun v => Q (some v)) Em s) : wpAny M A (callSpecialIfBound? (.ref x) "__ne__" args) Q Em s := by
  have out : wpAny M A (call (.builtin "object.__ne__") ([.ref x] ++ args) >>= fun v => pure (some v)) Q Em s := wpAny_bind (thn h fun v s' q => wpAny_pure q)
  have look := PySem.W.looks_findIn (M := M) Xk hs
  simp only [callSpecialIfBound?, bindSpecialIfBound?]
  refine wpAny_holding (wpAny_bind (wpAny_bind (wpAny_bind (J.type.here (look.here (wpAny_bind (wpAny_askSetting (wpAny_ite ?_))))))))
  split
  · exact wpAny_bind (wpAny_of_eq (PySem.F.cmp_object.ne.bind _) (wpAny_pure (by exact out)))
  · exact wpAny_tryCatch (wpAny_bind (wpAny_of_eq (PySem.F.cmp_object.ne.bind _) (wpAny_pure (by exact out))))
/-- the callee runs below a built-in -/
theorem run_in1 {Q : VK} {us : List Value} {vs : List V} (F : FnOk X.prog X.w X.K X.mg X.base CX k f fd ps sp) (hr : Room k X.A.in1) (hb : Binds X.K fd ps []) (hx : Passes CX X E) (I : L2.Inv X pins σ H s) (r : Vals vs us) (h : sp vs H Q E) :
    wpAny (model X.prog X.w) X.A.in1 (call (.ref f) us) (EP X pins σ Q) X.xe s := by
  have hl : us.length = ps.length := by rw [← r.length]; exact F.len _ _ _ _ h
  have bd : BindsTo s fd ⟨us, []⟩ (ps.zip us) := by
    have z := hb s us I.kIn (by simpa using hl)
    simpa using z
  refine wpAny_call (codeAny_mono (F.run X.A.in1 X.stack s H ⟨us, []⟩ us vs Q E hr I.env0.in1 bd r h) ?_)
  rintro (e | fl) s' hq
  · exact hx pins σ H s e s' I hq
  · cases fl with
    | ret w => exact I.after hq
    | _ => exact False.elim hq
/-- x != y -/
def rNeIns (K : PySem.W.Frag) (C : Addr) (sp : Sp) (E : XK) : R2 := fun x y H Q => ∃ a dx fs, x = .ref a ∧ H a = some (.ins C dx fs) ∧ EqRt K C H y ∧ sp [x, y] H (fun v H' => ∃ b, v = .bl b ∧ Q (.bl (!b)) H') E
theorem op_neIns (F : FnOk X.prog X.w X.K X.mg X.base CX k f fd ps sp) (hr : Room (k + 1) X.A) (hb : Binds X.K fd ps []) (hx : Passes CX X E) (hs : PySem.W.findIn X.K (.ref C) "__eq__" = some (some (.ref f))) (hf : PySem.W.isFn X.K (.ref f) = true)
    (hne : PySem.W.findIn X.K (.ref C) "__ne__" = some (some (.builtin "object.__ne__"))) (hm : PySem.W.mroIn X.K C (.type "object") = some true) :
    OpR X (compareOp .NotEq) (rNeIns X.K C sp E) := by
  intro pins s σ H x y v u Q I rx ry h
  obtain ⟨a, dx, fs, rfl, ha, hy, q⟩ := h
  cases rx
  obtain ⟨mA, J, _⟩ := ins_get I.hok ha
  obtain ⟨od, J, _⟩ := J.look
  obtain ⟨tb, hn, ht⟩ := hy.ty I ry
  have Xk := I.kIn
  show wpAny _ _ (richCompare .NotEq (.ref a) u) _ _ _
  have one : wpAny (model X.prog X.w) X.A (tryCompare (.ref a) (Str.ofString "__ne__") u) (fun r s' => ∃ v, r = some v ∧ EP X pins σ Q v s') X.xe s := by
    have own : wpAny (model X.prog X.w) X.A.in1 (call (.ref f) [.ref a, u]) (fun v s' => ∃ b, v = .bool b ∧ EP X pins σ Q (.bool (!b)) s') X.xe s := by
      refine thn (run_in1 (us := [.ref a, u]) (vs := [.ref a, y]) F hr.in1 hb hx I (.cons rfl (.cons ry .nil)) q) fun w s' z => ?_
      obtain ⟨z', H', I', rz, b, rfl, qz⟩ := z
      exact ⟨b, rz, .bl (!b), H', I', rfl, qz⟩
    unfold tryCompare
    refine wpAny_bind (bound_ne Xk J hne (wpAny_call (codeAny_call_builtin PySem.F.cmp_object.ne.plain PySem.F.cmpEntry_ne (PySem.W.check_slot PySem.F.cmpKind_ne PySem.F.cmpSplit_ne (J.type.andThen (PySem.W.looks_mroIn Xk hm)) (PySem.F.cmpArgs_ne _ _)
      (ne_entry hr.in1.units0 Xk J hs hf (thn own fun v s' z => ?_))))))
    obtain ⟨b, rfl, z⟩ := z
    exact ⟨b, rfl, wpAny_pure ⟨_, rfl, z⟩⟩
  unfold richCompare
  simp only [oneThing_ref]
  refine wpAny_holding (wpAny_bind (wpAny_cRoomFor hr.units0 ?_))
  refine wpAny_bind (J.type.here (wpAny_bind (ht.here ?_)))
  have sub : (Value.ref C != tb) = true → PySem.W.subIn X.K tb (.ref C) = some false := fun z => by
    rcases Bool.or_eq_true_iff.mp hn with e | e
    · rw [beq_iff_eq.mp e] at z; simp at z
    · exact beq_iff_eq.mp e
  split
  · next z =>
    refine wpAny_bind ((PySem.W.looks_subIn Xk (sub z)).here ?_)
    simp only [Bool.false_eq_true, if_false]
    refine wpAny_bind (thn one fun r s' z => ?_)
    obtain ⟨v, rfl, hq⟩ := z
    exact wpAny_pure hq
  · refine wpAny_bind (wpAny_pure ?_)
    simp only [Bool.false_eq_true, if_false]
    refine wpAny_bind (thn one fun r s' z => ?_)
    obtain ⟨v, rfl, hq⟩ := z
    exact wpAny_pure hq
/-- len(x) by an own __len__ -/
def rLenIns (C : Addr) (sp : Sp) (E : XK) : List V → Hp → VK → Prop := fun xs H Q => ∃ a dx fs, xs = [.ref a] ∧ H a = some (.ins C dx fs) ∧ sp [.ref a] H (fun v H' => ∃ n : Nat, v = .int (n : Nat) ∧ n ≤ 1000 ∧ Q (.int (n : Nat)) H') E
theorem call_lenIns (F : FnOk X.prog X.w X.K X.mg X.base CX k f fd ps sp) (hr : Room (k + 1) X.A) (hb : Binds X.K fd ps []) (hx : Passes CX X E) (hs : PySem.W.findIn X.K (.ref C) "__len__" = some (some (.ref f))) (hf : PySem.W.typeIn X.K (.ref f) = some (.type "function")) :
    CallR X (.builtin "len") (rLenIns C sp E) := by
  intro pins s σ H xs us Q I r h
  obtain ⟨a, dx, fs, rfl, ha, q⟩ := h
  obtain ⟨u, rfl, ru⟩ := r.one
  cases (show u = Value.ref a from ru)
  obtain ⟨mA, J, _⟩ := ins_get I.hok ha
  obtain ⟨od, J, _⟩ := J.look
  have own := run_in1 (us := [.ref a]) (vs := [.ref a]) F hr.in1 hb hx I (.cons rfl .nil) q
  refine Calls.call_function_entry kind_len plain_len entry_len (args_len1 _) ?_
  unfold Builtin.«len»
  refine wpAny_bind (m := oneArg "len" _) (wpAny_pure (wpAny_bind (m := callSpecial? (.ref a) (Str.ofString "__len__")) ?_))
  unfold callSpecial? specialOf
  refine wpAny_bind (wpAny_bind (J.type.here ((PySem.W.looks_findIn I.kIn hs).here ?_)))
  refine wpAny_holding (wpAny_bind ((PySem.W.bind_fn I.kIn (.ref a) hf).here (wpAny_bind (thn own fun w s' z => wpAny_pure ?_))))
  obtain ⟨z', H', I', rz, n, rfl, hn, qz⟩ := z
  obtain ⟨t, rfl⟩ := (show ∃ t, w = Value.int (n : Nat) t from rz)
  refine wpAny_bind (wpAny_holding (wpAny_pure (wpAny_bind (wpAny_letGo ?_))))
  show wpAny _ _ (if ((n : Nat) : Int) < 0 then _ else _) _ _ _
  rw [if_neg (by omega)]
  show wpAny _ _ (if ((n : Nat) : Int) ≥ 2 ^ 63 then _ else _) _ _ _
  rw [if_neg (by omega)]
  exact wpAny_bind (wpAny_mkInt (wpAny_pure ⟨_, rfl, .int (n : Nat), H', I'.tok _, ⟨_, rfl⟩, qz⟩))
end
end Sr

set_option Elab.async false
set_option linter.all false
set_option maxRecDepth 100000
set_option maxHeartbeats 4000000
namespace Sr
open PySem PySem.Spec PyProof.Rows L2
/-! ### == by an own __eq__, the right side of any common kind -/
theorem first_ty {K : PySem.W.Frag} {C : Addr} {n : String} {l : List Value} (e : fastBuiltinMro n = some l) (h : l.contains (.ref C) = false) : PySem.W.notFirst K C (.type n) = true := by
  have s : PySem.W.subIn K (.type n) (.ref C) = some false := by
    show (fastBuiltinMro n).map (·.contains (.ref C)) = some false
    rw [e, Option.map_some, h]
  unfold PySem.W.notFirst
  rw [s]
  simp
def EqRt2 (K : PySem.W.Frag) (C : Addr) (H : Hp) (y : V) : Prop := EqRt K C H y ∨ y = .non ∨ (∃ z, y = .str z) ∨ ∃ b kvs, y = .ref b ∧ H b = some (.dK kvs)
def rEqIns2 (K : PySem.W.Frag) (C : Addr) (sp : Sp) (E : XK) : R2 := fun x y H Q => ∃ a dx fs, x = .ref a ∧ H a = some (.ins C dx fs) ∧ EqRt2 K C H y ∧ sp [x, y] H Q E
section
variable {X : Cx} {pins : List (Addr × Obj)} {σ : L2.St} {H : Hp} {s : Shared}
theorem EqRt2.ty {C : Addr} {y : V} {u : Value} (I : L2.Inv X pins σ H s) (ry : L2.RelV y u) (h : EqRt2 X.K C H y) : ∃ tb, PySem.W.notFirst X.K C tb = true ∧ PySem.W.Looks (model X.prog X.w) s.heap (typeOf u) tb := by
  rcases h with h | rfl | ⟨z, rfl⟩ | ⟨b, kvs, rfl, hb⟩
  · exact h.ty I ry
  · cases ry
    exact ⟨.type "NoneType", first_ty (l := [.type "NoneType", .type "object"]) (by decide +kernel) (by first | rfl | simp), .now⟩
  · obtain ⟨t, rfl⟩ := ry
    exact ⟨.type "str", first_ty (l := [.type "str", .type "object"]) (by decide +kernel) (by first | rfl | simp), .now⟩
  · cases ry
    obtain ⟨_, _, vs, _, o, es, ep, hq, hc, _⟩ := (show ObjOk X.prog X.w H s.heap b (.dK kvs) from I.hok b _ hb)
    refine ⟨.type "dict", first_ty (l := [.type "dict", .type "object"]) (by decide +kernel) (by first | rfl | simp), ?_⟩
    rw [← hc.1]
    exact (PySem.W.Looks.ld (part := none) hq).andThen .now
variable {CX : CXT} {k : Nat} {C f : Addr} {fd : FuncData} {ps : List Str} {sp : Sp} {E : XK}
theorem op_eqIns2 (F : FnOk X.prog X.w X.K X.mg X.base CX k f fd ps sp) (hr : Room k X.A) (hb : Binds X.K fd ps []) (hx : Passes CX X E) (hs : PySem.W.findIn X.K (.ref C) "__eq__" = some (some (.ref f))) (hf : PySem.W.isFn X.K (.ref f) = true) :
    OpR X (compareOp .Eq) (rEqIns2 X.K C sp E) := by
  intro pins s σ H x y v u Q I rx ry h
  obtain ⟨a, dx, fs, rfl, ha, hy, q⟩ := h
  cases rx
  obtain ⟨mA, J, _⟩ := ins_get I.hok ha
  obtain ⟨od, J, _⟩ := J.look
  obtain ⟨m, hF⟩ := I.fr
  obtain ⟨tb, hn, ht⟩ := hy.ty I ry
  show wpAny _ _ (richCompare .Eq (.ref a) u) _ _ _
  refine PySem.W.cmp_K (op := .Eq) (tb := tb) hr.units0 hF I.ok.mod.kin J ht hn hs hf ?_
  refine thn (run_fn (us := [.ref a, u]) (vs := [.ref a, y]) (dvs := []) (ds := []) F hr hb .nil hx I (.cons rfl (.cons ry .nil)) q) fun w s' z => ?_
  obtain ⟨z', H', I', rz, qz⟩ := z
  exact SlX.cmpback rz ⟨z', H', I', rz, qz⟩
end
end Sr

set_option Elab.async false
set_option linter.all false
set_option maxRecDepth 100000
set_option maxHeartbeats 4000000
namespace Sr
open PySem PySem.Spec PyProof.Rows L2
/-! ### methods, len, ==, != of an instance, from CalM -/
theorem m0_ {X : Cx} {k j : Nat} {C f : Addr} {ps : List Str} {sp : Sp} {m : Str} {o : Expr} {ta : TE} {p apos : Pos} {pl : Sem Bool} (M : CalM X.prog X.w X.K X.mg X.base CX0 k f ps sp) (hr : Room j X.A) (hk : k ≤ j) (c : Cls X.K C) (hm : Meth X.K C m f) (he : PE X o ta)
    (ht : eval (.Call (.Attribute o m apos) [] [] p) X.env = (do
      let ov ← eval o X.env
      standAt apos.atName
      let (f, first) ← holding [ov] (getMethod ov m pl)
      callWith p f first (backTo p (starEach [] X.env)) (backToKw p (keywordEach [] X.env))) := by rfl) : PE X (.Call (.Attribute o m apos) [] [] p) (tMeth C m sp [] E0 ta tNil) := by
  obtain ⟨fd, F, kp, hb⟩ := M.ex
  exact pe_meth0 he c hm F (hr.mono hk) hb .nil pass0 ht
theorem mE_ {X : Cx} {K : PySem.W.Frag} {k j : Nat} {C f : Addr} {ps : List Str} {sp : Sp} {m : Str} {o e : Expr} {es : List Expr} {ta : TE} {t : TA} {p apos : Pos} {pl : Sem Bool} {E : XK} (M : CalM X.prog X.w K X.mg X.base (L2.CX X.prog X.w) k f ps sp) (hK : X.K = K) (hr : Room j X.A) (hk : k ≤ j) (c : Cls K C) (hm : Meth K C m f) (hx : Passes (L2.CX X.prog X.w) X E) (he : PE X o ta) (ha : PA X (e :: es) t)
    (hst : starEach (e :: es) X.env = (false, eval e X.env) :: starEach es X.env := by rfl) (hpl : (backTo p (starEach es X.env)).any (·.1) = false := by rfl)
    (ht : eval (.Call (.Attribute o m apos) (e :: es) [] p) X.env = (do
      let ov ← eval o X.env
      standAt apos.atName
      let (f, first) ← holding [ov] (getMethod ov m pl)
      callWith p f first (backTo p (starEach (e :: es) X.env)) (backToKw p (keywordEach [] X.env))) := by rfl) : PE X (.Call (.Attribute o m apos) (e :: es) [] p) (tMeth C m sp [] E ta t) := by
  subst hK
  obtain ⟨fd, F, kp, hb⟩ := M.ex
  exact pe_meth he c hm F (hr.mono hk) hb .nil hx ha hst hpl ht
theorem len_ {X : Cx} {k j : Nat} {C f : Addr} {ps : List Str} {sp : Sp} (M : CalM X.prog X.w X.K X.mg X.base CX0 k f ps sp) (hr : Room j X.A) (hk : k + 1 ≤ j) (hs : PySem.W.findIn X.K (.ref C) "__len__" = some (some (.ref f))) (hf : PySem.W.typeIn X.K (.ref f) = some (.type "function")) : CallR X (.builtin "len") (rLenIns C sp E0) := by
  obtain ⟨fd, F, kp, hb⟩ := M.ex
  exact call_lenIns F (hr.mono hk) hb pass0 hs hf
theorem eq_ {X : Cx} {K : PySem.W.Frag} {k j : Nat} {C f : Addr} {ps : List Str} {sp : Sp} (M : CalM X.prog X.w K X.mg X.base CX0 k f ps sp) (hK : X.K = K) (hr : Room j X.A) (hk : k ≤ j) (hs : PySem.W.findIn K (.ref C) "__eq__" = some (some (.ref f))) (hf : PySem.W.isFn K (.ref f) = true) :
    OpR X (compareOp .Eq) (rEqIns2 K C sp E0) := by
  subst hK
  obtain ⟨fd, F, kp, hb⟩ := M.ex
  exact op_eqIns2 F (hr.mono hk) hb pass0 hs hf
theorem ne_ {X : Cx} {k j : Nat} {C f : Addr} {ps : List Str} {sp : Sp} (M : CalM X.prog X.w X.K X.mg X.base CX0 k f ps sp) (hr : Room j X.A) (hk : k + 1 ≤ j) (hs : PySem.W.findIn X.K (.ref C) "__eq__" = some (some (.ref f))) (hf : PySem.W.isFn X.K (.ref f) = true)
    (hne : PySem.W.findIn X.K (.ref C) "__ne__" = some (some (.builtin "object.__ne__"))) (hm : PySem.W.mroIn X.K C (.type "object") = some true) : OpR X (compareOp .NotEq) (rNeIns X.K C sp E0) := by
  obtain ⟨fd, F, kp, hb⟩ := M.ex
  exact op_neIns F (hr.mono hk) hb pass0 hs hf hne hm
end Sr

set_option Elab.async false
set_option linter.all false
set_option maxRecDepth 100000
set_option maxHeartbeats 4000000
namespace K31
open PySem PySem.Spec PyProof.Rows L2 Sr
/-! ### members() and things() -/
theorem met_mem {xs : List Str} {s : Str} : ∀ {i : Nat}, i ≤ xs.length → (s ∈ met xs i ↔ s ∈ xs.take i)
  | 0, _ => by simp [met]
  | i + 1, h => by
    have lt : i < xs.length := h
    have ih := met_mem (xs := xs) (s := s) (i := i) (by omega)
    have e : xs.getD i Str.empty = xs[i] := by rw [List.getD_eq_getElem?_getD, List.getElem?_eq_getElem lt]; rfl
    have et : xs.take (i + 1) = xs.take i ++ [xs[i]] := by rw [List.take_succ, List.getElem?_eq_getElem lt]; rfl
    rw [← met_at, e, et, List.mem_append, List.mem_singleton]
    split
    · rename_i c
      obtain ⟨y, my, ey⟩ := List.any_eq_true.mp c
      obtain rfl : y = xs[i] := beq_iff_eq.mp ey
      rw [ih]
      refine ⟨.inl, fun z => z.elim id fun z => ?_⟩
      rw [z]
      exact (met_mem (by omega)).mp my
    · rw [List.mem_append, List.mem_singleton, ih]
theorem met_nd (xs : List Str) : ∀ i, (met xs i).Nodup
  | 0 => List.nodup_nil
  | i + 1 => by
    rw [← met_at]
    split
    · exact met_nd xs i
    · rename_i c
      refine List.nodup_append.mpr ⟨met_nd xs i, List.nodup_cons.mpr ⟨List.not_mem_nil, List.nodup_nil⟩, fun x m y my e => c (List.any_eq_true.mpr ⟨x, m, beq_iff_eq.mpr ?_⟩)⟩
      rw [e, List.mem_singleton.mp my]
/-- ascending, each once: the same as those -/
def SetOf (ys xs : List Str) : Prop := ys.Nodup ∧ PyProof.Rows.sortedS ys = true ∧ ∀ s, s ∈ ys ↔ s ∈ xs
theorem setOf_met {xs ys : List Str} (p : ys.Perm (met xs xs.length)) (so : PyProof.Rows.sortedS ys = true) : SetOf ys xs :=
  ⟨p.nodup_iff.mpr (met_nd xs _), so, fun s => by rw [p.mem_iff, met_mem (Nat.le_refl _), List.take_length]⟩
theorem setOf_one {xs xs' ys ys' : List Str} (a : SetOf ys xs) (b : SetOf ys' xs') (h : ∀ s, s ∈ xs ↔ s ∈ xs') : ys = ys' := by
  have p : ys.Perm ys' := (List.perm_ext_iff_of_nodup a.1 b.1).mpr fun s => by rw [a.2.2, b.2.2, h]
  exact sorted_one p (List.Perm.refl _) a.2.1 b.2.1
def sides (gs : List Leg) : List Str := gs.flatMap fun g => [g.1, g.2.2.2]
theorem sides_take {gs : List Leg} {i : Nat} {g : Leg} (h : gs[i]? = some g) : sides (gs.take (i + 1)) = sides (gs.take i) ++ [g.1, g.2.2.2] := by
  unfold sides
  rw [List.take_add_one, h, List.flatMap_append]
  rfl
theorem sides_len : ∀ gs : List Leg, (sides gs).length = 2 * gs.length
  | [] => rfl
  | g :: r => by
    show ([g.1, g.2.2.2] ++ sides r).length = _
    rw [List.length_append, sides_len r, List.length_cons]
    show 2 + 2 * r.length = 2 * (r.length + 1)
    omega
theorem leg_vals {H : Hp} {g : Leg} {vs : List V} (h : IsA H vs (legDs g)) : vs = legVs g := by
  cases h with
  | cons a h => cases a; cases h with
    | cons a h => cases a; cases h with
      | cons a h => cases a; cases h with
        | cons a h => cases a; cases h; rfl
theorem leg_at {H : Hp} {v : V} {g : Leg} (h : Is H v (legT g)) : ∃ t, v = .ref t ∧ H t = some (.tup (legVs g)) := by
  cases h with
  | tup hv rv zv => exact ⟨_, rfl, by rw [leg_vals rv] at hv; exact hv⟩
def spMem (K : PySem.W.Frag) : Sp := fun vs H Q _ => ∃ x hs its, vs = [.ref x] ∧ QueR K H H x hs its ∧ ∀ H' p ys, Same H H' → H p = none → H' p = some (.lst (ys.map V.str)) → SetOf ys (hs.map (·.1) ++ sides (legsOf its)) → Q (.ref p) H'
section
variable {P : Program} {w : World} {K : PySem.W.Frag} {mg : Str → Option Value} {base : Heap}
structure QueM (K : PySem.W.Frag) : Prop where
  legs : Meth K (He.ga K "Queues") "_legs" (He.fAd K ("Queues", some "_legs"))
abbrev s_Queues_members : Stmt := inClass (top 14) 3
theorem sc_Queues_members : FnScope ["self", "sides", "side", "giver", "_", "taker"] ["self"] (defScope s_Queues_members) := ⟨rfl, rfl, rfl, by decide +kernel, rfl, by decide +kernel, by decide +kernel⟩
theorem m_members (T : Txt K mg) (O : Que K mg) (OM : QueM K) (D : DfnM K "Queues" "members" "Queues.members" s_Queues_members) (ML : CalM P w K mg base CX0 1 (He.fAd K ("Queues", some "_legs")) ["self"] (spLegs K)) : CalM P w K mg base CX0 2 (He.fAd K ("Queues", some "members")) ["self"] (spMem K) := by
  refine D.cal sc_Queues_members (fun _ _ _ _ _ _ us hl => match us, hl with | [_], _ => rfl) (fun vs H Q E h => ?_) fun cdv A outer s H vs Q E hr h => ?_
  · obtain ⟨x, hs, its, rfl, _⟩ := h
    rfl
  obtain ⟨x, hs, its, rfl, h, q⟩ := h
  obtain ⟨dx, c, l, kc, us, h1, h2, h3, h4, h5, g, gi⟩ := id h
  refine ⟨_, (pss_cons (ps_setLc2 (i := 1) (own := [("giver", 3), ("_", 4), ("_", 4), ("taker", 5), ("side", 2)]) (vs1 := [2]) (g := gTup K 4 (gCons (gName 3) (gCons (gName 4) (gCons (gName 4) (gCons (gName 5) gNil))))) (tt := tYes) (g1 := gName 2) (tt1 := tYes) rfl sc_Queues_members.nd rfl rfl (sw_true rfl rfl rfl rfl) (pi_list (m0_ ML hr (by decide) O.cl OM.legs (pv 0))) (blkOk_by (N := ["self", "sides", "side", "giver", "_", "taker"]) (sc := defScope s_Queues_members) (by decide +kernel)) (by decide) (fun _ _ _ _ _ => (pg_tup rfl (pgs_cons (pg_name (i := 3) sc_Queues_members.nd rfl (by first | exact Or.inl rfl | exact Or.inr rfl)) (pgs_cons (pg_name (i := 4) sc_Queues_members.nd rfl (by first | exact Or.inl rfl | exact Or.inr rfl)) (pgs_cons (pg_name (i := 4) sc_Queues_members.nd rfl (by first | exact Or.inl rfl | exact Or.inr rfl)) (pgs_cons (pg_name (i := 5) sc_Queues_members.nd rfl (by first | exact Or.inl rfl | exact Or.inr rfl)) pgs_nil)))))) (fun _ _ _ _ _ => pts_nil) (fun _ _ _ _ _ => (pi_seqK K rfl (pe_tup (pa_cons (pv 3) (pa_cons (pv 5) pa_nil))))) (fun _ _ _ _ _ => (pg_name (i := 2) sc_Queues_members.nd rfl (by first | exact Or.inl rfl | exact Or.inr rfl))) (fun _ _ _ _ _ => pts_nil) (fun _ _ _ _ _ => (pv 2)))
      (pss_one (ps_ret (pe_sortTxt rfl (by rfl) T.sorted (by rfl) T.set (pe_op op_cat (pe_callTy (T := "list") (call_list_dK rfl) (by rfl) T.list (by decide +kernel) (pa_cons (pe_fld (pv 0) rfl) pa_nil)) (pv 1)))))), ?_⟩
  refine ⟨_, rfl, x, dx, _, rfl, h1, rfl, x, hs, its, rfl, h, fun H1 p us s1 hp hus isl => ⟨p, rfl, ⟨_, SqL.of hus⟩, fun B hB => ?_⟩⟩
  have lus : us.length = (legsOf its).length := by rw [isl.len, List.length_map]
  have la := legs_all gi
  have below : ∀ {H' : Hp} {o : HO}, Same H1 H' → Same H1 (upd H' B o) := fun {H' o} s c u e => by
    rw [upd_ne (ne_of_none e hB)]
    exact s _ _ e
  refine ⟨fun i m H' => i + m = us.length ∧ Same H1 H' ∧ H' B = some (.lst ((sides ((legsOf its).take i)).map V.str)), ⟨us.length, by omega, below (Same.refl H1), by rw [upd_same]; rfl⟩, ?_⟩
  rintro i m H3 ⟨im, s3, a3⟩
  by_cases lt : i < us.length
  · have li : i < (legsOf its).length := by omega
    have hit : (legsOf its)[i]? = some (legsOf its)[i] := List.getElem?_eq_getElem li
    generalize hg : (legsOf its)[i] = gl at hit
    refine .inr ⟨walk_list.goes i H3 lt (SqL.of (s3 _ _ hus)), fun H' => Same H1 H' ∧ H' B = some (.lst ((sides ((legsOf its).take (i + 1))).map V.str)), fun H' h' => ⟨m - 1, by omega, by omega, h'⟩, fun y H4 yy => ?_⟩
    obtain ⟨rfl, hy⟩ := walk_list.yields i H3 y H4 lt (SqL.of (s3 _ _ hus)) yy
    obtain ⟨d, e1, iv⟩ := isl.get hy
    rw [List.getElem?_map, hit] at e1
    obtain rfl : legT gl = d := Option.some.inj e1
    obtain ⟨t, rfl, ht⟩ := leg_at iv
    refine ⟨t, _, rfl, SqT.of (s3 _ _ ht), rfl, _, _, rfl, _, _, rfl, _, _, rfl, _, _, rfl, rfl, rfl, ?_⟩
    simp only [tYes, if_true]
    refine ⟨_, rfl, _, rfl, two_line, fun t2 ht2 => ?_⟩
    have s4 := Same.up (o := .tup [.str gl.1, .str gl.2.2.2]) ht2
    refine ⟨t2, rfl, .inr ⟨⟨_, SqT.of upd_same⟩, ?_⟩⟩
    have hv : (upd H4 t2 (.tup [.str gl.1, .str gl.2.2.2])) t2 = some (.tup ([gl.1, gl.2.2.2].map V.str)) := upd_same
    have a4 := s4 _ _ a3
    have nB : t2 ≠ B := fun z => by rw [z, a3] at ht2; cases ht2
    have s34 := s3.trans s4
    generalize upd H4 t2 _ = G at s4 hv a4 s34 ⊢
    refine ⟨fun j n H' => j + n = 2 ∧ Same H1 H' ∧ H' t2 = some (.tup ([gl.1, gl.2.2.2].map V.str)) ∧ H' B = some (.lst ((sides ((legsOf its).take i) ++ [gl.1, gl.2.2.2].take j).map V.str)), ⟨2, by omega, s34, hv, by rw [List.take_zero, List.append_nil]; exact a4⟩, ?_⟩
    rintro j n H5 ⟨jn, s5, hv5, a5⟩
    by_cases lj : j < 2
    · refine .inr ⟨(walk_tup (K := K) (a := t2) (xs := [gl.1, gl.2.2.2].map V.str)).goes j H5 lj (SqT.of hv5), fun H' => Same H1 H' ∧ H' t2 = some (.tup ([gl.1, gl.2.2.2].map V.str)) ∧ H' B = some (.lst ((sides ((legsOf its).take i) ++ [gl.1, gl.2.2.2].take (j + 1)).map V.str)), fun H' h' => ⟨n - 1, by omega, by omega, h'⟩, fun y H6 yy => ?_⟩
      obtain ⟨rfl, hy2⟩ := (walk_tup (K := K) (a := t2) (xs := [gl.1, gl.2.2.2].map V.str)).yields j H5 y H6 lj (SqT.of hv5) yy
      rw [List.getElem?_map] at hy2
      obtain ⟨sn, hsn, rfl⟩ := Option.map_eq_some_iff.mp hy2
      have lacc : ((sides ((legsOf its).take i) ++ [gl.1, gl.2.2.2].take j).map V.str).length < 2000 := by
        rw [List.length_map, List.length_append, sides_len, List.length_take, List.length_take]
        show 2 * _ + min j 2 < 2000
        omega
      refine ⟨rfl, _, rfl, _, a5, Nat.lt_of_lt_of_le lacc (by rw [sizeLine_eq]; decide), below s5, by rw [upd_ne nB]; exact hv5, ?_⟩
      rw [upd_same, List.take_add_one, hsn, ← List.append_assoc, List.map_append (l₂ := (some sn).toList)]
      rfl
    · obtain rfl : j = 2 := by omega
      refine .inl ⟨(walk_tup (K := K) (a := t2) (xs := [gl.1, gl.2.2.2].map V.str)).stops H5 (SqT.of hv5), s5, ?_⟩
      rw [sides_take hit]
      exact a5
  · obtain rfl : i = us.length := by omega
    rw [lus, List.take_length] at a3
    refine .inl ⟨walk_list.stops H3 (SqL.of (s3 _ _ hus)), ?_⟩
    have s03 := s1.trans s3
    try dsimp only
    have ls : (sides (legsOf its)).length ≤ 48 := by rw [sides_len]; omega
    have lk : kc.length = hs.length := Paired.length h3
    have kn := (keys_names (F := fun v (r : Rw) => ∃ d kr, v = .ref d ∧ H d = some (.dK kr) ∧ CoinsC kr r) h3).1
    have lh := g.2.1
    refine ⟨_, rfl, x, _, dx, _, _, rfl, s03 _ _ h1, O.cl, O.nH, rfl, c, kc, rfl, s03 _ _ h2, fun p2 hp2 => ?_⟩
    have s5 := Same.up (o := .lst (kc.map fun kv => kV kv.1)) hp2
    refine ⟨_, rfl, p2, B, _, _, rfl, rfl, upd_same, s5 _ _ a3, ?_, fun f hf => ?_⟩
    · rw [List.length_map, List.length_map]
      exact Nat.le_trans (show _ ≤ 1300 by omega) (by rw [sizeLine_eq]; decide)
    have ec : kc.map (fun kv => kV kv.1) ++ (sides (legsOf its)).map V.str = (hs.map (·.1) ++ sides (legsOf its)).map V.str := by rw [kn, List.map_append]
    have s6 := Same.up (o := .lst (kc.map (fun kv => kV kv.1) ++ (sides (legsOf its)).map V.str)) hf
    rw [ec] at s6 ⊢
    refine ⟨f, _, rfl, SqL.of upd_same, by rw [List.length_append, List.length_map]; omega, fun ys p3 pm so hp3 => ?_⟩
    have s036 := s03.trans (s5.trans s6)
    exact q _ p3 ys (s036.trans (Same.up hp3)) (free_below s036 hp3) upd_same (setOf_met pm so)
end
end K31

set_option Elab.async false
set_option linter.all false
set_option maxRecDepth 100000
set_option maxHeartbeats 4000000
namespace Sr
open PySem PySem.Spec PyProof.Rows L2
theorem look_rel {c : Str × NameKind → Bool} (hc : ∀ p, c p = true → p.2 = .free) {x : Str} : ∀ {names : List (Str × NameKind)}, names.lookup x = some .cell ∨ names.lookup x = some .free →
    (names.map fun p => if c p = true then (p.1, NameKind.cell) else p).lookup x = some .cell ∨ (names.map fun p => if c p = true then (p.1, NameKind.cell) else p).lookup x = some .free
  | [], h => by rcases h with h | h <;> cases h
  | (n, k) :: r, h => by
    rw [List.map_cons]
    rw [List.lookup_cons] at h
    by_cases e : x = n
    · subst e
      rw [beq_self_eq_true] at h
      by_cases q : c (x, k) = true
      · rw [if_pos q, List.lookup_cons, beq_self_eq_true]
        exact .inl rfl
      · rw [if_neg q, List.lookup_cons, beq_self_eq_true]
        exact h
    · rw [beq_false_of_ne e] at h
      have ih := look_rel hc h
      by_cases q : c (n, k) = true
      · rw [if_pos q, List.lookup_cons, beq_false_of_ne e]
        exact ih
      · rw [if_neg q, List.lookup_cons, beq_false_of_ne e]
        exact ih
/-- a block within a block: its free names are the outer block's -/
theorem blkOk_c {N : List Str} {sc1 scope : Scope} {own : List (Str × Nat)} {cl : List (Str × Addr)} {C : Addr} {env : Env} (h : blkC N sc1 scope own = true) : BlkOk N (compEnvC sc1 cl C env).scope scope own := by
  obtain ⟨h1, h2, h3, h4, h5⟩ := blkOk_by h
  refine ⟨h1, h2, h3, fun y hy e => ?_, h5⟩
  refine look_rel (c := fun p => p.2 == NameKind.free && env.scope.kind == .function && env.kindOf p.1 == some .cell) (fun p hp => ?_) (h4 y hy e)
  have := (Bool.and_eq_true_iff.mp (Bool.and_eq_true_iff.mp hp).1).1
  obtain ⟨n, k⟩ := p
  cases k <;> first | rfl | cases this
theorem cr_anyK {X : Cx} (K : PySem.W.Frag) (hK : X.K = K) (hc : X.calm = true) : CallR X (.builtin "any") (rAny K) := hK ▸ cr_any hc
theorem cr_allK {X : Cx} (K : PySem.W.Frag) (hK : X.K = K) (hc : X.calm = true) : CallR X (.builtin "all") (rAll K) := hK ▸ cr_all hc
end Sr

set_option Elab.async false
set_option linter.all false
set_option maxRecDepth 100000
set_option maxHeartbeats 4000000
namespace K31
open PySem PySem.Spec PyProof.Rows L2 Sr
theorem name_lay {s : Str} (h : nameOk (.str s) = true) : PyData.canLay0 (.str s) = true := by
  have hs : ∀ c ∈ signs.cps.toList, decide (c < 0x110000) = true := by decide +kernel
  have h2 := (Bool.and_eq_true_iff.mp h).2
  show s.cps.all (fun c => decide (c < 0x110000)) = true
  rw [← Array.all_toList]
  rw [List.all_eq_true] at h2 ⊢
  intro c m
  exact hs c (of_decide_eq_true (h2 c m))
mutual
theorem dp_mono {K : PySem.W.Frag} {H H' : Hp} (s : Same H H') : ∀ {v : V} {d : PyData}, Dp K H v d → Dp K H' v d
  | _, _, .non => .non
  | _, _, .bl b => .bl b
  | _, _, .int i => .int i
  | _, _, .str x => .str x
  | _, _, .lst h r => .lst (sql_mono s h) (dpA_mono s r)
  | _, _, .tup h r => .tup (sqt_mono s h) (dpA_mono s r)
theorem dpA_mono {K : PySem.W.Frag} {H H' : Hp} (s : Same H H') : ∀ {vs : List V} {ds : List PyData}, DpAll K H vs ds → DpAll K H' vs ds
  | _, _, .nil => .nil
  | _, _, .cons h r => .cons (dp_mono s h) (dpA_mono s r)
end
theorem name_shaped {s : Str} (h : nameOk (.str s) = true) : SeqAt.shaped (.str s) = true := by
  unfold SeqAt.shaped
  rw [name_lay h, Bool.true_and]
  exact decide_eq_true (Nat.zero_le 64)
/-! ### __len__ and queue(member, thing) -/
def spLen (K : PySem.W.Frag) : Sp := fun vs H Q _ => ∃ x hs its, vs = [.ref x] ∧ QueR K H H x hs its ∧ Q (.int its.length) H
def hitL (d1 d2 : PyData) (g : Leg) : Bool := PyData.eqv (.str g.1) d1 && PyData.eqv (.str g.2.1) d2
def queueOf (d1 d2 : PyData) (its : Its) : List Int := ((its.zipIdx).filter fun p => p.1.any (hitL d1 d2)).map fun p => (p.2 : Int)
def spQueue (K : PySem.W.Frag) : Sp := fun vs H Q _ => ∃ x v u hs its d1 d2, vs = [.ref x, v, u] ∧ QueR K H H x hs its ∧ Dp K H v d1 ∧ SeqAt.shaped d1 = true ∧ ((Dp K H u d2 ∧ SeqAt.shaped d2 = true) ∨ ∀ it ∈ its, ∀ g ∈ it, PyData.eqv (.str g.1) d1 = false) ∧
  ∀ H' p, Same H H' → H p = none → H' p = some (.lst ((queueOf d1 d2 its).map V.int)) → Q (.ref p) H'
section
variable {P : Program} {w : World} {K : PySem.W.Frag} {mg : Str → Option Value} {base : Heap}
abbrev s_Queues___len__ : Stmt := inClass (top 14) 9
theorem sc_Queues___len__ : FnScope ["self"] ["self"] (defScope s_Queues___len__) := ⟨rfl, rfl, rfl, by decide +kernel, rfl, by decide +kernel, by decide +kernel⟩
theorem m_len (T : Txt K mg) (O : Que K mg) (D : DfnM K "Queues" "__len__" "Queues.__len__" s_Queues___len__) : CalM P w K mg base CX0 1 (He.fAd K ("Queues", some "__len__")) ["self"] (spLen K) := by
  refine D.cal sc_Queues___len__ (fun _ _ _ _ _ _ us hl => match us, hl with | [_], _ => rfl) (fun vs H Q E h => ?_) fun cdv A outer s H vs Q E hr h => ?_
  · obtain ⟨x, hs, its, rfl, _⟩ := h
    rfl
  obtain ⟨x, hs, its, rfl, h, q⟩ := h
  obtain ⟨dx, c, l, kc, us, h1, h2, h3, h4, h5, g, gi⟩ := id h
  have lus : us.length = its.length := by rw [h5.len, List.length_map]
  rw [← lus] at q
  refine ⟨_, (pss_one (ps_ret (pe_callB (id := "len") call_len_seq (by rfl) T.len (by decide +kernel) (pa_cons (pe_fld (pv 0) rfl) pa_nil)))), ?_⟩
  exact ⟨_, rfl, x, _, dx, _, _, rfl, h1, O.cl, O.nI, rfl, l, us, rfl, .inl (SqL.of h4), q⟩
abbrev s_Queues_queue : Stmt := inClass (top 14) 5
theorem sc_Queues_queue : FnScope ["self", "member", "thing", "number", "item", "leg"] ["self", "member", "thing"] (defScope s_Queues_queue) := ⟨rfl, rfl, rfl, by decide +kernel, rfl, by decide +kernel, by decide +kernel⟩
theorem zip_take {α : Type} {l : List α} {i : Nat} {a : α} (h : l[i]? = some a) : (l.take (i + 1)).zipIdx = (l.take i).zipIdx ++ [(a, i)] := by
  have li := (List.getElem?_eq_some_iff.mp h).1
  rw [List.take_add_one, h, List.zipIdx_append, List.length_take, Nat.min_eq_left (by omega)]
  simp
theorem queue_take {d1 d2 : PyData} {its : Its} {i : Nat} {it : List Leg} (h : its[i]? = some it) : queueOf d1 d2 (its.take (i + 1)) = queueOf d1 d2 (its.take i) ++ (if it.any (hitL d1 d2) = true then [(i : Int)] else []) := by
  unfold queueOf
  rw [zip_take h, List.filter_append, List.map_append]
  congr 1
  rw [List.filter_cons]
  cases it.any (hitL d1 d2) <;> rfl
theorem queue_len (d1 d2 : PyData) (its : Its) : (queueOf d1 d2 its).length ≤ its.length := by
  unfold queueOf
  rw [List.length_map]
  refine Nat.le_trans (List.length_filter_le _ _) ?_
  rw [List.length_zipIdx]
  exact Nat.le_refl _
theorem m_queue (T : Txt K mg) (O : Que K mg) (D : DfnM K "Queues" "queue" "Queues.queue" s_Queues_queue) : CalM P w K mg base CX0 1 (He.fAd K ("Queues", some "queue")) ["self", "member", "thing"] (spQueue K) := by
  refine D.cal sc_Queues_queue (fun _ _ _ _ _ _ us hl => match us, hl with | [_, _, _], _ => rfl) (fun vs H Q E h => ?_) fun cdv A outer s H vs Q E hr h => ?_
  · obtain ⟨x, v, u, hs, its, d1, d2, rfl, _⟩ := h
    rfl
  obtain ⟨x, v, u, hs, its, d1, d2, rfl, h, i1, sh1, i2, q⟩ := h
  obtain ⟨dx, c, l, kc, us, h1, h2, h3, h4, h5, g, gi⟩ := id h
  refine ⟨_, (pss_one (ps_ret (pe_lc (own := [("number", 3), ("item", 4)]) (g := gTup K 2 (gCons (gName 3) (gCons (gName 4) gNil))) rfl sc_Queues_queue.nd (pi_enum (by rfl) T.enumerate (pa_cons (pe_fld (pv 0) rfl) pa_nil)) (blkOk_by (N := ["self", "member", "thing", "number", "item", "leg"]) (sc := defScope s_Queues_queue) (by decide +kernel)) (fun _ _ _ _ _ => (pg_tup rfl (pgs_cons (pg_name (i := 3) sc_Queues_queue.nd rfl (by first | exact Or.inl rfl | exact Or.inr rfl)) (pgs_cons (pg_name (i := 4) sc_Queues_queue.nd rfl (by first | exact Or.inl rfl | exact Or.inr rfl)) pgs_nil)))) (fun _ _ _ _ _ => (pts_one (pt_val (pe_callB (id := "any") (cr_anyK K rfl rfl) (by rfl) T.any (by decide +kernel) (pa_cons (pe_lc (own := [("leg", 5)]) (g := gName 5) (tt := tYes) rfl sc_Queues_queue.nd (pi_seqK K rfl (pv 4)) (blkOk_c (N := ["self", "member", "thing", "number", "item", "leg"]) (by decide +kernel)) (fun _ _ _ _ _ => (pg_name (i := 5) sc_Queues_queue.nd rfl (by first | exact Or.inl rfl | exact Or.inr rfl))) (fun _ _ _ _ _ => pts_nil) (fun _ _ _ _ _ => (pe_and (pe_cmpR (op_eqDK K rfl hr.units) (pe_ix (ix_tupK K rfl) (pv 5) pe_int (fun _ _ => rfl)) (pv 1) (nomark _)) (pe_one (pe_cmpR (op_eqDK K rfl hr.units) (pe_ix (ix_tupK K rfl) (pv 5) pe_int (fun _ _ => rfl)) (pv 2) (nomark _)))))) pa_nil))))) (fun _ _ _ _ _ => (pv 3))))), ?_⟩
  have lus : us.length = its.length := by rw [h5.len, List.length_map]
  refine ⟨_, rfl, x, _, dx, _, _, rfl, h1, O.cl, O.nI, rfl, l, us, rfl, SqL.of h4, fun B hB => ?_⟩
  have below : ∀ {H' : Hp} {o : HO}, Same H H' → Same H (upd H' B o) := fun {H' o} s c u e => by
    rw [upd_ne (ne_of_none e hB)]
    exact s _ _ e
  refine lc_it walk_enum (fun i H' => Same H H' ∧ H' B = some (.lst ((queueOf d1 d2 (its.take i)).map V.int))) ⟨below (Same.refl H), by rw [upd_same]; rfl⟩ (fun i H' _ pv => SqL.of (pv.1 _ _ h4)) (fun i w0 H2 H2' hi pv yy => ?_) fun H' pv => ?_
  · obtain ⟨T', x1, y1, rfl, hT, rfl, hx, hy⟩ := yy
    obtain ⟨s2, a2⟩ := pv
    obtain rfl : V.int (i : Nat) = x1 := Option.some.inj hx
    have li : i < its.length := by omega
    have hit : its[i]? = some its[i] := List.getElem?_eq_getElem li
    generalize its[i] = it at hit
    obtain ⟨gi1, gi2⟩ := gi.2 it (List.mem_of_getElem? hit)
    obtain ⟨d, e1, iv⟩ := h5.get hy
    rw [List.getElem?_map, hit] at e1
    obtain rfl : itD it = d := Option.some.inj e1
    have s3 : Same H2 _ := Same.up (o := .tup [.int (i : Nat), y1]) hT
    refine ⟨T', _, rfl, SqT.of upd_same, rfl, _, _, rfl, _, _, rfl, rfl, rfl, ?_⟩
    have a3 := s3 _ _ a2
    have s23 := s2.trans s3
    generalize upd H2 T' _ = G at s3 a3 s23 ⊢
    cases iv with
    | tup hv rv zv =>
      rename_i t ws
      have lw : ws.length = it.length := by rw [rv.len, List.length_map]
      refine ⟨_, rfl, t, rfl, .inr ⟨⟨_, SqT.of (s23 _ _ hv)⟩, fun B2 hB2 => lc_f walk_tup at_any it (fun g => V.bl (hitL d1 d2 g)) lw.symm (sz (m := 60) (by omega)) hB2 (fun H' s' => SqT.of (s' _ _ (s23 _ _ hv))) (fun j u0 gl H5 A lt hu hz s5 kA => ?_) (fun H5 s5 h5' => ?_)⟩⟩
      · obtain ⟨d3, e3, iv3⟩ := rv.get hu
        rw [List.getElem?_map, hz] at e3
        obtain rfl : legT gl = d3 := Option.some.inj e3
        obtain ⟨tg, rfl, htg⟩ := leg_at iv3
        have sH5 := s23.trans s5
        have mg2 := List.mem_of_getElem? hz
        have gg := gi2 gl mg2
        refine ⟨rfl, ?_⟩
        refine ⟨_, rfl, tg, _, 0, _, rfl, rfl, SqT.of (sH5 _ _ htg), rfl, _, rfl, .str gl.1, d1, .str _, dp_mono sH5 i1, name_shaped gg.1, sh1, _, rfl, ?_⟩
        cases e4 : PyData.eqv (.str gl.1) d1 with
        | false =>
          refine iteF ?_
          have eh : hitL d1 d2 gl = false := by unfold hitL; rw [e4, Bool.false_and]
          rw [eh] at kA
          exact kA _ (Same.refl _)
        | true =>
          rcases i2 with ⟨i2, sh2⟩ | i2
          · refine iteT ⟨_, rfl, tg, _, 1, _, rfl, rfl, SqT.of (sH5 _ _ htg), rfl, _, rfl, .str gl.2.1, d2, .str _, dp_mono sH5 i2, name_shaped gg.2.1, sh2, ?_⟩
            have eh : hitL d1 d2 gl = PyData.eqv (.str gl.2.1) d2 := by unfold hitL; rw [e4, Bool.true_and]
            rw [eh] at kA
            exact kA _ (Same.refl _)
          · rw [i2 it (List.mem_of_getElem? hit) gl mg2] at e4
            cases e4
      · refine ⟨B2, it.map (hitL d1 d2), rfl, SqL.of (by rw [h5', List.map_map]; rfl), _, rfl, ?_⟩
        have s235 := s23.trans s5
        have a5 := s5 _ _ a3
        have lq := queue_len d1 d2 (its.take i)
        rw [List.length_take] at lq
        have eq := queue_take (d1 := d1) (d2 := d2) hit
        have ea : (it.map (hitL d1 d2)).any id = it.any (hitL d1 d2) := by rw [List.any_map]; rfl
        rw [ea]
        cases e : it.any (hitL d1 d2) with
        | false =>
          rw [e, if_neg Bool.false_ne_true, List.append_nil] at eq
          exact iteF ⟨s235, by rw [eq]; exact a5⟩
        | true =>
          rw [e, if_pos rfl] at eq
          refine iteT ⟨_, rfl, _, a5, sz (m := 60) (by rw [List.length_map]; have := gi.1; omega), below s235, ?_⟩
          rw [upd_same, eq, List.map_append]
          rfl
  · obtain ⟨s', a'⟩ := pv
    rw [lus, List.take_length] at a'
    exact q H' B s' hB a'
end
end K31

set_option Elab.async false
set_option linter.all false
set_option maxRecDepth 100000
set_option maxHeartbeats 4000000
namespace K31
open PySem PySem.Spec PyProof.Rows L2 Sr
/-! ### Queues(..), first(many) -/
structure MkQ (P : Program) (w : World) (K : PySem.W.Frag) (mg : Str → Option Value) (base : Heap) : Prop where
  ex : CalM P w K mg base CX0 6 (He.fAd K ("Queues", some "__init__")) ["self", "holdings", "items"] (spQInit K)
  mk_ : Mk K (He.ga K "Queues") (He.fAd K ("Queues", some "__init__"))
  nm : mg "Queues" = some (.ref (He.ga K "Queues"))
theorem MkQ.pe {X : Cx} {K : PySem.W.Frag} {w : World} {j : Nat} {p pos : Pos} {e : Expr} {es : List Expr} {t : TA} (c : MkQ X.prog w K X.mg X.base) (hK : X.K = K) (hw : X.w = w) (hr : Room j X.A) (hk : 7 ≤ j) (hg : Gl X "Queues") (ha : PA X (e :: es) t)
    (he : starEach (e :: es) X.env = (false, eval e X.env) :: starEach es X.env := by rfl) (hpl : (backTo pos (starEach es X.env)).any (·.1) = false := by rfl) :
    PE X (.Call (.Name "Queues" p) (e :: es) [] pos) (tMake (He.ga K "Queues") (spQInit K) [] E0 t) := by
  subst hK
  subst hw
  obtain ⟨fd, F, kp, hb⟩ := c.ex.ex
  exact pe_make c.mk_ F (hr.mono hk) hg c.nm hb .nil pass0 ha (by decide) he hpl
theorem ok_queues {K : PySem.W.Frag} {H : Hp} {Q : Addr → Hp → Prop} {E : XK} {a : Addr} {v : V} {kv : List (Key × V)} {hs : Hs} {its : Its} (ha : H a = some (.dK kv)) (hh : HldR H kv hs) (g : goodH hs) (hv : ItsV H v its) (gi : goodIts its)
    (q : ∀ x H' hs', H x = none → Same H H' → Can hs hs' → QueR K (newH H H') H' x hs' its → Q x H') :
    ∀ x dx, H x = none → H dx = none → dx ≠ x → spQInit K (.ref x :: ([.ref a, v] ++ [])) (upd (upd H dx (.own x)) x (.ins (He.ga K "Queues") dx [])) (fun v H2 => v = .non ∧ Q x H2) E := by
  intro x dx hx hdx ne
  have s0 : Same H (upd (upd H dx (.own x)) x (.ins (He.ga K "Queues") dx [])) := (Same.up hdx).trans (Same.up (by rw [upd_ne fun z => ne z.symm]; exact hx))
  exact ⟨x, a, v, kv, hs, its, H, dx, rfl, s0, hx, upd_same, s0 _ _ ha, hh.mono s0, g, hv.mono s0, gi, fun H' hs' s can qr => ⟨rfl, q x H' hs' hx s can qr⟩⟩
theorem itm_of {H : Hp} {v : V} {it : List Leg} (h : Is H v (itD it)) : ItmV H v it := by
  have aux : ∀ {us : List V} {gs : List Leg}, IsA H us (gs.map legT) → Paired (LegV H) us gs := by
    intro us gs
    induction gs generalizing us with
    | nil => intro h; cases h; exact .nil
    | cons g r ih =>
      intro h
      cases h with
      | cons a b =>
        obtain ⟨t, e, ht⟩ := leg_at a
        exact .cons ⟨t, e, .inr ht⟩ (ih b)
  cases h with
  | tup hv rv zv => exact ⟨_, _, rfl, .inr hv, aux rv⟩
theorem itms_of {H : Hp} : ∀ {us : List V} {its : Its}, IsA H us (its.map itD) → Paired (ItmV H) us its
  | us, [], h => by cases h; exact .nil
  | us, it :: r, h => by
    cases h with
    | cons a b => exact .cons (itm_of a) (itms_of b)
/-- what is told of what was told -/
theorem pw_one {xs ys zs : List Str} (hx : xs.Perm zs) (hy : ys.Perm zs) (sx : xs.Pairwise leS) (sy : ys.Pairwise leS) : xs = ys := by
  refine List.Perm.eq_of_pairwise (le := leS) (fun a b _ _ h1 h2 => ?_) sx sy (hx.trans hy.symm)
  have e : a.cps.toList = b.cps.toList := List.le_antisymm h1 h2
  obtain ⟨⟨ca⟩⟩ := a
  obtain ⟨⟨cb⟩⟩ := b
  simp only at e
  rw [e]
theorem zip_again {α β : Type} : ∀ l : List (α × β), (l.map (·.1)).zip (l.map (·.2)) = l
  | [] => rfl
  | p :: r => by rw [List.map_cons, List.map_cons, List.zip_cons_cons, zip_again r]
theorem row_names {r0 r : Rw} (a : CanRow r0 r) (g : goodR r0) : (r.map (·.1)).Pairwise leS ∧ (r.map (·.1)).Nodup ∧ ∀ p ∈ r, 0 < p.2 := by
  obtain ⟨zs, p, s, rfl⟩ := a
  have e : ((zs.filter fun t => decide (0 < gC r0 t)).map fun t => (t, gC r0 t)).map (·.1) = zs.filter fun t => decide (0 < gC r0 t) := by
    rw [List.map_map]
    exact List.map_id _
  refine ⟨by rw [e]; exact (sorted_pw s).filter _, by rw [e]; exact (p.nodup_iff.mpr g.1).filter _, fun q m => ?_⟩
  obtain ⟨z, mz, rfl⟩ := List.mem_map.mp m
  exact of_decide_eq_true (List.mem_filter.mp mz).2
theorem row_self {r0 r r' : Rw} (a : CanRow r0 r) (g : goodR r0) (b : CanRow r r') : r' = r := by
  obtain ⟨pw, nd, pos⟩ := row_names a g
  obtain ⟨zs, p, s, rfl⟩ := b
  obtain rfl := pw_one p (List.Perm.refl _) (sorted_pw s) pw
  have ge : ∀ q ∈ r, gC r q.1 = q.2 := fun q m => by
    unfold gC
    rw [mem_look nd (show (q.1, q.2) ∈ r from m)]
    rfl
  rw [List.filter_eq_self.mpr fun z m => by
    obtain ⟨q, mq, rfl⟩ := List.mem_map.mp m
    rw [ge q mq]
    exact decide_eq_true (pos q mq), List.map_map]
  have : ∀ q ∈ r, ((fun t => (t, gC r t)) ∘ fun (q : Str × Int) => q.1) q = q := fun q m => by
    show (q.1, gC r q.1) = q
    rw [ge q m]
  rw [List.map_congr_left this]
  exact List.map_id _
theorem can_names {h0 h : Hs} (a : Can h0 h) (g : goodH h0) : (h.map (·.1)).Pairwise leS ∧ ∀ p ∈ h, CanRow (gR h0 p.1) p.2 ∧ p.2.isEmpty = false := by
  obtain ⟨ys, rows, p, s, r, rfl⟩ := a
  have lr := Paired.length r
  refine ⟨?_, fun q m => ?_⟩
  · have sub : ((canZ ys rows).map (·.1)).Sublist ((ys.zip rows).map (·.1)) := List.Sublist.map _ List.filter_sublist
    rw [List.map_fst_zip (by omega)] at sub
    exact (sorted_pw s).sublist sub
  · obtain ⟨m1, m2⟩ := List.mem_filter.mp m
    refine ⟨zip_rel r q m1, ?_⟩
    cases e : q.2.isEmpty with
    | false => rfl
    | true => rw [e] at m2; cases m2
theorem rows_self {F : Str → Rw} {G : Str → Rw} : ∀ {ys : List Str} {rs : List Rw}, Paired (fun y r => CanRow (F y) r) ys rs → (∀ y ∈ ys, CanRow (G y) (F y) ∧ goodR (G y)) → rs = ys.map F
  | _, _, .nil, _ => rfl
  | _, _, .cons (a := y) h r, k => by
    obtain ⟨k1, k2⟩ := k y List.mem_cons_self
    rw [row_self k1 k2 h, rows_self r fun z m => k z (List.mem_cons_of_mem _ m)]
    rfl
theorem can_self {h0 h h' : Hs} (a : Can h0 h) (g : goodH h0) (b : Can h h') : h' = h := by
  obtain ⟨pw, k⟩ := can_names a g
  have gh := can_good a g
  obtain ⟨ys, rows, p, s, r, rfl⟩ := b
  obtain rfl := pw_one p (List.Perm.refl _) (sorted_pw s) pw
  have ge : ∀ q ∈ h, gR h q.1 = q.2 := fun q m => by
    unfold gR
    rw [mem_look gh.1 (show (q.1, q.2) ∈ h from m)]
    rfl
  have er := rows_self (G := gR h0) r fun y m => by
    obtain ⟨q, mq, rfl⟩ := List.mem_map.mp m
    rw [ge q mq]
    exact ⟨(k q mq).1, gR_good g q.1⟩
  rw [er]
  unfold canZ
  have ez : (h.map (·.1)).zip ((h.map (·.1)).map (gR h)) = h := by
    have : (h.map (·.1)).map (gR h) = h.map (·.2) := by
      rw [List.map_map]
      exact List.map_congr_left fun q m => ge q m
    rw [this]
    exact zip_again h
  rw [ez]
  exact List.filter_eq_self.mpr fun q m => by rw [(k q m).2]; rfl
theorem cut_take (us : List V) {n : Nat} (h : n ≤ us.length) : cutV us none (some (n : Int)) = us.take n := by
  have e1 : HT.sIx us.length us.length (some (n : Int)) = n := by
    show (if (n : Int) < 0 then ((n : Int) + (us.length : Nat)).toNat else min (n : Int).toNat us.length) = n
    rw [if_neg (by omega)]
    omega
  unfold cutV
  rw [HT.sIx_none, e1, List.drop_zero, Nat.sub_zero]
theorem isA_take {H : Hp} : ∀ {us : List V} {ds : List Dt}, IsA H us ds → ∀ n, IsA H (us.take n) (ds.take n)
  | _, _, .nil, n => by rw [List.take_nil, List.take_nil]; exact .nil
  | _, _, .cons a r, 0 => .nil
  | _, _, .cons a r, n + 1 => .cons a (isA_take r n)
def spFirst (K : PySem.W.Frag) : Sp := fun vs H Q _ => ∃ x hs its n, vs = [.ref x, .int (n : Nat)] ∧ QueR K H H x hs its ∧ n ≤ its.length ∧ ∀ x' H' hs', H x' = none → Same H H' → Can hs hs' → QueR K (newH H H') H' x' hs' (its.take n) → Q (.ref x') H'
section
variable {P : Program} {w : World} {K : PySem.W.Frag} {mg : Str → Option Value} {base : Heap}
abbrev s_Queues_first : Stmt := inClass (top 14) 7
theorem sc_Queues_first : FnScope ["self", "many"] ["self", "many"] (defScope s_Queues_first) := ⟨rfl, rfl, rfl, by decide +kernel, rfl, by decide +kernel, by decide +kernel⟩
theorem m_first (T : Txt K mg) (O : Que K mg) (MkQ0 : MkQ P w K mg base) (D : DfnM K "Queues" "first" "Queues.first" s_Queues_first) (C_is_integer : Cal P w K mg base 1 "is_integer" ["thing"] (spB isInteger)) : CalM P w K mg base CX0 8 (He.fAd K ("Queues", some "first")) ["self", "many"] (spFirst K) := by
  refine D.cal sc_Queues_first (fun _ _ _ _ _ _ us hl => match us, hl with | [_, _], _ => rfl) (fun vs H Q E h => ?_) fun cdv A outer s H vs Q E hr h => ?_
  · obtain ⟨x, hs, its, n, rfl, _⟩ := h
    rfl
  obtain ⟨x, hs, its, n, rfl, h, ln, q⟩ := h
  obtain ⟨dx, c, l, kc, us, h1, h2, h3, h4, h5, g, gi⟩ := id h
  have lus : us.length = its.length := by rw [h5.len, List.length_map]
  refine ⟨_, (pss_cons (ps_if (PW.pt (pw_or (pt_not (pt_val (pe_cal C_is_integer hr (by first | decide | omega) (by rfl) (pa_cons (pv 1) pa_nil)))) (pw_or1 (pt_not (pt_chain op_le op_le pe_int (pv 1) (pe_callB (id := "len") call_len_seq (by rfl) T.len (by decide +kernel) (pa_cons (pe_fld (pv 0) rfl) pa_nil))))))) pss_never pss_nil)
      (pss_one (ps_ret (MkQ.pe (K := K) (w := w) MkQ0 rfl rfl hr (by decide) (by rfl) (pa_cons (pe_fld (pv 0) rfl) (pa_cons (pe_slice sl_list (pe_fld (pv 0) rfl) po_none (po_some (pv 1))) pa_nil)))))), ?_⟩
  refine ⟨_, rfl, _, .int (n : Nat), rfl, .int _, fun H1 s1 => ⟨_, rfl, iteF ⟨_, rfl, _, _, rfl, rfl, _, rfl, ?_⟩⟩⟩
  rw [if_pos (decide_eq_true (Int.natCast_nonneg n))]
  refine ⟨_, rfl, x, _, dx, _, _, rfl, s1 _ _ h1, O.cl, O.nI, rfl, l, us, rfl, .inl (SqL.of (s1 _ _ h4)), _, _, rfl, rfl, _, rfl, ?_⟩
  rw [decide_eq_true (show (n : Int) ≤ ((us.length : Nat) : Int) by omega)]
  refine iteF ?_
  refine ⟨_, rfl, x, _, dx, _, _, rfl, s1 _ _ h1, O.cl, O.nH, rfl, _, rfl, x, _, dx, _, _, rfl, s1 _ _ h1, O.cl, O.nI, rfl, ?_⟩
  refine ⟨_, rfl, _, rfl, l, us, rfl, SqL.of (s1 _ _ h4), fun p hp => ?_⟩
  delta tNil
  dsimp only
  rw [cut_take us (show n ≤ us.length by omega)] at *
  have s2 := s1.trans (Same.up (o := .lst (us.take n)) hp)
  have tk : IsA H (us.take n) ((its.take n).map itD) := by rw [List.map_take]; exact isA_take h5 n
  refine ok_queues (s2 _ _ h2) (h3.mono s2) g ⟨p, us.take n, rfl, .inl upd_same, itms_of (tk.mono s2)⟩ ⟨by rw [List.length_take]; have := gi.1; omega, fun it m => gi.2 it (List.mem_of_mem_take m)⟩ fun x' H' hs' hx s can qr => ?_
  have x0 := free_below s2 hx
  exact q x' H' hs' x0 (s2.trans s) can (qr.keep (fun b o e => by
    have n1 := new_no e
    rw [new_at n1] at e
    rw [new_at (free_below s2 n1)]
    exact e) fun _ _ e => e)
end
end K31

set_option Elab.async false
set_option linter.all false
set_option maxRecDepth 100000
set_option maxHeartbeats 4000000
namespace K31
open PySem PySem.Spec PyProof.Rows L2 Sr
/-! ### more(items), given(member, thing, many) -/
theorem new_below {H G H' : Hp} (s : Same H G) : Same (newH G H') (newH H H') := fun b o e => by
  have n1 := new_no e
  rw [new_at n1] at e
  rw [new_at (free_below s n1)]
  exact e
theorem isA_app {H : Hp} : ∀ {us us' : List V} {ds ds' : List Dt}, IsA H us ds → IsA H us' ds' → IsA H (us ++ us') (ds ++ ds')
  | _, _, _, _, .nil, h => h
  | _, _, _, _, .cons a r, h => .cons a (isA_app r h)
theorem paired_app {α β : Type} {F : α → β → Prop} : ∀ {l l' : List α} {m m' : List β}, Paired F l m → Paired F l' m' → Paired F (l ++ l') (m ++ m')
  | _, _, _, _, .nil, h => h
  | _, _, _, _, .cons a b, h => .cons a (paired_app b h)
def spMore (K : PySem.W.Frag) : Sp := fun vs H Q _ => ∃ x v hs its more, vs = [.ref x, v] ∧ QueR K H H x hs its ∧ ItsV H v more ∧ goodIts more ∧ goodIts (its ++ more) ∧ ∀ x' H' hs', H x' = none → Same H H' → Can hs hs' → QueR K (newH H H') H' x' hs' (its ++ more) → Q (.ref x') H'
section
variable {P : Program} {w : World} {K : PySem.W.Frag} {mg : Str → Option Value} {base : Heap}
abbrev s_Queues_more : Stmt := inClass (top 14) 6
theorem sc_Queues_more : FnScope ["self", "items"] ["self", "items"] (defScope s_Queues_more) := ⟨rfl, rfl, rfl, by decide +kernel, rfl, by decide +kernel, by decide +kernel⟩
theorem m_more (T : Txt K mg) (O : Que K mg) (MkQ0 : MkQ P w K mg base) (D : DfnM K "Queues" "more" "Queues.more" s_Queues_more) (C_is_list : Cal P w K mg base 1 "is_list" ["thing"] (spB isSeq)) : CalM P w K mg base CX0 8 (He.fAd K ("Queues", some "more")) ["self", "items"] (spMore K) := by
  refine D.cal sc_Queues_more (fun _ _ _ _ _ _ us hl => match us, hl with | [_, _], _ => rfl) (fun vs H Q E h => ?_) fun cdv A outer s H vs Q E hr h => ?_
  · obtain ⟨x, v, hs, its, more, rfl, _⟩ := h
    rfl
  obtain ⟨x, v, hs, its, more, rfl, h, hv, gm, ga, q⟩ := h
  obtain ⟨dx, c, l, kc, us, h1, h2, h3, h4, h5, g, gi⟩ := id h
  obtain ⟨d, i1, i2, _⟩ := hv.is gm
  refine ⟨_, (pss_cons (ps_if (pt_not (pt_val (pe_cal C_is_list hr (by first | decide | omega) (by rfl) (pa_cons (pv 1) pa_nil)))) pss_never pss_nil)
      (pss_one (ps_ret (MkQ.pe (K := K) (w := w) MkQ0 rfl rfl hr (by decide) (by rfl) (pa_cons (pe_fld (pv 0) rfl) (pa_cons (pe_op op_cat (pe_fld (pv 0) rfl) (pe_callTy (T := "list") call_list_of (by rfl) T.list (by decide +kernel) (pa_cons (pv 1) pa_nil))) pa_nil)))))), ?_⟩
  refine ⟨_, rfl, v, d, rfl, i1, fun H1 s1 => ⟨_, rfl, ?_⟩⟩
  rw [i2]
  refine iteF ?_
  obtain ⟨t, ws, rfl, ht, pw⟩ := hv.mono s1
  refine ⟨_, rfl, x, _, dx, _, _, rfl, s1 _ _ h1, O.cl, O.nH, rfl, _, rfl, x, _, dx, _, _, rfl, s1 _ _ h1, O.cl, O.nI, rfl, ?_⟩
  refine ⟨_, rfl, t, ws, rfl, any_of ht, fun p2 hp2 => ?_⟩
  have s2 := Same.up (o := .lst ws) hp2
  have s12 := s1.trans s2
  have lus : us.length = its.length := by rw [h5.len, List.length_map]
  have lws : ws.length = more.length := Paired.length pw
  have lga := ga.1
  rw [List.length_append] at lga
  refine ⟨l, p2, us, ws, rfl, rfl, s12 _ _ h4, upd_same, Nat.le_trans (show us.length + ws.length ≤ 60 by omega) (by rw [sizeLine_eq]; decide), fun f hf => ?_⟩
  delta tNil
  dsimp only
  have s3 := s12.trans (Same.up (o := .lst (us ++ ws)) hf)
  have s23 := s2.trans (Same.up (o := .lst (us ++ ws)) hf)
  refine ok_queues (s3 _ _ h2) (h3.mono s3) g ⟨f, us ++ ws, rfl, .inl upd_same, paired_app (itms_of (h5.mono s3)) (L2.Paired.mapP pw fun _ _ h => h.mono s23)⟩ ga fun x' H' hs' hx s can qr => ?_
  exact q x' H' hs' (free_below s3 hx) (s3.trans s) can (qr.keep (new_below s3) fun _ _ e => e)
end
end K31

set_option Elab.async false
set_option linter.all false
set_option maxRecDepth 100000
set_option maxHeartbeats 4000000
namespace Sr
open PySem PySem.Spec PyProof.Rows L2
/-! ### == and != of two dicts whose values are plain data -/
def DcD (K : PySem.W.Frag) (H : Hp) (ks : List (Key × V)) (xs : List (Key × PyData)) : Prop := Paired (fun (kv : Key × V) (x : Key × PyData) => kv.1 = x.1 ∧ Dp K H kv.2 x.2 ∧ PyData.canLay0 x.2 = true ∧ PyData.depth x.2 ≤ 8) ks xs
def lookK (ys : List (Key × PyData)) (k : Key) : Option PyData := (ys.find? fun p => decide (p.1 = k)).map (·.2)
def hitK (ys : List (Key × PyData)) (p : Key × PyData) : Bool := match lookK ys p.1 with
  | some e => PyData.eqv p.2 e
  | none => false
def eqvK (xs ys : List (Key × PyData)) : Bool := xs.length == ys.length && xs.all (hitK ys)
theorem DcD.look {K : PySem.W.Frag} {H : Hp} {ks : List (Key × V)} {xs : List (Key × PyData)} (h : DcD K H ks xs) (k : Key) : (valV ks k = none ∧ lookK xs k = none) ∨ ∃ v d, valV ks k = some v ∧ lookK xs k = some d ∧ Dp K H v d ∧ PyData.canLay0 d = true ∧ PyData.depth d ≤ 8 := by
  unfold DcD at h
  induction h with
  | nil => exact .inl ⟨rfl, rfl⟩
  | @cons p x ps xs h t ih =>
    by_cases c : x.1 = k
    · exact .inr ⟨p.2, x.2, valV_pos (h.1.trans c), by simp [lookK, List.find?_cons, c], h.2⟩
    · have e1 := valV_neg (r := ps) (show ¬ p.1 = k from fun e => c (h.1.symm.trans e))
      have e2 : lookK (x :: xs) k = lookK xs k := by simp [lookK, List.find?_cons, c]
      rw [e1, e2]
      exact ih
theorem hits_dp {X : Cx} {pins : List (Addr × Obj)} {σ : L2.St} {H : Hp} {s : Shared} (I : Inv X pins σ H s) {A : Around} (hu : A.units + 8 < cLine) {ls : List (Key × V)} {ys : List (Key × PyData)} (dy : DcD X.K H ls ys) {vb : List (Key × Value)} (rb : KV ls vb) :
    ∀ {ks : List (Key × V)} {va : List (Key × Value)} {xs : List (Key × PyData)}, KV ks va → DcD X.K H ks xs → PySem.W.KeqHits A s vb va (xs.all (hitK ys)) := by
  intro ks va xs ra
  unfold KV at ra
  induction ra generalizing xs with
  | nil => intro h; cases h; exact .nil
  | @cons p q ps qs h t ih =>
    intro hd
    cases hd with
    | @cons _ x _ xs hx tx =>
      obtain ⟨h1, h2⟩ := h
      obtain ⟨k, v⟩ := q
      have h1' : p.1 = k := h1
      have ek : x.1 = k := hx.1.symm.trans h1'
      have rv := rb.val k
      rw [List.all_cons]
      rcases dy.look k with ⟨e1, e2⟩ | ⟨v', d, e1, e2, hd, cl, dp⟩
      · rw [e1] at rv
        have hn : valueAt vb k = none := by
          cases q : valueAt vb k with
          | none => rfl
          | some y => rw [q] at rv; exact rv.elim
        have hf : hitK ys x = false := by unfold hitK; rw [ek, e2]
        rw [hf, Bool.false_and]
        exact .miss hn
      · rw [e1] at rv
        obtain ⟨y, hy, ry⟩ := rv.some_of
        have hf : hitK ys x = PyData.eqv x.2 d := by unfold hitK; rw [ek, e2]
        rw [hf]
        obtain ⟨as, r1⟩ := Dp.reads I x.2 p.2 v hx.2.1 h2
        obtain ⟨bs, r2⟩ := Dp.reads I d v' y hd ry
        exact .hit hy (SeqAt.eqAt_reads x.2 d A s v y as bs r1 r2 hx.2.2.1 cl (by have := hx.2.2.2; omega)) (ih tx)
def rEqDc (K : PySem.W.Frag) : R2 := fun x y H Q => ∃ a b ks ls xs ys, x = .ref a ∧ y = .ref b ∧ H a = some (.dK ks) ∧ H b = some (.dK ls) ∧ DcD K H ks xs ∧ DcD K H ls ys ∧ Q (.bl (eqvK xs ys)) H
def rNeDc (K : PySem.W.Frag) : R2 := fun x y H Q => ∃ a b ks ls xs ys, x = .ref a ∧ y = .ref b ∧ H a = some (.dK ks) ∧ H b = some (.dK ls) ∧ DcD K H ks xs ∧ DcD K H ls ys ∧ Q (.bl (!eqvK xs ys)) H
theorem kv_len {ks : List (Key × V)} {va : List (Key × Value)} (h : KV ks va) : va.length = ks.length := h.length.symm
theorem op_eqDc {X : Cx} (hu : X.A.units + 64 < cLine) : OpR X (compareOp .Eq) (rEqDc X.K) := by
  intro pins s σ H x y v u Q I rx ry h
  obtain ⟨a, b, ks, ls, xs, ys, rfl, rfl, ea, eb, dx, dy, q⟩ := h
  cases rx
  cases ry
  obtain ⟨_, ya, va, ra, da⟩ := (show ObjOk X.prog X.w H s.heap a (.dK ks) from I.hok a _ ea)
  obtain ⟨_, yb, vb, rb, db⟩ := (show ObjOk X.prog X.w H s.heap b (.dK ls) from I.hok b _ eb)
  refine PySem.W.keq_eq (knd := mixKind X.prog X.w) ya yb da db (by omega) (fun _ => hits_dp I (by simp only [Around.in1_units]; omega) dy rb ra dx) (fin_bl I q ?_)
  rw [kv_len ra, kv_len rb, Paired.length dx, Paired.length dy]
  rfl
theorem op_neDc {X : Cx} (hu : X.A.units + 64 < cLine) : OpR X (compareOp .NotEq) (rNeDc X.K) := by
  intro pins s σ H x y v u Q I rx ry h
  obtain ⟨a, b, ks, ls, xs, ys, rfl, rfl, ea, eb, dx, dy, q⟩ := h
  cases rx
  cases ry
  obtain ⟨_, ya, va, ra, da⟩ := (show ObjOk X.prog X.w H s.heap a (.dK ks) from I.hok a _ ea)
  obtain ⟨_, yb, vb, rb, db⟩ := (show ObjOk X.prog X.w H s.heap b (.dK ls) from I.hok b _ eb)
  refine PySem.W.keq_ne (knd := mixKind X.prog X.w) ya yb da db (by omega) (fun _ => hits_dp I (by simp only [Around.in1_units]; omega) dy rb ra dx) (fin_bl I q ?_)
  rw [kv_len ra, kv_len rb, Paired.length dx, Paired.length dy]
  rfl
end Sr

set_option Elab.async false
set_option linter.all false
set_option maxRecDepth 100000
set_option maxHeartbeats 4000000
namespace Sr
open PySem PySem.Spec PyProof.Rows L2
/-! ### != of two tuples of dicts that hold the same plain data -/
section
open PySem.SeqAt PySem.AutoSeq1
open MeetsSeq MeetsSeq2 MeetsSeq3
variable {prog : Program} {w : World}
theorem tuple_neIn (l b : Addr) (items items2 : Array Value) (n n2 : Nat) (dd dd2 : Option Addr) (sl sl2 : Array (Option Value)) (hsz : items.size = items2.size) :
    MeetsIn prog w (Builtin.«tuple.__ne__» ⟨[.ref l, .ref b], []⟩)
      (fun A R s => s.heap.get? l = some { cls := .type "tuple", dict := dd, data := .seq items n, slots := sl } ∧ s.heap.get? b = some { cls := .type "tuple", dict := dd2, data := .seq items2 n2, slots := sl2 } ∧
        (∀ j (h1 : j < items.size) (h2 : j < items2.size), EqIn prog w A.in1 s items[j] items2[j] true) ∧
        R (.ok (.ret (.bool false))) s) :=
  .of_wp fun A R s h => by
    obtain ⟨hp, g, d, tk, os⟩ := s; obtain ⟨hl, hb, he, h⟩ := h
    have f2 := AutoSeq1.sub_tuple_tuple
    have hZ : (items.toList.zip items2.toList).length = items.size := by simp [hsz]
    wp_walk using wpAny_loadPart' hl, wpAny_loadPart' hb, wpAny_forIn_list _ (fun rest b s' => b.1 = none ∧ s' = ⟨hp, g, d, tk, os⟩ ∧ ∃ i, rest = (items.toList.zip items2.toList).drop i) _
    case turn =>
      rintro ⟨y, x⟩ rest b s' ⟨hb', rfl, i, hz⟩
      have hlt : i < (items.toList.zip items2.toList).length := by
        rcases Nat.lt_or_ge i (items.toList.zip items2.toList).length with h' | h'
        · exact h'
        · rw [List.drop_of_length_le h'] at hz; cases hz
      have h1 : i < items.size := hZ ▸ hlt
      have h2 : i < items2.size := hsz ▸ h1
      rw [List.drop_eq_getElem_cons hlt] at hz
      injection hz with hyx hrest
      have hy : y = items[i] := by have := congrArg Prod.fst hyx; simpa using this
      have hx : x = items2[i] := by have := congrArg Prod.snd hyx; simpa using this
      subst hy hx
      refine wpAny_bind (he i h1 h2 _ _ ?_)
      wp_walk
      exact ⟨rfl, rfl, i + 1, hrest⟩
    case fin =>
      rintro ⟨b1, b2⟩ s' ⟨hb', rfl, i, hz⟩
      simp only at hb'
      subst hb'
      wp_walk
      exact ⟨_, rfl, by simpa [Builtin.Tuple.tupleCompareSizes, bne, hsz] using h⟩
    case h =>
      exact ⟨rfl, rfl, 0, rfl⟩
theorem rcNeIn_tuples {A : Around} {s : Shared} {E : Value → Shared → Prop} {l b : Addr} {items items2 : Array Value} {Q : Value → Shared → Prop} (hl : s.heap.IsTuple l items) (hb : s.heap.IsTuple b items2) (hsz : items.size = items2.size) (hu : A.units < cLine)
    (he : ∀ j (h1 : j < items.size) (h2 : j < items2.size), EqIn prog w A.in1 s items[j] items2[j] true) (h : Q (.bool false) s) : wpAny (model prog w) A (richCompare .NotEq (.ref l) (.ref b)) Q E s := by
  obtain ⟨⟨cls, dd, data, sl⟩, ho, hc, n, hd⟩ := id hl
  obtain ⟨⟨cls2, dd2, data2, sl2⟩, ho2, hc2, n2, hd2⟩ := id hb
  simp only at hc hd hc2 hd2
  subst hc hd hc2 hd2
  exact wpAny_richCompare_same_room (T := "tuple") (op := .NotEq) ⟨_, ho, rfl⟩ ⟨_, ho2, rfl⟩ F.slot_tuple_ne (call_meetsIn F.slot_tuple_ne ⟨_, ho, rfl⟩ F.entry_tuple_ne (F.args_tuple_ne_2 _ _) (tuple_neIn l b items items2 n n2 dd dd2 sl sl2 hsz)
    ⟨ho, ho2, he, show Value.bool false ≠ Value.notImplemented ∧ Q (.bool false) s from ⟨(fun x => nomatch x), h⟩⟩) hu
end
/-- two dicts that hold the same -/
def SameDc (K : PySem.W.Frag) (H : Hp) (x y : V) : Prop := ∃ a b ks ls xs ys, x = .ref a ∧ y = .ref b ∧ H a = some (.dK ks) ∧ H b = some (.dK ls) ∧ DcD K H ks xs ∧ DcD K H ls ys ∧ eqvK xs ys = true
def rNeTup (K : PySem.W.Frag) : R2 := fun x y H Q => ∃ a b xs ys, x = .ref a ∧ y = .ref b ∧ H a = some (.tup xs) ∧ H b = some (.tup ys) ∧ Paired (SameDc K H) xs ys ∧ Q (.bl false) H
theorem same_eqIn {X : Cx} {pins : List (Addr × Obj)} {σ : L2.St} {H : Hp} {s : Shared} (I : Inv X pins σ H s) {A : Around} (hu : A.units + 16 < cLine) {x y : V} {v u : Value} (h : SameDc X.K H x y) (rx : RelV x v) (ry : RelV y u) : PySem.SeqAt.EqIn X.prog X.w A s v u true := by
  obtain ⟨a, b, ks, ls, xs, ys, rfl, rfl, ea, eb, dx, dy, q⟩ := h
  cases rx
  cases ry
  by_cases ne : a = b
  · subst ne
    exact (PySem.SeqAt.EqAt.same _).inModel _ _
  obtain ⟨_, ya, va, ra, da⟩ := (show ObjOk X.prog X.w H s.heap a (.dK ks) from I.hok a _ ea)
  obtain ⟨_, yb, vb, rb, db⟩ := (show ObjOk X.prog X.w H s.heap b (.dK ls) from I.hok b _ eb)
  refine PySem.SeqAt.EqIn.of_refs ne fun E Q hq => ?_
  refine PySem.W.keq_eq (knd := mixKind X.prog X.w) ya yb da db (by omega) (fun _ => hits_dp I (by simp only [Around.in1_units]; omega) dy rb ra dx) ?_
  rw [kv_len ra, kv_len rb, Paired.length dx, Paired.length dy]
  have e : (xs.length == ys.length && xs.all (hitK ys)) = true := q
  rw [e]
  exact hq
theorem vals_get : ∀ {xs : List V} {its : List Value}, Vals xs its → ∀ {j : Nat} (h : j < its.length), ∃ x, xs[j]? = some x ∧ RelV x its[j]
  | [], _, .nil, j, h => absurd h (Nat.not_lt_zero _)
  | _ :: _, _, .cons a r, 0, h => ⟨_, rfl, a⟩
  | _ :: _, _, .cons a r, j + 1, h => vals_get r (Nat.lt_of_succ_lt_succ h)
theorem op_neTup {X : Cx} (hu : X.A.units + 64 < cLine) : OpR X (compareOp .NotEq) (rNeTup X.K) := by
  intro pins s σ H x y v u Q I rx ry h
  obtain ⟨a, b, xs, ys, rfl, rfl, ea, eb, p, q⟩ := h
  cases rx
  cases ry
  obtain ⟨_, va, ra, ta⟩ := (show ObjOk X.prog X.w H s.heap a (.tup xs) from I.hok a _ ea)
  obtain ⟨_, vb, rb, tb⟩ := (show ObjOk X.prog X.w H s.heap b (.tup ys) from I.hok b _ eb)
  have la := Paired.length ra
  have lb := Paired.length rb
  have lp := Paired.length p
  refine rcNeIn_tuples (prog := X.prog) (w := X.w) ta tb (by simp only [List.size_toArray]; omega) (by omega) (fun j h1 h2 => ?_) (fin_bl I q rfl)
  simp only [List.size_toArray] at h1 h2
  obtain ⟨x, hx, rx⟩ := vals_get ra h1
  obtain ⟨y, hy, ry⟩ := vals_get rb h2
  simp only [List.getElem_toArray]
  exact same_eqIn I (by simp only [Around.in1_units]; omega) (Paired.at2 p hx hy) rx ry
end Sr

set_option Elab.async false
set_option linter.all false
set_option maxRecDepth 100000
set_option maxHeartbeats 4000000
namespace Sr
open PySem PySem.Spec PyProof.Rows L2
/-! ### == of two dicts whose values are dicts of plain data -/
def InnerE (K : PySem.W.Frag) (H : Hp) (x y : V) (b : Bool) : Prop := ∃ a c ks ls xs ys, x = .ref a ∧ y = .ref c ∧ H a = some (.dK ks) ∧ H c = some (.dK ls) ∧ DcD K H ks xs ∧ DcD K H ls ys ∧ b = eqvK xs ys ∧ (a = c → b = true)
theorem inner_eqIn {X : Cx} {pins : List (Addr × Obj)} {σ : L2.St} {H : Hp} {s : Shared} (I : Inv X pins σ H s) {A : Around} (hu : A.units + 16 < cLine) {x y : V} {b : Bool} {v u : Value} (h : InnerE X.K H x y b) (rx : RelV x v) (ry : RelV y u) : PySem.SeqAt.EqIn X.prog X.w A s v u b := by
  obtain ⟨a, c, ks, ls, xs, ys, rfl, rfl, ea, eb, dx, dy, rfl, hs⟩ := h
  cases rx
  cases ry
  by_cases ne : a = c
  · rw [hs ne]
    subst ne
    exact (PySem.SeqAt.EqAt.same _).inModel _ _
  obtain ⟨_, ya, va, ra, da⟩ := (show ObjOk X.prog X.w H s.heap a (.dK ks) from I.hok a _ ea)
  obtain ⟨_, yb, vb, rb, db⟩ := (show ObjOk X.prog X.w H s.heap c (.dK ls) from I.hok c _ eb)
  refine PySem.SeqAt.EqIn.of_refs ne fun E Q hq => ?_
  refine PySem.W.keq_eq (knd := mixKind X.prog X.w) ya yb da db (by omega) (fun _ => hits_dp I (by simp only [Around.in1_units]; omega) dy rb ra dx) ?_
  rw [kv_len ra, kv_len rb, Paired.length dx, Paired.length dy]
  exact hq
def rEqDD (K : PySem.W.Frag) : R2 := fun x y H Q => ∃ (a c : Addr) (ks ls : List (Key × V)) (e : Key → Bool), x = .ref a ∧ y = .ref c ∧ H a = some (.dK ks) ∧ H c = some (.dK ls) ∧ (∀ k v u, (k, v) ∈ ks → valV ls k = some u → InnerE K H v u (e k)) ∧ Q (.bl (ks.length == ls.length && ks.all fun p => (valV ls p.1).isSome && e p.1)) H
theorem kv_mem : ∀ {ks : List (Key × V)} {va : List (Key × Value)}, KV ks va → ∀ {k : Key} {v' : Value}, (k, v') ∈ va → ∃ v, (k, v) ∈ ks ∧ RelV v v'
  | _, _, .nil, _, _, m => by cases m
  | p :: _, q :: _, .cons h r, k, v', m => by
    rcases List.mem_cons.mp m with e | m
    · refine ⟨p.2, ?_, by rw [← show q.2 = v' by rw [← e]]; exact h.2⟩
      have : p.1 = k := h.1.trans (by rw [← e])
      rw [← this]
      exact List.mem_cons_self
    · obtain ⟨v, m2, r2⟩ := kv_mem r m
      exact ⟨v, List.mem_cons_of_mem _ m2, r2⟩
theorem kv_all {f : Key → Bool} : ∀ {ks : List (Key × V)} {va : List (Key × Value)}, KV ks va → (va.all fun p => f p.1) = ks.all fun p => f p.1
  | _, _, .nil => rfl
  | _, _, .cons h r => by
    rw [List.all_cons, List.all_cons, kv_all r, show _ = _ from h.1]
theorem op_eqDD {X : Cx} (hu : X.A.units + 64 < cLine) : OpR X (compareOp .Eq) (rEqDD X.K) := by
  intro pins s σ H x y v u Q I rx ry h
  obtain ⟨a, c, ks, ls, e, rfl, rfl, ea, eb, hi, q⟩ := h
  cases rx
  cases ry
  obtain ⟨_, ya, va, ra, da⟩ := (show ObjOk X.prog X.w H s.heap a (.dK ks) from I.hok a _ ea)
  obtain ⟨_, yb, vb, rb, db⟩ := (show ObjOk X.prog X.w H s.heap c (.dK ls) from I.hok c _ eb)
  have some_ : ∀ k, (PySem.valueAt vb k).isSome = (valV ls k).isSome := fun k => by
    have rv := rb.val k
    cases e1 : valV ls k with
    | none =>
      rw [e1] at rv
      cases q : PySem.valueAt vb k with
      | none => rfl
      | some y => rw [q] at rv; exact rv.elim
    | some w =>
      rw [e1] at rv
      obtain ⟨y, hy, _⟩ := rv.some_of
      rw [hy]
      rfl
  refine PySem.W.keq_eqIn (knd := mixKind X.prog X.w) (r := va.all fun p => (PySem.valueAt vb p.1).isSome && e p.1) ya yb da db (by omega) (fun _ => PySem.W.KeqHitsIn.of va fun k v' y' m hy => ?_) (fin_bl I q ?_)
  · obtain ⟨v, mv, rv⟩ := kv_mem ra m
    have rw2 := rb.val k
    cases e1 : valV ls k with
    | none =>
      rw [e1, hy] at rw2
      exact rw2.elim
    | some w =>
      rw [e1] at rw2
      obtain ⟨y2, hy2, ry2⟩ := rw2.some_of
      rw [hy] at hy2
      cases hy2
      exact inner_eqIn I (by simp only [Around.in1_units]; omega) (hi k v w mv e1) rv ry2
  · rw [kv_len ra, kv_len rb, kv_all (f := fun k => (PySem.valueAt vb k).isSome && e k) ra]
    congr 2
    funext p
    rw [some_]
end Sr

set_option Elab.async false
set_option linter.all false
set_option maxRecDepth 100000
set_option maxHeartbeats 4000000
namespace K31
open PySem PySem.Spec PyProof.Rows L2 Sr
/-! ### == of what is told, as data -/
def TL {α : Type} (l : List (Str × α)) : Prop := (l.map (·.1)).Nodup ∧ (l.map (·.1)).Pairwise leS
theorem nodup_same : ∀ {xs ys : List Str}, xs.Nodup → (∀ s ∈ xs, s ∈ ys) → xs.length = ys.length → ∀ s ∈ ys, s ∈ xs := by
  intro xs ys nx h l s ms
  by_cases c : s ∈ xs
  · exact c
  · have := nodup_len (xs := ys.erase s) nx fun z m => (List.mem_erase_of_ne (fun (e : z = s) => c (by rw [← e]; exact m))).mpr (h z m)
    have l2 := List.length_erase_of_mem ms
    have pos : 0 < ys.length := List.length_pos_of_mem ms
    omega
theorem key_one {α : Type} {l : List (Str × α)} (nd : (l.map (·.1)).Nodup) {a b : Str × α} (ma : a ∈ l) (mb : b ∈ l) (e : a.1 = b.1) : a = b := by
  have h1 := mem_look nd (show (a.1, a.2) ∈ l from ma)
  have h2 := mem_look nd (show (b.1, b.2) ∈ l from mb)
  rw [e, h2] at h1
  obtain ⟨a1, a2⟩ := a
  obtain ⟨b1, b2⟩ := b
  simp only at e h1
  rw [e, Option.some.inj h1]
theorem tl_one {α : Type} [DecidableEq α] {l l' : List (Str × α)} (a : TL l) (b : TL l') : (l.length == l'.length && l.all fun p => decide (l'.lookup p.1 = some p.2)) = decide (l = l') := by
  by_cases c : l = l'
  · subst c
    rw [decide_eq_true rfl, beq_self_eq_true, Bool.true_and, List.all_eq_true]
    intro p m
    exact decide_eq_true (mem_look a.1 m)
  · rw [decide_eq_false c]
    cases h : (l.length == l'.length && l.all fun p => decide (l'.lookup p.1 = some p.2)) with
    | false => rfl
    | true =>
      obtain ⟨h1, h2⟩ := Bool.and_eq_true_iff.mp h
      have hl : l.length = l'.length := beq_iff_eq.mp h1
      have sub : ∀ p ∈ l, p ∈ l' := fun p m => look_mem (of_decide_eq_true (List.all_eq_true.mp h2 p m))
      have subn : ∀ s ∈ l.map (·.1), s ∈ l'.map (·.1) := fun s m => by
        obtain ⟨p, mp, rfl⟩ := List.mem_map.mp m
        exact List.mem_map.mpr ⟨p, sub p mp, rfl⟩
      have back := nodup_same a.1 subn (by rw [List.length_map, List.length_map, hl])
      have pn : (l.map (·.1)).Perm (l'.map (·.1)) := (List.perm_ext_iff_of_nodup a.1 b.1).mpr fun s => ⟨subn s, back s⟩
      have en := pw_one pn (List.Perm.refl _) a.2 b.2
      refine absurd (List.ext_getElem? fun i => ?_) c
      have ei := congrArg (fun z : List Str => z[i]?) en
      simp only [List.getElem?_map] at ei
      cases x : l[i]? with
      | none =>
        rw [x] at ei
        cases y : l'[i]? with
        | none => rfl
        | some m' => rw [y] at ei; cases ei
      | some m =>
        rw [x] at ei
        cases y : l'[i]? with
        | none => rw [y] at ei; cases ei
        | some m' =>
          rw [y] at ei
          rw [key_one b.1 (sub m (List.mem_of_getElem? x)) (List.mem_of_getElem? y) (Option.some.inj ei)]
def rowP (r : Rw) : List (Key × PyData) := r.map fun p => (Sum.inr p.1, .int p.2)
theorem look_rowP (n : Str) : ∀ r : Rw, lookK (rowP r) (Sum.inr n) = (r.lookup n).map PyData.int
  | [] => rfl
  | p :: r => by
    have ih := look_rowP n r
    unfold lookK rowP at ih ⊢
    rw [List.map_cons, List.find?_cons, List.lookup_cons]
    by_cases c : n = p.1
    · subst c
      rw [decide_eq_true rfl, beq_self_eq_true]
      rfl
    · rw [decide_eq_false (fun e => c (Sum.inr.inj e).symm), beq_false_of_ne c]
      exact ih
theorem eqv_rowP (r r' : Rw) : eqvK (rowP r) (rowP r') = (r.length == r'.length && r.all fun p => decide (r'.lookup p.1 = some p.2)) := by
  unfold eqvK
  congr 1
  · unfold rowP; rw [List.length_map, List.length_map]
  · unfold rowP
    rw [List.all_map]
    congr 1
    funext p
    show hitK (rowP r') (Sum.inr p.1, .int p.2) = _
    unfold hitK
    rw [look_rowP]
    cases r'.lookup p.1 with
    | none => rfl
    | some i =>
      show (p.2 == i) = _
      by_cases c : p.2 = i
      · rw [c, beq_self_eq_true, decide_eq_true rfl]
      · rw [beq_false_of_ne c, decide_eq_false fun e => c (Option.some.inj e).symm]
theorem dcd_row {K : PySem.W.Frag} {H : Hp} {kr : List (Key × V)} {r : Rw} (h : CoinsC kr r) : DcD K H kr (rowP r) :=
  pmap (f := fun p : Str × Int => ((Sum.inr p.1, .int p.2) : Key × PyData)) (fun kv p h => ⟨h.1, by rw [h.2]; exact .int _, rfl, Nat.zero_le _⟩) h
def Told (hs : Hs) : Prop := ∃ h0, Can h0 hs ∧ goodH h0
theorem Told.tl {hs : Hs} (h : Told hs) : TL hs ∧ ∀ p ∈ hs, TL p.2 := by
  obtain ⟨h0, c, g⟩ := h
  obtain ⟨pw, k⟩ := can_names c g
  have gh := can_good c g
  refine ⟨⟨gh.1, pw⟩, fun p m => ?_⟩
  obtain ⟨a, b, _⟩ := row_names (k p m).1 (gR_good g p.1)
  exact ⟨b, a⟩
theorem told_eq {hs hs' : Hs} (a : Told hs) (b : Told hs') : (hs.length == hs'.length && hs.all fun p => (hs'.lookup p.1).isSome && eqvK (rowP p.2) (rowP (gR hs' p.1))) = decide (hs = hs') := by
  obtain ⟨a1, a2⟩ := a.tl
  obtain ⟨b1, b2⟩ := b.tl
  rw [← tl_one a1 b1]
  congr 1
  have : ∀ p ∈ hs, ((hs'.lookup p.1).isSome && eqvK (rowP p.2) (rowP (gR hs' p.1))) = decide (hs'.lookup p.1 = some p.2) := fun p m => by
    unfold gR
    cases e : hs'.lookup p.1 with
    | none => rfl
    | some r =>
      show (true && eqvK (rowP p.2) (rowP r)) = _
      rw [Bool.true_and, eqv_rowP, tl_one (a2 p m) (b2 _ (look_mem e))]
      by_cases c : p.2 = r
      · rw [decide_eq_true c, decide_eq_true (by rw [c])]
      · rw [decide_eq_false c, decide_eq_false fun e => c (Option.some.inj e).symm]
  rw [Bool.eq_iff_iff, List.all_eq_true, List.all_eq_true]
  exact ⟨fun h p m => by rw [← this p m]; exact h p m, fun h p m => by rw [this p m]; exact h p m⟩
end K31

set_option Elab.async false
set_option linter.all false
set_option maxRecDepth 100000
set_option maxHeartbeats 4000000
namespace K31
open PySem PySem.Spec PyProof.Rows L2 Sr
/-! ### __eq__ -/
def legP (g : Leg) : PyData := .tuple [.str g.1, .str g.2.1, .int g.2.2.1, .str g.2.2.2]
def itP (it : List Leg) : PyData := .tuple (it.map legP)
theorem legP_eqv (g h : Leg) : PyData.eqv (legP g) (legP h) = decide (g = h) := by
  obtain ⟨a, b, c, d⟩ := g
  obtain ⟨a', b', c', d'⟩ := h
  show ((a == a') && ((b == b') && ((c == c') && ((d == d') && true)))) = _
  by_cases h1 : a = a'
  · by_cases h2 : b = b'
    · by_cases h3 : c = c'
      · by_cases h4 : d = d'
        · simp [h1, h2, h3, h4]
        · simp [h1, h2, h3, h4]
      · simp [h1, h2, h3]
    · simp [h1, h2]
  · simp [h1]
theorem all_eqv {α : Type} [DecidableEq α] {f : α → PyData} (hf : ∀ a b, PyData.eqv (f a) (f b) = decide (a = b)) : ∀ l m : List α, PyData.eqvAll (l.map f) (m.map f) = decide (l = m)
  | [], [] => rfl
  | [], _ :: _ => rfl
  | _ :: _, [] => rfl
  | a :: l, b :: m => by
    show (PyData.eqv (f a) (f b) && PyData.eqvAll (l.map f) (m.map f)) = _
    rw [hf, all_eqv hf l m]
    by_cases h1 : a = b
    · by_cases h2 : l = m
      · simp [h1, h2]
      · simp [h1, h2]
    · simp [h1]
theorem its_eqv (its its' : Its) : PyData.eqv (.list (its.map itP)) (.list (its'.map itP)) = decide (its = its') :=
  all_eqv (f := itP) (fun a b => all_eqv (f := legP) legP_eqv a b) its its'
theorem dp_legs {K : PySem.W.Frag} {H : Hp} : ∀ {us : List V} {gs : List Leg}, IsA H us (gs.map legT) → DpAll K H us (gs.map legP)
  | us, [], h => by cases h; exact .nil
  | us, g :: r, h => by
    cases h with
    | cons a b =>
      obtain ⟨t, rfl, ht⟩ := leg_at a
      exact .cons (.tup (SqT.of ht) (.cons (.str _) (.cons (.str _) (.cons (.int _) (.cons (.str _) .nil))))) (dp_legs b)
theorem dp_its {K : PySem.W.Frag} {H : Hp} : ∀ {us : List V} {its : Its}, IsA H us (its.map itD) → DpAll K H us (its.map itP)
  | us, [], h => by cases h; exact .nil
  | us, it :: r, h => by
    cases h with
    | cons a b =>
      cases a with
      | tup hv rv zv => exact .cons (.tup (SqT.of hv) (dp_legs rv)) (dp_its b)
theorem lay_legs : ∀ gs : List Leg, (∀ g ∈ gs, goodL g) → PyData.canLayAll0 (gs.map legP) = true ∧ PyData.depthAll (gs.map legP) ≤ 1
  | [], _ => ⟨rfl, Nat.zero_le _⟩
  | g :: r, h => by
    obtain ⟨h1, h2⟩ := lay_legs r fun x m => h x (List.mem_cons_of_mem _ m)
    obtain ⟨g1, g2, g3, _⟩ := h g List.mem_cons_self
    refine ⟨?_, ?_⟩
    · show ((PyData.canLay0 (.str g.1) && (PyData.canLay0 (.str g.2.1) && (true && (PyData.canLay0 (.str g.2.2.2) && true)))) && PyData.canLayAll0 (r.map legP)) = true
      rw [name_lay g1, name_lay g2, name_lay g3, h1]
      rfl
    · show max 1 (PyData.depthAll (r.map legP)) ≤ 1
      omega
theorem lay_its : ∀ its : Its, (∀ it ∈ its, ∀ g ∈ it, goodL g) → PyData.canLayAll0 (its.map itP) = true ∧ PyData.depthAll (its.map itP) ≤ 2
  | [], _ => ⟨rfl, Nat.zero_le _⟩
  | it :: r, h => by
    obtain ⟨h1, h2⟩ := lay_its r fun x m => h x (List.mem_cons_of_mem _ m)
    obtain ⟨g1, g2⟩ := lay_legs it (h it List.mem_cons_self)
    refine ⟨?_, ?_⟩
    · show (PyData.canLayAll0 (it.map legP) && PyData.canLayAll0 (r.map itP)) = true
      rw [g1, h1]
      rfl
    · show max (PyData.depthAll (it.map legP) + 1) (PyData.depthAll (r.map itP)) ≤ 2
      omega
theorem shaped_its {its : Its} (g : goodIts its) : SeqAt.shaped (.list (its.map itP)) = true := by
  obtain ⟨h1, h2⟩ := lay_its its fun it m => (g.2 it m).2
  have hd : PyData.depth (.list (its.map itP)) ≤ 64 := by
    show PyData.depthAll (its.map itP) + 1 ≤ 64
    omega
  unfold SeqAt.shaped
  rw [decide_eq_true hd, Bool.and_true]
  exact h1
theorem coins_one {kr : List (Key × V)} : ∀ {r r' : Rw}, CoinsC kr r → CoinsC kr r' → r = r' := by
  induction kr with
  | nil => intro r r' a b; cases a; cases b; rfl
  | cons kv k ih =>
    intro r r' a b
    cases a with
    | cons a1 a2 =>
      cases b with
      | cons b1 b2 =>
        have e1 : Sum.inr _ = Sum.inr _ := a1.1.symm.trans b1.1
        have e2 := a1.2.symm.trans b1.2
        rw [ih a2 b2]
        congr 1
        exact Prod.ext (Sum.inr.inj e1) (V.int.inj e2)
theorem HldR.some_ {H : Hp} {kv : List (Key × V)} {hs : Hs} (h : HldR H kv hs) (n : Str) : (valV kv (Sum.inr n)).isSome = (hs.lookup n).isSome ∧ ∀ u, valV kv (Sum.inr n) = some u → ∃ d kr, u = .ref d ∧ H d = some (.dK kr) ∧ CoinsC kr (gR hs n) := by
  unfold HldR at h
  induction h with
  | nil => exact ⟨rfl, fun u e => by cases e⟩
  | @cons kv p kc cs h r ih =>
    unfold gR at ih ⊢
    rw [List.lookup_cons]
    by_cases c : n = p.1
    · subst c
      rw [valV_pos h.1, beq_self_eq_true]
      refine ⟨rfl, fun u e => ?_⟩
      obtain ⟨_, d, kr, a1, a2, a3⟩ := h
      rw [← Option.some.inj e, a1]
      exact ⟨d, kr, rfl, a2, a3⟩
    · rw [valV_neg (by rw [h.1]; exact fun z => c (Sum.inr.inj z).symm), beq_false_of_ne c]
      exact ih
def eK (hs hs' : Hs) : Key → Bool
  | .inr n => eqvK (rowP (gR hs n)) (rowP (gR hs' n))
  | .inl _ => false
theorem row_eqv (r : Rw) (nd : (r.map (·.1)).Nodup) : eqvK (rowP r) (rowP r) = true := by
  rw [eqv_rowP, beq_self_eq_true, Bool.true_and, List.all_eq_true]
  exact fun p m => decide_eq_true (mem_look nd m)
theorem holds_eq {H : Hp} {kv kv' : List (Key × V)} {hs hs' : Hs} (a : HldR H kv hs) (b : HldR H kv' hs') (nd : (hs.map (·.1)).Nodup) : (kv.length == kv'.length && kv.all fun p => (valV kv' p.1).isSome && eK hs hs' p.1) = (hs.length == hs'.length && hs.all fun p => (hs'.lookup p.1).isSome && eqvK (rowP p.2) (rowP (gR hs' p.1))) := by
  rw [Paired.length a, Paired.length b]
  congr 1
  have : ∀ {l : List (Key × V)} {m : Hs}, HldR H l m → (∀ p ∈ m, gR hs p.1 = p.2) → (l.all fun p => (valV kv' p.1).isSome && eK hs hs' p.1) = m.all fun p => (hs'.lookup p.1).isSome && eqvK (rowP p.2) (rowP (gR hs' p.1)) := by
    intro l m h
    unfold HldR at h
    induction h with
    | nil => intro _; rfl
    | @cons kv p kc cs h r ih =>
      intro k
      rw [List.all_cons, List.all_cons, ih fun q m => k q (List.mem_cons_of_mem _ m), h.1, (b.some_ p.1).1]
      congr 2
      show eqvK (rowP (gR hs p.1)) _ = _
      rw [k p List.mem_cons_self]
  refine this a fun p m => ?_
  unfold gR
  rw [mem_look nd (show (p.1, p.2) ∈ hs from m)]
  rfl
structure QuN (K : PySem.W.Frag) (mg : Str → Option Value) : Prop where
  nm : mg "Queues" = some (.ref (He.ga K "Queues"))
  ca : PySem.W.findIn K (.ref (He.ga K "Queues")) "__class__" = some (some (.builtin "object.__class__"))
  cn : PySem.W.specialIn K (.builtin "object.__class__") "__get__" = some (some (.builtin "getset_descriptor.__get__"))
  ct : PySem.W.takesIn K (.builtin "object.__class__") = some true
  cm : PySem.W.mroIn K (He.ga K "Queues") (.type "object") = some true
  yes : PySem.W.kitOne K (.ref (He.ga K "Queues")) (.ref (He.ga K "Queues")) = some true
  noL : PySem.W.kitOne K (.type "list") (.ref (He.ga K "Queues")) = some false
theorem QuN.e {X : Cx} {p : Pos} (N : QuN X.K X.mg) (h : Gl X "Queues" := by rfl) : PE X (.Name "Queues" p) (tC (.ref (He.ga X.K "Queues"))) := pe_glob h N.nm rfl
def spQEq (K : PySem.W.Frag) : Sp := fun vs H Q _ => ∃ x y hs its, vs = [.ref x, y] ∧ QueR K H H x hs its ∧ Told hs ∧
  ((∃ b xs, y = .ref b ∧ H b = some (.lst xs) ∧ Q (.bl false) H) ∨ ∃ b hs' its', y = .ref b ∧ QueR K H H b hs' its' ∧ Told hs' ∧ Q (.bl (decide (hs = hs') && decide (its = its'))) H)
section
variable {P : Program} {w : World} {K : PySem.W.Frag} {mg : Str → Option Value} {base : Heap}
abbrev s_Queues___eq__ : Stmt := inClass (top 14) 10
theorem sc_Queues___eq__ : FnScope ["self", "other"] ["self", "other"] (defScope s_Queues___eq__) := ⟨rfl, rfl, rfl, by decide +kernel, rfl, by decide +kernel, by decide +kernel⟩
theorem m_eq (T : Txt K mg) (O : Que K mg) (N : QuN K mg) (D : DfnM K "Queues" "__eq__" "Queues.__eq__" s_Queues___eq__) : CalM P w K mg base CX0 1 (He.fAd K ("Queues", some "__eq__")) ["self", "other"] (spQEq K) := by
  refine D.cal sc_Queues___eq__ (fun _ _ _ _ _ _ us hl => match us, hl with | [_, _], _ => rfl) (fun vs H Q E h => ?_) fun cdv A outer s H vs Q E hr h => ?_
  · obtain ⟨x, y, hs, its, rfl, _⟩ := h
    rfl
  obtain ⟨x, y, hs, its, rfl, hx, to, h⟩ := h
  obtain ⟨dx, c, l, kc, us, h1, h2, h3, h4, h5, g, gi⟩ := id hx
  refine ⟨_, (pss_one (ps_ret (pe_and (pe_callB (id := "isinstance") call_isi (by rfl) T.isinstance (by decide +kernel) (pa_cons (pv 1) (pa_cons (N.e (by rfl)) pa_nil))) (pe_and (pe_cmpR (op_eqDD hr.units) (pe_fld (pv 0) rfl) (pe_fld (pv 1) rfl) (nomark _)) (pe_one (pe_cmpR (op_eqD hr.units) (pe_fld (pv 0) rfl) (pe_fld (pv 1) rfl) (nomark _))))))), ?_⟩
  rcases h with ⟨b, xs, rfl, hb, q⟩ | ⟨b, hs', its', rfl, hy, to', q⟩
  · exact ⟨_, rfl, _, _, _, _, _, rfl, .own _, .base (.lst hb), N.noL, _, rfl, iteF q⟩
  · obtain ⟨dx', c', l', kc', us', g1, g2, g3, g4, g5, g', gi'⟩ := id hy
    refine ⟨_, rfl, _, _, _, _, _, rfl, .own _, .base (.ins g1 O.cl N.ca N.cn N.ct N.cm), N.yes, _, rfl, iteT ?_⟩
    refine ⟨_, rfl, x, _, dx, _, _, rfl, h1, O.cl, O.nH, rfl, _, rfl, b, _, dx', _, _, rfl, g1, O.cl, O.nH, rfl, c, c', kc, kc', eK hs hs', rfl, rfl, h2, g2, fun k v u m e => ?_, _, rfl, ?_⟩
    · obtain ⟨i, hi⟩ := List.mem_iff_getElem?.mp m
      obtain ⟨p, hp⟩ : ∃ p, hs[i]? = some p := by
        have := Paired.length h3
        have := (List.getElem?_eq_some_iff.mp hi).1
        exact ⟨hs[i]'(by omega), List.getElem?_eq_getElem (by omega)⟩
      obtain ⟨ek, d, kr, ev, hd, cc⟩ := Paired.at2 h3 hi hp
      have ek : k = Sum.inr p.1 := ek
      have ev : v = .ref d := ev
      subst ek
      subst ev
      obtain ⟨d', kr', rfl, hd', cc'⟩ := (g3.some_ p.1).2 u e
      have eg : gR hs p.1 = p.2 := by
        unfold gR
        rw [mem_look g.1 (show (p.1, p.2) ∈ hs from List.mem_of_getElem? hp)]
        rfl
      refine ⟨d, d', kr, kr', _, _, rfl, rfl, hd, hd', dcd_row cc, dcd_row cc', ?_, fun z => ?_⟩
      · show eqvK (rowP (gR hs p.1)) _ = _
        rw [eg]
      · show eqvK (rowP (gR hs p.1)) (rowP (gR hs' p.1)) = true
        subst z
        rw [hd] at hd'
        cases hd'
        rw [eg, coins_one cc cc']
        exact row_eqv _ (gR_good g' p.1).1
    · rw [holds_eq h3 g3 g.1, told_eq to to']
      by_cases ch : hs = hs'
      · rw [decide_eq_true ch] at q ⊢
        rw [Bool.true_and, ← its_eqv] at q
        exact iteT ⟨_, rfl, x, _, dx, _, _, rfl, h1, O.cl, O.nI, rfl, _, rfl, b, _, dx', _, _, rfl, g1, O.cl, O.nI, rfl, .list (its.map itP), .list (its'.map itP), .lst (SqL.of h4) (dp_its h5), .lst (SqL.of g4) (dp_its g5), shaped_its gi, shaped_its gi', q⟩
      · rw [decide_eq_false ch] at q ⊢
        exact iteF q
end
end K31

set_option Elab.async false
set_option linter.all false
set_option maxRecDepth 100000
set_option maxHeartbeats 4000000
namespace K31
open PySem PySem.Spec PyProof.Rows L2 Sr
/-! ### given(member, thing, many) -/
def putC (cs : Rw) (n : Str) (z : Int) : Rw := if (cs.any fun p => decide (p.1 = n)) = true then cs.map (fun p => if p.1 = n then (p.1, z) else p) else cs ++ [(n, z)]
theorem CoinsC.put {kc : List (Key × V)} {cs : Rw} (h : CoinsC kc cs) (n : Str) (z : Int) : CoinsC (putK kc (Sum.inr n) (.int z)) (putC cs n z) := by
  have any : (kc.any fun kv => decide (kv.1 = Sum.inr n)) = cs.any fun p => decide (p.1 = n) := by
    unfold CoinsC at h
    induction h with
    | nil => rfl
    | cons h _ ih =>
      rw [List.any_cons, List.any_cons, ih, h.1]
      congr 1
      exact decide_eq_decide.mpr ⟨fun e => Sum.inr.inj e, fun e => by rw [e]⟩
  unfold putK putC
  rw [any]
  split
  · rename_i cc
    clear cc
    unfold CoinsC at h ⊢
    clear any
    induction h with
    | nil => exact .nil
    | @cons kv p kc cs h r ih =>
      rw [List.map_cons, List.map_cons]
      refine .cons ?_ ih
      by_cases c : p.1 = n
      · rw [if_pos (by rw [h.1, c]), if_pos c]
        exact ⟨h.1, rfl⟩
      · rw [if_neg (fun e => c (Sum.inr.inj (h.1.symm.trans e))), if_neg c]
        exact h
  · exact Paired.snoc (F := fun (kv : Key × V) (p : Str × Int) => kv.1 = Sum.inr p.1 ∧ kv.2 = .int p.2) ⟨rfl, rfl⟩ h
theorem putC_len {cs : Rw} {n : Str} {z : Int} : (putC cs n z).length ≤ cs.length + 1 := by
  unfold putC
  split
  · rw [List.length_map]; omega
  · rw [List.length_append]; exact Nat.le_refl _
theorem putC_names {cs : Rw} {n : Str} {z : Int} : (putC cs n z).map (·.1) = if n ∈ cs.map (·.1) then cs.map (·.1) else cs.map (·.1) ++ [n] := by
  unfold putC
  by_cases c : n ∈ cs.map (·.1)
  · obtain ⟨p, mp, e⟩ := List.mem_map.mp c
    rw [if_pos (List.any_eq_true.mpr ⟨p, mp, decide_eq_true e⟩), if_pos c, List.map_map]
    refine List.map_congr_left fun q _ => ?_
    show (if q.1 = n then (q.1, z) else q).1 = q.1
    split <;> rfl
  · rw [if_neg c, if_neg fun h => c (by obtain ⟨p, mp, e⟩ := List.any_eq_true.mp h; exact List.mem_map.mpr ⟨p, mp, of_decide_eq_true e⟩), List.map_append]
    rfl
theorem putC_mem {cs : Rw} {n : Str} {z : Int} {p : Str × Int} (m : p ∈ putC cs n z) : p = (n, z) ∨ p ∈ cs := by
  unfold putC at m
  split at m
  · obtain ⟨q, mq, e⟩ := List.mem_map.mp m
    split at e
    · rename_i c
      exact .inl (by rw [← e, c])
    · exact .inr (by rw [← e]; exact mq)
  · rcases List.mem_append.mp m with m | m
    · exact .inr m
    · exact .inl (List.mem_singleton.mp m)
theorem look_append {l m : Rw} {s : Str} : (l ++ m).lookup s = (l.lookup s).or (m.lookup s) := by
  induction l with
  | nil => rfl
  | cons p r ih =>
    rw [List.cons_append, List.lookup_cons, List.lookup_cons, ih]
    by_cases c : s = p.1
    · rw [c, beq_self_eq_true]; rfl
    · rw [beq_false_of_ne c]
theorem putC_get {cs : Rw} {n : Str} {z : Int} (s : Str) : gC (putC cs n z) s = if s = n then z else gC cs s := by
  unfold gC putC
  split
  · rename_i c
    have aux : ∀ l : Rw, (l.map fun p => if p.1 = n then (p.1, z) else p).lookup s = if s = n then (l.lookup s).map fun _ => z else l.lookup s := by
      intro l
      induction l with
      | nil => split <;> rfl
      | cons p r ih =>
        rw [List.map_cons, List.lookup_cons, List.lookup_cons, ih]
        have e1 : (if p.1 = n then (p.1, z) else p).1 = p.1 := by split <;> rfl
        rw [e1]
        by_cases c1 : s = p.1
        · rw [c1, beq_self_eq_true]
          by_cases c2 : p.1 = n
          · rw [if_pos c2, if_pos c2]; rw [if_pos c2]; rfl
          · rw [if_neg c2, if_neg c2]; rw [if_neg c2]
        · rw [beq_false_of_ne c1]
    rw [aux]
    by_cases c1 : s = n
    · rw [if_pos c1, if_pos c1]
      have : (cs.lookup s).isSome = true := by
        obtain ⟨p, mp, e⟩ := List.any_eq_true.mp c
        have e := of_decide_eq_true e
        clear aux c
        induction cs with
        | nil => cases mp
        | cons q r ih =>
          rw [List.lookup_cons]
          by_cases c3 : s = q.1
          · rw [c3, beq_self_eq_true]; rfl
          · rw [beq_false_of_ne c3]
            exact ih ((List.mem_cons.mp mp).resolve_left fun h => c3 (by rw [← h, e, c1]))
      obtain ⟨v, hv⟩ := Option.isSome_iff_exists.mp this
      rw [hv]
      rfl
    · rw [if_neg c1, if_neg c1]
  · rename_i c
    rw [look_append]
    by_cases c1 : s = n
    · rw [if_pos c1]
      have : cs.lookup s = none := by
        cases e : cs.lookup s with
        | none => rfl
        | some i => exact absurd (List.any_eq_true.mpr ⟨_, look_mem e, decide_eq_true c1⟩) c
      rw [this, c1]
      show (List.lookup n [(n, z)]).getD 0 = z
      rw [List.lookup_cons, beq_self_eq_true]
      rfl
    · rw [if_neg c1]
      have : List.lookup s [(n, z)] = none := by rw [List.lookup_cons, beq_false_of_ne c1]; rfl
      rw [this]
      cases cs.lookup s <;> rfl

def addR (r : Rw) (t : Str) (n : Int) : Rw := putC r t (gC r t + n)
def addH (hs : Hs) (m t : Str) (n : Int) : Hs := if m ∈ hs.map (·.1) then hs.map (fun p => if p.1 = m then (p.1, addR (gR hs m) t n) else p) else hs ++ [(m, addR [] t n)]
theorem hld_put {H : Hp} {m : Str} {d : Addr} {kr : List (Key × V)} {row : Rw} (cc : CoinsC kr row) : ∀ {kv : List (Key × V)} {hs : Hs}, HldR H kv hs → (kv.map (·.2)).Nodup → (hs.map (·.1)).Nodup → (∀ q ∈ kv, q.2 = .ref d → q.1 = Sum.inr m) → (∀ q ∈ kv, q.1 = Sum.inr m → q.2 = .ref d) →
    HldR (upd H d (.dK kr)) kv (hs.map fun p => if p.1 = m then (p.1, row) else p)
  | _, _, .nil, _, _, _, _ => .nil
  | _, _, .cons (a := q) (b := p) h r, nv, nk, h1, h2 => by
    rw [List.map_cons] at nv nk
    have ih := hld_put cc r (List.nodup_cons.mp nv).2 (List.nodup_cons.mp nk).2 (fun q m => h1 q (List.mem_cons_of_mem _ m)) (fun q m => h2 q (List.mem_cons_of_mem _ m))
    obtain ⟨e, d1, kr1, a1, a2, a3⟩ := h
    rw [List.map_cons]
    by_cases c : p.1 = m
    · have ed := h2 q List.mem_cons_self (by rw [e, c])
      rw [if_pos c]
      exact .cons ⟨e, d, kr, ed, upd_same, cc⟩ ih
    · rw [if_neg c]
      have nd : d1 ≠ d := fun z => by
        have := h1 q List.mem_cons_self (by rw [a1, z])
        rw [e] at this
        exact c (Sum.inr.inj this)
      exact .cons ⟨e, d1, kr1, a1, by rw [upd_ne nd]; exact a2, a3⟩ ih
theorem HldR.snoc {H : Hp} {kv : List (Key × V)} {hs : Hs} {m : Str} {d : Addr} {kr : List (Key × V)} {row : Rw} (h : HldR H kv hs) (hd : H d = some (.dK kr)) (cc : CoinsC kr row) : HldR H (kv ++ [(Sum.inr m, .ref d)]) (hs ++ [(m, row)]) :=
  Sr.Paired.snoc (F := fun (kv : Key × V) (p : Str × Rw) => kv.1 = Sum.inr p.1 ∧ ∃ d kr, kv.2 = .ref d ∧ H d = some (.dK kr) ∧ CoinsC kr p.2) ⟨rfl, d, kr, rfl, hd, cc⟩ h
def spGiven (K : PySem.W.Frag) : Sp := fun vs H Q _ => ∃ x m t n hs its, vs = [.ref x, .str m, .str t, .int n] ∧ nameOk (.str m) = true ∧ nameOk (.str t) = true ∧ 0 ≤ n ∧ QueR K H H x hs its ∧ goodH (addH hs m t n) ∧ ∀ x' H' hs', H x' = none → Same H H' → Can (addH hs m t n) hs' → QueR K (newH H H') H' x' hs' its → Q (.ref x') H'
structure QueM2 (K : PySem.W.Frag) : Prop where
  holdings : Meth K (He.ga K "Queues") "holdings" (He.fAd K ("Queues", some "holdings"))
section
variable {P : Program} {w : World} {K : PySem.W.Frag} {mg : Str → Option Value} {base : Heap}
abbrev s_Queues_given : Stmt := inClass (top 14) 8
theorem sc_Queues_given : FnScope ["self", "member", "thing", "many", "name", "holdings", "held"] ["self", "member", "thing", "many"] (defScope s_Queues_given) := ⟨rfl, rfl, rfl, by decide +kernel, rfl, by decide +kernel, by decide +kernel⟩
theorem m_given (T : Txt K mg) (O : Que K mg) (OM : QueM2 K) (MkQ0 : MkQ P w K mg base) (D : DfnM K "Queues" "given" "Queues.given" s_Queues_given) (C_is_name : Cal P w K mg base 1 "is_name" ["thing"] (spB nameOk)) (C_is_integer : Cal P w K mg base 1 "is_integer" ["thing"] (spB isInteger)) (MH : CalM P w K mg base CX0 1 (He.fAd K ("Queues", some "holdings")) ["self"] (spHold K)) : CalM P w K mg base CX0 8 (He.fAd K ("Queues", some "given")) ["self", "member", "thing", "many"] (spGiven K) := by
  refine D.cal sc_Queues_given (fun _ _ _ _ _ _ us hl => match us, hl with | [_, _, _, _], _ => rfl) (fun vs H Q E h => ?_) fun cdv A outer s H vs Q E hr h => ?_
  · obtain ⟨x, m, t, n, hs, its, rfl, _⟩ := h
    rfl
  obtain ⟨x, m, t, n, hs, its, rfl, gm, gt, n0, h, ga, q⟩ := h
  obtain ⟨dx, c, l, kc, us, h1, h2, h3, h4, h5, g, gi⟩ := id h
  refine ⟨_, (pss_cons (ps_for PassesOwn.never rfl (pi_tup (pe_tup (pa_cons (pv 1) (pa_cons (pv 2) pa_nil)))) (pg_name (i := 4) sc_Queues_given.nd rfl (by first | exact Or.inl rfl | exact Or.inr rfl))
      (pss_one (ps_if (pt_not (pt_val (pe_cal C_is_name hr (by first | decide | omega) (by rfl) (pa_cons (pv 4) pa_nil)))) pss_never pss_nil)))
      (pss_cons (ps_if (PW.pt (pw_or (pt_not (pt_val (pe_cal C_is_integer hr (by first | decide | omega) (by rfl) (pa_cons (pv 3) pa_nil)))) (pw_or1 (pt_cmpR op_lt (pv 3) pe_int (nomark _))))) pss_never pss_nil)
      (pss_cons (ps_set (i := 5) sc_Queues_given.nd rfl (by first | exact Or.inl rfl | exact Or.inr rfl) (m0_ MH hr (by decide) O.cl OM.holdings (pv 0)))
      (pss_cons (ps_set (i := 6) sc_Queues_given.nd rfl (by first | exact Or.inl rfl | exact Or.inr rfl) (pe_dsetd (pv 5) (pv 1) pe_dnewK ⟨rfl, by rfl, rfl, rfl⟩))
      (pss_cons (ps_dput (hu_of hr) (pv 6) (pv 2) (pe_op op_add (pe_dget2 (hu_of hr) (pv 6) (pv 2) pe_int ⟨rfl, by rfl, rfl, rfl⟩) (pv 3)) rfl)
      (pss_one (ps_ret (MkQ.pe (K := K) (w := w) MkQ0 rfl rfl hr (by decide) (by rfl) (pa_cons (pv 5) (pa_cons (pe_fld (pv 0) rfl) pa_nil)))))))))), ?_⟩
  refine cut_if (fun σ H' => (∃ v4, σ = [some (.ref x), some (.str m), some (.str t), some (.int n), v4, none, none]) ∧ Same H H') ?_ fun rest => ?_
  rotate_left
  · refine ⟨_, rfl, _, rfl, two_line, fun t0 ht0 => ?_⟩
    have s0 := Same.up (H := H) (o := .tup [.str m, .str t]) ht0
    have e0 : (upd H t0 (.tup [.str m, .str t])) t0 = some (.tup ([m, t].map V.str)) := upd_same
    refine ⟨t0, rfl, ⟨_, SqT.of e0⟩, for_it (walk_tup (xs := [m, t].map V.str)) (fun i σ H' => (∃ v4, σ = [some (.ref x), some (.str m), some (.str t), some (.int n), v4, none, none]) ∧ Same H H' ∧ H' t0 = some (.tup ([m, t].map V.str))) ⟨⟨_, rfl⟩, s0, e0⟩ (fun i σ H' _ pp => SqT.of pp.2.2) ?_ ?_⟩
    · rintro i u σ H1 H2 hi ⟨⟨v4, rfl⟩, s1, e1⟩ ⟨rfl, hu⟩
      rw [List.getElem?_map] at hu
      obtain ⟨z, hz, rfl⟩ := Option.map_eq_some_iff.mp hu
      have gz : nameOk (.str z) = true := by
        have mz := List.mem_of_getElem? hz
        simp only [List.mem_cons, List.not_mem_nil, or_false] at mz
        rcases mz with rfl | rfl
        · exact gm
        · exact gt
      dsimp only [gName]
      refine ⟨_, rfl, _, .str z, rfl, .str _ (name_short gz), fun H3 s3 => ⟨_, rfl, ?_⟩⟩
      rw [gz]
      exact iteF ⟨⟨_, rfl⟩, s1.trans s3, s3 _ _ e1⟩
    · rintro σ H1 ⟨⟨v4, rfl⟩, s1, _⟩
      exact rest _ _ ⟨⟨_, rfl⟩, s1⟩
  rintro σ G1 ⟨⟨v4, rfl⟩, s1⟩
  try dsimp only
  refine cut_if (fun σ H' => σ = [some (.ref x), some (.str m), some (.str t), some (.int n), v4, none, none] ∧ Same H H') ?_ fun rest => ?_
  rotate_left
  · refine ⟨_, rfl, _, .int n, rfl, .int _, fun H3 s3 => ⟨_, rfl, iteF ⟨_, rfl, _, _, rfl, rfl, _, rfl, ?_⟩⟩⟩
    rw [decide_eq_false (show ¬ n < 0 by omega)]
    exact iteF (rest _ _ ⟨rfl, s1.trans s3⟩)
  rintro σ G2 ⟨rfl, s2⟩
  try dsimp only
  have qx := h.mono s2
  refine ⟨_, rfl, x, dx, _, rfl, s2 _ _ h1, rfl, x, hs, its, rfl, qx, fun G3 p kd s3 hp hkd hl nv => ?_⟩
  try dsimp only
  have s23 := s2.trans s3
  have p0 : H p = none := free_below s2 hp
  have hl3 : HldR G3 kd hs := hl.mono new_same
  have lkd : kd.length ≤ 6 := by rw [Paired.length hl3]; exact g.2.1
  -- what is at the end
  have fin : ∀ {G : Hp} {kv : List (Key × V)}, Same H G → G p = some (.dK kv) → HldR G kv (addH hs m t n) → ∀ (v4 v6 : Option V), tRet (tMake (He.ga K "Queues") (spQInit K) [] E0 (tCons (tVar 5) (tCons (tFld K (tVar 0) "_items") tNil))) { nx := fun x H' => Q V.non H', rt := Q } [some (.ref x), some (.str m), some (.str t), some (.int n), v4, some (.ref p), v6] G := by
    intro G kv sG hk hh v4 v6
    refine ⟨_, rfl, _, rfl, x, _, dx, _, _, rfl, sG _ _ h1, O.cl, O.nI, rfl, ?_⟩
    delta tNil
    dsimp only
    refine ok_queues hk hh ga ⟨l, us, rfl, .inl (sG _ _ h4), itms_of (h5.mono sG)⟩ gi fun x' H' hs' hx s can qr => ?_
    exact q x' H' hs' (free_below sG hx) (sG.trans s) can (qr.keep (new_below sG) fun _ _ e => e)
  refine ⟨_, rfl, p, rfl, .inl ⟨kd, .inl hkd⟩, _, rfl, fun q0 hq0 => ⟨kd, Sum.inr m, Same.up hq0 _ _ hkd, rfl, sz (m := 60) (by omega) (by decide), fun v hv => ?_, fun hv => ?_⟩⟩
  · obtain ⟨d, kr, rfl, hd, cc⟩ := (hl3.some_ m).2 v hv
    have mm : m ∈ hs.map (·.1) := by
      have := (hl3.some_ m).1
      rw [hv] at this
      cases e : hs.lookup m with
      | none => rw [e] at this; cases this
      | some r => exact List.mem_map.mpr ⟨_, look_mem e, rfl⟩
    obtain ⟨d2, kr2, e2, hd2, _⟩ := (hl.some_ m).2 _ hv
    have ed : d2 = d := (V.ref.inj e2).symm
    have dn : G2 d = none := by rw [← ed]; exact new_no hd2
    have d0 : H d = none := free_below s2 dn
    have s4 := Same.up (o := .dK []) hq0
    have hd4 := s4 _ _ hd
    have npd : p ≠ d := fun z => by
      have mk := val_mem hv
      rw [← z, hkd] at hd
      cases hd
      obtain ⟨i, hi⟩ := List.mem_iff_getElem?.mp mk
      obtain ⟨b, hb⟩ : ∃ b, (gR hs m)[i]? = some b := by
        have h1 := (List.getElem?_eq_some_iff.mp hi).1
        have h2 := Paired.length cc
        exact ⟨(gR hs m)[i]'(by omega), List.getElem?_eq_getElem (by omega)⟩
      have := (Paired.at2 cc hi hb).2
      cases this
    have lkr : kr.length ≤ 6 := by rw [Paired.length cc]; exact (gR_good g m).2.1
    refine ⟨_, rfl, d, rfl, .inl ⟨kr, .inl hd4⟩, _, rfl, valV kr (Sum.inr t), .inl ⟨kr, Sum.inr t, .inl hd4, rfl, rfl⟩, ?_⟩
    have eg : (valV kr (Sum.inr t)).getD (V.int 0) = .int (gC (gR hs m) t) := by
      rw [cc.val]
      unfold gC
      cases (gR hs m).lookup t <;> rfl
    rw [eg]
    refine ⟨_, rfl, _, _, rfl, rfl, _, rfl, _, rfl, d, _, rfl, .inl ⟨kr, Sum.inr t, hd4, rfl, sz (m := 60) (by omega) (by decide), rfl⟩, ?_⟩
    have nk := keys_nd (F := fun v (r : Rw) => ∃ d kr, v = .ref d ∧ G3 d = some (.dK kr) ∧ CoinsC kr r) hl3 g.1
    refine fin (same_free (s23.trans s4) d0) (by rw [upd_ne npd]; exact s4 _ _ hkd) ?_ _ _
    have ea : addH hs m t n = hs.map (fun p => if p.1 = m then (p.1, addR (gR hs m) t n) else p) := if_pos mm
    rw [ea]
    refine hld_put (CoinsC.put cc t _) (hl3.mono s4) nv g.1 (fun q mq e => ?_) fun q mq e => ?_
    · obtain ⟨i, hi⟩ := List.mem_iff_getElem?.mp mq
      obtain ⟨j, hj⟩ := List.mem_iff_getElem?.mp (val_mem hv)
      have x1 : (kd.map (·.2))[i]? = some (.ref d) := by rw [List.getElem?_map, hi]; exact congrArg some e
      have x2 : (kd.map (·.2))[j]? = some (.ref d) := by rw [List.getElem?_map, hj]; rfl
      have ij := (List.getElem?_inj (List.getElem?_eq_some_iff.mp x1).1 nv).mp (x1.trans x2.symm)
      rw [ij, hj] at hi
      exact (congrArg Prod.fst (Option.some.inj hi)).symm
    · have := val_nodup nk q mq
      rw [e, hv] at this
      exact (Option.some.inj this).symm
  · have nm : m ∉ hs.map (·.1) := fun mm => by
      have := (hl3.some_ m).1
      rw [hv] at this
      obtain ⟨q, mq, e⟩ := List.mem_map.mp mm
      rw [← e, mem_look g.1 (show (q.1, q.2) ∈ hs from mq)] at this
      cases this
    have s4 := Same.up (o := .dK []) hq0
    have q00 : H q0 = none := free_below s23 hq0
    have nqp : q0 ≠ p := fun z => by rw [z, hkd] at hq0; cases hq0
    have ek := (keys_names (F := fun v (r : Rw) => ∃ d kr, v = .ref d ∧ G3 d = some (.dK kr) ∧ CoinsC kr r) hl3).2
    have nk : (Sum.inr m : Key) ∉ kd.map (·.1) := by
      rw [ek]
      intro z
      obtain ⟨q, mq, e⟩ := List.mem_map.mp z
      exact nm (List.mem_map.mpr ⟨q, mq, Sum.inr.inj e⟩)
    try dsimp only
    have hq1 : (upd (upd G3 q0 (.dK [])) p (.dK (putK kd (Sum.inr m) (.ref q0)))) q0 = some (.dK []) := by rw [upd_ne nqp, upd_same]
    refine ⟨_, rfl, q0, rfl, .inl ⟨[], .inl hq1⟩, _, rfl, valV [] (Sum.inr t), .inl ⟨[], Sum.inr t, .inl hq1, rfl, rfl⟩, ?_⟩
    refine ⟨_, rfl, _, _, rfl, rfl, _, rfl, _, rfl, q0, _, rfl, .inl ⟨[], Sum.inr t, hq1, rfl, sz (m := 60) (by decide) (by decide), rfl⟩, ?_⟩
    have ea : addH hs m t n = hs ++ [(m, addR [] t n)] := if_neg nm
    refine fin (kv := kd ++ [(Sum.inr m, .ref q0)]) (same_free (same_free (s23.trans s4) p0) q00) (by rw [upd_ne nqp.symm, upd_same, Sr.putK_new nk]) ?_ _ _
    rw [ea]
    have keepd : ∀ {d : Addr} {kr : List (Key × V)}, d ≠ p → G3 d = some (.dK kr) → (upd (upd (upd G3 q0 (.dK [])) p (.dK (putK kd (Sum.inr m) (.ref q0)))) q0 (.dK (putK [] (Sum.inr t) (.int (0 + n))))) d = some (.dK kr) := fun {d kr} n1 hd => by
      have n2 : d ≠ q0 := fun z => by rw [z, hq0] at hd; cases hd
      rw [upd_ne n2, upd_ne n1, upd_ne n2]
      exact hd
    refine HldR.snoc ?_ upd_same (CoinsC.put .nil t (0 + n))
    by_cases hk : kd = []
    · subst hk
      cases hl3
      exact .nil
    · have neP : ∀ {d : Addr} {kr : List (Key × V)} {r : Rw}, G3 d = some (.dK kr) → CoinsC kr r → d ≠ p := fun {d kr r} hd cc z => by
        rw [z, hkd] at hd
        cases hd
        cases hl3 with
        | nil => exact hk rfl
        | cons a _ =>
          obtain ⟨_, d2, kr2, a1, _⟩ := a
          cases cc with
          | cons b _ =>
            have b2 := b.2
            rw [a1] at b2
            cases b2
      exact L2.Paired.mapP hl3 fun _ _ ⟨e, d, kr, a, b, c⟩ => ⟨e, d, kr, a, keepd (neP b c) b, c⟩
end
end K31

set_option Elab.async false
set_option linter.all false
set_option maxRecDepth 100000
set_option maxHeartbeats 4000000
namespace Sr
open PySem PySem.Spec PyProof.Rows L2
/-! ### dict comprehensions whose keys are tuples -/
/-- one entry, under a tuple's key -/
theorem put_dT {X : Cx} {pins : List (Addr × Obj)} {σ : L2.St} {H : Hp} {s : Shared} {E : Value → Shared → Prop} {D b : Addr} {kvs : List (List Key × V)} {k : List Key} {v : V} {r : Value} {Q : Unit → Shared → Prop} (hu : X.A.units + 1 < cLine)
    (I : L2.Inv X pins σ H s) (hD : H D = some (.dT kvs)) (hz : kvs.length < sizeLine) (eb : H b = some (.tup (k.map kV))) (rv : L2.RelV v r) (h : ∀ s', L2.Inv X pins σ (upd H D (.dT (putK kvs k v))) s' → Q () s') :
    wpAny (model X.prog X.w) X.A (dictSet D (.ref b) r) Q E s := by
  obtain ⟨z, hd, xs, rel, dd⟩ := dt_of I.hok hD
  have room : (tupleKind (mixKind X.prog X.w)).room X.A := show X.A.units < cLine by omega
  refine wpAny_dictSet_heap (hsz := (Paired.length rel) ▸ z) room (key_of I.hok eb) dd fun h' dd' same => h _ ?_
  obtain ⟨q, es, ep, hq, a2, a3, a4, _, a5⟩ := dd'
  have kept : KT (upd H D (.dT (putK kvs k v))) (putK kvs k v) (storedH xs k b r) := (rel.put k eb rv).keeps fun c ys ec => (upd_ne (ne_of ec hD (by intro z; cases z))).trans ec
  have small : (putK kvs k v).length ≤ sizeLine := Nat.le_trans (length_putK kvs k v) hz
  exact d_write I (by rw [hD]; trivial) same ⟨q, hq⟩ ⟨small, hd, _, kept, q, es, ep, hq, a2, a3, a4, a5⟩
/-- what one entry asks: a tuple as key, the dict as it stands, then on -/
def PutT (D : Addr) (y z : V) (H : Hp) (Nx : Hp → Prop) : Prop := ∃ kvs k b, y = .ref b ∧ H D = some (.dT kvs) ∧ H b = some (.tup (k.map kV)) ∧ kvs.length < sizeLine ∧ Nx (upd H D (.dT (putK kvs k z)))
/-- a walk's turns, each an entry or none -/
def DcW (J : It) (g : TG) (tt : TT) (tk tv : TE) (σ0 : L2.St) (vs : List Nat) (D : Addr) (q : Hp → Prop) (W : Nat → Nat → Hp → Prop) : Prop := ∀ i m H, W i m H →
  (J.stop i H ∧ q H) ∨ (J.go i H ∧ ∃ Nx : Hp → Prop, (∀ H', Nx H' → ∃ m', m' < m ∧ W (i + 1) m' H') ∧ ∀ x H', J.yld i H x H' → g x σ0 H' fun σ2 H2 => wipe σ2 vs = σ0 ∧ tt σ2 H2 fun b H3 =>
    if b = true then tk σ2 H3 fun y H4 => tv σ2 H4 fun z H5 => PutT D y z H5 Nx else Nx H3)
section
variable {B : Cx} {kx vx tg iter : Expr} {ifs : List Expr} {scope : Scope} {pos : Pos} {g : TG} {tt : TT} {tk tv : TE} {J : It} {fp : List Addr} {it D : Addr} {tn : Nat → Heap → Prop} {R : Result → Shared → Prop} {σ : L2.St} {vs : List Nat} {q : Hp → Prop} {W : Nat → Nat → Hp → Prop}
/-- the loop of the block B -/
theorem dcT_loop (hu : B.A.units + 1 < cLine) (hc : B.calm = true) (hx : B.xe = fun _ _ => False) (T : Turn B.prog B.w B.K tg J fp it tn) (pg : PG B tg g) (pt : PTs B ifs tt) (pk : PE B kx tk) (pv : PE B vx tv)
    (own : ∀ {σ' : L2.St} {H' : Hp} {s' : Shared}, L2.Inv B [] σ' H' s' → (∀ b ∈ fp, H' b = none) → ∀ b ∈ fp, FpOk B [] H' b) (w : DcW J g tt tk tv (wipe σ vs) vs D q W)
    (fin : ∀ s' H', L2.Inv B [] (wipe σ vs) H' s' → q H' → R (.ok .next) s') {m0 : Nat} {H0 : Hp} {s0 : Shared} (I0 : L2.Inv B [] (wipe σ vs) H0 s0) (t0 : tn 0 s0.heap) (n0 : ∀ b ∈ fp, H0 b = none) (w0 : W 0 m0 H0) :
    codeAny (model B.prog B.w) B.A (.compLoop (.DictComp kx vx [⟨tg, iter, ifs, 0⟩] scope pos) 0 (.ref it) (.ref D) B.env) R s0 := by
  let St (m : Nat) (s : Shared) : Prop := ∃ i H, L2.Inv B [] (wipe σ vs) H s ∧ tn i s.heap ∧ (∀ b ∈ fp, H b = none) ∧ W i m H
  refine compLoop_anyD St (fun m s hs => ?_) m0 ⟨0, H0, I0, t0, n0, w0⟩
  obtain ⟨i, H, I, t, n, wi⟩ := hs
  rcases w i m H wi with ⟨stop, hq⟩ | ⟨go, Nx, less, step⟩
  · refine thnF (T.done B rfl rfl rfl hc i [] s _ H (fun _ _ => False) I (own I n) t stop) ?_
    rintro _ s1 ⟨rfl, I1⟩
    exact fin s1 H I1 hq
  refine thnF (T.item B rfl rfl rfl hc i [] s _ H (fun _ _ => False) I (own I n) t go) ?_
  rintro _ s1 ⟨u, rfl, z1⟩
  refine thnF z1 ?_
  rintro _ s2 ⟨x, H2, I2, ru, y2, t2, n2⟩
  have live := T.obj _ _ t2
  have P2 := I2.pinned (own I2 n2) live
  have pgr := pg.run _ s2 _ H2 x u _ P2 ru (step x H2 y2)
  rw [hx] at pgr
  refine thnF pgr ?_
  rintro _ s3 ⟨σ3, H3, I3, back, z3⟩
  have ptr := pt.run _ s3 σ3 H3 _ I3 z3
  rw [hx] at ptr
  refine thnF ptr ?_
  rintro b s4 ⟨H4, I4, z4⟩
  -- the next turn begins
  have next : ∀ {s' : Shared} {H' : Hp}, L2.Inv B ([] ++ pinsAt fp s2.heap) σ3 H' s' → Nx H' → ∃ k, k < m ∧ St k s' := by
    intro s' H' I' nx
    obtain ⟨k, hk, wk⟩ := less H' nx
    have still : ∀ c ∈ fp, ∀ o, s2.heap.get? c = some o → s'.heap.get? c = some o ∧ H' c = none := fun c hc' o e =>
      have z := I'.pin (c, o) (List.mem_append_right _ (List.mem_append_right _ (mem_pinsAt hc' e)))
      ⟨z.1, z.2.1⟩
    refine ⟨k, hk, i + 1, H', ?_, T.keep _ _ _ t2 fun c hc' o e => (still c hc' o e).1, fun c hc' => ?_, wk⟩
    · refine (I'.unpinned (pins := [])).weak (by rw [← back, wipe_length]) fun j v e => ?_
      rw [← back] at e
      exact (wipe_some e).1
    · obtain ⟨o, e, _⟩ := live c hc'
      exact (still c hc' o e).2
  cases b with
  | false => exact next I4 z4
  | true =>
    have pkr := pk.run _ s4 σ3 H4 _ I4 z4
    rw [hx] at pkr
    refine thnF pkr ?_
    rintro _ s5 ⟨yk, H5, I5, rk, z5⟩
    have pvr := pv.run _ s5 σ3 H5 _ I5 z5
    rw [hx] at pvr
    refine thnF pvr ?_
    rintro _ s6 ⟨yv, H6, I6, rv, kvs, k, c, rfl, hD, hb, hz, nx⟩
    cases rk
    exact put_dT hu I6 hD hz hb rv fun s7 I7 => next I7 nx
end
section
variable {X : Cx}
/-- {k: v for target in iter if ..} with tuples as keys: D the new dict -/
def tDcT (wi : TI) (g : TG) (tt : TT) (tk tv : TE) (vs : List Nat) : TE := fun σ H Q => wi σ H fun J H1 => ∀ D, H1 D = none → ∃ W : Nat → Nat → Hp → Prop, (∃ m, W 0 m (upd H1 D (.dT []))) ∧ DcW J g tt tk tv (wipe σ vs) vs D (Q (.ref D)) W
abbrev Blk (X : Cx) (scope : Scope) {α : Type} (F : Cx → α → Prop) (a : α) : Prop := ∀ (s : Shared) (H : Hp) (C : Addr) (cl : List (Str × Addr)) (fp : List Addr), F (X.blk s H scope (compEnvC scope cl C X.env) fp) a
theorem pe_dcT {kx vx tg iter : Expr} {ifs : List Expr} {scope : Scope} {own : List (Str × Nat)} {pos : Pos} {wi : TI} {g : TG} {tt : TT} {tk tv : TE} (hu : X.A.units + 1 < cLine) (hc : X.calm = true) (hN : X.N.Nodup) (hi : PI X tg iter wi) (ok : BlkOk X.N X.env.scope scope own)
    (hg : Blk X scope (fun B => PG B tg) g) (ht : Blk X scope (fun B => PTs B ifs) tt) (hk : Blk X scope (fun B => PE B kx) tk) (hv : Blk X scope (fun B => PE B vx) tv) (hs : ∀ x, foldedSetIterable iter X.env x = pure x := by intro _; rfl) :
    PE X (.DictComp kx vx [⟨tg, iter, ifs, 0⟩] scope pos) (tDcT wi g tt tk tv (own.map (·.2))) := by
  refine ⟨fun pins s σ H Q I h => ?_⟩
  have cells : ∀ y ∈ scope.names, y.2 = .free → ∃ c, X.env.cells.lookup y.1 = some c := fun y hy e => I.ok.has _ (.imp id id (ok.free y hy e))
  rw [arm_eval_DictComp]
  refine wpAny_comprehension_free (use := none) rfl hs (closure_ok cells) ok.kind (fun y hy e => (ok.uniq y hy).trans (congrArg some e)) (thn (hi.run pins s σ H _ I h) fun xv s1 h1 => thn h1 ?_)
  rintro _ s2 ⟨it, fp, tn, J, H2, rfl, I2, T, t2, f2, q⟩
  refine wpAny_newObj_type (newEnv_comp ?_)
  have nD : H2 s2.heap.objs.size = none := I2.hok.fresh (Nat.le_refl _)
  obtain ⟨W, ⟨m0, w0⟩, w⟩ := q _ nD
  -- with the new dict
  have I3 : L2.Inv X pins σ (upd H2 s2.heap.objs.size (.dT [])) { s2 with heap := s2.heap.push { cls := .type "dict", data := .dict #[] } } := I2.laid (t' := s2.toks) (fun b o e => Heap.get?_push_of_some _ e) (Nat.le_refl _) (dt_empty s2.heap I2.big)
  have low : ∀ b ∈ fp, b < s2.heap.objs.size := fun b hb => (T.obj _ _ t2 b hb).elim fun o e => Heap.lt_size e.1
  have f3 : ∀ b ∈ fp, FpOk X pins (upd H2 s2.heap.objs.size (.dT [])) b ∧ b < (s2.heap.push { cls := .type "dict", data := .dict #[] }).objs.size := fun b hb =>
    ⟨⟨(upd_ne (Nat.ne_of_lt (low b hb))).trans (f2 b hb).1, (f2 b hb).2⟩, by rw [Heap.size_push]; exact Nat.lt_succ_of_lt (low b hb)⟩
  have I4 := block_start I3 ok hN f3
  have t4 : tn 0 (pushCells ((s2.heap.push { cls := .type "dict", data := .dict #[] }).push { cls := .type "dict", data := .dict #[] }) scope.names) :=
    T.keep _ _ _ t2 fun b _ o e => pushCells_keeps _ _ _ _ (Heap.get?_push_of_some _ (Heap.get?_push_of_some _ e))
  refine codeAny_compStart_dict ?_ (T.self X.A 0 _ _ _ t4 ?_) <;>
  · refine dcT_loop (B := X.blk _ _ scope _ fp) hu hc rfl T (hg _ _ _ _ _) (ht _ _ _ _ _) (hk _ _ _ _ _) (hv _ _ _ _ _) (fun {σ' H' s'} I' n b hb => ?_) w (fun s' H' I' hq => ?_) I4 t4 (fun b hb => (f3 b hb).1.1) w0
    · exact ⟨n b hb, (I'.ok.exf b hb).1, I'.ok.exfs b hb, .inl hb, (I'.ok.exf b hb).2, fun p hp => nomatch hp⟩
    · -- back in the def
      obtain ⟨m, hm, _⟩ := I'.loc
      have gone := I'.free
      have I5 : L2.Inv X pins σ H' s' := I3.call' (ch := fp) I'.os I'.base I'.hok I'.bare fun b hb => have f := (f3 b hb).1; ⟨f.2.2.2.1, f.2.1, f.2.2.2.2.1, f.2.2.2.2.2⟩
      have f5 : FpOk X pins H' (s2.heap.push { cls := .type "dict", data := .dict #[] }).objs.size := I3.fpOk (Nat.le_refl _) gone
      exact ⟨m, hm, fun h'' sb => ⟨.ref s2.heap.objs.size, H', I5.turned (t' := s'.toks) (fun b o hb e => (sb.2 b hb).trans e) f5.1 f5.2.1 f5.2.2.2.1 f5.2.2.2.2.1 f5.2.2.2.2.2, rfl, hq⟩⟩
end
/-- all entries of a walk that changes nothing else, keys all unlike -/
theorem dcT_pure {J : It} {n : Nat} {G : Hp → Prop} {Y : Nat → Hp → V → Hp → Prop} {At : Nat → V → Prop} (w : Walk J n G Y) (hy : ∀ i H x H', Y i H x H' → H' = H ∧ At i x) {g : TG} {tk tv : TE} {σ0 : L2.St} {vs : List Nat} {H : Hp} {D : Addr} {q : Hp → Prop}
    (kvs : List (List Key × V)) (hn : kvs.length = n) (hz : n < sizeLine) (nd : (kvs.map (·.1)).Nodup) (hD : H D = none) (hG : ∀ H', Same H H' → G H')
    (turn : ∀ (i : Nat) (x : V) (k : List Key) (v : V) (H1 : Hp) (R : V → V → Hp → Prop), i < n → At i x → kvs[i]? = some (k, v) → Same H H1 → (∀ H2 b, Same H1 H2 → H2 b = some (.tup (k.map kV)) → R (.ref b) v H2) →
      g x σ0 H1 fun σ2 H2 => wipe σ2 vs = σ0 ∧ tk σ2 H2 fun y H4 => tv σ2 H4 fun z H5 => R y z H5)
    (fin : ∀ H', Same H H' → H' D = some (.dT kvs) → q H') :
    ∃ W : Nat → Nat → Hp → Prop, (∃ m, W 0 m (upd H D (.dT []))) ∧ DcW J g tYes tk tv σ0 vs D q W := by
  refine ⟨fun i m H' => m = n - i ∧ i ≤ n ∧ Same H H' ∧ H' D = some (.dT (kvs.take i)), ⟨n, rfl, Nat.zero_le _, Same.up hD, by rw [upd_same]; rfl⟩, ?_⟩
  rintro i m H1 ⟨rfl, hi, s1, h1⟩
  by_cases lt : i < n
  · refine .inr ⟨w.goes i H1 lt (hG H1 s1), fun H' => Same H H' ∧ H' D = some (.dT (kvs.take (i + 1))), fun H' p => ⟨n - (i + 1), by omega, rfl, lt, p⟩, fun x H2 y => ?_⟩
    obtain ⟨rfl, ax⟩ := hy i H1 x H2 (w.yields i H1 x H2 lt (hG H1 s1) y)
    obtain ⟨⟨k, v⟩, e⟩ : ∃ kv, kvs[i]? = some kv := ⟨_, List.getElem?_eq_getElem (hn ▸ lt)⟩
    refine turn i x k v H2 (fun y z H5 => PutT D y z H5 _) lt ax e s1 fun H3 b s3 hb => ⟨_, k, b, rfl, s3 _ _ h1, hb, ?_, fun c o ec => ?_, ?_⟩
    · rw [List.length_take]
      omega
    · rw [upd_ne (ne_of_none ec hD)]
      exact s3 _ _ (s1 _ _ ec)
    · have split : kvs.take (i + 1) = kvs.take i ++ [(k, v)] := by rw [List.take_add_one, e]; rfl
      rw [upd_same, split]
      congr 2
      refine L2.putK_new _ (Option.eq_none_iff_forall_ne_some.mpr fun u eu => ?_)
      have m : k ∈ (kvs.take i).map (·.1) := List.mem_map.mpr ⟨_, val_mem eu, rfl⟩
      rw [← List.take_append_drop (i + 1) kvs, split, List.map_append, List.map_append] at nd
      have ap := (List.nodup_append.mp (List.nodup_append.mp nd).1).2.2
      exact ap _ m _ List.mem_cons_self rfl
  · obtain rfl : i = n := by omega
    refine .inl ⟨w.stops H1 (hG H1 s1), fin H1 s1 ?_⟩
    rw [h1, ← hn, List.take_length]
end Sr

set_option Elab.async false
set_option linter.all false
set_option maxRecDepth 100000
set_option maxHeartbeats 4000000
namespace Sr
open PySem PySem.Spec PyProof.Rows L2
/-! ### the heap without some things of one's own -/
def off (S : List Addr) (H : Hp) : Hp := fun c => if c ∈ S then none else H c
theorem off_in {S : List Addr} {H : Hp} {c : Addr} (h : c ∈ S) : off S H c = none := if_pos h
theorem off_out {S : List Addr} {H : Hp} {c : Addr} (h : c ∉ S) : off S H c = H c := if_neg h
theorem off_le {S : List Addr} {H : Hp} : Same (off S H) H := fun c o e => by
  by_cases h : c ∈ S
  · rw [off_in h] at e; cases e
  · rwa [off_out h] at e
theorem Same.off {S : List Addr} {H H' : Hp} (s : Same H H') : Same (Sr.off S H) (Sr.off S H') := fun c o e => by
  by_cases h : c ∈ S
  · rw [off_in h] at e; cases e
  · rw [off_out h] at e ⊢; exact s _ _ e
theorem off_set {S : List Addr} {H : Hp} {c : Addr} {o : HO} (h : c ∈ S) : off S (upd H c o) = off S H := by
  funext b
  by_cases hb : b ∈ S
  · rw [off_in hb, off_in hb]
  · rw [off_out hb, off_out hb, upd_ne (by rintro rfl; exact hb h)]
theorem off_new {S : List Addr} {H : Hp} {p : Addr} (h : H p = none) : off S H p = none := by
  by_cases hp : p ∈ S
  · exact off_in hp
  · rw [off_out hp, h]
theorem Same.into {S : List Addr} {M H : Hp} (s : Same M H) (h : ∀ c ∈ S, M c = none) : Same M (Sr.off S H) := fun c o e => by
  have n : c ∉ S := fun m => by rw [h c m] at e; cases e
  rw [off_out n]
  exact s _ _ e
end Sr

set_option Elab.async false
set_option linter.all false
set_option maxRecDepth 100000
set_option maxHeartbeats 4000000
namespace Sr
open PySem PySem.Spec PyProof.Rows L2
/-! ### several things locked while an expression runs -/
def tLocks (t : TE) : List (Addr × HO) → TE
  | [] => t
  | p :: r => fun σ H Q => H p.1 = some p.2 ∧ Mut (some p.2) ∧ ∀ od, tLocks t r σ (upd H p.1 (.frz od p.2)) fun v H' => H' p.1 = some (.frz od p.2) ∧ Q v (upd H' p.1 p.2)
theorem pe_locks0 {X : Cx} {e : Expr} {t : TE} (h : PE X e t) : ∀ l, PE X e (tLocks t l)
  | [] => h
  | p :: r => ⟨fun pins s σ H Q I hw => (pe_lock (pe_locks0 h r)).run pins s σ H Q I ⟨p.1, p.2, hw.1, hw.2.1, hw.2.2⟩⟩
def tLocked (t : TE) : TE := fun σ H Q => ∃ l, tLocks t l σ H Q
theorem pe_locks {X : Cx} {e : Expr} {t : TE} (h : PE X e t) : PE X e (tLocked t) := ⟨fun pins s σ H Q I ⟨l, hw⟩ => (pe_locks0 h l).run pins s σ H Q I hw⟩
/-- all let go again -/
def unl : List (Addr × HO) → Hp → Hp
  | [], H => H
  | p :: r, H => upd (unl r H) p.1 p.2
theorem unl_out : ∀ {l : List (Addr × HO)} {H : Hp} {b : Addr}, b ∉ l.map (·.1) → unl l H b = H b
  | [], _, _, _ => rfl
  | p :: r, H, b, h => by
    have h1 : b ≠ p.1 := fun e => h (by rw [List.map_cons, e]; exact List.mem_cons_self)
    show upd (unl r H) p.1 p.2 b = H b
    rw [upd_ne h1]
    exact unl_out fun m => h (by rw [List.map_cons]; exact List.mem_cons_of_mem _ m)
theorem unl_in : ∀ {l : List (Addr × HO)} {H : Hp} {p : Addr × HO}, (l.map (·.1)).Nodup → p ∈ l → unl l H p.1 = some p.2
  | q :: r, H, p, nd, m => by
    rw [List.map_cons] at nd
    obtain ⟨n1, n2⟩ := List.nodup_cons.mp nd
    show upd (unl r H) q.1 q.2 p.1 = some p.2
    rcases List.mem_cons.mp m with rfl | m
    · exact upd_same
    · rw [upd_ne fun e => n1 (by rw [← e]; exact List.mem_map.mpr ⟨p, m, rfl⟩)]
      exact unl_in n2 m
structure Lkd (l : List (Addr × HO)) (H H2 : Hp) : Prop where
  on : ∀ p ∈ l, ∃ od, H2 p.1 = some (.frz od p.2)
  off : ∀ b, b ∉ l.map (·.1) → H2 b = H b
theorem locks_in {t : TE} : ∀ (l : List (Addr × HO)) {σ : L2.St} {H : Hp} {Q : VK}, (l.map (·.1)).Nodup → (∀ p ∈ l, H p.1 = some p.2 ∧ Mut (some p.2)) →
    (∀ (H2 : Hp) (R : VK), Lkd l H H2 → (∀ v H', (∀ p ∈ l, H' p.1 = H2 p.1) → Q v (unl l H') → R v H') → t σ H2 R) → tLocks t l σ H Q
  | [], σ, H, Q, _, _, h => h H Q ⟨fun p m => absurd m (by simp), fun b _ => rfl⟩ fun v H' _ q => q
  | d :: r, σ, H, Q, nd, hl, h => by
    rw [List.map_cons] at nd
    obtain ⟨n1, n2⟩ := List.nodup_cons.mp nd
    have ne : ∀ p ∈ r, p.1 ≠ d.1 := fun p m e => n1 (by rw [← e]; exact List.mem_map.mpr ⟨p, m, rfl⟩)
    refine ⟨(hl d List.mem_cons_self).1, (hl d List.mem_cons_self).2, fun od => locks_in r n2 (fun p m => ?_) fun H2 R k hR => ?_⟩
    · rw [upd_ne (ne p m)]
      exact hl p (List.mem_cons_of_mem _ m)
    · have hd : H2 d.1 = some (.frz od d.2) := (k.off d.1 n1).trans upd_same
      refine h H2 R ⟨fun p m => ?_, fun b hb => ?_⟩ fun v H' hp q => hR v H' (fun p m => hp p (List.mem_cons_of_mem _ m)) ⟨?_, q⟩
      · rcases List.mem_cons.mp m with rfl | m
        · exact ⟨od, hd⟩
        · exact k.on p m
      · rw [List.map_cons] at hb
        rw [k.off b fun m => hb (List.mem_cons_of_mem _ m), upd_ne fun e => hb (by rw [e]; exact List.mem_cons_self)]
      · rw [unl_out n1, hp d List.mem_cons_self]
        exact hd
end Sr

set_option Elab.async false
set_option linter.all false
set_option maxRecDepth 100000
set_option maxHeartbeats 4000000
namespace Sr
open PySem PySem.Spec PyProof.Rows L2
/-! ### several things locked while a statement runs -/
def endL (p : Addr × HO) (od : Obj) (D : Ends) : Ends := ⟨fun σ' H' => H' p.1 = some (.frz od p.2) ∧ D.nx σ' (upd H' p.1 p.2), fun v H' => H' p.1 = some (.frz od p.2) ∧ D.rt v (upd H' p.1 p.2), fun σ' H' => H' p.1 = some (.frz od p.2) ∧ D.bk σ' (upd H' p.1 p.2), fun σ' H' => H' p.1 = some (.frz od p.2) ∧ D.ct σ' (upd H' p.1 p.2)⟩
def tLocksS (t : TS) : List (Addr × HO) → TS
  | [] => t
  | p :: r => fun D σ H => H p.1 = some p.2 ∧ Mut (some p.2) ∧ ∀ od, tLocksS t r (endL p od D) σ (upd H p.1 (.frz od p.2))
theorem ps_locks0 {X : Cx} {st : Stmt} {t : TS} (h : PS X st t) : ∀ l, PS X st (tLocksS t l)
  | [] => h
  | p :: r => ⟨fun pins s σ H D I hw => (ps_lock (ps_locks0 h r)).run pins s σ H D I ⟨p.1, p.2, hw.1, hw.2.1, hw.2.2⟩⟩
def tLockedS (t : TS) : TS := fun D σ H => ∃ l, tLocksS t l D σ H
theorem ps_locks {X : Cx} {st : Stmt} {t : TS} (h : PS X st t) : PS X st (tLockedS t) := ⟨fun pins s σ H D I ⟨l, hw⟩ => (ps_locks0 h l).run pins s σ H D I hw⟩
theorem locks_inS {t : TS} : ∀ (l : List (Addr × HO)) {σ : L2.St} {H : Hp} {D : Ends}, (l.map (·.1)).Nodup → (∀ p ∈ l, H p.1 = some p.2 ∧ Mut (some p.2)) →
    (∀ (H2 : Hp) (D2 : Ends), Lkd l H H2 → (∀ σ' H', (∀ p ∈ l, H' p.1 = H2 p.1) → D.nx σ' (unl l H') → D2.nx σ' H') → t D2 σ H2) → tLocksS t l D σ H
  | [], σ, H, D, _, _, h => h H D ⟨fun p m => absurd m (by simp), fun b _ => rfl⟩ fun σ' H' _ q => q
  | d :: r, σ, H, D, nd, hl, h => by
    rw [List.map_cons] at nd
    obtain ⟨n1, n2⟩ := List.nodup_cons.mp nd
    have ne : ∀ p ∈ r, p.1 ≠ d.1 := fun p m e => n1 (by rw [← e]; exact List.mem_map.mpr ⟨p, m, rfl⟩)
    refine ⟨(hl d List.mem_cons_self).1, (hl d List.mem_cons_self).2, fun od => locks_inS r n2 (fun p m => ?_) fun H2 D2 k hR => ?_⟩
    · rw [upd_ne (ne p m)]
      exact hl p (List.mem_cons_of_mem _ m)
    · have hd : H2 d.1 = some (.frz od d.2) := (k.off d.1 n1).trans upd_same
      refine h H2 D2 ⟨fun p m => ?_, fun b hb => ?_⟩ fun σ' H' hp q => hR σ' H' (fun p m => hp p (List.mem_cons_of_mem _ m)) ⟨?_, q⟩
      · rcases List.mem_cons.mp m with rfl | m
        · exact ⟨od, hd⟩
        · exact k.on p m
      · rw [List.map_cons] at hb
        rw [k.off b fun m => hb (List.mem_cons_of_mem _ m), upd_ne fun e => hb (by rw [e]; exact List.mem_cons_self)]
      · rw [unl_out n1, hp d List.mem_cons_self]
        exact hd
end Sr

set_option Elab.async false
set_option linter.all false
set_option maxRecDepth 100000
set_option maxHeartbeats 4000000
namespace K31
open PySem PySem.Spec PyProof.Rows L2 Sr
/-! ### things() -/
def heldN (hs : Hs) : List Str := hs.flatMap fun p => p.2.map (·.1)
theorem held_take {hs : Hs} {i : Nat} {p : Str × Rw} (h : hs[i]? = some p) : heldN (hs.take (i + 1)) = heldN (hs.take i) ++ p.2.map (·.1) := by
  unfold heldN
  rw [List.take_add_one, h, List.flatMap_append]
  simp
theorem held_len {hs : Hs} (g : goodH hs) : ∀ i, (heldN (hs.take i)).length ≤ 6 * i := by
  intro i
  induction i with
  | zero => exact Nat.le_refl _
  | succ i ih =>
    cases e : hs[i]? with
    | none =>
      have : hs.length ≤ i := List.getElem?_eq_none_iff.mp e
      rw [List.take_of_length_le (by omega)]
      rw [List.take_of_length_le this] at ih
      omega
    | some p =>
      rw [held_take e, List.length_append, List.length_map]
      have := (g.2.2 p (List.mem_of_getElem? e)).2.2.1
      omega
/-- what is locked: the dict and those in it, each once -/
theorem locks_of {H : Hp} : ∀ {kv : List (Key × V)} {hs : Hs}, HldR H kv hs → ∀ (l0 : List (Addr × HO)), (l0.map (·.1)).Nodup → (∀ p ∈ l0, H p.1 = some p.2 ∧ ∃ k, p.2 = .dK k) →
    ∃ lk : List (Addr × HO), (lk.map (·.1)).Nodup ∧ (∀ p ∈ lk, H p.1 = some p.2 ∧ ∃ k, p.2 = .dK k) ∧ (∀ p ∈ l0, p ∈ lk) ∧ ∀ q ∈ kv, ∃ d kr, q.2 = .ref d ∧ H d = some (.dK kr) ∧ (d, HO.dK kr) ∈ lk
  | _, _, .nil, l0, nd, h0 => ⟨l0, nd, h0, fun _ m => m, fun q m => by cases m⟩
  | _, _, .cons (a := q) h r, l0, nd, h0 => by
    obtain ⟨_, d, kr, a1, a2, _⟩ := h
    by_cases c : d ∈ l0.map (·.1)
    · obtain ⟨lk, k1, k2, k3, k4⟩ := locks_of r l0 nd h0
      refine ⟨lk, k1, k2, k3, fun z m => ?_⟩
      rcases List.mem_cons.mp m with rfl | m
      · obtain ⟨p, mp, e⟩ := List.mem_map.mp c
        have h1 := (h0 p mp).1
        rw [e, a2] at h1
        have : p = (d, HO.dK kr) := Prod.ext e (Option.some.inj h1).symm
        exact ⟨d, kr, a1, a2, by rw [← this]; exact k3 p mp⟩
      · exact k4 z m
    · obtain ⟨lk, k1, k2, k3, k4⟩ := locks_of r ((d, .dK kr) :: l0) (by rw [List.map_cons]; exact List.nodup_cons.mpr ⟨c, nd⟩) fun p m => by
        rcases List.mem_cons.mp m with rfl | m
        · exact ⟨a2, _, rfl⟩
        · exact h0 p m
      refine ⟨lk, k1, k2, fun p m => k3 p (List.mem_cons_of_mem _ m), fun z m => ?_⟩
      rcases List.mem_cons.mp m with rfl | m
      · exact ⟨d, kr, a1, a2, k3 _ List.mem_cons_self⟩
      · exact k4 z m
def spThings (K : PySem.W.Frag) : Sp := fun vs H Q _ => ∃ x hs its, vs = [.ref x] ∧ QueR K H H x hs its ∧ ∀ H' p ys, Same H H' → H p = none → H' p = some (.lst (ys.map V.str)) → SetOf ys (heldN hs ++ (legsOf its).map (·.2.1)) → Q (.ref p) H'
section
variable {P : Program} {w : World} {K : PySem.W.Frag} {mg : Str → Option Value} {base : Heap}
abbrev s_Queues_things : Stmt := inClass (top 14) 4
theorem sc_Queues_things : FnScope ["self", "held", "member", "thing", "leg"] ["self"] (defScope s_Queues_things) := ⟨rfl, rfl, rfl, by decide +kernel, rfl, by decide +kernel, by decide +kernel⟩
theorem m_things (T : Txt K mg) (O : Que K mg) (OM : QueM K) (D : DfnM K "Queues" "things" "Queues.things" s_Queues_things) (ML : CalM P w K mg base CX0 1 (He.fAd K ("Queues", some "_legs")) ["self"] (spLegs K)) : CalM P w K mg base CX0 2 (He.fAd K ("Queues", some "things")) ["self"] (spThings K) := by
  refine D.cal sc_Queues_things (fun _ _ _ _ _ _ us hl => match us, hl with | [_], _ => rfl) (fun vs H Q E h => ?_) fun cdv A outer s H vs Q E hr h => ?_
  · obtain ⟨x, hs, its, rfl, _⟩ := h
    rfl
  obtain ⟨x, hs, its, rfl, h, q⟩ := h
  obtain ⟨dx, c, l, kc, us, h1, h2, h3, h4, h5, g, gi⟩ := id h
  refine ⟨_, (pss_cons (ps_locks (ps_setLc2 (i := 1) (own := [("member", 2), ("thing", 3)]) (vs1 := [3]) (g := gName 2) (tt := tYes) (g1 := gName 3) (tt1 := tYes) rfl sc_Queues_things.nd rfl rfl (sw_true rfl rfl rfl rfl) (pi_keys (pe_fld (pv 0) rfl)) (blkOk_by (N := ["self", "held", "member", "thing", "leg"]) (sc := defScope s_Queues_things) (by decide +kernel)) (by decide) (fun _ _ _ _ _ => (pg_name (i := 2) sc_Queues_things.nd rfl (by first | exact Or.inl rfl | exact Or.inr rfl))) (fun _ _ _ _ _ => pts_nil) (fun _ _ _ _ _ => (pi_keys (pe_dget (hu_of hr) (pe_fldK K rfl (pv 0) rfl) (pv 2) (fun _ _ => rfl)))) (fun _ _ _ _ _ => (pg_name (i := 3) sc_Queues_things.nd rfl (by first | exact Or.inl rfl | exact Or.inr rfl))) (fun _ _ _ _ _ => pts_nil) (fun _ _ _ _ _ => (pv 3))))
      (pss_one (ps_ret (pe_sortTxt rfl (by rfl) T.sorted (by rfl) T.set (pe_op op_cat (pv 1) (pe_lc (own := [("leg", 4)]) (g := gName 4) (tt := tYes) rfl sc_Queues_things.nd (pi_list (m0_ ML hr (by decide) O.cl OM.legs (pv 0))) (blkOk_by (N := ["self", "held", "member", "thing", "leg"]) (sc := defScope s_Queues_things) (by decide +kernel)) (fun _ _ _ _ _ => (pg_name (i := 4) sc_Queues_things.nd rfl (by first | exact Or.inl rfl | exact Or.inr rfl))) (fun _ _ _ _ _ => pts_nil) (fun _ _ _ _ _ => (pe_ix (ix_tupK K rfl) (pv 4) pe_int (fun _ _ => rfl))))))))), ?_⟩
  obtain ⟨lk, k1, k2, k3, k4⟩ := locks_of h3 [(c, .dK kc)] (List.nodup_cons.mpr ⟨List.not_mem_nil, List.nodup_nil⟩) fun p m => by
    rw [List.mem_singleton.mp m]
    exact ⟨h2, _, rfl⟩
  have kcin := k3 _ List.mem_cons_self
  have nd := keys_nd (F := fun v (r : Rw) => ∃ d kr, v = .ref d ∧ H d = some (.dK kr) ∧ CoinsC kr r) h3 g.1
  have lkc : kc.length = hs.length := Paired.length h3
  refine ⟨lk, locks_inS lk k1 (fun p m => ⟨(k2 p m).1, by obtain ⟨k, e⟩ := (k2 p m).2; rw [e]; trivial⟩) fun F D2 kd hR => ?_⟩
  have offF : ∀ {b : Addr} {o : HO}, H b = some o → (∀ k, o ≠ .dK k) → F b = some o := fun {b o} e n => by
    rw [kd.off b fun m => ?_]
    · exact e
    · obtain ⟨p, mp, rfl⟩ := List.mem_map.mp m
      obtain ⟨a, k, ek⟩ := k2 p mp
      rw [e] at a
      exact n k (by rw [Option.some.inj a, ek])
  have x1 := offF h1 (fun _ z => by cases z)
  obtain ⟨od, hF⟩ := kd.on _ kcin
  have free : ∀ b, F b = none → H b = none ∧ b ∉ lk.map (·.1) := fun b e => by
    have n : b ∉ lk.map (·.1) := fun m => by
      obtain ⟨p, mp, rfl⟩ := List.mem_map.mp m
      obtain ⟨o, ho⟩ := kd.on p mp
      rw [ho] at e
      cases e
    exact ⟨by rw [← kd.off b n]; exact e, n⟩
  refine ⟨_, rfl, x, _, dx, _, _, rfl, x1, O.cl, O.nH, rfl, c, od, rfl, .inl ⟨kc, hF, fun B hB => ?_⟩⟩
  have below : ∀ {H' : Hp} {o : HO}, Same F H' → Same F (upd H' B o) := fun {H' o} s c u e => by
    rw [upd_ne (ne_of_none e hB)]
    exact s _ _ e
  refine ⟨fun i m H' => i + m = kc.length ∧ Same F H' ∧ H' B = some (.lst ((heldN (hs.take i)).map V.str)), ⟨kc.length, by omega, below (Same.refl F), by rw [upd_same]; rfl⟩, ?_⟩
  rintro i m H3 ⟨im, s3, a3⟩
  by_cases lt : i < kc.length
  · obtain ⟨p, hp⟩ : ∃ p, hs[i]? = some p := ⟨hs[i]'(by omega), List.getElem?_eq_getElem (by omega)⟩
    refine .inr ⟨walk_keys.goes i H3 lt (s3 _ _ hF), fun H' => Same F H' ∧ H' B = some (.lst ((heldN (hs.take (i + 1))).map V.str)), fun H' h' => ⟨m - 1, by omega, by omega, h'⟩, fun y H4 yy => ?_⟩
    obtain ⟨rfl, k, v, hk, rfl⟩ := walk_keys.yields i H3 y H4 lt (s3 _ _ hF) yy
    obtain ⟨ek, d, kr, ev, hd, cc⟩ := Paired.at2 h3 hk hp
    have ev : v = .ref d := ev
    subst ev
    obtain ⟨d', kr', e1, hd', min⟩ := k4 _ (List.mem_of_getElem? hk)
    cases e1
    rw [hd] at hd'
    cases hd'
    obtain ⟨od2, hdF⟩ := kd.on _ min
    have lkr : kr.length = p.2.length := Paired.length cc
    have lp := (g.2.2 p (List.mem_of_getElem? hp)).2.2.1
    have hl := held_len g i
    have li : i < 6 := by have := g.2.1; omega
    refine ⟨rfl, ?_⟩
    simp only [tYes, if_true]
    refine ⟨_, rfl, x, _, dx, _, _, rfl, s3 _ _ x1, O.cl, O.nH, rfl, _, rfl, c, .ref d, rfl, .inl ⟨kc, k, .inr ⟨od, s3 _ _ hF⟩, rfl, (val_nodup nd _ (List.mem_of_getElem? hk)).symm⟩, d, od2, rfl, .inl ⟨kr, s3 _ _ hdF, ?_⟩⟩
    refine ⟨fun j n H' => j + n = kr.length ∧ Same F H' ∧ H' B = some (.lst ((heldN (hs.take i) ++ (p.2.take j).map (·.1)).map V.str)), ⟨kr.length, by omega, s3, by rw [List.take_zero, List.map_nil, List.append_nil]; exact a3⟩, ?_⟩
    rintro j n H5 ⟨jn, s5, a5⟩
    by_cases lj : j < kr.length
    · obtain ⟨r, hr2⟩ : ∃ r, p.2[j]? = some r := ⟨p.2[j]'(by omega), List.getElem?_eq_getElem (by omega)⟩
      refine .inr ⟨walk_keys.goes j H5 lj (s5 _ _ hdF), fun H' => Same F H' ∧ H' B = some (.lst ((heldN (hs.take i) ++ (p.2.take (j + 1)).map (·.1)).map V.str)), fun H' h' => ⟨n - 1, by omega, by omega, h'⟩, fun y H6 yy => ?_⟩
      obtain ⟨rfl, k2', v2, hk2, rfl⟩ := walk_keys.yields j H5 y H6 lj (s5 _ _ hdF) yy
      obtain ⟨ek2, _⟩ := Paired.at2 cc hk2 hr2
      have ek2 : k2' = Sum.inr r.1 := ek2
      subst ek2
      refine ⟨rfl, _, rfl, _, a5, sz (m := 60) (by rw [List.length_map, List.length_append, List.length_map, List.length_take]; omega), below s5, ?_⟩
      rw [upd_same, List.take_add_one, hr2, List.map_append (l₂ := (some r).toList), ← List.append_assoc, List.map_append (l₂ := (some r).toList.map _)]
      rfl
    · obtain rfl : j = kr.length := by omega
      refine .inl ⟨walk_keys.stops H5 (s5 _ _ hdF), s5, ?_⟩
      rw [held_take hp]
      rw [lkr, List.take_length] at a5
      exact a5
  · obtain rfl : i = kc.length := by omega
    rw [lkc, List.take_length] at a3
    refine .inl ⟨walk_keys.stops H3 (s3 _ _ hF), hR _ _ (fun p m => ?_) ?_⟩
    · obtain ⟨o, ho⟩ := kd.on p m
      rw [ho, s3 _ _ ho]
    obtain ⟨B0, Bn⟩ := free B hB
    have sU : Same H (unl lk H3) := fun b o e => by
      by_cases m : b ∈ lk.map (·.1)
      · obtain ⟨p, mp, rfl⟩ := List.mem_map.mp m
        rw [unl_in k1 mp]
        rw [(k2 p mp).1] at e
        exact e
      · rw [unl_out m]
        exact s3 _ _ (by rw [kd.off b m]; exact e)
    have aU : (unl lk H3) B = some (.lst ((heldN hs).map V.str)) := by rw [unl_out Bn]; exact a3
    generalize unl lk H3 = U at sU aU ⊢
    try dsimp only
    have lh : (heldN hs).length ≤ 36 := by
      have := held_len g hs.length
      rw [List.take_length] at this
      have := g.2.1
      omega
    have la := legs_all gi
    refine ⟨_, rfl, _, rfl, x, dx, _, rfl, sU _ _ h1, rfl, x, hs, its, rfl, h.mono sU, fun H1 p1 us1 s1 hp1 hus1 isl => ⟨p1, rfl, ⟨_, SqL.of hus1⟩, fun B2 hB2 => lc_f walk_list at_any (legsOf its) (fun g => V.str g.2.1) (by rw [isl.len, List.length_map]) (sz (m := 60) (by rw [isl.len, List.length_map]; omega)) hB2 (fun H' s' => SqL.of (s' _ _ hus1)) (fun j u gl H5 A lt hu hz s5 kA => ?_) (fun H5 s5 h5' => ?_)⟩⟩
    · obtain ⟨d, e1, iv⟩ := isl.get hu
      rw [List.getElem?_map, hz] at e1
      obtain rfl : legT gl = d := Option.some.inj e1
      obtain ⟨tg, rfl, htg⟩ := leg_at iv
      exact ⟨rfl, _, rfl, tg, _, 1, _, rfl, rfl, SqT.of (s5 _ _ htg), rfl, kA _ (Same.refl _)⟩
    · have sU5 := s1.trans s5
      have b5 := sU5 _ _ aU
      have em : (legsOf its).map (fun g => V.str g.2.1) = ((legsOf its).map (·.2.1)).map V.str := by rw [List.map_map]; rfl
      rw [em] at h5'
      refine ⟨B, B2, _, _, rfl, rfl, b5, h5', ?_, fun f hf => ?_⟩
      · rw [List.length_map, List.length_map, List.length_map]
        exact Nat.le_trans (show _ ≤ 60 by omega) (by rw [sizeLine_eq]; decide)
      have s6 := Same.up (o := .lst ((heldN hs).map V.str ++ ((legsOf its).map (·.2.1)).map V.str)) hf
      have ec : (heldN hs).map V.str ++ ((legsOf its).map (·.2.1)).map V.str = (heldN hs ++ (legsOf its).map (·.2.1)).map V.str := by rw [List.map_append]
      rw [ec] at s6 ⊢
      refine ⟨f, _, rfl, SqL.of upd_same, by rw [List.length_append, List.length_map]; omega, fun ys p3 pm so hp3 => ?_⟩
      have sH := (sU.trans sU5).trans s6
      exact q _ p3 ys (sH.trans (Same.up hp3)) (free_below sH hp3) upd_same (setOf_met pm so)
end
end K31

set_option Elab.async false
set_option linter.all false
set_option maxRecDepth 100000
set_option maxHeartbeats 4000000
namespace K31
open PySem PySem.Spec PyProof.Rows L2 Sr
/-! ### the law's own queue -/
def spLawQ : Sp := fun vs H Q _ => ∃ (l : Addr) (us : List V) (its : Its) (a b : Str), vs = [.ref l, .str a, .str b] ∧ H l = some (.lst us) ∧ IsA H us (its.map itD) ∧ goodIts its ∧ nameOk (.str a) = true ∧ nameOk (.str b) = true ∧
  ∀ H' p, Same H H' → H p = none → H' p = some (.lst ((queueOf (.str a) (.str b) its).map V.int)) → Q (.ref p) H'
section
variable {P : Program} {w : World} {K : PySem.W.Frag} {mg : Str → Option Value} {base : Heap}
abbrev s__law_queue : Stmt := top 28
theorem sc__law_queue : FnScope ["items", "member", "thing", "k", "item", "leg"] ["items", "member", "thing"] (defScope s__law_queue) := ⟨rfl, rfl, rfl, by decide +kernel, rfl, by decide +kernel, by decide +kernel⟩
theorem c__law_queue (T : Txt K mg) (D : Dfn K mg "_law_queue" s__law_queue) : Cal P w K mg base 1 "_law_queue" ["items", "member", "thing"] spLawQ := by
  refine D.cal sc__law_queue (fun _ _ _ _ _ _ us hl => match us, hl with | [_, _, _], _ => rfl) (fun vs H Q E h => ?_) fun cdv A outer s H vs Q E hr h => ?_
  · obtain ⟨l, us, its, a, b, rfl, _⟩ := h
    rfl
  obtain ⟨l, us, its, a, b, rfl, h4, h5, gi, ga, gb, q⟩ := h
  have i1 : Dp K H (.str a) (.str a) := .str a
  have i2 : Dp K H (.str b) (.str b) := .str b
  have sh1 := name_shaped ga
  have sh2 := name_shaped gb
  generalize hd1 : PyData.str a = d1 at i1 sh1 q
  generalize hd2 : PyData.str b = d2 at i2 sh2 q
  refine ⟨_, (pss_one (ps_ret (pe_lc (own := [("k", 3), ("item", 4)]) (g := gTup K 2 (gCons (gName 3) (gCons (gName 4) gNil))) rfl sc__law_queue.nd (pi_enum (by rfl) T.enumerate (pa_cons (pv 0) pa_nil)) (blkOk_by (N := ["items", "member", "thing", "k", "item", "leg"]) (sc := defScope s__law_queue) (by decide +kernel)) (fun _ _ _ _ _ => (pg_tup rfl (pgs_cons (pg_name (i := 3) sc__law_queue.nd rfl (by first | exact Or.inl rfl | exact Or.inr rfl)) (pgs_cons (pg_name (i := 4) sc__law_queue.nd rfl (by first | exact Or.inl rfl | exact Or.inr rfl)) pgs_nil)))) (fun _ _ _ _ _ => (pts_one (pt_val (pe_callB (id := "any") (cr_anyK K rfl rfl) (by rfl) T.any (by decide +kernel) (pa_cons (pe_lc (own := [("leg", 5)]) (g := gName 5) (tt := tYes) rfl sc__law_queue.nd (pi_seqK K rfl (pv 4)) (blkOk_c (N := ["items", "member", "thing", "k", "item", "leg"]) (by decide +kernel)) (fun _ _ _ _ _ => (pg_name (i := 5) sc__law_queue.nd rfl (by first | exact Or.inl rfl | exact Or.inr rfl))) (fun _ _ _ _ _ => pts_nil) (fun _ _ _ _ _ => (pe_and (pe_cmpR (op_eqDK K rfl hr.units) (pe_ix (ix_tupK K rfl) (pv 5) pe_int (fun _ _ => rfl)) (pv 1) (nomark _)) (pe_one (pe_cmpR (op_eqDK K rfl hr.units) (pe_ix (ix_tupK K rfl) (pv 5) pe_int (fun _ _ => rfl)) (pv 2) (nomark _)))))) pa_nil))))) (fun _ _ _ _ _ => (pv 3))))), ?_⟩
  have lus : us.length = its.length := by rw [h5.len, List.length_map]
  refine ⟨_, rfl, l, us, rfl, SqL.of h4, fun B hB => ?_⟩
  have below : ∀ {H' : Hp} {o : HO}, Same H H' → Same H (upd H' B o) := fun {H' o} s c u e => by
    rw [upd_ne (ne_of_none e hB)]
    exact s _ _ e
  refine lc_it walk_enum (fun i H' => Same H H' ∧ H' B = some (.lst ((queueOf d1 d2 (its.take i)).map V.int))) ⟨below (Same.refl H), by rw [upd_same]; rfl⟩ (fun i H' _ pv => SqL.of (pv.1 _ _ h4)) (fun i w0 H2 H2' hi pv yy => ?_) fun H' pv => ?_
  · obtain ⟨T', x1, y1, rfl, hT, rfl, hx, hy⟩ := yy
    obtain ⟨s2, a2⟩ := pv
    obtain rfl : V.int (i : Nat) = x1 := Option.some.inj hx
    have li : i < its.length := by omega
    have hit : its[i]? = some its[i] := List.getElem?_eq_getElem li
    generalize its[i] = it at hit
    obtain ⟨gi1, gi2⟩ := gi.2 it (List.mem_of_getElem? hit)
    obtain ⟨d, e1, iv⟩ := h5.get hy
    rw [List.getElem?_map, hit] at e1
    obtain rfl : itD it = d := Option.some.inj e1
    have s3 : Same H2 _ := Same.up (o := .tup [.int (i : Nat), y1]) hT
    refine ⟨T', _, rfl, SqT.of upd_same, rfl, _, _, rfl, _, _, rfl, rfl, rfl, ?_⟩
    have a3 := s3 _ _ a2
    have s23 := s2.trans s3
    generalize upd H2 T' _ = G at s3 a3 s23 ⊢
    cases iv with
    | tup hv rv zv =>
      rename_i t ws
      have lw : ws.length = it.length := by rw [rv.len, List.length_map]
      refine ⟨_, rfl, t, rfl, .inr ⟨⟨_, SqT.of (s23 _ _ hv)⟩, fun B2 hB2 => lc_f walk_tup at_any it (fun g => V.bl (hitL d1 d2 g)) lw.symm (sz (m := 60) (by omega)) hB2 (fun H' s' => SqT.of (s' _ _ (s23 _ _ hv))) (fun j u0 gl H5 A lt hu hz s5 kA => ?_) (fun H5 s5 h5' => ?_)⟩⟩
      · obtain ⟨d3, e3, iv3⟩ := rv.get hu
        rw [List.getElem?_map, hz] at e3
        obtain rfl : legT gl = d3 := Option.some.inj e3
        obtain ⟨tg, rfl, htg⟩ := leg_at iv3
        have sH5 := s23.trans s5
        have mg2 := List.mem_of_getElem? hz
        have gg := gi2 gl mg2
        refine ⟨rfl, ?_⟩
        refine ⟨_, rfl, tg, _, 0, _, rfl, rfl, SqT.of (sH5 _ _ htg), rfl, _, rfl, .str gl.1, d1, .str _, dp_mono sH5 i1, name_shaped gg.1, sh1, _, rfl, ?_⟩
        cases e4 : PyData.eqv (.str gl.1) d1 with
        | false =>
          refine iteF ?_
          have eh : hitL d1 d2 gl = false := by unfold hitL; rw [e4, Bool.false_and]
          rw [eh] at kA
          exact kA _ (Same.refl _)
        | true =>
          refine iteT ⟨_, rfl, tg, _, 1, _, rfl, rfl, SqT.of (sH5 _ _ htg), rfl, _, rfl, .str gl.2.1, d2, .str _, dp_mono sH5 i2, name_shaped gg.2.1, sh2, ?_⟩
          have eh : hitL d1 d2 gl = PyData.eqv (.str gl.2.1) d2 := by unfold hitL; rw [e4, Bool.true_and]
          rw [eh] at kA
          exact kA _ (Same.refl _)
      · refine ⟨B2, it.map (hitL d1 d2), rfl, SqL.of (by rw [h5', List.map_map]; rfl), _, rfl, ?_⟩
        have s235 := s23.trans s5
        have a5 := s5 _ _ a3
        have lq := queue_len d1 d2 (its.take i)
        rw [List.length_take] at lq
        have eq := queue_take (d1 := d1) (d2 := d2) hit
        have ea : (it.map (hitL d1 d2)).any id = it.any (hitL d1 d2) := by rw [List.any_map]; rfl
        rw [ea]
        cases e : it.any (hitL d1 d2) with
        | false =>
          rw [e, if_neg Bool.false_ne_true, List.append_nil] at eq
          exact iteF ⟨s235, by rw [eq]; exact a5⟩
        | true =>
          rw [e, if_pos rfl] at eq
          refine iteT ⟨_, rfl, _, a5, sz (m := 60) (by rw [List.length_map]; have := gi.1; omega), below s235, ?_⟩
          rw [upd_same, eq, List.map_append]
          rfl
  · obtain ⟨s', a'⟩ := pv
    rw [lus, List.take_length] at a'
    exact q H' B s' hB a'
end
end K31

set_option Elab.async false
set_option linter.all false
set_option maxRecDepth 100000
set_option maxHeartbeats 4000000
namespace K31
open PySem PySem.Spec PyProof.Rows L2 Sr
theorem merge_nodup : ∀ {more acc : List (Key × V)}, ((acc ++ more).map (·.1)).Nodup → mergeK acc more = acc ++ more
  | [], acc, _ => by rw [List.append_nil]; rfl
  | p :: r, acc, h => by
    have nm : p.1 ∉ acc.map (·.1) := fun m => by
      rw [List.map_append, List.map_cons] at h
      exact (List.nodup_append.mp h).2.2 _ m _ List.mem_cons_self rfl
    have h2 : ((acc ++ [p] ++ r).map (·.1)).Nodup := by simpa using h
    have ih := merge_nodup h2
    show mergeK (L2.putK acc p.1 p.2) r = _
    rw [Sr.putK_new nm]
    rw [ih, List.append_assoc]
    rfl
theorem merge_nd {kvs : List (Key × V)} (h : (kvs.map (·.1)).Nodup) : mergeK [] kvs = kvs := by
  rw [merge_nodup]
  · rfl
  · rw [List.nil_append]
    exact h
theorem pairs_int {K : PySem.W.Frag} {H : Hp} {f : Str → Int} : ∀ {acc : List V} {zs : List Str}, Paired (fun v t => ∃ t2, v = V.ref t2 ∧ H t2 = some (.tup [.str t, .int (f t)])) acc zs → ∃ (ts : List Addr) (kvs : List (Key × V)), acc = ts.map V.ref ∧ Paired (fun p kv => SqT K H p [kV kv.1, kv.2]) ts kvs ∧ CoinsC kvs (zs.map fun t => (t, f t))
  | _, _, .nil => ⟨[], [], rfl, .nil, .nil⟩
  | _, _, .cons (b := s) h r => by
    obtain ⟨ts, kvs, e1, e2, e3⟩ := pairs_int (K := K) r
    obtain ⟨t, h1, h2⟩ := h
    exact ⟨t :: ts, (Sum.inr s, .int (f s)) :: kvs, by rw [h1, e1]; rfl, .cons (SqT.of h2) e2, .cons ⟨rfl, rfl⟩ e3⟩
section
variable {P : Program} {w : World} {K : PySem.W.Frag} {mg : Str → Option Value} {base : Heap}
abbrev s__law_held : Stmt := top 29
theorem sc__law_held : FnScope ["holdings", "found", "member", "some", "row", "thing"] ["holdings"] (defScope s__law_held) := ⟨rfl, rfl, rfl, by decide +kernel, rfl, by decide +kernel, by decide +kernel⟩
theorem c__law_held (T : Txt K mg) (D : Dfn K mg "_law_held" s__law_held) : Cal P w K mg base 1 "_law_held" ["holdings"] spToldH := by
  refine D.cal sc__law_held (fun _ _ _ _ _ _ us hl => match us, hl with | [_], _ => rfl) (fun vs H Q E h => ?_) fun cdv A outer s H vs Q E hr h => ?_
  · obtain ⟨a, kv, hs, rfl, _⟩ := h
    rfl
  obtain ⟨a, kv, hs, rfl, ha, hh, g, q⟩ := h
  refine ⟨_, (pss_cons (ps_set (i := 1) sc__law_held.nd rfl (by first | exact Or.inl rfl | exact Or.inr rfl) pe_dnewK)
      (pss_cons (ps_for PassesOwn.never rfl (pi_list (pe_callB (id := "sorted") (call_sortedD rfl) (by rfl) T.sorted (by decide +kernel) (pa_cons (pv 0) pa_nil))) (pg_name (i := 2) sc__law_held.nd rfl (by first | exact Or.inl rfl | exact Or.inr rfl))
      (pss_cons (ps_set (i := 3) sc__law_held.nd rfl (by first | exact Or.inl rfl | exact Or.inr rfl) (pe_dget (hu_of hr) (pv 0) (pv 2) (fun _ _ => rfl)))
      (pss_cons (ps_set (i := 4) sc__law_held.nd rfl (by first | exact Or.inl rfl | exact Or.inr rfl) (pe_callTy (T := "dict") (call_dictP rfl) (by rfl) T.dict (by decide +kernel) (pa_cons (pe_lc (own := [("thing", 5)]) (g := gName 5) rfl sc__law_held.nd (pi_list (pe_callB (id := "sorted") (call_sortedD rfl) (by rfl) T.sorted (by decide +kernel) (pa_cons (pv 3) pa_nil))) (blkOk_by (N := ["holdings", "found", "member", "some", "row", "thing"]) (sc := defScope s__law_held) (by decide +kernel)) (fun _ _ _ _ _ => (pg_name (i := 5) sc__law_held.nd rfl (by first | exact Or.inl rfl | exact Or.inr rfl))) (fun _ _ _ _ _ => (pts_one (pt_cmpR op_gt (pe_dget (hu_of hr) (pv 3) (pv 5) (fun _ _ => rfl)) pe_int (nomark _)))) (fun _ _ _ _ _ => (pe_tup (pa_cons (pv 5) (pa_cons (pe_dget (hu_of hr) (pv 3) (pv 5) (fun _ _ => rfl)) pa_nil))))) pa_nil)))
      (pss_one (ps_if (pt_cmpR (op_neDc hr.units) (pv 4) pe_dnewK (nomark _)) (pss_one (ps_dput (hu_of hr) (pv 1) (pv 2) (pv 4) rfl)) pss_nil)))))
      (pss_one (ps_ret (pv 1))))), ?_⟩
  have ek := (keys_names (F := fun v (r : Rw) => ∃ d kr, v = .ref d ∧ H d = some (.dK kr) ∧ CoinsC kr r) hh).2
  have lk : kv.length = hs.length := Paired.length hh
  refine fun p hp => ?_
  have s0 := Same.up (H := H) (o := .dK []) hp
  have p0 : (upd H p (.dK [])) p = some (.dK []) := upd_same
  try dsimp only
  refine ⟨_, rfl, a, kv, hs.map (·.1), rfl, .inl (s0 _ _ ha), ?_, by rw [List.length_map]; have := g.2.1; omega, fun ys kl pm so hkl => ?_⟩
  · rw [ek, List.map_map]
    rfl
  have lys : ys.length ≤ 6 := by rw [pm.length_eq, List.length_map]; exact g.2.1
  have nkp : kl ≠ p := fun z => by rw [z, p0] at hkl; cases hkl
  have H0kl : H kl = none := free_below s0 hkl
  refine ⟨kl, rfl, ⟨_, SqL.of upd_same⟩, for_it walk_list (fun i σ H' => (∃ v2 v3 v4 v5, σ = [some (.ref a), some (.ref p), v2, v3, v4, v5]) ∧ Same H H' ∧ H' kl = some (.lst (ys.map V.str)) ∧ ∃ tk rows, H' p = some (.dK tk) ∧ Paired (fun y r => CanRow (gR hs y) r) (ys.take i) rows ∧ TkR H p H' tk (canZ (ys.take i) rows)) ⟨⟨_, _, _, _, rfl⟩, s0.trans (Same.up hkl), upd_same, [], [], by rw [upd_ne nkp.symm]; exact p0, .nil, .nil⟩ (fun i σ H' _ pp => SqL.of pp.2.2.1) ?_ ?_⟩
  · rintro i u σ H1 H2 hi ⟨⟨v2, v3, v4, v5, rfl⟩, s1, hkl1, tk, rows, hp1, cr, tr⟩ ⟨rfl, hu⟩
    rw [List.length_map] at hi
    rw [List.getElem?_map] at hu
    obtain ⟨y, hy, rfl⟩ := Option.map_eq_some_iff.mp hu
    have my : y ∈ hs.map (·.1) := pm.mem_iff.mp (List.mem_of_getElem? hy)
    obtain ⟨d, kr, ev, hd, cc, gr⟩ := hh.get g my
    have ekr := (keys_names (F := fun v i => v = V.int i) cc).2
    dsimp only [gName]
    refine ⟨_, rfl, _, rfl, a, .ref d, rfl, .inl ⟨kv, Sum.inr y, .inl (s1 _ _ ha), rfl, ev.symm⟩, ?_⟩
    try dsimp only
    have hd1 := s1 _ _ hd
    have lkr : kr.length ≤ 6 := by rw [Paired.length cc]; exact gr.2.1
    refine ⟨_, rfl, d, kr, (gR hs y).map (·.1), rfl, .inl hd1, ?_, by rw [List.length_map]; have := gr.2.1; omega, fun zs k2 pm2 so2 hk2 => ?_⟩
    · rw [ekr, List.map_map]
      rfl
    have s2 := Same.up (o := .lst (zs.map V.str)) hk2
    have nz : zs.Nodup := pm2.nodup_iff.mpr gr.1
    have lz : zs.length ≤ 6 := by rw [pm2.length_eq, List.length_map]; exact gr.2.1
    have z2 : (upd H2 k2 (.lst (zs.map V.str))) k2 = some (.lst (zs.map V.str)) := upd_same
    refine ⟨k2, rfl, ⟨_, SqL.of z2⟩, fun D0 hD0' => lc_gen walk_list at_any zs (fun t => decide (0 < gC (gR hs y) t)) (by rw [List.length_map]) (sz (m := 60) (by rw [List.length_map]; omega)) hD0' (fun H' s' => SqL.of (s' _ _ z2)) (fun H' t v => ∃ t2, v = V.ref t2 ∧ H' t2 = some (.tup [.str t, .int (gC (gR hs y) t)])) (fun _ _ _ _ e ⟨t2, a, b⟩ => ⟨t2, a, e _ _ b⟩) (fun _ _ _ _ _ e ⟨t2, a, b⟩ => ⟨t2, a, by rw [upd_ne (ne_of b e (by intro z; cases z))]; exact b⟩)
      (fun j u z H3 R B lt hu hz s3 kR kB => ?_) (fun H3' acc s3' h3' pr => ?_)⟩
    · rw [List.getElem?_map, hz] at hu
      obtain rfl : V.str z = u := Option.some.inj hu
      have mz : z ∈ (gR hs y).map (·.1) := pm2.mem_iff.mp (List.mem_of_getElem? hz)
      have vz := cc.get mz
      have hd3 := s3 _ _ (s2 _ _ hd1)
      refine ⟨rfl, _, rfl, _, rfl, d, _, rfl, .inl ⟨kr, Sum.inr z, .inl hd3, rfl, vz.symm⟩, _, _, rfl, rfl, _, rfl, ?_⟩
      dsimp only at kR kB ⊢
      by_cases c : 0 < gC (gR hs y) z
      · rw [decide_eq_true c] at kR ⊢
        exact iteT ⟨_, rfl, _, rfl, _, rfl, d, _, rfl, .inl ⟨kr, Sum.inr z, .inl hd3, rfl, vz.symm⟩, two_line, fun t2 ht2 => kR rfl _ _ (Same.up ht2) ⟨t2, rfl, upd_same⟩⟩
      · rw [decide_eq_false c] at kB ⊢
        exact iteF (kB rfl _ (Same.refl _))
    · have cr2 : CanRow (gR hs y) ((zs.filter fun t => decide (0 < gC (gR hs y) t)).map fun t => (t, gC (gR hs y) t)) := ⟨zs, pm2, so2, rfl⟩
      obtain ⟨ts, kvs, rfl, pp, ccD⟩ := pairs_int (K := K) pr
      have ndk : (kvs.map (·.1)).Nodup := keys_nd (F := fun v i => v = V.int i) ccD (by
        rw [List.map_map]
        show ((zs.filter _).map id).Nodup
        rw [List.map_id]
        exact nz.filter _)
      refine ⟨D0, ts, kvs, rfl, SqL.of h3', pp, fun D hD => ?_⟩
      rw [merge_nd ndk]
      have s13' := (s2.trans s3')
      have hDn : H D = none := free_below (s1.trans s13') hD
      have hD0 : H D = none := hDn
      have nDp : D ≠ p := fun z => by rw [z, s13' _ _ hp1] at hD; cases hD
      have s13 := s13'.trans (Same.up (o := .dK kvs) hD)
      have h3 : (upd H3' D (.dK kvs)) D = some (.dK kvs) := upd_same
      generalize upd H3' D (.dK kvs) = H3 at s13 h3 ⊢
      generalize hrow : ((zs.filter fun t => decide (0 < gC (gR hs y) t)).map fun t => (t, gC (gR hs y) t)) = row at cr2 ccD
      have lrow : kvs.length = row.length := Paired.length ccD
      have et : ys.take (i + 1) = ys.take i ++ [y] := by rw [List.take_add_one, hy]; rfl
      have ltk : (ys.take i).length = rows.length := Paired.length cr
      have crn : Paired (fun y r => CanRow (gR hs y) r) (ys.take (i + 1)) (rows ++ [row]) := by rw [et]; exact Sr.Paired.snoc (F := fun y r => CanRow (gR hs y) r) cr2 cr
      have hp3 := s13 _ _ hp1
      have ntk : tk.length ≤ 6 := by
        rw [Paired.length tr]
        unfold canZ
        have h1 := List.length_filter_le (fun (p : Str × Rw) => !p.2.isEmpty) ((ys.take i).zip rows)
        rw [List.length_zip, List.length_take] at h1
        omega
      try dsimp only
      refine ⟨_, rfl, fun q1 hq1 => ⟨D, q1, kvs, [], rowP row, [], rfl, rfl, Same.up hq1 _ _ h3, upd_same, dcd_row ccD, .nil, _, rfl, ?_⟩⟩
      have s13 := s13.trans (Same.up (o := .dK []) hq1)
      have hp3 := s13 _ _ hp1
      have h3 := Same.up (o := .dK []) hq1 _ _ h3
      generalize upd H3 q1 (.dK []) = H3 at s13 hp3 h3 ⊢
      have ee : (!eqvK (rowP row) []) = !row.isEmpty := by
        cases row <;> rfl
      rw [ee]
      cases em : row.isEmpty with
      | true =>
        refine iteF ⟨⟨_, _, _, _, rfl⟩, s1.trans s13, s13 _ _ hkl1, tk, rows ++ [row], hp3, crn, ?_⟩
        rw [et, canZ_snoc ltk, em, if_pos rfl, List.append_nil]
        exact tr.mono s13
      | false =>
        refine iteT ⟨_, rfl, _, rfl, _, rfl, p, _, rfl, .inl ⟨tk, Sum.inr y, hp3, rfl, sz (m := 60) (by omega) (by decide), rfl⟩, ⟨_, _, _, _, rfl⟩, ?_, ?_, putK tk (Sum.inr y) (.ref D), rows ++ [row], upd_same, crn, ?_⟩
        · exact fun b o e => by
            rw [upd_ne fun z => by rw [z, hp] at e; cases e]
            exact (s1.trans s13) _ _ e
        · rw [upd_ne nkp]
          exact s13 _ _ hkl1
        · rw [et, canZ_snoc ltk, em, if_neg Bool.false_ne_true]
          have ny : (Sum.inr y : Key) ∉ tk.map (·.1) := by
            have hk : tk.map (·.1) = (canZ (ys.take i) rows).map fun q => (Sum.inr q.1 : Key) := tk_keys tr
            rw [hk]
            intro m
            obtain ⟨q, mq, e⟩ := List.mem_map.mp m
            have e2 : q.1 = y := Sum.inr.inj e
            have m3 := (List.of_mem_zip (List.mem_filter.mp mq).1).1
            rw [e2] at m3
            have nys : ys.Nodup := pm.nodup_iff.mpr g.1
            obtain ⟨b, hb, eb⟩ := List.mem_take_iff_getElem.mp m3
            have hi' : i < ys.length := (List.getElem?_eq_some_iff.mp hy).1
            have e4 : ys[i] = y := (List.getElem?_eq_some_iff.mp hy).2
            exact (List.pairwise_iff_getElem.mp nys) b i (by omega) hi' (by omega) (eb.trans e4.symm)
          rw [Sr.putK_new ny]
          exact (tr.mono s13).put.snoc nDp hD0 (by rw [upd_ne nDp]; exact h3) ccD
  · rintro σ H1 ⟨⟨v2, v3, v4, v5, rfl⟩, s1, _, tk, rows, hp1, cr, tr⟩
    rw [List.length_map, List.take_length] at cr tr
    try dsimp only
    exact ⟨_, rfl, q _ p tk _ s1 hp hp1 tr.new ⟨ys, rows, pm, so, cr, rfl⟩⟩
end
end K31

set_option Elab.async false
set_option linter.all false
set_option maxRecDepth 100000
set_option maxHeartbeats 4000000
namespace K31
open PySem PySem.Spec PyProof.Rows L2 Sr
theorem perm_pairs {α β : Type} {F : α → β → Prop} {as as' : List α} (p : as'.Perm as) : ∀ {bs : List β}, Paired F as bs → ∃ bs', Paired F as' bs' ∧ bs'.Perm bs := by
  induction p with
  | nil => intro bs h; exact ⟨bs, h, List.Perm.refl _⟩
  | cons x _ ih =>
    intro bs h
    cases h with
    | @cons _ b _ bs h t =>
      obtain ⟨bs', h1, h2⟩ := ih t
      exact ⟨b :: bs', .cons h h1, h2.cons b⟩
  | swap x y l =>
    intro bs h
    cases h with
    | @cons _ b _ bs h t =>
      cases t with
      | @cons _ c _ bs h2 t => exact ⟨c :: b :: bs, .cons h2 (.cons h t), List.Perm.swap b c bs⟩
  | trans _ _ ih1 ih2 =>
    intro bs h
    obtain ⟨b1, h1, p1⟩ := ih2 h
    obtain ⟨b2, h2, p2⟩ := ih1 h1
    exact ⟨b2, h2, p2.trans p1⟩
theorem pair_map {α β : Type} {f : β → α} : ∀ bs : List β, Paired (fun a b => a = f b) (bs.map f) bs
  | [] => .nil
  | b :: r => .cons rfl (pair_map r)
theorem map_pair {α β : Type} {f : β → α} : ∀ {as : List α} {bs : List β}, Paired (fun a b => a = f b) as bs → as = bs.map f
  | _, _, .nil => rfl
  | _, _, .cons h t => by rw [h, map_pair t]; rfl
theorem perm_map {α β : Type} {f : β → α} {as : List α} {bs : List β} (p : as.Perm (bs.map f)) : ∃ bs' : List β, as = bs'.map f ∧ bs'.Perm bs := by
  obtain ⟨bs', h1, h2⟩ := perm_pairs p (pair_map bs)
  exact ⟨bs', map_pair h1, h2⟩
/-! ### drawn items -/
def abc : List Str := ["a", "b", "c"]
def drawnL (g : Leg) : Prop := g.1 ∈ abc ∧ g.2.2.2 ∈ abc ∧ g.1 ≠ g.2.2.2 ∧ g.2.1 ∈ (["coin", "coin", "x"] : List Str) ∧ 1 ≤ g.2.2.1 ∧ g.2.2.1 ≤ 3
def drawnI (its : Its) : Prop := ∀ it ∈ its, it.length ≤ 2 ∧ ∀ g ∈ it, drawnL g
def spSomeI : Sp := fun vs H Q _ => ∃ (a : Addr) (n : Nat), vs = [.ref a, .int (n : Nat)] ∧ DnAt 0 H a ∧ n ≤ 6 ∧
  ∀ (l : Addr) (H' : Hp) (us : List V) (its : Its), DnAt 0 H' a → Same (rm H a) (rm H' a) → (rm H a) l = none → (rm H' a) l = some (.lst us) → IsA (rm H' a) us (its.map itD) → its.length = n → drawnI its → Q (.ref l) H'
section
variable {P : Program} {w : World} {K : PySem.W.Frag} {mg : Str → Option Value} {base : Heap}
abbrev s__law_some_items : Stmt := top 26
theorem sc__law_some_items : FnScope ["draws", "many", "found", "k", "legs", "turn", "pair"] ["draws", "many"] (defScope s__law_some_items) := ⟨rfl, rfl, rfl, by decide +kernel, rfl, by decide +kernel, by decide +kernel⟩
theorem c__law_some_items (T : Txt K mg) (D : Dfn K mg "_law_some_items" s__law_some_items) (C_law_draw : Cal P w K mg base 1 "_law_draw" ["draws", "many"] spDraw) (C_law_pick : Cal P w K mg base 2 "_law_pick" ["draws", "things"] (spPick K)) (C_law_mixed : Cal P w K mg base 2 "_law_mixed" ["draws", "things"] spMix) : Cal P w K mg base 3 "_law_some_items" ["draws", "many"] spSomeI := by
  refine D.cal sc__law_some_items (fun _ _ _ _ _ _ us hl => match us, hl with | [_, _], _ => rfl) (fun vs H Q E h => ?_) fun cdv A outer s H vs Q E hr h => ?_
  · obtain ⟨a, n, rfl, _⟩ := h
    rfl
  obtain ⟨a, n, rfl, hd, hn, q⟩ := h
  refine ⟨_, (pss_cons (ps_set (i := 2) sc__law_some_items.nd rfl (by first | exact Or.inl rfl | exact Or.inr rfl) (pe_lst pa_nil))
      (pss_cons (ps_for PassesOwn.never rfl (pi_range1 (by rfl) T.range (pa_cons (pv 1) pa_nil)) (pg_name (i := 3) sc__law_some_items.nd rfl (by first | exact Or.inl rfl | exact Or.inr rfl))
      (pss_cons (ps_set (i := 4) sc__law_some_items.nd rfl (by first | exact Or.inl rfl | exact Or.inr rfl) (pe_lst pa_nil))
      (pss_cons (ps_for PassesOwn.never rfl (pi_range1 (by rfl) T.range (pa_cons (pe_cal C_law_pick hr (by first | decide | omega) (by rfl) (pa_cons (pv 0) (pa_cons (pe_lst (pa_cons pe_int (pa_cons pe_int (pa_cons pe_int (pa_cons pe_int (pa_cons pe_int (pa_cons pe_int pa_nil))))))) pa_nil))) pa_nil)) (pg_name (i := 5) sc__law_some_items.nd rfl (by first | exact Or.inl rfl | exact Or.inr rfl))
      (pss_cons (ps_set (i := 6) sc__law_some_items.nd rfl (by first | exact Or.inl rfl | exact Or.inr rfl) (pe_slice sl_list (pe_cal C_law_mixed hr (by first | decide | omega) (by rfl) (pa_cons (pv 0) (pa_cons (pe_lst (pa_cons pe_str (pa_cons pe_str (pa_cons pe_str pa_nil)))) pa_nil))) po_none (po_some pe_int)))
      (pss_one (ps_expr (pe_bm PySem.F.plainAttrs_list PySem.F.slot_list_append PySem.F.type_list_append mt_append (pv 4) (pa_cons (pe_tup (pa_cons (pe_ix ix_list (pv 6) pe_int (fun _ _ => rfl)) (pa_cons (pe_cal C_law_pick hr (by first | decide | omega) (by rfl) (pa_cons (pv 0) (pa_cons (pe_lst (pa_cons pe_str (pa_cons pe_str (pa_cons pe_str pa_nil)))) pa_nil))) (pa_cons (pe_op op_add pe_int (pe_cal C_law_draw hr (by first | decide | omega) (by rfl) (pa_cons (pv 0) (pa_cons pe_int pa_nil)))) (pa_cons (pe_ix ix_list (pv 6) pe_int (fun _ _ => rfl)) pa_nil))))) pa_nil))))))
      (pss_one (ps_expr (pe_bm PySem.F.plainAttrs_list PySem.F.slot_list_append PySem.F.type_list_append mt_append (pv 2) (pa_cons (pe_callTy (T := "tuple") call_tuple_of (by rfl) T.tuple (by decide +kernel) (pa_cons (pv 4) pa_nil)) pa_nil)))))))
      (pss_one (ps_ret (pv 2))))), ?_⟩
  refine ⟨lineN (n := 0), fun f hf => ?_⟩
  have nf := hd.new hf
  have mf : (rm H a) f = none := by rw [rm_ne nf]; exact hf
  try dsimp only
  refine ⟨_, rfl, _, rfl, by omega, by omega, ?_⟩
  refine for_range (fun i σ H' => ∃ v3 v4 v5 v6 us its, σ = [some (.ref a), some (.int (n : Nat)), some (.ref f), v3, v4, v5, v6] ∧ DnAt 0 H' a ∧ Same (rm H a) (rm H' a) ∧ (rm H' a) f = some (.lst us) ∧ IsA (rm H' a) us (its.map itD) ∧ its.length = i ∧ drawnI its) ⟨_, _, _, _, [], [], rfl, hd.set nf, same_set (Same.refl _) mf, by rw [rm_ne nf, upd_same], .nil, rfl, fun it m => by cases m⟩ ?_ ?_
  rotate_left
  · rintro σ H1 ⟨v3, v4, v5, v6, us, its, rfl, d1, s1, f1, i1, l1, g1⟩
    try dsimp only
    exact ⟨_, rfl, q f H1 us its d1 s1 mf f1 i1 (by rw [l1]; exact Int.toNat_natCast n) g1⟩
  rintro i σ H1 hi ⟨v3, v4, v5, v6, us, its, rfl, d1, s1, f1, i1, l1, g1⟩
  have nfa : f ≠ a := nf
  refine ⟨lineN (n := 0), fun g0 hg0 => ?_⟩
  have ng := d1.new hg0
  have d2 : DnAt 0 (upd H1 g0 (.lst [])) a := d1.set ng
  have mg : (rm H1 a) g0 = none := by rw [rm_ne ng]; exact hg0
  have s2 : Same (rm H1 a) (rm (upd H1 g0 (.lst [])) a) := same_set (Same.refl _) mg
  have e2 : (rm (upd H1 g0 (.lst [])) a) g0 = some (.lst []) := by rw [rm_ne ng, upd_same]
  generalize upd H1 g0 (.lst []) = G at d2 s2 e2 ⊢
  try dsimp only
  refine ⟨_, rfl, lineN (n := 6), fun lo hlo => ?_⟩
  have nlo := d2.new hlo
  have d3 : DnAt 0 (upd G lo (.lst [.int 0, .int 1, .int 1, .int 1, .int 2, .int 2])) a := d2.set nlo
  have s3 : Same (rm G a) (rm (upd G lo (.lst [.int 0, .int 1, .int 1, .int 1, .int 2, .int 2])) a) := same_set (Same.refl _) (by rw [rm_ne nlo]; exact hlo)
  have e3 : (upd G lo (.lst [.int 0, .int 1, .int 1, .int 1, .int 2, .int 2])) lo = some (.lst [.int 0, .int 1, .int 1, .int 1, .int 2, .int 2]) := upd_same
  generalize upd G lo _ = G2 at d3 s3 e3 ⊢
  refine ⟨a, lo, _, 0, rfl, d3, by decide, nlo, .inl (SqL.of e3), by show 1 ≤ 6; decide, by show 6 < 1073741824; decide, fun k v o hv ho => ?_⟩
  obtain ⟨c, rfl, hc⟩ : ∃ c : Nat, v = .int (c : Nat) ∧ c ≤ 2 := by
    have m := List.mem_of_getElem? hv
    simp only [List.mem_cons, List.not_mem_nil, or_false] at m
    rcases m with rfl | rfl | rfl | rfl | rfl | rfl
    · exact ⟨0, rfl, by decide⟩
    · exact ⟨1, rfl, by decide⟩
    · exact ⟨1, rfl, by decide⟩
    · exact ⟨1, rfl, by decide⟩
    · exact ⟨2, rfl, by decide⟩
    · exact ⟨2, rfl, by decide⟩
  have d4 : DnAt 0 (upd G2 a o) a := DnAt.put ho
  have s4 : Same (rm H1 a) (rm (upd G2 a o) a) := s2.trans (s3.trans rm_put)
  have e4 : (rm (upd G2 a o) a) g0 = some (.lst []) := rm_put _ _ (s3 _ _ e2)
  generalize upd G2 a o = G3 at d4 s4 e4 ⊢
  refine ⟨_, rfl, by omega, by omega, ?_⟩
  refine for_range (fun j σ H' => ∃ v5 v6 ws gs, σ = [some (.ref a), some (.int (n : Nat)), some (.ref f), some (.int (0 + (i : Nat))), some (.ref g0), v5, v6] ∧ DnAt 0 H' a ∧ Same (rm H1 a) (rm H' a) ∧ (rm H' a) g0 = some (.lst ws) ∧ IsA (rm H' a) ws (gs.map legT) ∧ gs.length = j ∧ ∀ g ∈ gs, drawnL g) ⟨_, _, [], [], rfl, d4, s4, e4, .nil, rfl, fun g m => by cases m⟩ ?_ ?_
  · rintro j σ H5 hj ⟨v5', v6', ws, gs, rfl, d5, s5, e5, i5, l5, g5⟩
    refine ⟨_, rfl, lineN (n := 3), fun lp hlp => ?_⟩
    have nlp := d5.new hlp
    have d6 : DnAt 0 (upd H5 lp (.lst [.str "a", .str "b", .str "c"])) a := d5.set nlp
    have s6 : Same (rm H5 a) (rm (upd H5 lp (.lst [.str "a", .str "b", .str "c"])) a) := same_set (Same.refl _) (by rw [rm_ne nlp]; exact hlp)
    have e6 : (rm (upd H5 lp (.lst [.str "a", .str "b", .str "c"])) a) lp = some (.lst (abc.map V.str)) := by rw [rm_ne nlp, upd_same]; rfl
    generalize upd H5 lp _ = H6 at d6 s6 e6 ⊢
    refine ⟨a, lp, abc.map V.str, 0, rfl, d6, by decide, e6, by decide, fun p H7 ys d7 s7 p0 hp7 pm => ?_⟩
    obtain ⟨zs, rfl, pz⟩ := perm_map pm
    have lz : zs.length = 3 := pz.length_eq
    have nz : zs.Nodup := pz.nodup_iff.mpr (by decide +kernel)
    have mz : ∀ z ∈ zs, z ∈ abc := fun z m => pz.mem_iff.mp m
    match zs, lz with
    | [z1, z2, z3], _ =>
    refine ⟨_, rfl, p, _, rfl, SqL.of (rm_same _ _ hp7), fun p2 hp2 => ?_⟩
    have n12 : z1 ≠ z2 := fun e => (List.nodup_cons.mp nz).1 (by rw [e]; exact List.mem_cons_self)
    have m1 := mz z1 List.mem_cons_self
    have m2 := mz z2 (List.mem_cons_of_mem _ List.mem_cons_self)
    have ec : cutV ([z1, z2, z3].map V.str) none (some 2) = [.str z1, .str z2] := cut_take (n := 2) _ (show 2 ≤ 3 by decide)
    rw [ec]
    rw [ec] at *
    have np2 := d7.new hp2
    have d8 : DnAt 0 (upd H7 p2 (.lst [.str z1, .str z2])) a := (show DnAt 0 H7 a from d7).set np2
    have s8 : Same (rm H7 a) (rm (upd H7 p2 (.lst [.str z1, .str z2])) a) := same_set (Same.refl _) (by rw [rm_ne np2]; exact hp2)
    have e8 : (rm (upd H7 p2 (.lst [.str z1, .str z2])) a) p2 = some (.lst [.str z1, .str z2]) := by rw [rm_ne np2, upd_same]
    generalize upd H7 p2 (.lst [.str z1, .str z2]) = H8 at d8 s8 e8 ⊢
    have s58 := s6.trans (s7.trans s8)
    try dsimp only
    refine ⟨_, rfl, .inl ⟨rfl, _, SqL.of (rm_same _ _ (s58 _ _ e5))⟩, _, rfl, p2, _, 0, _, rfl, rfl, SqL.of (rm_same _ _ e8), rfl, _, rfl, lineN (n := 3), fun lt hlt => ?_⟩
    have nlt := d8.new hlt
    have d9 : DnAt 0 (upd H8 lt (.lst [.str "coin", .str "coin", .str "x"])) a := d8.set nlt
    have s9 : Same (rm H8 a) (rm (upd H8 lt (.lst [.str "coin", .str "coin", .str "x"])) a) := same_set (Same.refl _) (by rw [rm_ne nlt]; exact hlt)
    have e9 : (upd H8 lt (.lst [.str "coin", .str "coin", .str "x"])) lt = some (.lst ((["coin", "coin", "x"] : List Str).map V.str)) := upd_same
    generalize upd H8 lt _ = H9 at d9 s9 e9 ⊢
    refine ⟨a, lt, _, 0, rfl, d9, by decide, nlt, .inl (SqL.of e9), by decide, by decide, fun k2 v2 o2 hv2 ho2 => ?_⟩
    rw [List.getElem?_map] at hv2
    obtain ⟨th, hth, rfl⟩ := Option.map_eq_some_iff.mp hv2
    have mth := List.mem_of_getElem? hth
    have d10 : DnAt 0 (upd H9 a o2) a := DnAt.put ho2
    have s10 : Same (rm H9 a) (rm (upd H9 a o2) a) := rm_put
    generalize upd H9 a o2 = H10 at d10 s10 ⊢
    refine ⟨_, rfl, a, 3, 0, rfl, d10, by decide, by decide, by decide, fun r o3 r0 r1 ho3 => ?_⟩
    have d11 : DnAt 0 (upd H10 a o3) a := DnAt.put ho3
    have s11 : Same (rm H10 a) (rm (upd H10 a o3) a) := rm_put
    generalize upd H10 a o3 = H11 at d11 s11 ⊢
    have s8b := s9.trans (s10.trans s11)
    refine ⟨_, _, rfl, rfl, _, rfl, p2, _, 1, _, rfl, rfl, SqL.of (rm_same _ _ (s8b _ _ e8)), rfl, lineN (n := 4), fun t ht => ?_⟩
    have nt := d11.new ht
    have mt : (rm H11 a) t = none := by rw [rm_ne nt]; exact ht
    have s12 : Same (rm H11 a) (rm (upd H11 t (.tup [.str z1, .str th, .int (1 + r), .str z2])) a) := same_set (Same.refl _) mt
    have d12 : DnAt 0 (upd H11 t (.tup [.str z1, .str th, .int (1 + r), .str z2])) a := d11.set nt
    have t12 : (rm (upd H11 t (.tup [.str z1, .str th, .int (1 + r), .str z2])) a) t = some (.tup (legVs (z1, th, 1 + r, z2))) := by rw [rm_ne nt, upd_same]; rfl
    delta tNil
    dsimp only
    generalize upd H11 t _ = H12 at s12 d12 t12 ⊢
    have sA := s58.trans (s8b.trans s12)
    have e12 := sA _ _ e5
    have e12' := rm_same _ _ e12
    have lws : ws.length = gs.length := by rw [i5.len, List.length_map]
    have jc : j < c := by
      have : ((c : Nat) : Int).toNat = c := Int.toNat_natCast c
      omega
    have sq : Tups (rm H12 a) (rm (upd H12 g0 (.lst (ws ++ [.ref t]))) a) := fun b xs e => by
      have nb := rm_dif e
      rw [rm_ne nb] at e ⊢
      rw [upd_ne (ne_of e e12' (by intro z; cases z))]
      exact e
    have okn : ∀ s ∈ abc ++ (["coin", "coin", "x"] : List Str), s.length ≤ 1000 := by decide +kernel
    refine ⟨g0, ws, .ref t, rfl, rfl, e12', sz (m := 60) (by omega), ⟨_, _, ws ++ [.ref t], gs ++ [(z1, th, 1 + r, z2)], rfl, d12.set ng, same_set (s5.trans sA) mg, by rw [rm_ne ng, upd_same], ?_, by rw [List.length_append, l5]; rfl, fun g m => ?_⟩⟩
    · rw [List.map_append]
      refine isA_snoc (.tup (sq _ _ t12) (.cons (.str _ (okn _ (List.mem_append_left _ m1))) (.cons (.str _ (okn _ (List.mem_append_right _ mth))) (.cons (.int _) (.cons (.str _ (okn _ (List.mem_append_left _ m2))) .nil)))) (show 4 ≤ 60 by decide)) (isA_tups sq (i5.mono sA) (tupDs_of fun d m => by
        obtain ⟨g, _, rfl⟩ := List.mem_map.mp m
        rfl))
    · rcases List.mem_append.mp m with m | m
      · exact g5 g m
      · rw [List.mem_singleton.mp m]
        exact ⟨m1, m2, n12, mth, by show 1 ≤ 1 + r; omega, by show 1 + r ≤ 3; omega⟩
  · rintro σ H5 ⟨v5', v6', ws, gs, rfl, d5, s5, e5, i5, l5, g5⟩
    try dsimp only
    have e5' := rm_same _ _ e5
    have l5' : gs.length = c := by rw [l5]; exact Int.toNat_natCast c
    have lws : ws.length = gs.length := by rw [i5.len, List.length_map]
    have f5 := s5 _ _ f1
    have f5' := rm_same _ _ f5
    refine ⟨_, rfl, .inl ⟨rfl, _, SqL.of f5'⟩, _, rfl, g0, ws, rfl, .inl ⟨SqL.of e5', fun t ht => ?_⟩⟩
    delta tNil
    dsimp only
    have nt := d5.new ht
    have mt : (rm H5 a) t = none := by rw [rm_ne nt]; exact ht
    have s6 : Same (rm H5 a) (rm (upd H5 t (.tup ws)) a) := same_set (Same.refl _) mt
    have d6 : DnAt 0 (upd H5 t (.tup ws)) a := d5.set nt
    have t6 : (rm (upd H5 t (.tup ws)) a) t = some (.tup ws) := by rw [rm_ne nt, upd_same]
    generalize upd H5 t (.tup ws) = H6 at s6 d6 t6 ⊢
    have f6 := s6 _ _ f5
    have lus : us.length = its.length := by rw [i1.len, List.length_map]
    have ii : i < n := by
      have : ((n : Nat) : Int).toNat = n := Int.toNat_natCast n
      omega
    refine ⟨f, us, .ref t, rfl, rfl, rm_same _ _ f6, sz (m := 60) (by omega), ?_⟩
    have f6' := rm_same _ _ f6
    have sq : Tups (rm H6 a) (rm (upd H6 f (.lst (us ++ [.ref t]))) a) := fun b xs e => by
      have nb := rm_dif e
      rw [rm_ne nb] at e ⊢
      rw [upd_ne (ne_of e f6' (by intro z; cases z))]
      exact e
    refine ⟨_, _, _, _, us ++ [.ref t], its ++ [gs], rfl, d6.set nf, ?_, by rw [rm_ne nf, upd_same], ?_, by rw [List.length_append, l1]; rfl, fun it m => ?_⟩
    · exact same_set (s1.trans (s5.trans s6)) mf
    · rw [List.map_append]
      refine isA_snoc (.tup (sq _ _ t6) (isA_tups sq (i5.mono s6) ?_) (by omega)) (isA_tups sq (i1.mono (s5.trans s6)) (its_tup its))
      exact tupDs_of fun d m => by
        obtain ⟨g, _, rfl⟩ := List.mem_map.mp m
        rfl
    · rcases List.mem_append.mp m with m | m
      · exact g1 it m
      · rw [List.mem_singleton.mp m]
        exact ⟨by omega, g5⟩
end
end K31

set_option Elab.async false
set_option linter.all false
set_option maxRecDepth 100000
set_option maxHeartbeats 4000000
namespace K31
open PySem PySem.Spec PyProof.Rows L2 Sr
/-! ### items in lists or tuples, whatever is a list being new -/
def LegN (M H : Hp) (v : V) (g : Leg) : Prop := ∃ t, v = .ref t ∧ (H t = some (.tup (legVs g)) ∨ (M t = none ∧ H t = some (.lst (legVs g))))
def ItmN (M H : Hp) (v : V) (it : List Leg) : Prop := ∃ t us, v = .ref t ∧ (H t = some (.tup us) ∨ (M t = none ∧ H t = some (.lst us))) ∧ Paired (LegN M H) us it
theorem LegN.mono {M H H' : Hp} (s : Same H H') {v : V} {g : Leg} (h : LegN M H v g) : LegN M H' v g := by
  obtain ⟨t, e, h⟩ := h
  exact ⟨t, e, h.imp (s _ _) fun h => ⟨h.1, s _ _ h.2⟩⟩
theorem ItmN.mono {M H H' : Hp} (s : Same H H') {v : V} {it : List Leg} (h : ItmN M H v it) : ItmN M H' v it := by
  obtain ⟨t, us, e, h, p⟩ := h
  exact ⟨t, us, e, h.imp (s _ _) fun h => ⟨h.1, s _ _ h.2⟩, L2.Paired.mapP p fun _ _ h => h.mono s⟩
theorem LegN.v {M H : Hp} {v : V} {g : Leg} (h : LegN M H v g) : LegV H v g := by
  obtain ⟨t, e, h⟩ := h
  exact ⟨t, e, h.elim .inr fun h => .inl h.2⟩
theorem ItmN.v {M H : Hp} {v : V} {it : List Leg} (h : ItmN M H v it) : ItmV H v it := by
  obtain ⟨t, us, e, h, p⟩ := h
  exact ⟨t, us, e, h.elim .inr fun h => .inl h.2, L2.Paired.mapP p fun _ _ h => h.v⟩
/-- while they are gathered at f -/
def LegX (f : Addr) (M H : Hp) (v : V) (g : Leg) : Prop := ∃ t, v = .ref t ∧ t ≠ f ∧ (H t = some (.tup (legVs g)) ∨ (M t = none ∧ H t = some (.lst (legVs g))))
def ItmX (f : Addr) (M H : Hp) (v : V) (it : List Leg) : Prop := ∃ t us, v = .ref t ∧ t ≠ f ∧ (H t = some (.tup us) ∨ (M t = none ∧ H t = some (.lst us))) ∧ Paired (LegX f M H) us it
theorem LegX.mono {f : Addr} {M H H' : Hp} (s : Same H H') {v : V} {g : Leg} (h : LegX f M H v g) : LegX f M H' v g := by
  obtain ⟨t, e, n, h⟩ := h
  exact ⟨t, e, n, h.imp (s _ _) fun h => ⟨h.1, s _ _ h.2⟩⟩
theorem ItmX.mono {f : Addr} {M H H' : Hp} (s : Same H H') {v : V} {it : List Leg} (h : ItmX f M H v it) : ItmX f M H' v it := by
  obtain ⟨t, us, e, n, h, p⟩ := h
  exact ⟨t, us, e, n, h.imp (s _ _) fun h => ⟨h.1, s _ _ h.2⟩, L2.Paired.mapP p fun _ _ h => h.mono s⟩
theorem ItmX.put {f : Addr} {M H : Hp} {o : HO} {v : V} {it : List Leg} (h : ItmX f M H v it) : ItmX f M (upd H f o) v it := by
  obtain ⟨t, us, e, n, h, p⟩ := h
  exact ⟨t, us, e, n, by rw [upd_ne n]; exact h, L2.Paired.mapP p fun _ _ ⟨t, e, n, h⟩ => ⟨t, e, n, by rw [upd_ne n]; exact h⟩⟩
theorem ItmX.n {f : Addr} {M H : Hp} {v : V} {it : List Leg} (h : ItmX f M H v it) : ItmN M H v it := by
  obtain ⟨t, us, e, n, h, p⟩ := h
  exact ⟨t, us, e, h, L2.Paired.mapP p fun _ _ ⟨t, e, n, h⟩ => ⟨t, e, h⟩⟩
def spLoose : Sp := fun vs H Q _ => ∃ (a l : Addr) (us : List V) (its : Its), vs = [.ref a, .ref l] ∧ DnAt 0 H a ∧ (rm H a) l = some (.lst us) ∧ IsA (rm H a) us (its.map itD) ∧ goodIts its ∧
  ∀ (p : Addr) (H' : Hp) (ws : List V), DnAt 0 H' a → Same (rm H a) (rm H' a) → (rm H a) p = none → (rm H' a) p = some (.lst ws) → Paired (ItmN (rm H a) (rm H' a)) ws its → Q (.ref p) H'
section
variable {P : Program} {w : World} {K : PySem.W.Frag} {mg : Str → Option Value} {base : Heap}
abbrev s__law_loose : Stmt := top 31
theorem sc__law_loose : FnScope ["draws", "items", "found", "item", "legs", "leg"] ["draws", "items"] (defScope s__law_loose) := ⟨rfl, rfl, rfl, by decide +kernel, rfl, by decide +kernel, by decide +kernel⟩
theorem c__law_loose (T : Txt K mg) (D : Dfn K mg "_law_loose" s__law_loose) (C_law_pick : Cal P w K mg base 2 "_law_pick" ["draws", "things"] (spPick K)) : Cal P w K mg base 3 "_law_loose" ["draws", "items"] spLoose := by
  refine D.cal sc__law_loose (fun _ _ _ _ _ _ us hl => match us, hl with | [_, _], _ => rfl) (fun vs H Q E h => ?_) fun cdv A outer s H vs Q E hr h => ?_
  · obtain ⟨a, l, us, its, rfl, _⟩ := h
    rfl
  obtain ⟨a, l, us, its, rfl, hd, hl, hi, gi, q⟩ := h
  refine ⟨_, (pss_cons (ps_set (i := 2) sc__law_loose.nd rfl (by first | exact Or.inl rfl | exact Or.inr rfl) (pe_lst pa_nil))
      (pss_cons (ps_for PassesOwn.never rfl (pi_list (pv 1)) (pg_name (i := 3) sc__law_loose.nd rfl (by first | exact Or.inl rfl | exact Or.inr rfl))
      (pss_cons (ps_setLc (i := 4) (own := [("leg", 5)]) (g := gName 5) (tt := tYes) rfl sc__law_loose.nd rfl rfl (sw_true rfl rfl rfl rfl) (pi_seq (pv 3)) (blkOk_by (N := ["draws", "items", "found", "item", "legs", "leg"]) (sc := defScope s__law_loose) (by decide +kernel)) (fun _ _ _ _ _ => (pg_name (i := 5) sc__law_loose.nd rfl (by first | exact Or.inl rfl | exact Or.inr rfl))) (fun _ _ _ _ _ => pts_nil) (fun _ _ _ _ _ => (pe_cal C_law_pick hr (by first | decide | omega) (by rfl) (pa_cons (pv 0) (pa_cons (pe_lst (pa_cons (pv 5) (pa_cons (pe_callTy (T := "list") (call_list_ofK K rfl) (by rfl) T.list (by decide +kernel) (pa_cons (pv 5) pa_nil)) pa_nil))) pa_nil)))))
      (pss_one (ps_expr (pe_bm PySem.F.plainAttrs_list PySem.F.slot_list_append PySem.F.type_list_append mt_append (pv 2) (pa_cons (pe_cal C_law_pick hr (by first | decide | omega) (by rfl) (pa_cons (pv 0) (pa_cons (pe_lst (pa_cons (pv 4) (pa_cons (pe_callTy (T := "tuple") call_tuple_of (by rfl) T.tuple (by decide +kernel) (pa_cons (pv 4) pa_nil)) pa_nil))) pa_nil))) pa_nil))))))
      (pss_one (ps_ret (pv 2))))), ?_⟩
  refine ⟨lineN (n := 0), fun f hf => ?_⟩
  have nf := hd.new hf
  have mf : (rm H a) f = none := by rw [rm_ne nf]; exact hf
  have lus : us.length = its.length := by rw [hi.len, List.length_map]
  have lits := gi.1
  try dsimp only
  have h0 : (rm (upd H f (.lst [])) a) l = some (.lst us) := same_set (Same.refl _) mf _ _ hl
  refine ⟨_, rfl, l, rfl, ⟨_, SqL.of (rm_same _ _ h0)⟩, for_it (walk_list (xs := us)) (fun i σ H' => ∃ v3 v4 v5 ws, σ = [some (.ref a), some (.ref l), some (.ref f), v3, v4, v5] ∧ DnAt 0 H' a ∧ Same (rm H a) (rm H' a) ∧ (rm H' a) f = some (.lst ws) ∧ Paired (ItmX f (rm H a) (rm H' a)) ws (its.take i)) ⟨_, _, _, [], rfl, hd.set nf, same_set (Same.refl _) mf, by rw [rm_ne nf, upd_same], .nil⟩ (fun i σ H' _ pp => by
    obtain ⟨_, _, _, _, _, _, s, _⟩ := pp
    exact SqL.of (rm_same _ _ (s _ _ hl))) ?_ ?_⟩
  rotate_left
  · rintro σ H1 ⟨v3, v4, v5, ws, rfl, d1, s1, f1, p1⟩
    rw [lus, List.take_length] at p1
    try dsimp only
    exact ⟨_, rfl, q f H1 ws d1 s1 mf f1 (L2.Paired.mapP p1 fun _ _ h => h.n)⟩
  rintro i u σ H1 H2 hi' ⟨v3, v4, v5, ws, rfl, d1, s1, f1, p1⟩ ⟨rfl, hu⟩
  have li : i < its.length := by omega
  have hit : its[i]? = some its[i] := List.getElem?_eq_getElem li
  generalize its[i] = it at hit
  obtain ⟨gi1, gi2⟩ := gi.2 it (List.mem_of_getElem? hit)
  obtain ⟨d, e1, iv⟩ := hi.get hu
  rw [List.getElem?_map, hit] at e1
  obtain rfl : itD it = d := Option.some.inj e1
  cases iv with
  | tup hv rv zv =>
    rename_i t w0
    have lw : w0.length = it.length := by rw [rv.len, List.length_map]
    have hv1 := rm_same _ _ (s1 _ _ hv)
    dsimp only [gName]
    refine ⟨_, rfl, t, rfl, .inr ⟨⟨_, SqT.of hv1⟩, fun D hD => lc_draw (k := 0) (c := 0) walk_tup at_any it lw.symm (sz (m := 60) (by omega)) hD d1 (fun H' s' => SqT.of (rm_same _ _ (s' _ _ (s1 _ _ hv)))) (fun H' g v => ∃ t, v = V.ref t ∧ t ≠ D ∧ t ≠ f ∧ (H' t = some (.tup (legVs g)) ∨ ((rm H a) t = none ∧ H' t = some (.lst (legVs g))))) (fun _ _ _ _ e ⟨t, x, y, w, z⟩ => ⟨t, x, y, w, z.imp (e _ _) fun z => ⟨z.1, e _ _ z.2⟩⟩) (fun _ _ _ _ _ e ⟨t, x, y, w, z⟩ => ⟨t, x, y, w, by rw [upd_ne y]; exact z⟩)
      (fun j x g H3 A B hj hx hz nD d3 s3 kA => ?_) (fun H3 acc d3 s3 h3 pr => ?_)⟩⟩
    · obtain ⟨dg, e3, iv3⟩ := rv.get hx
      rw [List.getElem?_map, hz] at e3
      obtain rfl : legT g = dg := Option.some.inj e3
      obtain ⟨tg, rfl, htg⟩ := leg_at iv3
      have s13 := s1.trans s3
      have d3 : DnAt 0 H3 a := d3
      have hg3 := s13 _ _ htg
      have hg3' := rm_same _ _ hg3
      refine ⟨rfl, ?_⟩
      simp only [tYes, if_true]
      refine ⟨_, rfl, _, rfl, _, rfl, tg, legVs g, rfl, .inr (SqT.of hg3'), fun p hp => ?_⟩
      have np := d3.new hp
      have d4 : DnAt 0 (upd H3 p (.lst (legVs g))) a := d3.set np
      have mp : (rm H3 a) p = none := by rw [rm_ne np]; exact hp
      have s4 : Same (rm H3 a) (rm (upd H3 p (.lst (legVs g))) a) := same_set (Same.refl _) mp
      have e4 : (rm (upd H3 p (.lst (legVs g))) a) p = some (.lst (legVs g)) := by rw [rm_ne np, upd_same]
      generalize upd H3 p (.lst (legVs g)) = H4 at d4 s4 e4 ⊢
      refine ⟨lineN (n := 2), fun lo hlo => ?_⟩
      have nlo := d4.new hlo
      have d5 : DnAt 0 (upd H4 lo (.lst [.ref tg, .ref p])) a := d4.set nlo
      have s5 : Same (rm H4 a) (rm (upd H4 lo (.lst [.ref tg, .ref p])) a) := same_set (Same.refl _) (by rw [rm_ne nlo]; exact hlo)
      have e5 : (upd H4 lo (.lst [.ref tg, .ref p])) lo = some (.lst [.ref tg, .ref p]) := upd_same
      generalize upd H4 lo _ = H5 at d5 s5 e5 ⊢
      refine ⟨a, lo, _, 0, rfl, d5, by decide, nlo, .inl (SqL.of e5), by show 1 ≤ 2; decide, by show 2 < 1073741824; decide, fun k v o hv ho => ?_⟩
      have s6 := s4.trans (s5.trans (rm_put (o := o)))
      have f3 := s3 _ _ f1
      refine kA v _ (DnAt.put (n := 0) ho) s6 ?_
      have m := List.mem_of_getElem? hv
      simp only [List.mem_cons, List.not_mem_nil, or_false] at m
      rcases m with rfl | rfl
      · refine ⟨tg, rfl, fun z => ?_, fun z => ?_, .inl (s6 _ _ hg3)⟩
        · rw [z] at htg
          have := rm_same _ _ (s1 _ _ htg)
          rw [hD] at this
          cases this
        · rw [z, mf] at htg
          cases htg
      · refine ⟨p, rfl, fun z => ?_, fun z => ?_, .inr ⟨?_, (s5.trans rm_put) _ _ e4⟩⟩
        · rw [z] at hp
          exact nD hp
        · rw [z, rm_same _ _ f3] at hp
          cases hp
        · cases e : rm H a p with
          | none => rfl
          | some o2 =>
            rw [s13 _ _ e] at mp
            cases mp
    · have d3 : DnAt 0 H3 a := d3
      have nDa : D ≠ a := d1.new hD
      have f3 := s3 _ _ f1
      have f3' := rm_same _ _ f3
      have nDf : D ≠ f := fun z => by rw [z, rm_same _ _ f1] at hD; cases hD
      have mD : (rm H a) D = none := by
        cases e : rm H a D with
        | none => rfl
        | some o2 =>
          have := rm_same _ _ (s1 _ _ e)
          rw [hD] at this
          cases this
      try dsimp only
      refine ⟨_, rfl, .inl ⟨rfl, _, SqL.of f3'⟩, _, rfl, _, rfl, _, rfl, D, acc, rfl, .inl ⟨SqL.of h3, fun t2 ht2 => ?_⟩⟩
      have nt := d3.new ht2
      have d4 : DnAt 0 (upd H3 t2 (.tup acc)) a := d3.set nt
      have s4 : Same (rm H3 a) (rm (upd H3 t2 (.tup acc)) a) := same_set (Same.refl _) (by rw [rm_ne nt]; exact ht2)
      have e4 : (rm (upd H3 t2 (.tup acc)) a) t2 = some (.tup acc) := by rw [rm_ne nt, upd_same]
      have ntf : t2 ≠ f := fun z => by rw [z, f3'] at ht2; cases ht2
      generalize upd H3 t2 (.tup acc) = H4 at d4 s4 e4 ⊢
      refine ⟨lineN (n := 2), fun lo hlo => ?_⟩
      have nlo := d4.new hlo
      have d5 : DnAt 0 (upd H4 lo (.lst [.ref D, .ref t2])) a := d4.set nlo
      have s5 : Same (rm H4 a) (rm (upd H4 lo (.lst [.ref D, .ref t2])) a) := same_set (Same.refl _) (by rw [rm_ne nlo]; exact hlo)
      have e5 : (upd H4 lo (.lst [.ref D, .ref t2])) lo = some (.lst [.ref D, .ref t2]) := upd_same
      generalize upd H4 lo _ = H5 at d5 s5 e5 ⊢
      refine ⟨a, lo, _, 0, rfl, d5, by decide, nlo, .inl (SqL.of e5), by show 1 ≤ 2; decide, by show 2 < 1073741824; decide, fun k v o hv ho => ?_⟩
      delta tNil
      dsimp only
      have d6 : DnAt 0 (upd H5 a o) a := DnAt.put (n := 0) ho
      have s6 : Same (rm H3 a) (rm (upd H5 a o) a) := s4.trans (s5.trans rm_put)
      have s7 : Same (rm H4 a) (rm (upd H5 a o) a) := s5.trans rm_put
      generalize upd H5 a o = H6 at d6 s6 s7 ⊢
      have f6 := s6 _ _ f3
      have lws : ws.length ≤ 12 := by
        rw [Paired.length p1, List.length_take]
        omega
      have h3r : (rm H3 a) D = some (.lst acc) := by rw [rm_ne nDa]; exact h3
      refine ⟨f, ws, v, rfl, rfl, rm_same _ _ f6, sz (m := 60) (by omega), ⟨_, _, _, ws ++ [v], rfl, d6.set nf, ?_, by rw [rm_ne nf, upd_same], ?_⟩⟩
      · exact same_set (s1.trans (s3.trans s6)) mf
      rw [List.take_add_one, hit, rm_set nf]
      have legs : Paired (LegX f (rm H a) (rm H6 a)) acc it := L2.Paired.mapP pr fun _ _ ⟨t, x, y, w, z⟩ => ⟨t, x, w, z.imp (s6 _ _) fun z => ⟨z.1, s6 _ _ z.2⟩⟩
      refine Sr.Paired.snoc (F := ItmX f (rm H a) (upd (rm H6 a) f (.lst (ws ++ [v])))) (ItmX.put ?_) (L2.Paired.mapP p1 fun _ _ h => (h.mono (s3.trans s6)).put)
      have m := List.mem_of_getElem? hv
      simp only [List.mem_cons, List.not_mem_nil, or_false] at m
      rcases m with rfl | rfl
      · exact ⟨D, acc, rfl, nDf, .inr ⟨mD, s6 _ _ h3r⟩, legs⟩
      · exact ⟨t2, acc, rfl, ntf, .inl (s7 _ _ e4), legs⟩
end
end K31

set_option Elab.async false
set_option linter.all false
set_option maxRecDepth 100000
set_option maxHeartbeats 4000000
namespace K31
open PySem PySem.Spec PyProof.Rows L2 Sr
theorem HldR.apart {H : Hp} {kv kr : List (Key × V)} {hs : Hs} {r : Rw} {a d : Addr} (h : HldR H kv hs) (ne : kv ≠ []) (ha : H a = some (.dK kv)) (hd : H d = some (.dK kr)) (cc : CoinsC kr r) : d ≠ a := fun z => by
  rw [z, ha] at hd
  cases hd
  cases h with
  | nil => exact ne rfl
  | cons x _ =>
    obtain ⟨_, d2, kr2, a1, _⟩ := x
    cases cc with
    | cons b _ =>
      have b2 := b.2
      rw [a1] at b2
      cases b2
theorem dp_strs {K : PySem.W.Frag} {H : Hp} : ∀ ns : List Str, DpAll K H (ns.map V.str) (ns.map PyData.str)
  | [] => .nil
  | s :: r => .cons (.str s) (dp_strs r)
theorem lay_strs : ∀ ns : List Str, (∀ s ∈ ns, nameOk (.str s) = true) → PyData.canLayAll0 (ns.map PyData.str) = true ∧ PyData.depthAll (ns.map PyData.str) ≤ 0
  | [], _ => ⟨rfl, Nat.le_refl _⟩
  | s :: r, h => by
    obtain ⟨h1, h2⟩ := lay_strs r fun x m => h x (List.mem_cons_of_mem _ m)
    refine ⟨?_, ?_⟩
    · show (PyData.canLay0 (.str s) && PyData.canLayAll0 (r.map PyData.str)) = true
      rw [h1, name_lay (h s List.mem_cons_self)]
      rfl
    · show max (PyData.depth (.str s)) (PyData.depthAll (r.map PyData.str)) ≤ 0
      have : PyData.depth (.str s) = 0 := rfl
      omega
theorem shaped_strs (ns : List Str) (h : ∀ s ∈ ns, nameOk (.str s) = true) : SeqAt.shaped (.list (ns.map PyData.str)) = true := by
  obtain ⟨h1, h2⟩ := lay_strs ns h
  have hd : PyData.depth (.list (ns.map PyData.str)) ≤ 64 := by
    show PyData.depthAll (ns.map PyData.str) + 1 ≤ 64
    omega
  unfold SeqAt.shaped
  rw [decide_eq_true hd, Bool.and_true]
  exact h1
theorem strs_self (ys : List Str) : PyData.eqv (.list (ys.map PyData.str)) (.list (ys.map PyData.str)) = true := by
  show PyData.eqvAll (ys.map PyData.str) (ys.map PyData.str) = true
  induction ys with
  | nil => rfl
  | cons y r ih =>
    show ((y == y) && PyData.eqvAll (r.map PyData.str) (r.map PyData.str)) = true
    rw [ih, beq_self_eq_true]
    rfl
def spIsHeld : Sp := fun vs H Q _ => ∃ (sd hd : Addr) (ks kh : List (Key × V)) (hs hs' : Hs), vs = [.ref sd, .ref hd] ∧ H sd = some (.dK ks) ∧ HldR H ks hs' ∧ H hd = some (.dK kh) ∧ HldR H kh hs ∧ goodH hs ∧ (∀ h, Can hs h → h = hs') ∧ ∀ H', Same H H' → Q (.bl true) H'
section
variable {P : Program} {w : World} {K : PySem.W.Frag} {mg : Str → Option Value} {base : Heap}
abbrev s__law_is_held : Stmt := top 30
theorem sc__law_is_held : FnScope ["seen", "holdings", "due", "member", "row", "other", "thing"] ["seen", "holdings"] (defScope s__law_is_held) := ⟨rfl, rfl, rfl, by decide +kernel, rfl, by decide +kernel, by decide +kernel⟩
theorem c__law_is_held (T : Txt K mg) (D : Dfn K mg "_law_is_held" s__law_is_held) (C_law_held : Cal P w K mg base 1 "_law_held" ["holdings"] spToldH) : Cal P w K mg base 2 "_law_is_held" ["seen", "holdings"] spIsHeld := by
  refine D.cal sc__law_is_held (fun _ _ _ _ _ _ us hl => match us, hl with | [_, _], _ => rfl) (fun vs H Q E h => ?_) fun cdv A outer s H vs Q E hr h => ?_
  · obtain ⟨sd, hd, ks, kh, hs, hs', rfl, _⟩ := h
    rfl
  obtain ⟨sd, hd, ks, kh, hs, hs', rfl, h1, h2, h3, h4, g, can, q⟩ := h
  refine ⟨_, (pss_cons (ps_set (i := 2) sc__law_is_held.nd rfl (by first | exact Or.inl rfl | exact Or.inr rfl) (pe_cal C_law_held hr (by first | decide | omega) (by rfl) (pa_cons (pv 1) pa_nil)))
      (pss_cons (ps_if (PW.pt (pw_or (pt_not (pt_val (pe_callB (id := "isinstance") call_isi (by rfl) T.isinstance (by decide +kernel) (pa_cons (pv 0) (pa_cons (pe_tyv (n := "dict") (by rfl) T.dict (by decide +kernel)) pa_nil))))) (pw_or1 (pt_cmpR (op_neD hr.units) (pe_callTy (T := "list") (call_list_dK rfl) (by rfl) T.list (by decide +kernel) (pa_cons (pv 0) pa_nil)) (pe_callTy (T := "list") (call_list_dK rfl) (by rfl) T.list (by decide +kernel) (pa_cons (pv 2) pa_nil)) (nomark _))))) (pss_one (ps_ret pe_bl)) pss_nil)
      (pss_cons (ps_lock (ps_for PassesOwn.never rfl (pi_keys (pv 2)) (pg_name (i := 3) sc__law_is_held.nd rfl (by first | exact Or.inl rfl | exact Or.inr rfl))
      (pss_cons (ps_asg (pe_tup (pa_cons (pe_dget (hu_of hr) (pv 0) (pv 3) (fun _ _ => rfl)) (pa_cons (pe_dget (hu_of hr) (pv 2) (pv 3) (fun _ _ => rfl)) pa_nil))) (pg_tup rfl (pgs_cons (pg_name (i := 4) sc__law_is_held.nd rfl (by first | exact Or.inl rfl | exact Or.inr rfl)) (pgs_cons (pg_name (i := 5) sc__law_is_held.nd rfl (by first | exact Or.inl rfl | exact Or.inr rfl)) pgs_nil))))
      (pss_cons (ps_if (PW.pt (pw_or (pt_not (pt_val (pe_callB (id := "isinstance") call_isi (by rfl) T.isinstance (by decide +kernel) (pa_cons (pv 4) (pa_cons (pe_tyv (n := "dict") (by rfl) T.dict (by decide +kernel)) pa_nil))))) (pw_or1 (pt_cmpR (op_neD hr.units) (pe_callTy (T := "list") (call_list_dK rfl) (by rfl) T.list (by decide +kernel) (pa_cons (pv 4) pa_nil)) (pe_callTy (T := "list") (call_list_dK rfl) (by rfl) T.list (by decide +kernel) (pa_cons (pv 5) pa_nil)) (nomark _))))) (pss_one (ps_ret pe_bl)) pss_nil)
      (pss_one (ps_if (pt_val (pe_callB (id := "any") (cr_any rfl) (by rfl) T.any (by decide +kernel) (pa_cons (pe_lock (pe_lc (own := [("thing", 6)]) (g := gName 6) (tt := tYes) rfl sc__law_is_held.nd (pi_keys (pv 5)) (blkOk_by (N := ["seen", "holdings", "due", "member", "row", "other", "thing"]) (sc := defScope s__law_is_held) (by decide +kernel)) (fun _ _ _ _ _ => (pg_name (i := 6) sc__law_is_held.nd rfl (by first | exact Or.inl rfl | exact Or.inr rfl))) (fun _ _ _ _ _ => pts_nil) (fun _ _ _ _ _ => (pe_cmpR op_ne (pe_dget (hu_of hr) (pv 4) (pv 6) (fun _ _ => rfl)) (pe_dget (hu_of hr) (pv 5) (pv 6) (fun _ _ => rfl)) (nomark _))))) pa_nil))) (pss_one (ps_ret pe_bl)) pss_nil))))))
      (pss_one (ps_ret pe_bl))))), ?_⟩
  refine ⟨_, rfl, hd, kh, hs, rfl, h3, h4, g, fun H1 p tk hs2 s1 hp hp1 hn c2 => ?_⟩
  obtain rfl := can _ c2
  have gc := can_good c2 g
  have es : (ks.map fun kv => kV kv.1) = (hs2.map (·.1)).map V.str := (keys_names (F := fun v (r : Rw) => ∃ d kr, v = .ref d ∧ H d = some (.dK kr) ∧ CoinsC kr r) h2).1
  have hn1 : HldR H1 tk hs2 := hn.mono new_same
  have et : (tk.map fun kv => kV kv.1) = (hs2.map (·.1)).map V.str := (keys_names (F := fun v (r : Rw) => ∃ d kr, v = .ref d ∧ H1 d = some (.dK kr) ∧ CoinsC kr r) hn1).1
  have okn : ∀ s ∈ hs2.map (·.1), nameOk (.str s) = true := fun s m => by
    obtain ⟨q, mq, rfl⟩ := List.mem_map.mp m
    exact (gc.2.2 q mq).1
  refine ⟨_, rfl, _, _, _, _, _, rfl, .ty _, .base (.dK (s1 _ _ h1)), kit_ty (show kitB "dict" "dict" = some true by decide +kernel), _, rfl, iteF ?_⟩
  refine ⟨_, rfl, sd, ks, rfl, s1 _ _ h1, fun q1 hq1 => ?_⟩
  have s2 := Same.up (o := .lst (ks.map fun kv => kV kv.1)) hq1
  refine ⟨_, rfl, p, tk, rfl, s2 _ _ hp1, fun q2 hq2 => ?_⟩
  have s3 := Same.up (o := .lst (tk.map fun kv => kV kv.1)) hq2
  have e0 : (upd H1 q1 (.lst (ks.map fun kv => kV kv.1))) q1 = some (.lst (ks.map fun kv => kV kv.1)) := upd_same
  have e1 := s3 _ _ e0
  have s13 := s2.trans s3
  have e2 : (upd (upd H1 q1 (.lst (ks.map fun kv => kV kv.1))) q2 (.lst (tk.map fun kv => kV kv.1))) q2 = some (.lst (tk.map fun kv => kV kv.1)) := upd_same
  generalize upd (upd H1 q1 _) q2 _ = H3 at e1 s13 e2 ⊢
  rw [es] at e1
  rw [et] at e2
  refine ⟨.list _, .list _, .lst (SqL.of e1) (dp_strs _), .lst (SqL.of e2) (dp_strs _), shaped_strs _ okn, shaped_strs _ okn, _, rfl, ?_⟩
  rw [strs_self]
  refine iteF ?_
  try dsimp only
  have hp3 := s13 _ _ hp1
  have lt : tk.length = hs2.length := Paired.length hn
  have nd := keys_nd (F := fun v (r : Rw) => ∃ d kr, v = .ref d ∧ H1 d = some (.dK kr) ∧ CoinsC kr r) hn1 gc.1
  refine ⟨p, _, hp3, trivial, fun od => ?_⟩
  have hF : (upd H3 p (.frz od (.dK tk))) p = some (.frz od (.dK tk)) := upd_same
  have fz : ∀ b o, b ≠ p → H3 b = some o → (upd H3 p (.frz od (.dK tk))) b = some o := fun b o n e => by rw [upd_ne n]; exact e
  have bk : ∀ {H'}, Same (upd H3 p (.frz od (.dK tk))) H' → Same H3 (upd H' p (.dK tk)) := fun s => back_of hp3 s
  generalize upd H3 p (.frz od (.dK tk)) = F at hF bk fz ⊢
  have npH : ∀ {b : Addr} {o : HO}, H b = some o → b ≠ p := fun e z => by rw [z, hp] at e; cases e
  refine ⟨_, rfl, p, od, rfl, .inl ⟨tk, hF, for_it walk_keys (fun i σ H' => (∃ v3 v4 v5 v6, σ = [some (.ref sd), some (.ref hd), some (.ref p), v3, v4, v5, v6]) ∧ Same F H') ⟨⟨_, _, _, _, rfl⟩, Same.refl _⟩ (fun i σ H' hi p => p.2 _ _ hF) ?_ ?_⟩⟩
  rotate_left
  · rintro σ H4 ⟨⟨v3, v4, v5, v6, rfl⟩, s4⟩
    try dsimp only
    exact ⟨s4 _ _ hF, q _ ((s1.trans s13).trans (bk s4))⟩
  rintro i u σ H4 H5 hi ⟨⟨v3, v4, v5, v6, rfl⟩, s4⟩ ⟨rfl, k, v, hk, rfl⟩
  obtain ⟨y, hy⟩ : ∃ y, hs2[i]? = some y := ⟨hs2[i]'(by omega), List.getElem?_eq_getElem (by omega)⟩
  obtain ⟨ek, d, kr, ev, hdd, cc⟩ := Paired.at2 hn hk hy
  have ek : k = Sum.inr y.1 := ek
  have ev : v = .ref d := ev
  subst ek
  subst ev
  have vv : valV tk (Sum.inr y.1) = some (.ref d) := val_nodup nd _ (List.mem_of_getElem? hk)
  have my : y.1 ∈ hs2.map (·.1) := List.mem_map.mpr ⟨y, List.mem_of_getElem? hy, rfl⟩
  obtain ⟨d0, kr0, ev0, hd0, cc0, gr0⟩ := h2.get gc my
  have ey : gR hs2 y.1 = y.2 := by
    unfold gR
    rw [mem_look gc.1 (List.mem_of_getElem? hy)]
    rfl
  rw [ey] at cc0 gr0
  dsimp only [gName]
  refine ⟨_, rfl, _, rfl, sd, .ref d0, rfl, .inl ⟨ks, Sum.inr y.1, .inl (s4 _ _ (fz _ _ (npH h1) ((s1.trans s13) _ _ h1))), rfl, ev0.symm⟩, ?_⟩
  refine ⟨_, rfl, _, rfl, p, .ref d, rfl, .inl ⟨tk, Sum.inr y.1, .inr ⟨od, s4 _ _ hF⟩, rfl, vv.symm⟩, two_line, fun t2 ht2 => ?_⟩
  have s5 := Same.up (o := .tup [.ref d0, .ref d]) ht2
  refine ⟨t2, _, rfl, SqT.of upd_same, rfl, _, _, rfl, _, _, rfl, rfl, ?_⟩
  try dsimp only
  have hd5 : F d = some (.dK kr) → True := fun _ => trivial
  have e1 := s5 _ _ (s4 _ _ (fz _ _ (npH h1) ((s1.trans s13) _ _ h1)))
  have ed0 := s5 _ _ (s4 _ _ (fz _ _ (npH hd0) ((s1.trans s13) _ _ hd0)))
  have ed := s5 _ _ (s4 _ _ (fz d _ (fun z => by
    have h1 := new_same _ _ hdd
    rw [z, hp1] at h1
    cases h1
    obtain ⟨c, hc⟩ : ∃ c, y.2[i]? = some c := by
      have h2 := (List.getElem?_eq_some_iff.mp hk).1
      have h3 := Paired.length cc
      exact ⟨y.2[i]'(by omega), List.getElem?_eq_getElem (by omega)⟩
    have := (Paired.at2 cc hk hc).2
    cases this) (s13 _ _ (new_same _ _ hdd))))
  generalize upd H5 t2 _ = G at s5 e1 ed0 ed ⊢
  have er0 : (kr0.map fun kv => kV kv.1) = (y.2.map (·.1)).map V.str := (keys_names (F := fun v i => v = V.int i) cc0).1
  have er : (kr.map fun kv => kV kv.1) = (y.2.map (·.1)).map V.str := (keys_names (F := fun v i => v = V.int i) cc).1
  have okr : ∀ s ∈ y.2.map (·.1), nameOk (.str s) = true := fun s m => by
    obtain ⟨q, mq, rfl⟩ := List.mem_map.mp m
    exact (gr0.2.2 q mq).1
  refine ⟨_, rfl, _, _, _, _, _, rfl, .ty _, .base (.dK ed0), kit_ty (show kitB "dict" "dict" = some true by decide +kernel), _, rfl, iteF ?_⟩
  refine ⟨_, rfl, d0, kr0, rfl, ed0, fun q1 hq1 => ?_⟩
  have s6 := Same.up (o := .lst (kr0.map fun kv => kV kv.1)) hq1
  refine ⟨_, rfl, d, kr, rfl, s6 _ _ ed, fun q2 hq2 => ?_⟩
  have s7 := Same.up (o := .lst (kr.map fun kv => kV kv.1)) hq2
  have f0 : (upd G q1 (.lst (kr0.map fun kv => kV kv.1))) q1 = some (.lst (kr0.map fun kv => kV kv.1)) := upd_same
  have f1 := s7 _ _ f0
  have s67 := s6.trans s7
  have f2 : (upd (upd G q1 (.lst (kr0.map fun kv => kV kv.1))) q2 (.lst (kr.map fun kv => kV kv.1))) q2 = some (.lst (kr.map fun kv => kV kv.1)) := upd_same
  generalize upd (upd G q1 _) q2 _ = G3 at f1 s67 f2 ⊢
  rw [er0] at f1
  rw [er] at f2
  refine ⟨.list _, .list _, .lst (SqL.of f1) (dp_strs _), .lst (SqL.of f2) (dp_strs _), shaped_strs _ okr, shaped_strs _ okr, _, rfl, ?_⟩
  rw [strs_self]
  refine iteF ?_
  try dsimp only
  have nd0d : d0 ≠ d := fun z => by
    have := hdd
    rw [← z] at this
    have := new_no this
    rw [this] at hd0
    cases hd0
  have lr : kr.length = y.2.length := Paired.length cc
  have nr := keys_nd (F := fun v i => v = V.int i) cc gr0.1
  refine ⟨d, _, s67 _ _ ed, trivial, fun od2 => ?_⟩
  have hF2 : (upd G3 d (.frz od2 (.dK kr))) d = some (.frz od2 (.dK kr)) := upd_same
  have ed0' : (upd G3 d (.frz od2 (.dK kr))) d0 = some (.dK kr0) := by rw [upd_ne nd0d]; exact s67 _ _ ed0
  have bk2 : ∀ {H'}, Same (upd G3 d (.frz od2 (.dK kr))) H' → Same G3 (upd H' d (.dK kr)) := fun s => back_of (s67 _ _ ed) s
  generalize upd G3 d (.frz od2 (.dK kr)) = F2 at hF2 ed0' bk2 ⊢
  refine ⟨_, rfl, d, od2, rfl, .inl ⟨kr, hF2, fun B hB => lc_f walk_keys (At := fun i _ x => ∃ k v, kr[i]? = some (k, v) ∧ x = kV k) (fun _ _ _ _ y => y) y.2 (fun _ => V.bl false) lr.symm (sz (m := 60) (by rw [lr]; have := gr0.2.1; omega)) hB (fun H' s' => s' _ _ hF2) (fun j u z H6 A lj hu hz s6 kA => ?_) (fun H6 s6 h6 => ?_)⟩⟩
  · obtain ⟨k, v, hk2, rfl⟩ := hu
    obtain ⟨ek, ev⟩ := Paired.at2 cc hk2 hz
    have ek : k = Sum.inr z.1 := ek
    have ev : v = .int z.2 := ev
    subst ek
    subst ev
    have mz : z.1 ∈ y.2.map (·.1) := List.mem_map.mpr ⟨z, List.mem_of_getElem? hz, rfl⟩
    have v2 : valV kr (Sum.inr z.1) = some (.int z.2) := val_nodup nr _ (List.mem_of_getElem? hk2)
    have v1 := cc0.get mz
    have v2' := cc.get mz
    rw [v2] at v2'
    have e3 : z.2 = gC y.2 z.1 := by injection v2' with e; injection e
    rw [← e3] at v1
    refine ⟨rfl, ?_⟩
    refine ⟨_, rfl, _, rfl, d0, _, rfl, .inl ⟨kr0, Sum.inr z.1, .inl (s6 _ _ ed0'), rfl, v1.symm⟩, _, rfl, _, rfl, d, _, rfl, .inl ⟨kr, Sum.inr z.1, .inr ⟨od2, s6 _ _ hF2⟩, rfl, v2.symm⟩, ?_⟩
    refine ⟨rfl, ?_⟩
    rw [decide_eq_true rfl]
    exact kA _ (Same.refl _)
  · refine ⟨s6 _ _ hF2, B, y.2.map fun _ => false, rfl, SqL.of ?_, _, rfl, ?_⟩
    · have nB : B ≠ d := fun z => by
        rw [z, hF2] at hB
        cases hB
      rw [upd_ne nB, h6, List.map_map]
      rfl
    rw [show (y.2.map fun _ => false).any id = false from by rw [List.any_map]; exact List.any_eq_false.mpr fun _ _ => Bool.false_ne_true]
    exact iteF ⟨⟨_, _, _, _, rfl⟩, s4.trans (s5.trans (s67.trans (bk2 s6)))⟩
end
end K31

set_option Elab.async false
set_option linter.all false
set_option maxRecDepth 100000
set_option maxHeartbeats 4000000
namespace K31
open PySem PySem.Spec PyProof.Rows L2 Sr
/-! ### drawn holdings -/
def coinx : List Str := ["coin", "x"]
def drawnR (r : Rw) : Prop := (r.map (·.1)).Nodup ∧ r.length ≤ 2 ∧ ∀ p ∈ r, p.1 ∈ coinx ∧ 0 ≤ p.2
def drawnH (hs : Hs) : Prop := (hs.map (·.1)).Nodup ∧ hs.length ≤ 3 ∧ ∀ p ∈ hs, p.1 ∈ abc ∧ drawnR p.2
theorem pairs_int2 {K : PySem.W.Frag} {H : Hp} : ∀ {acc : List V} {r : Rw}, Paired (fun v (q : Str × Int) => ∃ t, v = V.ref t ∧ H t = some (.tup [.str q.1, .int q.2])) acc r → ∃ (ts : List Addr) (kvs : List (Key × V)), acc = ts.map V.ref ∧ Paired (fun p kv => SqT K H p [kV kv.1, kv.2]) ts kvs ∧ CoinsC kvs r
  | _, _, .nil => ⟨[], [], rfl, .nil, .nil⟩
  | _, _, .cons (b := q) h r => by
    obtain ⟨ts, kvs, e1, e2, e3⟩ := pairs_int2 (K := K) r
    obtain ⟨t, h1, h2⟩ := h
    exact ⟨t :: ts, (Sum.inr q.1, .int q.2) :: kvs, by rw [h1, e1]; rfl, .cons (SqT.of h2) e2, .cons ⟨rfl, rfl⟩ e3⟩
theorem pair_mono {H H' : Hp} (s : ∀ b xs, H b = some (.tup xs) → H' b = some (.tup xs)) {acc : List V} {r : Rw} (h : Paired (fun v (q : Str × Int) => ∃ t, v = V.ref t ∧ H t = some (.tup [.str q.1, .int q.2])) acc r) : Paired (fun v (q : Str × Int) => ∃ t, v = V.ref t ∧ H' t = some (.tup [.str q.1, .int q.2])) acc r :=
  L2.Paired.mapP h fun _ _ ⟨t, e, x⟩ => ⟨t, e, s _ _ x⟩
theorem take_nd {zs : List Str} (nd : zs.Nodup) {i : Nat} {y : Str} (h : zs[i]? = some y) : y ∉ zs.take i := fun m => by
  obtain ⟨b, hb, eb⟩ := List.mem_take_iff_getElem.mp m
  have hi' : i < zs.length := (List.getElem?_eq_some_iff.mp h).1
  have e4 : zs[i] = y := (List.getElem?_eq_some_iff.mp h).2
  exact (List.pairwise_iff_getElem.mp nd) b i (by omega) hi' (by omega) (eb.trans e4.symm)
def spSomeH : Sp := fun vs H Q _ => ∃ (a : Addr), vs = [.ref a] ∧ DnAt 0 H a ∧
  ∀ (p : Addr) (H' : Hp) (kv : List (Key × V)) (hs : Hs), DnAt 0 H' a → Same (rm H a) (rm H' a) → (rm H a) p = none → (rm H' a) p = some (.dK kv) → HldR (rm H' a) kv hs → drawnH hs → Q (.ref p) H'
section
variable {P : Program} {w : World} {K : PySem.W.Frag} {mg : Str → Option Value} {base : Heap}
abbrev s__law_some_holdings : Stmt := top 27
theorem sc__law_some_holdings : FnScope ["draws", "found", "member", "row", "thing"] ["draws"] (defScope s__law_some_holdings) := ⟨rfl, rfl, rfl, by decide +kernel, rfl, by decide +kernel, by decide +kernel⟩
theorem c__law_some_holdings (T : Txt K mg) (D : Dfn K mg "_law_some_holdings" s__law_some_holdings) (C_law_draw : Cal P w K mg base 1 "_law_draw" ["draws", "many"] spDraw) (C_law_pick : Cal P w K mg base 2 "_law_pick" ["draws", "things"] (spPick K)) (C_law_mixed : Cal P w K mg base 2 "_law_mixed" ["draws", "things"] spMix) : Cal P w K mg base 3 "_law_some_holdings" ["draws"] spSomeH := by
  refine D.cal sc__law_some_holdings (fun _ _ _ _ _ _ us hl => match us, hl with | [_], _ => rfl) (fun vs H Q E h => ?_) fun cdv A outer s H vs Q E hr h => ?_
  · obtain ⟨a, rfl, _⟩ := h
    rfl
  obtain ⟨a, rfl, hd, q⟩ := h
  refine ⟨_, (pss_cons (ps_set (i := 1) sc__law_some_holdings.nd rfl (by first | exact Or.inl rfl | exact Or.inr rfl) pe_dnewK)
      (pss_cons (ps_for PassesOwn.never rfl (pi_list (pe_cal C_law_mixed hr (by first | decide | omega) (by rfl) (pa_cons (pv 0) (pa_cons (pe_lst (pa_cons pe_str (pa_cons pe_str (pa_cons pe_str pa_nil)))) pa_nil)))) (pg_name (i := 2) sc__law_some_holdings.nd rfl (by first | exact Or.inl rfl | exact Or.inr rfl))
      (pss_cons (ps_set (i := 3) sc__law_some_holdings.nd rfl (by first | exact Or.inl rfl | exact Or.inr rfl) (pe_callTy (T := "dict") (call_dictP rfl) (by rfl) T.dict (by decide +kernel) (pa_cons (pe_lc (own := [("thing", 4)]) (g := gName 4) rfl sc__law_some_holdings.nd (pi_tup (pe_tup (pa_cons pe_str (pa_cons pe_str pa_nil)))) (blkOk_by (N := ["draws", "found", "member", "row", "thing"]) (sc := defScope s__law_some_holdings) (by decide +kernel)) (fun _ _ _ _ _ => (pg_name (i := 4) sc__law_some_holdings.nd rfl (by first | exact Or.inl rfl | exact Or.inr rfl))) (fun _ _ _ _ _ => (pts_one (pt_cmpR op_gt (pe_cal C_law_draw hr (by first | decide | omega) (by rfl) (pa_cons (pv 0) (pa_cons pe_int pa_nil))) pe_int (nomark _)))) (fun _ _ _ _ _ => (pe_tup (pa_cons (pv 4) (pa_cons (pe_cal C_law_pick hr (by first | decide | omega) (by rfl) (pa_cons (pv 0) (pa_cons (pe_lst (pa_cons pe_int (pa_cons pe_int (pa_cons pe_int (pa_cons pe_int (pa_cons pe_int pa_nil)))))) pa_nil))) pa_nil))))) pa_nil)))
      (pss_one (ps_if (PW.pt (pw_or (pt_cmpR (op_neDc hr.units) (pv 3) pe_dnewK (nomark _)) (pw_or1 (pt_cmpR op_eq (pe_cal C_law_draw hr (by first | decide | omega) (by rfl) (pa_cons (pv 0) (pa_cons pe_int pa_nil))) pe_int (nomark _))))) (pss_one (ps_dput (hu_of hr) (pv 1) (pv 2) (pv 3) rfl)) pss_nil))))
      (pss_one (ps_ret (pv 1))))), ?_⟩
  refine fun p hp => ?_
  have np := hd.new hp
  have mp : (rm H a) p = none := by rw [rm_ne np]; exact hp
  try dsimp only
  have d1 : DnAt 0 (upd H p (.dK [])) a := hd.set np
  have s1 : Same (rm H a) (rm (upd H p (.dK [])) a) := same_set (Same.refl _) mp
  have e1 : (rm (upd H p (.dK [])) a) p = some (.dK []) := by rw [rm_ne np, upd_same]
  generalize upd H p (.dK []) = H1 at d1 s1 e1 ⊢
  refine ⟨_, rfl, lineN (n := 3), fun lo hlo => ?_⟩
  have nlo := d1.new hlo
  have d2 : DnAt 0 (upd H1 lo (.lst [.str "a", .str "b", .str "c"])) a := d1.set nlo
  have s2 : Same (rm H1 a) (rm (upd H1 lo (.lst [.str "a", .str "b", .str "c"])) a) := same_set (Same.refl _) (by rw [rm_ne nlo]; exact hlo)
  have e2 : (rm (upd H1 lo (.lst [.str "a", .str "b", .str "c"])) a) lo = some (.lst (abc.map V.str)) := by rw [rm_ne nlo, upd_same]; rfl
  generalize upd H1 lo _ = H2 at d2 s2 e2 ⊢
  refine ⟨a, lo, abc.map V.str, 0, rfl, d2, by decide, e2, by decide, fun k H3 ys d3 s3 k0 hk3 pm => ?_⟩
  obtain ⟨zs, rfl, pz⟩ := perm_map pm
  have lz : zs.length = 3 := pz.length_eq
  have nz : zs.Nodup := pz.nodup_iff.mpr (by decide +kernel)
  have mz : ∀ z ∈ zs, z ∈ abc := fun z m => pz.mem_iff.mp m
  have d3 : DnAt 0 H3 a := d3
  have s13 := s1.trans (s2.trans s3)
  have e3 := s3 _ _ (s2 _ _ e1)
  have nkp : k ≠ p := fun z => by rw [z, e3] at hk3; cases hk3
  have nka := rm_dif hk3
  refine ⟨k, rfl, ⟨_, SqL.of (rm_same _ _ hk3)⟩, for_it walk_list (fun i σ H' => (∃ v2 v3 v4, σ = [some (.ref a), some (.ref p), v2, v3, v4]) ∧ DnAt 0 H' a ∧ Same (rm H a) (rm H' a) ∧ (rm H' a) k = some (.lst (zs.map V.str)) ∧ ∃ tk hs, (rm H' a) p = some (.dK tk) ∧ (hs.map (·.1)).Sublist (zs.take i) ∧ (∀ q ∈ hs, drawnR q.2) ∧ TkR (rm H a) p (rm H' a) tk hs) ⟨⟨_, _, _, rfl⟩, d3, s13, hk3, [], [], e3, List.nil_sublist _, fun q m => (by cases m), .nil⟩ (fun i σ H' _ pp => SqL.of (rm_same _ _ pp.2.2.2.1)) ?_ ?_⟩
  rotate_left
  · rintro σ H4 ⟨⟨v2, v3, v4, rfl⟩, d4, s4, hk4, tk, hs, hp4, sub, gr, tr⟩
    rw [List.length_map, List.take_length] at sub
    try dsimp only
    refine ⟨_, rfl, q p H4 tk hs d4 s4 mp hp4 (tr.new.mono new_same) ⟨sub.nodup nz, ?_, fun r m => ⟨mz _ (sub.subset (List.mem_map.mpr ⟨r, m, rfl⟩)), gr r m⟩⟩⟩
    have := sub.length_le
    rw [List.length_map] at this
    omega
  rintro i u σ H4 H5 hi ⟨⟨v2, v3, v4, rfl⟩, d4, s4, hk4, tk, hs, hp4, sub, gr, tr⟩ ⟨rfl, hu⟩
  rw [List.length_map] at hi
  rw [List.getElem?_map] at hu
  obtain ⟨y, hy, rfl⟩ := Option.map_eq_some_iff.mp hu
  dsimp only [gName]
  refine ⟨two_line, fun tc htc => ?_⟩
  have ntc := d4.new htc
  have d5 : DnAt 0 (upd H5 tc (.tup [.str "coin", .str "x"])) a := d4.set ntc
  have mtc : (rm H5 a) tc = none := by rw [rm_ne ntc]; exact htc
  have s5 : Same (rm H5 a) (rm (upd H5 tc (.tup [.str "coin", .str "x"])) a) := same_set (Same.refl _) mtc
  have e5 : (rm (upd H5 tc (.tup [.str "coin", .str "x"])) a) tc = some (.tup (coinx.map V.str)) := by rw [rm_ne ntc, upd_same]; rfl
  generalize upd H5 tc _ = H6 at d5 s5 e5 ⊢
  refine ⟨tc, rfl, ⟨_, SqT.of (rm_same _ _ e5)⟩, fun B hB => ?_⟩
  have nB := d5.new hB
  have mB : (rm H6 a) B = none := by rw [rm_ne nB]; exact hB
  refine lc_it (walk_tup (xs := coinx.map V.str)) (fun j H' => DnAt 0 H' a ∧ Same (rm H6 a) (rm H' a) ∧ ∃ acc r, (rm H' a) B = some (.lst acc) ∧ Paired (fun v (q : Str × Int) => ∃ t, v = V.ref t ∧ (rm H' a) t = some (.tup [.str q.1, .int q.2])) acc r ∧ (r.map (·.1)).Sublist (coinx.take j) ∧ ∀ q ∈ r, 0 ≤ q.2) ⟨d5.set nB, same_set (Same.refl _) mB, [], [], by rw [rm_ne nB, upd_same], .nil, List.nil_sublist _, fun q m => (by cases m)⟩ (fun j H' _ pp => SqT.of (rm_same _ _ (pp.2.1 _ _ e5))) ?_ ?_
  · rintro j u H7 H8 hj ⟨d7, s7, acc, r, hB7, pr, subr, pos⟩ ⟨rfl, hu⟩
    obtain ⟨z, hz, rfl⟩ := Option.map_eq_some_iff.mp (by rw [List.getElem?_map] at hu; exact hu)
    have lc : coinx.length = 2 := rfl
    have lr := subr.length_le
    rw [List.length_map, List.length_take] at lr
    refine ⟨rfl, _, rfl, a, 3, 0, rfl, d7, by decide, by decide, by decide, fun rd o r1 r2 ho => ?_⟩
    have d8 : DnAt 0 (upd H8 a o) a := DnAt.put (n := 0) ho
    have s8 : Same (rm H8 a) (rm (upd H8 a o) a) := rm_put
    generalize upd H8 a o = H9 at d8 s8 ⊢
    have pr9 := pair_mono (fun b xs e => s8 _ _ e) pr
    have hB9 := s8 _ _ hB7
    refine ⟨_, _, rfl, rfl, _, rfl, ?_⟩
    have et : coinx.take (j + 1) = coinx.take j ++ [z] := by rw [List.take_add_one, hz]; rfl
    by_cases c : 0 < rd
    · rw [decide_eq_true c]
      refine iteT ⟨_, rfl, _, rfl, lineN (n := 5), fun lo hlo => ?_⟩
      have nlo := d8.new hlo
      have d10 : DnAt 0 (upd H9 lo (.lst [.int 0, .int 0, .int 1, .int 2, .int 3])) a := d8.set nlo
      have s10 : Same (rm H9 a) (rm (upd H9 lo (.lst [.int 0, .int 0, .int 1, .int 2, .int 3])) a) := same_set (Same.refl _) (by rw [rm_ne nlo]; exact hlo)
      have e10 : (upd H9 lo (.lst [.int 0, .int 0, .int 1, .int 2, .int 3])) lo = some (.lst [.int 0, .int 0, .int 1, .int 2, .int 3]) := upd_same
      generalize upd H9 lo _ = H10 at d10 s10 e10 ⊢
      refine ⟨a, lo, _, 0, rfl, d10, by decide, nlo, .inl (SqL.of e10), by show 1 ≤ 5; decide, by show 5 < 1073741824; decide, fun k2 v o hv ho => ?_⟩
      obtain ⟨n, rfl, hn⟩ : ∃ n : Int, v = .int n ∧ 0 ≤ n := by
        have m := List.mem_of_getElem? hv
        simp only [List.mem_cons, List.not_mem_nil, or_false] at m
        rcases m with rfl | rfl | rfl | rfl | rfl
        · exact ⟨0, rfl, by decide⟩
        · exact ⟨0, rfl, by decide⟩
        · exact ⟨1, rfl, by decide⟩
        · exact ⟨2, rfl, by decide⟩
        · exact ⟨3, rfl, by decide⟩
      have d11 : DnAt 0 (upd H10 a o) a := DnAt.put (n := 0) ho
      have s11 : Same (rm H9 a) (rm (upd H10 a o) a) := s10.trans rm_put
      generalize upd H10 a o = H11 at d11 s11 ⊢
      delta tNil
      dsimp only
      refine ⟨two_line, fun t ht => ?_⟩
      have nt := d11.new ht
      have d12 : DnAt 0 (upd H11 t (.tup [.str z, .int n])) a := d11.set nt
      have s12 : Same (rm H9 a) (rm (upd H11 t (.tup [.str z, .int n])) a) := same_set s11 (free_below s11 (by rw [rm_ne nt]; exact ht))
      have e12 : (rm (upd H11 t (.tup [.str z, .int n])) a) t = some (.tup [.str z, .int n]) := by rw [rm_ne nt, upd_same]
      generalize upd H11 t _ = H12 at d12 s12 e12 ⊢
      have hB12 := s12 _ _ hB9
      have sq : ∀ b xs, (rm H12 a) b = some (.tup xs) → (rm (upd H12 B (.lst (acc ++ [.ref t]))) a) b = some (.tup xs) := fun b xs e => by
        have nb := rm_dif e
        rw [rm_ne nb] at e ⊢
        rw [upd_ne (ne_of e (rm_same _ _ hB12) (by intro z; cases z))]
        exact e
      have lacc : acc.length = r.length := Paired.length pr
      refine ⟨acc, rm_same _ _ hB12, sz (m := 60) (by omega), d12.set nB, ?_, acc ++ [.ref t], r ++ [(z, n)], by rw [rm_ne nB, upd_same], ?_, ?_, ?_⟩
      · exact same_set (s7.trans (s8.trans s12)) mB
      · exact Sr.Paired.snoc (a := V.ref t) (b := (z, n)) (F := fun v (q : Str × Int) => ∃ t', v = V.ref t' ∧ (rm (upd H12 B (.lst (acc ++ [.ref t]))) a) t' = some (.tup [.str q.1, .int q.2])) ⟨t, rfl, sq _ _ e12⟩ (pair_mono (fun b xs e => sq _ _ (s12 _ _ e)) pr9)
      · rw [et, List.map_append]
        exact subr.append (List.Sublist.refl _)
      · intro q m
        rcases List.mem_append.mp m with m | m
        · exact pos q m
        · rw [List.mem_singleton.mp m]
          exact hn
    · rw [decide_eq_false c]
      refine iteF ⟨d8, s7.trans s8, acc, r, hB9, pr9, ?_, pos⟩
      rw [et]
      exact List.sublist_append_of_sublist_left subr
  · rintro H7 ⟨d7, s7, acc, r, hB7, pr, subr, pos⟩
    obtain ⟨ts, kvs, rfl, pp, ccD⟩ := pairs_int2 (K := K) pr
    have subr : (r.map (·.1)).Sublist coinx := subr
    have ndr : (r.map (·.1)).Nodup := subr.nodup (by decide +kernel)
    have ndk : (kvs.map (·.1)).Nodup := keys_nd (F := fun v i => v = V.int i) ccD ndr
    have lr := subr.length_le
    rw [List.length_map] at lr
    have lc : coinx.length = 2 := rfl
    delta tNil
    dsimp only
    refine ⟨B, ts, kvs, rfl, SqL.of (rm_same _ _ hB7), L2.Paired.mapP pp fun _ _ h => sqt_mono rm_same h, fun D hD => ?_⟩
    rw [merge_nd ndk]
    have nD := d7.new hD
    have d13 : DnAt 0 (upd H7 D (.dK kvs)) a := d7.set nD
    have mD : (rm H7 a) D = none := by rw [rm_ne nD]; exact hD
    have s13' : Same (rm H7 a) (rm (upd H7 D (.dK kvs)) a) := same_set (Same.refl _) mD
    have e13 : (rm (upd H7 D (.dK kvs)) a) D = some (.dK kvs) := by rw [rm_ne nD, upd_same]
    generalize upd H7 D (.dK kvs) = H13 at d13 s13' e13 ⊢
    have s46 := s5.trans s7
    have s413 := s46.trans s13'
    have hp13 := s413 _ _ hp4
    have nDp : D ≠ p := fun z => by rw [z, s46 _ _ hp4] at mD; cases mD
    have hD0 : (rm H a) D = none := free_below (s4.trans s46) mD
    have ntk : tk.length ≤ 3 := by
      have := sub.length_le
      rw [List.length_map, List.length_take] at this
      rw [Paired.length tr]
      omega
    have et : zs.take (i + 1) = zs.take i ++ [y] := by rw [List.take_add_one, hy]; rfl
    have dr : drawnR r := ⟨ndr, by omega, fun q m => ⟨subr.subset (List.mem_map.mpr ⟨q, m, rfl⟩), pos q m⟩⟩
    try dsimp only
    refine ⟨_, rfl, fun q1 hq1 => ⟨D, q1, kvs, [], rowP r, [], rfl, rfl, Same.up hq1 _ _ (rm_same _ _ e13), upd_same, dcd_row ccD, .nil, _, rfl, ?_⟩⟩
    have nq1 := d13.new hq1
    have d14 : DnAt 0 (upd H13 q1 (.dK [])) a := d13.set nq1
    have s14 : Same (rm H13 a) (rm (upd H13 q1 (.dK [])) a) := same_set (Same.refl _) (by rw [rm_ne nq1]; exact hq1)
    generalize upd H13 q1 (.dK []) = H14 at d14 s14 ⊢
    have ee : (!eqvK (rowP r) []) = !r.isEmpty := by cases r <;> rfl
    rw [ee]
    have ny : (Sum.inr y : Key) ∉ tk.map (·.1) := by
      have hk : tk.map (·.1) = hs.map fun q => (Sum.inr q.1 : Key) := tk_keys tr
      rw [hk]
      intro m
      obtain ⟨q, mq, e⟩ := List.mem_map.mp m
      have e2 : q.1 = y := Sum.inr.inj e
      exact take_nd nz hy (sub.subset (List.mem_map.mpr ⟨q, mq, e2⟩))
    have fin : ∀ {G : Hp}, DnAt 0 G a → Same (rm H14 a) (rm G a) → DnAt 0 (upd G p (.dK (putK tk (Sum.inr y) (.ref D)))) a ∧ Same (rm H a) (rm (upd G p (.dK (putK tk (Sum.inr y) (.ref D)))) a) ∧ (rm (upd G p (.dK (putK tk (Sum.inr y) (.ref D)))) a) k = some (.lst (zs.map V.str)) ∧ ∃ tk' hs', (rm (upd G p (.dK (putK tk (Sum.inr y) (.ref D)))) a) p = some (.dK tk') ∧ (hs'.map (·.1)).Sublist (zs.take (i + 1)) ∧ (∀ q ∈ hs', drawnR q.2) ∧ TkR (rm H a) p (rm (upd G p (.dK (putK tk (Sum.inr y) (.ref D)))) a) tk' hs' := fun {G} dG sG => by
      have s4G := s413.trans (s14.trans sG)
      refine ⟨dG.set np, same_set (s4.trans s4G) mp, ?_, tk ++ [(Sum.inr y, .ref D)], hs ++ [(y, r)], ?_, ?_, ?_, ?_⟩
      · rw [rm_set np, upd_ne nkp]
        exact s4G _ _ hk4
      · rw [rm_ne np, upd_same, Sr.putK_new ny]
      · rw [et, List.map_append]
        exact sub.append (List.Sublist.refl _)
      · intro q m
        rcases List.mem_append.mp m with m | m
        · exact gr q m
        · rw [List.mem_singleton.mp m]
          exact dr
      · rw [rm_set np]
        exact (tr.mono s4G).put.snoc nDp hD0 (by rw [upd_ne nDp]; exact sG _ _ (s14 _ _ e13)) ccD
    have skip : ∀ {G : Hp}, DnAt 0 G a → Same (rm H14 a) (rm G a) → DnAt 0 G a ∧ Same (rm H a) (rm G a) ∧ (rm G a) k = some (.lst (zs.map V.str)) ∧ ∃ tk' hs', (rm G a) p = some (.dK tk') ∧ (hs'.map (·.1)).Sublist (zs.take (i + 1)) ∧ (∀ q ∈ hs', drawnR q.2) ∧ TkR (rm H a) p (rm G a) tk' hs' := fun {G} dG sG => by
      have s4G := s413.trans (s14.trans sG)
      refine ⟨dG, s4.trans s4G, s4G _ _ hk4, tk, hs, s4G _ _ hp4, ?_, gr, tr.mono s4G⟩
      rw [et]
      exact List.sublist_append_of_sublist_left sub
    have cut1 : (rm H14 a) p = some (.dK tk) := s14 _ _ hp13
    cases em : r.isEmpty with
    | true =>
      refine iteF ⟨_, rfl, a, 2, 0, rfl, d14, by decide, by decide, by decide, fun rd o r1 r2 ho => ?_⟩
      have d15 : DnAt 0 (upd H14 a o) a := DnAt.put (n := 0) ho
      have s15 : Same (rm H14 a) (rm (upd H14 a o) a) := rm_put
      generalize upd H14 a o = H15 at d15 s15 ⊢
      refine ⟨rfl, _, rfl, ?_⟩
      by_cases c : V.int rd = V.int 0
      · rw [decide_eq_true c]
        exact iteT ⟨_, rfl, _, rfl, _, rfl, p, _, rfl, .inl ⟨tk, Sum.inr y, rm_same _ _ (s15 _ _ cut1), rfl, sz (m := 60) (by omega) (by decide), rfl⟩, ⟨_, _, _, rfl⟩, fin d15 s15⟩
      · rw [decide_eq_false c]
        exact iteF ⟨⟨_, _, _, rfl⟩, skip d15 s15⟩
    | false =>
      exact iteT ⟨_, rfl, _, rfl, _, rfl, p, _, rfl, .inl ⟨tk, Sum.inr y, rm_same _ _ cut1, rfl, sz (m := 60) (by omega) (by decide), rfl⟩, ⟨_, _, _, rfl⟩, fin d14 (Same.refl _)⟩
end
end K31

set_option Elab.async false
set_option linter.all false
set_option maxRecDepth 100000
set_option maxHeartbeats 4000000
namespace Sr
open PySem PySem.Spec PyProof.Rows L2
/-- a method with arguments that raises nothing, from CalM -/
theorem mA_ {X : Cx} {K : PySem.W.Frag} {k j : Nat} {C f : Addr} {ps : List Str} {sp : Sp} {m : Str} {o e : Expr} {es : List Expr} {ta : TE} {t : TA} {p apos : Pos} {pl : Sem Bool} (M : CalM X.prog X.w K X.mg X.base CX0 k f ps sp) (hK : X.K = K) (hr : Room j X.A) (hk : k ≤ j) (c : Cls K C) (hm : Meth K C m f) (he : PE X o ta) (ha : PA X (e :: es) t)
    (hst : starEach (e :: es) X.env = (false, eval e X.env) :: starEach es X.env := by rfl) (hpl : (backTo p (starEach es X.env)).any (·.1) = false := by rfl)
    (ht : eval (.Call (.Attribute o m apos) (e :: es) [] p) X.env = (do
      let ov ← eval o X.env
      standAt apos.atName
      let (f, first) ← holding [ov] (getMethod ov m pl)
      callWith p f first (backTo p (starEach (e :: es) X.env)) (backToKw p (keywordEach [] X.env))) := by rfl) : PE X (.Call (.Attribute o m apos) (e :: es) [] p) (tMeth C m sp [] E0 ta t) := by
  subst hK
  obtain ⟨fd, F, kp, hb⟩ := M.ex
  exact pe_meth he c hm F (hr.mono hk) hb .nil pass0 ha hst hpl ht
end Sr

set_option Elab.async false
set_option linter.all false
set_option maxRecDepth 100000
set_option maxHeartbeats 4000000
namespace K31
open PySem PySem.Spec PyProof.Rows L2 Sr
structure QueM3 (K : PySem.W.Frag) : Prop where
  holdings : Meth K (He.ga K "Queues") "holdings" (He.fAd K ("Queues", some "holdings"))
  all_items : Meth K (He.ga K "Queues") "all_items" (He.fAd K ("Queues", some "all_items"))
  members : Meth K (He.ga K "Queues") "members" (He.fAd K ("Queues", some "members"))
  things : Meth K (He.ga K "Queues") "things" (He.fAd K ("Queues", some "things"))
  queue : Meth K (He.ga K "Queues") "queue" (He.fAd K ("Queues", some "queue"))
  more : Meth K (He.ga K "Queues") "more" (He.fAd K ("Queues", some "more"))
  first : Meth K (He.ga K "Queues") "first" (He.fAd K ("Queues", some "first"))
  given : Meth K (He.ga K "Queues") "given" (He.fAd K ("Queues", some "given"))
  len : PySem.W.findIn K (.ref (He.ga K "Queues")) "__len__" = some (some (.ref (He.fAd K ("Queues", some "__len__"))))
  lenF : PySem.W.typeIn K (.ref (He.fAd K ("Queues", some "__len__"))) = some (.type "function")
  eq : PySem.W.findIn K (.ref (He.ga K "Queues")) "__eq__" = some (some (.ref (He.fAd K ("Queues", some "__eq__"))))
  fn : PySem.W.isFn K (.ref (He.fAd K ("Queues", some "__eq__"))) = true
  ne : PySem.W.findIn K (.ref (He.ga K "Queues")) "__ne__" = some (some (.builtin "object.__ne__"))
/-- what the methods tell -/
structure MetQ (P : Program) (w : World) (K : PySem.W.Frag) (mg : Str → Option Value) (base : Heap) : Prop where
  MH : CalM P w K mg base CX0 1 (He.fAd K ("Queues", some "holdings")) ["self"] (spHold K)
  MA : CalM P w K mg base CX0 1 (He.fAd K ("Queues", some "all_items")) ["self"] (spItems K)
  MM : CalM P w K mg base CX0 2 (He.fAd K ("Queues", some "members")) ["self"] (spMem K)
  MT : CalM P w K mg base CX0 2 (He.fAd K ("Queues", some "things")) ["self"] (spThings K)
  MQ : CalM P w K mg base CX0 1 (He.fAd K ("Queues", some "queue")) ["self", "member", "thing"] (spQueue K)
  ML : CalM P w K mg base CX0 1 (He.fAd K ("Queues", some "__len__")) ["self"] (spLen K)
def spTold (K : PySem.W.Frag) : Sp := fun vs H Q _ => ∃ (x a l : Addr) (kv : List (Key × V)) (us : List V) (hs hs' : Hs) (its : Its), vs = [.ref x, .ref a, .ref l] ∧ QueR K H H x hs' its ∧ H a = some (.dK kv) ∧ HldR H kv hs ∧ goodH hs ∧ (∀ h, Can hs h → h = hs') ∧ H l = some (.lst us) ∧ IsA H us (its.map itD) ∧ ∀ H', Same H H' → Q (.bl true) H'
theorem isA_strs {H : Hp} : ∀ {ys : List Str}, (∀ s ∈ ys, nameOk (.str s) = true) → IsA H (ys.map V.str) (ys.map Dt.str)
  | [], _ => .nil
  | s :: _, h => .cons (.str s (name_short (h s List.mem_cons_self))) (isA_strs fun x m => h x (List.mem_cons_of_mem _ m))
theorem dep_strs {n : Nat} (ys : List Str) : ∀ d ∈ ys.map Dt.str, Dep n d := fun d m => by
  obtain ⟨s, _, rfl⟩ := List.mem_map.mp m
  exact .str _ s
theorem isA_ints {H : Hp} : ∀ zs : List Int, IsA H (zs.map V.int) (zs.map Dt.int)
  | [] => .nil
  | z :: r => .cons (.int z) (isA_ints r)
theorem dep_ints {n : Nat} (ys : List Int) : ∀ d ∈ ys.map Dt.int, Dep n d := fun d m => by
  obtain ⟨s, _, rfl⟩ := List.mem_map.mp m
  exact .int _ s
def askM : List Str := ["a", "b", "c", "zz"]
def askT : List Str := ["coin", "x", "y"]
theorem askM_ok : ∀ s ∈ askM, nameOk (.str s) = true := by decide +kernel
theorem askT_ok : ∀ s ∈ askT, nameOk (.str s) = true := by decide +kernel
theorem queue_none {d1 d2 : PyData} {its : Its} (h : ∀ it ∈ its, ∀ g ∈ it, hitL d1 d2 g = false) : queueOf d1 d2 its = [] := by
  unfold queueOf
  rw [List.filter_eq_nil_iff.mpr]
  · rfl
  intro p m
  rw [Bool.not_eq_true, List.any_eq_false]
  exact fun g mg => by
    rw [h p.1 ((List.mem_zipIdx m).2.2 ▸ List.getElem_mem _) g mg]
    exact Bool.false_ne_true
def sideL (its : Its) : List Str := its.flatMap fun it => it.map (·.1) ++ it.map (·.2.2.2)
theorem sideL_mem {its : Its} {s : Str} : s ∈ sideL its ↔ s ∈ sides (legsOf its) := by
  unfold sideL sides legsOf
  simp only [List.mem_flatMap, List.mem_append, List.mem_map, List.mem_flatten, List.mem_cons, List.not_mem_nil, or_false]
  constructor
  · rintro ⟨it, mi, ⟨g, mg, rfl⟩ | ⟨g, mg, rfl⟩⟩
    · exact ⟨g, ⟨it, mi, mg⟩, .inl rfl⟩
    · exact ⟨g, ⟨it, mi, mg⟩, .inr rfl⟩
  · rintro ⟨g, ⟨it, mi, mg⟩, rfl | rfl⟩
    · exact ⟨it, mi, .inl ⟨g, mg, rfl⟩⟩
    · exact ⟨it, mi, .inr ⟨g, mg, rfl⟩⟩
theorem sideL_take {its : Its} {i : Nat} {it : List Leg} (h : its[i]? = some it) : sideL (its.take (i + 1)) = sideL (its.take i) ++ (it.map (·.1) ++ it.map (·.2.2.2)) := by
  unfold sideL
  rw [List.take_add_one, h, List.flatMap_append]
  show _ ++ (_ ++ []) = _
  rw [List.append_nil]
theorem legs_take {its : Its} {i : Nat} {it : List Leg} (h : its[i]? = some it) : legsOf (its.take (i + 1)) = legsOf (its.take i) ++ it := by
  unfold legsOf
  rw [List.take_add_one, h, List.flatten_append]
  show _ ++ (it ++ []) = _
  rw [List.append_nil]
theorem sideL_len (its : Its) : (sideL its).length = 2 * (legsOf its).length := by
  unfold sideL legsOf
  induction its with
  | nil => rfl
  | cons it r ih =>
    rw [List.flatMap_cons, List.flatten_cons, List.length_append, List.length_append, List.length_append, ih, List.length_map, List.length_map]
    omega
section
variable {P : Program} {w : World} {K : PySem.W.Frag} {mg : Str → Option Value} {base : Heap}
abbrev s__law_is_told : Stmt := top 32
theorem sc__law_is_told : FnScope ["queues", "holdings", "items", "held", "member", "item", "odd", "members", "things", "thing", "leg"] ["queues", "holdings", "items"] (defScope s__law_is_told) := ⟨rfl, rfl, rfl, by decide +kernel, rfl, by decide +kernel, by decide +kernel⟩
theorem c__law_is_told (T : Txt K mg) (O : Que K mg) (OM : QueM3 K) (ME : MetQ P w K mg base) (D : Dfn K mg "_law_is_told" s__law_is_told) (C_law_is_held : Cal P w K mg base 2 "_law_is_held" ["seen", "holdings"] spIsHeld) (C_law_same : Cal P w K mg base 4 "_law_same" ["found", "due"] (spDeep 3)) (C_law_held : Cal P w K mg base 1 "_law_held" ["holdings"] spToldH) (C_law_queue : Cal P w K mg base 1 "_law_queue" ["items", "member", "thing"] spLawQ) : Cal P w K mg base 5 "_law_is_told" ["queues", "holdings", "items"] (spTold K) := by
  obtain ⟨MH, MA, MM, MT, MQ, ML⟩ := ME
  refine D.cal sc__law_is_told (fun _ _ _ _ _ _ us hl => match us, hl with | [_, _, _], _ => rfl) (fun vs H Q E h => ?_) fun cdv A outer s H vs Q E hr h => ?_
  · obtain ⟨x, a, l, kv, us, hs, hs', its, rfl, _⟩ := h
    rfl
  obtain ⟨x, a, l, kv, us, hs, hs', its, rfl, hq, ha, hh, g, can, hl, hi, q⟩ := h
  refine ⟨_, (pss_cons (ps_if (PW.pt (pw_or (pt_not (pt_val (pe_cal C_law_is_held hr (by first | decide | omega) (by rfl) (pa_cons (m0_ MH hr (by decide) O.cl OM.holdings (pv 0)) (pa_cons (pv 1) pa_nil))))) (pw_or1 (pt_not (pt_val (pe_cal C_law_same hr (by first | decide | omega) (by rfl) (pa_cons (m0_ MA hr (by decide) O.cl OM.all_items (pv 0)) (pa_cons (pv 2) pa_nil)))))))) (pss_one (ps_ret pe_bl)) pss_nil)
      (pss_cons (ps_par (i := 7) (j := 8) (by rfl) sc__law_is_told.nd rfl rfl (by decide) rfl rfl (pa_cons (pe_callTy (T := "list") (call_list_dK rfl) (by rfl) T.list (by decide +kernel) (pa_cons (pe_cal C_law_held hr (by first | decide | omega) (by rfl) (pa_cons (pv 1) pa_nil)) pa_nil)) (pa_cons (pe_lst pa_nil) pa_nil)) (by rfl))
      (pss_cons (ps_set (i := 3) sc__law_is_told.nd rfl (by first | exact Or.inl rfl | exact Or.inr rfl) (pe_cal C_law_held hr (by first | decide | omega) (by rfl) (pa_cons (pv 1) pa_nil)))
      (pss_cons (ps_lock (ps_for PassesOwn.never rfl (pi_keys (pv 3)) (pg_name (i := 4) sc__law_is_told.nd rfl (by first | exact Or.inl rfl | exact Or.inr rfl))
      (pss_one (ps_expr (pe_bm PySem.F.plainAttrs_list PySem.F.slot_list_extend PySem.F.type_list_extend mt_extend (pv 8) (pa_cons (pe_callTy (T := "list") (call_list_dK rfl) (by rfl) T.list (by decide +kernel) (pa_cons (pe_dget (hu_of hr) (pv 3) (pv 4) (fun _ _ => rfl)) pa_nil)) pa_nil))))))
      (pss_cons (ps_for PassesOwn.never rfl (pi_list (pv 2)) (pg_name (i := 5) sc__law_is_told.nd rfl (by first | exact Or.inl rfl | exact Or.inr rfl))
      (pss_cons (ps_expr (pe_bm PySem.F.plainAttrs_list PySem.F.slot_list_extend PySem.F.type_list_extend mt_extend (pv 7) (pa_cons (pe_op op_cat (pe_lc (own := [("leg", 10)]) (g := gName 10) (tt := tYes) rfl sc__law_is_told.nd (pi_tup (pv 5)) (blkOk_by (N := ["queues", "holdings", "items", "held", "member", "item", "odd", "members", "things", "thing", "leg"]) (sc := defScope s__law_is_told) (by decide +kernel)) (fun _ _ _ _ _ => (pg_name (i := 10) sc__law_is_told.nd rfl (by first | exact Or.inl rfl | exact Or.inr rfl))) (fun _ _ _ _ _ => pts_nil) (fun _ _ _ _ _ => (pe_ix (ix_tupK K rfl) (pv 10) pe_int (fun _ _ => rfl)))) (pe_lc (own := [("leg", 10)]) (g := gName 10) (tt := tYes) rfl sc__law_is_told.nd (pi_tup (pv 5)) (blkOk_by (N := ["queues", "holdings", "items", "held", "member", "item", "odd", "members", "things", "thing", "leg"]) (sc := defScope s__law_is_told) (by decide +kernel)) (fun _ _ _ _ _ => (pg_name (i := 10) sc__law_is_told.nd rfl (by first | exact Or.inl rfl | exact Or.inr rfl))) (fun _ _ _ _ _ => pts_nil) (fun _ _ _ _ _ => (pe_ix (ix_tupK K rfl) (pv 10) pe_int (fun _ _ => rfl))))) pa_nil)))
      (pss_one (ps_expr (pe_bm PySem.F.plainAttrs_list PySem.F.slot_list_extend PySem.F.type_list_extend mt_extend (pv 8) (pa_cons (pe_lc (own := [("leg", 10)]) (g := gName 10) (tt := tYes) rfl sc__law_is_told.nd (pi_tup (pv 5)) (blkOk_by (N := ["queues", "holdings", "items", "held", "member", "item", "odd", "members", "things", "thing", "leg"]) (sc := defScope s__law_is_told) (by decide +kernel)) (fun _ _ _ _ _ => (pg_name (i := 10) sc__law_is_told.nd rfl (by first | exact Or.inl rfl | exact Or.inr rfl))) (fun _ _ _ _ _ => pts_nil) (fun _ _ _ _ _ => (pe_ix (ix_tupK K rfl) (pv 10) pe_int (fun _ _ => rfl)))) pa_nil))))))
      (pss_cons (ps_if (pt_not (pt_val (pe_cal C_law_same hr (by first | decide | omega) (by rfl) (pa_cons (pe_lst (pa_cons (m0_ MM hr (by decide) O.cl OM.members (pv 0)) (pa_cons (m0_ MT hr (by decide) O.cl OM.things (pv 0)) pa_nil))) (pa_cons (pe_lst (pa_cons (pe_sortTxt rfl (by rfl) T.sorted (by rfl) T.set (pv 7)) (pa_cons (pe_sortTxt rfl (by rfl) T.sorted (by rfl) T.set (pv 8)) pa_nil))) pa_nil))))) (pss_one (ps_ret pe_bl)) pss_nil)
      (pss_cons (ps_for PassesOwn.never rfl (pi_tup (pe_tup (pa_cons pe_str (pa_cons pe_str (pa_cons pe_str (pa_cons pe_str pa_nil)))))) (pg_name (i := 4) sc__law_is_told.nd rfl (by first | exact Or.inl rfl | exact Or.inr rfl))
      (pss_one (ps_for PassesOwn.never rfl (pi_tup (pe_tup (pa_cons pe_str (pa_cons pe_str (pa_cons pe_str pa_nil))))) (pg_name (i := 9) sc__law_is_told.nd rfl (by first | exact Or.inl rfl | exact Or.inr rfl))
      (pss_one (ps_if (pt_not (pt_val (pe_cal C_law_same hr (by first | decide | omega) (by rfl) (pa_cons (mA_ (K := K) MQ rfl hr (by decide) O.cl OM.queue (pv 0) (pa_cons (pv 4) (pa_cons (pv 9) pa_nil))) (pa_cons (pe_cal C_law_queue hr (by first | decide | omega) (by rfl) (pa_cons (pv 2) (pa_cons (pv 4) (pa_cons (pv 9) pa_nil)))) pa_nil))))) (pss_one (ps_ret pe_bl)) pss_nil)))))
      (pss_cons (ps_set (i := 6) sc__law_is_told.nd rfl (by first | exact Or.inl rfl | exact Or.inr rfl) (pe_lst (pa_cons (mA_ (K := K) MQ rfl hr (by decide) O.cl OM.queue (pv 0) (pa_cons pe_non (pa_cons pe_int pa_nil))) (pa_cons (mA_ (K := K) MQ rfl hr (by decide) O.cl OM.queue (pv 0) (pa_cons (pe_lst (pa_cons pe_str pa_nil)) (pa_cons pe_dnewK pa_nil))) (pa_cons (mA_ (K := K) MQ rfl hr (by decide) O.cl OM.queue (pv 0) (pa_cons pe_str (pa_cons (pe_tup (pa_cons pe_str pa_nil)) pa_nil))) pa_nil)))))
      (pss_one (ps_ret (pe_and (pe_cmpR (op_eqD hr.units) (pv 6) (pe_lst (pa_cons (pe_lst pa_nil) (pa_cons (pe_lst pa_nil) (pa_cons (pe_lst pa_nil) pa_nil)))) (nomark _)) (pe_one (pe_cmpR op_eq (pe_callB (id := "len") (len_ ML hr (by decide) OM.len OM.lenF) (by rfl) T.len (by decide +kernel) (pa_cons (pv 0) pa_nil)) (pe_callB (id := "len") call_len_seq (by rfl) T.len (by decide +kernel) (pa_cons (pv 2) pa_nil)) (nomark _)))))))))))))), ?_⟩
  obtain ⟨dx, fc, fl, kc, uq, i0, i1, i2, i3, i4, gc, gi⟩ := id hq
  have d3 : ∀ {d}, d ∈ its.map itD → Dep 2 d := fun m => by
    obtain ⟨it, _, rfl⟩ := List.mem_map.mp m
    exact .tup _ _ fun d md => by
      obtain ⟨gl, _, rfl⟩ := List.mem_map.mp md
      exact .tup _ _ (leg_dep gl)
  refine cut_if (fun σ H' => σ = [some (.ref x), some (.ref a), some (.ref l), none, none, none, none, none, none, none, none] ∧ Same H H') ?_ fun rest => ?_
  rotate_left
  · refine ⟨_, rfl, x, dx, _, rfl, i0, rfl, x, hs', its, rfl, hq, fun H1 p kd s1 hp hp1 hn _ => ?_⟩
    refine ⟨_, rfl, p, a, kd, kv, hs, hs', rfl, hp1, hn.mono new_same, s1 _ _ ha, hh.mono s1, g, can, fun H2 s2 => ⟨_, rfl, iteF ?_⟩⟩
    have s12 := s1.trans s2
    refine ⟨_, rfl, x, dx, _, rfl, s12 _ _ i0, rfl, x, hs', its, rfl, hq.mono s12, fun p2 us2 hp2 is2 => ?_⟩
    have s3 := Same.up (o := .lst us2) hp2
    have e3 : (upd H2 p2 (.lst us2)) p2 = some (.lst us2) := upd_same
    generalize upd H2 p2 _ = H3 at s3 e3 ⊢
    refine ⟨_, rfl, .ref p2, .ref l, .lst (its.map itD), rfl, .lst e3 (is2.mono s3) (by rw [is2.len, List.length_map]; have := gi.1; omega), .lst (s3 _ _ (s12 _ _ hl)) (hi.mono (s12.trans s3)) (by rw [hi.len, List.length_map]; have := gi.1; omega), .lst _ _ fun d m => d3 m, fun H4 s4 => ⟨_, rfl, ?_⟩⟩
    exact iteF (rest _ _ ⟨rfl, (s12.trans s3).trans s4⟩)
  rintro σ G1 ⟨rfl, s1⟩
  try dsimp only
  refine cut_if (fun σ H' => ∃ pm pt, σ = [some (.ref x), some (.ref a), some (.ref l), none, none, none, none, some (.ref pm), some (.ref pt), none, none] ∧ Same H H' ∧ H pm = none ∧ H pt = none ∧ pm ≠ pt ∧ H' pm = some (.lst ((hs'.map (·.1)).map V.str)) ∧ H' pt = some (.lst [])) ?_ fun rest => ?_
  rotate_left
  · refine ⟨_, rfl, a, kv, hs, rfl, s1 _ _ ha, hh.mono s1, g, fun H2 p tk hs2 s2 hp hp2 hn c2 => ?_⟩
    obtain rfl := can _ c2
    have et : (tk.map fun kv => kV kv.1) = (hs2.map (·.1)).map V.str := (keys_names (F := fun v (r : Rw) => ∃ d kr, v = .ref d ∧ newH G1 H2 d = some (.dK kr) ∧ CoinsC kr r) hn).1
    refine ⟨p, tk, rfl, hp2, fun pm hpm => ?_⟩
    rw [et]
    have s3 := Same.up (o := .lst ((hs2.map (·.1)).map V.str)) hpm
    have e3 : (upd H2 pm (.lst ((hs2.map (·.1)).map V.str))) pm = some (.lst ((hs2.map (·.1)).map V.str)) := upd_same
    have s13 := s1.trans s2
    have m3 : H pm = none := free_below s13 hpm
    generalize upd H2 pm _ = H3 at s3 e3 ⊢
    refine ⟨lineN (n := 0), fun pt hpt => ?_⟩
    have s4 := Same.up (o := .lst []) hpt
    exact ⟨_, _, rfl, rest _ _ ⟨pm, pt, rfl, s13.trans (s3.trans s4), m3, free_below (s13.trans s3) hpt, (fun z => by rw [z, hpt] at e3; cases e3), s4 _ _ e3, upd_same⟩⟩
  rintro σ G2 ⟨pm, pt, rfl, s2, m1, m2, nmt, e1, e2⟩
  try dsimp only
  have lh := gc.2.1
  refine cut_if (fun σ H' => ∃ v4 ph, σ = [some (.ref x), some (.ref a), some (.ref l), some (.ref ph), v4, none, none, some (.ref pm), some (.ref pt), none, none] ∧ Same H H' ∧ H' pm = some (.lst ((hs'.map (·.1)).map V.str)) ∧ H' pt = some (.lst []) ∧ ∃ tk, H' ph = some (.dK tk) ∧ HldR H' tk hs') ?_ fun rest => ?_
  rotate_left
  · refine ⟨_, rfl, a, kv, hs, rfl, s2 _ _ ha, hh.mono s2, g, fun H2 p tk hs2 s3 hp hp2 hn c2 => ?_⟩
    obtain rfl := can _ c2
    exact rest _ _ ⟨_, p, rfl, s2.trans s3, s3 _ _ e1, s3 _ _ e2, tk, hp2, hn.mono new_same⟩
  rintro σ G3 ⟨v4, ph, rfl, s3, e1, e2, tk, e3, e4⟩
  try dsimp only
  have nhm : pm ≠ ph := fun z => by rw [z, e3] at e1; cases e1
  have nht : pt ≠ ph := fun z => by rw [z, e3] at e2; cases e2
  have ltk : tk.length = hs'.length := Paired.length e4
  refine cut_if (fun σ H' => ∃ v4, σ = [some (.ref x), some (.ref a), some (.ref l), some (.ref ph), v4, none, none, some (.ref pm), some (.ref pt), none, none] ∧ Same H H' ∧ H' pm = some (.lst ((hs'.map (·.1)).map V.str)) ∧ H' pt = some (.lst ((heldN hs').map V.str))) ?_ fun rest => ?_
  rotate_left
  · have nd := keys_nd (F := fun v (r : Rw) => ∃ d kr, v = .ref d ∧ G3 d = some (.dK kr) ∧ CoinsC kr r) e4 gc.1
    refine ⟨ph, _, e3, trivial, fun od => ?_⟩
    have hF : (upd G3 ph (.frz od (.dK tk))) ph = some (.frz od (.dK tk)) := upd_same
    have fm : (upd G3 ph (.frz od (.dK tk))) pm = some (.lst ((hs'.map (·.1)).map V.str)) := by rw [upd_ne nhm]; exact e1
    have ft : (upd G3 ph (.frz od (.dK tk))) pt = some (.lst []) := by rw [upd_ne nht]; exact e2
    have back : ∀ H', Same (rm (upd G3 ph (.frz od (.dK tk))) pt) H' → Same H (upd H' ph (.dK tk)) ∧ (upd H' ph (.dK tk)) pm = some (.lst ((hs'.map (·.1)).map V.str)) := fun H' s => by
      refine ⟨fun b o e => ?_, ?_⟩
      · have e' := s3 _ _ e
        by_cases hb : b = ph
        · rw [hb] at e' ⊢
          rw [e3] at e'
          cases e'
          exact upd_same
        · rw [upd_ne hb]
          exact s _ _ (by rw [rm_ne (fun z => by rw [z, m2] at e; cases e), upd_ne hb]; exact e')
      · rw [upd_ne nhm]
        exact s _ _ (by rw [rm_ne nmt]; exact fm)
    have fd : ∀ b o, b ≠ ph → b ≠ pt → G3 b = some o → (rm (upd G3 ph (.frz od (.dK tk))) pt) b = some o := fun b o n1 n2 e => by rw [rm_ne n2, upd_ne n1]; exact e
    have hF' : (rm (upd G3 ph (.frz od (.dK tk))) pt) ph = some (.frz od (.dK tk)) := by rw [rm_ne nht.symm]; exact hF
    generalize upd G3 ph (.frz od (.dK tk)) = F at hF' ft back fd hF ⊢
    refine ⟨_, rfl, ph, od, rfl, .inl ⟨tk, hF, for_it walk_keys (fun i σ H' => (∃ v4, σ = [some (.ref x), some (.ref a), some (.ref l), some (.ref ph), v4, none, none, some (.ref pm), some (.ref pt), none, none]) ∧ Same (rm F pt) H' ∧ H' pt = some (.lst ((heldN (hs'.take i)).map V.str))) ⟨⟨_, rfl⟩, rm_same, ft⟩ (fun i σ H' hi p => p.2.1 _ _ hF') ?_ ?_⟩⟩
    · rintro i u σ H4 H5 hi ⟨⟨v4', rfl⟩, s4, e5⟩ ⟨rfl, k, v, hk, rfl⟩
      obtain ⟨y, hy⟩ : ∃ y, hs'[i]? = some y := ⟨hs'[i]'(by omega), List.getElem?_eq_getElem (by omega)⟩
      obtain ⟨ek, d, kr, ev, hdd, cc⟩ := Paired.at2 e4 hk hy
      have ek : k = Sum.inr y.1 := ek
      have ev : v = .ref d := ev
      subst ek
      subst ev
      have vv : valV tk (Sum.inr y.1) = some (.ref d) := val_nodup nd _ (List.mem_of_getElem? hk)
      have ndh : d ≠ ph := e4.apart (fun z => by rw [z] at hk; cases hk) e3 hdd cc
      have ndt : d ≠ pt := fun z => by rw [z, e2] at hdd; cases hdd
      have hd4 := s4 _ _ (fd _ _ ndh ndt hdd)
      have er : (kr.map fun kv => kV kv.1) = (y.2.map (·.1)).map V.str := (keys_names (F := fun v i => v = V.int i) cc).1
      have ly := (gc.2.2 y (List.mem_of_getElem? hy)).2.2.1
      have lhl := held_len gc i
      dsimp only [gName]
      refine ⟨_, rfl, .inl ⟨rfl, _, SqL.of e5⟩, _, rfl, _, rfl, ph, _, rfl, .inl ⟨tk, Sum.inr y.1, .inr ⟨od, s4 _ _ hF'⟩, rfl, vv.symm⟩, d, kr, rfl, hd4, fun q1 hq1 => ?_⟩
      rw [er]
      have s5 := Same.up (o := .lst ((y.2.map (·.1)).map V.str)) hq1
      delta tNil
      dsimp only
      refine ⟨pt, q1, _, _, rfl, rfl, s5 _ _ e5, upd_same, ?_, ?_⟩
      · rw [List.length_map, List.length_map, List.length_map]
        exact Nat.le_of_lt (sz (m := 60) (by omega))
      refine ⟨⟨_, rfl⟩, fun b o e => ?_, ?_⟩
      · rw [upd_ne (rm_dif e)]
        exact s5 _ _ (s4 _ _ e)
      · rw [upd_same, held_take hy, List.map_append]
    · rintro σ H4 ⟨⟨v4', rfl⟩, s4, e5⟩
      rw [ltk, List.take_length] at e5
      obtain ⟨b1, b2⟩ := back H4 s4
      exact ⟨s4 _ _ hF', rest _ _ ⟨_, rfl, b1, b2, by rw [upd_ne nht]; exact e5⟩⟩
  clear e1 e2 e3 e4 nhm nht ltk s3
  rintro σ G4 ⟨v4', rfl, s4, e1, e2⟩
  try dsimp only
  have lus : us.length = its.length := by rw [hi.len, List.length_map]
  have lit := gi.1
  refine cut_if (fun σ H' => ∃ v4 v5 v10, σ = [some (.ref x), some (.ref a), some (.ref l), some (.ref ph), v4, v5, none, some (.ref pm), some (.ref pt), none, v10] ∧ Same H H' ∧ H' pm = some (.lst ((hs'.map (·.1) ++ sideL its).map V.str)) ∧ H' pt = some (.lst ((heldN hs' ++ (legsOf its).map (·.2.1)).map V.str))) ?_ fun rest => ?_
  rotate_left
  · refine ⟨_, rfl, l, rfl, ⟨_, SqL.of (s4 _ _ hl)⟩, for_it (walk_list (xs := us)) (fun i σ H' => (∃ v5 v10, σ = [some (.ref x), some (.ref a), some (.ref l), some (.ref ph), v4', v5, none, some (.ref pm), some (.ref pt), none, v10]) ∧ Same H H' ∧ H' pm = some (.lst ((hs'.map (·.1) ++ sideL (its.take i)).map V.str)) ∧ H' pt = some (.lst ((heldN hs' ++ (legsOf (its.take i)).map (·.2.1)).map V.str))) ⟨⟨_, _, rfl⟩, s4, by rw [e1]; show _ = some (HO.lst ((_ ++ []).map V.str)); rw [List.append_nil], by rw [e2]; show _ = some (HO.lst ((_ ++ []).map V.str)); rw [List.append_nil]⟩ (fun i σ H' _ pp => SqL.of (pp.2.1 _ _ hl)) ?_ ?_⟩
    rotate_left
    · rintro σ H5 ⟨⟨v5, v10, rfl⟩, s5, e5, e6⟩
      rw [lus, List.take_length] at e5 e6
      exact rest _ _ ⟨_, _, _, rfl, s5, e5, e6⟩
    rintro i u σ H5 H6 hi' ⟨⟨v5, v10, rfl⟩, s5, e5, e6⟩ ⟨rfl, hu⟩
    have li : i < its.length := by omega
    have hit : its[i]? = some its[i] := List.getElem?_eq_getElem li
    generalize its[i] = it at hit
    obtain ⟨gi1, gi2⟩ := gi.2 it (List.mem_of_getElem? hit)
    obtain ⟨d, ed, iv⟩ := hi.get hu
    rw [List.getElem?_map, hit] at ed
    obtain rfl : itD it = d := Option.some.inj ed
    have l1 := legs_len gi i
    have l2 := sideL_len (its.take i)
    have l3 := held_len gc hs'.length
    rw [List.take_length] at l3
    cases iv with
    | tup hv rv zv =>
      rename_i t ws
      have lw : ws.length = it.length := by rw [rv.len, List.length_map]
      dsimp only [gName]
      have leg : ∀ {j : Nat} {u : V} {gl : Leg}, ws[j]? = some u → it[j]? = some gl → ∃ tg, u = .ref tg ∧ H tg = some (.tup (legVs gl)) := fun hu hz => by
        obtain ⟨d3, e3, iv3⟩ := rv.get hu
        rw [List.getElem?_map, hz] at e3
        obtain rfl := Option.some.inj e3
        exact leg_at iv3
      refine cut_if (fun σ H' => ∃ v10, σ = [some (.ref x), some (.ref a), some (.ref l), some (.ref ph), v4', some (.ref t), none, some (.ref pm), some (.ref pt), none, v10] ∧ Same H H' ∧ H' pm = some (.lst ((hs'.map (·.1) ++ sideL (its.take (i + 1))).map V.str)) ∧ H' pt = some (.lst ((heldN hs' ++ (legsOf (its.take i)).map (·.2.1)).map V.str))) ?_ fun rest => ?_
      rotate_left
      · refine ⟨_, rfl, .inl ⟨rfl, _, SqL.of e5⟩, _, rfl, t, rfl, ⟨_, SqT.of (s5 _ _ hv)⟩, fun B hB => lc_f walk_tup at_any it (fun g => V.str g.1) lw.symm (sz (m := 60) (by omega)) hB (fun H' s' => SqT.of (s' _ _ (s5 _ _ hv))) (fun j u gl H7 A lt hu hz s7 kA => ?_) (fun H7 s7 h7 => ?_)⟩
        · obtain ⟨tg, rfl, htg⟩ := leg hu hz
          refine ⟨rfl, ?_⟩
          exact ⟨_, rfl, tg, _, 0, _, rfl, rfl, SqT.of ((s5.trans s7) _ _ htg), rfl, kA _ (Same.refl _)⟩
        · have s57 := s5.trans s7
          have nB5 : ∀ {b : Addr} {o : HO}, H6 b = some o → b ≠ B := fun e z => by rw [z, hB] at e; cases e
          have s57 := s5.trans s7
          refine ⟨_, rfl, t, rfl, ⟨_, SqT.of (s57 _ _ hv)⟩, fun B2 hB2 => lc_f walk_tup at_any it (fun g => V.str g.2.2.2) lw.symm (sz (m := 60) (by omega)) hB2 (fun H' s' => SqT.of (s' _ _ (s57 _ _ hv))) (fun j u gl H8 A lt hu hz s8 kA => ?_) (fun H8 s8 h8 => ?_)⟩
          · obtain ⟨tg, rfl, htg⟩ := leg hu hz
            refine ⟨rfl, ?_⟩
            exact ⟨_, rfl, tg, _, 3, _, rfl, rfl, SqT.of ((s57.trans s8) _ _ htg), rfl, kA _ (Same.refl _)⟩
          · refine ⟨B, B2, _, _, rfl, rfl, s8 _ _ h7, h8, ?_, fun f hf => ?_⟩
            · rw [List.length_map, List.length_map]
              exact Nat.le_of_lt (sz (m := 60) (by omega))
            have ec : it.map (fun g => V.str g.1) ++ it.map (fun g => V.str g.2.2.2) = (it.map (·.1) ++ it.map (·.2.2.2)).map V.str := by
              rw [List.map_append, List.map_map, List.map_map]
              rfl
            rw [ec]
            have s9 := Same.up (o := .lst ((it.map (·.1) ++ it.map (·.2.2.2)).map V.str)) hf
            have e9 : (upd H8 f (.lst ((it.map (·.1) ++ it.map (·.2.2.2)).map V.str))) f = some (.lst ((it.map (·.1) ++ it.map (·.2.2.2)).map V.str)) := upd_same
            have s69 := s7.trans (s8.trans s9)
            generalize upd H8 f _ = H9 at s9 e9 s69 ⊢
            delta tNil
            dsimp only
            refine ⟨pm, f, _, _, rfl, rfl, s69 _ _ e5, e9, ?_, ?_⟩
            · rw [List.length_map, List.length_map, List.length_append, List.length_append, List.length_map, List.length_map, List.length_map]
              exact Nat.le_of_lt (sz (m := 600) (by omega))
            refine rest _ _ ⟨_, rfl, Sr.Same.set (s5.trans s69) m1, ?_, ?_⟩
            · rw [upd_same, sideL_take hit, ← List.append_assoc, List.map_append (l₁ := List.map (·.1) hs' ++ sideL (its.take i))]
            · rw [upd_ne nmt.symm]
              exact s69 _ _ e6
      · rintro σ H7 ⟨v10', rfl, s7, e7, e8⟩
        try dsimp only
        refine ⟨_, rfl, .inl ⟨rfl, _, SqL.of e8⟩, _, rfl, t, rfl, ⟨_, SqT.of (s7 _ _ hv)⟩, fun B hB => lc_f walk_tup at_any it (fun g => V.str g.2.1) lw.symm (sz (m := 60) (by omega)) hB (fun H' s' => SqT.of (s' _ _ (s7 _ _ hv))) (fun j u gl H8 A lt hu hz s8 kA => ?_) (fun H8 s8 h8 => ?_)⟩
        · obtain ⟨tg, rfl, htg⟩ := leg hu hz
          refine ⟨rfl, ?_⟩
          exact ⟨_, rfl, tg, _, 1, _, rfl, rfl, SqT.of ((s7.trans s8) _ _ htg), rfl, kA _ (Same.refl _)⟩
        · delta tNil
          dsimp only
          have s78 := s7.trans s8
          refine ⟨pt, B, _, _, rfl, rfl, s8 _ _ e8, h8, ?_, ?_⟩
          · rw [List.length_map, List.length_map, List.length_append, List.length_map]
            exact Nat.le_of_lt (sz (m := 600) (by omega))
          refine ⟨⟨_, _, rfl⟩, Sr.Same.set s78 m2, ?_, ?_⟩
          · rw [upd_ne nmt]
            exact s8 _ _ e7
          · rw [upd_same, legs_take hit, List.map_append (f := fun g : Leg => g.2.1), ← List.append_assoc, List.map_append (l₁ := heldN hs' ++ (legsOf (its.take i)).map (·.2.1)), List.map_map (f := fun g : Leg => g.2.1)]
            rfl
  clear e1 e2 s4
  rintro σ G5 ⟨v4, v5, v10, rfl, s5, e1, e2⟩
  try dsimp only
  have l3 := held_len gc hs'.length
  rw [List.take_length] at l3
  have l4 := legs_all gi
  have l5 := sideL_len its
  have okM : ∀ s ∈ hs'.map (·.1) ++ sides (legsOf its), nameOk (.str s) = true := fun s m => by
    rcases List.mem_append.mp m with m | m
    · obtain ⟨z, mz, rfl⟩ := List.mem_map.mp m
      exact (gc.2.2 z mz).1
    · obtain ⟨gl, mg, ms⟩ := List.mem_flatMap.mp m
      obtain ⟨it, mi, mg⟩ := List.mem_flatten.mp mg
      have gg := (gi.2 it mi).2 gl mg
      simp only [List.mem_cons, List.not_mem_nil, or_false] at ms
      rcases ms with rfl | rfl
      · exact gg.1
      · exact gg.2.2.1
  have okT : ∀ s ∈ heldN hs' ++ (legsOf its).map (·.2.1), nameOk (.str s) = true := fun s m => by
    rcases List.mem_append.mp m with m | m
    · obtain ⟨z, mz, ms⟩ := List.mem_flatMap.mp m
      obtain ⟨c, mc, rfl⟩ := List.mem_map.mp ms
      exact ((gc.2.2 z mz).2.2.2 c mc).1
    · obtain ⟨gl, mg, rfl⟩ := List.mem_map.mp m
      obtain ⟨it, mi, mg⟩ := List.mem_flatten.mp mg
      exact ((gi.2 it mi).2 gl mg).2.1
  refine cut_if (fun σ H' => σ = [some (.ref x), some (.ref a), some (.ref l), some (.ref ph), v4, v5, none, some (.ref pm), some (.ref pt), none, v10] ∧ Same H H') ?_ fun rest => ?_
  rotate_left
  · refine ⟨_, rfl, x, dx, _, rfl, s5 _ _ i0, rfl, x, hs', its, rfl, hq.mono s5, fun H1 p1 ys s6 hp1 e3 so1 => ?_⟩
    have s56 := s5.trans s6
    refine ⟨_, rfl, x, dx, _, rfl, s56 _ _ i0, rfl, x, hs', its, rfl, hq.mono s56, fun H2 p2 zs s7 hp2 e4 so2 => ?_⟩
    have s57 := s56.trans s7
    refine ⟨lineN (n := 2), fun lo hlo => ?_⟩
    have s8 := Same.up (o := .lst [.ref p1, .ref p2]) hlo
    have e5 : (upd H2 lo (.lst [.ref p1, .ref p2])) lo = some (.lst [.ref p1, .ref p2]) := upd_same
    generalize upd H2 lo _ = H3 at s8 e5 ⊢
    have s68 := s6.trans (s7.trans s8)
    refine ⟨_, rfl, pm, _, rfl, SqL.of (s68 _ _ e1), by rw [List.length_append, List.length_map]; omega, fun ys2 q1 pm1 so3 hq1 => ?_⟩
    have s9 := Same.up (o := .lst (ys2.map V.str)) hq1
    have e6 : (upd H3 q1 (.lst (ys2.map V.str))) q1 = some (.lst (ys2.map V.str)) := upd_same
    generalize upd H3 q1 _ = H4 at s9 e6 ⊢
    have s69 := s68.trans s9
    refine ⟨_, rfl, pt, _, rfl, SqL.of (s69 _ _ e2), by rw [List.length_append, List.length_map]; omega, fun zs2 q2 pm2 so4 hq2 => ?_⟩
    have s10 := Same.up (o := .lst (zs2.map V.str)) hq2
    have e7 : (upd H4 q2 (.lst (zs2.map V.str))) q2 = some (.lst (zs2.map V.str)) := upd_same
    generalize upd H4 q2 _ = H5 at s10 e7 ⊢
    refine ⟨lineN (n := 2), fun lo2 hlo2 => ?_⟩
    have s11 := Same.up (o := .lst [.ref q1, .ref q2]) hlo2
    have e8 : (upd H5 lo2 (.lst [.ref q1, .ref q2])) lo2 = some (.lst [.ref q1, .ref q2]) := upd_same
    generalize upd H5 lo2 _ = H6 at s11 e8 ⊢
    obtain rfl := setOf_one so1 (setOf_met pm1 so3) fun s => by
      rw [List.mem_append, List.mem_append, sideL_mem]
    obtain rfl := setOf_one so2 (setOf_met pm2 so4) fun s => Iff.rfl
    have oky : ∀ s ∈ ys, nameOk (.str s) = true := fun s m => okM s ((so1.2.2 s).mp m)
    have okz : ∀ s ∈ zs, nameOk (.str s) = true := fun s m => okT s ((so2.2.2 s).mp m)
    have ly : ys.length ≤ 60 := by
      have := nodup_len so1.1 fun s m => (so1.2.2 s).mp m
      rw [List.length_append, List.length_map, sides_len] at this
      omega
    have lz : zs.length ≤ 60 := by
      have := nodup_len so2.1 fun s m => (so2.2.2 s).mp m
      rw [List.length_append, List.length_map] at this
      omega
    have s3b := s9.trans (s10.trans s11)
    have s2b := s8.trans s3b
    have il : ∀ {G : Hp} {p : Addr} {ws : List Str}, G p = some (.lst (ws.map V.str)) → (∀ s ∈ ws, nameOk (.str s) = true) → ws.length ≤ 60 → Is G (.ref p) (.lst (ws.map Dt.str)) := fun h ok le => .lst h (isA_strs ok) (by rw [List.length_map]; exact le)
    refine ⟨.ref lo, .ref lo2, .lst [.lst (ys.map Dt.str), .lst (zs.map Dt.str)], rfl, .lst (s3b _ _ e5) (.cons (il ((s7.trans s2b) _ _ e3) oky ly) (.cons (il (s2b _ _ e4) okz lz) .nil)) (show 2 ≤ 60 by decide), .lst e8 (.cons (il ((s10.trans s11) _ _ e6) oky ly) (.cons (il (s11 _ _ e7) okz lz) .nil)) (show 2 ≤ 60 by decide), .lst _ _ fun d m => ?_, fun H7 s12 => ⟨_, rfl, ?_⟩⟩
    · simp only [List.mem_cons, List.not_mem_nil, or_false] at m
      rcases m with rfl | rfl
      · exact .lst _ _ (dep_strs _)
      · exact .lst _ _ (dep_strs _)
    exact iteF (rest _ _ ⟨rfl, s5.trans (s69.trans (s10.trans (s11.trans s12)))⟩)
  clear e1 e2
  rintro σ G6 ⟨rfl, s6⟩
  try dsimp only
  refine cut_if (fun σ H' => ∃ v4 v9, σ = [some (.ref x), some (.ref a), some (.ref l), some (.ref ph), v4, v5, none, some (.ref pm), some (.ref pt), v9, v10] ∧ Same H H') ?_ fun rest => ?_
  rotate_left
  · refine ⟨lineN (n := 4), fun tm htm => ?_⟩
    have s7 := Same.up (o := .tup [.str "a", .str "b", .str "c", .str "zz"]) htm
    have em : (upd G6 tm (.tup [.str "a", .str "b", .str "c", .str "zz"])) tm = some (.tup (askM.map V.str)) := upd_same
    have s67 := s6.trans s7
    generalize upd G6 tm _ = G7 at s67 em ⊢
    refine ⟨tm, rfl, ⟨_, SqT.of em⟩, for_it (walk_tup (xs := askM.map V.str)) (fun i σ H' => (∃ v4 v9, σ = [some (.ref x), some (.ref a), some (.ref l), some (.ref ph), v4, v5, none, some (.ref pm), some (.ref pt), v9, v10]) ∧ Same H H' ∧ H' tm = some (.tup (askM.map V.str))) ⟨⟨_, _, rfl⟩, s67, em⟩ (fun i σ H' _ pp => SqT.of pp.2.2) ?_ ?_⟩
    rotate_left
    · rintro σ H1 ⟨⟨v4', v9', rfl⟩, s8, _⟩
      exact rest _ _ ⟨_, _, rfl, s8⟩
    rintro i u σ H1 H2 hi1 ⟨⟨v4', v9', rfl⟩, s8, em⟩ ⟨rfl, hu⟩
    obtain ⟨y, hy, rfl⟩ := Option.map_eq_some_iff.mp (by rw [List.getElem?_map] at hu; exact hu)
    have gy := askM_ok y (List.mem_of_getElem? hy)
    dsimp only [gName]
    refine ⟨lineN (n := 3), fun tt htt => ?_⟩
    have s9 := Same.up (o := .tup [.str "coin", .str "x", .str "y"]) htt
    have et : (upd H2 tt (.tup [.str "coin", .str "x", .str "y"])) tt = some (.tup (askT.map V.str)) := upd_same
    have s89 := s8.trans s9
    have em := s9 _ _ em
    generalize upd H2 tt _ = H3 at s89 et em ⊢
    refine ⟨tt, rfl, ⟨_, SqT.of et⟩, for_it (walk_tup (xs := askT.map V.str)) (fun i σ H' => (∃ v9, σ = [some (.ref x), some (.ref a), some (.ref l), some (.ref ph), some (.str y), v5, none, some (.ref pm), some (.ref pt), v9, v10]) ∧ Same H H' ∧ H' tm = some (.tup (askM.map V.str)) ∧ H' tt = some (.tup (askT.map V.str))) ⟨⟨_, rfl⟩, s89, em, et⟩ (fun i σ H' _ pp => SqT.of pp.2.2.2) ?_ ?_⟩
    rotate_left
    · rintro σ H4 ⟨⟨v9, rfl⟩, s10, em, et⟩
      exact ⟨⟨_, _, rfl⟩, s10, em⟩
    rintro j u σ H4 H5 hj ⟨⟨v9, rfl⟩, s10, em, et⟩ ⟨rfl, hu⟩
    obtain ⟨z, hz, rfl⟩ := Option.map_eq_some_iff.mp (by rw [List.getElem?_map] at hu; exact hu)
    have gz := askT_ok z (List.mem_of_getElem? hz)
    dsimp only [gName]
    have lq := queue_len (.str y) (.str z) its
    refine ⟨_, rfl, x, dx, _, rfl, s10 _ _ i0, rfl, _, rfl, _, rfl, x, .str y, .str z, hs', its, .str y, .str z, rfl, hq.mono s10, .str y, name_shaped gy, .inl ⟨.str z, name_shaped gz⟩, fun H6 q1 s11 hq1 e1 => ?_⟩
    have s10b := s10.trans s11
    refine ⟨_, rfl, _, rfl, _, rfl, l, us, its, y, z, rfl, s10b _ _ hl, hi.mono s10b, gi, gy, gz, fun H7 q2 s12 hq2 e2 => ?_⟩
    delta tNil
    dsimp only
    refine ⟨.ref q1, .ref q2, .lst ((queueOf (.str y) (.str z) its).map Dt.int), rfl, .lst (s12 _ _ e1) (isA_ints _) (by rw [List.length_map]; omega), .lst e2 (isA_ints _) (by rw [List.length_map]; omega), .lst _ _ (dep_ints _), fun H8 s13 => ⟨_, rfl, ?_⟩⟩
    have s113 := s11.trans (s12.trans s13)
    exact iteF ⟨⟨_, rfl⟩, s10.trans s113, s113 _ _ em, s113 _ _ et⟩
  rintro σ G7 ⟨v4', v9', rfl, s7⟩
  try dsimp only
  refine ⟨_, rfl, x, dx, _, rfl, s7 _ _ i0, rfl, x, .non, .int 5, hs', its, .none, .int 5, rfl, hq.mono s7, .non, by decide, .inl ⟨.int 5, by decide⟩, fun H1 q1 s8 hq1 e1 => ?_⟩
  have s78 := s7.trans s8
  rw [queue_none fun it _ g _ => rfl] at e1
  refine ⟨_, rfl, x, dx, _, rfl, s78 _ _ i0, rfl, lineN (n := 1), fun la hla => fun da hda => ?_⟩
  have s9 := (Same.up (o := .lst [.str "a"]) hla).trans (Same.up (o := .dK []) hda)
  have e2 := Same.up (o := .dK []) hda _ _ (upd_same (H := H1) (a := la) (o := .lst [.str "a"]))
  generalize upd (upd H1 la _) da _ = H2 at s9 e2 ⊢
  have s79 := s78.trans s9
  refine ⟨x, .ref la, .ref da, hs', its, .list [.str "a"], .none, rfl, hq.mono s79, .lst (SqL.of e2) (.cons (.str _) .nil), by decide +kernel, .inr fun it _ g _ => rfl, fun H3 q2 s10 hq2 e3 => ?_⟩
  rw [queue_none fun it _ g _ => rfl] at e3
  have s710 := s79.trans s10
  refine ⟨_, rfl, x, dx, _, rfl, s710 _ _ i0, rfl, lineN (n := 1), fun ta hta => ?_⟩
  have s11 := Same.up (o := .tup [.str "coin"]) hta
  have e4 : (upd H3 ta (.tup [.str "coin"])) ta = some (.tup [.str "coin"]) := upd_same
  generalize upd H3 ta _ = H4 at s11 e4 ⊢
  have s711 := s710.trans s11
  delta tNil
  dsimp only
  refine ⟨x, .str "a", .ref ta, hs', its, .str "a", .tuple [.str "coin"], rfl, hq.mono s711, .str _, by decide +kernel, .inl ⟨.tup (SqT.of e4) (.cons (.str _) .nil), by decide +kernel⟩, fun H5 q3 s12 hq3 e5 => ?_⟩
  rw [queue_none fun it _ g _ => by unfold hitL; exact Bool.and_false _] at e5
  have s712 := s711.trans s12
  have e1' := (s9.trans (s10.trans (s11.trans s12))) _ _ e1
  have e3' := (s11.trans s12) _ _ e3
  refine ⟨lineN (n := 3), fun lo hlo => ?_⟩
  have s13 := Same.up (o := .lst [.ref q1, .ref q2, .ref q3]) hlo
  have e6 : (upd H5 lo (.lst [.ref q1, .ref q2, .ref q3])) lo = some (.lst [.ref q1, .ref q2, .ref q3]) := upd_same
  generalize upd H5 lo _ = H6 at s13 e6 ⊢
  have f1 := s13 _ _ e1'
  have f2 := s13 _ _ e3'
  have f3 := s13 _ _ e5
  have s713 := s712.trans s13
  try dsimp only
  refine ⟨_, rfl, lineN (n := 0), fun b1 hb1 => ⟨lineN (n := 0), fun b2 hb2 => ⟨lineN (n := 0), fun b3 hb3 => ⟨lineN (n := 3), fun b4 hb4 => ?_⟩⟩⟩⟩
  have t1 := Same.up (o := .lst []) hb1
  have t2 := Same.up (o := .lst []) hb2
  have t3 := Same.up (o := .lst []) hb3
  have t4 := Same.up (o := .lst [.ref b1, .ref b2, .ref b3]) hb4
  have g1 := (t2.trans (t3.trans t4)) _ _ upd_same
  have g2 := (t3.trans t4) _ _ upd_same
  have g3 := t4 _ _ upd_same
  have g4 : (upd (upd (upd (upd H6 b1 (.lst [])) b2 (.lst [])) b3 (.lst [])) b4 (.lst [.ref b1, .ref b2, .ref b3])) b4 = some (.lst [.ref b1, .ref b2, .ref b3]) := upd_same
  have t14 := t1.trans (t2.trans (t3.trans t4))
  generalize upd (upd (upd (upd H6 b1 _) b2 _) b3 _) b4 _ = H7 at t14 g1 g2 g3 g4 ⊢
  have em : ∀ {b : Addr}, H7 b = some (.lst []) → Dp K H7 (.ref b) (.list []) := fun h => .lst (SqL.of h) .nil
  have s714 := s713.trans t14
  refine ⟨.list [.list [], .list [], .list []], .list [.list [], .list [], .list []], .lst (SqL.of (t14 _ _ e6)) (.cons (em (t14 _ _ f1)) (.cons (em (t14 _ _ f2)) (.cons (em (t14 _ _ f3)) .nil))), .lst (SqL.of g4) (.cons (em g1) (.cons (em g2) (.cons (em g3) .nil))), by decide, by decide, _, rfl, ?_⟩
  refine iteT ⟨_, rfl, x, dx, _, rfl, s714 _ _ i0, x, hs', its, rfl, hq.mono s714, its.length, rfl, by omega, _, rfl, l, us, rfl, .inl (SqL.of (s714 _ _ hl)), rfl, ?_⟩
  rw [lus, decide_eq_true rfl]
  exact q _ s714
end
end K31

set_option Elab.async false
set_option linter.all false
set_option maxRecDepth 100000
set_option maxHeartbeats 4000000
namespace K31
open PySem PySem.Spec PyProof.Rows L2 Sr
/-! ### what is told is changed -/
/-- the rows' dicts, whatever is put into them -/
def RowsB (N H : Hp) (kv : List (Key × V)) (n : Nat) : Prop := ∀ q ∈ kv, ∃ d kr, q.2 = .ref d ∧ N d = none ∧ H d = some (.dK kr) ∧ kr.length ≤ n
theorem RowsB.mono {N H H' : Hp} {kv : List (Key × V)} {n : Nat} (s : Same H H') (h : RowsB N H kv n) : RowsB N H' kv n := fun q m => by
  obtain ⟨d, kr, e1, e2, e3, e4⟩ := h q m
  exact ⟨d, kr, e1, e2, s _ _ e3, e4⟩
theorem putK_len {kvs : List (Key × V)} {k : Key} {v : V} : (putK kvs k v).length ≤ kvs.length + 1 := by
  unfold putK
  split
  · rw [List.length_map]; omega
  · rw [List.length_append]; exact Nat.le_refl _
/-- one is added to a row -/
theorem RowsB.put {N H : Hp} {kv : List (Key × V)} {n : Nat} (h : RowsB N H kv n) {d : Addr} {kr : List (Key × V)} {k : Key} {v : V} (hd : H d = some (.dK kr)) (hl : kr.length ≤ n) : RowsB N (upd H d (.dK (putK kr k v))) kv (n + 1) := fun q m => by
  obtain ⟨d', kr', e1, e2, e3, e4⟩ := h q m
  by_cases e : d' = d
  · refine ⟨d', _, e1, e2, by rw [e, upd_same], ?_⟩
    exact Nat.le_trans putK_len (by omega)
  · exact ⟨d', kr', e1, e2, by rw [upd_ne e]; exact e3, by omega⟩
def spSpoilt (K : PySem.W.Frag) : Sp := fun vs H Q _ => ∃ (x : Addr) (hs : Hs) (its : Its), vs = [.ref x] ∧ QueR K H H x hs its ∧ ∀ H', Same H H' → Q .non H'
section
variable {P : Program} {w : World} {K : PySem.W.Frag} {mg : Str → Option Value} {base : Heap}
abbrev s__law_spoilt : Stmt := top 34
theorem sc__law_spoilt : FnScope ["queues", "seen", "member", "row"] ["queues"] (defScope s__law_spoilt) := ⟨rfl, rfl, rfl, by decide +kernel, rfl, by decide +kernel, by decide +kernel⟩
theorem c__law_spoilt (T : Txt K mg) (O : Que K mg) (OM : QueM3 K) (ME : MetQ P w K mg base) (D : Dfn K mg "_law_spoilt" s__law_spoilt) : Cal P w K mg base 5 "_law_spoilt" ["queues"] (spSpoilt K) := by
  obtain ⟨MH, MA, MM, MT, MQ, ML⟩ := ME
  refine D.cal sc__law_spoilt (fun _ _ _ _ _ _ us hl => match us, hl with | [_], _ => rfl) (fun vs H Q E h => ?_) fun cdv A outer s H vs Q E hr h => ?_
  · obtain ⟨x, hs, its, rfl, _⟩ := h
    rfl
  obtain ⟨x, hs, its, rfl, hq, q⟩ := h
  refine ⟨_, (pss_cons (ps_set (i := 1) sc__law_spoilt.nd rfl (by first | exact Or.inl rfl | exact Or.inr rfl) (m0_ MH hr (by decide) O.cl OM.holdings (pv 0)))
      (pss_cons (ps_for PassesOwn.never rfl (pi_list (pe_callTy (T := "list") (call_list_dK rfl) (by rfl) T.list (by decide +kernel) (pa_cons (pv 1) pa_nil))) (pg_name (i := 2) sc__law_spoilt.nd rfl (by first | exact Or.inl rfl | exact Or.inr rfl))
      (pss_cons (ps_set (i := 3) sc__law_spoilt.nd rfl (by first | exact Or.inl rfl | exact Or.inr rfl) (pe_dget (hu_of hr) (pv 1) (pv 2) (fun _ _ => rfl)))
      (pss_one (ps_dput (hu_of hr) (pv 3) pe_str pe_int rfl))))
      (pss_cons (ps_dput (hu_of hr) (pv 1) pe_str pe_dnewK rfl)
      (pss_cons (ps_expr (pe_bm PySem.F.plainAttrs_list PySem.F.slot_list_append PySem.F.type_list_append mt_append (m0_ MA hr (by decide) O.cl OM.all_items (pv 0)) (pa_cons pe_str pa_nil)))
      (pss_cons (ps_expr (pe_bm PySem.F.plainAttrs_list PySem.F.slot_list_append PySem.F.type_list_append mt_append (m0_ MM hr (by decide) O.cl OM.members (pv 0)) (pa_cons pe_str pa_nil)))
      (pss_cons (ps_expr (pe_bm PySem.F.plainAttrs_list PySem.F.slot_list_append PySem.F.type_list_append mt_append (m0_ MT hr (by decide) O.cl OM.things (pv 0)) (pa_cons pe_str pa_nil)))
      (pss_one (ps_expr (pe_bm PySem.F.plainAttrs_list PySem.F.slot_list_append PySem.F.type_list_append mt_append (mA_ (K := K) MQ rfl hr (by decide) O.cl OM.queue (pv 0) (pa_cons pe_str (pa_cons pe_str pa_nil))) (pa_cons pe_int pa_nil)))))))))), ?_⟩
  obtain ⟨dx, fc, fl, kc, uq, i0, i1, i2, i3, i4, gc, gi⟩ := id hq
  refine ⟨_, rfl, x, dx, _, rfl, i0, rfl, x, hs, its, rfl, hq, fun H1 p kd s1 hp hp1 hn nd => ?_⟩
  try dsimp only
  have lkd : kd.length = hs.length := Paired.length hn
  have lh := gc.2.1
  have ek : (kd.map fun kv => kV kv.1) = (hs.map (·.1)).map V.str := (keys_names (F := fun v (r : Rw) => ∃ d kr, v = .ref d ∧ newH H H1 d = some (.dK kr) ∧ CoinsC kr r) hn).1
  have ndk := keys_nd (F := fun v (r : Rw) => ∃ d kr, v = .ref d ∧ newH H H1 d = some (.dK kr) ∧ CoinsC kr r) hn gc.1
  have rb : RowsB H H1 kd 6 := fun z m => by
    obtain ⟨i, hi⟩ := List.mem_iff_getElem?.mp m
    have li := (List.getElem?_eq_some_iff.mp hi).1
    obtain ⟨_, d, kr, e1, e2, e3⟩ := Paired.at2 hn hi (List.getElem?_eq_getElem (show i < hs.length by omega))
    exact ⟨d, kr, e1, new_no e2, new_same _ _ e2, by rw [Paired.length e3]; exact (gc.2.2 _ (List.getElem_mem _)).2.2.1⟩
  have np : ∀ z ∈ kd, z.2 ≠ .ref p := fun z m e => by
    obtain ⟨i, hi⟩ := List.mem_iff_getElem?.mp m
    have li := (List.getElem?_eq_some_iff.mp hi).1
    obtain ⟨_, d, kr, e1, e2, e3⟩ := Paired.at2 hn hi (List.getElem?_eq_getElem (show i < hs.length by omega))
    have e1 : z.2 = .ref d := e1
    exact (hn.mono new_same).apart (fun z => by rw [z] at m; cases m) hp1 (new_same _ _ e2) e3 (V.ref.inj (e1.symm.trans e))
  refine cut_if (fun σ H' => (∃ v2 v3, σ = [some (.ref x), some (.ref p), v2, v3]) ∧ Same H H' ∧ H' p = some (.dK kd)) ?_ fun rest => ?_
  rotate_left
  · refine ⟨_, rfl, p, kd, rfl, hp1, fun lk hlk => ?_⟩
    have s2 := Same.up (o := .lst (kd.map fun kv => kV kv.1)) hlk
    rw [ek] at s2 ⊢
    have el : (upd H1 lk (.lst ((hs.map (·.1)).map V.str))) lk = some (.lst ((hs.map (·.1)).map V.str)) := upd_same
    generalize upd H1 lk _ = H2 at s2 el ⊢
    refine ⟨lk, rfl, ⟨_, SqL.of el⟩, for_it walk_list (fun i σ H' => (∃ v2 v3, σ = [some (.ref x), some (.ref p), v2, v3]) ∧ Same H H' ∧ H' p = some (.dK kd) ∧ H' lk = some (.lst ((hs.map (·.1)).map V.str)) ∧ RowsB H H' kd (6 + i)) ⟨⟨_, _, rfl⟩, s1.trans s2, s2 _ _ hp1, el, rb.mono s2⟩ (fun i σ H' _ pp => SqL.of pp.2.2.2.1) ?_ ?_⟩
    rotate_left
    · rintro σ H3 ⟨⟨v2, v3, rfl⟩, s3, e1, e2, e3⟩
      exact rest _ _ ⟨⟨_, _, rfl⟩, s3, e1⟩
    rintro i u σ H3 H4 hi ⟨⟨v2, v3, rfl⟩, s3, e1, e2, e3⟩ ⟨rfl, hu⟩
    rw [List.length_map, List.length_map] at hi
    rw [List.getElem?_map] at hu
    obtain ⟨y, hy, rfl⟩ := Option.map_eq_some_iff.mp hu
    have hk : kd[i]? = some kd[i] := List.getElem?_eq_getElem (by omega)
    obtain ⟨z, hz⟩ : ∃ z, hs[i]? = some z := ⟨hs[i], List.getElem?_eq_getElem hi⟩
    obtain ⟨ek2, _⟩ := Paired.at2 hn hk hz
    rw [List.getElem?_map, hz] at hy
    obtain rfl : z.1 = y := Option.some.inj hy
    obtain ⟨d, kr, f1, f2, f3, f4⟩ := e3 _ (List.mem_of_getElem? hk)
    have npd := np _ (List.mem_of_getElem? hk)
    rw [f1] at npd
    have vv : valV kd (Sum.inr z.1) = some (.ref d) := by
      have ekd : kd[i] = (Sum.inr z.1, V.ref d) := Prod.ext ek2 f1
      exact val_nodup ndk _ (ekd ▸ List.mem_of_getElem? hk)
    dsimp only [gName]
    refine ⟨_, rfl, _, rfl, p, .ref d, rfl, .inl ⟨kd, Sum.inr z.1, .inl e1, rfl, vv.symm⟩, ?_⟩
    try dsimp only
    refine ⟨_, rfl, d, _, rfl, .inl ⟨kr, Sum.inr "zz", f3, rfl, sz (m := 60) (by omega) (by decide), rfl⟩, ⟨_, _, rfl⟩, Sr.Same.set s3 f2, ?_, ?_, ?_⟩
    · rw [upd_ne fun z => npd (by rw [z])]
      exact e1
    · rw [upd_ne fun z => by rw [z, f3] at e2; cases e2]
      exact e2
    · exact e3.put f3 f4
  rintro σ G1 ⟨⟨v2, v3, rfl⟩, s2, e1⟩
  try dsimp only
  have m1 : H p = none := hp
  refine cut_if (fun σ H' => σ = [some (.ref x), some (.ref p), v2, v3] ∧ Same H H') ?_ fun rest => ?_
  rotate_left
  · exact fun d hd => ⟨_, rfl, p, _, rfl, .inl ⟨kd, Sum.inr "zz", Same.up hd _ _ e1, rfl, sz (m := 60) (by omega) (by decide), rfl⟩, rest _ _ ⟨rfl, Sr.Same.set (s2.trans (Same.up hd)) m1⟩⟩
  clear e1 s2
  rintro σ G2 ⟨rfl, s2⟩
  try dsimp only
  refine cut_if (fun σ H' => σ = [some (.ref x), some (.ref p), v2, v3] ∧ Same H H') ?_ fun rest => ?_
  rotate_left
  · refine ⟨_, rfl, x, dx, _, rfl, s2 _ _ i0, rfl, x, hs, its, rfl, hq.mono s2, fun p2 us2 hp2 is2 => ?_⟩
    refine ⟨.inl ⟨rfl, _, SqL.of upd_same⟩, p2, us2, _, rfl, rfl, upd_same, sz (m := 60) (by rw [is2.len, List.length_map]; have := gi.1; omega), rest _ _ ⟨rfl, Sr.Same.set (s2.trans (Same.up hp2)) (free_below s2 hp2)⟩⟩
  clear s2
  rintro σ G3 ⟨rfl, s2⟩
  try dsimp only
  have l4 := legs_all gi
  refine cut_if (fun σ H' => σ = [some (.ref x), some (.ref p), v2, v3] ∧ Same H H') ?_ fun rest => ?_
  rotate_left
  · refine ⟨_, rfl, x, dx, _, rfl, s2 _ _ i0, rfl, x, hs, its, rfl, hq.mono s2, fun H2 p2 ys s3 hp2 e2 so => ?_⟩
    have ly := nodup_len so.1 fun s m => (so.2.2 s).mp m
    rw [List.length_append, List.length_map, sides_len] at ly
    exact ⟨.inl ⟨rfl, _, SqL.of e2⟩, p2, _, _, rfl, rfl, e2, sz (m := 60) (by rw [List.length_map]; omega), rest _ _ ⟨rfl, Sr.Same.set (s2.trans s3) (free_below s2 hp2)⟩⟩
  clear s2
  rintro σ G4 ⟨rfl, s2⟩
  try dsimp only
  have l3 := held_len gc hs.length
  rw [List.take_length] at l3
  refine cut_if (fun σ H' => σ = [some (.ref x), some (.ref p), v2, v3] ∧ Same H H') ?_ fun rest => ?_
  rotate_left
  · refine ⟨_, rfl, x, dx, _, rfl, s2 _ _ i0, rfl, x, hs, its, rfl, hq.mono s2, fun H2 p2 ys s3 hp2 e2 so => ?_⟩
    have ly := nodup_len so.1 fun s m => (so.2.2 s).mp m
    rw [List.length_append, List.length_map] at ly
    exact ⟨.inl ⟨rfl, _, SqL.of e2⟩, p2, _, _, rfl, rfl, e2, sz (m := 60) (by rw [List.length_map]; omega), rest _ _ ⟨rfl, Sr.Same.set (s2.trans s3) (free_below s2 hp2)⟩⟩
  clear s2
  rintro σ G5 ⟨rfl, s2⟩
  try dsimp only
  have lq := queue_len (.str "a") (.str "coin") its
  have ok1 : SeqAt.shaped (.str "a") = true := by decide +kernel
  have ok2 : SeqAt.shaped (.str "coin") = true := by decide +kernel
  have lg := gi.1
  refine ⟨_, rfl, x, dx, _, rfl, s2 _ _ i0, rfl, x, .str "a", .str "coin", hs, its, .str "a", .str "coin", rfl, hq.mono s2, .str _, ok1, .inl ⟨.str _, ok2⟩, fun H6 q1 s11 hq1 e1 => ?_⟩
  exact ⟨.inl ⟨rfl, _, SqL.of e1⟩, q1, _, _, rfl, rfl, e1, sz (m := 60) (by rw [List.length_map]; omega), q _ (Sr.Same.set (s2.trans s11) (free_below s2 hq1))⟩
end
end K31

set_option Elab.async false
set_option linter.all false
set_option maxRecDepth 100000
set_option maxHeartbeats 4000000
namespace K31
open PySem PySem.Spec PyProof.Rows L2 Sr
/-! ### what was handed is changed (N: what stays) -/
def isLegAt (N H : Hp) (t : Addr) : Prop := ∃ g : Leg, H t = some (.tup (legVs g)) ∨ (N t = none ∧ H t = some (.lst (legVs g)))
def legOk (N H : Hp) (t : Addr) : Prop := ∃ xs : List V, xs.length = 4 ∧ (H t = some (.tup xs) ∨ (N t = none ∧ H t = some (.lst xs)))
def itmOk (N H0 H : Hp) (n : Nat) (t : Addr) : Prop := ∃ us : List V, us.length ≤ n ∧ (H t = some (.tup us) ∨ (N t = none ∧ H t = some (.lst us))) ∧ ∀ u ∈ us, (∃ s, u = V.str s) ∨ ∃ b, u = .ref b ∧ isLegAt N H0 b
/-- while things are changed: what stays, what legs and items are -/
structure Spl (N H0 : Hp) (p : Addr) (ws : List V) (n : Nat) (H : Hp) : Prop where
  s : Same N H
  t : Tups H0 H
  p : H p = some (.lst ws)
  lg : ∀ b, isLegAt N H0 b → legOk N H b
  it : ∀ b, V.ref b ∈ ws → itmOk N H0 H n b
/-- what does not hang together: the list, the items, the legs -/
structure Apt (N H0 : Hp) (p : Addr) (ws : List V) : Prop where
  n : N p = none
  pl : ¬ isLegAt N H0 p
  pi : V.ref p ∉ ws
  li : ∀ b, isLegAt N H0 b → V.ref b ∉ ws
theorem Spl.le {N H0 H : Hp} {p : Addr} {ws : List V} {n m : Nat} (h : Spl N H0 p ws n H) (l : n ≤ m) : Spl N H0 p ws m H :=
  ⟨h.s, h.t, h.p, h.lg, fun b m => by
    obtain ⟨us, h1, h2⟩ := h.it b m
    exact ⟨us, by omega, h2⟩⟩
/-- a leg is changed -/
theorem Spl.leg {N H0 H : Hp} {p : Addr} {ws : List V} {n : Nat} (h : Spl N H0 p ws n H) (a : Apt N H0 p ws) {t : Addr} {xs ys : List V} (hl : isLegAt N H0 t) (nt : N t = none) (ht : H t = some (.lst xs)) (l : ys.length = 4) : Spl N H0 p ws n (upd H t (.lst ys)) where
  s := Sr.Same.set h.s nt
  t := fun b us e => by rw [upd_ne (ne_of (h.t _ _ e) ht (by intro z; cases z))]; exact h.t _ _ e
  p := by rw [upd_ne fun z => a.pl (by rw [z]; exact hl)]; exact h.p
  lg := fun b hb => by
    by_cases e : b = t
    · rw [e]
      exact ⟨ys, l, .inr ⟨nt, upd_same⟩⟩
    · obtain ⟨xs, h1, h2⟩ := h.lg b hb
      exact ⟨xs, h1, by rw [upd_ne e]; exact h2⟩
  it := fun b hb => by
    have e : b ≠ t := fun e => a.li t hl (e ▸ hb)
    obtain ⟨us, h1, h2, h3⟩ := h.it b hb
    exact ⟨us, h1, by rw [upd_ne e]; exact h2, h3⟩
/-- an item grows -/
theorem Spl.itm {N H0 H : Hp} {p : Addr} {ws : List V} {n : Nat} (h : Spl N H0 p ws n H) (a : Apt N H0 p ws) {t : Addr} {us : List V} {x : Str} (hi : V.ref t ∈ ws) (nt : N t = none) (ht : H t = some (.lst us)) (l : us.length ≤ n) (k : ∀ u ∈ us, (∃ s, u = V.str s) ∨ ∃ b, u = .ref b ∧ isLegAt N H0 b) : Spl N H0 p ws (n + 1) (upd H t (.lst (us ++ [.str x]))) where
  s := Sr.Same.set h.s nt
  t := fun b us e => by rw [upd_ne (ne_of (h.t _ _ e) ht (by intro z; cases z))]; exact h.t _ _ e
  p := by rw [upd_ne fun z => a.pi (by rw [z]; exact hi)]; exact h.p
  lg := fun b hb => by
    have e : b ≠ t := fun e => a.li b hb (by rw [e]; exact hi)
    obtain ⟨xs, h1, h2⟩ := h.lg b hb
    exact ⟨xs, h1, by rw [upd_ne e]; exact h2⟩
  it := fun b hb => by
    by_cases e : b = t
    · rw [e]
      refine ⟨us ++ [.str x], by rw [List.length_append]; show _ + 1 ≤ _; omega, .inr ⟨nt, upd_same⟩, fun u m => ?_⟩
      rcases List.mem_append.mp m with m | m
      · exact k u m
      · exact .inl ⟨x, List.mem_singleton.mp m⟩
    · obtain ⟨us, h1, h2, h3⟩ := h.it b hb
      exact ⟨us, by omega, by rw [upd_ne e]; exact h2, h3⟩
/-- nothing that stands is changed -/
theorem Spl.same {N H0 H H' : Hp} {p : Addr} {ws : List V} {n : Nat} (h : Spl N H0 p ws n H) (s : Same H H') : Spl N H0 p ws n H' where
  s := h.s.trans s
  t := fun b us e => s _ _ (h.t _ _ e)
  p := s _ _ h.p
  lg := fun b hb => by
    obtain ⟨xs, h1, h2⟩ := h.lg b hb
    exact ⟨xs, h1, h2.imp (s _ _) fun h => ⟨h.1, s _ _ h.2⟩⟩
  it := fun b hb => by
    obtain ⟨us, h1, h2, h3⟩ := h.it b hb
    exact ⟨us, h1, h2.imp (s _ _) fun h => ⟨h.1, s _ _ h.2⟩, h3⟩
/-- a dict is changed -/
theorem Spl.dict {N H0 H : Hp} {p d : Addr} {ws : List V} {n : Nat} {kv kv' : List (Key × V)} (h : Spl N H0 p ws n H) (nd : N d = none) (hd : H d = some (.dK kv)) : Spl N H0 p ws n (upd H d (.dK kv')) where
  s := Sr.Same.set h.s nd
  t := fun b us e => by rw [upd_ne (ne_of (h.t _ _ e) hd (by intro z; cases z))]; exact h.t _ _ e
  p := by rw [upd_ne (ne_of h.p hd (by intro z; cases z))]; exact h.p
  lg := fun b hb => by
    obtain ⟨xs, h1, h2⟩ := h.lg b hb
    exact ⟨xs, h1, h2.imp (fun h => by rw [upd_ne (ne_of h hd (by intro z; cases z))]; exact h) fun h => ⟨h.1, by rw [upd_ne (ne_of h.2 hd (by intro z; cases z))]; exact h.2⟩⟩
  it := fun b hb => by
    obtain ⟨us, h1, h2, h3⟩ := h.it b hb
    exact ⟨us, h1, h2.imp (fun h => by rw [upd_ne (ne_of h hd (by intro z; cases z))]; exact h) fun h => ⟨h.1, by rw [upd_ne (ne_of h.2 hd (by intro z; cases z))]; exact h.2⟩, h3⟩
theorem legVs_str (g : Leg) : ∃ r, legVs g = .str g.1 :: r := ⟨_, rfl⟩
theorem itm_not_leg {N H : Hp} {v : V} {it : List Leg} (h : ItmN N H v it) {b : Addr} (e : v = .ref b) : ¬ isLegAt N H b := fun ⟨g, hg⟩ => by
  obtain ⟨t, us, e1, h2, h3⟩ := h
  obtain rfl : t = b := V.ref.inj (e1.symm.trans e)
  have : us = legVs g := by
    rcases h2 with h2 | ⟨_, h2⟩ <;> rcases hg with hg | ⟨_, hg⟩ <;> rw [h2] at hg <;> injection hg with hg <;> injection hg
  subst this
  cases h3 with
  | cons h _ =>
    obtain ⟨_, e, _⟩ := h
    cases e
theorem spl_of {N H : Hp} {p : Addr} {ws : List V} {its : Its} (s : Same N H) (np : N p = none) (hp : H p = some (.lst ws)) (h : Paired (ItmN N H) ws its) (g : goodIts its) : Spl N H p ws 2 H ∧ Apt N H p ws := by
  have at_ : ∀ {v : V}, v ∈ ws → ∃ it ∈ its, ItmN N H v it := fun m => by
    obtain ⟨i, hi⟩ := List.mem_iff_getElem?.mp m
    have li := (List.getElem?_eq_some_iff.mp hi).1
    have := Paired.length h
    exact ⟨its[i], List.getElem_mem _, Paired.at2 h hi (List.getElem?_eq_getElem (by omega))⟩
  have li : ∀ b, isLegAt N H b → V.ref b ∉ ws := fun b hb m => by
    obtain ⟨it, _, hi⟩ := at_ m
    exact itm_not_leg hi rfl hb
  refine ⟨⟨s, fun _ _ e => e, hp, fun b ⟨g, hg⟩ => ⟨_, rfl, hg⟩, fun b m => ?_⟩, np, fun hb => ?_, fun m => ?_, li⟩
  · obtain ⟨it, mi, t, us, e1, h2, h3⟩ := at_ m
    obtain rfl := V.ref.inj e1
    refine ⟨us, by rw [Paired.length h3]; exact (g.2 it mi).1, h2, fun u mu => ?_⟩
    obtain ⟨j, hj⟩ := List.mem_iff_getElem?.mp mu
    have lj := (List.getElem?_eq_some_iff.mp hj).1
    have := Paired.length h3
    obtain ⟨tg, e, hg⟩ := Paired.at2 h3 hj (List.getElem?_eq_getElem (show j < it.length by omega))
    exact .inr ⟨tg, e, it[j], hg⟩
  · obtain ⟨g, hg⟩ := hb
    have : ws = legVs g := by
      rcases hg with hg | ⟨_, hg⟩ <;> rw [hp] at hg <;> injection hg with hg <;> injection hg
    obtain ⟨it, _, t, us, e, _⟩ := at_ (v := .str g.1) (by rw [this]; exact List.mem_cons_self)
    cases e
  · obtain ⟨it, mi, t, us, e1, h2, h3⟩ := at_ m
    obtain rfl := V.ref.inj e1
    have : us = ws := by
      rcases h2 with h2 | ⟨_, h2⟩
      · rw [hp] at h2
        cases h2
      · rw [hp] at h2
        cases h2
        rfl
    subst this
    cases h with
    | nil => cases m
    | cons a _ =>
      cases h3 with
      | cons b _ =>
        obtain ⟨tg, e, hg⟩ := b
        exact itm_not_leg a e ⟨_, hg⟩
def spHandSp : Sp := fun vs H Q _ => ∃ (hd p : Addr) (kv : List (Key × V)) (ws : List V) (hs : Hs) (its : Its) (N : Hp), vs = [.ref hd, .ref p] ∧ Same N H ∧ N hd = none ∧ H hd = some (.dK kv) ∧ HldR H kv hs ∧ goodH hs ∧ (∀ q ∈ kv, ∀ d, q.2 = .ref d → N d = none) ∧ N p = none ∧ H p = some (.lst ws) ∧ Paired (ItmN N H) ws its ∧ goodIts its ∧ ∀ H', Same N H' → Tups H H' → Q .non H'
section
variable {P : Program} {w : World} {K : PySem.W.Frag} {mg : Str → Option Value} {base : Heap}
abbrev s__law_handed_spoilt : Stmt := top 33
theorem sc__law_handed_spoilt : FnScope ["handed", "passed", "member", "item", "row", "leg"] ["handed", "passed"] (defScope s__law_handed_spoilt) := ⟨rfl, rfl, rfl, by decide +kernel, rfl, by decide +kernel, by decide +kernel⟩
theorem c__law_handed_spoilt (T : Txt K mg) (D : Dfn K mg "_law_handed_spoilt" s__law_handed_spoilt) : Cal P w K mg base 1 "_law_handed_spoilt" ["handed", "passed"] spHandSp := by
  refine D.cal sc__law_handed_spoilt (fun _ _ _ _ _ _ us hl => match us, hl with | [_, _], _ => rfl) (fun vs H Q E h => ?_) fun cdv A outer s H vs Q E hr h => ?_
  · obtain ⟨hd, p, kv, ws, hs, its, N, rfl, _⟩ := h
    rfl
  obtain ⟨hd, p, kv, ws, hs, its, N, rfl, sN, nhd, hhd, hh, gh, nrow, np, hp, pi, gi, q⟩ := h
  refine ⟨_, (pss_cons (ps_for PassesOwn.never rfl (pi_list (pe_callTy (T := "list") (call_list_dK rfl) (by rfl) T.list (by decide +kernel) (pa_cons (pv 0) pa_nil))) (pg_name (i := 2) sc__law_handed_spoilt.nd rfl (by first | exact Or.inl rfl | exact Or.inr rfl))
      (pss_cons (ps_set (i := 4) sc__law_handed_spoilt.nd rfl (by first | exact Or.inl rfl | exact Or.inr rfl) (pe_dget (hu_of hr) (pv 0) (pv 2) (fun _ _ => rfl)))
      (pss_one (ps_dput (hu_of hr) (pv 4) pe_str pe_int rfl))))
      (pss_cons (ps_dput (hu_of hr) (pv 0) pe_str (pe_disp (pps_cons pe_str pe_int pps_nil) (by rfl) (by rfl) (fun z => by cases z) (by decide)) rfl)
      (pss_cons (ps_for PassesOwn.never rfl (pi_list (pv 1)) (pg_name (i := 3) sc__law_handed_spoilt.nd rfl (by first | exact Or.inl rfl | exact Or.inr rfl))
      (pss_cons (ps_for PassesOwn.never rfl (pi_seq (pv 3)) (pg_name (i := 5) sc__law_handed_spoilt.nd rfl (by first | exact Or.inl rfl | exact Or.inr rfl))
      (pss_one (ps_if (pt_val (pe_callB (id := "isinstance") call_isi (by rfl) T.isinstance (by decide +kernel) (pa_cons (pv 5) (pa_cons (pe_tyv (n := "list") (by rfl) T.list (by decide +kernel)) pa_nil)))) (pss_one (ps_asg pe_int (pg_sub (pv 5) pe_int set_list))) pss_nil)))
      (pss_one (ps_if (pt_val (pe_callB (id := "isinstance") call_isi (by rfl) T.isinstance (by decide +kernel) (pa_cons (pv 3) (pa_cons (pe_tyv (n := "list") (by rfl) T.list (by decide +kernel)) pa_nil)))) (pss_one (ps_expr (pe_bm PySem.F.plainAttrs_list PySem.F.slot_list_append PySem.F.type_list_append mt_append (pv 3) (pa_cons pe_str pa_nil)))) pss_nil))))
      (pss_one (ps_expr (pe_bm PySem.F.plainAttrs_list PySem.F.slot_list_append PySem.F.type_list_append mt_append (pv 1) (pa_cons pe_str pa_nil))))))), ?_⟩
  obtain ⟨S0, ap⟩ := spl_of sN np hp pi gi
  have lkd : kv.length = hs.length := Paired.length hh
  have lh := gh.2.1
  have ek : (kv.map fun kv => kV kv.1) = (hs.map (·.1)).map V.str := (keys_names (F := fun v (r : Rw) => ∃ d kr, v = .ref d ∧ H d = some (.dK kr) ∧ CoinsC kr r) hh).1
  have ndk := keys_nd (F := fun v (r : Rw) => ∃ d kr, v = .ref d ∧ H d = some (.dK kr) ∧ CoinsC kr r) hh gh.1
  have lws : ws.length = its.length := Paired.length pi
  have lit := gi.1
  have rb : RowsB N H kv 6 := fun z m => by
    obtain ⟨i, hi⟩ := List.mem_iff_getElem?.mp m
    have li := (List.getElem?_eq_some_iff.mp hi).1
    obtain ⟨_, d, kr, e1, e2, e3⟩ := Paired.at2 hh hi (List.getElem?_eq_getElem (show i < hs.length by omega))
    exact ⟨d, kr, e1, nrow z m d e1, e2, by rw [Paired.length e3]; exact (gh.2.2 _ (List.getElem_mem _)).2.2.1⟩
  have npd : ∀ z ∈ kv, z.2 ≠ .ref hd := fun z m e => by
    obtain ⟨i, hi⟩ := List.mem_iff_getElem?.mp m
    have li := (List.getElem?_eq_some_iff.mp hi).1
    obtain ⟨_, d, kr, e1, e2, e3⟩ := Paired.at2 hh hi (List.getElem?_eq_getElem (show i < hs.length by omega))
    have e1 : z.2 = .ref d := e1
    exact hh.apart (fun z => by rw [z] at m; cases m) hhd e2 e3 (V.ref.inj (e1.symm.trans e))
  refine cut_if (fun σ H' => (∃ v2 v3 v4 v5, σ = [some (.ref hd), some (.ref p), v2, v3, v4, v5]) ∧ Spl N H p ws 2 H' ∧ H' hd = some (.dK kv)) ?_ fun rest => ?_
  rotate_left
  · refine ⟨_, rfl, hd, kv, rfl, hhd, fun lk hlk => ?_⟩
    have s2 := Same.up (o := .lst (kv.map fun kv => kV kv.1)) hlk
    rw [ek] at s2 ⊢
    have el : (upd H lk (.lst ((hs.map (·.1)).map V.str))) lk = some (.lst ((hs.map (·.1)).map V.str)) := upd_same
    generalize upd H lk _ = H2 at s2 el ⊢
    refine ⟨lk, rfl, ⟨_, SqL.of el⟩, for_it walk_list (fun i σ H' => (∃ v2 v4, σ = [some (.ref hd), some (.ref p), v2, none, v4, none]) ∧ Spl N H p ws 2 H' ∧ H' hd = some (.dK kv) ∧ H' lk = some (.lst ((hs.map (·.1)).map V.str)) ∧ RowsB N H' kv (6 + i)) ⟨⟨_, _, rfl⟩, S0.same s2, s2 _ _ hhd, el, rb.mono s2⟩ (fun i σ H' _ pp => SqL.of pp.2.2.2.1) ?_ ?_⟩
    rotate_left
    · rintro σ H3 ⟨⟨v2, v3, rfl⟩, s3, e1, e2, e3⟩
      exact rest _ _ ⟨⟨_, _, _, _, rfl⟩, s3, e1⟩
    rintro i u σ H3 H4 hi ⟨⟨v2, v3, rfl⟩, s3, e1, e2, e3⟩ ⟨rfl, hu⟩
    rw [List.length_map, List.length_map] at hi
    rw [List.getElem?_map] at hu
    obtain ⟨y, hy, rfl⟩ := Option.map_eq_some_iff.mp hu
    have hk : kv[i]? = some kv[i] := List.getElem?_eq_getElem (by omega)
    obtain ⟨z, hz⟩ : ∃ z, hs[i]? = some z := ⟨hs[i], List.getElem?_eq_getElem hi⟩
    obtain ⟨ek2, _⟩ := Paired.at2 hh hk hz
    rw [List.getElem?_map, hz] at hy
    obtain rfl : z.1 = y := Option.some.inj hy
    obtain ⟨d, kr, f1, f2, f3, f4⟩ := e3 _ (List.mem_of_getElem? hk)
    have npd' := npd _ (List.mem_of_getElem? hk)
    rw [f1] at npd'
    have vv : valV kv (Sum.inr z.1) = some (.ref d) := by
      have ekd : kv[i] = (Sum.inr z.1, V.ref d) := Prod.ext ek2 f1
      exact val_nodup ndk _ (ekd ▸ List.mem_of_getElem? hk)
    dsimp only [gName]
    refine ⟨_, rfl, _, rfl, hd, .ref d, rfl, .inl ⟨kv, Sum.inr z.1, .inl e1, rfl, vv.symm⟩, ?_⟩
    try dsimp only
    refine ⟨_, rfl, d, _, rfl, .inl ⟨kr, Sum.inr "zz", f3, rfl, sz (m := 60) (by omega) (by decide), rfl⟩, ⟨_, _, rfl⟩, s3.dict f2 f3, ?_, ?_, ?_⟩
    · rw [upd_ne fun z => npd' (by rw [z])]
      exact e1
    · rw [upd_ne fun z => by rw [z, f3] at e2; cases e2]
      exact e2
    · exact e3.put f3 f4
  rintro σ G1 ⟨⟨v2, v3, v4, v5, rfl⟩, S1, e1⟩
  try dsimp only
  refine cut_if (fun σ H' => σ = [some (.ref hd), some (.ref p), v2, v3, v4, v5] ∧ Spl N H p ws 2 H') ?_ fun rest => ?_
  rotate_left
  · refine fun d hdd => ?_
    refine ⟨upd_same, [(Sum.inr "coin", .int 5)], rfl, by decide, ?_⟩
    have s2 : Same G1 (upd (upd G1 d (.dK [])) d (.dK (mergeK [] [(Sum.inr "coin", .int 5)]))) := fun b o e => by
      rw [upd_ne (ne_of_none e hdd), upd_ne (ne_of_none e hdd)]
      exact e
    generalize upd (upd G1 d (.dK [])) d _ = G1' at s2 ⊢
    exact ⟨_, rfl, hd, _, rfl, .inl ⟨kv, Sum.inr "zz", s2 _ _ e1, rfl, sz (m := 60) (by omega) (by decide), rfl⟩, rest _ _ ⟨rfl, (S1.same s2).dict nhd (s2 _ _ e1)⟩⟩
  rintro σ G2 ⟨rfl, S2⟩
  try dsimp only
  refine cut_if (fun σ H' => (∃ v3 v5, σ = [some (.ref hd), some (.ref p), v2, v3, v4, v5]) ∧ Spl N H p ws 20 H') ?_ fun rest => ?_
  rotate_left
  · refine ⟨_, rfl, p, rfl, ⟨_, SqL.of S2.p⟩, for_it (walk_list (xs := ws)) (fun i σ H' => (∃ v3 v5, σ = [some (.ref hd), some (.ref p), v2, v3, v4, v5]) ∧ Spl N H p ws (2 + i) H') ⟨⟨_, _, rfl⟩, S2⟩ (fun i σ H' _ pp => SqL.of pp.2.p) ?_ ?_⟩
    rotate_left
    · rintro σ H3 ⟨⟨v3, v5, rfl⟩, S3⟩
      exact rest _ _ ⟨⟨_, _, rfl⟩, S3.le (by omega)⟩
    rintro i u σ H3 H4 hi ⟨⟨v3, v5, rfl⟩, S3⟩ ⟨rfl, hu⟩
    have mu := List.mem_of_getElem? hu
    have hpi := pi
    obtain ⟨t, rfl⟩ : ∃ t, u = .ref t := by
      obtain ⟨j, hj⟩ := List.mem_iff_getElem?.mp mu
      have lj := (List.getElem?_eq_some_iff.mp hj).1
      obtain ⟨t, us, e, _⟩ := Paired.at2 pi hj (List.getElem?_eq_getElem (show j < its.length by omega))
      exact ⟨t, e⟩
    obtain ⟨us, l1, l2, l3⟩ := S3.it t mu
    dsimp only [gName]
    have l2' : H4 t = some (.lst us) ∨ H4 t = some (.tup us) := l2.elim .inr fun h => .inl h.2
    refine cut_if (fun σ H' => (∃ v5, σ = [some (.ref hd), some (.ref p), v2, some (.ref t), v4, v5]) ∧ Spl N H p ws (2 + i) H' ∧ H' t = H4 t) ?_ fun rest => ?_
    rotate_left
    · refine ⟨_, rfl, t, rfl, seqIt_of l2' fun J G w hG => for_it w (fun j σ H' => (∃ v5, σ = [some (.ref hd), some (.ref p), v2, some (.ref t), v4, v5]) ∧ Spl N H p ws (2 + i) H' ∧ H' t = H4 t) ⟨⟨_, rfl⟩, S3, rfl⟩ (fun j σ H' _ pp => hG H' pp.2.2) ?_ ?_⟩
      rotate_left
      · rintro σ H5 pp
        exact rest _ _ pp
      rintro j u σ H5 H6 hj ⟨⟨v5, rfl⟩, S5, et⟩ ⟨rfl, hu⟩
      dsimp only [gName]
      rcases l3 u (List.mem_of_getElem? hu) with ⟨s, rfl⟩ | ⟨b, rfl, hb⟩
      · exact ⟨_, rfl, _, _, _, _, _, rfl, .ty _, .base (.str s), kit_ty (show kitB "str" "list" = some false by decide +kernel), _, rfl, iteF ⟨⟨_, rfl⟩, S5, et⟩⟩
      · obtain ⟨xs, x1, x2⟩ := S5.lg b hb
        rcases x2 with x2 | ⟨x2, x3⟩
        · exact ⟨_, rfl, _, _, _, _, _, rfl, .ty _, .base (.tup x2), kit_ty (show kitB "tuple" "list" = some false by decide +kernel), _, rfl, iteF ⟨⟨_, rfl⟩, S5, et⟩⟩
        · refine ⟨_, rfl, _, _, _, _, _, rfl, .ty _, .base (.lst x3), kit_ty (show kitB "list" "list" = some true by decide +kernel), _, rfl, iteT ?_⟩
          refine ⟨_, rfl, b, xs, 2, 2, rfl, rfl, x3, by rw [x1]; rfl, ⟨_, rfl⟩, S5.leg ap hb x2 x3 (by rw [List.length_set]; exact x1), ?_⟩
          rw [upd_ne fun z => ap.li b hb (by rw [← z]; exact mu)]
          exact et
    rintro σ H5 ⟨⟨v5', rfl⟩, S5, et⟩
    try dsimp only
    rcases l2 with l2 | ⟨l2, l4⟩
    · exact ⟨_, rfl, _, _, _, _, _, rfl, .ty _, .base (.tup (et.trans l2)), kit_ty (show kitB "tuple" "list" = some false by decide +kernel), _, rfl, iteF ⟨⟨_, _, rfl⟩, S5.le (by omega)⟩⟩
    · refine ⟨_, rfl, _, _, _, _, _, rfl, .ty _, .base (.lst (et.trans l4)), kit_ty (show kitB "list" "list" = some true by decide +kernel), _, rfl, iteT ?_⟩
      exact ⟨_, rfl, .inl ⟨rfl, _, SqL.of (et.trans l4)⟩, t, us, _, rfl, rfl, et.trans l4, sz (m := 60) (by omega), ⟨_, _, rfl⟩, S5.itm ap mu l2 (et.trans l4) l1 l3⟩
  rintro σ G3 ⟨⟨v3', v5', rfl⟩, S3⟩
  try dsimp only
  refine ⟨_, rfl, .inl ⟨rfl, _, SqL.of S3.p⟩, p, ws, _, rfl, rfl, S3.p, sz (m := 60) (by omega), q _ (Sr.Same.set S3.s np) fun b us e => ?_⟩
  rw [upd_ne (ne_of (S3.t _ _ e) S3.p (by intro z; cases z))]
  exact S3.t _ _ e
end
end K31

set_option Elab.async false
set_option linter.all false
set_option maxRecDepth 100000
set_option maxHeartbeats 4000000
namespace K31
open PySem PySem.Spec PyProof.Rows L2 Sr
/-! ### what is told of holdings, by the amounts alone -/
def amt (hs : Hs) (y t : Str) : Int := gC (gR hs y) t
def NR (r : Rw) : Prop := (r.map (·.1)).Nodup ∧ (r.map (·.1)).Pairwise leS ∧ ∀ p ∈ r, 0 < p.2
def NF (hs : Hs) : Prop := (hs.map (·.1)).Nodup ∧ (hs.map (·.1)).Pairwise leS ∧ ∀ p ∈ hs, NR p.2 ∧ p.2.isEmpty = false
theorem look_some {α : Type} {n : Str} : ∀ {l : List (Str × α)}, n ∈ l.map (·.1) → ∃ a, l.lookup n = some a ∧ (n, a) ∈ l
  | p :: r, m => by
    rw [List.lookup_cons]
    by_cases e : n = p.1
    · rw [e, beq_self_eq_true]
      exact ⟨p.2, rfl, List.mem_cons_self⟩
    · rw [beq_false_of_ne e]
      obtain ⟨a, h1, h2⟩ := look_some ((List.mem_cons.mp m).resolve_left e)
      exact ⟨a, h1, List.mem_cons_of_mem _ h2⟩
theorem look_none {α : Type} {n : Str} : ∀ {l : List (Str × α)}, n ∉ l.map (·.1) → l.lookup n = none
  | [], _ => rfl
  | p :: r, m => by
    rw [List.lookup_cons, beq_false_of_ne fun e => m (by rw [e]; exact List.mem_cons_self)]
    exact look_none fun h => m (List.mem_cons_of_mem _ h)
theorem gC_mem {r : Rw} {t : Str} (m : t ∈ r.map (·.1)) : (t, gC r t) ∈ r := by
  obtain ⟨a, h1, h2⟩ := look_some m
  unfold gC
  rw [h1]
  exact h2
theorem gC_no {r : Rw} {t : Str} (m : t ∉ r.map (·.1)) : gC r t = 0 := by
  unfold gC
  rw [look_none m]
  rfl
theorem gR_mem {h : Hs} {t : Str} (m : t ∈ h.map (·.1)) : (t, gR h t) ∈ h := by
  obtain ⟨a, h1, h2⟩ := look_some m
  unfold gR
  rw [h1]
  exact h2
theorem gR_no {h : Hs} {t : Str} (m : t ∉ h.map (·.1)) : gR h t = [] := by
  unfold gR
  rw [look_none m]
  rfl
theorem NR.mem {r : Rw} (h : NR r) {t : Str} : t ∈ r.map (·.1) ↔ 0 < gC r t := by
  constructor
  · intro m
    exact h.2.2 _ (gC_mem m)
  · intro p
    by_cases m : t ∈ r.map (·.1)
    · exact m
    · rw [gC_no m] at p
      exact absurd p (by omega)
theorem rw_again {r : Rw} (nd : (r.map (·.1)).Nodup) : (r.map (·.1)).map (fun s => (s, gC r s)) = r := by
  rw [List.map_map]
  have : ∀ p ∈ r, ((fun s => (s, gC r s)) ∘ fun (p : Str × Int) => p.1) p = p := fun p m => by
    show (p.1, gC r p.1) = p
    unfold gC
    rw [mem_look nd (show (p.1, p.2) ∈ r from m)]
    rfl
  rw [List.map_congr_left this]
  exact List.map_id _
theorem names_one {xs ys : List Str} (n1 : xs.Nodup) (n2 : ys.Nodup) (p1 : xs.Pairwise leS) (p2 : ys.Pairwise leS) (h : ∀ s, s ∈ xs ↔ s ∈ ys) : xs = ys :=
  pw_one ((List.perm_ext_iff_of_nodup n1 n2).mpr h) (List.Perm.refl _) p1 p2
theorem nr_one {r r' : Rw} (a : NR r) (b : NR r') (h : ∀ t, gC r t = gC r' t) : r = r' := by
  have e := names_one a.1 b.1 a.2.1 b.2.1 fun s => by rw [a.mem, b.mem, h]
  rw [← rw_again a.1, ← rw_again b.1, e]
  exact List.map_congr_left fun s _ => by rw [h]
theorem NF.mem {hs : Hs} (h : NF hs) {y : Str} : y ∈ hs.map (·.1) ↔ ∃ t, 0 < amt hs y t := by
  constructor
  · intro m
    obtain ⟨n, e⟩ := h.2.2 _ (gR_mem m)
    cases er : gR hs y with
    | nil => rw [er] at e; cases e
    | cons p r =>
      refine ⟨p.1, ?_⟩
      show 0 < gC (gR hs y) p.1
      exact n.mem.mp (by show p.1 ∈ (gR hs y).map (·.1); rw [er]; exact List.mem_cons_self)
  · rintro ⟨t, p⟩
    by_cases m : y ∈ hs.map (·.1)
    · exact m
    · unfold amt at p
      rw [gR_no m] at p
      exact absurd p (Int.lt_irrefl 0)
theorem nf_one {h h' : Hs} (a : NF h) (b : NF h') (e : ∀ y t, amt h y t = amt h' y t) : h = h' := by
  have en := names_one a.1 b.1 a.2.1 b.2.1 fun s => by
    rw [a.mem, b.mem]
    simp only [e]
  rw [← hs_again a.1, ← hs_again b.1, en]
  refine List.map_congr_left fun s m => ?_
  have m' : s ∈ h.map (·.1) := by rw [en]; exact m
  have : gR h s = gR h' s := nr_one (a.2.2 _ (gR_mem m')).1 (b.2.2 _ (gR_mem m)).1 fun t => e s t
  rw [this]
/-- what is told is of that form, and tells the amounts -/
theorem can_nf {h0 h : Hs} (c : Can h0 h) (g : goodH h0) : NF h := by
  have gh := can_good c g
  obtain ⟨pw, k⟩ := can_names c g
  refine ⟨gh.1, pw, fun p m => ⟨?_, (k p m).2⟩⟩
  obtain ⟨r1, r2, r3⟩ := row_names (k p m).1 (gR_good g p.1)
  exact ⟨r2, r1, r3⟩
theorem row_amt {r0 r : Rw} (c : CanRow r0 r) (g : goodR r0) (t : Str) : gC r t = gC r0 t := by
  have hn := row_names c g
  obtain ⟨zs, p, s, e⟩ := c
  have en : r.map (·.1) = zs.filter fun t => decide (0 < gC r0 t) := by
    rw [e, List.map_map]
    exact List.map_id _
  by_cases m : t ∈ r.map (·.1)
  · have h1 := gC_mem m
    rw [e] at h1
    obtain ⟨z, mz, e1⟩ := List.mem_map.mp h1
    have e2 : z = t := congrArg Prod.fst e1
    have e3 : gC r0 z = gC r t := by rw [e]; exact congrArg Prod.snd e1
    rw [← e3, e2]
  · rw [gC_no m]
    rw [en] at m
    by_cases m0 : t ∈ r0.map (·.1)
    · have h1 := gC_mem m0
      have h2 := (g.2.2 _ h1).2
      have h3 : ¬ 0 < gC r0 t := fun h => m (List.mem_filter.mpr ⟨p.mem_iff.mpr m0, decide_eq_true h⟩)
      have h2 : 0 ≤ gC r0 t := h2
      omega
    · rw [gC_no m0]
theorem can_amt {h0 h : Hs} (c : Can h0 h) (g : goodH h0) (y t : Str) : amt h y t = amt h0 y t := by
  by_cases m : y ∈ h.map (·.1)
  · obtain ⟨_, k⟩ := can_names c g
    exact row_amt (k _ (gR_mem m)).1 (gR_good g y) t
  · unfold amt
    rw [gR_no m]
    obtain ⟨ys, rows, p, s, r, e⟩ := c
    by_cases m0 : y ∈ h0.map (·.1)
    · obtain ⟨i, hi⟩ := List.mem_iff_getElem?.mp (p.mem_iff.mpr m0)
      have li := (List.getElem?_eq_some_iff.mp hi).1
      have lr := Paired.length r
      have hr : rows[i]? = some rows[i] := List.getElem?_eq_getElem (by omega)
      have cr := Paired.at2 r hi hr
      have me : (y, rows[i]) ∈ ys.zip rows := List.mem_iff_getElem?.mpr ⟨i, by rw [List.getElem?_zip_eq_some]; exact ⟨hi, hr⟩⟩
      have em : rows[i].isEmpty = true := by
        cases ee : rows[i].isEmpty with
        | true => rfl
        | false =>
          refine absurd ?_ m
          rw [e]
          exact List.mem_map.mpr ⟨_, List.mem_filter.mpr ⟨me, by show (!rows[i].isEmpty) = true; rw [ee]; rfl⟩, rfl⟩
      have ea := row_amt cr (gR_good g y) t
      rw [List.isEmpty_iff.mp em] at ea
      exact ea
    · rw [gR_no m0]
theorem addR_amt (r : Rw) (t : Str) (n : Int) (s : Str) : gC (addR r t n) s = gC r s + if s = t then n else 0 := by
  unfold addR
  rw [putC_get]
  by_cases c : s = t
  · rw [if_pos c, if_pos c, c]
  · rw [if_neg c, if_neg c]
    omega
theorem look_app {α : Type} {l m : List (Str × α)} {s : Str} : (l ++ m).lookup s = (l.lookup s).or (m.lookup s) := by
  induction l with
  | nil => rfl
  | cons p r ih =>
    rw [List.cons_append, List.lookup_cons, List.lookup_cons, ih]
    by_cases c : s = p.1
    · rw [c, beq_self_eq_true]; rfl
    · rw [beq_false_of_ne c]
theorem look_repl {m : Str} {row : Rw} {s : Str} : ∀ l : Hs, (l.map fun p => if p.1 = m then (p.1, row) else p).lookup s = if s = m then (l.lookup s).map fun _ => row else l.lookup s
  | [] => by split <;> rfl
  | p :: r => by
    rw [List.map_cons, List.lookup_cons, List.lookup_cons, look_repl r]
    have e1 : (if p.1 = m then (p.1, row) else p).1 = p.1 := by split <;> rfl
    rw [e1]
    by_cases c1 : s = p.1
    · rw [c1, beq_self_eq_true]
      by_cases c2 : p.1 = m
      · rw [if_pos c2, if_pos c2]; rw [if_pos c2]; rfl
      · rw [if_neg c2, if_neg c2]; rw [if_neg c2]
    · rw [beq_false_of_ne c1]
theorem addH_amt (hs : Hs) (m t : Str) (n : Int) (y s : Str) : amt (addH hs m t n) y s = amt hs y s + if y = m ∧ s = t then n else 0 := by
  have key : gR (addH hs m t n) y = if y = m then addR (gR hs m) t n else gR hs y := by
    unfold addH
    by_cases c : m ∈ hs.map (·.1)
    · rw [if_pos c]
      unfold gR
      rw [look_repl]
      by_cases e : y = m
      · rw [if_pos e, if_pos e, e]
        obtain ⟨a, h1, _⟩ := look_some c
        rw [h1]
        rfl
      · rw [if_neg e, if_neg e]
    · rw [if_neg c]
      unfold gR
      rw [look_app]
      by_cases e : y = m
      · rw [if_pos e, e, look_none c, List.lookup_cons, beq_self_eq_true]
        rfl
      · rw [if_neg e, List.lookup_cons, beq_false_of_ne e]
        cases List.lookup y hs <;> rfl
  unfold amt
  rw [key]
  by_cases e : y = m
  · rw [if_pos e, addR_amt, e]
    by_cases e2 : s = t
    · rw [if_pos e2, if_pos ⟨rfl, e2⟩]
    · rw [if_neg e2, if_neg fun h => e2 h.2]
  · rw [if_neg e, if_neg fun h => e h.1]
    omega
/-- what is told when something is given: the same whether it is given to what was told or to what was handed -/
theorem given_one {hs hs' h h'' : Hs} {m t : Str} {n : Int} (c : Can hs hs') (g : goodH hs) (g1 : goodH (addH hs m t n)) (g2 : goodH (addH hs' m t n)) (a : Can (addH hs m t n) h) (b : Can (addH hs' m t n) h'') : h = h'' :=
  nf_one (can_nf a g1) (can_nf b g2) fun y s => by
    rw [can_amt a g1, can_amt b g2, addH_amt, addH_amt, can_amt c g]
theorem given_same {hs hs' h'' : Hs} {m t : Str} {n : Int} (c : Can hs hs') (g : goodH hs) (g2 : goodH (addH hs' m t n)) (b : Can (addH hs' m t n) h'') : decide (hs' = h'') = decide (n = 0) := by
  by_cases e : n = 0
  · rw [decide_eq_true e]
    refine decide_eq_true (nf_one (can_nf c g) (can_nf b g2) fun y s => ?_)
    rw [can_amt b g2, addH_amt, e]
    split <;> omega
  · rw [decide_eq_false e]
    refine decide_eq_false fun h => e ?_
    have h1 := can_amt b g2 m t
    rw [addH_amt, if_pos ⟨rfl, rfl⟩, ← h] at h1
    omega
theorem gR_goodR {hs : Hs} (g : goodH hs) (m : Str) : goodR (gR hs m) := gR_good g m
theorem addR_good {r : Rw} {t : Str} {n : Int} {k : Nat} (h1 : (r.map (·.1)).Nodup) (h2 : r.length ≤ k) (h3 : ∀ p ∈ r, nameOk (.str p.1) = true ∧ 0 ≤ p.2) (ht : nameOk (.str t) = true) (hn : 0 ≤ n) : ((addR r t n).map (·.1)).Nodup ∧ (addR r t n).length ≤ k + 1 ∧ ∀ p ∈ addR r t n, nameOk (.str p.1) = true ∧ 0 ≤ p.2 := by
  have gp : 0 ≤ gC r t := by
    by_cases m : t ∈ r.map (·.1)
    · exact (h3 _ (gC_mem m)).2
    · rw [gC_no m]
      exact Int.le_refl _
  refine ⟨?_, ?_, fun p m => ?_⟩
  · unfold addR
    rw [putC_names]
    split
    · exact h1
    · rename_i c
      rw [List.nodup_append]
      exact ⟨h1, by simp, fun a ha b hb e => c (by rw [List.mem_singleton.mp hb] at e; rw [← e]; exact ha)⟩
  · exact Nat.le_trans putC_len (by omega)
  · rcases putC_mem m with rfl | m
    · exact ⟨ht, by show 0 ≤ gC r t + n; omega⟩
    · exact h3 p m
/-- something given to few holdings -/
theorem addH_good {hs : Hs} {m t : Str} {n : Int} (g : goodH hs) (l : hs.length ≤ 5) (lr : ∀ p ∈ hs, p.2.length ≤ 5) (hm : nameOk (.str m) = true) (ht : nameOk (.str t) = true) (hn : 0 ≤ n) : goodH (addH hs m t n) := by
  unfold addH
  split
  · rename_i c
    have en : ∀ l : Hs, (l.map fun p => if p.1 = m then (p.1, addR (gR hs m) t n) else p).map (·.1) = l.map (·.1) := fun l => by
      rw [List.map_map]
      exact List.map_congr_left fun p _ => by
        show (if p.1 = m then (p.1, addR (gR hs m) t n) else p).1 = p.1
        split <;> rfl
    refine ⟨by rw [en]; exact g.1, by rw [List.length_map]; omega, fun p mp => ?_⟩
    obtain ⟨q, mq, rfl⟩ := List.mem_map.mp mp
    split
    · rename_i e
      have mg := gR_mem c
      obtain ⟨a1, a2, a3⟩ := (g.2.2 _ mg).2
      exact ⟨(g.2.2 q mq).1, addR_good a1 (lr _ mg) a3 ht hn⟩
    · exact g.2.2 q mq
  · rename_i c
    refine ⟨?_, by rw [List.length_append]; show _ + 1 ≤ 6; omega, fun p mp => ?_⟩
    · rw [List.map_append, List.nodup_append]
      refine ⟨g.1, by simp, fun a ha b hb e => c ?_⟩
      have : b = m := List.mem_singleton.mp hb
      rw [this] at e
      rw [← e]
      exact ha
    · rcases List.mem_append.mp mp with mp | mp
      · exact g.2.2 p mp
      · rw [List.mem_singleton.mp mp]
        obtain ⟨a1, a2, a3⟩ := addR_good (r := []) (k := 5) List.nodup_nil (by decide) (fun p m => by cases m) ht hn
        exact ⟨hm, a1, by omega, a3⟩
theorem drawnH_good {hs : Hs} (d : drawnH hs) : goodH hs ∧ hs.length ≤ 3 ∧ ∀ p ∈ hs, p.2.length ≤ 2 := by
  have ok : ∀ s ∈ abc ++ coinx, nameOk (.str s) = true := by decide +kernel
  refine ⟨⟨d.1, by have := d.2.1; omega, fun p m => ?_⟩, d.2.1, fun p m => (d.2.2 p m).2.2.1⟩
  obtain ⟨d1, d2, d3, d4⟩ := d.2.2 p m
  exact ⟨ok _ (List.mem_append_left _ d1), d2, by omega, fun q mq => ⟨ok _ (List.mem_append_right _ (d4 q mq).1), (d4 q mq).2⟩⟩
theorem can_small {h0 h : Hs} (c : Can h0 h) {k : Nat} (l : h0.length ≤ k) : h.length ≤ k := by
  obtain ⟨ys, rows, p, s, r, rfl⟩ := c
  have h1 := List.length_filter_le (fun (p : Str × Rw) => !p.2.isEmpty) (ys.zip rows)
  have h2 := p.length_eq
  rw [List.length_map] at h2
  unfold canZ
  rw [List.length_zip] at h1
  omega
theorem can_small2 {h0 h : Hs} (c : Can h0 h) (g : goodH h0) {k : Nat} (l : ∀ p ∈ h0, p.2.length ≤ k) : ∀ p ∈ h, p.2.length ≤ k := fun p m => by
  obtain ⟨_, h⟩ := can_names c g
  obtain ⟨zs, pz, _, e⟩ := (h p m).1
  have l0 : (gR h0 p.1).length ≤ k := by
    by_cases m0 : p.1 ∈ h0.map (·.1)
    · exact l _ (gR_mem m0)
    · rw [gR_no m0]
      exact Nat.zero_le _
  have h1 := List.length_filter_le (fun t => decide (0 < gC (gR h0 p.1) t)) zs
  have h2 := pz.length_eq
  rw [List.length_map] at h2
  rw [e, List.length_map]
  omega
theorem drawnI_good {its : Its} {n : Nat} (d : drawnI its) (l : its.length ≤ n) (h : n ≤ 12) : goodIts its := by
  have ok : ∀ s ∈ abc ++ (["coin", "coin", "x"] : List Str), nameOk (.str s) = true := by decide +kernel
  refine ⟨by omega, fun it m => ⟨(d it m).1, fun g mg => ?_⟩⟩
  obtain ⟨d1, d2, d3, d4, d5, _⟩ := (d it m).2 g mg
  exact ⟨ok _ (List.mem_append_left _ d1), ok _ (List.mem_append_right _ d4), ok _ (List.mem_append_left _ d2), d3, d5⟩
end K31

set_option Elab.async false
set_option linter.all false
set_option maxRecDepth 100000
set_option maxHeartbeats 4000000
namespace K31
open PySem PySem.Spec PyProof.Rows L2 Sr LamX
def spLaw (K : PySem.W.Frag) : Sp := fun vs H Q _ => ∃ (l : Addr) (ns : List Int), vs = [.ref l] ∧ SqL K H l (ns.map V.int) ∧ ∀ H', Q (.bl true) H'
def LawInv (K : PySem.W.Frag) (l : Addr) (ns : List Int) (σ : L2.St) (H' : Hp) : Prop :=
  (∃ v1 v2 v3 v4 v5 v6 v7 v8 v9 v10 v11 v12 v13 v14 v15 v16, σ = [some (.ref l), v1, v2, v3, v4, v5, v6, v7, v8, v9, v10, v11, v12, v13, v14, v15, v16]) ∧ SqL K H' l (ns.map V.int)
def bodyFor : Stmt → List Stmt
  | .For _ _ b _ _ => b
  | _ => []
/-- what hangs on no heap -/
structure Fx (hs hs' : Hs) (its : Its) : Prop where
  dh : drawnH hs
  di : drawnI its
  li : its.length ≤ 5
  can : Can hs hs'
theorem Fx.gh {hs hs' : Hs} {its : Its} (h : Fx hs hs' its) : goodH hs := (drawnH_good h.dh).1
theorem Fx.gi {hs hs' : Hs} {its : Its} (h : Fx hs hs' its) : goodIts its := drawnI_good h.di h.li (by decide)
theorem Fx.told {hs hs' : Hs} {its : Its} (h : Fx hs hs' its) : Told hs' := ⟨hs, h.can, h.gh⟩
theorem Fx.one {hs hs' : Hs} {its : Its} (h : Fx hs hs' its) : ∀ z, Can hs z → z = hs' := fun _ c => can_one c h.can
/-- what stands through a turn -/
structure Lw (K : PySem.W.Frag) (l0 a x hd li : Addr) (kv : List (Key × V)) (us : List V) (hs hs' : Hs) (its : Its) (ns : List Int) (H : Hp) : Prop where
  dr : DnAt 0 H a
  sql : SqL K (rm H a) l0 (ns.map V.int)
  que : QueR K (rm H a) (rm H a) x hs' its
  hd : (rm H a) hd = some (.dK kv)
  hld : HldR (rm H a) kv hs
  li : (rm H a) li = some (.lst us)
  isl : IsA (rm H a) us (its.map itD)
theorem Lw.draws {K : PySem.W.Frag} {l0 a x hd li : Addr} {kv : List (Key × V)} {us : List V} {hs hs' : Hs} {its : Its} {ns : List Int} {H H' : Hp} (h : Lw K l0 a x hd li kv us hs hs' its ns H) (d : DnAt 0 H' a) (s : Same (rm H a) (rm H' a)) : Lw K l0 a x hd li kv us hs hs' its ns H' :=
  ⟨d, sql_mono s h.sql, h.que.mono s, s _ _ h.hd, h.hld.mono s, s _ _ h.li, h.isl.mono s⟩
theorem Lw.same {K : PySem.W.Frag} {l0 a x hd li : Addr} {kv : List (Key × V)} {us : List V} {hs hs' : Hs} {its : Its} {ns : List Int} {H H' : Hp} (h : Lw K l0 a x hd li kv us hs hs' its ns H) (s : Same H H') : Lw K l0 a x hd li kv us hs hs' its ns H' :=
  h.draws (h.dr.up s) (Same.rm s)
theorem isA_rev {H : Hp} {us : List V} {ds : List Dt} (h : IsA H us ds) : IsA H us.reverse ds.reverse := by
  induction us generalizing ds with
  | nil => cases h; exact .nil
  | cons v r ih =>
    cases h with
    | cons a b =>
      rw [List.reverse_cons, List.reverse_cons]
      exact isA_snoc a (ih b)
section
variable {P : Program} {w : World} {K : PySem.W.Frag} {mg : Str → Option Value} {base : Heap}
abbrev s_law : Stmt := top 35
theorem sc_law : FnScope ["script", "turn", "draws", "queues", "loose", "thing", "fuller", "row", "holdings", "items", "handed", "passed", "more", "many", "member", "number", "one"] ["script"] (defScope s_law) := ⟨rfl, rfl, rfl, by decide +kernel, rfl, by decide +kernel, by decide +kernel⟩
/-- what the law leans on -/
structure LawC (P : Program) (w : World) (K : PySem.W.Frag) (mg : Str → Option Value) (base : Heap) : Prop where
  T : Txt K mg
  O : Que K mg
  OM : QueM3 K
  N : QuN K mg
  MkQ0 : MkQ P w K mg base
  MM : CalM P w K mg base CX0 8 (He.fAd K ("Queues", some "more")) ["self", "items"] (spMore K)
  MF : CalM P w K mg base CX0 8 (He.fAd K ("Queues", some "first")) ["self", "many"] (spFirst K)
  MG : CalM P w K mg base CX0 8 (He.fAd K ("Queues", some "given")) ["self", "member", "thing", "many"] (spGiven K)
  ME : CalM P w K mg base CX0 1 (He.fAd K ("Queues", some "__eq__")) ["self", "other"] (spQEq K)
  C_law_source : Cal P w K mg base 1 "_law_source" ["script", "turn"] (spSource K)
  C_law_draw : Cal P w K mg base 1 "_law_draw" ["draws", "many"] spDraw
  C_law_pick : Cal P w K mg base 2 "_law_pick" ["draws", "things"] (spPick K)
  C_law_some_items : Cal P w K mg base 3 "_law_some_items" ["draws", "many"] spSomeI
  C_law_some_holdings : Cal P w K mg base 3 "_law_some_holdings" ["draws"] spSomeH
  C_law_loose : Cal P w K mg base 3 "_law_loose" ["draws", "items"] spLoose
  C_law_held : Cal P w K mg base 1 "_law_held" ["holdings"] spToldH
  C_law_is_told : Cal P w K mg base 5 "_law_is_told" ["queues", "holdings", "items"] (spTold K)
  C_law_handed_spoilt : Cal P w K mg base 1 "_law_handed_spoilt" ["handed", "passed"] spHandSp
  C_law_spoilt : Cal P w K mg base 5 "_law_spoilt" ["queues"] (spSpoilt K)
abbrev XL (P : Program) (w : World) (K : PySem.W.Frag) (mg : Str → Option Value) (base : Heap) (A : Around) (outer : List Env) (s : Shared) (H : Hp) (E : XK) : Cx := Cx.nox (cxOf CX0 P w K mg base ["script", "turn", "draws", "queues", "loose", "thing", "fuller", "row", "holdings", "items", "handed", "passed", "more", "many", "member", "number", "one"] "law" (defScope s_law) (He.ga K "law") (.ref (He.codeOf K ("law", none))) A outer s H E)
abbrev lawBody : List Stmt := match defBody s_law with
  | x :: _ => bodyFor x
  | _ => []
theorem QueR.rt {K : PySem.W.Frag} {N H : Hp} {x : Addr} {hs : Hs} {its : Its} (o : QueR K N H x hs its) (s : Same N H) : EqRt K (He.ga K "Queues") H (.ref x) := by
  obtain ⟨dx, c, l, kc, us, h1, _⟩ := o
  exact .inl ⟨x, _, dx, _, rfl, s _ _ h1, first_self⟩
theorem la_e {A : Around} {outer : List Env} {s : Shared} {H : Hp} {E : XK} (C : LawC P w K mg base) (hr : Room 13 (XL P w K mg base A outer s H E).A) :
    ∃ t, PSs (XL P w K mg base A outer s H E) (lawBody.drop 19) t ∧ ∀ (D : Ends) (l0 a x hd li : Addr) (kv : List (Key × V)) (us : List V) (hs hs' : Hs) (its : Its) (ns : List Int) (v1 v4 v5 v6 v7 v10 v11 v12 v13 v14 v15 v16 : Option V) (G : Hp), Lw K l0 a x hd li kv us hs hs' its ns G → Fx hs hs' its →
      (∀ σ H', LawInv K l0 ns σ H' → D.nx σ H') →
      t D [some (.ref l0), v1, some (.ref a), some (.ref x), v4, v5, v6, v7, some (.ref hd), some (.ref li), v10, v11, v12, v13, v14, v15, v16] G := by
  obtain ⟨T, O, OM, N, MkQ0, MM, MF, MG, ME, C_law_source, C_law_draw, C_law_pick, C_law_some_items, C_law_some_holdings, C_law_loose, C_law_held, C_law_is_told, C_law_handed_spoilt, C_law_spoilt⟩ := C
  refine ⟨_, (pss_cons (ps_if (PW.pt (pw_or (pt_cmpR (ne_ (X := XL P w K mg base A outer s H E) ME hr (by decide) OM.eq OM.fn OM.ne N.cm) (pv 3) (MkQ.pe (K := K) (w := w) MkQ0 rfl rfl hr (by decide) (by rfl) (pa_cons (pe_cal C_law_held hr (by first | decide | omega) (by rfl) (pa_cons (pv 8) pa_nil)) (pa_cons (pv 9) pa_nil))) (nomark _)) (pw_or1 (pt_cmpR (eq_ (K := K) ME rfl hr (by decide) OM.eq OM.fn) (pv 3) (MkQ.pe (K := K) (w := w) MkQ0 rfl rfl hr (by decide) (by rfl) (pa_cons (pv 8) (pa_cons (pe_op op_cat (pv 9) (pe_lst (pa_cons (pe_tup pa_nil) pa_nil))) pa_nil))) (nomark _))))) (pss_one (ps_ret pe_bl)) pss_nil)
      (pss_one (ps_if (pt_cmpR op_ne (pe_cmpR (eq_ (K := K) ME rfl hr (by decide) OM.eq OM.fn) (pv 3) (MkQ.pe (K := K) (w := w) MkQ0 rfl rfl hr (by decide) (by rfl) (pa_cons (pv 8) (pa_cons (pe_revL (pv 9)) pa_nil))) (nomark _)) (pe_cmpR (op_eqD hr.units) (pv 9) (pe_revL (pv 9)) (nomark _)) (nomark _)) (pss_one (ps_ret pe_bl)) pss_nil))), ?_⟩
  intro D l0 a x hd li kv us hs hs' its ns v1 v4 v5 v6 v7 v10 v11 v12 v13 v14 v15 v16 G X F q
  have S := rm_same (H := G) (a := a)
  have lits := F.li
  obtain ⟨dx, fc, fl, kc, uq, i0, i1, i2, i3, i4, gc, gi⟩ := id X.que
  have gh := F.gh
  have itv : ∀ {G' : Hp}, Same (rm G a) G' → ItsV G' (.ref li) its := fun s => ⟨li, us, rfl, .inl (s _ _ X.li), itms_of (X.isl.mono s)⟩
  refine ⟨_, rfl, _, rfl, hd, kv, hs, rfl, S _ _ X.hd, X.hld.mono S, gh, fun H1 p tk hs1 s1 hp hp1 hn c1 => ⟨_, rfl, ?_⟩⟩
  obtain rfl := can_one c1 F.can
  delta tNil
  dsimp only
  have S1 := S.trans s1
  refine ok_queues hp1 (hn.mono new_same) gc (itv S1) gi fun x2 H2 hs2 hx2 s2 c2 q2 => ?_
  obtain rfl := can_self F.can gh c2
  have S2 := S1.trans s2
  have q2' := q2.keep new_same (Tups.of (Same.refl H2))
  refine ⟨x, dx, _, rfl, S2 _ _ i0, q2'.rt (Same.refl _), x, .ref x2, hs2, its, rfl, X.que.mono S2, F.told, .inr ⟨x2, hs2, its, rfl, q2', F.told, ?_⟩⟩
  rw [decide_eq_true rfl, decide_eq_true rfl]
  refine ⟨true, rfl, _, rfl, iteF ?_⟩
  clear hn hp1 c1 c2
  refine ⟨_, rfl, _, rfl, _, rfl, lineN (n := 0), fun te hte => ⟨lineN (n := 1), fun lo hlo => ?_⟩⟩
  have s3 := Same.up (o := .tup []) hte
  have e3 : (upd H2 te (.tup [])) te = some (.tup []) := upd_same
  generalize upd H2 te _ = H3 at s3 e3 hlo ⊢
  have s4 := Same.up (o := .lst [.ref te]) hlo
  have e4 : (upd H3 lo (.lst [.ref te])) lo = some (.lst [.ref te]) := upd_same
  have e5 := s4 _ _ e3
  generalize upd H3 lo _ = H4 at s4 e4 e5 ⊢
  have S4 := S2.trans (s3.trans s4)
  have lus : us.length = its.length := by rw [X.isl.len, List.length_map]
  refine ⟨li, lo, us, [.ref te], rfl, rfl, S4 _ _ X.li, e4, Nat.le_of_lt (sz (m := 60) (by show us.length + 1 ≤ 60; omega)), fun f hf => ?_⟩
  have s5 := Same.up (o := .lst (us ++ [.ref te])) hf
  have e6 : (upd H4 f (.lst (us ++ [.ref te]))) f = some (.lst (us ++ [.ref te])) := upd_same
  have e7 := s5 _ _ e5
  generalize upd H4 f _ = H5 at s5 e6 e7 ⊢
  have S5 := S4.trans s5
  try delta tNil
  dsimp only
  have gi2 : goodIts (its ++ [[]]) := ⟨by rw [List.length_append]; show _ + 1 ≤ 12; omega, fun it m => by
    rcases List.mem_append.mp m with m | m
    · exact gi.2 it m
    · rw [List.mem_singleton.mp m]
      exact ⟨Nat.zero_le _, fun g mg => by cases mg⟩⟩
  refine ok_queues (S5 _ _ X.hd) (X.hld.mono S5) gh (v := .ref f) (its := its ++ [[]]) ⟨f, _, rfl, .inl e6, paired_app (itms_of (X.isl.mono S5)) (.cons ⟨te, [], rfl, .inr e7, .nil⟩ .nil)⟩ gi2 fun x3 H6 hs3 hx3 s6 c3 q3 => ?_
  obtain rfl := can_one c3 F.can
  have S6 := S5.trans s6
  have q3' := q3.keep new_same (Tups.of (Same.refl H6))
  refine ⟨x, dx, _, rfl, S6 _ _ i0, .inl (q3'.rt (Same.refl _)), x, .ref x3, hs3, its, rfl, X.que.mono S6, F.told, .inr ⟨x3, hs3, its ++ [[]], rfl, q3', F.told, ?_⟩⟩
  rw [decide_eq_true rfl, decide_eq_false (p := its = its ++ [[]]) fun e => by
    have := congrArg List.length e
    rw [List.length_append] at this
    exact absurd this (by show ¬ its.length = its.length + 1; omega)]
  refine ⟨_, rfl, iteF ?_⟩
  clear c3 q3' q3 e6 e7
  try dsimp only
  refine ⟨_, rfl, _, rfl, _, rfl, li, us, rfl, SqL.of (S6 _ _ X.li), fun f2 hf2 => ?_⟩
  have s7 := Same.up (o := .lst us.reverse) hf2
  have e7 : (upd H6 f2 (.lst us.reverse)) f2 = some (.lst us.reverse) := upd_same
  generalize upd H6 f2 _ = H7 at s7 e7 ⊢
  have S7 := S6.trans s7
  try delta tNil
  dsimp only
  have gr : goodIts its.reverse := ⟨by rw [List.length_reverse]; exact gi.1, fun it m => gi.2 it (List.mem_reverse.mp m)⟩
  have ir : ∀ {G' : Hp}, Same (rm G a) G' → IsA G' us.reverse (its.reverse.map itD) := fun s => by
    rw [List.map_reverse]
    exact isA_rev (X.isl.mono s)
  refine ok_queues (S7 _ _ X.hd) (X.hld.mono S7) gh (v := .ref f2) (its := its.reverse) ⟨f2, _, rfl, .inl e7, itms_of (ir S7)⟩ gr fun x4 H8 hs4 hx4 s8 c4 q4 => ?_
  obtain rfl := can_one c4 F.can
  have S8 := S7.trans s8
  have q4' := q4.keep new_same (Tups.of (Same.refl H8))
  refine ⟨x, dx, _, rfl, S8 _ _ i0, .inl (q4'.rt (Same.refl _)), x, .ref x4, hs4, its, rfl, X.que.mono S8, F.told, .inr ⟨x4, hs4, its.reverse, rfl, q4', F.told, ?_⟩⟩
  rw [decide_eq_true rfl, Bool.true_and]
  refine ⟨_, rfl, _, rfl, li, us, rfl, SqL.of (S8 _ _ X.li), fun f3 hf3 => ?_⟩
  have s9 := Same.up (o := .lst us.reverse) hf3
  have e9 : (upd H8 f3 (.lst us.reverse)) f3 = some (.lst us.reverse) := upd_same
  generalize upd H8 f3 _ = H9 at s9 e9 ⊢
  have S9 := S8.trans s9
  refine ⟨.list (its.map itP), .list (its.reverse.map itP), .lst (SqL.of (S9 _ _ X.li)) (dp_its (X.isl.mono S9)), .lst (SqL.of e9) (dp_its (ir S9)), shaped_its gi, shaped_its gr, ?_⟩
  rw [its_eqv]
  refine ⟨rfl, _, rfl, ?_⟩
  rw [decide_eq_true rfl]
  have X9 := X.same (s1.trans (s2.trans (s3.trans (s4.trans (s5.trans (s6.trans (s7.trans (s8.trans s9))))))))
  exact iteF (q _ _ ⟨⟨_, _, _, _, _, _, _, _, _, _, _, _, _, _, _, _, rfl⟩, sql_mono rm_same X9.sql⟩)
end
end K31

set_option Elab.async false
set_option linter.all false
set_option maxRecDepth 100000
set_option maxHeartbeats 4000000
namespace K31
open PySem PySem.Spec PyProof.Rows L2 Sr LamX
/-! ### dict([(member, dict(holdings[member])) for member in holdings]): copies, all new and apart -/
def copyT (K : PySem.W.Frag) (m : Nat) : TE := tCB (fun xs H Q => ∃ (a : Addr) (ps : List Addr) (kvs : List (Key × V)), xs = [.ref a] ∧ SqL K H a (ps.map V.ref) ∧ Paired (fun p kv => SqT K H p [kV kv.1, kv.2]) ps kvs ∧
    ∀ p, H p = none → Q (.ref p) (upd H p (.dK (mergeK [] kvs)))) (tCons (tLockE (tLc (iKeys (tVar 8)) (gName m) tYes (tTup (tCons (tVar m) (tCons (tCB (fun xs H Q => ∃ (a : Addr) (kvs : List (Key × V)), xs = [.ref a] ∧ Rd H a (.dK kvs) ∧ ∀ p, H p = none → Q (.ref p) (upd H p (.dK kvs))) (tCons (tDGet (tVar 8) (tVar m)) tNil)) tNil))) [m])) tNil)
/-- the copies, while they are gathered at B -/
def CopR (H0 : Hp) (B : Addr) (H : Hp) (kvs : List (Key × V)) (hs : Hs) : Prop := Paired (fun (kv : Key × V) (q : Str × Rw) => kv.1 = Sum.inr q.1 ∧ ∃ d kr, kv.2 = .ref d ∧ d ≠ B ∧ H0 d = none ∧ H d = some (.dK kr) ∧ CoinsC kr q.2) kvs hs
theorem CopR.mono {H0 H H' : Hp} {B : Addr} (s : Same H H') {kvs : List (Key × V)} {hs : Hs} (h : CopR H0 B H kvs hs) : CopR H0 B H' kvs hs :=
  L2.Paired.mapP h fun _ _ ⟨e, d, kr, a1, a2, a3, a4, a5⟩ => ⟨e, d, kr, a1, a2, a3, s _ _ a4, a5⟩
theorem CopR.put {H0 H : Hp} {B : Addr} {o : HO} {kvs : List (Key × V)} {hs : Hs} (h : CopR H0 B H kvs hs) : CopR H0 B (upd H B o) kvs hs :=
  L2.Paired.mapP h fun _ _ ⟨e, d, kr, a1, a2, a3, a4, a5⟩ => ⟨e, d, kr, a1, a2, a3, by rw [upd_ne a2]; exact a4, a5⟩
theorem CopR.new {H0 H : Hp} {B : Addr} {kvs : List (Key × V)} {hs : Hs} (h : CopR H0 B H kvs hs) : HldR (newH H0 H) kvs hs :=
  L2.Paired.mapP h fun _ _ ⟨e, d, kr, a1, a2, a3, a4, a5⟩ => ⟨e, d, kr, a1, (new_at a3).trans a4, a5⟩
theorem CopR.here {H0 H : Hp} {B : Addr} {kvs : List (Key × V)} {hs : Hs} (h : CopR H0 B H kvs hs) {d : Addr} (n : H d = none) : V.ref d ∉ kvs.map (·.2) := fun m => by
  obtain ⟨q, mq, e⟩ := List.mem_map.mp m
  obtain ⟨i, hi⟩ := List.mem_iff_getElem?.mp mq
  have li := (List.getElem?_eq_some_iff.mp hi).1
  have := Paired.length h
  obtain ⟨_, d2, kr, a1, _, _, a4, _⟩ := Paired.at2 h hi (List.getElem?_eq_getElem (show i < hs.length by omega))
  have : d2 = d := V.ref.inj (a1.symm.trans e)
  rw [this, n] at a4
  cases a4
theorem wipe_set (σ : L2.St) (m : Nat) (v : Option V) : wipe (σ.set m v) [m] = wipe σ [m] := by
  show (σ.set m v).set m none = σ.set m none
  rw [List.set_set]
theorem wipe_wipe (σ : L2.St) (m : Nat) : wipe (wipe σ [m]) [m] = wipe σ [m] := by
  show (σ.set m none).set m none = σ.set m none
  rw [List.set_set]
theorem copy_rows {K : PySem.W.Frag} {m : Nat} {σ : L2.St} {G : Hp} {hd : Addr} {kv : List (Key × V)} {hs : Hs} {Q : VK} (h8 : σ[8]? = some (some (.ref hd))) (hm : m ≠ 8) (lm : m < σ.length) (ha : G hd = some (.dK kv)) (hh : HldR G kv hs) (g : goodH hs)
    (q : ∀ f kv2 H', Same G H' → G f = none → H' f = some (.dK kv2) → HldR (newH G H') kv2 hs → (kv2.map (·.2)).Nodup → (∀ z ∈ kv2, z.2 ≠ .ref f) → Q (.ref f) H') : copyT K m σ G Q := by
  have lk : kv.length = hs.length := Paired.length hh
  have lh := g.2.1
  have ndk := keys_nd (F := fun v (r : Rw) => ∃ d kr, v = .ref d ∧ G d = some (.dK kr) ∧ CoinsC kr r) hh g.1
  refine ⟨hd, _, ha, trivial, fun od => ?_⟩
  have hF : (upd G hd (.frz od (.dK kv))) hd = some (.frz od (.dK kv)) := upd_same
  have bk : ∀ {H'}, Same (upd G hd (.frz od (.dK kv))) H' → Same G (upd H' hd (.dK kv)) := fun s => back_of ha s
  have fz : ∀ b o, b ≠ hd → G b = some o → (upd G hd (.frz od (.dK kv))) b = some o := fun b o n e => by rw [upd_ne n]; exact e
  have none_ : ∀ b, (upd G hd (.frz od (.dK kv))) b = none → G b = none := fun b e => by
    by_cases hb : b = hd
    · rw [hb, hF] at e; cases e
    · rw [upd_ne hb] at e; exact e
  generalize upd G hd (.frz od (.dK kv)) = F at hF bk fz none_ ⊢
  refine ⟨_, h8, hd, od, rfl, .inl ⟨kv, hF, fun B hB => ?_⟩⟩
  have nBh : B ≠ hd := fun z => by rw [z, hF] at hB; cases hB
  have w8 : (wipe σ [m])[8]? = some (some (.ref hd)) := by
    show (σ.set m none)[8]? = _
    rw [List.getElem?_set_ne hm]
    exact h8
  have lw : m < (wipe σ [m]).length := by
    show m < (σ.set m none).length
    rw [List.length_set]
    exact lm
  refine lc_it walk_keys (fun i H' => Same F H' ∧ ∃ ts kvs, H' B = some (.lst (ts.map V.ref)) ∧ Paired (fun p (z : Key × V) => H' p = some (.tup [kV z.1, z.2])) ts kvs ∧ CopR F B H' kvs (hs.take i) ∧ (kvs.map (·.2)).Nodup) ⟨fun b o e => by rw [upd_ne (ne_of_none e hB)]; exact e, [], [], upd_same, .nil, .nil, List.nodup_nil⟩ (fun i H' _ pp => pp.1 _ _ hF) (fun i u H1 H2 hi pp yy => ?_) fun H1 pp => ?_
  · obtain ⟨s1, ts, kvs, e1, p1, c1, n1⟩ := pp
    obtain ⟨rfl, k, v, hk, rfl⟩ := yy
    obtain ⟨y, hy⟩ : ∃ y, hs[i]? = some y := ⟨hs[i]'(by omega), List.getElem?_eq_getElem (by omega)⟩
    obtain ⟨ek, d, kr, ev, hdd, cc⟩ := Paired.at2 hh hk hy
    have ek : k = Sum.inr y.1 := ek
    have ev : v = .ref d := ev
    subst ek
    subst ev
    have vv : valV kv (Sum.inr y.1) = some (.ref d) := val_nodup ndk _ (List.mem_of_getElem? hk)
    have ndh : d ≠ hd := hh.apart (fun z => by rw [z] at hk; cases hk) ha hdd cc
    have sm : ((wipe σ [m]).set m (some (V.str y.1)))[m]? = some (some (.str y.1)) := by rw [List.getElem?_set_self lw]
    have s8 : ((wipe σ [m]).set m (some (V.str y.1)))[8]? = some (some (.ref hd)) := by rw [List.getElem?_set_ne hm]; exact w8
    refine ⟨by rw [show kV (Sum.inr y.1) = V.str y.1 from rfl, wipe_set, wipe_wipe], ?_⟩
    simp only [tYes, if_true]
    refine ⟨_, sm, _, s8, _, sm, hd, .ref d, rfl, .inl ⟨kv, Sum.inr y.1, .inr ⟨od, s1 _ _ hF⟩, rfl, vv.symm⟩, d, kr, rfl, .inl (s1 _ _ (fz _ _ ndh hdd)), fun q0 hq0 => ?_⟩
    have s2 := Same.up (o := .dK kr) hq0
    have e0 : (upd H2 q0 (.dK kr)) q0 = some (.dK kr) := upd_same
    generalize hH3 : upd H2 q0 (.dK kr) = H3 at s2 e0 ⊢
    refine ⟨two_line, fun t ht => ?_⟩
    have s3 := Same.up (o := .tup [.str y.1, .ref q0]) ht
    have et : (upd H3 t (.tup [.str y.1, .ref q0])) t = some (.tup [.str y.1, .ref q0]) := upd_same
    generalize upd H3 t _ = H4 at s3 et ⊢
    have s23 := s2.trans s3
    have e4 := s23 _ _ e1
    have nqB : q0 ≠ B := fun z => by rw [z, e1] at hq0; cases hq0
    have ntB : t ≠ B := fun z => by rw [z, e4] at et; cases et
    have et' : hs.take (i + 1) = hs.take i ++ [y] := by rw [List.take_add_one, hy]; rfl
    have q0F : F q0 = none := free_below s1 hq0
    have lts : ts.length ≤ 6 := by
      have h1 := Paired.length p1
      have h2 := Paired.length c1
      rw [List.length_take] at h2
      omega
    have en : ts.map V.ref ++ [V.ref t] = (ts ++ [t]).map V.ref := by rw [List.map_append]; rfl
    have below : ∀ {o : HO}, Same F (upd H4 B o) := fun b o e => by
      rw [upd_ne (ne_of_none e hB)]
      exact (s1.trans s23) _ _ e
    refine ⟨_, e4, sz (m := 60) (by rw [List.length_map]; omega), below, ts ++ [t], kvs ++ [(Sum.inr y.1, .ref q0)], by rw [upd_same, en], ?_, ?_, ?_⟩
    · refine Sr.Paired.snoc (a := t) (b := ((Sum.inr y.1 : Key), V.ref q0)) (F := fun p (z : Key × V) => (upd H4 B (.lst (ts.map V.ref ++ [V.ref t]))) p = some (.tup [kV z.1, z.2])) ?_ (L2.Paired.mapP p1 fun p z h => ?_)
      · rw [upd_ne ntB]
        exact et
      · have h4 := s23 _ _ h
        rw [upd_ne (ne_of h4 e4 (by intro z; cases z))]
        exact h4
    · rw [et']
      exact Sr.Paired.snoc (a := ((Sum.inr y.1 : Key), V.ref q0)) (b := y) (F := fun (kv : Key × V) (q : Str × Rw) => kv.1 = Sum.inr q.1 ∧ ∃ d kr, kv.2 = .ref d ∧ d ≠ B ∧ F d = none ∧ (upd H4 B (.lst (ts.map V.ref ++ [V.ref t]))) d = some (.dK kr) ∧ CoinsC kr q.2) ⟨rfl, q0, kr, rfl, nqB, q0F, by rw [upd_ne nqB]; exact s3 _ _ e0, cc⟩ (c1.mono s23).put
    · rw [List.map_append, List.nodup_append]
      exact ⟨n1, by simp, fun a ha b hb e => c1.here hq0 (by
        have e' : a = V.ref q0 := e.trans (List.mem_singleton.mp hb)
        rw [← e']
        exact ha)⟩
  · obtain ⟨s1, ts, kvs, e1, p1, c1, n1⟩ := pp
    rw [lk, List.take_length] at c1
    have ndn : (kvs.map (·.1)).Nodup := keys_nd (F := fun v (r : Rw) => ∃ d kr, v = .ref d ∧ newH F H1 d = some (.dK kr) ∧ CoinsC kr r) c1.new g.1
    have S1 := bk s1
    refine ⟨s1 _ _ hF, B, ts, kvs, rfl, SqL.of (by rw [upd_ne nBh]; exact e1), L2.Paired.mapP p1 fun p z h => SqT.of (by rw [upd_ne (ne_of h (s1 _ _ hF) (by intro z; cases z))]; exact h), fun f hf => ?_⟩
    rw [merge_nd ndn]
    have nfh : f ≠ hd := fun z => by rw [z, upd_same] at hf; cases hf
    have hf1 : H1 f = none := by rw [upd_ne nfh] at hf; exact hf
    refine q f kvs _ (S1.trans (Same.up hf)) (free_below S1 hf) upd_same ?_ n1 ?_
    · refine L2.Paired.mapP c1 fun z p ⟨e, d, kr, a1, a2, a3, a4, a5⟩ => ⟨e, d, kr, a1, ?_, a5⟩
      rw [new_at (none_ d a3), upd_ne (ne_of_none a4 hf1), upd_ne fun z => by rw [z, hF] at a3; cases a3]
      exact a4
    · intro z mz e
      exact c1.here hf1 (List.mem_map.mpr ⟨z, mz, e⟩)
end K31

set_option Elab.async false
set_option linter.all false
set_option maxRecDepth 100000
set_option maxHeartbeats 4000000
namespace K31
open PySem PySem.Spec PyProof.Rows L2 Sr LamX
theorem cut_if3 {S1 S2 S3 REST : TS} {D : Ends} {σ : L2.St} {H : Hp} (G : L2.St → Hp → Prop) (hr : ∀ σ2 H2, G σ2 H2 → REST D σ2 H2) (h : (∀ σ2 H2, G σ2 H2 → REST D σ2 H2) → tSeq S1 (tSeq S2 (tSeq S3 REST)) D σ H) : tSeq S1 (tSeq S2 (tSeq S3 REST)) D σ H := h hr
/-- the copies stay where another dict is changed and their own dict with them -/
theorem hld_keep {H H' : Hp} {f : Addr} {o : HO} {kv : List (Key × V)} {hs : Hs} (h : HldR H kv hs) (s : Same H H') (n : ∀ z ∈ kv, z.2 ≠ .ref f) : HldR (upd H' f o) kv hs := by
  induction h with
  | nil => exact .nil
  | cons a r ih =>
    obtain ⟨e, d, kr, a1, a2, a3⟩ := a
    have := n _ List.mem_cons_self
    rw [a1] at this
    exact .cons ⟨e, d, kr, a1, by rw [upd_ne fun z => this (by rw [z])]; exact s _ _ a2, a3⟩ (ih fun z m => n z (List.mem_cons_of_mem _ m))
theorem putK_self {kv : List (Key × V)} {k : Key} {v : V} (h : (k, v) ∈ kv) (n : ∀ p ∈ kv, p.1 = k → p.2 = v) : putK kv k v = kv := by
  unfold putK
  rw [if_pos (List.any_eq_true.mpr ⟨_, h, decide_eq_true rfl⟩)]
  have : ∀ p ∈ kv, (fun kv : Key × V => if kv.1 = k then (kv.1, v) else kv) p = p := fun p m => by
    show (if p.1 = k then (p.1, v) else p) = p
    by_cases e : p.1 = k
    · rw [if_pos e, ← n p m e]
    · rw [if_neg e]
  rw [List.map_congr_left this]
  exact List.map_id _
section
variable {P : Program} {w : World} {K : PySem.W.Frag} {mg : Str → Option Value} {base : Heap}
theorem la_d {A : Around} {outer : List Env} {s : Shared} {H : Hp} {E : XK} (C : LawC P w K mg base) (hr : Room 13 (XL P w K mg base A outer s H E).A) :
    ∃ t, PSs (XL P w K mg base A outer s H E) (lawBody.drop 13) t ∧ ∀ (D : Ends) (l0 a x hd li : Addr) (kv : List (Key × V)) (us : List V) (hs hs' : Hs) (its : Its) (ns : List Int) (m th : Str) (nu : Int) (v1 v4 v6 v7 v10 v11 v12 v13 v16 : Option V) (G : Hp), Lw K l0 a x hd li kv us hs hs' its ns G → Fx hs hs' its → nameOk (.str m) = true → nameOk (.str th) = true → 0 ≤ nu →
      (∀ σ H', LawInv K l0 ns σ H' → D.nx σ H') →
      t D [some (.ref l0), v1, some (.ref a), some (.ref x), v4, some (.str th), v6, v7, some (.ref hd), some (.ref li), v10, v11, v12, v13, some (.str m), some (.int nu), v16] G := by
  obtain ⟨tt, pt, ht⟩ := la_e C (outer := outer) (H := H) (E := E) hr
  obtain ⟨T, O, OM, N, MkQ0, MM, MF, MG, ME, C_law_source, C_law_draw, C_law_pick, C_law_some_items, C_law_some_holdings, C_law_loose, C_law_held, C_law_is_told, C_law_handed_spoilt, C_law_spoilt⟩ := C
  refine ⟨_, (pss_cons (ps_set (i := 6) sc_law.nd rfl (by first | exact Or.inl rfl | exact Or.inr rfl) (pe_callTy (T := "dict") (call_dictP rfl) (by rfl) T.dict (by decide +kernel) (pa_cons (pe_lock (pe_lc (own := [("one", 16)]) (g := gName 16) (tt := tYes) rfl sc_law.nd (pi_keys (pv 8)) (blkOk_by (N := ["script", "turn", "draws", "queues", "loose", "thing", "fuller", "row", "holdings", "items", "handed", "passed", "more", "many", "member", "number", "one"]) (sc := defScope s_law) (by decide +kernel)) (fun _ _ _ _ _ => (pg_name (i := 16) sc_law.nd rfl (by first | exact Or.inl rfl | exact Or.inr rfl))) (fun _ _ _ _ _ => pts_nil) (fun _ _ _ _ _ => (pe_tup (pa_cons (pv 16) (pa_cons (pe_callTy (T := "dict") call_dictD (by rfl) T.dict (by decide +kernel) (pa_cons (pe_dget (hu_of hr) (pv 8) (pv 16) (fun _ _ => rfl)) pa_nil)) pa_nil)))))) pa_nil)))
      (pss_cons (ps_set (i := 7) sc_law.nd rfl (by first | exact Or.inl rfl | exact Or.inr rfl) (pe_dget2 (hu_of hr) (pv 6) (pv 14) pe_dnewK ⟨rfl, by rfl, rfl, rfl⟩))
      (pss_cons (ps_dput (hu_of hr) (pv 7) (pv 5) (pe_op op_add (pe_dget2 (hu_of hr) (pv 7) (pv 5) pe_int ⟨rfl, by rfl, rfl, rfl⟩) (pv 15)) rfl)
      (pss_cons (ps_dput (hu_of hr) (pv 6) (pv 14) (pv 7) rfl)
      (pss_cons (ps_if (pt_not (pt_val (pe_cal C_law_is_told hr (by first | decide | omega) (by rfl) (pa_cons (mA_ (K := K) MG rfl hr (by decide) O.cl OM.given (pv 3) (pa_cons (pv 14) (pa_cons (pv 5) (pa_cons (pv 15) pa_nil)))) (pa_cons (pv 6) (pa_cons (pv 9) pa_nil)))))) (pss_one (ps_ret pe_bl)) pss_nil)
      (pss_cons (ps_if (PW.pt (pw_or (pt_cmpR op_ne (pe_cmpR (eq_ (K := K) ME rfl hr (by decide) OM.eq OM.fn) (pv 3) (mA_ (K := K) MG rfl hr (by decide) O.cl OM.given (pv 3) (pa_cons (pv 14) (pa_cons (pv 5) (pa_cons (pv 15) pa_nil)))) (nomark _)) (pe_cmpR op_eq (pv 15) pe_int (nomark _)) (nomark _)) (pw_or1 (pt_cmpR (eq_ (K := K) ME rfl hr (by decide) OM.eq OM.fn) (pv 3) (pv 9) (nomark _))))) (pss_one (ps_ret pe_bl)) pss_nil)
      pt)))))), ?_⟩
  intro D l0 a x hd li kv us hs hs' its ns m th nu v1 v4 v6 v7 v10 v11 v12 v13 v16 G X F gm gt n0 q
  have S := rm_same (H := G) (a := a)
  have lits := F.li
  have gh := F.gh
  obtain ⟨dx, fc, fl, kc, uq, i0, i1, i2, i3, i4, gc, gi⟩ := id X.que
  refine cut_if (fun σ H' => ∃ f kv2, σ = [some (.ref l0), v1, some (.ref a), some (.ref x), v4, some (.str th), some (.ref f), v7, some (.ref hd), some (.ref li), v10, v11, v12, v13, some (.str m), some (.int nu), v16] ∧ Same G H' ∧ G f = none ∧ H' f = some (.dK kv2) ∧ HldR (newH G H') kv2 hs ∧ (kv2.map (·.2)).Nodup ∧ ∀ z ∈ kv2, z.2 ≠ .ref f) ?_ fun rest => ?_
  rotate_left
  · delta tAsg
    dsimp only
    exact copy_rows (m := 16) rfl (by decide) (by show 16 < 17; decide) (S _ _ X.hd) (X.hld.mono S) gh fun f kv2 H1 s1 f0 hf1 hn nd nf => rest _ _ ⟨f, kv2, rfl, s1, f0, hf1, hn, nd, nf⟩
  rintro σ G1 ⟨f, kv2, rfl, s1, f0, hf, hn, nv, nf⟩
  try dsimp only
  have hl3 : HldR G1 kv2 hs := hn.mono new_same
  have nk := keys_nd (F := fun v (r : Rw) => ∃ d kr, v = .ref d ∧ G1 d = some (.dK kr) ∧ CoinsC kr r) hl3 gh.1
  have lkd : kv2.length ≤ 6 := by rw [Paired.length hl3]; exact gh.2.1
  have ga : goodH (addH hs m th nu) := by
    obtain ⟨_, l3, lr⟩ := drawnH_good F.dh
    exact addH_good gh (by omega) (fun p mp => by have := lr p mp; omega) gm gt n0
  refine cut_if3 (fun σ H' => ∃ f kv3 v7, σ = [some (.ref l0), v1, some (.ref a), some (.ref x), v4, some (.str th), some (.ref f), v7, some (.ref hd), some (.ref li), v10, v11, v12, v13, some (.str m), some (.int nu), v16] ∧ Same G H' ∧ H' f = some (.dK kv3) ∧ HldR H' kv3 (addH hs m th nu)) (fun σ2 H2 h2 => ?_) fun rest => ?_
  rotate_left
  · refine ⟨_, rfl, f, rfl, .inl ⟨kv2, .inl hf⟩, _, rfl, fun q0 hq0 => ⟨valV kv2 (Sum.inr m), .inl ⟨kv2, Sum.inr m, .inl (Same.up hq0 _ _ hf), rfl, rfl⟩, ?_⟩⟩
    have s2 := Same.up (o := .dK []) hq0
    have e0 : (upd G1 q0 (.dK [])) q0 = some (.dK []) := upd_same
    generalize upd G1 q0 _ = G2 at s2 e0 ⊢
    have s12 := s1.trans s2
    have hl4 := hl3.mono s2
    have hf2 := s2 _ _ hf
    cases hv : valV kv2 (Sum.inr m) with
    | some v =>
      obtain ⟨d, kr, rfl, hd2, cc⟩ := (hl4.some_ m).2 v hv
      obtain ⟨d', kr', e2, hd', _⟩ := (hn.some_ m).2 _ hv
      obtain rfl : d = d' := V.ref.inj e2
      have d0 : G d = none := new_no hd'
      have mm : m ∈ hs.map (·.1) := by
        have := (hl4.some_ m).1
        rw [hv] at this
        cases e : hs.lookup m with
        | none => rw [e] at this; cases this
        | some r => exact List.mem_map.mpr ⟨_, look_mem e, rfl⟩
      have nfd : f ≠ d := fun z => nf _ (val_mem hv) (by rw [z])
      have lkr : kr.length ≤ 6 := by rw [Paired.length cc]; exact (gR_good gh m).2.1
      dsimp only [Option.getD]
      refine ⟨_, rfl, d, rfl, .inl ⟨kr, .inl hd2⟩, _, rfl, valV kr (Sum.inr th), .inl ⟨kr, Sum.inr th, .inl hd2, rfl, rfl⟩, ?_⟩
      have eg : (valV kr (Sum.inr th)).getD (V.int 0) = .int (gC (gR hs m) th) := by
        rw [cc.val]
        unfold gC
        cases (gR hs m).lookup th <;> rfl
      rw [eg]
      refine ⟨_, rfl, _, _, rfl, rfl, _, rfl, _, rfl, d, _, rfl, .inl ⟨kr, Sum.inr th, hd2, rfl, sz (m := 60) (by omega) (by decide), rfl⟩, ?_⟩
      have u1 : ∀ q ∈ kv2, q.2 = .ref d → q.1 = Sum.inr m := fun q mq e => by
        obtain ⟨i, hi⟩ := List.mem_iff_getElem?.mp mq
        obtain ⟨j, hj⟩ := List.mem_iff_getElem?.mp (val_mem hv)
        have x1 : (kv2.map (·.2))[i]? = some (.ref d) := by rw [List.getElem?_map, hi]; exact congrArg some e
        have x2 : (kv2.map (·.2))[j]? = some (.ref d) := by rw [List.getElem?_map, hj]; rfl
        have ij := (List.getElem?_inj (List.getElem?_eq_some_iff.mp x1).1 nv).mp (x1.trans x2.symm)
        rw [ij, hj] at hi
        exact (congrArg Prod.fst (Option.some.inj hi)).symm
      have u2 : ∀ q ∈ kv2, q.1 = Sum.inr m → q.2 = .ref d := fun q mq e => by
        have := val_nodup nk q mq
        rw [e, hv] at this
        exact (Option.some.inj this).symm
      have hp := hld_put (CoinsC.put cc th (gC (gR hs m) th + nu)) hl4 nv gh.1 u1 u2
      have ea : addH hs m th nu = hs.map (fun p => if p.1 = m then (p.1, addR (gR hs m) th nu) else p) := if_pos mm
      have s3 : Same G (upd G2 d (.dK (putK kr (Sum.inr th) (.int (gC (gR hs m) th + nu))))) := Sr.Same.set s12 d0
      have hf3 : (upd G2 d (.dK (putK kr (Sum.inr th) (.int (gC (gR hs m) th + nu))))) f = some (.dK kv2) := by rw [upd_ne nfd]; exact hf2
      generalize upd G2 d _ = G3 at s3 hf3 hp ⊢
      try dsimp only
      refine ⟨_, rfl, _, rfl, _, rfl, f, _, rfl, .inl ⟨kv2, Sum.inr m, hf3, rfl, sz (m := 60) (by omega) (by decide), rfl⟩, rest _ _ ⟨f, kv2, _, rfl, Sr.Same.set s3 f0, ?_, ?_⟩⟩
      · rw [upd_same, putK_self (val_mem hv) u2]
      · rw [putK_self (val_mem hv) u2, ea]
        exact hp.mono fun b o e => by
          by_cases hb : b = f
          · rw [hb, hf3] at e
            cases e
            rw [hb, upd_same]
          · rw [upd_ne hb]
            exact e
    | none =>
      have nm : m ∉ hs.map (·.1) := fun mm => by
        have := (hl4.some_ m).1
        rw [hv] at this
        obtain ⟨q, mq, e⟩ := List.mem_map.mp mm
        rw [← e, mem_look gh.1 (show (q.1, q.2) ∈ hs from mq)] at this
        cases this
      have q00 : G q0 = none := free_below s1 hq0
      have nqf : q0 ≠ f := fun z => by rw [z, hf2] at e0; cases e0; rw [z, hf] at hq0; cases hq0
      have ek := (keys_names (F := fun v (r : Rw) => ∃ d kr, v = .ref d ∧ G1 d = some (.dK kr) ∧ CoinsC kr r) hl3).2
      have nk' : (Sum.inr m : Key) ∉ kv2.map (·.1) := by
        rw [ek]
        intro z
        obtain ⟨q, mq, e⟩ := List.mem_map.mp z
        exact nm (List.mem_map.mpr ⟨q, mq, Sum.inr.inj e⟩)
      dsimp only [Option.getD]
      refine ⟨_, rfl, q0, rfl, .inl ⟨[], .inl e0⟩, _, rfl, valV [] (Sum.inr th), .inl ⟨[], Sum.inr th, .inl e0, rfl, rfl⟩, ?_⟩
      refine ⟨_, rfl, _, _, rfl, rfl, _, rfl, _, rfl, q0, _, rfl, .inl ⟨[], Sum.inr th, e0, rfl, sz (m := 60) (by decide) (by decide), rfl⟩, ?_⟩
      have ea : addH hs m th nu = hs ++ [(m, addR [] th nu)] := if_neg nm
      have s3 : Same G1 (upd G2 q0 (.dK (putK [] (Sum.inr th) (.int (0 + nu))))) := Sr.Same.set s2 hq0
      have e3 : (upd G2 q0 (.dK (putK [] (Sum.inr th) (.int (0 + nu))))) q0 = some (.dK (putK [] (Sum.inr th) (.int (0 + nu)))) := upd_same
      generalize upd G2 q0 _ = G3 at s3 e3 ⊢
      have hf3 := s3 _ _ hf
      try dsimp only
      refine ⟨_, rfl, _, rfl, _, rfl, f, _, rfl, .inl ⟨kv2, Sum.inr m, hf3, rfl, sz (m := 60) (by omega) (by decide), rfl⟩, rest _ _ ⟨f, kv2 ++ [(Sum.inr m, .ref q0)], _, rfl, Sr.Same.set (s1.trans s3) f0, ?_, ?_⟩⟩
      · rw [upd_same, Sr.putK_new nk']
      · rw [ea]
        refine HldR.snoc ?_ (by rw [upd_ne nqf]; exact e3) (CoinsC.put .nil th (0 + nu))
        exact hld_keep hl3 s3 nf
  obtain ⟨f2, kv3, v7', rfl, s2, hf2, hl2⟩ := h2
  try dsimp only
  clear hn nv nf hl3 nk hf f0 s1
  have ga' : goodH (addH hs' m th nu) := by
    obtain ⟨_, l3, lr⟩ := drawnH_good F.dh
    exact addH_good gc (can_small F.can (by omega)) (fun p mp => by have := can_small2 F.can gh lr p mp; omega) gm gt n0
  have S2 := S.trans s2
  refine cut_if (fun σ H' => σ = [some (.ref l0), v1, some (.ref a), some (.ref x), v4, some (.str th), some (.ref f2), v7', some (.ref hd), some (.ref li), v10, v11, v12, v13, some (.str m), some (.int nu), v16] ∧ Same G H') ?_ fun rest => ?_
  rotate_left
  · refine ⟨_, rfl, x, dx, _, rfl, S2 _ _ i0, rfl, _, rfl, _, rfl, _, rfl, x, m, th, nu, hs', its, rfl, gm, gt, n0, X.que.mono S2, ga', fun x2 H3 hs2 hx2 s3 c2 q2 => ⟨_, rfl, _, rfl, ?_⟩⟩
    have S3 := S2.trans s3
    refine ⟨x2, f2, li, kv3, us, addH hs m th nu, hs2, its, rfl, q2.keep new_same (Tups.of (Same.refl H3)), s3 _ _ hf2, hl2.mono s3, ga, fun h c => given_one F.can gh ga ga' c c2, S3 _ _ X.li, X.isl.mono S3, fun H4 s4 => ⟨_, rfl, iteF (rest _ _ ⟨rfl, s2.trans (s3.trans s4)⟩)⟩⟩
  rintro σ G3 ⟨rfl, s3⟩
  try dsimp only
  have S3 := S.trans s3
  refine ⟨_, rfl, _, rfl, x, dx, _, rfl, S3 _ _ i0, rfl, _, rfl, _, rfl, _, rfl, x, m, th, nu, hs', its, rfl, gm, gt, n0, X.que.mono S3, ga', fun x2 H4 hs2 hx2 s4 c2 q2 => ?_⟩
  have S4 := S3.trans s4
  have q2' := q2.keep new_same (Tups.of (Same.refl H4))
  refine ⟨x, dx, _, rfl, S4 _ _ i0, .inl (q2'.rt (Same.refl _)), x, .ref x2, hs', its, rfl, X.que.mono S4, F.told, .inr ⟨x2, hs2, its, rfl, q2', ⟨_, c2, ga'⟩, ?_⟩⟩
  rw [decide_eq_true (p := its = its) rfl, Bool.and_true, given_same F.can gh ga' c2]
  have e0 : decide (nu = 0) = decide (V.int nu = V.int 0) := by
    rw [decide_eq_decide]
    exact ⟨fun e => by rw [e], fun e => V.int.inj e⟩
  rw [e0]
  refine ⟨_, rfl, rfl, rfl, _, rfl, ?_⟩
  rw [decide_eq_true rfl]
  refine iteF ⟨_, rfl, _, rfl, x, dx, _, rfl, S4 _ _ i0, .inl (.inr ⟨li, us, rfl, S4 _ _ X.li⟩), x, .ref li, hs', its, rfl, X.que.mono S4, F.told, .inl ⟨li, us, rfl, S4 _ _ X.li, _, rfl, iteF ?_⟩⟩
  exact ht _ _ _ _ _ _ _ _ _ _ _ _ _ _ _ _ _ _ _ _ _ _ _ _ _ (X.same (s3.trans s4)) F q
end
end K31

set_option Elab.async false
set_option linter.all false
set_option maxRecDepth 100000
set_option maxHeartbeats 4000000
namespace K31
open PySem PySem.Spec PyProof.Rows L2 Sr LamX
section
variable {P : Program} {w : World} {K : PySem.W.Frag} {mg : Str → Option Value} {base : Heap}
theorem la_c {A : Around} {outer : List Env} {s : Shared} {H : Hp} {E : XK} (C : LawC P w K mg base) (hr : Room 13 (XL P w K mg base A outer s H E).A) :
    ∃ t, PSs (XL P w K mg base A outer s H E) (lawBody.drop 11) t ∧ ∀ (D : Ends) (l0 a x hd li : Addr) (kv : List (Key × V)) (us : List V) (hs hs' : Hs) (its : Its) (ns : List Int) (v1 v4 v5 v6 v7 v10 v11 v12 v13 v14 v15 v16 : Option V) (G : Hp), Lw K l0 a x hd li kv us hs hs' its ns G → Fx hs hs' its →
      (∀ σ H', LawInv K l0 ns σ H' → D.nx σ H') →
      t D [some (.ref l0), v1, some (.ref a), some (.ref x), v4, v5, v6, v7, some (.ref hd), some (.ref li), v10, v11, v12, v13, v14, v15, v16] G := by
  obtain ⟨tt, pt, ht⟩ := la_d C (outer := outer) (H := H) (E := E) hr
  obtain ⟨T, O, OM, N, MkQ0, MM, MF, MG, ME, C_law_source, C_law_draw, C_law_pick, C_law_some_items, C_law_some_holdings, C_law_loose, C_law_held, C_law_is_told, C_law_handed_spoilt, C_law_spoilt⟩ := C
  refine ⟨_, (pss_cons (ps_par (i := 14) (j := 15) (by rfl) sc_law.nd rfl rfl (by decide) rfl rfl (pa_cons (pe_cal C_law_pick hr (by first | decide | omega) (by rfl) (pa_cons (pv 2) (pa_cons (pe_lst (pa_cons pe_str (pa_cons pe_str (pa_cons pe_str pa_nil)))) pa_nil))) (pa_cons (pe_cal C_law_draw hr (by first | decide | omega) (by rfl) (pa_cons (pv 2) (pa_cons pe_int pa_nil))) pa_nil)) (by rfl))
      (pss_cons (ps_set (i := 5) sc_law.nd rfl (by first | exact Or.inl rfl | exact Or.inr rfl) (pe_cal C_law_pick hr (by first | decide | omega) (by rfl) (pa_cons (pv 2) (pa_cons (pe_lst (pa_cons pe_str (pa_cons pe_str pa_nil))) pa_nil))))
      pt)), ?_⟩
  intro D l0 a x hd li kv us hs hs' its ns v1 v4 v5 v6 v7 v10 v11 v12 v13 v14 v15 v16 G X F q
  refine ⟨_, rfl, lineN (n := 3), fun lo hlo => ?_⟩
  have nlo := X.dr.new hlo
  have s1 := Same.up (o := .lst [.str "a", .str "b", .str "zz"]) hlo
  have e1 : (upd G lo (.lst [.str "a", .str "b", .str "zz"])) lo = some (.lst [.str "a", .str "b", .str "zz"]) := upd_same
  generalize upd G lo _ = G1 at s1 e1 ⊢
  have X1 := X.same s1
  refine ⟨a, lo, _, 0, rfl, X1.dr, by decide, nlo, .inl (SqL.of e1), by show 1 ≤ 3; decide, by show 3 < 1073741824; decide, fun k v o hv ho => ?_⟩
  obtain ⟨m, rfl, gm⟩ : ∃ m : Str, v = .str m ∧ nameOk (.str m) = true := by
    have m := List.mem_of_getElem? hv
    simp only [List.mem_cons, List.not_mem_nil, or_false] at m
    rcases m with rfl | rfl | rfl
    · exact ⟨_, rfl, by decide +kernel⟩
    · exact ⟨_, rfl, by decide +kernel⟩
    · exact ⟨_, rfl, by decide +kernel⟩
  have X2 := X1.draws (H' := upd G1 a o) (DnAt.put (n := 0) ho) rm_put
  generalize upd G1 a o = G2 at X2 ⊢
  refine ⟨_, rfl, a, 3, 0, rfl, X2.dr, by decide, by decide, by decide, fun nu o2 r1 r2 ho2 => ?_⟩
  have X3 := X2.draws (H' := upd G2 a o2) (DnAt.put (n := 0) ho2) rm_put
  generalize upd G2 a o2 = G3 at X3 ⊢
  delta tNil
  dsimp only
  refine ⟨_, _, rfl, ?_⟩
  try dsimp only
  refine ⟨_, rfl, lineN (n := 2), fun lo2 hlo2 => ?_⟩
  have nlo2 := X3.dr.new hlo2
  have s4 := Same.up (o := .lst [.str "coin", .str "y"]) hlo2
  have e4 : (upd G3 lo2 (.lst [.str "coin", .str "y"])) lo2 = some (.lst [.str "coin", .str "y"]) := upd_same
  generalize upd G3 lo2 _ = G4 at s4 e4 ⊢
  have X4 := X3.same s4
  refine ⟨a, lo2, _, 0, rfl, X4.dr, by decide, nlo2, .inl (SqL.of e4), by show 1 ≤ 2; decide, by show 2 < 1073741824; decide, fun k2 v2 o3 hv2 ho3 => ?_⟩
  obtain ⟨th, rfl, gt⟩ : ∃ m : Str, v2 = .str m ∧ nameOk (.str m) = true := by
    have m := List.mem_of_getElem? hv2
    simp only [List.mem_cons, List.not_mem_nil, or_false] at m
    rcases m with rfl | rfl
    · exact ⟨_, rfl, by decide +kernel⟩
    · exact ⟨_, rfl, by decide +kernel⟩
  have X5 := X4.draws (H' := upd G4 a o3) (DnAt.put (n := 0) ho3) rm_put
  generalize upd G4 a o3 = G5 at X5 ⊢
  exact ht _ _ _ _ _ _ _ _ _ _ _ _ _ _ _ _ _ _ _ _ _ _ _ _ _ X5 F gm gt r1 q
end
end K31

set_option Elab.async false
set_option linter.all false
set_option maxRecDepth 100000
set_option maxHeartbeats 4000000
namespace K31
open PySem PySem.Spec PyProof.Rows L2 Sr LamX
section
variable {P : Program} {w : World} {K : PySem.W.Frag} {mg : Str → Option Value} {base : Heap}
theorem la_b {A : Around} {outer : List Env} {s : Shared} {H : Hp} {E : XK} (C : LawC P w K mg base) (hr : Room 13 (XL P w K mg base A outer s H E).A) :
    ∃ t, PSs (XL P w K mg base A outer s H E) (lawBody.drop 7) t ∧ ∀ (D : Ends) (l0 a x hd li : Addr) (kv : List (Key × V)) (us : List V) (hs hs' : Hs) (its : Its) (ns : List Int) (v1 v4 v5 v6 v7 v10 v11 v12 v13 v14 v15 v16 : Option V) (G : Hp), Lw K l0 a x hd li kv us hs hs' its ns G → Fx hs hs' its →
      (∀ σ H', LawInv K l0 ns σ H' → D.nx σ H') →
      t D [some (.ref l0), v1, some (.ref a), some (.ref x), v4, v5, v6, v7, some (.ref hd), some (.ref li), v10, v11, v12, v13, v14, v15, v16] G := by
  obtain ⟨tt, pt, ht⟩ := la_c C (outer := outer) (H := H) (E := E) hr
  obtain ⟨T, O, OM, N, MkQ0, MM, MF, MG, ME, C_law_source, C_law_draw, C_law_pick, C_law_some_items, C_law_some_holdings, C_law_loose, C_law_held, C_law_is_told, C_law_handed_spoilt, C_law_spoilt⟩ := C
  refine ⟨_, (pss_cons (ps_par (i := 12) (j := 13) (by rfl) sc_law.nd rfl rfl (by decide) rfl rfl (pa_cons (pe_cal C_law_some_items hr (by first | decide | omega) (by rfl) (pa_cons (pv 2) (pa_cons (pe_cal C_law_draw hr (by first | decide | omega) (by rfl) (pa_cons (pv 2) (pa_cons pe_int pa_nil))) pa_nil))) (pa_cons (pe_cal C_law_draw hr (by first | decide | omega) (by rfl) (pa_cons (pv 2) (pa_cons (pe_op op_add (pe_callB (id := "len") call_len_seq (by rfl) T.len (by decide +kernel) (pa_cons (pv 9) pa_nil)) pe_int) pa_nil))) pa_nil)) (by rfl))
      (pss_cons (ps_set (i := 4) sc_law.nd rfl (by first | exact Or.inl rfl | exact Or.inr rfl) (pe_cal C_law_loose hr (by first | decide | omega) (by rfl) (pa_cons (pv 2) (pa_cons (pv 12) pa_nil))))
      (pss_cons (ps_if (pt_not (pt_val (pe_cal C_law_is_told hr (by first | decide | omega) (by rfl) (pa_cons (mA_ (K := K) MM rfl hr (by decide) O.cl OM.more (pv 3) (pa_cons (pe_cal C_law_pick hr (by first | decide | omega) (by rfl) (pa_cons (pv 2) (pa_cons (pe_lst (pa_cons (pv 4) (pa_cons (pe_callTy (T := "tuple") call_tuple_of (by rfl) T.tuple (by decide +kernel) (pa_cons (pv 4) pa_nil)) pa_nil))) pa_nil))) pa_nil)) (pa_cons (pv 8) (pa_cons (pe_op op_cat (pv 9) (pv 12)) pa_nil)))))) (pss_one (ps_ret pe_bl)) pss_nil)
      (pss_cons (ps_if (PW.pt (pw_or (pt_not (pt_val (pe_cal C_law_is_told hr (by first | decide | omega) (by rfl) (pa_cons (mA_ (K := K) MF rfl hr (by decide) O.cl OM.first (pv 3) (pa_cons (pv 13) pa_nil)) (pa_cons (pv 8) (pa_cons (pe_slice sl_list (pv 9) po_none (po_some (pv 13))) pa_nil)))))) (pw_or1 (pt_not (pt_val (pe_cal C_law_is_told hr (by first | decide | omega) (by rfl) (pa_cons (pv 3) (pa_cons (pv 8) (pa_cons (pv 9) pa_nil))))))))) (pss_one (ps_ret pe_bl)) pss_nil)
      pt)))), ?_⟩
  intro D l0 a x hd li kv us hs hs' its ns v1 v4 v5 v6 v7 v10 v11 v12 v13 v14 v15 v16 G X F q
  have gh := F.gh
  have gi := F.gi
  have lits := F.li
  have lus : us.length = its.length := by rw [X.isl.len, List.length_map]
  refine cut_if (fun σ H' => ∃ lm us2 its2 many, σ = [some (.ref l0), v1, some (.ref a), some (.ref x), v4, v5, v6, v7, some (.ref hd), some (.ref li), v10, v11, some (.ref lm), some (.int ((many : Nat) : Int)), v14, v15, v16] ∧ Lw K l0 a x hd li kv us hs hs' its ns H' ∧ (rm H' a) lm = some (.lst us2) ∧ IsA (rm H' a) us2 (its2.map itD) ∧ its2.length ≤ 2 ∧ drawnI its2 ∧ many ≤ its.length) ?_ fun rest => ?_
  rotate_left
  · refine ⟨_, rfl, _, rfl, a, 3, 0, rfl, X.dr, by decide, by decide, by decide, fun r o r1 r2 ho => ?_⟩
    have X1 := X.draws (H' := upd G a o) (DnAt.put (n := 0) ho) rm_put
    generalize upd G a o = G1 at X1 ⊢
    obtain ⟨n, rfl⟩ := Int.eq_ofNat_of_zero_le r1
    delta tNil
    dsimp only
    refine ⟨a, n, rfl, X1.dr, by omega, fun lm G2 us2 its2 d2 s2 m2 e2 i2 l2 g2 => ?_⟩
    have X2 := X1.draws d2 s2
    refine ⟨_, rfl, _, rfl, li, us, rfl, .inl (SqL.of (rm_same _ _ X2.li)), ?_⟩
    refine ⟨_, _, rfl, rfl, ?_⟩
    refine ⟨a, _, 0, rfl, X2.dr, by decide, by omega, by omega, fun r' o' r1' r2' ho' => ?_⟩
    have X3 := X2.draws (H' := upd G2 a o') (DnAt.put (n := 0) ho') rm_put
    have s3 : Same (rm G2 a) (rm (upd G2 a o') a) := rm_put
    generalize upd G2 a o' = G3 at X3 s3 ⊢
    obtain ⟨n', rfl⟩ := Int.eq_ofNat_of_zero_le r1'
    exact ⟨_, _, rfl, rest _ _ ⟨lm, us2, its2, n', rfl, X3, s3 _ _ e2, i2.mono s3, by omega, g2, by omega⟩⟩
  rintro σ G1 ⟨lm, us2, its2, many, rfl, X1, hm, im, l2, d2, lmany⟩
  try dsimp only
  have g2 : goodIts its2 := drawnI_good d2 l2 (by decide)
  refine cut_if (fun σ H' => ∃ p ws, σ = [some (.ref l0), v1, some (.ref a), some (.ref x), some (.ref p), v5, v6, v7, some (.ref hd), some (.ref li), v10, v11, some (.ref lm), some (.int ((many : Nat) : Int)), v14, v15, v16] ∧ Lw K l0 a x hd li kv us hs hs' its ns H' ∧ (rm H' a) lm = some (.lst us2) ∧ IsA (rm H' a) us2 (its2.map itD) ∧ (rm H' a) p = some (.lst ws) ∧ Paired (ItmV (rm H' a)) ws its2) ?_ fun rest => ?_
  rotate_left
  · refine ⟨_, rfl, _, rfl, a, lm, us2, its2, rfl, X1.dr, hm, im, g2, fun p G2 ws d s m e pw => rest _ _ ⟨p, ws, rfl, X1.draws d s, s _ _ hm, im.mono s, e, L2.Paired.mapP pw fun _ _ h => h.v⟩⟩
  clear hm im X1
  rintro σ G2 ⟨p, ws, rfl, X2, hm, im, hp, pw⟩
  try dsimp only
  have gap : goodIts (its ++ its2) := ⟨by rw [List.length_append]; omega, fun it m => by
    rcases List.mem_append.mp m with m | m
    · exact gi.2 it m
    · exact g2.2 it m⟩
  refine cut_if (fun σ H' => ∃ v, σ = [some (.ref l0), v1, some (.ref a), some (.ref x), v, v5, v6, v7, some (.ref hd), some (.ref li), v10, v11, some (.ref lm), some (.int ((many : Nat) : Int)), v14, v15, v16] ∧ Lw K l0 a x hd li kv us hs hs' its ns H') ?_ fun rest => ?_
  rotate_left
  · obtain ⟨dx, fc, fl, kc, uq, i0, _⟩ := id X2.que
    refine ⟨_, rfl, x, dx, _, rfl, rm_same _ _ i0, rfl, _, rfl, _, rfl, _, rfl, p, ws, rfl, .inl ⟨SqL.of (rm_same _ _ hp), fun t ht => ?_⟩⟩
    have nt := X2.dr.new ht
    have s3 := Same.up (o := .tup ws) ht
    have e3 : (upd G2 t (.tup ws)) t = some (.tup ws) := upd_same
    generalize upd G2 t _ = G3 at s3 e3 ⊢
    have X3 := X2.same s3
    refine ⟨lineN (n := 2), fun lo hlo => ?_⟩
    have nlo := X3.dr.new hlo
    have s4 := Same.up (o := .lst [.ref p, .ref t]) hlo
    have e4 : (upd G3 lo (.lst [.ref p, .ref t])) lo = some (.lst [.ref p, .ref t]) := upd_same
    generalize upd G3 lo _ = G4 at s4 e4 ⊢
    have X4 := X3.same s4
    delta tNil
    dsimp only
    refine ⟨a, lo, _, 0, rfl, X4.dr, by decide, nlo, .inl (SqL.of e4), by show 1 ≤ 2; decide, by show 2 < 1073741824; decide, fun k v o hv ho => ?_⟩
    have e5 : ∀ b y, b ≠ a → G3 b = some y → (upd G4 a o) b = some y := fun b y n e => by
      rw [upd_ne n]
      exact s4 _ _ e
    have sr : Same (rm G2 a) (rm (upd G4 a o) a) := (Same.rm (s3.trans s4)).trans rm_put
    have X5 := X4.draws (H' := upd G4 a o) (DnAt.put (n := 0) ho) rm_put
    generalize upd G4 a o = G5 at X5 e5 sr ⊢
    have sr' : Same (rm G2 a) G5 := sr.trans rm_same
    have iv : ItsV G5 v its2 := by
      have m := List.mem_of_getElem? hv
      have pv : Paired (ItmV G5) ws its2 := L2.Paired.mapP pw fun _ _ h => h.mono sr'
      simp only [List.mem_cons, List.not_mem_nil, or_false] at m
      rcases m with rfl | rfl
      · exact ⟨p, ws, rfl, .inl (sr' _ _ hp), pv⟩
      · exact ⟨t, ws, rfl, .inr (e5 _ _ nt e3), pv⟩
    refine ⟨x, v, hs', its, its2, rfl, X5.que.mono rm_same, iv, g2, gap, fun x2 G6 hs2 hx2 s6 c2 q2 => ?_⟩
    obtain rfl := can_self F.can gh c2
    have X6 := X5.same s6
    have s26 : Same (rm G2 a) (rm G6 a) := sr.trans (Same.rm s6)
    refine ⟨_, rfl, _, rfl, _, rfl, li, lm, us, us2, rfl, rfl, rm_same _ _ X6.li, rm_same _ _ (s26 _ _ hm), ?_, fun f hf => ?_⟩
    · have := im.len
      rw [List.length_map] at this
      exact Nat.le_of_lt (sz (m := 60) (by omega))
    have s7 := Same.up (o := .lst (us ++ us2)) hf
    have e7 : (upd G6 f (.lst (us ++ us2))) f = some (.lst (us ++ us2)) := upd_same
    generalize upd G6 f _ = G7 at s7 e7 ⊢
    have X7 := X6.same s7
    have s27 := s26.trans (Same.rm s7)
    try delta tNil
    dsimp only
    refine ⟨x2, hd, f, kv, us ++ us2, hs, hs2, its ++ its2, rfl, q2.keep (new_same.trans s7) (Tups.of s7), rm_same _ _ X7.hd, X7.hld.mono rm_same, gh, F.one, e7, ?_, fun G8 s8 => ⟨_, rfl, iteF (rest _ _ ⟨_, rfl, X7.same s8⟩)⟩⟩
    rw [List.map_append]
    exact isA_app (X7.isl.mono rm_same) (im.mono (s27.trans rm_same))
  clear hm im hp pw X2
  rintro σ G3 ⟨v4', rfl, X3⟩
  try dsimp only
  obtain ⟨dx, fc, fl, kc, uq, i0, _⟩ := id X3.que
  refine ⟨_, rfl, x, dx, _, rfl, rm_same _ _ i0, rfl, _, rfl, x, hs', its, many, rfl, X3.que.mono rm_same, lmany, fun x2 G4 hs2 hx2 s4 c2 q2 => ?_⟩
  obtain rfl := can_self F.can gh c2
  have X4 := X3.same s4
  refine ⟨_, rfl, _, rfl, _, rfl, _, rfl, li, us, rfl, SqL.of (rm_same _ _ X4.li), fun f hf => ?_⟩
  rw [cut_take us (by omega)]
  have s5 := Same.up (o := .lst (us.take many)) hf
  have e5 : (upd G4 f (.lst (us.take many))) f = some (.lst (us.take many)) := upd_same
  generalize upd G4 f _ = G5 at s5 e5 ⊢
  have X5 := X4.same s5
  try delta tNil
  dsimp only
  refine ⟨x2, hd, f, kv, us.take many, hs, hs2, its.take many, rfl, q2.keep (new_same.trans s5) (Tups.of s5), rm_same _ _ X5.hd, X5.hld.mono rm_same, gh, F.one, e5, ?_, fun G6 s6 => ⟨_, rfl, iteF ?_⟩⟩
  · rw [List.map_take]
    exact isA_take (X5.isl.mono rm_same) many
  have X6 := X5.same s6
  refine ⟨_, rfl, _, rfl, _, rfl, x, hd, li, kv, us, hs, hs2, its, rfl, X6.que.mono rm_same, rm_same _ _ X6.hd, X6.hld.mono rm_same, gh, F.one, rm_same _ _ X6.li, X6.isl.mono rm_same, fun G7 s7 => ⟨_, rfl, iteF ?_⟩⟩
  exact ht _ _ _ _ _ _ _ _ _ _ _ _ _ _ _ _ _ _ _ _ _ _ _ _ _ (X6.same s7) F q
end
end K31

set_option Elab.async false
set_option linter.all false
set_option maxRecDepth 100000
set_option maxHeartbeats 4000000
namespace K31
open PySem PySem.Spec PyProof.Rows L2 Sr LamX
/-- all but what was made between G1 and G3 -/
def outH (G1 G3 G6 : Hp) : Hp := fun b => match G1 b, G3 b with
  | none, some _ => none
  | _, _ => G6 b
theorem out_same {G1 G3 G6 : Hp} : Same (outH G1 G3 G6) G6 := fun b o e => by
  unfold outH at e
  split at e
  · cases e
  · exact e
theorem out_none {G1 G3 G6 : Hp} {b : Addr} {o : HO} (h1 : G1 b = none) (h3 : G3 b = some o) : outH G1 G3 G6 b = none := by
  unfold outH
  rw [h1, h3]
theorem out_old {G1 G3 G6 : Hp} {b : Addr} {o : HO} (h1 : G1 b = some o) : outH G1 G3 G6 b = G6 b := by
  unfold outH
  rw [h1]
theorem out_new {G1 G3 G6 : Hp} {b : Addr} (h3 : G3 b = none) : outH G1 G3 G6 b = G6 b := by
  unfold outH
  rw [h3]
  cases G1 b <;> rfl
section
variable {P : Program} {w : World} {K : PySem.W.Frag} {mg : Str → Option Value} {base : Heap}
theorem la_a {A : Around} {outer : List Env} {s : Shared} {H : Hp} {E : XK} (C : LawC P w K mg base) (hr : Room 13 (XL P w K mg base A outer s H E).A) :
    ∃ t, PSs (XL P w K mg base A outer s H E) lawBody t ∧ ∀ (D : Ends) (l0 : Addr) (ns : List Int) (i : Int) (v2 v3 v4 v5 v6 v7 v8 v9 v10 v11 v12 v13 v14 v15 v16 : Option V) (G : Hp), SqL K G l0 (ns.map V.int) → 0 ≤ i →
      (∀ σ H', LawInv K l0 ns σ H' → D.nx σ H') →
      t D [some (.ref l0), some (.int i), v2, v3, v4, v5, v6, v7, v8, v9, v10, v11, v12, v13, v14, v15, v16] G := by
  obtain ⟨tt, pt, ht⟩ := la_b C (outer := outer) (H := H) (E := E) hr
  obtain ⟨T, O, OM, N, MkQ0, MM, MF, MG, ME, C_law_source, C_law_draw, C_law_pick, C_law_some_items, C_law_some_holdings, C_law_loose, C_law_held, C_law_is_told, C_law_handed_spoilt, C_law_spoilt⟩ := C
  refine ⟨_, (pss_cons (ps_set (i := 2) sc_law.nd rfl (by first | exact Or.inl rfl | exact Or.inr rfl) (pe_cal C_law_source hr (by first | decide | omega) (by rfl) (pa_cons (pv 0) (pa_cons (pv 1) pa_nil))))
      (pss_cons (ps_asg (pe_tup (pa_cons (pe_cal C_law_some_holdings hr (by first | decide | omega) (by rfl) (pa_cons (pv 2) pa_nil)) (pa_cons (pe_cal C_law_some_items hr (by first | decide | omega) (by rfl) (pa_cons (pv 2) (pa_cons (pe_cal C_law_draw hr (by first | decide | omega) (by rfl) (pa_cons (pv 2) (pa_cons pe_int pa_nil))) pa_nil))) pa_nil))) (pg_tup rfl (pgs_cons (pg_name (i := 8) sc_law.nd rfl (by first | exact Or.inl rfl | exact Or.inr rfl)) (pgs_cons (pg_name (i := 9) sc_law.nd rfl (by first | exact Or.inl rfl | exact Or.inr rfl)) pgs_nil))))
      (pss_cons (ps_par (i := 10) (j := 11) (by rfl) sc_law.nd rfl rfl (by decide) rfl rfl (pa_cons (pe_callTy (T := "dict") (call_dictP rfl) (by rfl) T.dict (by decide +kernel) (pa_cons (pe_lock (pe_lc (own := [("member", 14)]) (g := gName 14) (tt := tYes) rfl sc_law.nd (pi_keys (pv 8)) (blkOk_by (N := ["script", "turn", "draws", "queues", "loose", "thing", "fuller", "row", "holdings", "items", "handed", "passed", "more", "many", "member", "number", "one"]) (sc := defScope s_law) (by decide +kernel)) (fun _ _ _ _ _ => (pg_name (i := 14) sc_law.nd rfl (by first | exact Or.inl rfl | exact Or.inr rfl))) (fun _ _ _ _ _ => pts_nil) (fun _ _ _ _ _ => (pe_tup (pa_cons (pv 14) (pa_cons (pe_callTy (T := "dict") call_dictD (by rfl) T.dict (by decide +kernel) (pa_cons (pe_dget (hu_of hr) (pv 8) (pv 14) (fun _ _ => rfl)) pa_nil)) pa_nil)))))) pa_nil)) (pa_cons (pe_cal C_law_loose hr (by first | decide | omega) (by rfl) (pa_cons (pv 2) (pa_cons (pv 9) pa_nil))) pa_nil)) (by rfl))
      (pss_cons (ps_set (i := 3) sc_law.nd rfl (by first | exact Or.inl rfl | exact Or.inr rfl) (MkQ.pe (K := K) (w := w) MkQ0 rfl rfl hr (by decide) (by rfl) (pa_cons (pv 10) (pa_cons (pe_cal C_law_pick hr (by first | decide | omega) (by rfl) (pa_cons (pv 2) (pa_cons (pe_lst (pa_cons (pv 11) (pa_cons (pe_callTy (T := "tuple") call_tuple_of (by rfl) T.tuple (by decide +kernel) (pa_cons (pv 11) pa_nil)) pa_nil))) pa_nil))) pa_nil))))
      (pss_cons (ps_expr (pe_cal C_law_handed_spoilt hr (by first | decide | omega) (by rfl) (pa_cons (pv 10) (pa_cons (pv 11) pa_nil))))
      (pss_cons (ps_if (pt_not (pt_val (pe_cal C_law_is_told hr (by first | decide | omega) (by rfl) (pa_cons (pv 3) (pa_cons (pv 8) (pa_cons (pv 9) pa_nil)))))) (pss_one (ps_ret pe_bl)) pss_nil)
      (pss_cons (ps_expr (pe_cal C_law_spoilt hr (by first | decide | omega) (by rfl) (pa_cons (pv 3) pa_nil)))
      pt))))))), ?_⟩
  intro D l0 ns i v2 v3 v4 v5 v6 v7 v8 v9 v10 v11 v12 v13 v14 v15 v16 G hsq hi q
  refine cut_if (fun σ H' => ∃ a, σ = [some (.ref l0), some (.int i), some (.ref a), v3, v4, v5, v6, v7, v8, v9, v10, v11, v12, v13, v14, v15, v16] ∧ DnAt 0 H' a ∧ SqL K (rm H' a) l0 (ns.map V.int)) ?_ fun rest => ?_
  rotate_left
  · exact ⟨_, rfl, _, rfl, l0, i, ns, rfl, hsq, hi, fun a o ha ho => rest _ _ ⟨a, rfl, DnAt.put ho, sql_mono (rm_new ha) hsq⟩⟩
  rintro σ G0 ⟨a, rfl, d0, sq0⟩
  try dsimp only
  refine cut_if (fun σ H' => ∃ hd li kv us hs its, σ = [some (.ref l0), some (.int i), some (.ref a), v3, v4, v5, v6, v7, some (.ref hd), some (.ref li), v10, v11, v12, v13, v14, v15, v16] ∧ DnAt 0 H' a ∧ SqL K (rm H' a) l0 (ns.map V.int) ∧ (rm H' a) hd = some (.dK kv) ∧ HldR (rm H' a) kv hs ∧ drawnH hs ∧ (rm H' a) li = some (.lst us) ∧ IsA (rm H' a) us (its.map itD) ∧ its.length ≤ 5 ∧ drawnI its) ?_ fun rest => ?_
  rotate_left
  · refine ⟨_, rfl, a, rfl, d0, fun hd G1 kv hs d1 s1 m1 e1 h1 dh => ?_⟩
    refine ⟨_, rfl, _, rfl, a, 6, 0, rfl, d1, by decide, by decide, by decide, fun r o r1 r2 ho => ?_⟩
    have d2 : DnAt 0 (upd G1 a o) a := DnAt.put (n := 0) ho
    have s2 : Same (rm G1 a) (rm (upd G1 a o) a) := rm_put
    generalize upd G1 a o = G2 at d2 s2 ⊢
    obtain ⟨n, rfl⟩ := Int.eq_ofNat_of_zero_le r1
    delta tNil
    dsimp only
    refine ⟨a, n, rfl, d2, by omega, fun li G3 us its d3 s3 m3 e3 i3 l3 g3 => ?_⟩
    have s13 := s2.trans s3
    refine ⟨two_line, fun t ht => ?_⟩
    have nt := d3.new ht
    have d4 : DnAt 0 (upd G3 t (.tup [.ref hd, .ref li])) a := d3.set nt
    have s4 : Same (rm G3 a) (rm (upd G3 t (.tup [.ref hd, .ref li])) a) := same_set (Same.refl _) (by rw [rm_ne nt]; exact ht)
    have e4 : (upd G3 t (.tup [.ref hd, .ref li])) t = some (.tup [.ref hd, .ref li]) := upd_same
    generalize upd G3 t _ = G4 at d4 s4 e4 ⊢
    have s14 := s13.trans s4
    refine ⟨t, _, rfl, SqT.of e4, rfl, _, _, rfl, _, _, rfl, rfl, rest _ _ ⟨hd, li, kv, us, hs, its, rfl, d4, sql_mono (s1.trans s14) sq0, s14 _ _ e1, h1.mono s14, dh, s4 _ _ e3, i3.mono s4, by omega, g3⟩⟩
  rintro σ G1 ⟨hd, li, kv, us, hs, its, rfl, d1, sq1, ehd, hh, dh, eli, isl, l5, di⟩
  clear sq0 d0
  try dsimp only
  have gh := (drawnH_good dh).1
  have gi := drawnI_good di l5 (by decide)
  refine cut_if (fun σ H' => ∃ f p kv2 ws v14, σ = [some (.ref l0), some (.int i), some (.ref a), v3, v4, v5, v6, v7, some (.ref hd), some (.ref li), some (.ref f), some (.ref p), v12, v13, v14, v15, v16] ∧ DnAt 0 H' a ∧ Same (rm G1 a) (rm H' a) ∧ G1 f = none ∧ (rm H' a) f = some (.dK kv2) ∧ HldR (rm H' a) kv2 hs ∧ (∀ z ∈ kv2, ∀ d, z.2 = .ref d → G1 d = none) ∧ G1 p = none ∧ (rm H' a) p = some (.lst ws) ∧ Paired (ItmN G1 (rm H' a)) ws its) ?_ fun rest => ?_
  rotate_left
  · delta tSeq tPar tCons
    dsimp only
    show copyT K 14 _ _ _
    refine copy_rows (m := 14) rfl (by decide) (by show 14 < 17; decide) (rm_same _ _ ehd) (hh.mono rm_same) gh fun f kv2 G2 s2 f0 hf2 hn nd nf => ?_
    have d2 := d1.up s2
    refine ⟨_, rfl, _, rfl, a, li, us, its, rfl, d2, (Same.rm (a := a) s2) _ _ eli, isl.mono (Same.rm s2), gi, fun p G3 ws d3 s3 m3 e3 p3 => ?_⟩
    have nfa : f ≠ a := d1.new f0
    have s13 := (Same.rm (a := a) s2).trans s3
    have below : ∀ t, (rm G2 a) t = none → t ≠ a → G1 t = none := fun t h n => by
      rw [rm_ne n] at h
      exact free_below s2 h
    refine ⟨_, _, rfl, rest _ _ ⟨f, p, kv2, ws, _, rfl, d3, s13, f0, s3 _ _ (by rw [rm_ne nfa]; exact hf2), ?_, ?_, below p m3 (rm_dif e3), e3, ?_⟩⟩
    · refine L2.Paired.mapP hn fun z y ⟨e, d, kr, a1, a2, a3⟩ => ⟨e, d, kr, a1, s3 _ _ ?_, a3⟩
      rw [rm_ne (d1.new (new_no a2))]
      exact new_same _ _ a2
    · intro z mz d e
      obtain ⟨j, hj⟩ := List.mem_iff_getElem?.mp mz
      have lj := (List.getElem?_eq_some_iff.mp hj).1
      have := Paired.length hn
      obtain ⟨_, d', kr, a1, a2, _⟩ := Paired.at2 hn hj (List.getElem?_eq_getElem (show j < hs.length by omega))
      obtain rfl : d' = d := V.ref.inj (a1.symm.trans e)
      exact new_no a2
    · refine L2.Paired.mapP p3 fun v it ⟨t, us', e, h, pl⟩ => ⟨t, us', e, h.imp id fun h => ⟨below t h.1 (rm_dif h.2), h.2⟩, L2.Paired.mapP pl fun u g ⟨t', e', h'⟩ => ⟨t', e', h'.imp id fun h => ⟨below t' h.1 (rm_dif h.2), h.2⟩⟩⟩
  rintro σ G3 ⟨f, p, kv2, ws, v14', rfl, d3, s3, f0, ef, hf, nrow, p0, ep, pw⟩
  try dsimp only
  have lws : ws.length = its.length := Paired.length pw
  refine cut_if (fun σ H' => ∃ x hs' G5, σ = [some (.ref l0), some (.int i), some (.ref a), some (.ref x), v4, v5, v6, v7, some (.ref hd), some (.ref li), some (.ref f), some (.ref p), v12, v13, v14', v15, v16] ∧ DnAt 0 H' a ∧ Same (rm G3 a) (rm G5 a) ∧ Same G5 H' ∧ DnAt 0 G5 a ∧ Can hs hs' ∧ QueR K (newH G5 H') H' x hs' its) ?_ fun rest => ?_
  rotate_left
  · refine ⟨_, rfl, _, rfl, _, rfl, _, rfl, p, ws, rfl, .inl ⟨SqL.of (rm_same _ _ ep), fun t ht => ?_⟩⟩
    have nt := d3.new ht
    have s4 := Same.up (o := .tup ws) ht
    have e4 : (upd G3 t (.tup ws)) t = some (.tup ws) := upd_same
    generalize upd G3 t _ = G4 at s4 e4 ⊢
    refine ⟨lineN (n := 2), fun lo hlo => ?_⟩
    have d4 := d3.up s4
    have nlo := d4.new hlo
    have s5 := Same.up (o := .lst [.ref p, .ref t]) hlo
    have e5 : (upd G4 lo (.lst [.ref p, .ref t])) lo = some (.lst [.ref p, .ref t]) := upd_same
    generalize upd G4 lo _ = G5 at s5 e5 ⊢
    have d5 := d4.up s5
    delta tNil
    dsimp only
    refine ⟨a, lo, _, 0, rfl, d5, by decide, nlo, .inl (SqL.of e5), by show 1 ≤ 2; decide, by show 2 < 1073741824; decide, fun k v o hv ho => ?_⟩
    have e6 : (upd G5 a o) t = some (.tup ws) := by
      rw [upd_ne nt]
      exact s5 _ _ e4
    have d6 : DnAt 0 (upd G5 a o) a := DnAt.put (n := 0) ho
    have s6 : Same (rm G3 a) (rm (upd G5 a o) a) := (Same.rm (s4.trans s5)).trans rm_put
    generalize upd G5 a o = G6 at d6 s6 e6 ⊢
    have sr : Same (rm G3 a) G6 := s6.trans rm_same
    have iv : ItsV G6 v its := by
      have m := List.mem_of_getElem? hv
      have pv : Paired (ItmV G6) ws its := L2.Paired.mapP pw fun _ _ h => h.v.mono sr
      simp only [List.mem_cons, List.not_mem_nil, or_false] at m
      rcases m with rfl | rfl
      · exact ⟨p, ws, rfl, .inl (sr _ _ ep), pv⟩
      · exact ⟨t, ws, rfl, .inr e6, pv⟩
    refine ok_queues (sr _ _ ef) (hf.mono sr) gh iv gi fun x G7 hs' hx s7 can qr => ?_
    exact rest _ _ ⟨x, hs', G6, rfl, d6.up s7, s6, s7, d6, can, qr⟩
  rintro σ G6 ⟨x, hs', G5, rfl, d6, s35, s56, d5, can, qr⟩
  try dsimp only
  have F : Fx hs hs' its := ⟨dh, di, l5, can⟩
  have s36 : Same (rm G3 a) (rm G6 a) := s35.trans (Same.rm s56)
  have s16 : Same (rm G1 a) (rm G6 a) := s3.trans s36
  refine cut_if (fun σ H' => σ = [some (.ref l0), some (.int i), some (.ref a), some (.ref x), v4, v5, v6, v7, some (.ref hd), some (.ref li), some (.ref f), some (.ref p), v12, v13, v14', v15, v16] ∧ Lw K l0 a x hd li kv us hs hs' its ns H') ?_ fun rest => ?_
  rotate_left
  · have sr : Same (rm G3 a) G6 := s36.trans rm_same
    have n3 : ∀ {t : Addr} {o : HO}, G1 t = none → (rm G3 a) t = some o → outH G1 G3 G6 t = none := fun h1 h3 => out_none h1 (by rw [rm_ne (rm_dif h3)] at h3; exact h3)
    refine ⟨_, rfl, _, rfl, f, p, kv2, ws, hs, its, outH G1 G3 G6, rfl, out_same, n3 f0 ef, sr _ _ ef, hf.mono sr, gh, fun z mz d e => ?_, n3 p0 ep, sr _ _ ep, ?_, gi, fun G7 s7 t7 => ?_⟩
    · obtain ⟨j, hj⟩ := List.mem_iff_getElem?.mp mz
      have lj := (List.getElem?_eq_some_iff.mp hj).1
      have := Paired.length hf
      obtain ⟨_, d', kr, a1, a2, _⟩ := Paired.at2 hf hj (List.getElem?_eq_getElem (show j < hs.length by omega))
      obtain rfl : d' = d := V.ref.inj (a1.symm.trans e)
      exact n3 (nrow z mz _ e) a2
    · exact L2.Paired.mapP pw fun v it ⟨t, us', e, h, pl⟩ => ⟨t, us', e, h.imp (sr _ _) fun h => ⟨n3 h.1 h.2, sr _ _ h.2⟩, L2.Paired.mapP pl fun u g ⟨t', e', h'⟩ => ⟨t', e', h'.imp (sr _ _) fun h => ⟨n3 h.1 h.2, sr _ _ h.2⟩⟩⟩
    · obtain ⟨oa, ea, ha⟩ := id d6
      obtain ⟨oa1, ea1, _⟩ := id d1
      have da : DnAt 0 G7 a := ⟨oa, s7 _ _ ((out_old ea1).trans ea), ha⟩
      have s17 : Same (rm G1 a) (rm G7 a) := fun b o e => by
        have nb := rm_dif e
        have e6 := s16 _ _ e
        rw [rm_ne nb] at e e6 ⊢
        exact s7 _ _ ((out_old e).trans e6)
      refine rest _ _ ⟨rfl, da, sql_mono s17 sq1, qr.keep (fun b o e => ?_) (fun b xs e => ?_), s17 _ _ ehd, hh.mono s17, s17 _ _ eli, isl.mono s17⟩
      · have n5 := new_no e
        have e6 := new_same _ _ e
        have nb := d5.new n5
        rw [rm_ne nb]
        refine s7 _ _ ((out_new ?_).trans e6)
        have := free_below s35 (show (rm G5 a) b = none by rw [rm_ne nb]; exact n5)
        rw [rm_ne nb] at this
        exact this
      · have nb : b ≠ a := fun z => by
          rw [z, ea] at e
          obtain ⟨x, y, z, e2, _⟩ := ha
          rw [e2] at e
          cases e
        rw [rm_ne nb]
        exact t7 _ _ e
  rintro σ G7 ⟨rfl, X7⟩
  try dsimp only
  refine ⟨_, rfl, _, rfl, _, rfl, x, hd, li, kv, us, hs, hs', its, rfl, X7.que.mono rm_same, rm_same _ _ X7.hd, X7.hld.mono rm_same, gh, F.one, rm_same _ _ X7.li, X7.isl.mono rm_same, fun G8 s8 => ⟨_, rfl, iteF ?_⟩⟩
  have X8 := X7.same s8
  refine ⟨_, rfl, x, hs', its, rfl, X8.que.mono rm_same, fun G9 s9 => ?_⟩
  exact ht _ _ _ _ _ _ _ _ _ _ _ _ _ _ _ _ _ _ _ _ _ _ _ _ _ (X8.same s9) F q
end
end K31

set_option Elab.async false
set_option linter.all false
set_option maxRecDepth 100000
set_option maxHeartbeats 4000000
namespace K31
open PySem PySem.Spec PyProof.Rows L2 Sr LamX
section
variable {P : Program} {w : World} {K : PySem.W.Frag} {mg : Str → Option Value} {base : Heap}
theorem c_law {fd : FuncData} (C : LawC P w K mg base) (DL : FunD K "law" "law" (defArgs s_law) (defBody s_law) (defScope s_law) [] [] (He.ga K "law") fd) : FnOk P w K mg base CX0 14 (He.ga K "law") fd ["script"] (spLaw K) := by
  refine fun_ok DL sc_law (fun vs H Q E h => ?_) fun A outer s H vs Q E hr h => ?_
  · obtain ⟨l, ns, rfl, _⟩ := h
    rfl
  obtain ⟨l, ns, rfl, hs, q⟩ := h
  obtain ⟨tt, pt, ht⟩ := la_a C (A := A) (outer := outer) (s := s) (H := H) (E := E) hr
  obtain ⟨T, O, OM, N, MkQ0, MM, MF, MG, ME, C_law_source, C_law_draw, C_law_pick, C_law_some_items, C_law_some_holdings, C_law_loose, C_law_held, C_law_is_told, C_law_handed_spoilt, C_law_spoilt⟩ := C
  refine ⟨_, PSs.nox (pss_cons (ps_for PassesOwn.never rfl (pi_range1 (by rfl) T.range (pa_cons (pe_op op_add pe_int (pe_callB (id := "min") (call_min2 rfl) (by rfl) T.min (by decide +kernel) (pa_cons (pe_callB (id := "len") call_len_seq (by rfl) T.len (by decide +kernel) (pa_cons (pv 0) pa_nil)) (pa_cons pe_int pa_nil)))) pa_nil)) (pg_name (i := 1) sc_law.nd rfl (by first | exact Or.inl rfl | exact Or.inr rfl))
      pt)
      (pss_one (ps_ret pe_bl))), ?_⟩
  refine ⟨_, rfl, l, _, rfl, .inl hs, _, _, rfl, _, _, rfl, rfl, _, rfl, ?_, ?_, ?_⟩
  · split <;> omega
  · split <;> omega
  refine for_range (fun _ => LawInv K l ns) ⟨⟨_, _, _, _, _, _, _, _, _, _, _, _, _, _, _, _, rfl⟩, hs⟩ ?_ ?_
  rotate_left
  · rintro σ H1 ⟨⟨v1, v2, v3, v4, v5, v6, v7, v8, v9, v10, v11, v12, v13, v14, v15, v16, rfl⟩, _⟩
    try dsimp only
    exact q _
  rintro i σ H1 hi ⟨⟨v1, v2, v3, v4, v5, v6, v7, v8, v9, v10, v11, v12, v13, v14, v15, v16, rfl⟩, sq⟩
  exact ht _ _ _ _ _ _ _ _ _ _ _ _ _ _ _ _ _ _ _ _ sq (by omega) fun σ H' h => h
end
end K31

set_option Elab.async false
set_option linter.all false
set_option maxRecDepth 100000
set_option maxHeartbeats 0
namespace K31
open PySem PySem.Spec PyProof.Rows L2 Sr
/-! ### the head -/
def dd (x : Str) (i : Nat) : He.DefD := ⟨(x, none), x, x, defArgs (top i), defBody (top i), defScope (top i), [], []⟩
def dm (c m qual : Str) (st : Stmt) : He.DefD := ⟨(c, some m), m, qual, defArgs st, defBody st, defScope st, [], []⟩
def fn : List He.DefD := [dd "is_integer" 3, dd "is_list" 4, dd "is_name" 5, dd "frozen" 6, dd "_check_holdings" 15, dd "_is_held" 16, dd "_check_items" 17, dd "_is_leg" 18, dd "_told_holdings" 19, dd "_law_source" 21, dd "_law_draw" 22, dd "_law_pick" 23, dd "_law_mixed" 24, dd "_law_same" 25, dd "_law_some_items" 26, dd "_law_some_holdings" 27, dd "_law_queue" 28, dd "_law_held" 29, dd "_law_is_held" 30, dd "_law_loose" 31, dd "_law_is_told" 32, dd "_law_handed_spoilt" 33, dd "_law_spoilt" 34, dd "law" 35, dm "Queues" "__init__" "Queues.__init__" s_Queues___init__, dm "Queues" "holdings" "Queues.holdings" s_Queues_holdings, dm "Queues" "all_items" "Queues.all_items" s_Queues_all_items, dm "Queues" "members" "Queues.members" s_Queues_members, dm "Queues" "things" "Queues.things" s_Queues_things, dm "Queues" "queue" "Queues.queue" s_Queues_queue, dm "Queues" "more" "Queues.more" s_Queues_more, dm "Queues" "first" "Queues.first" s_Queues_first, dm "Queues" "given" "Queues.given" s_Queues_given, dm "Queues" "__len__" "Queues.__len__" s_Queues___len__, dm "Queues" "__eq__" "Queues.__eq__" s_Queues___eq__, dm "Queues" "_legs" "Queues._legs" s_Queues__legs]
def fa : List He.Fa := [.glo "is_integer", .glo "is_list", .glo "is_name", .glo "frozen", .glo "_check_holdings", .glo "_is_held", .glo "_check_items", .glo "_is_leg", .glo "_told_holdings", .glo "_law_source", .glo "_law_draw", .glo "_law_pick", .glo "_law_mixed", .glo "_law_same", .glo "_law_some_items", .glo "_law_some_holdings", .glo "_law_queue", .glo "_law_held", .glo "_law_is_held", .glo "_law_loose", .glo "_law_is_told", .glo "_law_handed_spoilt", .glo "_law_spoilt", .glo "law", .free "len", .free "isinstance", .free "all", .free "range", .free "sorted", .free "list", .free "tuple", .free "min", .free "int", .free "str", .free "bool", .free "dict", .free "zip", .free "enumerate", .str "SIGNS" signs, .int "LONGEST" 8, .free "max", .free "sum", .free "set", .free "any", .free "abs", .glo "Queues", .cls "Queues", .noat "Queues" "_holdings", .noat "Queues" "_items", .meth "Queues" "holdings", .meth "Queues" "all_items", .meth "Queues" "members", .meth "Queues" "things", .meth "Queues" "queue", .meth "Queues" "more", .meth "Queues" "first", .meth "Queues" "given", .meth "Queues" "_legs", .mkr "Queues"]
def ts : List He.Tab := []
def tf : List He.Defn := []
def ex (K : PySem.W.Frag) : Bool := decide (PySem.W.findIn K (.ref (He.ga K "Queues")) "__class__" = some (some (.builtin "object.__class__"))) && (decide (PySem.W.specialIn K (.builtin "object.__class__") "__get__" = some (some (.builtin "getset_descriptor.__get__"))) && (decide (PySem.W.takesIn K (.builtin "object.__class__") = some true) && (decide (PySem.W.mroIn K (He.ga K "Queues") (.type "object") = some true) && (decide (PySem.W.kitOne K (.ref (He.ga K "Queues")) (.ref (He.ga K "Queues")) = some true) && (decide (PySem.W.kitOne K (.type "list") (.ref (He.ga K "Queues")) = some false) && (decide (PySem.W.findIn K (.ref (He.ga K "Queues")) "__len__" = some (some (.ref (He.fAd K ("Queues", some "__len__"))))) && (decide (PySem.W.typeIn K (.ref (He.fAd K ("Queues", some "__len__"))) = some (.type "function")) && (decide (PySem.W.findIn K (.ref (He.ga K "Queues")) "__eq__" = some (some (.ref (He.fAd K ("Queues", some "__eq__"))))) && (PySem.W.isFn K (.ref (He.fAd K ("Queues", some "__eq__"))) && (decide (PySem.W.findIn K (.ref (He.ga K "Queues")) "__ne__" = some (some (.builtin "object.__ne__")))))))))))))
abbrev R : PySem.W.OpenRow := PySem.W.OpenLaw.row PySem.Challenge.rw_seatroads_k31_queues_told
abbrev hk : PySem.W.Hook := He.hookX 6 fa fn ts tf ex
def ob (s : PySem.W.SharedT) : He.AlX := He.obsX 6 fa fn ts tf ex (HandSHeadRun.getT s)
theorem ob_eq (s : PySem.W.SharedT) : ob s = hk.obs s.abs := He.obsX_eq (HandSHeadRun.getT_eq s)
def loose0 : List Str := ["is_integer", "is_list", "is_name", "frozen", "_check_holdings", "_is_held", "_check_items", "_is_leg", "_told_holdings", "_law_source", "_law_draw", "_law_pick", "_law_mixed", "_law_same", "_law_some_items", "_law_some_holdings"]
def loose1 : List Str := ["_law_queue", "_law_held", "_law_is_held", "_law_loose", "_law_is_told", "_law_handed_spoilt", "_law_spoilt", "SIGNS", "LONGEST", "OfficeError", "Queues", "BadNumber", "BadName", "BadHoldings", "BadItem"]
def loose : List Str := loose0 ++ loose1
theorem run (w : World) : HandSHeadRun.RunEq R (PySem.W.view R.prog [35]) hk ob 60000 loose w := by
  intro os
  kernel_rfl
end K31

set_option Elab.async false
set_option linter.all false
set_option maxRecDepth 100000
set_option maxHeartbeats 4000000
namespace K31
open PySem PySem.Spec PyProof.Rows L2 Sr LamX
theorem facts {l : PySem.W.OpenLaw} {w : World} {K : PySem.W.Frag} {h : Heap} {mg : Str → Option Value} {f : Addr} (X : K.In h) (G : h.Ns mainGlobals mg) (hfa : mg ("law" : Str) = some (.ref f)) (c : He.SaysX fa fn ts tf ex w h K) : LawAtS l w K CX0 14 63 "script" mg f h := by
  have cd : He.SaysD fa fn K := c.t.d
  have e := hfa.symm.trans (He.glo_ok X G (cd.fact 23 (f := .glo "law") rfl))
  cases e
  obtain ⟨x0, y1⟩ := He.ba c.more
  obtain ⟨x1, y2⟩ := He.ba y1
  obtain ⟨x2, y3⟩ := He.ba y2
  obtain ⟨x3, y4⟩ := He.ba y3
  obtain ⟨x4, y5⟩ := He.ba y4
  obtain ⟨x5, y6⟩ := He.ba y5
  obtain ⟨x6, y7⟩ := He.ba y6
  obtain ⟨x7, y8⟩ := He.ba y7
  obtain ⟨x8, y9⟩ := He.ba y8
  obtain ⟨x9, y10⟩ := He.ba y9
  have bca := of_decide_eq_true x0
  have bcn := of_decide_eq_true x1
  have bct := of_decide_eq_true x2
  have bcm := of_decide_eq_true x3
  have byes := of_decide_eq_true x4
  have bnoL := of_decide_eq_true x5
  have blen := of_decide_eq_true x6
  have blf := of_decide_eq_true x7
  have beq := of_decide_eq_true x8
  have bfn := x9
  have bne := of_decide_eq_true y10
  have D_is_integer : Dfn K mg "is_integer" s_is_integer := ⟨cd.def_ 0 (d := dd "is_integer" 3) rfl, He.glo_ok X G (cd.fact 0 (f := .glo "is_integer") rfl)⟩
  have D_is_list : Dfn K mg "is_list" s_is_list := ⟨cd.def_ 1 (d := dd "is_list" 4) rfl, He.glo_ok X G (cd.fact 1 (f := .glo "is_list") rfl)⟩
  have D_is_name : Dfn K mg "is_name" s_is_name := ⟨cd.def_ 2 (d := dd "is_name" 5) rfl, He.glo_ok X G (cd.fact 2 (f := .glo "is_name") rfl)⟩
  have D_frozen : Dfn K mg "frozen" s_frozen := ⟨cd.def_ 3 (d := dd "frozen" 6) rfl, He.glo_ok X G (cd.fact 3 (f := .glo "frozen") rfl)⟩
  have D__check_holdings : Dfn K mg "_check_holdings" s__check_holdings := ⟨cd.def_ 4 (d := dd "_check_holdings" 15) rfl, He.glo_ok X G (cd.fact 4 (f := .glo "_check_holdings") rfl)⟩
  have D__is_held : Dfn K mg "_is_held" s__is_held := ⟨cd.def_ 5 (d := dd "_is_held" 16) rfl, He.glo_ok X G (cd.fact 5 (f := .glo "_is_held") rfl)⟩
  have D__check_items : Dfn K mg "_check_items" s__check_items := ⟨cd.def_ 6 (d := dd "_check_items" 17) rfl, He.glo_ok X G (cd.fact 6 (f := .glo "_check_items") rfl)⟩
  have D__is_leg : Dfn K mg "_is_leg" s__is_leg := ⟨cd.def_ 7 (d := dd "_is_leg" 18) rfl, He.glo_ok X G (cd.fact 7 (f := .glo "_is_leg") rfl)⟩
  have D__told_holdings : Dfn K mg "_told_holdings" s__told_holdings := ⟨cd.def_ 8 (d := dd "_told_holdings" 19) rfl, He.glo_ok X G (cd.fact 8 (f := .glo "_told_holdings") rfl)⟩
  have D__law_source : Dfn K mg "_law_source" s__law_source := ⟨cd.def_ 9 (d := dd "_law_source" 21) rfl, He.glo_ok X G (cd.fact 9 (f := .glo "_law_source") rfl)⟩
  have D__law_draw : Dfn K mg "_law_draw" s__law_draw := ⟨cd.def_ 10 (d := dd "_law_draw" 22) rfl, He.glo_ok X G (cd.fact 10 (f := .glo "_law_draw") rfl)⟩
  have D__law_pick : Dfn K mg "_law_pick" s__law_pick := ⟨cd.def_ 11 (d := dd "_law_pick" 23) rfl, He.glo_ok X G (cd.fact 11 (f := .glo "_law_pick") rfl)⟩
  have D__law_mixed : Dfn K mg "_law_mixed" s__law_mixed := ⟨cd.def_ 12 (d := dd "_law_mixed" 24) rfl, He.glo_ok X G (cd.fact 12 (f := .glo "_law_mixed") rfl)⟩
  have D__law_same : Dfn K mg "_law_same" s__law_same := ⟨cd.def_ 13 (d := dd "_law_same" 25) rfl, He.glo_ok X G (cd.fact 13 (f := .glo "_law_same") rfl)⟩
  have D__law_some_items : Dfn K mg "_law_some_items" s__law_some_items := ⟨cd.def_ 14 (d := dd "_law_some_items" 26) rfl, He.glo_ok X G (cd.fact 14 (f := .glo "_law_some_items") rfl)⟩
  have D__law_some_holdings : Dfn K mg "_law_some_holdings" s__law_some_holdings := ⟨cd.def_ 15 (d := dd "_law_some_holdings" 27) rfl, He.glo_ok X G (cd.fact 15 (f := .glo "_law_some_holdings") rfl)⟩
  have D__law_queue : Dfn K mg "_law_queue" s__law_queue := ⟨cd.def_ 16 (d := dd "_law_queue" 28) rfl, He.glo_ok X G (cd.fact 16 (f := .glo "_law_queue") rfl)⟩
  have D__law_held : Dfn K mg "_law_held" s__law_held := ⟨cd.def_ 17 (d := dd "_law_held" 29) rfl, He.glo_ok X G (cd.fact 17 (f := .glo "_law_held") rfl)⟩
  have D__law_is_held : Dfn K mg "_law_is_held" s__law_is_held := ⟨cd.def_ 18 (d := dd "_law_is_held" 30) rfl, He.glo_ok X G (cd.fact 18 (f := .glo "_law_is_held") rfl)⟩
  have D__law_loose : Dfn K mg "_law_loose" s__law_loose := ⟨cd.def_ 19 (d := dd "_law_loose" 31) rfl, He.glo_ok X G (cd.fact 19 (f := .glo "_law_loose") rfl)⟩
  have D__law_is_told : Dfn K mg "_law_is_told" s__law_is_told := ⟨cd.def_ 20 (d := dd "_law_is_told" 32) rfl, He.glo_ok X G (cd.fact 20 (f := .glo "_law_is_told") rfl)⟩
  have D__law_handed_spoilt : Dfn K mg "_law_handed_spoilt" s__law_handed_spoilt := ⟨cd.def_ 21 (d := dd "_law_handed_spoilt" 33) rfl, He.glo_ok X G (cd.fact 21 (f := .glo "_law_handed_spoilt") rfl)⟩
  have D__law_spoilt : Dfn K mg "_law_spoilt" s__law_spoilt := ⟨cd.def_ 22 (d := dd "_law_spoilt" 34) rfl, He.glo_ok X G (cd.fact 22 (f := .glo "_law_spoilt") rfl)⟩
  obtain ⟨fd, DL⟩ := cd.def_ 23 (d := dd "law" 35) rfl
  have DM_Queues___init__ : DfnM K "Queues" "__init__" "Queues.__init__" s_Queues___init__ := ⟨cd.def_ 24 (d := dm "Queues" "__init__" "Queues.__init__" s_Queues___init__) rfl⟩
  have DM_Queues_holdings : DfnM K "Queues" "holdings" "Queues.holdings" s_Queues_holdings := ⟨cd.def_ 25 (d := dm "Queues" "holdings" "Queues.holdings" s_Queues_holdings) rfl⟩
  have DM_Queues_all_items : DfnM K "Queues" "all_items" "Queues.all_items" s_Queues_all_items := ⟨cd.def_ 26 (d := dm "Queues" "all_items" "Queues.all_items" s_Queues_all_items) rfl⟩
  have DM_Queues_members : DfnM K "Queues" "members" "Queues.members" s_Queues_members := ⟨cd.def_ 27 (d := dm "Queues" "members" "Queues.members" s_Queues_members) rfl⟩
  have DM_Queues_things : DfnM K "Queues" "things" "Queues.things" s_Queues_things := ⟨cd.def_ 28 (d := dm "Queues" "things" "Queues.things" s_Queues_things) rfl⟩
  have DM_Queues_queue : DfnM K "Queues" "queue" "Queues.queue" s_Queues_queue := ⟨cd.def_ 29 (d := dm "Queues" "queue" "Queues.queue" s_Queues_queue) rfl⟩
  have DM_Queues_more : DfnM K "Queues" "more" "Queues.more" s_Queues_more := ⟨cd.def_ 30 (d := dm "Queues" "more" "Queues.more" s_Queues_more) rfl⟩
  have DM_Queues_first : DfnM K "Queues" "first" "Queues.first" s_Queues_first := ⟨cd.def_ 31 (d := dm "Queues" "first" "Queues.first" s_Queues_first) rfl⟩
  have DM_Queues_given : DfnM K "Queues" "given" "Queues.given" s_Queues_given := ⟨cd.def_ 32 (d := dm "Queues" "given" "Queues.given" s_Queues_given) rfl⟩
  have DM_Queues___len__ : DfnM K "Queues" "__len__" "Queues.__len__" s_Queues___len__ := ⟨cd.def_ 33 (d := dm "Queues" "__len__" "Queues.__len__" s_Queues___len__) rfl⟩
  have DM_Queues___eq__ : DfnM K "Queues" "__eq__" "Queues.__eq__" s_Queues___eq__ := ⟨cd.def_ 34 (d := dm "Queues" "__eq__" "Queues.__eq__" s_Queues___eq__) rfl⟩
  have DM_Queues__legs : DfnM K "Queues" "_legs" "Queues._legs" s_Queues__legs := ⟨cd.def_ 35 (d := dm "Queues" "_legs" "Queues._legs" s_Queues__legs) rfl⟩
  have T : Txt K mg := ⟨He.free_ok X G (cd.fact 24 (f := .free "len") rfl), He.free_ok X G (cd.fact 25 (f := .free "isinstance") rfl), He.free_ok X G (cd.fact 26 (f := .free "all") rfl), He.free_ok X G (cd.fact 27 (f := .free "range") rfl), He.free_ok X G (cd.fact 28 (f := .free "sorted") rfl), He.free_ok X G (cd.fact 29 (f := .free "list") rfl), He.free_ok X G (cd.fact 30 (f := .free "tuple") rfl), He.free_ok X G (cd.fact 31 (f := .free "min") rfl), He.free_ok X G (cd.fact 32 (f := .free "int") rfl), He.free_ok X G (cd.fact 33 (f := .free "str") rfl), He.free_ok X G (cd.fact 34 (f := .free "bool") rfl), He.free_ok X G (cd.fact 35 (f := .free "dict") rfl), He.free_ok X G (cd.fact 36 (f := .free "zip") rfl), He.free_ok X G (cd.fact 37 (f := .free "enumerate") rfl), He.str_ok X G (cd.fact 38 (f := .str "SIGNS" signs) rfl), He.int_ok X G (cd.fact 39 (f := .int "LONGEST" 8) rfl), He.free_ok X G (cd.fact 40 (f := .free "max") rfl), He.free_ok X G (cd.fact 41 (f := .free "sum") rfl), He.free_ok X G (cd.fact 42 (f := .free "set") rfl), He.free_ok X G (cd.fact 43 (f := .free "any") rfl), He.free_ok X G (cd.fact 44 (f := .free "abs") rfl)⟩
  have N_Queues := He.glo_ok X G (cd.fact 45 (f := .glo "Queues") rfl)
  have O : Que K mg := ⟨He.cls_ok (cd.fact 46 (f := .cls "Queues") rfl), He.noat_ok (cd.fact 47 (f := .noat "Queues" "_holdings") rfl), He.noat_ok (cd.fact 48 (f := .noat "Queues" "_items") rfl)⟩
  have M_holdings : Meth K (He.ga K "Queues") "holdings" (He.fAd K ("Queues", some "holdings")) := He.meth_ok (cd.fact 49 (f := .meth "Queues" "holdings") rfl)
  have M_all_items : Meth K (He.ga K "Queues") "all_items" (He.fAd K ("Queues", some "all_items")) := He.meth_ok (cd.fact 50 (f := .meth "Queues" "all_items") rfl)
  have M_members : Meth K (He.ga K "Queues") "members" (He.fAd K ("Queues", some "members")) := He.meth_ok (cd.fact 51 (f := .meth "Queues" "members") rfl)
  have M_things : Meth K (He.ga K "Queues") "things" (He.fAd K ("Queues", some "things")) := He.meth_ok (cd.fact 52 (f := .meth "Queues" "things") rfl)
  have M_queue : Meth K (He.ga K "Queues") "queue" (He.fAd K ("Queues", some "queue")) := He.meth_ok (cd.fact 53 (f := .meth "Queues" "queue") rfl)
  have M_more : Meth K (He.ga K "Queues") "more" (He.fAd K ("Queues", some "more")) := He.meth_ok (cd.fact 54 (f := .meth "Queues" "more") rfl)
  have M_first : Meth K (He.ga K "Queues") "first" (He.fAd K ("Queues", some "first")) := He.meth_ok (cd.fact 55 (f := .meth "Queues" "first") rfl)
  have M_given : Meth K (He.ga K "Queues") "given" (He.fAd K ("Queues", some "given")) := He.meth_ok (cd.fact 56 (f := .meth "Queues" "given") rfl)
  have M__legs : Meth K (He.ga K "Queues") "_legs" (He.fAd K ("Queues", some "_legs")) := He.meth_ok (cd.fact 57 (f := .meth "Queues" "_legs") rfl)
  have OM : QueM3 K := ⟨M_holdings, M_all_items, M_members, M_things, M_queue, M_more, M_first, M_given, blen, blf, beq, bfn, bne⟩
  have N : QuN K mg := ⟨N_Queues, bca, bcn, bct, bcm, byes, bnoL⟩
  have Mo : Mk K (He.ga K "Queues") (He.fAd K ("Queues", some "__init__")) := He.mkr_ok (cd.fact 58 (f := .mkr "Queues") rfl)
  have b := FunD.bindsA (ps := ["script"]) DL fun _ _ _ _ _ _ us hl => match us, hl with | [_], _ => rfl
  refine ⟨fd, [], spLaw K, ?_, ?_, ?_, fun s v => b s [v] rfl, fun H a ns hl _ hT hS => ⟨a, ns, rfl, hS, fun _ => rfl⟩, fun base _ _ TB => ?_⟩
  · intro p hp
    cases hp
  · intro p hp
    cases hp
  · intro p hp
    cases hp
  have C_is_integer := c_is_integer (P := l.prog) (w := w) (base := base) T D_is_integer
  have C_is_list := c_is_list (P := l.prog) (w := w) (base := base) T D_is_list
  have C_is_name := c_is_name (P := l.prog) (w := w) (base := base) T D_is_name
  have C_frozen := c_frozen T D_frozen C_is_list 3
  have C_is_leg := c__is_leg T D__is_leg C_is_list C_is_name C_is_integer
  have C_cki := c__check_items T D__check_items C_is_list C_is_leg
  have C_is_held := c__is_held T D__is_held C_is_name C_is_integer
  have C_ckh := c__check_holdings T D__check_holdings C_is_name C_is_held
  have C_told := c__told_holdings (P := l.prog) (w := w) (base := base) T D__told_holdings
  have MkQ0 : MkQ l.prog w K mg base := ⟨m_init T O DM_Queues___init__ C_ckh C_cki C_told C_frozen, Mo, N_Queues⟩
  have MH := m_holdings (P := l.prog) (w := w) (base := base) T O DM_Queues_holdings
  have MA := m_all_items (P := l.prog) (w := w) (base := base) T O DM_Queues_all_items
  have MLg := m_legs (P := l.prog) (w := w) (base := base) T O DM_Queues__legs
  have MM := m_members T O ⟨M__legs⟩ DM_Queues_members MLg
  have MT := m_things T O ⟨M__legs⟩ DM_Queues_things MLg
  have MQ := m_queue (P := l.prog) (w := w) (base := base) T O DM_Queues_queue
  have ML := m_len (P := l.prog) (w := w) (base := base) T O DM_Queues___len__
  have MF := m_first T O MkQ0 DM_Queues_first C_is_integer
  have MMo := m_more T O MkQ0 DM_Queues_more C_is_list
  have MG := m_given T O ⟨M_holdings⟩ MkQ0 DM_Queues_given C_is_name C_is_integer MH
  have ME := m_eq (P := l.prog) (w := w) (base := base) T O N DM_Queues___eq__
  have Met : MetQ l.prog w K mg base := ⟨MH, MA, MM, MT, MQ, ML⟩
  have C_src := c__law_source (P := l.prog) (w := w) (base := base) T D__law_source
  have C_draw := c__law_draw (P := l.prog) (w := w) (base := base) T D__law_draw
  have C_pick := c__law_pick T D__law_pick C_draw
  have C_mix := c__law_mixed T D__law_mixed C_draw
  have C_same := c__law_same_deep (P := l.prog) (w := w) (base := base) T D__law_same 3
  have C_si := c__law_some_items T D__law_some_items C_draw C_pick C_mix
  have C_sh := c__law_some_holdings T D__law_some_holdings C_draw C_pick C_mix
  have C_q := c__law_queue (P := l.prog) (w := w) (base := base) T D__law_queue
  have C_held := c__law_held (P := l.prog) (w := w) (base := base) T D__law_held
  have C_ih := c__law_is_held T D__law_is_held C_held
  have C_lo := c__law_loose T D__law_loose C_pick
  have C_it := c__law_is_told T O OM Met D__law_is_told C_ih C_same C_held C_q
  have C_hs := c__law_handed_spoilt (P := l.prog) (w := w) (base := base) T D__law_handed_spoilt
  have C_sp := c__law_spoilt T O OM Met D__law_spoilt
  exact c_law ⟨T, O, OM, N, MkQ0, MMo, MF, MG, ME, C_src, C_draw, C_pick, C_si, C_sh, C_lo, C_held, C_it, C_hs, C_sp⟩ DL
end K31
open PySem PySem.W PySem.Calls PyProof.Rows
theorem PySem.Challenge.cw_seatroads_k31_queues_told_holds : PySem.Challenge.rw_seatroads_k31_queues_told.Holds := by
  w_on; o_law
  refine HandSHeadRun.head_any (r := OpenLaw.row PySem.Challenge.rw_seatroads_k31_queues_told) (q := view (OpenLaw.row PySem.Challenge.rw_seatroads_k31_queues_told).prog [35]) (H := K31.hk) (ob := K31.ob) (M := 60000) (loose := K31.loose) (d := HandSHeadRun.topDef (OpenLaw.row PySem.Challenge.rw_seatroads_k31_queues_told).prog 35) (kwd := []) K31.ob_eq
    (by kernel_rfl) (fun s => by kernel_rfl) K31.run (by kernel_rfl) (by kernel_rfl) (by kernel_rfl) (by rfl) (by first | assumption | decide +kernel) (by decide +kernel) ⟨rfl, rfl, rfl, rfl, rfl, by decide +kernel⟩ ?hw ?hc
  case hw => w_witness2
  case hc =>
    refine LamX.walk_ofTsE (l := PySem.Challenge.rw_seatroads_k31_queues_told) (n := 63) (k := 14) (x := "script") (CX := fun _ => L2.CX0) rfl (by decide) (by kernel_rfl) ⟨rfl, by decide, by decide⟩ ?F (fun _ _ _ _ _ z => z)
    intro w mg fa h Y G hmg0
    obtain ⟨K, KX, c⟩ := Y
    have hmg : mg ("law" : PySem.Str) = some (.ref fa) := by
      have e : (HandSHeadRun.topDef (OpenLaw.row PySem.Challenge.rw_seatroads_k31_queues_told).prog 35).name = ("law" : PySem.Str) := by kernel_rfl
      rw [← e]
      exact hmg0
    exact ⟨K, KX, K31.facts KX G hmg c⟩
