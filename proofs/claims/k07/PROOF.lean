import PyProof.Rows.All
import Wide.All
import OpenK.AllK
import Wide.FinOn
import KE.KStateDown
import HandS.ForMost
import HandS.Defaults
import HandS.IsInst
import HandS.CallLocal
import HandS.TupAny
import HandS.NoneIn
import HandS.Strs
import HandS.TryOnly
import HandS.Head0
import HandS.Head1
import HandS.Head2
import HandS.HeadEnd
import HandS.HeadHook1
import HandS.HeadHook2
import HandS.HeadHook3
import HandS.HeadHook4
import HandS.ListItems
import HandS.More
import HandS.Walk
import HandS.DictComp
import HandS.Zip
import KE.SortData
import HandS.Conv
import KE.KDictPairs
import HandS.Exc
import HandS.TryMany
import HandS.ExcInit
import HandS.ExcField
import KE.GoesEnum
import HandS.Lambda
import HandS.EndTab
import HandS.Deep
import KE.KeyNested
import KE.KDictWalk
import HandS.SlotsOwn
import KE.KEqNest
import KE.KDictLaw
import HandS.WordsDict
import HandS.Style
import HandS.SetKeys
import KE.KDictCopyH
import HandS.SetFor
import HandS.Text
import PyProof.SeqRoads2
import KE.KEqDict
import HandS.HeadWalk
import PySem.Challenge.RW_seatroads_k07_truths_told
set_option Elab.async false
set_option linter.all false
set_option maxRecDepth 100000
set_option maxHeartbeats 4000000
namespace Sr
open PySem PySem.Spec PyProof.Rows L2

/-- a def of the top that may be called: its promise, its name -/
structure Cal (P : Program) (w : World) (K : PySem.W.Frag) (mg : Str → Option Value) (base : Heap) (k : Nat) (x : Str) (ps : List Str) (sp : Sp) : Prop where
  ex : ∃ (f : Addr) (fd : FuncData), FnOk P w K mg base CX0 k f fd ps sp ∧ mg x = some (.ref f) ∧ PySem.W.keepIn K (.ref f) = true ∧ Binds K fd ps []

theorem pe_cal {X : Cx} {k k' : Nat} {x : Str} {ps : List Str} {sp : Sp} {p pos : Pos} {e : Expr} {es : List Expr} {t : TA} (C : Cal X.prog X.w X.K X.mg X.base k x ps sp) (hr : Room k' X.A) (hk : k ≤ k') (hg : Gl X x) (ha : PA X (e :: es) t)
    (hdb : (x == ("__debug__" : Str)) = false := by decide) (he : starEach (e :: es) X.env = (false, eval e X.env) :: starEach es X.env := by rfl) (hpl : (backTo pos (starEach es X.env)).any (·.1) = false := by rfl) :
    PE X (.Call (.Name x p) (e :: es) [] pos) (tCall sp [] E0 t) := by
  obtain ⟨f, fd, F, hm, hkp, hb⟩ := C.ex
  exact pe_call F (hr.mono hk) hg hm hkp hb .nil pass0 ha hdb he hpl

/-- a def of the top as the head tells it -/
structure Dfn (K : PySem.W.Frag) (mg : Str → Option Value) (x : Str) (st : Stmt) : Prop where
  fn : ∃ fd, FunD K x x (defArgs st) (defBody st) (defScope st) [] [] (He.ga K x) fd
  at_ : mg x = some (.ref (He.ga K x))

theorem Dfn.cal {P : Program} {w : World} {K : PySem.W.Frag} {mg : Str → Option Value} {base : Heap} {x : Str} {st : Stmt} {N ps : List Str} {k : Nat} {sp : Sp} (D : Dfn K mg x st) (S : FnScope N ps (defScope st))
    (hb : ∀ (kV doc pm : Value) (an : Option Addr) (cdv ct : Value) (us : List Value), us.length = ps.length → bindArgs (PySem.W.fnOf x x (defArgs st) (defBody st) (defScope st) .none kV doc pm an cdv ct) ⟨us, []⟩ = pure (ps.zip us))
    (len : ∀ vs H Q E, sp vs H Q E → vs.length = ps.length)
    (body : ∀ (cdv : Value) (A : Around) (outer : List Env) (s : Shared) (H : Hp) (vs : List V) (Q : VK) (E : XK), Room k (A.deeper (envOfC x (defScope st) s.heap.objs.size (He.ga K x) cdv)) → sp vs H Q E →
      ∃ t, PSs (cxOf CX0 P w K mg base N x (defScope st) (He.ga K x) cdv A outer s H E).nox (defBody st) t ∧ t { nx := fun _ H' => Q .non H', rt := Q } (start N vs) H) :
    Cal P w K mg base (k + 1) x ps sp := by
  obtain ⟨fd, F⟩ := D.fn
  refine ⟨_, fd, F.ok S len fun cdv A outer s H vs Q E hr h => ?_, D.at_, F.kp, F.bindsN hb⟩
  obtain ⟨t, h1, h2⟩ := body cdv A outer s H vs Q E hr h
  exact ⟨t, PSs.nox h1, h2⟩

/-- a method of a class of the top -/
structure CalM (P : Program) (w : World) (K : PySem.W.Frag) (mg : Str → Option Value) (base : Heap) (CX : CXT) (k : Nat) (f : Addr) (ps : List Str) (sp : Sp) : Prop where
  ex : ∃ fd : FuncData, FnOk P w K mg base CX k f fd ps sp ∧ PySem.W.keepIn K (.ref f) = true ∧ Binds K fd ps []
/-- a method as the head tells it -/
structure DfnM (K : PySem.W.Frag) (c m qual : Str) (st : Stmt) : Prop where
  fn : ∃ fd, FunD K m qual (defArgs st) (defBody st) (defScope st) [] [] (He.fAd K (c, some m)) fd
theorem DfnM.cal {P : Program} {w : World} {K : PySem.W.Frag} {mg : Str → Option Value} {base : Heap} {c m qual : Str} {st : Stmt} {N ps : List Str} {k : Nat} {sp : Sp} (D : DfnM K c m qual st) (S : FnScope N ps (defScope st))
    (hb : ∀ (kV doc pm : Value) (an : Option Addr) (cdv ct : Value) (us : List Value), us.length = ps.length → bindArgs (PySem.W.fnOf m qual (defArgs st) (defBody st) (defScope st) .none kV doc pm an cdv ct) ⟨us, []⟩ = pure (ps.zip us))
    (len : ∀ vs H Q E, sp vs H Q E → vs.length = ps.length)
    (body : ∀ (cdv : Value) (A : Around) (outer : List Env) (s : Shared) (H : Hp) (vs : List V) (Q : VK) (E : XK), Room k (A.deeper (envOfC qual (defScope st) s.heap.objs.size (He.fAd K (c, some m)) cdv)) → sp vs H Q E →
      ∃ t, PSs (cxOf CX0 P w K mg base N qual (defScope st) (He.fAd K (c, some m)) cdv A outer s H E).nox (defBody st) t ∧ t { nx := fun _ H' => Q .non H', rt := Q } (start N vs) H) :
    CalM P w K mg base CX0 (k + 1) (He.fAd K (c, some m)) ps sp := by
  obtain ⟨fd, F⟩ := D.fn
  refine ⟨fd, F.ok S len fun cdv A outer s H vs Q E hr h => ?_, F.kp, F.bindsN hb⟩
  obtain ⟨t, h1, h2⟩ := body cdv A outer s H vs Q E hr h
  exact ⟨t, PSs.nox h1, h2⟩

/-- x in o, o an instance whose class says __contains__ -/
structure Has (K : PySem.W.Frag) (C f : Addr) : Prop where
  at_ : PySem.W.findIn K (.ref C) "__contains__" = some (some (.ref f))
  ty : PySem.W.typeIn K (.ref f) = some (.type "function")
def rInOwn (C : Addr) (sp : Sp) (E : XK) (neg : Bool) : R2 := fun x y H Q => ∃ a dx fs, y = .ref a ∧ H a = some (.ins C dx fs) ∧ sp [y, x] H (fun v H' => ∃ b, v = .bl b ∧ Q (.bl (if neg then !b else b)) H') E

theorem own_in {X : Cx} {CX : CXT} {k : Nat} {C f : Addr} {fd : FuncData} {ps : List Str} {sp : Sp} {E : XK} (F : FnOk X.prog X.w X.K X.mg X.base CX k f fd ps sp) (hr : Room k X.A) (hs : Has X.K C f) (hb : Binds X.K fd ps []) (hx : Passes CX X E)
    {pins : List (Addr × Obj)} {s : Shared} {σ : L2.St} {H : Hp} {x y : V} {v u : Value} {Q : Bool → Shared → Prop} (I : Inv X pins σ H s) (rx : RelV x v) (ry : RelV y u)
    (h : ∃ a dx fs, y = .ref a ∧ H a = some (.ins C dx fs) ∧ sp [y, x] H (fun v H' => ∃ b, v = .bl b ∧ ∀ s', Inv X pins σ H' s' → Q b s') E) :
    wpAny (model X.prog X.w) X.A (contains u v) Q X.xe s := by
  obtain ⟨a, dx, fs, rfl, ha, hsp⟩ := h
  cases ry
  obtain ⟨mA, J, _⟩ := ins_get I.hok ha
  obtain ⟨od, J, _⟩ := J.look
  unfold contains
  refine wpAny_holding ?_
  rw [stdlibNamesSay?_ref]
  refine wpAny_bind ?_
  unfold specialOf
  refine wpAny_bind (J.type.here ?_)
  refine (PySem.W.looks_findIn I.kIn hs.at_).here ?_
  show wpAny _ _ (if (some (Value.ref f) == some Value.none) = true then _ else _) _ _ _
  rw [if_neg (by simp)]
  refine wpAny_bind ?_
  unfold callSpecialUnlessNone?
  refine wpAny_bind ?_
  unfold specialOf
  refine wpAny_bind (J.type.here ?_)
  refine (PySem.W.looks_findIn I.kIn hs.at_).here ?_
  refine wpAny_holding ?_
  refine wpAny_bind ((PySem.W.bind_fn I.kIn (.ref a) hs.ty).here ?_)
  show wpAny _ _ (if (Value.ref f == Value.none) = true then _ else _) _ _ _
  rw [if_neg (by simp)]
  refine wpAny_bind ?_
  have r2 : Vals [V.ref a, x] [Value.ref a, v] := .cons rfl (.cons rx .nil)
  refine thn (run_fn (dvs := []) (ds := []) F hr hb .nil hx I r2 hsp) fun r s1 hq => ?_
  obtain ⟨z, H1, I1, rz, b, ez, hb1⟩ := hq
  subst ez
  obtain rfl : r = Value.bool b := rz
  exact wpAny_pure (wpAny_truthy_bool (hb1 s1 I1))

theorem op_inOwn {X : Cx} {CX : CXT} {k : Nat} {C f : Addr} {fd : FuncData} {ps : List Str} {sp : Sp} {E : XK} (F : FnOk X.prog X.w X.K X.mg X.base CX k f fd ps sp) (hr : Room k X.A) (hs : Has X.K C f) (hb : Binds X.K fd ps []) (hx : Passes CX X E)
    (hm : ∀ x y H Q Q' E, (∀ v H', Q v H' → Q' v H') → sp [x, y] H Q E → sp [x, y] H Q' E) :
    OpR X (compareOp .In) (rInOwn C sp E false) := by
  intro pins s σ H x y v u Q I rx ry h
  obtain ⟨a, dx, fs, e, ha, hsp⟩ := h
  show wpAny _ _ (do return Value.bool (← contains u v)) _ _ _
  refine wpAny_bind (own_in F hr hs hb hx (Q := fun b s' => wpAny (model X.prog X.w) X.A (pure (Value.bool b)) (EP X pins σ Q) X.xe s') I rx ry ⟨a, dx, fs, e, ha, hm _ _ _ _ _ _ (fun z H' hz => ?_) hsp⟩)
  obtain ⟨b, rfl, hq⟩ := hz
  exact ⟨b, rfl, fun s' I' => wpAny_pure ⟨.bl b, H', I', rfl, hq⟩⟩
theorem op_has {X : Cx} {k k' : Nat} {C f : Addr} {ps : List Str} {sp : Sp} (M : CalM X.prog X.w X.K X.mg X.base CX0 k f ps sp) (hr : Room k' X.A) (hk : k ≤ k') (hs : Has X.K C f)
    (hm : ∀ x y H Q Q' E, (∀ v H', Q v H' → Q' v H') → sp [x, y] H Q E → sp [x, y] H Q' E) : OpR X (compareOp .In) (rInOwn C sp E0 false) := by
  obtain ⟨fd, F, _, hb⟩ := M.ex
  exact op_inOwn F (hr.mono hk) hs hb pass0 hm
end Sr

set_option Elab.async false
set_option linter.all false
set_option maxRecDepth 100000
set_option maxHeartbeats 4000000
namespace Sr
open PySem PySem.Spec PyProof.Rows L2
open PySem.SeqAt
/-! ### set(texts): how many unlike ones -/
/-- the unlike texts among the first i, in the order in which they are met -/
def met (xs : List Str) : Nat → List Str
  | 0 => []
  | i + 1 => if (met xs i).any (· == xs.getD i Str.empty) = true then met xs i else met xs i ++ [xs.getD i Str.empty]
theorem met_le (xs : List Str) : ∀ i, (met xs i).length ≤ i
  | 0 => Nat.le_refl _
  | i + 1 => by
    have := met_le xs i
    unfold met
    split
    · omega
    · rw [List.length_append]; simp; omega
theorem met_any (xs : List Str) (i : Nat) (k : Str) : ((met xs i).any (· == k) || decide (k = xs.getD i Str.empty)) = (met xs (i + 1)).any (· == k) := by
  show _ = (if (met xs i).any (· == xs.getD i Str.empty) = true then met xs i else met xs i ++ [xs.getD i Str.empty]).any (· == k)
  split
  · rename_i h
    by_cases e : k = xs.getD i Str.empty
    · rw [e, h]; rfl
    · rw [decide_eq_false e, Bool.or_false]
  · rw [List.any_append]
    by_cases e : k = xs.getD i Str.empty
    · subst e; simp
    · rw [decide_eq_false e]
      have : (xs.getD i Str.empty == k) = false := by
        rw [beq_eq_false_iff_ne]; exact fun z => e z.symm
      simp only [List.any_cons, List.any_nil, this, Bool.or_false]
theorem met_len (xs : List Str) (i : Nat) : (if ((met xs i).any (· == xs.getD i Str.empty)) = true then (met xs i).length else (met xs i).length + 1) = (met xs (i + 1)).length := by
  show _ = (if (met xs i).any (· == xs.getD i Str.empty) = true then met xs i else met xs i ++ [xs.getD i Str.empty]).length
  split <;> rename_i h
  · rfl
  · rw [List.length_append]; rfl
abbrev nset (led : Bool) : Obj := { cls := .type "set", dict := none, data := .set #[] 0 (.fresh 0 0 led) }
section
variable {prog : Program} {w : World} {A : Around} {R : Result → Shared → Prop} {I : Addr} {fp wr : List Addr} {G : Array GenState → Array GenState → Prop} {n : Nat} {P : Nat → Value → Prop} {Stt : Nat → Shared → Prop}
theorem texts_loop (W : WalksS prog w A.in1 I fp wr G n P Stt) (S : Addr) (hSf : S ∉ fp) (xs : List Str) (hv : ∀ i v, P i v → ∃ t, v = .str (xs.getD i Str.empty) t) (hb : n + 1 < scanBound) (d : Nat) :
    ∀ (i : Nat) (s : Shared), n = i + d → Stt i s → s.heap.SetOf (PySem.strKind prog w) S (fun k => (met xs i).any (· == k)) (met xs i).length →
      (∀ s', Moved (S :: wr) G s s' → s'.heap.SetOf (PySem.strKind prog w) S (fun k => (met xs n).any (· == k)) (met xs n).length → R (.ok (.ret .none)) s') →
      codeAny (model prog w) A (.builtin "set.update.loop" ⟨[.ref S, .ref I], []⟩) R s := by
  have out : S ∉ wr := fun h => hSf (W.sub _ h)
  have more : ∀ b ∈ wr, b ∈ S :: wr := fun b h => List.mem_cons_of_mem _ h
  have moves : ∀ (s s' : Shared) (i : Nat), Moved wr G s s' → s.heap.SetOf (PySem.strKind prog w) S (fun k => (met xs i).any (· == k)) (met xs i).length →
      s'.heap.SetOf (PySem.strKind prog w) S (fun k => (met xs i).any (· == k)) (met xs i).length := fun s s' i hm ⟨o, es, ep, t, ho, r⟩ => ⟨o, es, ep, t, hm.heap S _ out ho, r⟩
  induction d with
  | zero =>
    intro i s hd hs hS hR
    obtain rfl : n = i := hd
    refine codeAny_builtin PyProof.Rows.F.entry_set_update_loop ?_
    rw [Around.under_plainId PyProof.Rows.F.plain_set_update_loop _]
    show wpAny _ A.in1 (pyNext (.ref I) >>= _) _ _ s
    refine wpAny_bind (W.done s _ _ hs fun s' hm => ?_)
    show wpAny _ A.in1 (ret Value.none) _ _ s'
    exact wpAny_pure (hR s' (hm.mono more) (moves s s' _ hm hS))
  | succ d ih =>
    intro i s hd hs hS hR
    have lt : i < n := by omega
    refine codeAny_builtin PyProof.Rows.F.entry_set_update_loop ?_
    rw [Around.under_plainId PyProof.Rows.F.plain_set_update_loop _]
    show wpAny _ A.in1 (pyNext (.ref I) >>= _) _ _ s
    refine wpAny_bind (W.item i s _ _ lt hs fun v s' hP hs' hm => ?_)
    obtain ⟨t, rfl⟩ := hv i v hP
    have hS' := moves s s' i hm hS
    show wpAny _ A.in1 (holding [Value.str (xs.getD i Str.empty) t] (setAdd S _) >>= _) _ _ s'
    refine wpAny_bind (wpAny_holding ?_)
    unfold setAdd
    refine wpAny_holding (wpAny_bind ((PySem.strKind prog w).pyHash (k := xs.getD i Str.empty) (strKind_is _ _ _ _) ?_))
    have room : (met xs i).length + 1 < scanBound := by have := met_le xs i; omega
    refine wpAny_setAddHashed_of (knd := PySem.strKind prog w) (s := { s' with toks := s'.toks + 1 }) (strKind_is _ _ _ _) rfl hS' room fun h' hsb hS2 => ?_
    have hS3 : h'.SetOf (PySem.strKind prog w) S (fun k => (met xs (i + 1)).any (· == k)) (met xs (i + 1)).length :=
      PyProof.Rows.SetOf_congr hS2 (fun k => met_any xs i k) (met_len xs i)
    refine wpAny_pure ⟨plainId_quiet PyProof.Rows.F.plain_set_update_loop _, ih (i + 1) _ (by omega) (W.frame _ s' _ _ hs' (Nat.le_succ _) fun b hb o e => ?_) hS3 fun s2 hm2 hS4 => ?_⟩
    · rw [hsb.2 b (fun h : b = S => hSf (by rw [← h]; exact hb))]
      exact e
    · refine hR s2 (Moved.trans W.gtrans ((hm.mono more).then_heap (Nat.le_succ _) fun b o hb e => ?_) hm2) hS4
      rw [hsb.2 b (fun h : b = S => hb (by rw [h]; exact List.mem_cons_self))]
      exact e
end
/-- what set(l) leaves -/
def SetOut (prog : Program) (w : World) (s : Shared) (xs : List Str) (n : Nat) (h' : Heap) : Prop :=
  h'.SetOf (PySem.strKind prog w) s.heap.objs.size (fun k => (met xs n).any (· == k)) (met xs n).length ∧ ∀ b o, b < s.heap.objs.size → s.heap.get? b = some o → h'.get? b = some o
section
variable {prog : Program} {w : World} {A : Around} {E : Value → Shared → Prop} {s : Shared}
theorem texts_set {l : Addr} {items : Array Value} {xs : List Str} {Q : Value → Shared → Prop} {ty : String} {walk : Obj} {wr : List Addr} {G : Array GenState → Array GenState → Prop} {Stt : Nat → Shared → Prop}
    (hl : s.heap.get? l ≠ none) (hi : PyProof.Rows.StrsAre items.toList xs) (hb : items.size + 1 < scanBound)
    (e1 : isSubtype (.type ty) (.type "set") = pure false) (e2 : isSubtype (.type ty) (.type "frozenset") = pure false) (e3 : (Value.type ty == Value.type "dict") = false)
    (hty : ∀ led, Shared.TypeIs { s with heap := s.heap.push (nset led) } (.ref l) ty)
    (hit : ∀ (led : Bool) (A : Around) (Q : Value → Shared → Prop) (E : Value → Shared → Prop), (∀ s' : Shared, s' = { s with heap := (s.heap.push (nset led)).push walk } → Q (.ref (s.heap.objs.size + 1)) s') → wpAny (model prog w) A (pyIter (.ref l)) Q E { s with heap := s.heap.push (nset led) })
    (hW : WalksS prog w A.in1.in1.in1 (s.heap.objs.size + 1) [s.heap.objs.size + 1, l] wr G items.size (fun i v => items[i]? = some v) Stt)
    (hG : ∀ a b, G a b → b = a)
    (hwr : ∀ b ∈ wr, b = s.heap.objs.size + 1)
    (hst : ∀ led, Stt 0 { s with heap := (s.heap.push (nset led)).push walk })
    (h : ∀ (h' : Heap) (tk : Nat), SetOut prog w s xs items.size h' → Q (.ref s.heap.objs.size) { s with heap := h', toks := tk }) :
    wpAny (model prog w) A (call (.type "set") [.ref l]) Q E s := by
  have lt : l < s.heap.objs.size := by
    cases e : s.heap.get? l with
    | none => exact absurd e hl
    | some o => exact Heap.lt_size e
  obtain ⟨c, tl, hmro⟩ := PySem.F.called_set.mro
  have a1 := PySem.F.called_set.made
  have a2 := PySem.F.called_set.sub
  have a3 := PySem.F.called_set.notType
  have a4 := PySem.F.called_set.canCreate
  have a5 := PySem.F.typeCall_set_1 (.ref l)
  refine wpAny_call (codeAny_of_tree ?_)
  show wpAny _ _ (callAny (.type "set") _) _ _ _
  refine wpAny_pure ⟨Code.quiet_builtin _ (by decide +kernel), codeAny_builtin PySem.F.entry_type_call ?_⟩
  rw [Around.under_plain (weight_type_call_type "set" [.ref l] []) rfl]
  repeat (any_goals (first | assumption | wp_step))
  refine codeAny_mono (code_set_new_1 (.ref l) (E := E) (Q₁ := fun obj t => ∃ led : Bool, obj = .ref s.heap.objs.size ∧ t = { s with heap := s.heap.push (nset led) }) fun led => ⟨led, rfl, rfl⟩) fun r t hr => ?_
  cases r with
  | error e => exact hr
  | ok fl =>
    cases fl with
    | ret obj =>
      obtain ⟨led, rfl, rfl⟩ := hr
      have b1 : (s.heap.push (nset led)).get? s.heap.objs.size = some (nset led) := Heap.get?_push_size _ rfl
      have b2 : Shared.TypeIs { s with heap := s.heap.push (nset led) } (.ref s.heap.objs.size) "set" := ⟨_, b1, rfl⟩
      have b3 := PySem.F.called_set.init.lookup
      have b4 := PySem.F.called_set.init.bind (.ref s.heap.objs.size)
      repeat (any_goals (first | assumption | wp_step))
      refine codeAny_mono (codeAny_call_builtin (R := wants (fun r t => r = .none ∧ ∃ h' tk, t = { s with heap := h', toks := tk } ∧ SetOut prog w s xs items.size h') E) PySem.F.called_set.init.plain PySem.F.entry_set_init (check_set_init_1 b2 ?_)) fun r t hr => ?_
      · have c1 := hty led
        unfold Builtin.«set.__init__» noKeywords Builtin.Frozenset.updateFrom
        generalize hPI : pyIter = PI
        wp_walk
        subst hPI
        refine hit led _ _ _ fun s' e => ?_
        subst e
        refine wpAny_bind (wpAny_runValue ?_)
        have nS : s.heap.objs.size ∉ [s.heap.objs.size + 1, l] := fun z => by
          rcases List.mem_cons.mp z with z | z
          · exact Nat.ne_of_lt (Nat.lt_succ_self _) z
          · exact Nat.ne_of_gt lt (List.mem_singleton.mp z)
        have hsz : xs.length = items.size := by rw [← PyProof.Rows.StrsAre.len_eq hi, Array.length_toList]
        have hS0 : ((s.heap.push (nset led)).push walk).SetOf (PySem.strKind prog w) s.heap.objs.size (fun k => (met xs 0).any (· == k)) (met xs 0).length := by
          have g : ((s.heap.push (nset led)).push walk).get? s.heap.objs.size = some (nset led) := Heap.get?_push_of_some _ b1
          exact PyProof.Rows.SetOf_congr ((PyProof.Rows.setObjOf_fresh (knd := PySem.strKind prog w) led).setOf g (by unfold scanBound; omega)) (fun _ => rfl) rfl
        refine texts_loop hW s.heap.objs.size nS xs (fun i v hv => SS.strs_at hi i v (by rw [Array.getElem?_toList]; exact hv)) hb items.size 0 _ (by omega) (hst led) hS0 fun s' hm hS' => ?_
        obtain ⟨h', g', d', tk', os'⟩ := s'
        obtain rfl : g' = s.gens := hG _ _ hm.gens
        obtain rfl : d' = s.drawn := hm.drawn
        obtain rfl : os' = s.os := hm.os
        show wpAny _ _ _ _ _ _
        refine wpAny_pure ?_
        show wpAny _ _ (ret Value.none) _ _ _
        refine wpAny_pure ⟨rfl, h', tk', rfl, hS', fun b o hb e => ?_⟩
        refine hm.heap b o ?_ (Heap.get?_push_of_some _ (Heap.get?_push_of_some _ e))
        intro z
        rcases List.mem_cons.mp z with z | z
        · exact Nat.ne_of_lt hb z
        · exact Nat.ne_of_lt (Nat.lt_succ_of_lt hb) (hwr b z)
      · cases r with
        | error e => exact hr
        | ok fl =>
          cases fl with
          | ret r =>
            obtain ⟨rfl, h', tk, rfl, o⟩ := hr
            repeat (any_goals (first | assumption | wp_step))
            exact h _ _ o
          | _ => exact hr.elim
    | _ => exact hr.elim
end

end Sr

set_option Elab.async false
set_option linter.all false
set_option maxRecDepth 100000
set_option maxHeartbeats 4000000
namespace Sr
open PySem PySem.Spec PyProof.Rows L2
open PySem.SeqAt

section
variable {X : Cx}
def tLenSetT (K : PySem.W.Frag) (ta : TE) : TE := fun σ H Q => ta σ H fun x H1 => ∃ (l : Addr) (xs : List Str), x = .ref l ∧ (SqL K H1 l (xs.map V.str) ∨ SqT K H1 l (xs.map V.str)) ∧ xs.length ≤ 60 ∧ Q (.int (met xs xs.length).length) H1
theorem pe_lenSetT {a : Expr} {ta : TE} {p p2 q pos : Pos} (hc : X.calm = true) (hg : Gl X "len") (hm : X.mg "len" = none) (hg2 : Gl X "set") (hm2 : X.mg "set" = none) (ha : PE X a ta)
    (na : starEach [a] X.env = (false, eval a X.env) :: starEach [] X.env := by rfl) : PE X (.Call (.Name "len" p) [.Call (.Name "set" p2) [a] [] q] [] pos) (tLenSetT X.K ta) := by
  refine ⟨fun pins s σ H Q I h => ?_⟩
  refine Call_ (ld_blt I hg hm boot_len ?_)
  refine PyProof.Rows.callWith_builtin1 (PyProof.Rows.args_cons ?_ rfl) rfl rfl
  refine Call_ (ld_blt (u := .type "set") I hg2 hm2 (by decide +kernel) ?_)
  refine PyProof.Rows.callWith_type1 (PyProof.Rows.args_cons (thn (ha.run pins s σ H _ I h) fun v s1 ⟨x, H1, I1, r1, q1⟩ => PyProof.Rows.args_nil ?_) na) na rfl
  obtain ⟨l, xs, rfl, hq, h1, q1⟩ := q1
  cases r1
  have fin : ∀ (its : List Value), Vals (xs.map V.str) its → ∀ (h' : Heap) (tk : Nat), SetOut X.prog X.w s1 xs its.toArray.size h' →
      wpAny (model X.prog X.w) X.A (spliced (backTo pos (starEach [] X.env))) (fun vs s₂ => wpAny (model X.prog X.w) X.A (call (.builtin "len") (Value.ref s1.heap.objs.size :: vs)) (EP X pins σ Q) X.xe s₂) X.xe { s1 with heap := h', toks := tk } := fun its r h' tk ⟨hS, hk⟩ => by
    refine PyProof.Rows.args_nil ?_
    have hl : its.toArray.size = xs.length := by rw [List.size_toArray, ← r.length, List.length_map]
    rw [hl] at hS
    have := met_le xs xs.length
    obtain ⟨o, es, ep, t, ho, hex, hd, _, _, _, hf, hn⟩ := hS
    have I2 : Inv X pins σ H1 { s1 with heap := h', toks := tk } := I1.kept fun b o e => hk b o (Heap.lt_size e) e
    exact call_len_set ho hex hd hf (by rw [hn] <;> omega) ⟨.int _, H1, I2.tok _, ⟨_, by rw [hn]⟩, q1⟩
  have zz : ∀ its : List Value, Vals (xs.map V.str) its → its.toArray.size + 1 < scanBound := fun its r => by
    rw [List.size_toArray, ← r.length, List.length_map]; unfold scanBound; omega
  have lts : ∀ {o : Obj}, s1.heap.get? l = some o → l < s1.heap.objs.size := fun e => Heap.lt_size e
  have hh : ∀ A : Around, A.handled = none → A.in1.in1.in1.handled = none := fun A h => by simp [h]
  have g2 : ∀ (led : Bool) (o : Obj) (ho : o.isFreed = false), ((s1.heap.push (nset led)).push o).get? (s1.heap.objs.size + 1) = some o := fun led o ho => by
    have e := Heap.get?_push_size (s1.heap.push (nset led)) ho
    rwa [Heap.size_push] at e
  have it : ∀ (led : Bool) (o : Obj) (Q : Value → Shared → Prop), (∀ s' : Shared, s' = { s1 with heap := (s1.heap.push (nset led)).push o } → Q (.ref (s1.heap.objs.size + 1)) s') → Q (.ref (s1.heap.push (nset led)).objs.size) { s1 with heap := (s1.heap.push (nset led)).push o } := fun led o Q k => by
    rw [Heap.size_push]
    exact k _ rfl
  rcases hq with hq | hq
  · obtain ⟨its, r, pl, hz⟩ := I1.list hq
    obtain ⟨ol, e, ec, nn, ed⟩ := pl.isList
    have il : s1.heap.IsList l its.toArray := ⟨ol, e, ec, nn, ed⟩
    have ne : l ≠ s1.heap.objs.size + 1 := Nat.ne_of_lt (Nat.lt_succ_of_lt (lts e))
    exact texts_set (ty := "list") (walk := { cls := .type "list_iterator", data := .fields #[.ref l, .int 0 0] }) (by rw [e]; simp) (by simpa using strsAre_of r) (zz its r) PySem.F.sub_list_set PySem.F.sub_list_frozenset (by decide) (fun led => ⟨_, Heap.get?_push_of_some _ e, ec⟩)
      (fun led A Q E k => wpAny_pyIter_list (il.push _) (it led _ Q k)) ((Walks.list (hh _ (I1.ok.hd hc)) _ l ne its.toArray).toS) (fun a b e => e) (fun b hb => List.mem_singleton.mp hb) (fun led => ⟨⟨_, g2 led _ rfl, rfl, rfl⟩, (il.push _).push _⟩) fun h' tk o => fin its r h' tk o
  · obtain ⟨its, r, pl, hz⟩ := I1.tuple hq
    have il : s1.heap.IsTuple l its.toArray := pl
    obtain ⟨ol, e, ec, nn, ed⟩ := pl
    have ne : l ≠ s1.heap.objs.size + 1 := Nat.ne_of_lt (Nat.lt_succ_of_lt (lts e))
    exact texts_set (ty := "tuple") (walk := { cls := .type "tuple_iterator", data := .fields #[.ref l, .int 0 0] }) (by rw [e]; simp) (by simpa using strsAre_of r) (zz its r) PySem.F.sub_tuple_set PySem.F.sub_tuple_frozenset (by decide) (fun led => ⟨_, Heap.get?_push_of_some _ e, ec⟩)
      (fun led A Q E k => wpAny_pyIter_tuple (il.push _) (it led _ Q k)) ((Walks.tuple (hh _ (I1.ok.hd hc)) _ l ne its.toArray).toS) (fun a b e => e) (fun b hb => List.mem_singleton.mp hb) (fun led => ⟨⟨_, g2 led _ rfl, rfl, rfl⟩, (il.push _).push _⟩) fun h' tk o => fin its r h' tk o
end
end Sr

set_option Elab.async false
set_option linter.all false
set_option maxRecDepth 100000
set_option maxHeartbeats 4000000
namespace Sr
open PySem PySem.Spec PyProof.Rows L2
/-! ### list(d.values()) -/
def tListValues (te : TE) : TE := fun σ H Q => te σ H fun x H1 => ∃ d kvs, x = .ref d ∧ H1 d = some (.dK kvs) ∧ ∀ p, H1 p = none → Q (.ref p) (upd H1 p (.lst (kvs.map (·.2))))
theorem vals_of_kv : ∀ {kvs : List (Key × V)} {vs : List (Key × Value)}, KV kvs vs → Vals (kvs.map (·.2)) (vs.map (·.2))
  | _, _, .nil => .nil
  | _, _, .cons h t => .cons h.2 (vals_of_kv t)
theorem pe_listValues {X : Cx} {e : Expr} {te : TE} {p apos cpos pos : Pos} (hg : Gl X "list") (hm : X.mg "list" = none) (he : PE X e te) (hc : X.calm = true := by rfl) (hbase : attributeBase e "values" X.env (eval e X.env) = eval e X.env := by rfl) (hline : (apos.endLine == cpos.line) = true := by rfl)
    (hs : starEach [.Call (.Attribute e "values" apos) [] [] cpos] X.env = (false, eval (.Call (.Attribute e "values" apos) [] [] cpos) X.env) :: starEach [] X.env := by rfl) :
    PE X (.Call (.Name "list" p) [.Call (.Attribute e "values" apos) [] [] cpos] [] pos) (tListValues te) := by
  refine ⟨fun pins s σ H Q I hq => ?_⟩
  refine wpAny_Call_Name_kw (ld_blt (u := .type "list") I hg hm (by decide +kernel) ?_)
  refine PyProof.Rows.callWith_type1 ?_ hs rfl
  rw [hs]
  show wpAny _ _ (spliced ((false, eval (.Call (.Attribute e "values" apos) [] [] cpos) X.env) :: backTo pos (starEach [] X.env))) _ _ s
  refine Calls.spliced_cons ?_
  refine wpAny_Call_method (T := "dict") (id := "dict.values") hbase rfl hline F.plainAttrs_dict F.slot_dict_values F.type_dict_values (thn (he.run pins s σ H _ I hq) fun u s1 ⟨x, H1, I1, rx, d, kvs, ex, hd, q⟩ => ?_)
  subst ex
  obtain rfl : u = Value.ref d := rx
  obtain ⟨hz, hs0, vs, kv, hdo⟩ := I1.hok d _ hd
  obtain ⟨ep, hat⟩ := hdo.dictAt
  have lk : kvs.length = vs.length := Paired.length kv
  have I2 : Inv X pins σ H1 { s1 with heap := s1.heap.push { cls := .type "dict_values", data := .fields #[.ref d] } } := I1.kept (t' := s1.toks) fun b ob q => Heap.get?_push_of_some _ q
  refine ⟨hdo.typeIs, hdo.mapOf.noDict, ?_⟩
  show wpAny _ _ (callWith cpos (.builtin "dict.values") [.ref d] [] []) _ X.xe s1
  refine method_meetsIn F.slot_dict_values F.entry_dict_values rfl (PySem.evalArgs_none ⟨rfl, hdo.typeIs, F.args_dict_values_1 _, _, meets_dict_values (mixKind X.prog X.w) d hs0, ⟨vs, hdo⟩, ?_⟩)
  refine Calls.spliced_nil ?_
  refine PySem.W.kdl_call (PySem.W.kdl_values (knd := mixKind X.prog X.w) (kvs := vs) (ep := ep) (d := d) (r := s1.heap.objs.size)) (I1.ok.hd hc) ⟨⟨_, Heap.get?_push_size _ rfl, rfl, rfl⟩, hat.push _⟩ (by omega) fun h' tk acc c hk hS hacc => ?_
  have ev : acc.toList = vs.map (·.2) := PySem.W.kdl_vals_eq _ (by rw [Array.length_toList]; exact hacc.1) fun j v e => hacc.2 j v (by rw [← Array.getElem?_toList]; exact e)
  have hv : Vals (kvs.map (·.2)) acc.toList := by rw [ev]; exact vals_of_kv kv
  exact ⟨.ref _, _, I2.laid (t' := tk) hk (Nat.le_refl _) (show ObjOk X.prog X.w _ _ _ (.lst (kvs.map (·.2))) from ⟨by rw [List.length_map]; exact hz, acc.toList, c, hv, by rw [Array.toArray_toList]; exact hS⟩), rfl, q _ (I2.hok.fresh (Nat.le_refl _))⟩
end Sr

set_option Elab.async false
set_option linter.all false
set_option maxRecDepth 100000
set_option maxHeartbeats 4000000
namespace Sr
open PySem PySem.Spec PyProof.Rows L2
/-! ### data as they are passed about -/
inductive Dt where
  | non | bl (b : Bool) | int (i : Int) | str (s : Str) | lst (l : List Dt) | tup (l : List Dt) | dic
mutual
/-- v stands for d in the heap H -/
inductive Is (H : Hp) : V → Dt → Prop
  | non : Is H .non .non
  | bl (b : Bool) : Is H (.bl b) (.bl b)
  | int (i : Int) : Is H (.int i) (.int i)
  | str (s : Str) (h : s.length ≤ 1000) : Is H (.str s) (.str s)
  | lst {a : Addr} {xs : List V} {ds : List Dt} : H a = some (.lst xs) → IsA H xs ds → xs.length ≤ 60 → Is H (.ref a) (.lst ds)
  | tup {a : Addr} {xs : List V} {ds : List Dt} : H a = some (.tup xs) → IsA H xs ds → xs.length ≤ 60 → Is H (.ref a) (.tup ds)
  | dic {a : Addr} {kvs : List (Key × V)} : H a = some (.dK kvs) → Is H (.ref a) .dic
inductive IsA (H : Hp) : List V → List Dt → Prop
  | nil : IsA H [] []
  | cons {v : V} {vs : List V} {d : Dt} {ds : List Dt} : Is H v d → IsA H vs ds → IsA H (v :: vs) (d :: ds)
end
mutual
theorem Is.mono {H H' : Hp} (e : Same H H') : ∀ {v : V} {d : Dt}, Is H v d → Is H' v d
  | _, _, .non => .non
  | _, _, .bl b => .bl b
  | _, _, .int i => .int i
  | _, _, .str s h => .str s h
  | _, _, .lst h r z => .lst (e _ _ h) (IsA.mono e r) z
  | _, _, .tup h r z => .tup (e _ _ h) (IsA.mono e r) z
  | _, _, .dic h => .dic (e _ _ h)
theorem IsA.mono {H H' : Hp} (e : Same H H') : ∀ {vs : List V} {ds : List Dt}, IsA H vs ds → IsA H' vs ds
  | _, _, .nil => .nil
  | _, _, .cons h r => .cons (Is.mono e h) (IsA.mono e r)
end
theorem IsA.len {H : Hp} : ∀ {vs : List V} {ds : List Dt}, IsA H vs ds → vs.length = ds.length
  | _, _, .nil => rfl
  | _, _, .cons _ r => congrArg (· + 1) (IsA.len r)
theorem IsA.get {H : Hp} : ∀ {vs : List V} {ds : List Dt} {i : Nat} {v : V}, IsA H vs ds → vs[i]? = some v → ∃ d, ds[i]? = some d ∧ Is H v d
  | _, _, _, _, .nil, e => by simp at e
  | _, _, 0, _, .cons h _, e => by simp at e; subst e; exact ⟨_, rfl, h⟩
  | _, _, i + 1, v, .cons _ r, e => by
    obtain ⟨d, h1, h2⟩ := IsA.get (i := i) (v := v) r (by simpa using e)
    exact ⟨d, by simpa using h1, h2⟩
theorem IsA.app {H : Hp} : ∀ {xs ys : List V} {ds es : List Dt}, IsA H xs ds → IsA H ys es → IsA H (xs ++ ys) (ds ++ es)
  | _, _, _, _, .nil, s => s
  | _, _, _, _, .cons h r, s => .cons h (IsA.app r s)
theorem IsA.take {H : Hp} : ∀ {xs : List V} {ds : List Dt} (n : Nat), IsA H xs ds → IsA H (xs.take n) (ds.take n)
  | _, _, 0, _ => by simp; exact .nil
  | _, _, _ + 1, .nil => .nil
  | _, _, n + 1, .cons h r => .cons h (IsA.take n r)
theorem IsA.drop {H : Hp} : ∀ {xs : List V} {ds : List Dt} (n : Nat), IsA H xs ds → IsA H (xs.drop n) (ds.drop n)
  | _, _, 0, r => r
  | _, _, _ + 1, .nil => .nil
  | _, _, n + 1, .cons _ r => IsA.drop n r
/-- the name of the type -/
def tyN : Dt → String
  | .non => "NoneType" | .bl _ => "bool" | .int _ => "int" | .str _ => "str" | .lst _ => "list" | .tup _ => "tuple" | .dic => "dict"
theorem Is.ty {K : PySem.W.Frag} {H : Hp} {v : V} {d : Dt} (h : Is H v d) : TyX K H v (.type (tyN d)) := by
  cases h with
  | non => exact .base .non
  | bl b => exact .base (.bl b)
  | int i => exact .base (.int i)
  | str s h => exact .base (.str s)
  | lst h r z => exact .base (.lst h)
  | tup h r z => exact .base (.tup h)
  | dic h => exact .base (.dK h)
def isSeq : Dt → Bool
  | .lst _ => true
  | .tup _ => true
  | _ => false
def isStr : Dt → Bool
  | .str _ => true
  | _ => false
def isInt : Dt → Bool
  | .int _ => true
  | .bl _ => true
  | _ => false
def isBl : Dt → Bool
  | .bl _ => true
  | _ => false
theorem kit_two {K : PySem.W.Frag} {t c1 c2 : Value} {a b : Bool} (h1 : PySem.W.kitOne K t c1 = some a) (h2 : PySem.W.kitOne K t c2 = some b) : PySem.W.kitAny K t [c1, c2] = some (a || b) := by
  refine kitAny_cons h1 (fun e => kitAny_cons h2 (fun e2 => ?_) fun e2 => ?_) fun e => ?_
  · rw [e, e2]; rfl
  · rw [e, e2]; rfl
  · rw [e]; rfl
def isLst : Dt → Bool
  | .lst _ => true
  | _ => false
def isTup : Dt → Bool
  | .tup _ => true
  | _ => false
theorem kit_list (K : PySem.W.Frag) : ∀ d : Dt, PySem.W.kitOne K (.type (tyN d)) (.type "list") = some (isLst d)
  | .non => kit_ty (show kitB "NoneType" "list" = some false by decide +kernel)
  | .bl b => kit_ty (show kitB "bool" "list" = some false by decide +kernel)
  | .int i => kit_ty (show kitB "int" "list" = some false by decide +kernel)
  | .str s => kit_ty (show kitB "str" "list" = some false by decide +kernel)
  | .lst l => kit_ty (show kitB "list" "list" = some true by decide +kernel)
  | .tup l => kit_ty (show kitB "tuple" "list" = some false by decide +kernel)
  | .dic => kit_ty (show kitB "dict" "list" = some false by decide +kernel)
theorem kit_tuple (K : PySem.W.Frag) : ∀ d : Dt, PySem.W.kitOne K (.type (tyN d)) (.type "tuple") = some (isTup d)
  | .non => kit_ty (show kitB "NoneType" "tuple" = some false by decide +kernel)
  | .bl b => kit_ty (show kitB "bool" "tuple" = some false by decide +kernel)
  | .int i => kit_ty (show kitB "int" "tuple" = some false by decide +kernel)
  | .str s => kit_ty (show kitB "str" "tuple" = some false by decide +kernel)
  | .lst l => kit_ty (show kitB "list" "tuple" = some false by decide +kernel)
  | .tup l => kit_ty (show kitB "tuple" "tuple" = some true by decide +kernel)
  | .dic => kit_ty (show kitB "dict" "tuple" = some false by decide +kernel)
theorem kit_seq (K : PySem.W.Frag) (d : Dt) : PySem.W.kitAny K (.type (tyN d)) [.type "list", .type "tuple"] = some (isSeq d) := by
  rw [kit_two (kit_list K d) (kit_tuple K d)]
  cases d <;> rfl
theorem kit_str (K : PySem.W.Frag) : ∀ d : Dt, PySem.W.kitOne K (.type (tyN d)) (.type "str") = some (isStr d)
  | .non => kit_ty (show kitB "NoneType" "str" = some false by decide +kernel)
  | .bl b => kit_ty (show kitB "bool" "str" = some false by decide +kernel)
  | .int i => kit_ty (show kitB "int" "str" = some false by decide +kernel)
  | .str s => kit_ty (show kitB "str" "str" = some true by decide +kernel)
  | .lst l => kit_ty (show kitB "list" "str" = some false by decide +kernel)
  | .tup l => kit_ty (show kitB "tuple" "str" = some false by decide +kernel)
  | .dic => kit_ty (show kitB "dict" "str" = some false by decide +kernel)
theorem kit_int (K : PySem.W.Frag) : ∀ d : Dt, PySem.W.kitOne K (.type (tyN d)) (.type "int") = some (isInt d)
  | .non => kit_ty (show kitB "NoneType" "int" = some false by decide +kernel)
  | .bl b => kit_ty (show kitB "bool" "int" = some true by decide +kernel)
  | .int i => kit_ty (show kitB "int" "int" = some true by decide +kernel)
  | .str s => kit_ty (show kitB "str" "int" = some false by decide +kernel)
  | .lst l => kit_ty (show kitB "list" "int" = some false by decide +kernel)
  | .tup l => kit_ty (show kitB "tuple" "int" = some false by decide +kernel)
  | .dic => kit_ty (show kitB "dict" "int" = some false by decide +kernel)
theorem kit_bool (K : PySem.W.Frag) : ∀ d : Dt, PySem.W.kitOne K (.type (tyN d)) (.type "bool") = some (isBl d)
  | .non => kit_ty (show kitB "NoneType" "bool" = some false by decide +kernel)
  | .bl b => kit_ty (show kitB "bool" "bool" = some true by decide +kernel)
  | .int i => kit_ty (show kitB "int" "bool" = some false by decide +kernel)
  | .str s => kit_ty (show kitB "str" "bool" = some false by decide +kernel)
  | .lst l => kit_ty (show kitB "list" "bool" = some false by decide +kernel)
  | .tup l => kit_ty (show kitB "tuple" "bool" = some false by decide +kernel)
  | .dic => kit_ty (show kitB "dict" "bool" = some false by decide +kernel)
/-- the texts of a list of data -/
def strsOf : List Dt → List Str
  | [] => []
  | .str s :: r => s :: strsOf r
  | _ :: r => strsOf r
theorem IsA.strs {H : Hp} : ∀ {xs : List V} {ds : List Dt}, IsA H xs ds → ds.all isStr = true → xs = (strsOf ds).map V.str
  | _, _, .nil, _ => rfl
  | _, _, .cons (.str s h) r, e => by
    have e2 := IsA.strs r (by simpa [isStr] using e)
    show _ = V.str s :: _
    rw [e2]
  | _, _, .cons .non r, e => by simp [isStr] at e
  | _, _, .cons (.bl b) r, e => by simp [isStr] at e
  | _, _, .cons (.int b) r, e => by simp [isStr] at e
  | _, _, .cons (.lst h z y) r, e => by simp [isStr] at e
  | _, _, .cons (.tup h z y) r, e => by simp [isStr] at e
  | _, _, .cons (.dic h) r, e => by simp [isStr] at e
theorem cls_two (a b : String) : Paired ClsV [V.ty a, V.ty b] [.type a, .type b] := .cons (.ty a) (.cons (.ty b) .nil)
theorem two_line : (2 : Nat) ≤ sizeLine := by rw [sizeLine_eq]; decide
theorem Same.up {H : Hp} {p : Addr} {o : HO} (h : H p = none) : Same H (upd H p o) := fun b u e => by
  rw [upd_ne (ne_of_none e h)]
  exact e
end Sr

set_option Elab.async false
set_option linter.all false
set_option maxRecDepth 100000
set_option maxHeartbeats 4000000
namespace Sr
open PySem PySem.Spec PyProof.Rows L2
/-- a comprehension of one name whose elements change nothing that stood: the list of what they are -/
theorem lc_pure {J : It} {n : Nat} {G : Hp → Prop} {Y : Nat → Hp → V → Hp → Prop} {At : Nat → V → Prop} (w : Walk J n G Y) (hy : ∀ i H x H', Y i H x H' → H' = H ∧ At i x) {te : TE} {j : Nat} {σ : L2.St} {H : Hp} {D : Addr} {Qd : Hp → Prop}
    (ys : List V) (hn : ys.length = n) (hz : n < sizeLine) (hD : H D = none) (hG : ∀ H', Same H H' → G H')
    (turn : ∀ (i : Nat) (x y : V) (H1 : Hp) (Q : VK), i < n → At i x → ys[i]? = some y → Same H H1 → (∀ H2, Same H1 H2 → Q y H2) → te ((σ.set j none).set j (some x)) H1 Q)
    (fin : ∀ H', Same H H' → H' D = some (.lst ys) → Qd H') :
    ∃ W : Nat → Nat → Hp → Prop, (∃ m, W 0 m (upd H D (.lst []))) ∧ ∀ i m H, W i m H →
      (J.stop i H ∧ Qd H) ∨ (J.go i H ∧ ∃ Nx : Hp → Prop, (∀ H', Nx H' → ∃ m', m' < m ∧ W (i + 1) m' H') ∧ ∀ x H', J.yld i H x H' → (gName j) x (wipe σ [j]) H' fun σ2 H2 => wipe σ2 [j] = wipe σ [j] ∧ tYes σ2 H2 fun b H3 =>
        if b = true then te σ2 H3 fun y H4 => ∃ acc, H4 D = some (.lst acc) ∧ acc.length < sizeLine ∧ Nx (upd H4 D (.lst (acc ++ [y]))) else Nx H3) := by
  have below : ∀ {H1 H2 : Hp} {o : HO}, Same H H1 → Same H1 H2 → Same H (upd H2 D o) := fun {H1 H2 o} a b c u e => by
    rw [upd_ne (ne_of_none e hD)]
    exact b _ _ (a _ _ e)
  refine lc_it w (fun i H' => Same H H' ∧ H' D = some (.lst (ys.take i))) ⟨Same.up hD, by rw [upd_same]; simp⟩ (fun i H' _ p => hG H' p.1) (fun i x H1 H2 hi p y => ?_) fun H' p => fin H' p.1 (by rw [p.2, ← hn, List.take_length])
  obtain ⟨rfl, hx⟩ := hy _ _ _ _ y
  refine ⟨?_, ?_⟩
  · show ((σ.set j none).set j (some x)).set j none = σ.set j none
    rw [List.set_set, List.set_set]
  · unfold tYes
    simp only [if_true]
    have hi' : i < ys.length := by omega
    refine turn i x ys[i] H2 _ hi hx (List.getElem?_eq_getElem hi') p.1 fun H3 s3 => ?_
    refine ⟨_, s3 _ _ p.2, by rw [List.length_take]; omega, below p.1 s3, ?_⟩
    rw [upd_same, List.take_add_one, List.getElem?_eq_getElem hi']
    rfl
theorem walk_at {xs : List V} : ∀ (i : Nat) (H : Hp) (x : V) (H' : Hp), YAt xs i H x H' → H' = H ∧ xs[i]? = some x := fun _ _ _ _ y => y
/-- all([.. for ..]) behind its list -/
theorem all_of {K : PySem.W.Frag} {H : Hp} {D : Addr} {bs : List Bool} {Q : VK} (h : H D = some (.lst (bs.map V.bl))) (q : Q (.bl (bs.all id)) H) : (rAll K) [V.ref D] H Q := ⟨D, bs, rfl, SqL.of h, q⟩
theorem sz {n m : Nat} (h : n ≤ m) (hm : m ≤ 1000000 := by decide) : n < sizeLine := by
  rw [sizeLine_eq]
  exact Nat.lt_of_le_of_lt (Nat.le_trans h hm) (by decide)
/-- a built-in class as a value -/
theorem pe_tyv {X : Cx} {x : Str} {n : String} {p : Pos} (hg : Gl X x) (hm : X.mg x = none) (hv : bootBuiltins x = some (.type n)) (hn : x ≠ "__name__" := by decide) (hd : (x == ("__debug__" : Str)) = false := by decide) : PE X (.Name x p) (tC (.ty n)) :=
  pe_bltn hg hm hv rfl hn hd
end Sr

set_option Elab.async false
set_option linter.all false
set_option maxRecDepth 100000
set_option maxHeartbeats 4000000
namespace Sr
open PySem PySem.Spec PyProof.Rows L2
/-! ### a table of the top with text keys, wholly known -/
theorem find_out {P : Params} {z : Str} : ∀ {es : List DictEntry} {ks : List Str}, es.map He.keyOf = He.keysIn P ks → z ∉ ks → es.find? (·.key.isStr z) = none ∧ es.any (·.refKey) = false
  | [], _, _, _ => ⟨rfl, rfl⟩
  | e :: r, [], h, _ => by cases h
  | e :: r, k :: ks, h, hz => by
    have h1 : He.keyOf e :: r.map He.keyOf = some (k, PyData.keyHash P k) :: He.keysIn P ks := h
    injection h1 with h2 h3
    obtain ⟨i1, i2⟩ := find_out h3 fun m => hz (List.mem_cons_of_mem _ m)
    have hk : k ≠ z := fun q => hz (by rw [q]; exact List.mem_cons_self)
    obtain ⟨hs, ky, vl⟩ := e
    unfold He.keyOf at h2
    cases ky with
    | str x t =>
      have e1 : (x, hs) = (k, PyData.keyHash P k) := Option.some.inj h2
      obtain rfl : x = k := congrArg Prod.fst e1
      have n1 : (Value.str x t).isStr z = false := by
        show (x == z) = false
        simpa using hk
      exact ⟨by rw [List.find?_cons, n1]; exact i1, by rw [List.any_cons, i2]; rfl⟩
    | _ => cases h2
theorem tab_list {K : PySem.W.Frag} {w : World} {a : Addr} {ks : List Str} (h : He.dicW K a = some (He.keysIn w.params ks)) : ∃ es n, KDict K w a es n ∧ es.toList.map He.keyOf = He.keysIn w.params ks := by
  obtain ⟨es, n, D⟩ := He.dicW_ok h
  refine ⟨es, n, D, ?_⟩
  unfold He.dicW at h
  rw [D.at_] at h
  have h1 : (match decide ("dict" = "dict") && (#[].isEmpty && !(a == sysModules)) with
    | true => some (es.toList.map He.keyOf)
    | false => none) = some (He.keysIn w.params ks) := h
  rw [D.low] at h1
  exact Option.some.inj h1
theorem nsIn_out {K : PySem.W.Frag} {w : World} {a : Addr} {es : Array DictEntry} {n : Nat} {ks : List Str} {z : Str} (D : KDict K w a es n) (h : es.toList.map He.keyOf = He.keysIn w.params ks) (hz : z ∉ ks) : PySem.W.nsIn K a z = some none := by
  obtain ⟨h1, h2⟩ := find_out h hz
  unfold PySem.W.nsIn
  rw [D.at_]
  show (match es.toList.find? (·.key.isStr z) with
      | some e => some (some e.val)
      | none => if es.toList.any (·.refKey) then none else some none) = some none
  rw [h1]
  show (if es.toList.any (·.refKey) then none else some none) = some none
  rw [h2]
  rfl
/-- a call of a local name that holds a def of the top -/
theorem pe_calL {X : Cx} {k k' i : Nat} {x x0 : Str} {ps : List Str} {sp : Sp} {a : Addr} {p pos : Pos} {e : Expr} {es : List Expr} {t : TA} (C : Cal X.prog X.w X.K X.mg X.base k x0 ps sp) (hm0 : X.mg x0 = some (.ref a)) (hr : Room k' X.A) (hk : k ≤ k') (hN : X.N[i]? = some x) (hv : Vis X.env.scope x) (ha : PA X (e :: es) t)
    (hdb : (x == ("__debug__" : Str)) = false := by decide) (hcd : (x == ("__classdict__" : Str)) = false := by decide)
    (he : starEach (e :: es) X.env = (false, eval e X.env) :: starEach es X.env := by rfl) (hpl : (backTo pos (starEach es X.env)).any (·.1) = false := by rfl) : PE X (.Call (.Name x p) (e :: es) [] pos) (tCallL i a sp [] E0 t) := by
  obtain ⟨f, fd, F, hm, hkp, hb⟩ := C.ex
  obtain rfl : f = a := by
    have := hm.symm.trans hm0
    injection this with this
    injection this
  exact pe_callL F (hr.mono hk) hN hv hkp hb .nil pass0 ha hdb hcd he hpl
end Sr

set_option Elab.async false
set_option linter.all false
set_option maxRecDepth 100000
set_option maxHeartbeats 4000000
namespace Sr
open PySem PySem.Spec PyProof.Rows L2
/-! ### dicts with text keys, as pairs of a text and what stands for it -/
/-- the entries of kvs are the texts ss, in order, and what Rv says of each stands under it -/
abbrev Ent (Rv : Str → V → Prop) (kvs : List (Key × V)) (ss : List Str) : Prop := Paired (fun kv s => kv.1 = Sum.inr s ∧ Rv s kv.2) kvs ss
theorem Ent.keys {Rv : Str → V → Prop} : ∀ {kvs : List (Key × V)} {ss : List Str}, Ent Rv kvs ss → kvs.map (·.1) = ss.map Sum.inr
  | _, _, .nil => rfl
  | _, _, .cons h r => by rw [List.map_cons, List.map_cons, h.1, Ent.keys r]
theorem Ent.imp {Rv Rv' : Str → V → Prop} (f : ∀ s v, Rv s v → Rv' s v) : ∀ {kvs : List (Key × V)} {ss : List Str}, Ent Rv kvs ss → Ent Rv' kvs ss
  | _, _, .nil => .nil
  | _, _, .cons h r => .cons ⟨h.1, f _ _ h.2⟩ (Ent.imp f r)
theorem Ent.len {Rv : Str → V → Prop} {kvs : List (Key × V)} {ss : List Str} (h : Ent Rv kvs ss) : kvs.length = ss.length := Paired.length h
theorem Ent.snoc {Rv : Str → V → Prop} {s : Str} {v : V} (hv : Rv s v) : ∀ {kvs : List (Key × V)} {ss : List Str}, Ent Rv kvs ss → Ent Rv (kvs ++ [(Sum.inr s, v)]) (ss ++ [s])
  | _, _, .nil => .cons ⟨rfl, hv⟩ .nil
  | _, _, .cons h r => .cons h (Ent.snoc hv r)
theorem Ent.at_ {Rv : Str → V → Prop} {s : Str} : ∀ {kvs : List (Key × V)} {ss : List Str}, Ent Rv kvs ss → s ∈ ss → ∃ v, valV kvs (Sum.inr s) = some v ∧ Rv s v
  | _, _, .cons (a := kv) (b := x) h r, m => by
    unfold valV
    rw [List.find?_cons]
    by_cases c : x = s
    · subst c
      rw [h.1, decide_eq_true rfl]
      exact ⟨_, rfl, h.2⟩
    · have m' : s ∈ _ := (List.mem_cons.mp m).resolve_left fun q => c q.symm
      rw [h.1, decide_eq_false fun q => c (Sum.inr.inj q)]
      exact Ent.at_ r m'
theorem Ent.out {Rv : Str → V → Prop} {s : Str} : ∀ {kvs : List (Key × V)} {ss : List Str}, Ent Rv kvs ss → s ∉ ss → valV kvs (Sum.inr s) = none
  | _, _, .nil, _ => rfl
  | _, _, .cons (a := kv) (b := x) h r, m => by
    unfold valV
    rw [List.find?_cons, h.1, decide_eq_false fun q => m (by rw [Sum.inr.inj q]; exact List.mem_cons_self)]
    exact Ent.out r fun q => m (List.mem_cons_of_mem _ q)
theorem Ent.has {Rv : Str → V → Prop} {kvs : List (Key × V)} {ss : List Str} (h : Ent Rv kvs ss) (s : Str) : (valV kvs (Sum.inr s)).isSome = decide (s ∈ ss) := by
  by_cases m : s ∈ ss
  · obtain ⟨v, e, _⟩ := h.at_ m
    rw [e, decide_eq_true m]
    rfl
  · rw [h.out m, decide_eq_false m]
    rfl
theorem putK_new {kvs : List (Key × V)} {k : Key} {v : V} (h : k ∉ kvs.map (·.1)) : putK kvs k v = kvs ++ [(k, v)] := by
  unfold putK
  rw [if_neg]
  intro q
  obtain ⟨kv, m, e⟩ := List.any_eq_true.mp q
  exact h (List.mem_map.mpr ⟨kv, m, of_decide_eq_true e⟩)
theorem Ent.put {Rv : Str → V → Prop} {kvs : List (Key × V)} {ss : List Str} {s : Str} {v : V} (h : Ent Rv kvs ss) (m : s ∉ ss) (hv : Rv s v) : Ent Rv (putK kvs (Sum.inr s) v) (ss ++ [s]) := by
  rw [putK_new]
  · exact h.snoc hv
  · rw [h.keys]
    intro q
    obtain ⟨x, m', e⟩ := List.mem_map.mp q
    exact m (by rw [← Sum.inr.inj e]; exact m')
/-- a dict comprehension of one name with unlike texts for keys; nothing that stood is changed -/
theorem dc_texts {J : It} {n : Nat} {G : Hp → Prop} {Y : Nat → Hp → V → Hp → Prop} {At : Nat → V → Prop} (w : Walk J n G Y) (hy : ∀ i H x H', Y i H x H' → H' = H ∧ At i x) {tk tv : TE} {j : Nat} {σ : L2.St} {H : Hp} {D : Addr} {Qd : Hp → Prop}
    (ss : List Str) (hn : ss.length = n) (nd : ss.Nodup) (hz : n < sizeLine) (hD : H D = none) (hG : ∀ H', Same H H' → G H') (Rv : Hp → Str → V → Prop) (mono : ∀ H1 H2 s v, Same H1 H2 → Rv H1 s v → Rv H2 s v)
    (lay : ∀ H1 s v c c', H1 D = some (.dK c) → Rv H1 s v → Rv (upd H1 D (.dK c')) s v)
    (turn : ∀ (i : Nat) (x : V) (s : Str) (H1 : Hp) (R : V → V → Hp → Prop), i < n → At i x → ss[i]? = some s → Same H H1 → (∀ H2 z, Same H1 H2 → Rv H2 s z → R (.str s) z H2) → tk ((σ.set j none).set j (some x)) H1 fun y H2 => tv ((σ.set j none).set j (some x)) H2 fun z H3 => R y z H3)
    (fin : ∀ H' kvs, Same H H' → H' D = some (.dK kvs) → Ent (Rv H') kvs ss → Qd H') :
    ∃ W : Nat → Nat → Hp → Prop, (∃ m, W 0 m (upd H D (.dK []))) ∧ ∀ i m H, W i m H →
      (J.stop i H ∧ Qd H) ∨ (J.go i H ∧ ∃ Nx : Hp → Prop, (∀ H', Nx H' → ∃ m', m' < m ∧ W (i + 1) m' H') ∧ ∀ x H', J.yld i H x H' → (gName j) x (wipe σ [j]) H' fun σ2 H2 => wipe σ2 [j] = wipe σ [j] ∧ tYes σ2 H2 fun b H3 =>
        if b = true then tk σ2 H3 fun y H4 => tv σ2 H4 fun z H5 => ∃ kvs k, y = kV k ∧ H5 D = some (.dK kvs) ∧ kvs.length < sizeLine ∧ Nx (upd H5 D (.dK (putK kvs k z))) else Nx H3) := by
  have below : ∀ {H1 H2 : Hp} {o : HO}, Same H H1 → Same H1 H2 → Same H (upd H2 D o) := fun {H1 H2 o} a b c u e => by
    rw [upd_ne (ne_of_none e hD)]
    exact b _ _ (a _ _ e)
  refine ⟨fun i m H' => m = n - i ∧ i ≤ n ∧ Same H H' ∧ ∃ kvs, H' D = some (.dK kvs) ∧ Ent (Rv H') kvs (ss.take i), ⟨n, by simp, Nat.zero_le _, Same.up hD, [], upd_same, by rw [List.take_zero]; exact .nil⟩, ?_⟩
  rintro i m H1 ⟨rfl, hi, s1, kvs, hd, he⟩
  by_cases lt : i < n
  · refine .inr ⟨w.goes i H1 lt (hG _ s1), fun H' => i + 1 ≤ n ∧ Same H H' ∧ ∃ kvs, H' D = some (.dK kvs) ∧ Ent (Rv H') kvs (ss.take (i + 1)), fun H' p => ⟨n - (i + 1), by omega, rfl, p⟩, fun x H2 y => ?_⟩
    obtain ⟨rfl, hx⟩ := hy _ _ _ _ (w.yields i H1 x H2 lt (hG _ s1) y)
    refine ⟨?_, ?_⟩
    · show ((σ.set j none).set j (some x)).set j none = σ.set j none
      rw [List.set_set, List.set_set]
    · unfold tYes
      simp only [if_true]
      have hi' : i < ss.length := by omega
      refine turn i x ss[i] H2 _ lt hx (List.getElem?_eq_getElem hi') s1 fun H3 z s3 rv => ?_
      have hl := he.len
      rw [List.length_take] at hl
      have nm : ss[i] ∉ ss.take i := fun q => by
        obtain ⟨a, ha, e⟩ := List.mem_take_iff_getElem.mp q
        exact (List.pairwise_iff_getElem.mp nd) a i (by omega) hi' (by omega) e
      refine ⟨kvs, Sum.inr ss[i], rfl, s3 _ _ hd, by omega, lt, below s1 s3, _, upd_same, ?_⟩
      rw [List.take_add_one, List.getElem?_eq_getElem hi']
      have r1 : Ent (Rv (upd H3 D (.dK (putK kvs (Sum.inr ss[i]) z)))) kvs (ss.take i) := he.imp fun s v r => lay _ _ _ _ _ (s3 _ _ hd) (mono _ _ _ _ s3 r)
      exact r1.put nm (lay _ _ _ _ _ (s3 _ _ hd) rv)
  · obtain rfl : i = n := by omega
    refine .inl ⟨w.stops H1 (hG _ s1), fin H1 kvs s1 hd ?_⟩
    rwa [← hn, List.take_length] at he
end Sr

set_option Elab.async false
set_option linter.all false
set_option maxRecDepth 100000
set_option maxHeartbeats 4000000
namespace Sr
open PySem PySem.Spec PyProof.Rows L2
/-! ### rules that name the written part, for a comprehension's block -/
section
variable {X : Cx}
theorem op_in_seqK (K : PySem.W.Frag) (hK : X.K = K) : OpR X (compareOp .In) (rIn K false) := hK ▸ op_in_seq
theorem call_isiK' (K : PySem.W.Frag) (hK : X.K = K) : CallR X (.builtin "isinstance") (rIsi K) := hK ▸ call_isi
theorem call_isiTK (K : PySem.W.Frag) (hK : X.K = K) : CallR X (.builtin "isinstance") (rIsiT K) := hK ▸ call_isiT
theorem ix_listK (K : PySem.W.Frag) (hK : X.K = K) : IxR X (rIxL K) := hK ▸ ix_list
theorem ix_tupK (K : PySem.W.Frag) (hK : X.K = K) : IxR X (rIxT K) := hK ▸ ix_tup
theorem call_len_seqK (K : PySem.W.Frag) (hK : X.K = K) : CallR X (.builtin "len") (fun xs H Q => ∃ p ys, xs = [.ref p] ∧ (SqL K H p ys ∨ SqT K H p ys) ∧ Q (.int ys.length) H) := hK ▸ call_len_seq
theorem call_list_ofK (K : PySem.W.Frag) (hK : X.K = K) : CallR X (.type "list") (fun xs H Q => ∃ p ys, xs = [.ref p] ∧ (SqL K H p ys ∨ SqT K H p ys) ∧ ∀ l, H l = none → Q (.ref l) (upd H l (.lst ys))) := hK ▸ call_list_of
theorem call_tuple_ofK (K : PySem.W.Frag) (hK : X.K = K) : CallR X (.type "tuple") (fun xs H Q => ∃ p ys, xs = [.ref p] ∧ ((SqL K H p ys ∧ ∀ l, H l = none → Q (.ref l) (upd H l (.tup ys))) ∨ (SqT K H p ys ∧ Q (.ref p) H))) := hK ▸ call_tuple_of
theorem op_eqDK (K : PySem.W.Frag) (hK : X.K = K) (h : X.A.units + 64 < cLine) : OpR X (compareOp .Eq) (rEqD K) := hK ▸ op_eqD h
theorem op_neDK (K : PySem.W.Frag) (hK : X.K = K) (h : X.A.units + 64 < cLine) : OpR X (compareOp .NotEq) (rNeD K) := hK ▸ op_neD h
end
theorem Paired.at2 {α β : Type} {F : α → β → Prop} : ∀ {l : List α} {m : List β} {i : Nat} {a : α} {b : β}, Paired F l m → l[i]? = some a → m[i]? = some b → F a b
  | _, _, _, _, _, .nil, h, _ => by simp at h
  | _, _, 0, _, _, .cons h _, h1, h2 => by
    simp at h1 h2
    rw [← h1, ← h2]
    exact h
  | _, _, i + 1, a, b, .cons _ r, h1, h2 => Paired.at2 (i := i) (a := a) (b := b) r (by simpa using h1) (by simpa using h2)
end Sr

set_option Elab.async false
set_option linter.all false
set_option maxRecDepth 100000
set_option maxHeartbeats 4000000
namespace Sr
open PySem PySem.Spec PyProof.Rows L2
/-! ### what a law's own steps leave: M is settled for ever, S may change -/
def DrawsO (o : HO) : Prop := ∃ x y z : Int, o = .lst [.int x, .int y, .int z]
def DrawsAt (H : Hp) (a : Addr) : Prop := ∃ o, H a = some o ∧ DrawsO o
structure Grow (S : List Addr) (M H M' H' : Hp) : Prop where
  stp : ∀ b o, b ∉ S → H b = some o → H' b = some o
  there : ∀ b, H b ≠ none → H' b ≠ none
  up : Same M M'
  nw : ∀ b o, M' b = some o → M b = some o ∨ H b = none
  sub : Same M' H'
theorem Grow.refl {S : List Addr} {M H : Hp} (s : Same M H) : Grow S M H M H := ⟨fun _ _ _ e => e, fun _ e => e, Same.refl _, fun _ _ e => .inl e, s⟩
theorem Grow.trans {S : List Addr} {M H M1 H1 M2 H2 : Hp} (g : Grow S M H M1 H1) (g' : Grow S M1 H1 M2 H2) : Grow S M H M2 H2 where
  stp := fun b o hb e => g'.stp b o hb (g.stp b o hb e)
  there := fun b e => g'.there b (g.there b e)
  up := g.up.trans g'.up
  nw := fun b o e => by
    rcases g'.nw b o e with h | h
    · exact g.nw b o h
    · cases q : H b with
      | none => exact .inr rfl
      | some u => exact absurd h (g.there b (by rw [q]; simp))
  sub := g'.sub
theorem Grow.mono {S S' : List Addr} {M H M' H' : Hp} (g : Grow S M H M' H') (h : ∀ b ∈ S, b ∈ S') : Grow S' M H M' H' :=
  ⟨fun b o hb e => g.stp b o (fun z => hb (h b z)) e, g.there, g.up, g.nw, g.sub⟩
/-- an address that stands and is not settled stays unsettled -/
theorem Grow.out {S : List Addr} {M H M' H' : Hp} (g : Grow S M H M' H') {b : Addr} (h1 : M b = none) (h2 : H b ≠ none) : M' b = none := by
  cases q : M' b with
  | none => rfl
  | some o =>
    rcases g.nw b o q with h | h
    · rw [h1] at h; cases h
    · exact absurd h h2
/-- nothing that stood is changed, nothing is settled -/
theorem Grow.same {S : List Addr} {M H H' : Hp} (s : Same M H) (e : Same H H') : Grow S M H M H' :=
  ⟨fun b o _ h => e b o h, fun b h => by
    cases q : H b with
    | none => exact absurd q h
    | some o => rw [e b o q]; simp, Same.refl _, fun _ _ h => .inl h, s.trans e⟩
/-- a new object, settled -/
theorem Grow.lay {S : List Addr} {M H : Hp} {p : Addr} {o : HO} (s : Same M H) (hp : H p = none) : Grow S M H (upd M p o) (upd H p o) := by
  have mp : M p = none := s.free hp
  refine ⟨fun b u _ e => Same.up hp b u e, fun b h => ?_, Same.up mp, fun b u e => ?_, fun b u e => ?_⟩
  · by_cases c : b = p
    · rw [c]; exact absurd hp (c ▸ h)
    · rw [upd_ne c]; exact h
  · by_cases c : b = p
    · rw [c]; exact .inr hp
    · rw [upd_ne c] at e; exact .inl e
  · by_cases c : b = p
    · rw [c] at e ⊢; rw [upd_same] at e ⊢; exact e
    · rw [upd_ne c] at e ⊢; exact s _ _ e
/-- an object that may change is changed -/
theorem Grow.chg {S : List Addr} {M H : Hp} {p : Addr} {o : HO} (s : Same M H) (mp : M p = none) (hS : p ∈ S) : Grow S M H M (upd H p o) :=
  ⟨fun b u hb e => by rw [upd_ne fun z => hb (by rw [z]; exact hS)]; exact e, fun b h => by
    by_cases c : b = p
    · rw [c, upd_same]; simp
    · rw [upd_ne c]; exact h, Same.refl _, fun _ _ h => .inl h, fun b u e => by
    rw [upd_ne fun z => by rw [z, mp] at e; cases e]
    exact s _ _ e⟩
/-- an object of one's own, made since, is changed -/
theorem Grow.own {S : List Addr} {M0 H0 M H : Hp} {p : Addr} {o : HO} (g : Grow S M0 H0 M H) (h0 : H0 p = none) (mp : M p = none) : Grow S M0 H0 M (upd H p o) :=
  ⟨fun b u hb e => by rw [upd_ne (ne_of_none e h0)]; exact g.stp b u hb e, fun b h => by
    by_cases c : b = p
    · rw [c, upd_same]; simp
    · rw [upd_ne c]; exact g.there b h, g.up, g.nw, fun b u e => by
    rw [upd_ne fun z => by rw [z, mp] at e; cases e]
    exact g.sub _ _ e⟩
/-- what was made since is settled from now on -/
theorem Grow.settle {S : List Addr} {M0 H0 M H : Hp} {p : Addr} {o : HO} (g : Grow S M0 H0 M H) (h0 : H0 p = none) (mp : M p = none) (hp : H p = some o) : Grow S M0 H0 (upd M p o) H :=
  ⟨g.stp, g.there, g.up.trans (Same.up mp), fun b u e => by
    by_cases c : b = p
    · rw [c]; exact .inr h0
    · rw [upd_ne c] at e; exact g.nw b u e, fun b u e => by
    by_cases c : b = p
    · rw [c] at e ⊢; rw [upd_same] at e; rw [hp]; exact e
    · rw [upd_ne c] at e; exact g.sub _ _ e⟩
theorem DrawsAt.some {H : Hp} {a : Addr} (d : DrawsAt H a) : H a ≠ none := by
  obtain ⟨o, e, _⟩ := d
  rw [e]
  simp
theorem seq_upd {K : PySem.W.Frag} {H : Hp} {a l : Addr} {o : HO} {xs : List V} (hn : l ≠ a) (h : SqL K H l xs ∨ SqT K H l xs) : SqL K (upd H a o) l xs ∨ SqT K (upd H a o) l xs := by
  have e : upd H a o l = H l := upd_ne hn
  rcases h with h | h
  · left
    rcases h with h | h
    · left
      rcases h with h | ⟨u, h⟩
      · exact .inl (e.trans h)
      · exact .inr ⟨u, e.trans h⟩
    · exact .inr h
  · right
    rcases h with h | h
    · left
      rcases h with h | ⟨u, h⟩
      · exact .inl (e.trans h)
      · exact .inr ⟨u, e.trans h⟩
    · exact .inr h
theorem atI_of {α : Type} {xs : List α} {i : Int} {j : Nat} {v : α} (e : i = (j : Int)) (h : xs[j]? = some v) : atI xs i = some v := by
  have hj : j < xs.length := (List.getElem?_eq_some_iff.mp h).1
  unfold atI ixN
  rw [if_pos (by omega), if_pos (by omega)]
  show xs[i.toNat]? = _
  rw [show i.toNat = j by omega]
  exact h
theorem iteB {b : Bool} {A B : Prop} (h1 : A) (h2 : B) : if b = true then A else B := by
  cases b
  · exact iteF h2
  · exact iteT h1
end Sr

set_option Elab.async false
set_option linter.all false
set_option maxRecDepth 100000
set_option maxHeartbeats 4000000
namespace Sr
open PySem PySem.Spec PyProof.Rows L2 RZ
/-! ### data of a depth, without dicts -/
inductive Dep : Nat → Dt → Prop
  | non (n : Nat) : Dep n .non
  | bl (n : Nat) (b : Bool) : Dep n (.bl b)
  | int (n : Nat) (i : Int) : Dep n (.int i)
  | str (n : Nat) (s : Str) : Dep n (.str s)
  | lst (n : Nat) (l : List Dt) : (∀ d ∈ l, Dep n d) → Dep (n + 1) (.lst l)
  | tup (n : Nat) (l : List Dt) : (∀ d ∈ l, Dep n d) → Dep (n + 1) (.tup l)
theorem kit_more {K : PySem.W.Frag} {t c c2 : Value} {r : List Value} {a b : Bool} (h1 : PySem.W.kitOne K t c = some a) (h2 : PySem.W.kitAny K t (c2 :: r) = some b) : PySem.W.kitAny K t (c :: c2 :: r) = some (a || b) := by
  refine kitAny_cons h1 (fun e => ?_) fun e => ?_
  · rw [e, h2]; rfl
  · rw [e]; rfl
theorem kit_ints (K : PySem.W.Frag) (d : Dt) : PySem.W.kitAny K (.type (tyN d)) [.type "bool", .type "int"] = some (isInt d) := by
  rw [kit_two (kit_bool K d) (kit_int K d)]
  cases d <;> rfl
theorem kit_four (K : PySem.W.Frag) (d : Dt) : PySem.W.kitAny K (.type (tyN d)) [.type "bool", .type "int", .type "list", .type "tuple"] = some (isInt d || isSeq d) := by
  rw [kit_more (kit_bool K d) (kit_more (kit_int K d) (kit_seq K d))]
  cases d <;> rfl
theorem cls_four (a b c d : String) : Paired ClsV [V.ty a, V.ty b, V.ty c, V.ty d] [.type a, .type b, .type c, .type d] := .cons (.ty a) (.cons (.ty b) (.cons (.ty c) (.cons (.ty d) .nil)))
theorem flat_eq {n : Nat} {H : Hp} {v u : V} {d : Dt} (dp : Dep n d) (hq : isSeq d = false) (iv : Is H v d) (iu : Is H u d) : v = u ∧ scal v u = true := by
  cases dp with
  | lst => cases hq
  | tup => cases hq
  | _ => cases iv; cases iu; exact ⟨rfl, rfl⟩
theorem walk_zipT {K : PySem.W.Frag} {a b : Addr} {xs ys : List V} {n : Nat} (hn : n = min xs.length ys.length) : Walk (ItzT K a b) n (fun H => SqT K H a xs ∧ SqT K H b ys) (YPair (fun i => xs[i]?) (fun i => ys[i]?)) := by
  subst hn
  refine ⟨fun i H hi g => ?_, fun H g => ?_, fun i H v H' _ g y => ?_⟩
  · exact ⟨xs, ys, xs[i]'(by omega), ys[i]'(by omega), g.1, g.2, List.getElem?_eq_getElem _, List.getElem?_eq_getElem _⟩
  · exact ⟨xs, ys, g.1, g.2, by omega⟩
  · obtain ⟨T, p, q, y1, y2, y3, y4, y5⟩ := y
    exact ⟨T, p, q, y1, y2, y3, y4 xs g.1, y5 ys g.2⟩
/-- a comprehension of two names over pairs whose elements change nothing that stood -/
theorem lc_pairs {J : It} {n : Nat} {G : Hp → Prop} {xs ys : Nat → Option V} (w : Walk J n G (YPair xs ys)) {K : PySem.W.Frag} {te : TE} {i j : Nat} {σ : L2.St} {H : Hp} {D : Addr} {Qd : Hp → Prop} (hij : i ≠ j)
    (zs : List V) (hn : zs.length = n) (hz : n < sizeLine) (hD : H D = none) (hG : ∀ H', Same H H' → G H')
    (turn : ∀ (k : Nat) (x y z : V) (H1 : Hp) (Q : VK), k < n → xs k = some x → ys k = some y → zs[k]? = some z → Same H H1 → (∀ H2, Same H1 H2 → Q z H2) → te ((wipe σ [i, j]).set i (some x) |>.set j (some y)) H1 Q)
    (fin : ∀ H', Same H H' → H' D = some (.lst zs) → Qd H') :
    ∃ W : Nat → Nat → Hp → Prop, (∃ m, W 0 m (upd H D (.lst []))) ∧ ∀ k m H, W k m H →
      (J.stop k H ∧ Qd H) ∨ (J.go k H ∧ ∃ Nx : Hp → Prop, (∀ H', Nx H' → ∃ m', m' < m ∧ W (k + 1) m' H') ∧ ∀ x H', J.yld k H x H' → (gTup K 2 (gCons (gName i) (gCons (gName j) gNil))) x (wipe σ [i, j]) H' fun σ2 H2 => wipe σ2 [i, j] = wipe σ [i, j] ∧ tYes σ2 H2 fun b H3 =>
        if b = true then te σ2 H3 fun y H4 => ∃ acc, H4 D = some (.lst acc) ∧ acc.length < sizeLine ∧ Nx (upd H4 D (.lst (acc ++ [y]))) else Nx H3) := by
  have below : ∀ {H1 H2 : Hp} {o : HO}, Same H H1 → Same H1 H2 → Same H (upd H2 D o) := fun {H1 H2 o} p q c u e => by
    rw [upd_ne (ne_of_none e hD)]
    exact q _ _ (p _ _ e)
  refine lc_it w (fun k H' => Same H H' ∧ H' D = some (.lst (zs.take k))) ⟨Same.up hD, by rw [upd_same]; simp⟩ (fun k H' _ p => hG H' p.1) (fun k v H1 H2 hk p y => ?_) fun H' p => fin H' p.1 (by rw [p.2, ← hn, List.take_length])
  obtain ⟨T, x, y, rfl, hT, rfl, hx, hy⟩ := y
  refine ⟨T, [x, y], rfl, SqT.of upd_same, rfl, ?_⟩
  have s2 : Same H1 _ := Same.up (o := .tup [x, y]) hT
  refine ⟨x, [y], rfl, y, [], rfl, rfl, ?_, ?_⟩
  · show ((((((σ.set j none).set i none).set i (some x)).set j (some y)).set j none).set i none) = (σ.set j none).set i none
    rw [List.set_set, List.set_set, List.set_comm _ _ hij, List.set_set, List.set_set]
  · unfold tYes
    simp only [if_true]
    have hk' : k < zs.length := by omega
    refine turn k x y zs[k] _ _ hk hx hy (List.getElem?_eq_getElem hk') (p.1.trans s2) fun H3 s3 => ?_
    refine ⟨_, s3 _ _ (s2 _ _ p.2), by rw [List.length_take]; omega, below (p.1.trans s2) s3, ?_⟩
    rw [upd_same, List.take_add_one, List.getElem?_eq_getElem hk']
    rfl
end Sr

set_option Elab.async false
set_option linter.all false
set_option maxRecDepth 100000
set_option maxHeartbeats 4000000
namespace Sr
open PySem PySem.Spec PyProof.Rows L2
/-! ### sorted(d) where the keys are pairs of texts -/
def pk (p : Str × Str) : List Key := [Sum.inr p.1, Sum.inr p.2]
def encP (p : Str × Str) : PyData := .tuple [.str p.1, .str p.2]
def pSort (l : List (Str × Str)) : List (Str × Str) := l.mergeSort (PySem.W.dataLe false encP)
theorem pSort_perm (l : List (Str × Str)) : (pSort l).Perm l := List.mergeSort_perm _ _
theorem encP_alike (p q : Str × Str) : PySem.W.alike (encP p) (encP q) = true := by simp [encP, PySem.W.alike, PySem.W.alikeAll]
theorem encP_depth (p : Str × Str) : (encP p).depth ≤ 2 := by
  show PyData.depth (.tuple [.str p.1, .str p.2]) ≤ 2
  simp [PyData.depth, PyData.depthAll]
theorem reads_pair {P : Program} {w : World} {H : Hp} {h : Heap} {q : Addr} {p : Str × Str} (hok : HOk P w H h) (hq : H q = some (.tup [.str p.1, .str p.2])) : PySem.Reads h (.ref q) (encP p) [] := by
  obtain ⟨_, its, rv, o, ho, hc, n, hd⟩ := hok q _ hq
  obtain ⟨a, t1, rfl, r1, t2⟩ := (show ∃ a t, its = a :: t ∧ RelV (.str p.1) a ∧ Vals [.str p.2] t from by cases rv with | cons h1 h2 => exact ⟨_, _, rfl, h1, h2⟩)
  obtain ⟨b, t3, rfl, r2, t4⟩ := (show ∃ a t, t1 = a :: t ∧ RelV (.str p.2) a ∧ Vals [] t from by cases t2 with | cons h1 h2 => exact ⟨_, _, rfl, h1, h2⟩)
  cases t4
  obtain ⟨u1, rfl⟩ := r1
  obtain ⟨u2, rfl⟩ := r2
  exact .tuple ho hc hd (.cons (as := []) (.str _ _) (.cons (as := []) (.str _ _) .nil))
def AtP (H : Hp) (q : Addr) (p : Str × Str) : Prop := H q = some (.tup [.str p.1, .str p.2])
theorem each_paired {α β : Type} {R : α → β → Prop} : ∀ {l : List α} {m : List β}, PySem.W.EachIs R l m → Paired R l m
  | _, _, .nil => .nil
  | _, _, .cons h t => .cons h (each_paired t)
theorem each_of {H : Hp} : ∀ {kvs : List (List Key × V)} {ks : List (List Key × Addr × Value)} {bs : List (Str × Str)}, Paired (fun (p : List Key × V) (q : List Key × Addr × Value) => p.1 = q.1 ∧ H q.2.1 = some (.tup (p.1.map kV)) ∧ RelV p.2 q.2.2) kvs ks →
    kvs.map (·.1) = bs.map pk → PySem.W.EachIs (fun v b => ∃ q, v = Value.ref q ∧ AtP H q b) (ks.map fun x => Value.ref x.2.1) bs
  | _, _, [], .nil, _ => .nil
  | _, _, _ :: _, .nil, h => by cases h
  | _, _, [], .cons _ _, h => by cases h
  | _, _, b :: bs, .cons h1 h2, h => by
    rw [List.map_cons, List.map_cons] at h
    obtain ⟨e1, e2⟩ := List.cons.inj h
    refine .cons ⟨_, rfl, ?_⟩ (each_of h2 e2)
    have h3 := h1.2.1
    rw [e1] at h3
    exact h3
theorem vals_of_each {H : Hp} : ∀ {vs : List Value} {bs : List (Str × Str)}, PySem.W.EachIs (fun v b => ∃ q, v = Value.ref q ∧ AtP H q b) vs bs → ∃ qs : List Addr, vs = qs.map Value.ref ∧ Vals (qs.map V.ref) vs ∧ Paired (AtP H) qs bs
  | _, _, .nil => ⟨[], rfl, .nil, .nil⟩
  | _, _, .cons ⟨q, e, h⟩ t => by
    obtain ⟨qs, e1, e2, e3⟩ := vals_of_each t
    exact ⟨q :: qs, by rw [e, e1]; rfl, by rw [e]; exact .cons rfl e2, .cons h e3⟩
section
variable {X : Cx}
theorem call_sortedDT (hcalm : X.calm = true) (hu : X.A.units + 64 < cLine) : CallR X (.builtin "sorted") (fun xs H Q => ∃ (a : Addr) (kvs : List (List Key × V)) (bs : List (Str × Str)), xs = [.ref a] ∧ Rd H a (.dT kvs) ∧ kvs.map (·.1) = bs.map pk ∧ bs.length ≤ 1000 ∧
    ∀ qs p, Paired (AtP H) qs (pSort bs) → H p = none → Q (.ref p) (upd H p (.lst (qs.map V.ref)))) := by
  intro pins s σ H xs us Q I r q
  obtain ⟨a, kvs, bs, ex, hd, hks, hz, q⟩ := q
  subst ex
  obtain ⟨u, eu, rx⟩ := vals1 r
  subst eu
  cases rx
  obtain ⟨z, hs, ks, pr, o, es, ep, ho, hx, hdt, he, hn⟩ := (show ObjOk X.prog X.w H s.heap a (.dT kvs) from hd.ok I.hok)
  have l1 : es.size = ks.length := size_of_entries he
  have l2 : kvs.length = ks.length := Paired.length pr
  have l3 : kvs.length = bs.length := by
    have e := congrArg List.length hks
    rwa [List.length_map, List.length_map] at e
  have h16 : es.size ≤ sizeLine := by rw [l1, ← l2, l3, sizeLine_eq]; omega
  refine Calls.call_function_entry PyProof.Rows.kind_sorted PyProof.Rows.plain_sorted PyProof.Rows.entry_sorted (PyProof.Rows.args_sorted1 _) ?_
  unfold Builtin.«sorted»
  refine wpAny_bind (m := checkCount "sorted" 1 1 _) (wpAny_pure ?_)
  refine wpAny_bind (PySem.W.kdu_collect (A := X.A.in1) (kdl_raw hs hx hdt) (I.ok.hd hcalm) ho h16 fun h' tk acc hk hacc => ?_)
  have ea : acc.toList = ks.map fun x => Value.ref x.2.1 := by
    have hl : acc.toList.length = ks.length := by rw [Array.length_toList, hacc.1]; exact l1
    apply List.ext_getElem?
    intro j
    rw [List.getElem?_map]
    cases hj : acc.toList[j]? with
    | none =>
      have h1 := List.getElem?_eq_none_iff.mp hj
      rw [List.getElem?_eq_none (by omega)]
      rfl
    | some v =>
      obtain ⟨en, hen, hv⟩ := hacc.2 j v (by rw [← Array.getElem?_toList]; exact hj)
      have qe := entry_at he j
      rw [hen] at qe
      cases hb : ks[j]? with
      | none =>
        rw [hb] at qe
        exact nomatch (show some en = none from qe)
      | some b =>
        rw [hb] at qe
        have e2 : en = entryOfKey (tupleKind (mixKind X.prog X.w)) b := Option.some.inj qe
        rw [hv, e2]
        rfl
  have e0 : PySem.W.EachIs (fun v b => ∃ q, v = Value.ref q ∧ AtP H q b) acc.toList bs := by rw [ea]; exact each_of pr hks
  have I1 : Inv X pins σ H { s with heap := h', toks := tk } := I.kept hk
  have hal : acc.toList.length = bs.length := e0.length
  refine wpAny_bind (wpAny_newList ?_ (by rw [hal, sizeLine_eq]; omega))
  have hoL : (h'.push (seqObj "list" acc.toList.toArray 0)).get? h'.objs.size = some (seqObj "list" acc.toList.toArray 0) := Heap.get?_push_size _ rfl
  show wpAny _ _ _ _ _ { s with heap := h'.push (seqObj "list" acc.toList.toArray 0), toks := tk }
  have k2 : ∀ b o, h'.get? b = some o → (h'.push (seqObj "list" acc.toList.toArray 0)).get? b = some o := fun b o e => Heap.get?_push_of_some _ e
  have hok2 : HOk X.prog X.w H (h'.push (seqObj "list" acc.toList.toArray 0)) := I1.hok.kept k2
  have er : PySem.W.EachIs (fun v b => ∃ as, Reads (h'.push (seqObj "list" acc.toList.toArray 0)) v (encP b) as ∧ h'.objs.size ∉ as) acc.toList bs := e0.mono fun v b ⟨q, e, h⟩ => ⟨[], by rw [e]; exact reads_pair hok2 h, by simp⟩
  refine wpAny_bind (wpAny_holding (PySem.W.list_sort_data (s := { s with heap := h'.push (seqObj "list" acc.toList.toArray 0), toks := tk }) (enc := encP) hoL e0 er (PySem.W.AllAlike.of encP_alike) (PySem.W.Sortable.tuples fun b => ⟨_, _, rfl⟩) (by rw [sizeLine_eq]; omega) (fun b _ => ?_) fun out hlen eo => ?_))
  · have := encP_depth b
    simp only [Around.in1_units]
    omega
  obtain ⟨qs, e1, e2, e3⟩ := vals_of_each eo
  obtain ⟨e', he'⟩ := PyProof.Rows.sortedHeap_at (vs := acc.toList) (out := out.toArray) hoL
  have hlen2 : (qs.map V.ref).length ≤ sizeLine := by
    rw [e2.length, hlen, sizeLine_eq]
    omega
  refine wpAny_pure ⟨_, rfl, .ref h'.objs.size, upd H h'.objs.size (.lst (qs.map V.ref)), I1.laid (t' := tk) (fun b u e => ?_) (Nat.le_refl _)
    (show ObjOk X.prog X.w _ _ _ (.lst (qs.map V.ref)) from ⟨hlen2, out, e', e2, he'⟩), rfl, q qs _ e3 (I1.hok.fresh (Nat.le_refl _))⟩
  have hb : b < h'.objs.size := Heap.lt_size e
  rw [PyProof.Rows.sortedHeap_old (Nat.ne_of_lt hb) (by rw [size_push']; exact Nat.lt_succ_of_lt hb)]
  exact Heap.get?_push_of_some _ e
/-! ### dict(pairs) where the keys are tuples, all unlike -/
theorem tupPairs_of {pins : List (Addr × Obj)} {σ : L2.St} {H : Hp} {s : Shared} (I : Inv X pins σ H s) : ∀ {ts : List Addr} {kvs : List (List Key × V)}, Paired (fun t kv => ∃ q, SqT X.K H t [.ref q, kv.2] ∧ H q = some (.tup (kv.1.map kV))) ts kvs →
    ∃ xs : List (List Key × Addr × Value), KT H kvs xs ∧ xs.length = ts.length ∧ ∀ (j : Nat) (x : List Key × Addr × Value), xs[j]? = some x → ∃ t, ts[j]? = some t ∧ IsTup s.heap t #[.ref x.2.1, x.2.2] ∧ H x.2.1 = some (.tup (x.1.map kV))
  | _, _, .nil => ⟨[], .nil, rfl, fun j q e => by simp at e⟩
  | _, _, .cons (a := t) (b := kv) h r => by
    obtain ⟨xs, r1, hl, hp⟩ := tupPairs_of I r
    obtain ⟨q, hq, hk⟩ := h
    obtain ⟨its, rv, ht, _⟩ := I.tuple hq
    obtain ⟨u, y, ei, ru, ry⟩ := vals2 rv
    subst ei
    obtain rfl : u = Value.ref q := ru
    refine ⟨(kv.1, q, y) :: xs, .cons ⟨rfl, hk, ry⟩ r1, by rw [List.length_cons, List.length_cons, hl], fun j x e => ?_⟩
    cases j with
    | zero =>
      obtain rfl : (kv.1, q, y) = x := Option.some.inj e
      exact ⟨t, rfl, ht, hk⟩
    | succ j =>
      obtain ⟨t', e1, e2⟩ := hp j x (by simpa using e)
      exact ⟨t', by simpa using e1, e2⟩
theorem stored_snoc : ∀ (ps acc : List (List Key × Addr × Value)), ((acc ++ ps).map (·.1)).Nodup → PySem.storedAllH acc ps = acc ++ ps
  | [], acc, _ => by simp [PySem.storedAllH]
  | p :: r, acc, h => by
    have e : PySem.storedH acc p.1 p.2.1 p.2.2 = acc ++ [p] := by
      refine PySem.storedH_new ?_ _ _
      have nm : p.1 ∉ acc.map (·.1) := by
        rw [List.map_append, List.map_cons] at h
        intro m
        exact (List.nodup_append.mp h).2.2 _ m _ List.mem_cons_self rfl
      unfold PySem.atKey
      rw [List.find?_eq_none.mpr]
      · rfl
      · intro x hx e
        exact nm (List.mem_map.mpr ⟨x, hx, of_decide_eq_true e⟩)
    have h2 : ((acc ++ [p] ++ r).map (·.1)).Nodup := by simpa using h
    have e2 := stored_snoc r (acc ++ [p]) h2
    show PySem.storedAllH (PySem.storedH acc p.1 p.2.1 p.2.2) r = _
    rw [e, e2]
    simp
theorem keys_eq {H : Hp} : ∀ {kvs : List (List Key × V)} {xs : List (List Key × Addr × Value)}, KT H kvs xs → kvs.map (·.1) = xs.map (·.1)
  | _, _, .nil => rfl
  | _, _, .cons h t => by rw [List.map_cons, List.map_cons, h.1, keys_eq t]
theorem call_dictPT (hcalm : X.calm = true) (hu : X.A.units + 64 < cLine) : CallR X (.type "dict") (fun xs H Q => ∃ (a : Addr) (ts : List Addr) (kvs : List (List Key × V)), xs = [.ref a] ∧ SqL X.K H a (ts.map V.ref) ∧ Paired (fun t kv => ∃ q, SqT X.K H t [.ref q, kv.2] ∧ H q = some (.tup (kv.1.map kV))) ts kvs ∧
    (kvs.map (·.1)).Nodup ∧ ∀ p, H p = none → Q (.ref p) (upd H p (.dT kvs))) := by
  intro pins s σ H xs us Q I r q
  obtain ⟨a, ts, kvs, ex, hq, hp, nd, q⟩ := q
  subst ex
  obtain ⟨u, eu, rx⟩ := vals1 r
  subst eu
  cases rx
  obtain ⟨its, rv, pl, hz⟩ := I.list hq
  have ei := refs_at rv
  subst ei
  rw [List.length_map] at hz
  obtain ⟨ps, kt, hl, hpr⟩ := tupPairs_of I hp
  obtain ⟨o, n, ho, hc, hd, hdat⟩ := pl
  have len2 : (ps.map fun x => (Value.ref x.2.1, x.2.2)).length = ts.length := by rw [List.length_map, hl]
  have P := PairArg.list (prog := X.prog) (w := X.w) a (ts.map Value.ref).toArray (fun j => ts.getD j 0) (ps.map fun x => (Value.ref x.2.1, x.2.2))
  refine call_dict_pairsH (knd := tupleKind (mixKind X.prog X.w)) (ps := ps) P (I.ok.hd hcalm) (by show _ + 1 < cLine; simp only [Around.in1_units]; omega) ⟨⟨o, n, ho, hc, hd, hdat⟩, by simp [hl], fun j k v e => ?_⟩ ⟨by simp, fun i k v e => ?_⟩ (fun h' hk x hx => ?_) (by rw [len2]; exact hz) fun h' tk hd' hk => ?_
  · rw [List.getElem?_map] at e
    obtain ⟨x, hx, e⟩ := Option.map_eq_some_iff.mp e
    obtain ⟨t, e1, e2, e3⟩ := hpr j x hx
    cases e
    have g : ts.getD j 0 = t := by rw [List.getD_eq_getElem?_getD, e1]; rfl
    exact ⟨by simp [e1], .inl (by show IsTup s.heap (ts.getD j 0) _; rw [g]; exact e2)⟩
  · have e : (ps.map fun x => (Value.ref x.2.1, x.2.2))[i]? = some (k, v) := e
    rw [List.getElem?_map] at e
    obtain ⟨x, hx, e⟩ := Option.map_eq_some_iff.mp e
    cases e
    exact ⟨x.1, x.2.1, hx, rfl⟩
  · obtain ⟨j, hj⟩ := List.mem_iff_getElem?.mp hx
    obtain ⟨t, e1, e2, e3⟩ := hpr j x hj
    have k0 := key_of (P := X.prog) (w := X.w) I.hok e3
    obtain ⟨o', items, n', g1, g2⟩ := k0
    exact ⟨o', items, n', hk _ _ (Nat.ne_of_lt (Heap.lt_size g1)) (by simp) g1, g2⟩
  · have hm : (s.heap.objs.size == sysModules) = false := beq_eq_false_iff_ne.mpr (Nat.ne_of_gt I.big)
    have nd2 : (ps.map (·.1)).Nodup := by rw [← keys_eq kt]; exact nd
    rw [stored_snoc ps [] (by simpa using nd2)] at hd'
    obtain ⟨o', es, ep, g1, g2, g3, g4, g5, g6⟩ := hd'
    have hlen : kvs.length ≤ sizeLine := by rw [Paired.length kt, hl]; exact hz
    have keep : ∀ b o, s.heap.get? b = some o → h'.get? b = some o := fun b o e => hk b o (by simp) e
    refine ⟨.ref s.heap.objs.size, upd H s.heap.objs.size (.dT kvs), I.laid (t' := tk) keep (Nat.le_refl _) (show ObjOk X.prog X.w _ _ _ (.dT kvs) from ⟨hlen, hm, ps, kt.keeps fun b ys e => ?_, o', es, ep, g1, g2, g3, g4, g6⟩), rfl, q _ (I.hok.fresh (Nat.le_refl _))⟩
    first
      | exact e
      | (rw [upd_ne (ne_of_none e (I.hok.fresh (Nat.le_refl _)))]; exact e)
end
end Sr

set_option Elab.async false
set_option linter.all false
set_option maxRecDepth 100000
set_option maxHeartbeats 4000000
namespace Sr
open PySem PySem.Spec PyProof.Rows L2
/-! ### several except clauses, each with a name for the error -/
abbrev Su := Addr → Value → Option Addr → TS
/-- a clause: the class, the slot of the name, what the suite does -/
abbrev Clause := Value × Nat × Su
/-- the ends of a suite: the name goes -/
def gone (i : Nat) (D : Ends) : Ends where
  nx := fun σ H => D.nx (σ.set i none) H
  rt := D.rt
  bk := fun σ H => D.bk (σ.set i none) H
  ct := fun σ H => D.ct (σ.set i none) H
def wNamed (K : PySem.W.Frag) (Wout : WX) (D : Ends) : List Clause → WX
  | [] => Wout
  | k :: r => fun cls d σ H => ∃ hit, PySem.W.exmOne K cls k.1 = some hit ∧
      (if hit = true then ∀ a, H a = none → k.2.2 a cls d (gone k.2.1 D) (σ.set k.2.1 (some (.ref a))) H else wNamed K Wout D r cls d σ H)
structure ClauseOk (X : Cx) (h : ExceptHandler) (k : Clause) : Prop where
  is_ : ∃ (x n : Str) (b₀ : Stmt) (rest : List Stmt) (p q : Pos), h = .ExceptHandler (some (.Name x p)) (some n) (b₀ :: rest) q ∧ Names X x k.1 ∧ X.N[k.2.1]? = some n ∧ X.env.kindOf n = some .local ∧
    ∀ (a : Addr) (oe : Obj) (cls : Value) (d : Option Addr) (pn : List (Addr × Obj)), Zc cls d oe → (∃ vs, oe.data = .fields vs) → PSs (X.suite a ((a, oe) :: pn)) (b₀ :: rest) (k.2.2 a cls d)
/-- an error has been caught: what stood stays, the error flies no more -/
def Fell (X : Cx) (pins : List (Addr × Obj)) (σ : L2.St) (H : Hp) (B : Heap) (a : Addr) (cls : Value) (d : Option Addr) (t : Shared) : Prop :=
  ∃ sI : Shared, Inv X pins σ H sI ∧ (∀ b o, sI.heap.get? b = some o → b ∉ frs X.stack → B.get? b = some o) ∧ sI.heap.UpToSlots t.heap ∧
    HandSPX.FlyingZ B (X.env :: X.outer) a (Zc cls d) t.heap ∧ H a = none ∧ t.os = sI.os ∧ AllBare t.gens
section
variable {X : Cx} {pins : List (Addr × Obj)} {σ : L2.St} {H : Hp} {B : Heap} {a : Addr} {cls : Value} {d : Option Addr} {t : Shared}
theorem Fell.inv (f : Fell X pins σ H B a cls d t) : Inv X pins σ H t := by
  obtain ⟨sI, I, nb, up, fl, _, os, ag⟩ := f
  exact I.landed nb fl.1 up os ag
theorem Fell.again (f : Fell X pins σ H B a cls d t) {h' : Heap} (fl' : HandSPX.FlyingZ B (X.env :: X.outer) a (Zc cls d) h') (up' : t.heap.UpToSlots h') : Fell X pins σ H B a cls d { t with heap := h' } := by
  obtain ⟨sI, I, nb, up, _, na, os, ag⟩ := f
  exact ⟨sI, I, nb, up.trans up', fl', na, os, ag⟩
theorem Fell.stands (f : Fell X pins σ H B a cls d t) (hf : X.env.frame = some X.env.locals) :
    ∃ oe, t.heap.get? a = some oe ∧ Zc cls d oe ∧ (∃ vs, oe.data = .fields vs) ∧ Inv (X.suite a ((a, oe) :: (X.pn ++ pins))) [] σ H t := by
  have J := f.inv
  obtain ⟨sI, I, nb, up, fl, na, os, ag⟩ := f
  obtain ⟨oe, vs, e, z, dd⟩ := fl.there
  have out : a ∉ frs (X.env :: X.outer) := fun m => by
    obtain ⟨_, o2, e2, nf⟩ := fl.2.2.1.mem m
    rw [e] at e2
    cases e2
    exact nf vs dd
  have o1 : a ≠ X.env.locals := fun z => out (List.mem_filterMap.mpr ⟨_, List.mem_cons_self, z ▸ hf⟩)
  have o2 : a ∉ X.fs := fun m => by
    obtain ⟨v, mv, ev⟩ := List.mem_filterMap.mp m
    exact out (List.mem_filterMap.mpr ⟨v, List.mem_cons_of_mem _ mv, ev⟩)
  exact ⟨oe, e, z, ⟨vs, dd⟩, J.suite e dd na o1 o2⟩
/-- no clause fits: the error flies on -/
theorem Fell.on (f : Fell X pins σ H B a cls d t) (hs : X.stack = X.env :: X.outer) (hf : X.env.frame = some X.env.locals) {Wout : WX} {D : Ends} (tk : Takes X Wout) (w : Wout cls d σ H) :
    wpAny (model X.prog X.w) X.A (handleBy (.ref a) X.env []) (SP X pins D) X.xe t := by
  obtain ⟨sI, I, nb, up, fl, na, os, ag⟩ := f
  obtain ⟨_, _, _, oe, vs, T, oT, ts, e, z, dd, v1, _⟩ := id fl
  have leaves : wpAny (model X.prog X.w) X.A (setFlight (.ref a) X.env.frame) (fun _ u => wpAny (model X.prog X.w) X.A (throw (.ref a) : Sem Flow) (SP X pins D) X.xe u) X.xe t := by
    rw [hf]
    exact HandSPX.setFlight_upZ fl fun h' held up' => wpAny_throw (tk _ _ ⟨a, B, sI, pins, σ, H, cls, d, rfl, I, nb, up.trans up', .inr (.inr (hs ▸ held)), na, os, ag, w⟩)
  refine wpAny_handleBy_nil ?_
  unfold PySem.passOn
  refine wpAny_bind (wpAny_field e dd v1 ?_)
  have no : ¬ ((Value.ref T == Value.none) = true) := by simp
  rw [if_neg no]
  first
    | exact wpAny_bind leaves
    | exact wpAny_bind (wpAny_pure (wpAny_bind leaves))
theorem Fell.cls_ (f : Fell X pins σ H B a cls d t) (hf : X.env.frame = some X.env.locals) {x : Str} {c : Value} {np : Pos} (hc : Names X x c) {Q : Value → Shared → Prop} {E : Value → Shared → Prop} (q : Q c t) :
    wpAny (model X.prog X.w) (X.A.mark (some (.ref a))) (eval (.Name x np) X.env) Q E t := by
  obtain ⟨oe, _, _, _, S⟩ := f.stands hf
  obtain ⟨g, nd, c1 | ⟨c1, c2, c3⟩⟩ := hc
  · exact ld_glob (X := X.suite a _) S g c1 q nd
  · exact ld_blt (X := X.suite a _) S g c1 c2 q c3 nd
theorem Fell.go {Wout : WX} {D : Ends} (hs : X.stack = X.env :: X.outer) (hf : X.env.frame = some X.env.locals) (hN : X.N.Nodup) (tk : Takes X Wout) : ∀ {hds : List ExceptHandler} {l : List Clause}, Paired (ClauseOk X) hds l → ∀ {t : Shared}, Fell X pins σ H B a cls d t →
    wNamed X.K Wout D l cls d σ H → wpAny (model X.prog X.w) X.A (handleBy (.ref a) X.env hds) (SP X pins D) X.xe t
  | _, _, .nil, _, f, w => f.on hs hf tk w
  | _, _, .cons hk r, t, f, w => by
    obtain ⟨x, n, b₀, rest, p, p', rfl, hc, hi, hl, body⟩ := hk.is_
    obtain ⟨hit, e1, w⟩ := w
    obtain ⟨oe, e, z, _, _⟩ := f.stands hf
    have looks : PySem.W.Looks (model X.prog X.w) t.heap (typeOf (.ref a)) cls := fun _ _ _ _ k q => wpAny_typeOf_ref (k _ _ e) (by rw [z.1]; exact q)
    have fits := PySem.W.exm_one (M := model X.prog X.w) f.inv.kIn looks e1
    refine wpAny_handleBy_cons (codeAny_handlers_test (f.cls_ hf hc (fits.here ?_))) fun q => by cases q
    cases hit with
    | false => exact Fell.go hs hf hN tk r f w
    | true =>
      refine codeAny_handlers_suite_as (HandSPX.lands_againZ (by obtain ⟨_, _, _, _, fl, _⟩ := f; exact fl) fun h' fl' up' => ?_)
      have f' := f.again fl' up'
      obtain ⟨oe2, _, z2, dd2, S⟩ := f'.stands hf
      have na : H a = none := by obtain ⟨_, _, _, _, _, na, _⟩ := f; exact na
      refine store_ok (X := X.suite a _) (v := .ref a) S hN hi (.inl hl) rfl (fun s5 S5 => ?_) (.inr hl)
      refine wpAny_mono ((body a oe2 cls d _ z2 dd2).run [] s5 _ H (gone _ D) S5 (w a na)) (fun fl s6 sp => ?_) fun _ _ z => z.elim
      have off : ∀ {σ6 : L2.St} {H6 : Hp} {Q : Shared → Prop}, Inv (X.suite a ((a, oe2) :: (X.pn ++ pins))) [] σ6 H6 s6 → (∀ s7, Inv X pins (σ6.set _ none) H6 s7 → Q s7) →
          wpAny (model X.prog X.w) X.A (do bindName X.env n .none; unbindBehindTheSuite X.env n p') (fun _ s7 => Q s7) X.xe s6 := fun S6 hq => gone_ok (S6.unsuite f.inv.ok) hN hi hl hq
      cases fl with
      | ret u =>
        obtain ⟨v6, _, _, S6, r6, q6⟩ := sp
        exact off S6 fun _ J => ⟨v6, _, _, J, r6, q6⟩
      | next => exact sp.elim fun _ y => y.elim fun _ y => off y.1 fun _ J => ⟨_, _, J, y.2⟩
      | brk => exact sp.elim fun _ y => y.elim fun _ y => off y.1 fun _ J => ⟨_, _, J, y.2⟩
      | cont => exact sp.elim fun _ y => y.elim fun _ y => off y.1 fun _ J => ⟨_, _, J, y.2⟩
end
/-- try: body, except x as n: .. except y as m: .. -/
theorem ps_try_named {X : Cx} {body : List Stmt} {h₀ : ExceptHandler} {hds : List ExceptHandler} {l : List Clause} {pos : Pos} {tb : WX → TS} {Wout : WX} (hs : X.stack = X.env :: X.outer) (hf : X.env.frame = some X.env.locals) (hN : X.N.Nodup) (tk : Takes X Wout)
    (hb : ∀ (W : WX) (pn : List (Addr × Obj)) (xe : Value → Shared → Prop), Takes (X.tr pn xe) W → PassesOwn (model X.prog X.w) X.A X.env xe → PSs (X.tr pn xe) body (tb W)) (hk : Paired (ClauseOk X) (h₀ :: hds) l) :
    PS X (.Try body (h₀ :: hds) [] [] pos) (fun D σ H => tb (wNamed X.K Wout D l) D σ H) := by
  refine ⟨fun pins s σ H D I h => wpAny_Try_except ?_⟩
  let xt : Value → Shared → Prop := fun e s₁ => wpAny (model X.prog X.w) X.A (noteFrame e X.env) (fun _ s₂ => wpAny (model X.prog X.w) X.A (setFlight e none)
    (fun _ s₃ => wpAny (model X.prog X.w) X.A (handleBy e X.env (h₀ :: hds)) (SP X pins D) X.xe s₃) X.xe s₂) X.xe s₁
  have takes : Takes (X.tr (X.pn ++ pins) xt) (wNamed X.K Wout D l) := fun u s' y => by
    obtain ⟨a, B, sI, pins', σ', H', cls, d, rfl, J', nb, up, sky, na, os, ag, w⟩ := y
    have hfr : X.A.frames = some (X.env :: X.outer) := I.ok.frames.trans (congrArg some hs)
    exact Sky.land Zc.steady hfr hf (hs ▸ sky) fun h3 fl3 up3 => Fell.go hs hf hN tk hk ⟨sI, J'.ofTry I.ok, nb, up.trans up3, fl3, na, os, ag⟩ w
  refine wpAny_mono ((hb _ _ xt takes PassesOwn.looking).run [] s σ H D (I.toTry _) h) (fun f s1 sp => ?_) fun _ _ he => he
  cases f with
  | ret u =>
    obtain ⟨v, _, _, J, r, q⟩ := sp
    exact ⟨v, _, _, J.ofTry I.ok, r, q⟩
  | next => exact sp.elim fun _ y => y.elim fun _ y => wpAny_execs_nil ⟨_, _, y.1.ofTry I.ok, y.2⟩
  | brk => exact sp.elim fun _ y => y.elim fun _ y => ⟨_, _, y.1.ofTry I.ok, y.2⟩
  | cont => exact sp.elim fun _ y => y.elim fun _ y => ⟨_, _, y.1.ofTry I.ok, y.2⟩
end Sr

set_option Elab.async false
set_option linter.all false
set_option maxRecDepth 100000
set_option maxHeartbeats 4000000
namespace Sr
open PySem PySem.Spec PyProof.Rows L2
/-! ### own errors below ValueError, at any depth of classes, with an own __init__ -/
def errSl (sl : Array (Option Value)) : Bool := match sl.toList with
  | [_, _, _, _, some (.builtin n), _] => decide (n = "ValueError.__new__")
  | _ => false
def errCl (C : Addr) (k : ClassData) : Bool := match k.mro with
  | .ref c :: r => decide (c = C) && (PySem.HandSPX.refsVE r && (k.hasDict && !k.hasDel))
  | _ => false
def errB (K : PySem.W.Frag) (C : Addr) : Bool := match K.lookup C with
  | some ⟨.type t, _, .cls k, sl⟩ => decide (t = "type") && (errCl C k && errSl sl)
  | _ => false
theorem errSl_ok {sl : Array (Option Value)} (h : errSl sl = true) : ∃ k0 k1 k2 k3 k5, sl = #[k0, k1, k2, k3, some (.builtin "ValueError.__new__"), k5] := by
  obtain ⟨l⟩ := sl
  unfold errSl at h
  match l, h with
  | [k0, k1, k2, k3, some (.builtin n), k5], h =>
    obtain rfl : n = "ValueError.__new__" := of_decide_eq_true h
    exact ⟨k0, k1, k2, k3, k5, rfl⟩
theorem errCl_ok {C : Addr} {k : ClassData} (h : errCl C k = true) : ∃ bm, k.mro = .ref C :: bm ∧ PySem.HandSPX.refsVE bm = true ∧ k.hasDict = true ∧ k.hasDel = false := by
  unfold errCl at h
  cases e : k.mro with
  | nil => rw [e] at h; cases h
  | cons c r =>
    rw [e] at h
    cases c with
    | ref c =>
      have h' : (decide (c = C) && (PySem.HandSPX.refsVE r && (k.hasDict && !k.hasDel))) = true := h
      obtain ⟨a1, a2⟩ := Bool.and_eq_true_iff.mp h'
      obtain ⟨a2, a3⟩ := Bool.and_eq_true_iff.mp a2
      obtain ⟨a3, a4⟩ := Bool.and_eq_true_iff.mp a3
      obtain rfl : c = C := of_decide_eq_true a1
      exact ⟨r, rfl, a2, a3, by simpa using a4⟩
    | _ => cases h
theorem errB_ok {K : PySem.W.Frag} {C : Addr} (h : errB K C = true) : ∃ nm q N bs bm sn sub ab col dd k0 k1 k2 k3 k5,
    K.lookup C = some (excClassObj nm q C N bs bm true sn sub ab col dd k0 k1 k2 k3 k5 "ValueError.__new__") ∧ PySem.HandSPX.refsVE bm = true := by
  unfold errB at h
  cases e : K.lookup C with
  | none => rw [e] at h; cases h
  | some o =>
    rw [e] at h
    obtain ⟨oc, od, dt, sl⟩ := o
    cases oc with
    | type t =>
      cases dt with
      | cls k =>
        have h' : (decide (t = "type") && (errCl C k && errSl sl)) = true := h
        obtain ⟨h1, h2⟩ := Bool.and_eq_true_iff.mp h'
        obtain ⟨h4, h5⟩ := Bool.and_eq_true_iff.mp h2
        obtain ⟨bm, m1, m2, m3, m4⟩ := errCl_ok h4
        obtain rfl : t = "type" := of_decide_eq_true h1
        obtain ⟨k0, k1, k2, k3, k5, rfl⟩ := errSl_ok h5
        obtain ⟨nm, bs, mro, N, q, hd, sn, sub, ab, col, del⟩ := k
        obtain rfl : mro = .ref C :: bm := m1
        obtain rfl : hd = true := m3
        obtain rfl : del = false := m4
        exact ⟨nm, q, N, bs, bm, sn, sub, ab, col, od, k0, k1, k2, k3, k5, rfl, m2⟩
      | _ => cases h
    | _ => cases h
/-- all that an own error's class must be, as one look -/
def errAll (K : PySem.W.Frag) (C f : Addr) (at_ : Str) : Bool := errB K C && (decide (PySem.W.findIn K (.ref C) "__setattr__" = some (some (.builtin "object.__setattr__"))) && (decide (PySem.W.subIn K (.ref C) (.type "BaseException") = some true) &&
  (decide (PySem.W.typeIn K (.ref C) = some (.type "type")) && (PySem.W.keepIn K (.ref C) && (decide (PySem.W.findIn K (.ref C) "__init__" = some (some (.ref f))) && (decide (PySem.W.typeIn K (.ref f) = some (.type "function")) &&
  (decide (PySem.W.findIn K (.ref C) at_ = some none) && xfB K C)))))))
structure Err (K : PySem.W.Frag) (C f : Addr) (at_ : Str) : Prop where
  oex : OexC K C
  init : PySem.W.findIn K (.ref C) "__init__" = some (some (.ref f))
  fn : PySem.W.typeIn K (.ref f) = some (.type "function")
  no : PySem.W.findIn K (.ref C) at_ = some none
  xf : XfC K C
theorem errAll_ok {K : PySem.W.Frag} {C f : Addr} {at_ : Str} (h : errAll K C f at_ = true) : Err K C f at_ := by
  obtain ⟨h1, h⟩ := Bool.and_eq_true_iff.mp h
  obtain ⟨h2, h⟩ := Bool.and_eq_true_iff.mp h
  obtain ⟨h3, h⟩ := Bool.and_eq_true_iff.mp h
  obtain ⟨h4, h⟩ := Bool.and_eq_true_iff.mp h
  obtain ⟨h5, h⟩ := Bool.and_eq_true_iff.mp h
  obtain ⟨h6, h⟩ := Bool.and_eq_true_iff.mp h
  obtain ⟨h7, h⟩ := Bool.and_eq_true_iff.mp h
  obtain ⟨h8, h9⟩ := Bool.and_eq_true_iff.mp h
  exact ⟨⟨errB_ok h1, of_decide_eq_true h2, of_decide_eq_true h3, of_decide_eq_true h4, h5⟩, of_decide_eq_true h6, of_decide_eq_true h7, of_decide_eq_true h8, xfB_ok h9⟩
/-- __init__(self, v): self.at_ = v -/
def spErr (K : PySem.W.Frag) (C : Addr) (at_ : Str) : Sp := fun vs H Q _ => ∃ a v, vs = [.ref a, v] ∧ H a = some (exo a C none) ∧ ∀ dx, H dx = none → dx ≠ a → Q .non (upd (upd H dx (exd dx [(at_, v)])) a (exo a C (some dx)))
/-- C(v) raised: the dict of the error stands -/
theorem err_at {K : PySem.W.Frag} {C : Addr} {at_ : Str} {v : V} {H1 : Hp} {Q : XK} (q : ∀ dx, H1 dx = none → Q (.ref C) (some dx) (upd H1 dx (.xd [(at_, v)]))) : [v].length ≤ 1000 ∧ ∀ a, H1 a = none → spErr K C at_ (.ref a :: ([v] ++ [])) (upd H1 a (exo a C none))
    (fun u H2 => u = .non ∧ ∃ (d : Addr) (fs : List (Str × V)), H2 a = some (exo a C (some d)) ∧ H2 d = some (exd d fs) ∧ H1 d = none ∧ Q (.ref C) (some d) (upd (del H2 a) d (.xd fs))) (fun _ _ _ => False) := by
  refine ⟨by simp, fun a ha => ⟨a, v, rfl, upd_same, fun dx hdx nd => ?_⟩⟩
  have h1 : H1 dx = none := (upd_ne nd).symm.trans hdx
  refine ⟨rfl, dx, [(at_, v)], upd_same, (upd_ne nd).trans upd_same, h1, ?_⟩
  have e : upd (del (upd (upd (upd H1 a (exo a C none)) dx (exd dx [(at_, v)])) a (exo a C (some dx))) a) dx (.xd [(at_, v)]) = upd H1 dx (.xd [(at_, v)]) := by
    funext b
    by_cases c : b = dx
    · rw [c, upd_same, upd_same]
    · rw [upd_ne c, upd_ne c]
      by_cases c2 : b = a
      · rw [c2, del_same, ha]
      · rw [del_ne c2, upd_ne c2, upd_ne c, upd_ne c2]
  rw [e]
  exact q dx h1
theorem pmk_err {X : Cx} {k k' : Nat} {C f : Addr} {at_ x : Str} {ps : List Str} {e : Expr} {ta : TA} {p pos : Pos} (E : Err X.K C f at_) (M : CalM X.prog X.w X.K X.mg X.base CX0 k f ps (spErr X.K C at_)) (hr : Room k' X.A) (hk : k + 1 ≤ k') (hg : Gl X x) (hm : X.mg x = some (.ref C)) (ha : PA X [e] ta)
    (hdb : (x == ("__debug__" : Str)) = false := by decide) (he : starEach [e] X.env = (false, eval e X.env) :: starEach [] X.env := by rfl) (hpl : (backTo pos (starEach [] X.env)).any (·.1) = false := by rfl) :
    PMk X (.Call (.Name x p) [e] [] pos) (tMkO C (spErr X.K C at_) [] ta) := by
  obtain ⟨fd, F, _, hb⟩ := M.ex
  exact pmk_oex (CX := CX0) E.oex E.init E.fn F (hr.mono hk) hb .nil (fun _ _ _ _ _ _ _ h => h.elim) hg hm ha hdb he hpl
/-- an own error that may be raised: its class, its __init__, its name -/
structure ErrAt (P : Program) (w : World) (K : PySem.W.Frag) (mg : Str → Option Value) (base : Heap) (x at_ p : Str) : Prop where
  e : Err K (He.ga K x) (He.fAd K (x, some "__init__")) at_
  m : CalM P w K mg base CX0 1 (He.fAd K (x, some "__init__")) ["self", p] (spErr K (He.ga K x) at_)
  g : mg x = some (.ref (He.ga K x))
theorem ErrAt.mk_ {X : Cx} {k : Nat} {x at_ q : Str} {e : Expr} {ta : TA} {p pos : Pos} (R : ErrAt X.prog X.w X.K X.mg X.base x at_ q) (hr : Room k X.A) (hk : 2 ≤ k) (hg : Gl X x) (ha : PA X [e] ta)
    (hdb : (x == ("__debug__" : Str)) = false := by decide) (he : starEach [e] X.env = (false, eval e X.env) :: starEach [] X.env := by rfl) (hpl : (backTo pos (starEach [] X.env)).any (·.1) = false := by rfl) :
    PMk X (.Call (.Name x p) [e] [] pos) (tMkO (He.ga X.K x) (spErr X.K (He.ga X.K x) at_) [] ta) := pmk_err R.e R.m hr hk hg R.g ha hdb he hpl
/-- a method that errors may leave -/
theorem DfnM.calE {P : Program} {w : World} {K : PySem.W.Frag} {mg : Str → Option Value} {base : Heap} {c m qual : Str} {st : Stmt} {N ps : List Str} {k : Nat} {sp : Sp} (D : DfnM K c m qual st) (S : FnScope N ps (defScope st))
    (hb : ∀ (kV doc pm : Value) (an : Option Addr) (cdv ct : Value) (us : List Value), us.length = ps.length → bindArgs (PySem.W.fnOf m qual (defArgs st) (defBody st) (defScope st) .none kV doc pm an cdv ct) ⟨us, []⟩ = pure (ps.zip us))
    (len : ∀ vs H Q E, sp vs H Q E → vs.length = ps.length)
    (body : ∀ (cdv : Value) (A : Around) (outer : List Env) (s : Shared) (H : Hp) (vs : List V) (Q : VK) (E : XK), Room k (A.deeper (envOfC qual (defScope st) s.heap.objs.size (He.fAd K (c, some m)) cdv)) → sp vs H Q E →
      ∃ t, PSs (cxOf (L2.CX P w) P w K mg base N qual (defScope st) (He.fAd K (c, some m)) cdv A outer s H E) (defBody st) t ∧ t { nx := fun _ H' => Q .non H', rt := Q } (start N vs) H) :
    CalM P w K mg base (L2.CX P w) (k + 1) (He.fAd K (c, some m)) ps sp := by
  obtain ⟨fd, F⟩ := D.fn
  exact ⟨fd, F.ok S len body, F.kp, F.bindsN hb⟩
theorem op_notHas {X : Cx} {k k' : Nat} {C f : Addr} {ps : List Str} {sp : Sp} (M : CalM X.prog X.w X.K X.mg X.base CX0 k f ps sp) (hr : Room k' X.A) (hk : k ≤ k') (hs : Has X.K C f)
    (hm : ∀ x y H Q Q' E, (∀ v H', Q v H' → Q' v H') → sp [x, y] H Q E → sp [x, y] H Q' E) : OpR X (compareOp .NotIn) (rInOwn C sp E0 true) := by
  obtain ⟨fd, F, _, hb⟩ := M.ex
  intro pins s σ H x y v u Q I rx ry h
  obtain ⟨a, dx, fs, e, ha, hsp⟩ := h
  show wpAny _ _ (do return Value.bool (!(← contains u v))) _ _ _
  refine wpAny_bind (own_in F (hr.mono hk) hs hb pass0 (Q := fun b s' => wpAny (model X.prog X.w) X.A (pure (Value.bool (!b))) (EP X pins σ Q) X.xe s') I rx ry ⟨a, dx, fs, e, ha, hm _ _ _ _ _ _ (fun z H' hz => ?_) hsp⟩)
  obtain ⟨b, rfl, hq⟩ := hz
  exact ⟨b, rfl, fun s' I' => wpAny_pure ⟨.bl (!b), H', I', rfl, hq⟩⟩
end Sr

set_option Elab.async false
set_option linter.all false
set_option maxRecDepth 100000
set_option maxHeartbeats 4000000
namespace Sr
open PySem PySem.Spec PyProof.Rows L2
/-! ### defs that errors may leave -/
structure CalE (P : Program) (w : World) (K : PySem.W.Frag) (mg : Str → Option Value) (base : Heap) (k : Nat) (x : Str) (ps : List Str) (sp : Sp) : Prop where
  ex : ∃ (f : Addr) (fd : FuncData), FnOk P w K mg base (L2.CX P w) k f fd ps sp ∧ mg x = some (.ref f) ∧ PySem.W.keepIn K (.ref f) = true ∧ Binds K fd ps []
theorem pe_calE {X : Cx} {k k' : Nat} {x : Str} {ps : List Str} {sp : Sp} {E : XK} {p pos : Pos} {e : Expr} {es : List Expr} {t : TA} (C : CalE X.prog X.w X.K X.mg X.base k x ps sp) (hr : Room k' X.A) (hk : k ≤ k') (hg : Gl X x) (hx : Passes (L2.CX X.prog X.w) X E) (ha : PA X (e :: es) t)
    (hdb : (x == ("__debug__" : Str)) = false := by decide) (he : starEach (e :: es) X.env = (false, eval e X.env) :: starEach es X.env := by rfl) (hpl : (backTo pos (starEach es X.env)).any (·.1) = false := by rfl) :
    PE X (.Call (.Name x p) (e :: es) [] pos) (tCall sp [] E t) := by
  obtain ⟨f, fd, F, hm, hkp, hb⟩ := C.ex
  exact pe_call F (hr.mono hk) hg hm hkp hb .nil hx ha hdb he hpl
theorem Dfn.calE {P : Program} {w : World} {K : PySem.W.Frag} {mg : Str → Option Value} {base : Heap} {x : Str} {st : Stmt} {N ps : List Str} {k : Nat} {sp : Sp} (D : Dfn K mg x st) (S : FnScope N ps (defScope st))
    (hb : ∀ (kV doc pm : Value) (an : Option Addr) (cdv ct : Value) (us : List Value), us.length = ps.length → bindArgs (PySem.W.fnOf x x (defArgs st) (defBody st) (defScope st) .none kV doc pm an cdv ct) ⟨us, []⟩ = pure (ps.zip us))
    (len : ∀ vs H Q E, sp vs H Q E → vs.length = ps.length)
    (body : ∀ (cdv : Value) (A : Around) (outer : List Env) (s : Shared) (H : Hp) (vs : List V) (Q : VK) (E : XK), Room k (A.deeper (envOfC x (defScope st) s.heap.objs.size (He.ga K x) cdv)) → sp vs H Q E →
      ∃ t, PSs (cxOf (L2.CX P w) P w K mg base N x (defScope st) (He.ga K x) cdv A outer s H E) (defBody st) t ∧ t { nx := fun _ H' => Q .non H', rt := Q } (start N vs) H) :
    CalE P w K mg base (k + 1) x ps sp := by
  obtain ⟨fd, F⟩ := D.fn
  exact ⟨_, fd, F.ok S len body, D.at_, F.kp, F.bindsN hb⟩
/-- where the callee's contract lets no error out -/
theorem passes_never {X : Cx} : Passes (L2.CX X.prog X.w) X E0 := fun _ _ _ _ _ _ _ c => by
  obtain ⟨_, _, _, _, _, _, _, _, _, _, _, _, h⟩ := c
  exact h.elim
/-- within a def that errors may leave -/
theorem passes_def {X : Cx} {E : XK} {E₁ : Value → Shared → Prop} (hs : X.stack = X.env :: X.outer) (hf : X.env.frame = some X.env.locals) (hex : X.ex = [])
    (hx : X.xe = fun e s' => wpAny (model X.prog X.w) X.A (leaving X.env e) (fun _ s'' => L2.CX X.prog X.w X.outer X.H_0 X.s_0 E e s'') E₁ s') : Passes (L2.CX X.prog X.w) X E :=
  passes_call (takes_of hs hf hex hx) fun _ _ _ _ h => h
end Sr

set_option Elab.async false
set_option linter.all false
set_option maxRecDepth 100000
set_option maxHeartbeats 4000000
namespace Sr
open PySem PySem.Spec PyProof.Rows L2
open Sem (wp)
/-! ### enumerate(tuple) -/
theorem meets_enumerate_newT {v : Value} {o : Obj} {H : Heap → Prop} (B : Begins v o H) :
    Meets (Builtin.«enumerate.__new__» ⟨[.type "enumerate", v], []⟩) (fun _ R s => H s.heap ∧
      R (.ok (.ret (.ref (s.heap.push o).objs.size))) { s with heap := (s.heap.push o).push { cls := .type "enumerate", data := .fields #[.none, .bool false, .ref s.heap.objs.size, rawInt 0, .none, .none] } }) :=
  .of_wp fun prog w A R s h => by
    obtain ⟨hp, g, d, tk, os⟩ := s; obtain ⟨h1, h⟩ := h
    have hsub := sub_enumerate
    have q1 : ∀ {A' : Around} {E : Value → Shared → Prop} {Q : Value → Shared → Prop}, Q (.ref hp.objs.size) ⟨hp.push o, g, d, tk, os⟩ → wpAny (model prog w) A' (pyIter v) Q E ⟨hp, g, d, tk, os⟩ :=
      fun q => B.iter prog w _ _ ⟨hp, g, d, tk, os⟩ _ h1 q
    wp_walk using q1
    refine wpAny_stack_any fun st => wpAny_pure ?_
    split
    · rename_i c _ _ _ _ _
      cases (c == Value.type "enumerate")
      · wp_walk using q1
        exact ⟨_, rfl, h⟩
      · wp_walk using q1
        exact ⟨_, rfl, h⟩
    · wp_walk using q1
      exact ⟨_, rfl, h⟩
section
variable {prog : Program} {w : World} {A : Around} {E : Value → Shared → Prop} {s : Shared}
theorem enumT_begins {v : Value} {o : Obj} {H : Heap → Prop} {Q : Value → Shared → Prop} (B : Begins v o H) (h1 : H s.heap)
    (h : ∀ h', IsEnum h' (s.heap.objs.size + 1) s.heap.objs.size 0 .none → h'.get? s.heap.objs.size = some o → h'.objs.size = s.heap.objs.size + 2 →
      (∀ b o, s.heap.get? b = some o → h'.get? b = some o) → Q (.ref (s.heap.objs.size + 1)) { s with heap := h' }) :
    wpAny (model prog w) A (call (.type "enumerate") [v]) Q E s := by
  refine callType_new PySem.F.called_enumerate (by decide) (PySem.F.typeCall_enumerate_1 _) (PySem.F.newCall_enumerate_1 _) (fun obj => PySem.F.args_object_init_2 obj _) PySem.F.entry_enumerate_new
    (meets_enumerate_newT B) ⟨h1, ?_⟩
  have hz : (s.heap.push o).objs.size = s.heap.objs.size + 1 := Heap.size_push ..
  show _ ∧ _
  rw [hz]
  have he : IsEnum ((s.heap.push o).push { cls := .type "enumerate", data := .fields #[.none, .bool false, .ref s.heap.objs.size, rawInt 0, .none, .none] }) (s.heap.objs.size + 1) s.heap.objs.size 0 .none := by
    have := Heap.get?_push_size (s.heap.push o) (o := { cls := .type "enumerate", data := .fields #[.none, .bool false, .ref s.heap.objs.size, rawInt 0, .none, .none] }) rfl
    rw [hz] at this; exact this
  refine ⟨⟨_, he, rfl⟩, h _ he (Heap.get?_push_of_some _ (Heap.get?_push_size _ B.free)) (by rw [Heap.size_push, hz]) fun b o x => Heap.get?_push_of_some _ (Heap.get?_push_of_some _ x)⟩
end
theorem enum_endT {prog : Program} {w : World} {A : Around} {E : Value → Shared → Prop} {s : Shared} {e it t : Addr} {j : Nat} {items : Array Value} {i : Int} {old : Value} {Q : Option Value → Shared → Prop} (hh : A.in1.handled = none)
    (he : IsEnum s.heap e it i old) (hit : s.heap.IsTupleIter it t j) (ht : s.heap.IsTuple t items) (hx : items[j]? = none)
    (hQ : ∀ h', Heap.ExtBut it s.heap h' → Q none { s with heap := h' }) : wpAny (model prog w) A (pyNext (.ref e)) Q E s := by
  have hT : s.TypeIs (.ref e) "enumerate" := ⟨_, he, rfl⟩
  unfold pyNext
  refine wpAny_bind (wpAny_attempt (wpAny_callSpecial?_slot (name := Str.ofString "__next__") hT PySem.F.slot_enumerate_next
    (wpAny_call_entry PySem.F.slot_enumerate_next hT PySem.F.entry_enumerate_next ?_ (PySem.F.args_enumerate_next_1 _))))
  show wpAny _ _ (field (.ref e) 2 >>= _) _ _ _
  refine wpAny_bind (wpAny_field he rfl (x := .ref it) rfl ?_)
  refine wpAny_bind (wpAny_nextOf_tuple_end hh hit ht hx fun h' x he' hx' => ?_)
  obtain ⟨o, ho, hc⟩ := hx'
  refine wpAny_bind (wpAny_isInstance (T := "StopIteration") (b := true) ⟨o, ho, hc⟩ isSubtype_stop ?_)
  exact wpAny_pure (hQ _ he')
/-- the tuple at a, each item in a new pair -/
def Itet (K : PySem.W.Frag) (a : Addr) : It :=
  ⟨fun i H => ∃ (xs : List V) (x : V), SqT K H a xs ∧ xs[i]? = some x, fun i H v H' => ∃ T x, v = .ref T ∧ H T = none ∧ H' = upd H T (.tup [.int (i : Nat), x]) ∧ ∀ xs, SqT K H a xs → xs[i]? = some x, fun i H => ∃ xs : List V, SqT K H a xs ∧ xs.length ≤ i⟩
theorem turn_enumT {P : Program} {w : World} {K : PySem.W.Frag} {elts : List Expr} {kk : Nat} {tpos : Pos} (a e it : Addr) :
    Turn P w K (.Tuple elts kk tpos) (Itet K a) [e, it] e (fun i h => (∃ old, IsEnum h e it ((i : Nat) : Int) old) ∧ h.IsTupleIter it a i ∧ e ≠ it) where
  mem := by simp
  obj := fun i h st b hb => by
    obtain ⟨⟨old, he⟩, ⟨o, ho, hc, hd⟩, _⟩ := st
    have e' : b = e ∨ b = it := by simpa using hb
    rcases e' with z | z
    · rw [z]; exact ⟨_, he, fun v q => nomatch q⟩
    · rw [z]; exact ⟨o, ho, fun v q => by rw [hd] at q; cases q⟩
  keep := fun i h h' st k => let ⟨⟨old, he⟩, hi, hne⟩ := st; ⟨⟨old, k e (by simp) _ he⟩, hi.at fun o q => k it (by simp) o q, hne⟩
  item := by
    intro X hP hw hK hc i pins s σ H E I hf st hg
    subst hP hw hK
    obtain ⟨⟨old, he⟩, hit, hne⟩ := st
    obtain ⟨xs, x, hq, hx⟩ := hg
    obtain ⟨its, rv, p, hz⟩ := I.tuple hq
    obtain ⟨u, hu, ru⟩ := rv.get hx
    have hel : e < s.heap.objs.size := Heap.lt_size he
    have hil : it < s.heap.objs.size := by obtain ⟨_, q, _⟩ := hit; exact Heap.lt_size q
    have hai : a ≠ it := fun z => by
      obtain ⟨o1, g1, g2, _⟩ := p
      obtain ⟨o2, g3, g4, _⟩ := hit
      rw [z, g3] at g1
      cases g1
      rw [g2] at g4
      injection g4 with g4
      exact absurd g4 (by decide)
    have hea : e ≠ a := fun z => by
      obtain ⟨o1, g1, g2, _⟩ := p
      have he2 : s.heap.get? a = _ := z ▸ he
      rw [he2] at g1
      cases g1
      injection g2 with g2
      exact absurd g2 (by decide)
    have D := Draws.tuple (prog := X.prog) (w := X.w) (A := X.A.in1) (I.ok.hd hc) it a hai its.toArray
    have hlt : i < its.toArray.size := by
      have := (List.getElem?_eq_some_iff.mp hu).1
      simpa using this
    refine wpAny_pyNext_enum_itemC D he ⟨hit, p⟩ hlt hne (by simp [hne, hea]) fun y h' tk hP ho hst' hT hsz hk => ?_
    have ey : y = u := by
      have hP : its.toArray[i]? = some y := hP
      rw [List.getElem?_toArray, hu] at hP
      exact (Option.some.inj hP).symm
    subst ey
    refine ⟨_, rfl, wpAny_letOwnedTupleGo_enum (s := { s with heap := h', toks := tk + 1 }) ho fun h'' he' sb => ?_⟩
    have hT2 : h''.get? s.heap.objs.size = some { cls := .type "tuple", data := .seq #[.int i tk, y] } := (sb.2 _ (Nat.ne_of_gt hel)).trans hT
    have new : ObjOk X.prog X.w (upd H s.heap.objs.size (.tup [.int (i : Nat), x])) h'' s.heap.objs.size (.tup [.int (i : Nat), x]) :=
      ⟨by show 2 ≤ sizeLine; decide, [.int i tk, y], .cons ⟨_, rfl⟩ (.cons ru .nil), ⟨_, hT2, rfl, _, rfl⟩⟩
    have I1 : L2.Inv X pins σ (upd H s.heap.objs.size (.tup [.int (i : Nat), x])) { s with heap := h'', toks := tk + 1 } :=
      I.turnedNew (ch := [e, it]) (fun b ob hb q => (sb.2 b (fun z => hb (by simp [z]))).trans (hk b ob (fun z => hb (by simp [z])) (fun z => hb (by simp [z])) q)) hf (Nat.le_refl _) new
    refine ⟨.ref s.heap.objs.size, _, I1, rfl, ⟨_, x, rfl, I.hok.fresh (Nat.le_refl _), rfl, fun ys hy => by rw [I.tuple_inj hy hq]; exact hx⟩, ⟨⟨y, ?_⟩, hst'.1.at fun o q => (sb.2 it (Ne.symm hne)).trans q, hne⟩, fun b hb => ?_⟩
    · have e1 : ((i + 1 : Nat) : Int) = (i : Int) + 1 := by omega
      rw [e1]; exact he'
    · have hb' : b < s.heap.objs.size := by
        have e' : b = e ∨ b = it := by simpa using hb
        rcases e' with z | z
        · rw [z]; exact hel
        · rw [z]; exact hil
      rw [upd_ne (Nat.ne_of_lt hb')]
      exact (hf b hb).1
  done := by
    intro X hP hw hK hc i pins s σ H E I hf st hg
    subst hP hw hK
    obtain ⟨⟨old, he⟩, hit, hne⟩ := st
    obtain ⟨xs, hq, hx⟩ := hg
    obtain ⟨its, rv, p, hz⟩ := I.tuple hq
    obtain ⟨f0, f1, f2, f3, f4, f5⟩ := hf it (by simp)
    have hl := rv.length
    refine enum_endT (I.ok.hd hc) he hit (show s.heap.IsTuple a its.toArray from p) (by simp; omega) fun h' eb => ⟨rfl, I.turned (t' := s.toks) (fun b o hb q => eb b o hb q) f0 f1 f3 f4 f5⟩
  self := fun A i s Q E st h => let ⟨⟨_, he⟩, _⟩ := st; wpAny_pyIter_enum he h
def iEnumT (K : PySem.W.Frag) (ta : TA) : TI := fun σ H R => ta σ H fun vs H1 => ∃ a xs, vs = [.ref a] ∧ SqT K H1 a xs ∧ R (Itet K a) H1
theorem pi_enumT {X : Cx} {e : Expr} {ta : TA} {p pos tpos : Pos} {elts : List Expr} {kk : Nat} (hg : Gl X "enumerate") (hm : X.mg "enumerate" = none) (ha : PA X [e] ta) (hs : starEach [e] X.env = [(false, eval e X.env)] := by rfl) :
    PI X (.Tuple elts kk tpos) (.Call (.Name "enumerate" p) [e] [] pos) (iEnumT X.K ta) := by
  refine ⟨fun pins s σ H R I h => ?_⟩
  refine Call_ (ld_blt I hg hm boot_enumerate (PyProof.Rows.callWith_type1 (thn (ha.run pos pins s σ H _ I h) fun us s1 ⟨vs, H1, I1, r1, q1⟩ => ?_) hs rfl))
  obtain ⟨a, xs, ex, hq, q⟩ := q1
  subst ex
  cases r1 with
  | cons r rr =>
    cases rr
    cases r
    obtain ⟨its, rv, p', hz⟩ := I1.tuple hq
    refine enumT_begins (begins_tuple a its.toArray) (show s1.heap.IsTuple a its.toArray from p') fun h' he hit hsz hk => wpAny_pyIter_enum he ?_
    have I2 : L2.Inv X pins σ H1 { s1 with heap := h' } := I1.kept (t' := s1.toks) hk
    refine ⟨s1.heap.objs.size + 1, [s1.heap.objs.size + 1, s1.heap.objs.size], _, _, H1, rfl, I2, turn_enumT a (s1.heap.objs.size + 1) s1.heap.objs.size, ⟨⟨.none, he⟩, ⟨_, hit, rfl, rfl⟩, Nat.succ_ne_self _⟩, fun b hb => ?_, q⟩
    have e' : b = s1.heap.objs.size + 1 ∨ b = s1.heap.objs.size := by simpa using hb
    have hle : s1.heap.objs.size ≤ b := by
      rcases e' with z | z
      · rw [z]; exact Nat.le_add_right _ _
      · rw [z]; exact Nat.le_refl _
    exact I1.fpOk hle (I1.hok.fresh hle)
theorem walk_enumT {K : PySem.W.Frag} {a : Addr} {xs : List V} : Walk (Itet K a) xs.length (fun H => SqT K H a xs) (YPair (fun i => some (.int (i : Nat))) (fun i => xs[i]?)) := by
  refine ⟨fun i _ hi q => ⟨xs, xs[i], q, by simp [hi]⟩, fun _ q => ⟨xs, q, Nat.le_refl _⟩, fun i H v H' _ q y => ?_⟩
  obtain ⟨T, x, h1, h2, h3, h4⟩ := y
  exact ⟨T, .int (i : Nat), x, h1, h2, h3, rfl, h4 xs q⟩
end Sr

set_option Elab.async false
set_option linter.all false
set_option maxRecDepth 100000
set_option maxHeartbeats 4000000
namespace Sr
open PySem PySem.Spec PyProof.Rows L2 LamX
/-! ### a def that calls what it got within a try, and tells what is told or refused -/
/-- try: return (s1, a()) / except CS as e: return (s2, e.at_) -/
def TTried (CS : Addr) (at_ : Str) (s1 s2 : Str) : (XK → Hp → VK → Prop) → Hp → VK → Prop := fun tl H Q =>
  tl (fun cls d H' => cls = .ref CS ∧ ∃ e v, d = some e ∧ H' e = some (.xd [(at_, v)]) ∧ ∀ p, H' p = none → Q (.ref p) (upd H' p (.tup [.str s2, v]))) H
    (fun v H' => [V.str s1, v].length ≤ sizeLine ∧ ∀ p, H' p = none → Q (.ref p) (upd H' p (.tup [.str s1, v])))
theorem lineN {n : Nat} (h : n ≤ 1000 := by decide) : n ≤ sizeLine := Nat.le_of_lt (sz h)
theorem three_line : (3 : Nat) ≤ sizeLine := by rw [sizeLine_eq]; decide
theorem rd_mono {H H' : Hp} {a : Addr} {o : HO} (e : Same H H') (h : Rd H a o) : Rd H' a o := h.elim (fun h => .inl (e _ _ h)) fun ⟨u, h⟩ => .inr ⟨u, e _ _ h⟩
theorem sql_mono {K : PySem.W.Frag} {H H' : Hp} {a : Addr} {xs : List V} (e : Same H H') (h : SqL K H a xs) : SqL K H' a xs := h.elim (fun h => .inl (rd_mono e h)) .inr
theorem sqt_mono {K : PySem.W.Frag} {H H' : Hp} {a : Addr} {xs : List V} (e : Same H H') (h : SqT K H a xs) : SqT K H' a xs := h.elim (fun h => .inl (rd_mono e h)) .inr
theorem sq_mono {K : PySem.W.Frag} {H H' : Hp} {a : Addr} {xs : List V} (e : Same H H') (h : SqL K H a xs ∨ SqT K H a xs) : SqL K H' a xs ∨ SqT K H' a xs := h.elim (fun h => .inl (sql_mono e h)) fun h => .inr (sqt_mono e h)
/-- a body whose slots are as many as its names -/
theorem pss_len {X : Cx} {sts : List Stmt} {t : TS} {n : Nat} (h : PSs X sts t) (hn : X.N.length = n := by rfl) : PSs X sts (fun D σ H => σ.length = n → t D σ H) :=
  ⟨fun pins s σ H D I q => h.run pins s σ H D I (q (I.len.trans hn))⟩
/-! ### a def called with a lambda -/
theorem pe_lam {X : Cx} (qn : Str) {x a : Str} {st : Stmt} {Ng : List Str} {TT : (XK → Hp → VK → Prop) → Hp → VK → Prop} {k : Nat} {params : Arguments} {body : Expr} {scope : Scope} {t : XK → TE} {c P : Addr} {p lpos pos : Pos} (D : Dfn X.K X.mg x st) (Sg : FnScope Ng [a] (defScope st))
    (hb : ∀ (kV doc pm : Value) (an : Option Addr) (cdv ct : Value) (us : List Value), us.length = [a].length → bindArgs (PySem.W.fnOf x x (defArgs st) (defBody st) (defScope st) .none kV doc pm an cdv ct) ⟨us, []⟩ = pure ([a].zip us))
    (hG : ∀ cdv : Value, GivesTo X Ng x (defScope st) (He.ga X.K x) cdv (defBody st) a (X.env.qual ++ "<lambda>") TT) (TB : TabB X.base X.mg c P) (hcode : X.env.code = .ref c) (hr : Room (k + 2) X.A)
    (hbody : ∀ (A : Around) (outer : List Env) (s : Shared) (H : Hp) (E : XK) (f c' : Addr), Room k (A.deeper (lamEnv X scope s.heap.objs.size f c')) → PE (lamCx X A outer s H E scope f c') body (t E))
    (hg : Gl X x) (L : LamS X.env.scope scope) (hbind : ∀ (q : Str) (cl : List (Str × Addr)) (pm cv ctv : Value), bindArgs (PySem.W.kla_fn "<lambda>" q params body scope cl pm cv ctv) ⟨[], []⟩ = pure [])
    (hqn : X.env.qual = qn := by rfl) (hdef : defaultsOf params X.env = ([], []) := by rfl) (hNg : Ng[0]? = some a := by rfl) (hva : Vis (defScope st) a := by first | exact Or.inl rfl | exact Or.inr (Or.inl rfl))
    (hdb : (x == ("__debug__" : Str)) = false := by decide) (hd : (a == ("__debug__" : Str)) = false := by decide) (hcd : (a == ("__classdict__" : Str)) = false := by decide) :
    PE X (.Call (.Name x p) [.Lambda params body scope lpos] [] pos) (tLam [(P, qn ++ "<lambda>")] TT t) := by
  subst hqn
  obtain ⟨fd, F⟩ := D.fn
  have hB := F.bindsN hb
  obtain ⟨oc, od, dV, kV, doc, pm, an, cdv, ct, osl, rfl, lk, hcg, _, _⟩ := F.ex
  exact pe_lamcall hg D.at_ F.kp lk hcg hB Sg hNg hva (hG cdv) TB hcode List.mem_cons_self (fun p hp _ => by rw [List.mem_singleton.mp hp]) hr L hdef hbind hbody hdb hd hcd
/-- a def of the top, with its code object known -/
theorem fun_ok {P : Program} {w : World} {K : PySem.W.Frag} {mg : Str → Option Value} {base : Heap} {CX : CXT} {x : Str} {st : Stmt} {N ps : List Str} {k : Nat} {sp : Sp} {fd : FuncData} (F : FunD K x x (defArgs st) (defBody st) (defScope st) [] [] (He.ga K x) fd) (S : FnScope N ps (defScope st)) (len : ∀ vs H Q E, sp vs H Q E → vs.length = ps.length)
    (hbody : ∀ (A : Around) (outer : List Env) (s : Shared) (H : Hp) (vs : List V) (Q : VK) (E : XK), Room k (A.deeper (envOfC x (defScope st) s.heap.objs.size (He.ga K x) (.ref (He.codeOf K (x, none))))) → sp vs H Q E →
      ∃ t, PSs (cxOf CX P w K mg base N x (defScope st) (He.ga K x) (.ref (He.codeOf K (x, none))) A outer s H E) (defBody st) t ∧ t { nx := fun _ H' => Q .non H', rt := Q } (L2.start N vs) H) : FnOk P w K mg base CX (k + 1) (He.ga K x) fd ps sp := by
  obtain ⟨oc, od, dV, kV, doc, pm, an, cdv, ct, osl, rfl, lk, hcd, _, _⟩ := F.ex
  obtain ⟨c, rfl⟩ := He.codeIn_ref hcd
  have e : He.codeOf K (x, none) = c := He.codeOf_eq (p := (x, none)) lk rfl
  rw [e] at hbody
  exact fn_of lk hcd S len hbody
end Sr

set_option Elab.async false
set_option linter.all false
set_option maxRecDepth 100000
set_option maxHeartbeats 4000000
namespace Sr
open PySem PySem.Spec PyProof.Rows L2
/-! ### a list or a tuple, whichever it is -/
def SqAny (K : PySem.W.Frag) (H : Hp) (a : Addr) (xs : List V) : Prop := SqL K H a xs ∨ SqT K H a xs
theorem PG.or {X : Cx} {e : Expr} {t u : TG} (h : PG X e t) (k : PG X e u) : PG X e (fun v σ H Q => t v σ H Q ∨ u v σ H Q) :=
  ⟨fun pins s σ H v w Q I r q => q.elim (h.run pins s σ H v w Q I r) (k.run pins s σ H v w Q I r)⟩
def gSeq (K : PySem.W.Frag) (n : Nat) (t : TGs) : TG := fun v σ H Q => ∃ a xs, v = .ref a ∧ SqAny K H a xs ∧ xs.length = n ∧ t xs σ H Q
theorem pg_seq {X : Cx} {pos : Pos} {es : List Expr} {k : Nat} {t : TGs} {n : Nat} (hc : X.calm = true) (h : PGs X es t)
    (hn : (assignEach es X.env).length = n := by rfl) (hst : (assignEach es X.env).findIdx? (·.1) = none := by rfl) : PG X (.Tuple es k pos) (gSeq X.K n t) := by
  refine ⟨fun pins s σ H v u Q I r hw => ?_⟩
  obtain ⟨a, xs, e1, hq, hl, hw⟩ := hw
  rcases hq with hq | hq
  · exact (pg_unl (pos := pos) (k := k) hc h hn hst).run pins s σ H v u Q I r ⟨a, xs, e1, hq, hl, hw⟩
  · exact (pg_tup (pos := pos) (k := k) hc h hn hst).run pins s σ H v u Q I r ⟨a, xs, e1, hq, hl, hw⟩
def SeqIt (K : PySem.W.Frag) (H1 : Hp) (a : Addr) (R : It → Hp → Prop) : Prop := ((∃ xs, SqL K H1 a xs) ∧ R (Itl K a) H1) ∨ ((∃ xs, SqT K H1 a xs) ∧ R (Itt K a) H1)
def SeqItE (K : PySem.W.Frag) (H1 : Hp) (a : Addr) (R : It → Hp → Prop) : Prop := ((∃ xs, SqL K H1 a xs) ∧ R (Ite K a) H1) ∨ ((∃ xs, SqT K H1 a xs) ∧ R (Itet K a) H1)
def iSeq (K : PySem.W.Frag) (tl : TE) : TI := fun σ H R => tl σ H fun x H1 => ∃ a, x = .ref a ∧ SeqIt K H1 a R
/-- an iterator just laid down, at the next place, stands for its walk -/
theorem pie_new {X : Cx} {pins : List (Addr × Obj)} {σ : L2.St} {tg : Expr} {R : It → Hp → Prop} {s : Shared} {H : Hp} {J : It} {tn : Nat → Heap → Prop} {o : Obj} {n : Addr} (I : L2.Inv X pins σ H s) (hn : n = s.heap.objs.size) (T : Turn X.prog X.w X.K tg J [n] n tn)
    (h0 : tn 0 (s.heap.push o)) (q : R J H) : PIE X pins σ tg R (.ref n) { s with heap := s.heap.push o } := by
  have keep : L2.Inv X pins σ H { s with heap := s.heap.push o } := I.kept (t' := s.toks) fun _ _ e => Heap.get?_push_of_some _ e
  have fresh : FpOk X pins H n := I.fpOk (Nat.le_of_eq hn.symm) (I.hok.fresh (Nat.le_of_eq hn.symm))
  exact ⟨n, [n], tn, J, H, rfl, keep, T, h0, fun b hb => (List.mem_singleton.mp hb) ▸ fresh, q⟩
theorem pi_seq {X : Cx} {tg l : Expr} {tl : TE} (hl : PE X l tl) : PI X tg l (iSeq X.K tl) := by
  refine ⟨fun pins s σ H R I h => thn (hl.run pins s σ H _ I h) ?_⟩
  rintro v s1 ⟨_, H1, I1, r1, a, rfl, q | q⟩ <;> cases r1 <;> obtain ⟨⟨xs, hq⟩, q⟩ := q
  · obtain ⟨its, _, p, _⟩ := I1.list hq
    exact wpAny_pyIter_list p.isList (pie_new I1 rfl (turn_list a _) ⟨_, Heap.get?_push_size _ rfl, rfl, rfl⟩ q)
  · obtain ⟨its, _, p, _⟩ := I1.tuple hq
    exact wpAny_pyIter_tuple (items := its.toArray) p (pie_new I1 rfl (turn_tuple a _) ⟨_, Heap.get?_push_size _ rfl, rfl, rfl⟩ q)
def iEnumS (K : PySem.W.Frag) (ta : TA) : TI := fun σ H R => ta σ H fun vs H1 => ∃ a, vs = [.ref a] ∧ SeqItE K H1 a R
/-- the same, of two things laid down, the upper one of which is asked -/
theorem pie_two {X : Cx} {pins : List (Addr × Obj)} {σ : L2.St} {tg : Expr} {R : It → Hp → Prop} {s : Shared} {h' : Heap} {H : Hp} {J : It} {tn : Nat → Heap → Prop} {n : Nat} (I : L2.Inv X pins σ H s) (hn : n = s.heap.objs.size) (hk : ∀ b o, s.heap.get? b = some o → h'.get? b = some o)
    (T : Turn X.prog X.w X.K tg J [n + 1, n] (n + 1) tn) (h0 : tn 0 h') (q : R J H) : PIE X pins σ tg R (.ref (n + 1)) { s with heap := h' } := by
  have fresh : ∀ b, n ≤ b → FpOk X pins H b := fun b hb => I.fpOk (hn ▸ hb) (I.hok.fresh (hn ▸ hb))
  refine ⟨n + 1, [n + 1, n], tn, J, H, rfl, I.kept (t' := s.toks) hk, T, h0, ?_, q⟩
  simp only [List.forall_mem_cons, List.not_mem_nil, false_implies, implies_true, and_true]
  exact ⟨fresh _ (Nat.le_succ _), fresh _ (Nat.le_refl _)⟩
theorem pi_enumS {X : Cx} {e : Expr} {ta : TA} {p pos tpos : Pos} {elts : List Expr} {kk : Nat} (hg : Gl X "enumerate") (hm : X.mg "enumerate" = none) (ha : PA X [e] ta) (hs : starEach [e] X.env = [(false, eval e X.env)] := by rfl) :
    PI X (.Tuple elts kk tpos) (.Call (.Name "enumerate" p) [e] [] pos) (iEnumS X.K ta) := by
  refine ⟨fun pins s σ H R I h => Call_ (ld_blt I hg hm boot_enumerate (PyProof.Rows.callWith_type1 (thn (ha.run pos pins s σ H _ I h) ?_) hs rfl))⟩
  rintro us s1 ⟨_, H1, I1, r1, a, rfl, q⟩
  cases r1 with
  | cons r rr =>
    cases rr
    cases r
    rcases q with ⟨⟨xs, hq⟩, q⟩ | ⟨⟨xs, hq⟩, q⟩
    · obtain ⟨its, _, p', _⟩ := I1.list hq
      exact call_enumerate_list p'.isList fun h' he hit _ hk => wpAny_pyIter_enum he (pie_two I1 rfl hk (turn_enum a _ _) ⟨⟨.none, he⟩, hit, Nat.succ_ne_self _⟩ q)
    · obtain ⟨its, _, p', _⟩ := I1.tuple hq
      exact enumT_begins (begins_tuple a its.toArray) p' fun h' he hit _ hk => wpAny_pyIter_enum he (pie_two I1 rfl hk (turn_enumT a _ _) ⟨⟨.none, he⟩, ⟨_, hit, rfl, rfl⟩, Nat.succ_ne_self _⟩ q)
/-- the object of a list or a tuple -/
def seqO (xs : List V) (o : HO) : Prop := o = .lst xs ∨ o = .tup xs
theorem seqO.any {K : PySem.W.Frag} {H : Hp} {a : Addr} {xs : List V} {o : HO} (h : seqO xs o) (e : H a = some o) : SqAny K H a xs := by
  rcases h with rfl | rfl
  · exact .inl (SqL.of e)
  · exact .inr (SqT.of e)
/-- a walk over it, as one walk -/
theorem seq_walk {K : PySem.W.Frag} {a : Addr} {xs : List V} {o : HO} (h : seqO xs o) : ∃ J, Walk J xs.length (fun H => H a = some o) (YAt xs) ∧
    ∀ (H : Hp) (R : It → Hp → Prop), H a = some o → R J H → SeqIt K H a R := by
  rcases h with rfl | rfl
  · exact ⟨Itl K a, walk_list.mono (fun H e => SqL.of e) fun _ _ _ _ _ _ y => y, fun H R e r => .inl ⟨⟨_, SqL.of e⟩, r⟩⟩
  · exact ⟨Itt K a, walk_tup.mono (fun H e => SqT.of e) fun _ _ _ _ _ _ y => y, fun H R e r => .inr ⟨⟨_, SqT.of e⟩, r⟩⟩
theorem seq_walkE {K : PySem.W.Frag} {a : Addr} {xs : List V} {o : HO} (h : seqO xs o) : ∃ J, Walk J xs.length (fun H => H a = some o) (YPair (fun i => some (.int (i : Nat))) (fun i => xs[i]?)) ∧
    ∀ (H : Hp) (R : It → Hp → Prop), H a = some o → R J H → SeqItE K H a R := by
  rcases h with rfl | rfl
  · exact ⟨Ite K a, walk_enum.mono (fun H e => SqL.of e) fun _ _ _ _ _ _ y => y, fun H R e r => .inl ⟨⟨_, SqL.of e⟩, r⟩⟩
  · exact ⟨Itet K a, walk_enumT.mono (fun H e => SqT.of e) fun _ _ _ _ _ _ y => y, fun H R e r => .inr ⟨⟨_, SqT.of e⟩, r⟩⟩
/-- what stands for a list or a tuple -/
def seqOfD : Dt → Option (List Dt)
  | .lst l => some l
  | .tup l => some l
  | _ => none
theorem Is.seq {H : Hp} {v : V} {d : Dt} {l : List Dt} (h : Is H v d) (e : seqOfD d = some l) : ∃ a xs o, v = .ref a ∧ H a = some o ∧ seqO xs o ∧ IsA H xs l ∧ xs.length ≤ 60 := by
  cases h with
  | lst h r z => cases e; exact ⟨_, _, _, rfl, h, .inl rfl, r, z⟩
  | tup h r z => cases e; exact ⟨_, _, _, rfl, h, .inr rfl, r, z⟩
  | _ => cases e
end Sr

set_option Elab.async false
set_option linter.all false
set_option maxRecDepth 100000
set_option maxHeartbeats 4000000
namespace Sr
open PySem PySem.Spec PyProof.Rows L2
/-! ### data as plain data, for == -/
mutual
def toP : Dt → PyData
  | .non => .none
  | .bl b => .bool b
  | .int i => .int i
  | .str s => .str s
  | .lst l => .list (toPs l)
  | .tup l => .tuple (toPs l)
  | .dic => .none
def toPs : List Dt → List PyData
  | [] => []
  | d :: r => toP d :: toPs r
end
mutual
/-- without dicts -/
def plainD : Dt → Bool
  | .lst l => plainDs l
  | .tup l => plainDs l
  | .dic => false
  | _ => true
def plainDs : List Dt → Bool
  | [] => true
  | d :: r => plainD d && plainDs r
end
theorem toPs_map : ∀ l : List Dt, toPs l = l.map toP
  | [] => rfl
  | d :: r => by
    show toP d :: toPs r = toP d :: r.map toP
    rw [toPs_map r]
theorem plainDs_all : ∀ {l : List Dt}, (∀ d ∈ l, plainD d = true) → plainDs l = true
  | [], _ => rfl
  | d :: r, h => by
    unfold plainDs
    rw [h d List.mem_cons_self, plainDs_all fun x m => h x (List.mem_cons_of_mem _ m)]
    rfl
mutual
theorem dp_of {K : PySem.W.Frag} {H : Hp} : ∀ {v : V} {d : Dt}, Is H v d → plainD d = true → Dp K H v (toP d)
  | _, _, .non, _ => .non
  | _, _, .bl b, _ => .bl b
  | _, _, .int i, _ => .int i
  | _, _, .str s h, _ => .str s
  | _, _, .lst h r z, p => .lst (SqL.of h) (dp_ofs r p)
  | _, _, .tup h r z, p => .tup (SqT.of h) (dp_ofs r p)
  | _, _, .dic h, p => by cases p
theorem dp_ofs {K : PySem.W.Frag} {H : Hp} : ∀ {vs : List V} {ds : List Dt}, IsA H vs ds → plainDs ds = true → DpAll K H vs (toPs ds)
  | _, _, .nil, _ => .nil
  | _, _, .cons h r, p => .cons (dp_of h (Bool.and_eq_true_iff.mp p).1) (dp_ofs r (Bool.and_eq_true_iff.mp p).2)
end
/-- a last thing that is otherwise -/
theorem eqvAll_last {x y : PyData} (h : PyData.eqv x y = false) : ∀ l : List PyData, PyData.eqvAll (l ++ [x]) (l ++ [y]) = false
  | [] => by
    show (PyData.eqv x y && true) = false
    rw [h]
    rfl
  | d :: r => by
    show (PyData.eqv d d && PyData.eqvAll (r ++ [x]) (r ++ [y])) = false
    rw [eqvAll_last h r, Bool.and_false]
theorem eqvAll_more {x : PyData} : ∀ l : List PyData, PyData.eqvAll (l ++ [x]) l = false
  | [] => rfl
  | d :: r => by
    show (PyData.eqv d d && PyData.eqvAll (r ++ [x]) r) = false
    rw [eqvAll_more r, Bool.and_false]
/-- data that may be compared, n deep -/
structure Lay (n : Nat) (d : Dt) : Prop where
  pl : plainD d = true
  cl : PyData.canLay0 (toP d) = true
  dp : PyData.depth (toP d) ≤ n
theorem lays {n : Nat} : ∀ {l : List Dt}, (∀ d ∈ l, Lay n d) → plainDs l = true ∧ PyData.canLayAll0 (toPs l) = true ∧ PyData.depthAll (toPs l) ≤ n
  | [], _ => ⟨rfl, rfl, Nat.zero_le _⟩
  | d :: r, h => by
    have h1 := h d List.mem_cons_self
    obtain ⟨a, b, c⟩ := lays fun x m => h x (List.mem_cons_of_mem _ m)
    refine ⟨?_, ?_, ?_⟩
    · show (plainD d && plainDs r) = true
      rw [h1.pl, a]
      rfl
    · show (PyData.canLay0 (toP d) && PyData.canLayAll0 (toPs r)) = true
      rw [h1.cl, b]
      rfl
    · show max (PyData.depth (toP d)) (PyData.depthAll (toPs r)) ≤ n
      have := h1.dp
      omega
theorem Lay.tup {n : Nat} {l : List Dt} (h : ∀ d ∈ l, Lay n d) : Lay (n + 1) (.tup l) := by
  obtain ⟨a, b, c⟩ := lays h
  exact ⟨a, b, Nat.succ_le_succ c⟩
theorem Lay.lst {n : Nat} {l : List Dt} (h : ∀ d ∈ l, Lay n d) : Lay (n + 1) (.lst l) := by
  obtain ⟨a, b, c⟩ := lays h
  exact ⟨a, b, Nat.succ_le_succ c⟩
theorem Lay.int {n : Nat} {i : Int} : Lay n (.int i) := ⟨rfl, rfl, Nat.zero_le _⟩
theorem Lay.str {n : Nat} {s : Str} (h : PyData.canLay0 (.str s) = true) : Lay n (.str s) := ⟨rfl, h, Nat.zero_le _⟩
theorem lay_shaped {n : Nat} {l : List Dt} (h : ∀ d ∈ l, Lay n d) (hn : n + 1 ≤ 64) : plainDs l = true ∧ SeqAt.shaped (.list (toPs l)) = true := by
  obtain ⟨a, b, c⟩ := lays h
  refine ⟨a, ?_⟩
  show (PyData.canLayAll0 (toPs l) && decide (PyData.depthAll (toPs l) + 1 ≤ 64)) = true
  rw [b, decide_eq_true (by omega)]
  rfl
end Sr

set_option Elab.async false
set_option linter.all false
set_option maxRecDepth 100000
set_option maxHeartbeats 4000000
namespace Sr
open PySem PySem.Spec PyProof.Rows L2
/-! ### x in a tuple, by what they stand for; two rules for one operation -/
def rInDT (K : PySem.W.Frag) : R2 := fun x y H Q => ∃ d ds, Dp K H x d ∧ Dp K H y (.tuple ds) ∧ SeqAt.shaped d = true ∧ PyData.canLayAll0 ds = true ∧ Q (.bl (ds.any fun z => PyData.eqv z d)) H
theorem op_inDT {X : Cx} (hu : X.A.units + 65 < cLine) : OpR X (compareOp .In) (rInDT X.K) := by
  intro pins s σ H x y v u Q I rx ry h
  obtain ⟨d, ds, hd, he, sd, se, q⟩ := h
  obtain ⟨as, r1⟩ := Dp.reads I d x v hd rx
  obtain ⟨bs, r2⟩ := Dp.reads I (.tuple ds) y u he ry
  exact SeqAt.in_tuple_reads r2 r1 se (SeqAt.canLay_of_shaped sd) (room_in_shaped sd hu) ⟨.bl _, H, I, rfl, q⟩
theorem op_or {X : Cx} {op : Value → Value → Sem Value} {r r' : R2} (h : OpR X op r) (h' : OpR X op r') : OpR X op (fun x y H Q => r x y H Q ∨ r' x y H Q) := by
  intro pins s σ H x y v u Q I rx ry z
  rcases z with z | z
  · exact h pins s σ H x y v u Q I rx ry z
  · exact h' pins s σ H x y v u Q I rx ry z
theorem u65 {k : Nat} {A : Around} (r : Room k A) : A.units + 65 < cLine := by have := r.un; omega
end Sr

set_option Elab.async false
set_option linter.all false
set_option maxRecDepth 100000
set_option maxHeartbeats 4000000
namespace K07
open PySem PySem.Spec PyProof.Rows L2 Sr
def top (i : Nat) : Stmt := PySem.Challenge.pw_seatroads_k07_truths_told.main.body.getD i (.Pass ⟨0, 0, 0, 0⟩)
def signs : Str := "abcdefghijklmnopqrstuvwxyz0123456789"
/-- what the top leaves besides defs -/
structure Txt (K : PySem.W.Frag) (mg : Str → Option Value) : Prop where
  len : mg "len" = none
  isinstance : mg "isinstance" = none
  all : mg "all" = none
  range : mg "range" = none
  sorted : mg "sorted" = none
  list : mg "list" = none
  tuple : mg "tuple" = none
  min : mg "min" = none
  int : mg "int" = none
  str : mg "str" = none
  bool : mg "bool" = none
  dict : mg "dict" = none
  zip : mg "zip" = none
  enumerate : mg "enumerate" = none
  gSigns : ∃ t, mg "SIGNS" = some (.str signs t)
  gGreatest : ∃ t, mg "GREATEST" = some (.int 1000000 t)
  gLongest : ∃ t, mg "LONGEST" = some (.int 8 t)
  max : mg "max" = none
  sum : mg "sum" = none
  set : mg "set" = none
  any : mg "any" = none
  abs : mg "abs" = none
theorem Txt.e_SIGNS {X : Cx} {p : Pos} (T : Txt X.K X.mg) (h : Gl X "SIGNS" := by rfl) : PE X (.Name "SIGNS" p) (tC (.str signs)) := by
  obtain ⟨t, e⟩ := T.gSigns
  exact pe_glob h e ⟨t, rfl⟩
theorem Txt.e_LONGEST {X : Cx} {p : Pos} (T : Txt X.K X.mg) (h : Gl X "LONGEST" := by rfl) : PE X (.Name "LONGEST" p) (tC (.int 8)) := by
  obtain ⟨t, e⟩ := T.gLongest
  exact pe_glob h e ⟨t, rfl⟩
theorem Txt.e_GREATEST {X : Cx} {p : Pos} (T : Txt X.K X.mg) (h : Gl X "GREATEST" := by rfl) : PE X (.Name "GREATEST" p) (tC (.int 1000000)) := by
  obtain ⟨t, e⟩ := T.gGreatest
  exact pe_glob h e ⟨t, rfl⟩
/-! ### what the defs tell -/
def nameOk : Dt → Bool
  | .str s => (decide (1 ≤ s.length) && decide (s.length ≤ 8)) && s.cps.toList.all fun c => decide (c ∈ signs.cps.toList)
  | _ => false
def kindOk (ks : List Str) : Dt → Bool
  | .str s => decide (s ∈ ks)
  | _ => false
/-- of one datum: told a Bool, what stood stays -/
def spB (f : Dt → Bool) : Sp := fun vs H Q _ => ∃ v d, vs = [v] ∧ Is H v d ∧ ∀ H', Same H H' → Q (.bl (f d)) H'
theorem spB_len {f : Dt → Bool} (vs : List V) (H : Hp) (Q : VK) (E : XK) (h : spB f vs H Q E) : vs.length = 1 := by
  obtain ⟨v, d, rfl, _⟩ := h
  rfl
abbrev one {α : Type} {l : List α} (h : l.length = 1) : ∃ x, l = [x] := List.length_eq_one_iff.mp h
section
variable {P : Program} {w : World} {K : PySem.W.Frag} {mg : Str → Option Value} {base : Heap}
abbrev s_is_list : Stmt := top 5
theorem sc_is_list : FnScope ["thing"] ["thing"] (defScope s_is_list) := ⟨rfl, rfl, rfl, by decide +kernel, rfl, by decide +kernel, by decide +kernel⟩
theorem c_is_list (T : Txt K mg) (D : Dfn K mg "is_list" s_is_list) : Cal P w K mg base 1 "is_list" ["thing"] (spB isSeq) := by
  refine D.cal sc_is_list (fun _ _ _ _ _ _ us hl => match us, hl with | [_], _ => rfl) spB_len fun cdv A outer s H vs Q E hr h => ?_
  obtain ⟨v, d, rfl, hv, q⟩ := h
  refine ⟨_, (pss_one (ps_ret (pe_callB (id := "isinstance") call_isiT (by rfl) T.isinstance (by decide +kernel) (pa_cons (pv 0) (pa_cons (pe_tup (pa_cons (pe_tyv (n := "list") (by rfl) T.list (by decide +kernel)) (pa_cons (pe_tyv (n := "tuple") (by rfl) T.tuple (by decide +kernel)) pa_nil))) pa_nil))))), ?_⟩
  refine ⟨_, rfl, two_line, fun p hp => ⟨v, p, [.ty "list", .ty "tuple"], .type (tyN d), [.type "list", .type "tuple"], _, rfl, upd_same, cls_two _ _, (hv.mono (Same.up hp)).ty, kit_seq K d, q _ (Same.up hp)⟩⟩
abbrev s_is_integer : Stmt := top 4
theorem sc_is_integer : FnScope ["thing"] ["thing"] (defScope s_is_integer) := ⟨rfl, rfl, rfl, by decide +kernel, rfl, by decide +kernel, by decide +kernel⟩
def isInteger (d : Dt) : Bool := isInt d && !isBl d
theorem c_is_integer (T : Txt K mg) (D : Dfn K mg "is_integer" s_is_integer) : Cal P w K mg base 1 "is_integer" ["thing"] (spB isInteger) := by
  refine D.cal sc_is_integer (fun _ _ _ _ _ _ us hl => match us, hl with | [_], _ => rfl) spB_len fun cdv A outer s H vs Q E hr h => ?_
  obtain ⟨v, d, rfl, hv, q⟩ := h
  refine ⟨_, (pss_one (ps_ret (pe_and (pe_callB (id := "isinstance") call_isi (by rfl) T.isinstance (by decide +kernel) (pa_cons (pv 0) (pa_cons (pe_tyv (n := "int") (by rfl) T.int (by decide +kernel)) pa_nil))) (pe_one (pe_not (pe_callB (id := "isinstance") call_isi (by rfl) T.isinstance (by decide +kernel) (pa_cons (pv 0) (pa_cons (pe_tyv (n := "bool") (by rfl) T.bool (by decide +kernel)) pa_nil)))))))), ?_⟩
  refine ⟨_, rfl, v, _, _, _, _, rfl, .ty _, hv.ty, kit_int K d, _, rfl, ?_⟩
  have e : isInteger d = if isInt d = true then !isBl d else false := by
    unfold isInteger
    cases isInt d <;> rfl
  cases c : isInt d with
  | true =>
    rw [c, if_pos rfl] at e
    exact iteT ⟨_, rfl, v, _, _, _, _, rfl, .ty _, hv.ty, kit_bool K d, _, rfl, by rw [← e]; exact q _ (Same.refl H)⟩
  | false =>
    rw [c] at e
    exact iteF (by rw [show (false : Bool) = isInteger d from e.symm]; exact q _ (Same.refl H))
abbrev s_is_name : Stmt := top 6
theorem sc_is_name : FnScope ["thing", "sign"] ["thing"] (defScope s_is_name) := ⟨rfl, rfl, rfl, by decide +kernel, rfl, by decide +kernel, by decide +kernel⟩
theorem c_is_name (T : Txt K mg) (D : Dfn K mg "is_name" s_is_name) : Cal P w K mg base 1 "is_name" ["thing"] (spB nameOk) := by
  refine D.cal sc_is_name (fun _ _ _ _ _ _ us hl => match us, hl with | [_], _ => rfl) spB_len fun cdv A outer s H vs Q E hr h => ?_
  obtain ⟨v, d, rfl, hv, q⟩ := h
  refine ⟨_, (pss_cons (ps_if (PW.pt (pw_or (pt_not (pt_val (pe_callB (id := "isinstance") call_isi (by rfl) T.isinstance (by decide +kernel) (pa_cons (pv 0) (pa_cons (pe_tyv (n := "str") (by rfl) T.str (by decide +kernel)) pa_nil))))) (pw_or1 (pt_not (pt_chain op_le op_le pe_int (pe_callB (id := "len") call_len_str (by rfl) T.len (by decide +kernel) (pa_cons (pv 0) pa_nil)) (T.e_LONGEST (by rfl))))))) (pss_one (ps_ret pe_bl)) pss_nil)
      (pss_one (ps_ret (pe_callB (id := "all") (cr_all rfl) (by rfl) T.all (by decide +kernel) (pa_cons (pe_lc (own := [("sign", 1)]) (g := gName 1) (tt := tYes) rfl sc_is_name.nd (pi_str (pv 0)) (blkOk_by (N := ["thing", "sign"]) (sc := defScope s_is_name) (by decide +kernel)) (fun _ _ _ _ _ => (pg_name (i := 1) sc_is_name.nd rfl (by first | exact Or.inl rfl | exact Or.inr rfl))) (fun _ _ _ _ _ => pts_nil) (fun _ _ _ _ _ => (pe_cmpR op_in_sign (pv 1) (T.e_SIGNS (by rfl)) (by rfl)))) pa_nil))))), ?_⟩
  refine ⟨_, rfl, v, _, _, _, _, rfl, .ty _, hv.ty, kit_str K d, _, rfl, ?_⟩
  cases hv with
  | str z hz =>
    refine iteF ?_
    refine ⟨_, rfl, z, rfl, Nat.le_of_lt (sz hz), _, _, rfl, rfl, _, rfl, ?_⟩
    have hS : z.cps.toList.length = z.cps.size := Array.length_toList
    have key : ∀ b : Bool, nameOk (.str z) = b → ∀ H', Same H H' → Q (.bl b) H' := fun b e => e ▸ q
    by_cases h1 : (1 : Int) ≤ (z.length : Int)
    · rw [decide_eq_true h1]
      refine iteT ⟨_, _, rfl, rfl, _, rfl, ?_⟩
      by_cases h2 : (z.length : Int) ≤ 8
      · rw [decide_eq_true h2]
        refine iteF ?_
        refine ⟨_, rfl, z, rfl, fun D hD => lc_pure walk_str (At := fun i x => ∃ c, z.cps[i]? = some c ∧ x = .str ⟨#[c]⟩) (fun _ _ _ _ y => y) ((z.cps.toList.map fun c => decide (c ∈ signs.cps.toList)).map V.bl)
          (by rw [List.length_map, List.length_map, hS]) (sz (m := 1000) hz) hD (fun _ _ => trivial) (fun i x y H1 Q hi hx hy s1 k => ?_) (fun H' s' h' => all_of h' ?_)⟩
        · obtain ⟨c, hc, rfl⟩ := hx
          refine ⟨_, rfl, c, signs, rfl, rfl, ?_⟩
          rw [List.getElem?_map, List.getElem?_map, Array.getElem?_toList, hc] at hy
          obtain rfl : V.bl (decide (c ∈ signs.cps.toList)) = y := Option.some.inj hy
          exact k _ (Same.refl _)
        · refine key _ ?_ H' s'
          show ((decide (1 ≤ z.length) && decide (z.length ≤ 8)) && _) = _
          rw [decide_eq_true (by omega), decide_eq_true (by omega), List.all_map]
          rfl
      · rw [decide_eq_false h2]
        refine iteT (key _ ?_ _ (Same.refl H))
        show ((decide (1 ≤ z.length) && decide (z.length ≤ 8)) && _) = _
        rw [decide_eq_false (show ¬ z.length ≤ 8 by omega), Bool.and_false, Bool.false_and]
    · rw [decide_eq_false h1]
      refine iteF ⟨_, rfl, iteT (key _ ?_ _ (Same.refl H))⟩
      show ((decide (1 ≤ z.length) && decide (z.length ≤ 8)) && _) = _
      rw [decide_eq_false (show ¬ 1 ≤ z.length by omega), Bool.false_and, Bool.false_and]
  | _ => exact iteT (q _ (Same.refl H))
abbrev s_is_points : Stmt := top 8
theorem sc_is_points : FnScope ["thing"] ["thing"] (defScope s_is_points) := ⟨rfl, rfl, rfl, by decide +kernel, rfl, by decide +kernel, by decide +kernel⟩
def pointsOk : Dt → Bool
  | .int i => decide (0 ≤ i) && decide (i ≤ 1000000)
  | _ => false
theorem c_is_points (T : Txt K mg) (D : Dfn K mg "is_points" s_is_points) (C_is_integer : Cal P w K mg base 1 "is_integer" ["thing"] (spB isInteger)) : Cal P w K mg base 2 "is_points" ["thing"] (spB pointsOk) := by
  refine D.cal sc_is_points (fun _ _ _ _ _ _ us hl => match us, hl with | [_], _ => rfl) spB_len fun cdv A outer s H vs Q E hr h => ?_
  obtain ⟨v, d, rfl, hv, q⟩ := h
  refine ⟨_, (pss_one (ps_ret (pe_and (pe_cal C_is_integer hr (by first | decide | omega) (by rfl) (pa_cons (pv 0) pa_nil)) (pe_one (pe_chain op_le op_le pe_int (pv 0) (T.e_GREATEST (by rfl))))))), ?_⟩
  refine ⟨_, rfl, v, d, rfl, hv, fun H1 s1 => ⟨_, rfl, ?_⟩⟩
  have q1 : ∀ b, pointsOk d = b → ∀ H', Same H1 H' → Q (.bl b) H' := fun b e H' s' => e ▸ q H' (s1.trans s')
  cases hv with
  | int i =>
    refine iteT ⟨_, rfl, _, _, rfl, rfl, _, rfl, ?_⟩
    by_cases h1 : (0 : Int) ≤ i
    · rw [decide_eq_true h1]
      refine iteT ⟨_, _, rfl, rfl, q1 _ ?_ _ (Same.refl _)⟩
      show (decide (0 ≤ i) && _) = _
      rw [decide_eq_true h1, Bool.true_and]
    · rw [decide_eq_false h1]
      refine iteF (q1 _ ?_ _ (Same.refl _))
      show (decide (0 ≤ i) && _) = _
      rw [decide_eq_false h1, Bool.false_and]
  | _ => exact iteF (q1 _ rfl _ (Same.refl _))
/-! ### the office -/
/-- x is an office whose kinds are ks -/
def OffAt (K : PySem.W.Frag) (H : Hp) (x : Addr) (ks : List Str) : Prop := ∃ dx d kvs, H x = some (.ins (He.ga K "Office") dx [("_ranks", .ref d)]) ∧ H d = some (.dK kvs) ∧ ∀ s : Str, (valV kvs (Sum.inr s)).isSome = decide (s ∈ ks)
theorem OffAt.mono {K : PySem.W.Frag} {H H' : Hp} {x : Addr} {ks : List Str} (e : Same H H') (o : OffAt K H x ks) : OffAt K H' x ks := by
  obtain ⟨dx, d, kvs, h1, h2, h3⟩ := o
  exact ⟨dx, d, kvs, e _ _ h1, e _ _ h2, h3⟩
structure Off (K : PySem.W.Frag) (mg : Str → Option Value) : Prop where
  cl : Cls K (He.ga K "Office")
  nR : NoAttr K (He.ga K "Office") "_ranks"
  has : Has K (He.ga K "Office") (He.fAd K ("Office", some "__contains__"))
def spHas (K : PySem.W.Frag) : Sp := fun vs H Q _ => ∃ x v ks d, vs = [.ref x, v] ∧ OffAt K H x ks ∧ Is H v d ∧ ∀ H', Same H H' → Q (.bl (kindOk ks d)) H'
theorem spHas_mono (x y : V) (H : Hp) (Q Q' : VK) (E : XK) (h : ∀ v H', Q v H' → Q' v H') (p : spHas K [x, y] H Q E) : spHas K [x, y] H Q' E := by
  obtain ⟨a, v, ks, d, e, o, hv, q⟩ := p
  exact ⟨a, v, ks, d, e, o, hv, fun H' s' => h _ _ (q H' s')⟩
abbrev s_Office___contains__ : Stmt := inClass (top 31) 5
theorem sc_Office___contains__ : FnScope ["self", "thing"] ["self", "thing"] (defScope s_Office___contains__) := ⟨rfl, rfl, rfl, by decide +kernel, rfl, by decide +kernel, by decide +kernel⟩
theorem m_contains (T : Txt K mg) (O : Off K mg) (D : DfnM K "Office" "__contains__" "Office.__contains__" s_Office___contains__) : CalM P w K mg base CX0 1 (He.fAd K ("Office", some "__contains__")) ["self", "thing"] (spHas K) := by
  refine D.cal sc_Office___contains__ (fun _ _ _ _ _ _ us hl => match us, hl with | [_, _], _ => rfl) (fun vs H Q E h => ?_) fun cdv A outer s H vs Q E hr h => ?_
  · obtain ⟨x, v, ks, d, rfl, _⟩ := h
    rfl
  obtain ⟨x, v, ks, d, rfl, o, hv, q⟩ := h
  refine ⟨_, (pss_one (ps_ret (pe_and (pe_callB (id := "isinstance") call_isi (by rfl) T.isinstance (by decide +kernel) (pa_cons (pv 1) (pa_cons (pe_tyv (n := "str") (by rfl) T.str (by decide +kernel)) pa_nil))) (pe_one (pe_cmp (pc_din (hu_of hr) (pv 1) (pe_fld (pv 0) rfl)) rfl))))), ?_⟩
  refine ⟨_, rfl, v, _, _, _, _, rfl, .ty _, hv.ty, kit_str K d, _, rfl, ?_⟩
  cases hv with
  | str z hz =>
    obtain ⟨dx, d, kvs, h1, h2, h3⟩ := o
    refine iteT ⟨_, rfl, _, rfl, x, _, dx, _, _, rfl, h1, O.cl, O.nR, rfl, d, _, rfl, DGet.k (k := Sum.inr z) h2, ?_⟩
    rw [h3 z]
    exact q H (Same.refl H)
  | _ => exact iteF (q H (Same.refl H))
end
end K07

set_option Elab.async false
set_option linter.all false
set_option maxRecDepth 100000
set_option maxHeartbeats 4000000
namespace K07
open PySem PySem.Spec PyProof.Rows L2 Sr
def wl (ks : List Str) (ds : List Dt) : Bool := ds.all (kindOk ks) && decide ((met (strsOf ds) (strsOf ds).length).length = (strsOf ds).length)
def wishesOk (ks : List Str) : Dt → Bool
  | .lst ds => wl ks ds
  | .tup ds => wl ks ds
  | _ => false
def homeOk (ks : List Str) : Dt → Bool
  | .non => true
  | d => kindOk ks d
theorem kind_str {ks : List Str} {ds : List Dt} (h : ds.all (kindOk ks) = true) : ds.all isStr = true := by
  rw [List.all_eq_true] at h ⊢
  intro d hd
  have := h d hd
  cases d <;> first | rfl | simp [kindOk] at this
/-- of an office and a datum -/
def spO (K : PySem.W.Frag) (f : List Str → Dt → Bool) : Sp := fun vs H Q _ => ∃ x v ks d, vs = [.ref x, v] ∧ OffAt K H x ks ∧ Is H v d ∧ ∀ H', Same H H' → Q (.bl (f ks d)) H'
theorem spO_len {K : PySem.W.Frag} {f : List Str → Dt → Bool} (vs : List V) (H : Hp) (Q : VK) (E : XK) (h : spO K f vs H Q E) : vs.length = 2 := by
  obtain ⟨x, v, ks, d, rfl, _⟩ := h
  rfl
section
variable {P : Program} {w : World} {K : PySem.W.Frag} {mg : Str → Option Value} {base : Heap}
abbrev s_is_wishes : Stmt := top 12
theorem sc_is_wishes : FnScope ["office", "thing", "kind"] ["office", "thing"] (defScope s_is_wishes) := ⟨rfl, rfl, rfl, by decide +kernel, rfl, by decide +kernel, by decide +kernel⟩
theorem c_is_wishes (T : Txt K mg) (O : Off K mg) (M : CalM P w K mg base CX0 1 (He.fAd K ("Office", some "__contains__")) ["self", "thing"] (spHas K)) (D : Dfn K mg "is_wishes" s_is_wishes) (C_is_list : Cal P w K mg base 1 "is_list" ["thing"] (spB isSeq)) :
    Cal P w K mg base 2 "is_wishes" ["office", "thing"] (spO K wishesOk) := by
  refine D.cal sc_is_wishes (fun _ _ _ _ _ _ us hl => match us, hl with | [_, _], _ => rfl) spO_len fun cdv A outer s H vs Q E hr h => ?_
  obtain ⟨x, v, ks, d, rfl, o, hv, q⟩ := h
  have turn : ∀ (xs : List V) (ds : List Dt) (H1 : Hp), Same H H1 → IsA H xs ds → ∀ (i : Nat) (u y : V) (H2 : Hp) (R : VK), xs[i]? = some u → ((ds.map (kindOk ks)).map V.bl)[i]? = some y → Same H1 H2 → (∀ H3, Same H2 H3 → R y H3) →
      (rInOwn (He.ga K "Office") (spHas K) E0 false) u (.ref x) H2 R := fun xs ds H1 s1 hA i u y H2 R hu hy s2 k => by
    obtain ⟨d, hd, hI⟩ := hA.get hu
    rw [List.getElem?_map, List.getElem?_map, hd] at hy
    obtain rfl : V.bl (kindOk ks d) = y := Option.some.inj hy
    obtain ⟨dx, dd, kvs, h1, _⟩ := id o
    exact ⟨x, dx, _, rfl, s2 _ _ (s1 _ _ h1), x, u, ks, d, rfl, o.mono (s1.trans s2), hI.mono (s1.trans s2), fun H3 s3 => ⟨_, rfl, k _ s3⟩⟩
  have fin : ∀ (xs : List V) (ds : List Dt) (H1 : Hp), Same H H1 → IsA H xs ds → xs.length ≤ 60 → wishesOk ks d = wl ks ds → ds.all (kindOk ks) = true → ∀ (H2 : Hp), Same H1 H2 →
      xs = (strsOf ds).map V.str ∧ ∀ H', Same H1 H' → Q (.bl (decide (V.int ((met (strsOf ds) (strsOf ds).length).length : Nat) = V.int (xs.length : Nat)))) H' := fun xs ds H1 s1 hA hz e1 e2 H2 s2 => by
    have ex := hA.strs (kind_str e2)
    refine ⟨ex, fun H' s' => ?_⟩
    have e : decide (V.int ((met (strsOf ds) (strsOf ds).length).length : Nat) = V.int (xs.length : Nat)) = wishesOk ks d := by
      rw [e1]
      unfold wl
      rw [e2, Bool.true_and]
      have el : xs.length = (strsOf ds).length := by
        have := congrArg List.length ex
        rwa [List.length_map] at this
      rw [el]
      by_cases c : (met (strsOf ds) (strsOf ds).length).length = (strsOf ds).length
      · rw [decide_eq_true c, decide_eq_true (by rw [c])]
      · rw [decide_eq_false c, decide_eq_false fun z => c (by injection z with z; exact Int.ofNat.inj z)]
    rw [e]
    exact q H' (s1.trans s')
  cases hv with
  | lst h r z =>
    rename_i a xs ds
    refine ⟨_, (pss_cons (ps_if (PW.pt (pw_or (pt_not (pt_val (pe_cal C_is_list hr (by first | decide | omega) (by rfl) (pa_cons (pv 1) pa_nil)))) (pw_or1 (pt_not (pt_val (pe_callB (id := "all") (cr_all rfl) (by rfl) T.all (by decide +kernel) (pa_cons (pe_lc (own := [("kind", 2)]) (g := gName 2) (tt := tYes) rfl sc_is_wishes.nd (pi_list (pv 1)) (blkOk_by (N := ["office", "thing", "kind"]) (sc := defScope s_is_wishes) (by decide +kernel)) (fun _ _ _ _ _ => (pg_name (i := 2) sc_is_wishes.nd rfl (by first | exact Or.inl rfl | exact Or.inr rfl))) (fun _ _ _ _ _ => pts_nil) (fun _ _ _ _ _ => (pe_cmpR (op_has M hr (by decide) O.has spHas_mono) (pv 2) (pv 0) (by rfl)))) pa_nil))))))) (pss_one (ps_ret pe_bl)) pss_nil)
      (pss_one (ps_ret (pe_cmpR op_eq (pe_lenSetT rfl (by rfl) T.len (by rfl) T.set (pv 1)) (pe_callB (id := "len") call_len_seq (by rfl) T.len (by decide +kernel) (pa_cons (pv 1) pa_nil)) (nomark _))))), ?_⟩
    refine ⟨_, rfl, _, _, rfl, .lst h r z, fun H1 s1 => ⟨_, rfl, iteF ⟨_, rfl, a, rfl, ⟨_, SqL.of (s1 _ _ h)⟩, fun D hD => lc_pure walk_list walk_at ((ds.map (kindOk ks)).map V.bl) (by rw [List.length_map, List.length_map, r.len]) (sz z) hD (fun H2 s2 => SqL.of (s2 _ _ (s1 _ _ h)))
      (fun i u y H2 R hi hu hy s2 k => ⟨_, rfl, _, rfl, turn xs ds H1 s1 r i u y H2 R hu hy s2 k⟩) (fun H2 s2 h2 => ⟨D, ds.map (kindOk ks), rfl, SqL.of h2, ?_⟩)⟩⟩⟩
    refine ⟨_, rfl, ?_⟩
    rw [List.all_map]
    cases c : ds.all (kindOk ks) with
    | true =>
      obtain ⟨ex, q2⟩ := fin xs ds H1 s1 r z rfl c H2 s2
      rw [show ds.all (id ∘ kindOk ks) = true from c]
      refine iteF ⟨_, rfl, a, strsOf ds, rfl, .inl (by rw [← ex]; exact SqL.of (s2 _ _ (s1 _ _ h))), by have := congrArg List.length ex; rw [List.length_map] at this; omega, _, rfl, a, xs, rfl, .inl (SqL.of (s2 _ _ (s1 _ _ h))), rfl, q2 _ s2⟩
    | false =>
      rw [show ds.all (id ∘ kindOk ks) = false from c]
      have e : wishesOk ks (.lst ds) = false := by show wl ks ds = false; unfold wl; rw [c]; rfl
      refine iteT ?_
      have := q H2 (s1.trans s2)
      rw [e] at this
      exact this
  | tup h r z =>
    rename_i a xs ds
    refine ⟨_, (pss_cons (ps_if (PW.pt (pw_or (pt_not (pt_val (pe_cal C_is_list hr (by first | decide | omega) (by rfl) (pa_cons (pv 1) pa_nil)))) (pw_or1 (pt_not (pt_val (pe_callB (id := "all") (cr_all rfl) (by rfl) T.all (by decide +kernel) (pa_cons (pe_lc (own := [("kind", 2)]) (g := gName 2) (tt := tYes) rfl sc_is_wishes.nd (pi_tup (pv 1)) (blkOk_by (N := ["office", "thing", "kind"]) (sc := defScope s_is_wishes) (by decide +kernel)) (fun _ _ _ _ _ => (pg_name (i := 2) sc_is_wishes.nd rfl (by first | exact Or.inl rfl | exact Or.inr rfl))) (fun _ _ _ _ _ => pts_nil) (fun _ _ _ _ _ => (pe_cmpR (op_has M hr (by decide) O.has spHas_mono) (pv 2) (pv 0) (by rfl)))) pa_nil))))))) (pss_one (ps_ret pe_bl)) pss_nil)
      (pss_one (ps_ret (pe_cmpR op_eq (pe_lenSetT rfl (by rfl) T.len (by rfl) T.set (pv 1)) (pe_callB (id := "len") call_len_seq (by rfl) T.len (by decide +kernel) (pa_cons (pv 1) pa_nil)) (nomark _))))), ?_⟩
    refine ⟨_, rfl, _, _, rfl, .tup h r z, fun H1 s1 => ⟨_, rfl, iteF ⟨_, rfl, a, rfl, ⟨_, SqT.of (s1 _ _ h)⟩, fun D hD => lc_pure walk_tup walk_at ((ds.map (kindOk ks)).map V.bl) (by rw [List.length_map, List.length_map, r.len]) (sz z) hD (fun H2 s2 => SqT.of (s2 _ _ (s1 _ _ h)))
      (fun i u y H2 R hi hu hy s2 k => ⟨_, rfl, _, rfl, turn xs ds H1 s1 r i u y H2 R hu hy s2 k⟩) (fun H2 s2 h2 => ⟨D, ds.map (kindOk ks), rfl, SqL.of h2, ?_⟩)⟩⟩⟩
    refine ⟨_, rfl, ?_⟩
    rw [List.all_map]
    cases c : ds.all (kindOk ks) with
    | true =>
      obtain ⟨ex, q2⟩ := fin xs ds H1 s1 r z rfl c H2 s2
      rw [show ds.all (id ∘ kindOk ks) = true from c]
      refine iteF ⟨_, rfl, a, strsOf ds, rfl, .inr (by rw [← ex]; exact SqT.of (s2 _ _ (s1 _ _ h))), by have := congrArg List.length ex; rw [List.length_map] at this; omega, _, rfl, a, xs, rfl, .inr (SqT.of (s2 _ _ (s1 _ _ h))), rfl, q2 _ s2⟩
    | false =>
      rw [show ds.all (id ∘ kindOk ks) = false from c]
      have e : wishesOk ks (.tup ds) = false := by show wl ks ds = false; unfold wl; rw [c]; rfl
      refine iteT ?_
      have := q H2 (s1.trans s2)
      rw [e] at this
      exact this
  | non => exact ⟨_, (pss_cons (ps_if (PW.pt (pw_or (pt_not (pt_val (pe_cal C_is_list hr (by first | decide | omega) (by rfl) (pa_cons (pv 1) pa_nil)))) (pw_or1 (pt_not (pt_val (pe_callB (id := "all") (cr_all rfl) (by rfl) T.all (by decide +kernel) (pa_cons (pe_lc (own := [("kind", 2)]) (g := gName 2) (tt := tYes) rfl sc_is_wishes.nd (pi_list (pv 1)) (blkOk_by (N := ["office", "thing", "kind"]) (sc := defScope s_is_wishes) (by decide +kernel)) (fun _ _ _ _ _ => (pg_name (i := 2) sc_is_wishes.nd rfl (by first | exact Or.inl rfl | exact Or.inr rfl))) (fun _ _ _ _ _ => pts_nil) (fun _ _ _ _ _ => (pe_cmpR (op_has M hr (by decide) O.has spHas_mono) (pv 2) (pv 0) (by rfl)))) pa_nil))))))) (pss_one (ps_ret pe_bl)) pss_nil)
      (pss_one (ps_ret (pe_cmpR op_eq (pe_lenSetT rfl (by rfl) T.len (by rfl) T.set (pv 1)) (pe_callB (id := "len") call_len (by rfl) T.len (by decide +kernel) (pa_cons (pv 1) pa_nil)) (nomark _))))), _, rfl, _, _, rfl, .non, fun H1 s1 => ⟨_, rfl, iteT (q _ s1)⟩⟩
  | bl b => exact ⟨_, (pss_cons (ps_if (PW.pt (pw_or (pt_not (pt_val (pe_cal C_is_list hr (by first | decide | omega) (by rfl) (pa_cons (pv 1) pa_nil)))) (pw_or1 (pt_not (pt_val (pe_callB (id := "all") (cr_all rfl) (by rfl) T.all (by decide +kernel) (pa_cons (pe_lc (own := [("kind", 2)]) (g := gName 2) (tt := tYes) rfl sc_is_wishes.nd (pi_list (pv 1)) (blkOk_by (N := ["office", "thing", "kind"]) (sc := defScope s_is_wishes) (by decide +kernel)) (fun _ _ _ _ _ => (pg_name (i := 2) sc_is_wishes.nd rfl (by first | exact Or.inl rfl | exact Or.inr rfl))) (fun _ _ _ _ _ => pts_nil) (fun _ _ _ _ _ => (pe_cmpR (op_has M hr (by decide) O.has spHas_mono) (pv 2) (pv 0) (by rfl)))) pa_nil))))))) (pss_one (ps_ret pe_bl)) pss_nil)
      (pss_one (ps_ret (pe_cmpR op_eq (pe_lenSetT rfl (by rfl) T.len (by rfl) T.set (pv 1)) (pe_callB (id := "len") call_len (by rfl) T.len (by decide +kernel) (pa_cons (pv 1) pa_nil)) (nomark _))))), _, rfl, _, _, rfl, .bl b, fun H1 s1 => ⟨_, rfl, iteT (q _ s1)⟩⟩
  | int b => exact ⟨_, (pss_cons (ps_if (PW.pt (pw_or (pt_not (pt_val (pe_cal C_is_list hr (by first | decide | omega) (by rfl) (pa_cons (pv 1) pa_nil)))) (pw_or1 (pt_not (pt_val (pe_callB (id := "all") (cr_all rfl) (by rfl) T.all (by decide +kernel) (pa_cons (pe_lc (own := [("kind", 2)]) (g := gName 2) (tt := tYes) rfl sc_is_wishes.nd (pi_list (pv 1)) (blkOk_by (N := ["office", "thing", "kind"]) (sc := defScope s_is_wishes) (by decide +kernel)) (fun _ _ _ _ _ => (pg_name (i := 2) sc_is_wishes.nd rfl (by first | exact Or.inl rfl | exact Or.inr rfl))) (fun _ _ _ _ _ => pts_nil) (fun _ _ _ _ _ => (pe_cmpR (op_has M hr (by decide) O.has spHas_mono) (pv 2) (pv 0) (by rfl)))) pa_nil))))))) (pss_one (ps_ret pe_bl)) pss_nil)
      (pss_one (ps_ret (pe_cmpR op_eq (pe_lenSetT rfl (by rfl) T.len (by rfl) T.set (pv 1)) (pe_callB (id := "len") call_len (by rfl) T.len (by decide +kernel) (pa_cons (pv 1) pa_nil)) (nomark _))))), _, rfl, _, _, rfl, .int b, fun H1 s1 => ⟨_, rfl, iteT (q _ s1)⟩⟩
  | str b z => exact ⟨_, (pss_cons (ps_if (PW.pt (pw_or (pt_not (pt_val (pe_cal C_is_list hr (by first | decide | omega) (by rfl) (pa_cons (pv 1) pa_nil)))) (pw_or1 (pt_not (pt_val (pe_callB (id := "all") (cr_all rfl) (by rfl) T.all (by decide +kernel) (pa_cons (pe_lc (own := [("kind", 2)]) (g := gName 2) (tt := tYes) rfl sc_is_wishes.nd (pi_list (pv 1)) (blkOk_by (N := ["office", "thing", "kind"]) (sc := defScope s_is_wishes) (by decide +kernel)) (fun _ _ _ _ _ => (pg_name (i := 2) sc_is_wishes.nd rfl (by first | exact Or.inl rfl | exact Or.inr rfl))) (fun _ _ _ _ _ => pts_nil) (fun _ _ _ _ _ => (pe_cmpR (op_has M hr (by decide) O.has spHas_mono) (pv 2) (pv 0) (by rfl)))) pa_nil))))))) (pss_one (ps_ret pe_bl)) pss_nil)
      (pss_one (ps_ret (pe_cmpR op_eq (pe_lenSetT rfl (by rfl) T.len (by rfl) T.set (pv 1)) (pe_callB (id := "len") call_len (by rfl) T.len (by decide +kernel) (pa_cons (pv 1) pa_nil)) (nomark _))))), _, rfl, _, _, rfl, .str b z, fun H1 s1 => ⟨_, rfl, iteT (q _ s1)⟩⟩
  | dic z => exact ⟨_, (pss_cons (ps_if (PW.pt (pw_or (pt_not (pt_val (pe_cal C_is_list hr (by first | decide | omega) (by rfl) (pa_cons (pv 1) pa_nil)))) (pw_or1 (pt_not (pt_val (pe_callB (id := "all") (cr_all rfl) (by rfl) T.all (by decide +kernel) (pa_cons (pe_lc (own := [("kind", 2)]) (g := gName 2) (tt := tYes) rfl sc_is_wishes.nd (pi_list (pv 1)) (blkOk_by (N := ["office", "thing", "kind"]) (sc := defScope s_is_wishes) (by decide +kernel)) (fun _ _ _ _ _ => (pg_name (i := 2) sc_is_wishes.nd rfl (by first | exact Or.inl rfl | exact Or.inr rfl))) (fun _ _ _ _ _ => pts_nil) (fun _ _ _ _ _ => (pe_cmpR (op_has M hr (by decide) O.has spHas_mono) (pv 2) (pv 0) (by rfl)))) pa_nil))))))) (pss_one (ps_ret pe_bl)) pss_nil)
      (pss_one (ps_ret (pe_cmpR op_eq (pe_lenSetT rfl (by rfl) T.len (by rfl) T.set (pv 1)) (pe_callB (id := "len") call_len (by rfl) T.len (by decide +kernel) (pa_cons (pv 1) pa_nil)) (nomark _))))), _, rfl, _, _, rfl, .dic z, fun H1 s1 => ⟨_, rfl, iteT (q _ s1)⟩⟩
end
end K07

set_option Elab.async false
set_option linter.all false
set_option maxRecDepth 100000
set_option maxHeartbeats 4000000
namespace K07
open PySem PySem.Spec PyProof.Rows L2 Sr
def comeOk (ks : List Str) : List Dt → Bool
  | [n, w, p, h] => nameOk n && (wishesOk ks w && (pointsOk p && homeOk ks h))
  | _ => false
def kindForm (ks : List Str) : List Dt → Bool
  | [k] => kindOk ks k
  | _ => false
def nameForm (_ : List Str) : List Dt → Bool
  | [n] => nameOk n
  | _ => false
def changeForm (ks : List Str) : List Dt → Bool
  | [n, w] => nameOk n && wishesOk ks w
  | _ => false
def alone (_ : List Str) (ds : List Dt) : Bool := ds.isEmpty
def formOk (s : Str) (ks : List Str) (ds : List Dt) : Bool :=
  if s = "come" then comeOk ks ds else if s = "place" then kindForm ks ds else if s = "leave" then nameForm ks ds else if s = "withdraw" then kindForm ks ds else
  if s = "change" then changeForm ks ds else if s = "gather" then alone ks ds else if s = "round" then alone ks ds else false
def evOk (ks : List Str) : Dt → Bool
  | .lst (.str s :: r) => formOk s ks r
  | .tup (.str s :: r) => formOk s ks r
  | _ => false
/-- of an office and a list of data -/
def spR (K : PySem.W.Frag) (f : List Str → List Dt → Bool) : Sp := fun vs H Q _ => ∃ x l ks xs ds, vs = [.ref x, .ref l] ∧ OffAt K H x ks ∧ H l = some (.lst xs) ∧ IsA H xs ds ∧ xs.length ≤ 60 ∧ ∀ H', Same H H' → Q (.bl (f ks ds)) H'
theorem spR_len {K : PySem.W.Frag} {f : List Str → List Dt → Bool} (vs : List V) (H : Hp) (Q : VK) (E : XK) (h : spR K f vs H Q E) : vs.length = 2 := by
  obtain ⟨x, l, ks, xs, ds, rfl, _⟩ := h
  rfl
theorem spR_imp {K : PySem.W.Frag} {f g : List Str → List Dt → Bool} (e : ∀ ks ds, g ks ds = f ks ds) {vs : List V} {H : Hp} {Q : VK} {E : XK} (h : spR K g vs H Q E) : spR K f vs H Q E := by
  have : g = f := funext fun ks => funext fun ds => e ks ds
  rw [← this]
  exact h
theorem lenN (n m : Nat) : decide (V.int (n : Nat) = V.int (m : Nat)) = decide (n = m) := by
  by_cases c : n = m
  · rw [decide_eq_true c, decide_eq_true (by rw [c])]
  · rw [decide_eq_false c, decide_eq_false fun z => c (by injection z with z; exact Int.ofNat.inj z)]
section
variable {P : Program} {w : World} {K : PySem.W.Frag} {mg : Str → Option Value} {base : Heap}
abbrev s_is_home : Stmt := top 13
theorem sc_is_home : FnScope ["office", "thing"] ["office", "thing"] (defScope s_is_home) := ⟨rfl, rfl, rfl, by decide +kernel, rfl, by decide +kernel, by decide +kernel⟩
theorem c_is_home (T : Txt K mg) (O : Off K mg) (M : CalM P w K mg base CX0 1 (He.fAd K ("Office", some "__contains__")) ["self", "thing"] (spHas K)) (D : Dfn K mg "is_home" s_is_home) : Cal P w K mg base 2 "is_home" ["office", "thing"] (spO K homeOk) := by
  refine D.cal sc_is_home (fun _ _ _ _ _ _ us hl => match us, hl with | [_, _], _ => rfl) spO_len fun cdv A outer s H vs Q E hr h => ?_
  obtain ⟨x, v, ks, d, rfl, o, hv, q⟩ := h
  refine ⟨_, (pss_one (ps_ret (pe_or (pe_cmpR op_isN (pv 1) pe_non (nomark _)) (pe_one (pe_cmpR (op_has M hr (by decide) O.has spHas_mono) (pv 1) (pv 0) (by rfl)))))), ?_⟩
  refine ⟨_, rfl, rfl, _, rfl, ?_⟩
  obtain ⟨dx, dd, kvs, h1, _⟩ := id o
  have go : homeOk ks d = kindOk ks d → v ≠ .non → (if decide (v = .non) = true then Q (.bl true) H else
      (tOp (rInOwn (He.ga K "Office") (spHas K) E0 false) (tVar 1) (tVar 0)) (start ["office", "thing"] [.ref x, v]) H Q) := fun e hn => by
    rw [decide_eq_false hn]
    exact iteF ⟨_, rfl, _, rfl, x, dx, _, rfl, h1, x, v, ks, d, rfl, o, hv, fun H' s' => ⟨_, rfl, by rw [e] at q; exact q H' s'⟩⟩
  cases hv with
  | non => exact iteT (q H (Same.refl H))
  | _ => exact go rfl (by simp)
abbrev s__is_come : Stmt := top 15
theorem sc__is_come : FnScope ["office", "rest", "name", "wishes", "points", "home"] ["office", "rest"] (defScope s__is_come) := ⟨rfl, rfl, rfl, by decide +kernel, rfl, by decide +kernel, by decide +kernel⟩
theorem c__is_come (T : Txt K mg) (D : Dfn K mg "_is_come" s__is_come) (C_is_name : Cal P w K mg base 1 "is_name" ["thing"] (spB nameOk)) (C_is_wishes : Cal P w K mg base 2 "is_wishes" ["office", "thing"] (spO K wishesOk))
    (C_is_points : Cal P w K mg base 2 "is_points" ["thing"] (spB pointsOk)) (C_is_home : Cal P w K mg base 2 "is_home" ["office", "thing"] (spO K homeOk)) : Cal P w K mg base 3 "_is_come" ["office", "rest"] (spR K comeOk) := by
  refine D.cal sc__is_come (fun _ _ _ _ _ _ us hl => match us, hl with | [_, _], _ => rfl) spR_len fun cdv A outer s H vs Q E hr h => ?_
  obtain ⟨x, l, ks, xs, ds, rfl, o, hl, r, z, q⟩ := h
  refine ⟨_, (pss_cons (ps_if (pt_cmpR op_ne (pe_callB (id := "len") call_len_seq (by rfl) T.len (by decide +kernel) (pa_cons (pv 1) pa_nil)) pe_int (nomark _)) (pss_one (ps_ret pe_bl)) pss_nil)
      (pss_cons (ps_asg (pv 1) (pg_lst rfl (pgs_cons (pg_name (i := 2) sc__is_come.nd rfl (by first | exact Or.inl rfl | exact Or.inr rfl)) (pgs_cons (pg_name (i := 3) sc__is_come.nd rfl (by first | exact Or.inl rfl | exact Or.inr rfl)) (pgs_cons (pg_name (i := 4) sc__is_come.nd rfl (by first | exact Or.inl rfl | exact Or.inr rfl)) (pgs_cons (pg_name (i := 5) sc__is_come.nd rfl (by first | exact Or.inl rfl | exact Or.inr rfl)) pgs_nil))))))
      (pss_one (ps_ret (pe_and (pe_cal C_is_name hr (by first | decide | omega) (by rfl) (pa_cons (pv 2) pa_nil)) (pe_and (pe_cal C_is_wishes hr (by first | decide | omega) (by rfl) (pa_cons (pv 0) (pa_cons (pv 3) pa_nil))) (pe_and (pe_cal C_is_points hr (by first | decide | omega) (by rfl) (pa_cons (pv 4) pa_nil)) (pe_one (pe_cal C_is_home hr (by first | decide | omega) (by rfl) (pa_cons (pv 0) (pa_cons (pv 5) pa_nil))))))))))), ?_⟩
  refine ⟨_, rfl, l, xs, rfl, .inl (SqL.of hl), rfl, _, rfl, ?_⟩
  rw [show decide (V.int (xs.length : Nat) = V.int 4) = decide (xs.length = 4) from lenN _ 4]
  by_cases c : xs.length = 4
  · rw [decide_eq_true c]
    refine iteF ?_
    match xs, ds, r, c with
    | [v1, v2, v3, v4], [d1, d2, d3, d4], .cons i1 (.cons i2 (.cons i3 (.cons i4 .nil))), _ =>
      refine ⟨_, rfl, l, _, rfl, SqL.of hl, rfl, _, _, rfl, _, _, rfl, _, _, rfl, _, _, rfl, rfl, ?_⟩
      refine ⟨_, rfl, v1, d1, rfl, i1, fun H1 s1 => ⟨_, rfl, ?_⟩⟩
      have e0 : comeOk ks [d1, d2, d3, d4] = (nameOk d1 && (wishesOk ks d2 && (pointsOk d3 && homeOk ks d4))) := rfl
      cases c1 : nameOk d1 with
      | false => exact iteF (by rw [e0, c1] at q; exact q _ s1)
      | true =>
        refine iteT ⟨_, rfl, _, rfl, x, v2, ks, d2, rfl, o.mono s1, i2.mono s1, fun H2 s2 => ⟨_, rfl, ?_⟩⟩
        cases c2 : wishesOk ks d2 with
        | false => exact iteF (by rw [e0, c1, c2] at q; exact q _ (s1.trans s2))
        | true =>
          refine iteT ⟨_, rfl, v3, d3, rfl, i3.mono (s1.trans s2), fun H3 s3 => ⟨_, rfl, ?_⟩⟩
          cases c3 : pointsOk d3 with
          | false => exact iteF (by rw [e0, c1, c2, c3] at q; exact q _ ((s1.trans s2).trans s3))
          | true =>
            refine iteT ⟨_, rfl, _, rfl, x, v4, ks, d4, rfl, o.mono ((s1.trans s2).trans s3), i4.mono ((s1.trans s2).trans s3), fun H4 s4 => ?_⟩
            rw [e0, c1, c2, c3] at q
            exact q _ (((s1.trans s2).trans s3).trans s4)
  · rw [decide_eq_false c]
    have e : comeOk ks ds = false := by
      have := r.len
      match ds, this with
      | [], _ => rfl
      | [_], _ => rfl
      | [_, _], _ => rfl
      | [_, _, _], _ => rfl
      | [_, _, _, _], h => exact absurd h c
      | _ :: _ :: _ :: _ :: _ :: _, _ => rfl
    exact iteT (by rw [e] at q; exact q H (Same.refl H))
end
end K07

set_option Elab.async false
set_option linter.all false
set_option maxRecDepth 100000
set_option maxHeartbeats 4000000
namespace K07
open PySem PySem.Spec PyProof.Rows L2 Sr
/-- the table of the forms -/
structure Frm (K : PySem.W.Frag) (w : World) (mg : Str → Option Value) : Prop where
  at_ : mg "FORMS" = some (.ref (He.ga K "FORMS"))
  dict : ∃ es n, KDict K w (He.ga K "FORMS") es n
  come : PySem.W.nsIn K (He.ga K "FORMS") "come" = some (some (.ref (He.ga K "_is_come")))
  place : PySem.W.nsIn K (He.ga K "FORMS") "place" = some (some (.ref (He.ga K "_is_of_kind")))
  leave : PySem.W.nsIn K (He.ga K "FORMS") "leave" = some (some (.ref (He.ga K "_is_of_person")))
  withdraw : PySem.W.nsIn K (He.ga K "FORMS") "withdraw" = some (some (.ref (He.ga K "_is_of_kind")))
  change : PySem.W.nsIn K (He.ga K "FORMS") "change" = some (some (.ref (He.ga K "_is_change")))
  gather : PySem.W.nsIn K (He.ga K "FORMS") "gather" = some (some (.ref (He.ga K "_is_alone")))
  round : PySem.W.nsIn K (He.ga K "FORMS") "round" = some (some (.ref (He.ga K "_is_alone")))
  out : ∀ z : Str, z ∉ (["come", "place", "leave", "withdraw", "change", "gather", "round"] : List Str) → PySem.W.nsIn K (He.ga K "FORMS") z = some none
theorem Frm.pe {X : Cx} {p : Pos} (F : Frm X.K X.w X.mg) (h : Gl X "FORMS" := by rfl) : PE X (.Name "FORMS" p) (tC (.ref (He.ga X.K "FORMS"))) := pe_glob h F.at_ rfl
section
variable {P : Program} {w : World} {K : PySem.W.Frag} {mg : Str → Option Value} {base : Heap}
abbrev s__is_of_kind : Stmt := top 16
theorem sc__is_of_kind : FnScope ["office", "rest"] ["office", "rest"] (defScope s__is_of_kind) := ⟨rfl, rfl, rfl, by decide +kernel, rfl, by decide +kernel, by decide +kernel⟩
theorem c__is_of_kind (T : Txt K mg) (O : Off K mg) (M : CalM P w K mg base CX0 1 (He.fAd K ("Office", some "__contains__")) ["self", "thing"] (spHas K)) (D : Dfn K mg "_is_of_kind" s__is_of_kind) : Cal P w K mg base 2 "_is_of_kind" ["office", "rest"] (spR K kindForm) := by
  refine D.cal sc__is_of_kind (fun _ _ _ _ _ _ us hl => match us, hl with | [_, _], _ => rfl) spR_len fun cdv A outer s H vs Q E hr h => ?_
  obtain ⟨x, l, ks, xs, ds, rfl, o, hl, r, z, q⟩ := h
  refine ⟨_, (pss_one (ps_ret (pe_and (pe_cmpR op_eq (pe_callB (id := "len") call_len_seq (by rfl) T.len (by decide +kernel) (pa_cons (pv 1) pa_nil)) pe_int (nomark _)) (pe_one (pe_cmpR (op_has M hr (by decide) O.has spHas_mono) (pe_ix ix_list (pv 1) pe_int (fun _ _ => rfl)) (pv 0) (by rfl)))))), ?_⟩
  refine ⟨_, rfl, l, xs, rfl, .inl (SqL.of hl), rfl, _, rfl, ?_⟩
  rw [show decide (V.int (xs.length : Nat) = V.int 1) = decide (xs.length = 1) from lenN _ 1]
  obtain ⟨dx, dd, kvs, h1, _⟩ := id o
  match xs, ds, r with
  | [], _, .nil => exact iteF (q H (Same.refl H))
  | [v], _, .cons (d := d) i .nil => exact iteT ⟨_, rfl, l, _, _, _, rfl, rfl, SqL.of hl, rfl, _, rfl, x, dx, _, rfl, h1, x, v, ks, d, rfl, o, i, fun H' s' => ⟨_, rfl, q H' s'⟩⟩
  | _ :: _ :: t, _, .cons _ (.cons _ r2) =>
    rw [decide_eq_false (by simp)]
    exact iteF (q H (Same.refl H))
abbrev s__is_of_person : Stmt := top 17
theorem sc__is_of_person : FnScope ["office", "rest"] ["office", "rest"] (defScope s__is_of_person) := ⟨rfl, rfl, rfl, by decide +kernel, rfl, by decide +kernel, by decide +kernel⟩
theorem c__is_of_person (T : Txt K mg) (D : Dfn K mg "_is_of_person" s__is_of_person) (C_is_name : Cal P w K mg base 1 "is_name" ["thing"] (spB nameOk)) : Cal P w K mg base 2 "_is_of_person" ["office", "rest"] (spR K nameForm) := by
  refine D.cal sc__is_of_person (fun _ _ _ _ _ _ us hl => match us, hl with | [_, _], _ => rfl) spR_len fun cdv A outer s H vs Q E hr h => ?_
  obtain ⟨x, l, ks, xs, ds, rfl, o, hl, r, z, q⟩ := h
  refine ⟨_, (pss_one (ps_ret (pe_and (pe_cmpR op_eq (pe_callB (id := "len") call_len_seq (by rfl) T.len (by decide +kernel) (pa_cons (pv 1) pa_nil)) pe_int (nomark _)) (pe_one (pe_cal C_is_name hr (by first | decide | omega) (by rfl) (pa_cons (pe_ix ix_list (pv 1) pe_int (fun _ _ => rfl)) pa_nil)))))), ?_⟩
  refine ⟨_, rfl, l, xs, rfl, .inl (SqL.of hl), rfl, _, rfl, ?_⟩
  rw [show decide (V.int (xs.length : Nat) = V.int 1) = decide (xs.length = 1) from lenN _ 1]
  match xs, ds, r with
  | [], _, .nil => exact iteF (q H (Same.refl H))
  | [v], _, .cons (d := d) i .nil => exact iteT ⟨_, rfl, l, _, _, _, rfl, rfl, SqL.of hl, rfl, v, d, rfl, i, fun H' s' => q H' s'⟩
  | _ :: _ :: t, _, .cons _ (.cons _ r2) =>
    rw [decide_eq_false (by simp)]
    exact iteF (q H (Same.refl H))
abbrev s__is_change : Stmt := top 18
theorem sc__is_change : FnScope ["office", "rest"] ["office", "rest"] (defScope s__is_change) := ⟨rfl, rfl, rfl, by decide +kernel, rfl, by decide +kernel, by decide +kernel⟩
theorem c__is_change (T : Txt K mg) (D : Dfn K mg "_is_change" s__is_change) (C_is_name : Cal P w K mg base 1 "is_name" ["thing"] (spB nameOk)) (C_is_wishes : Cal P w K mg base 2 "is_wishes" ["office", "thing"] (spO K wishesOk)) : Cal P w K mg base 3 "_is_change" ["office", "rest"] (spR K changeForm) := by
  refine D.cal sc__is_change (fun _ _ _ _ _ _ us hl => match us, hl with | [_, _], _ => rfl) spR_len fun cdv A outer s H vs Q E hr h => ?_
  obtain ⟨x, l, ks, xs, ds, rfl, o, hl, r, z, q⟩ := h
  refine ⟨_, (pss_one (ps_ret (pe_and (pe_cmpR op_eq (pe_callB (id := "len") call_len_seq (by rfl) T.len (by decide +kernel) (pa_cons (pv 1) pa_nil)) pe_int (nomark _)) (pe_and (pe_cal C_is_name hr (by first | decide | omega) (by rfl) (pa_cons (pe_ix ix_list (pv 1) pe_int (fun _ _ => rfl)) pa_nil)) (pe_one (pe_cal C_is_wishes hr (by first | decide | omega) (by rfl) (pa_cons (pv 0) (pa_cons (pe_ix ix_list (pv 1) pe_int (fun _ _ => rfl)) pa_nil)))))))), ?_⟩
  refine ⟨_, rfl, l, xs, rfl, .inl (SqL.of hl), rfl, _, rfl, ?_⟩
  rw [show decide (V.int (xs.length : Nat) = V.int 2) = decide (xs.length = 2) from lenN _ 2]
  match xs, ds, r with
  | [], _, .nil => exact iteF (q H (Same.refl H))
  | [v], _, .cons (d := d) i .nil => exact iteF (q H (Same.refl H))
  | [v1, v2], _, .cons (d := d1) i1 (.cons (d := d2) i2 .nil) =>
    refine iteT ⟨_, rfl, l, _, _, _, rfl, rfl, SqL.of hl, rfl, v1, d1, rfl, i1, fun H1 s1 => ⟨_, rfl, ?_⟩⟩
    have e0 : changeForm ks [d1, d2] = (nameOk d1 && wishesOk ks d2) := rfl
    cases c1 : nameOk d1 with
    | false => exact iteF (by rw [e0, c1] at q; exact q _ s1)
    | true =>
      rw [e0, c1] at q
      exact iteT ⟨_, rfl, _, rfl, l, _, _, _, rfl, rfl, SqL.of (s1 _ _ hl), rfl, x, v2, ks, d2, rfl, o.mono s1, i2.mono s1, fun H2 s2 => q H2 (s1.trans s2)⟩
  | _ :: _ :: _ :: t, _, .cons _ (.cons _ (.cons _ r2)) =>
    rw [decide_eq_false (by simp)]
    exact iteF (q H (Same.refl H))
abbrev s__is_alone : Stmt := top 19
theorem sc__is_alone : FnScope ["office", "rest"] ["office", "rest"] (defScope s__is_alone) := ⟨rfl, rfl, rfl, by decide +kernel, rfl, by decide +kernel, by decide +kernel⟩
theorem c__is_alone (T : Txt K mg) (D : Dfn K mg "_is_alone" s__is_alone) : Cal P w K mg base 1 "_is_alone" ["office", "rest"] (spR K alone) := by
  refine D.cal sc__is_alone (fun _ _ _ _ _ _ us hl => match us, hl with | [_, _], _ => rfl) spR_len fun cdv A outer s H vs Q E hr h => ?_
  obtain ⟨x, l, ks, xs, ds, rfl, o, hl, r, z, q⟩ := h
  refine ⟨_, (pss_one (ps_ret (pe_cmpR op_eq (pe_callB (id := "len") call_len_seq (by rfl) T.len (by decide +kernel) (pa_cons (pv 1) pa_nil)) pe_int (nomark _)))), ?_⟩
  refine ⟨_, rfl, l, xs, rfl, .inl (SqL.of hl), rfl, ?_⟩
  show Q (V.bl (decide (V.int (xs.length : Nat) = V.int 0))) H
  rw [show decide (V.int (xs.length : Nat) = V.int 0) = decide (xs.length = 0) from lenN _ 0]
  match xs, ds, r with
  | [], _, .nil => exact q H (Same.refl H)
  | _ :: _, _, .cons _ _ => exact q H (Same.refl H)
/-- the form of a word that the table has -/
theorem form_of (F : Frm K w mg) (g1 : mg "_is_come" = some (.ref (He.ga K "_is_come"))) (g2 : mg "_is_of_kind" = some (.ref (He.ga K "_is_of_kind"))) (g3 : mg "_is_of_person" = some (.ref (He.ga K "_is_of_person"))) (g4 : mg "_is_change" = some (.ref (He.ga K "_is_change"))) (g5 : mg "_is_alone" = some (.ref (He.ga K "_is_alone")))
    (C1 : Cal P w K mg base 3 "_is_come" ["office", "rest"] (spR K comeOk)) (C2 : Cal P w K mg base 2 "_is_of_kind" ["office", "rest"] (spR K kindForm)) (C3 : Cal P w K mg base 2 "_is_of_person" ["office", "rest"] (spR K nameForm))
    (C4 : Cal P w K mg base 3 "_is_change" ["office", "rest"] (spR K changeForm)) (C5 : Cal P w K mg base 1 "_is_alone" ["office", "rest"] (spR K alone)) (z : Str) :
    (PySem.W.nsIn K (He.ga K "FORMS") z = some none ∧ ∀ ks ds, formOk z ks ds = false) ∨
    ∃ (x0 : Str) (a : Addr) (k : Nat) (f : List Str → List Dt → Bool), k ≤ 3 ∧ PySem.W.nsIn K (He.ga K "FORMS") z = some (some (.ref a)) ∧ mg x0 = some (.ref a) ∧ Cal P w K mg base k x0 ["office", "rest"] (spR K f) ∧ ∀ ks ds, formOk z ks ds = f ks ds := by
  by_cases h1 : z = "come"
  · exact .inr ⟨_, _, 3, _, by decide, by rw [h1]; exact F.come, g1, C1, fun ks ds => by unfold formOk; rw [if_pos h1]⟩
  by_cases h2 : z = "place"
  · exact .inr ⟨_, _, 2, _, by decide, by rw [h2]; exact F.place, g2, C2, fun ks ds => by unfold formOk; rw [if_neg h1, if_pos h2]⟩
  by_cases h3 : z = "leave"
  · exact .inr ⟨_, _, 2, _, by decide, by rw [h3]; exact F.leave, g3, C3, fun ks ds => by unfold formOk; rw [if_neg h1, if_neg h2, if_pos h3]⟩
  by_cases h4 : z = "withdraw"
  · exact .inr ⟨_, _, 2, _, by decide, by rw [h4]; exact F.withdraw, g2, C2, fun ks ds => by unfold formOk; rw [if_neg h1, if_neg h2, if_neg h3, if_pos h4]⟩
  by_cases h5 : z = "change"
  · exact .inr ⟨_, _, 3, _, by decide, by rw [h5]; exact F.change, g4, C4, fun ks ds => by unfold formOk; rw [if_neg h1, if_neg h2, if_neg h3, if_neg h4, if_pos h5]⟩
  by_cases h6 : z = "gather"
  · exact .inr ⟨_, _, 1, _, by decide, by rw [h6]; exact F.gather, g5, C5, fun ks ds => by unfold formOk; rw [if_neg h1, if_neg h2, if_neg h3, if_neg h4, if_neg h5, if_pos h6]⟩
  by_cases h7 : z = "round"
  · exact .inr ⟨_, _, 1, _, by decide, by rw [h7]; exact F.round, g5, C5, fun ks ds => by unfold formOk; rw [if_neg h1, if_neg h2, if_neg h3, if_neg h4, if_neg h5, if_neg h6, if_pos h7]⟩
  · exact .inl ⟨F.out z (by simp [h1, h2, h3, h4, h5, h6, h7]), fun ks ds => by unfold formOk; rw [if_neg h1, if_neg h2, if_neg h3, if_neg h4, if_neg h5, if_neg h6, if_neg h7]⟩
end
end K07

set_option Elab.async false
set_option linter.all false
set_option maxRecDepth 100000
set_option maxHeartbeats 4000000
namespace K07
open PySem PySem.Spec PyProof.Rows L2 Sr
section
variable {P : Program} {w : World} {K : PySem.W.Frag} {mg : Str → Option Value} {base : Heap}
abbrev s_is_event : Stmt := top 11
theorem sc_is_event : FnScope ["office", "thing", "word", "has_form"] ["office", "thing"] (defScope s_is_event) := ⟨rfl, rfl, rfl, by decide +kernel, rfl, by decide +kernel, by decide +kernel⟩
theorem evOk_odd {ks : List Str} {d : Dt} (h : isSeq d = false) : evOk ks d = false := by
  cases d <;> first | rfl | simp [isSeq] at h
theorem at0 {α : Type} {x : α} {xs : List α} : atI (x :: xs) 0 = some x := by
  unfold atI ixN
  simp
theorem cutV_one {xs : List V} {x : V} : cutV (x :: xs) (some 1) none = xs := by
  unfold cutV
  simp [HT.sIx]
theorem c_is_event (T : Txt K mg) (F : Frm K w mg) (D : Dfn K mg "is_event" s_is_event) (C_is_list : Cal P w K mg base 1 "is_list" ["thing"] (spB isSeq))
    (ff : ∀ z : Str, (PySem.W.nsIn K (He.ga K "FORMS") z = some none ∧ ∀ ks ds, formOk z ks ds = false) ∨
    ∃ (x0 : Str) (a : Addr) (k : Nat) (f : List Str → List Dt → Bool), k ≤ 3 ∧ PySem.W.nsIn K (He.ga K "FORMS") z = some (some (.ref a)) ∧ mg x0 = some (.ref a) ∧ Cal P w K mg base k x0 ["office", "rest"] (spR K f) ∧ ∀ ks ds, formOk z ks ds = f ks ds) :
    Cal P w K mg base 4 "is_event" ["office", "thing"] (spO K evOk) := by
  refine D.cal sc_is_event (fun _ _ _ _ _ _ us hl => match us, hl with | [_, _], _ => rfl) spO_len fun cdv A outer s H vs Q E hr h => ?_
  obtain ⟨x, v, ks, d, rfl, o, hv, q⟩ := h
  obtain ⟨es, n, Dk⟩ := F.dict
  -- what is no list, or empty
  have z0 : Cal P w K mg base 1 "is_list" ["thing"] (spB isSeq) := C_is_list
  cases hs : isSeq d with
  | false =>
    refine ⟨_, (pss_cons (ps_if (PW.pt (pw_or (pt_not (pt_val (pe_cal C_is_list hr (by first | decide | omega) (by rfl) (pa_cons (pv 1) pa_nil)))) (pw_or1 (pt_cmpR op_eq (pe_callB (id := "len") call_len_seq (by rfl) T.len (by decide +kernel) (pa_cons (pv 1) pa_nil)) pe_int (nomark _))))) (pss_one (ps_ret pe_bl)) pss_nil)
      (pss_cons (ps_set (i := 2) sc_is_event.nd rfl (by first | exact Or.inl rfl | exact Or.inr rfl) (pe_ix ix_list (pv 1) pe_int (fun _ _ => rfl)))
      (pss_cons (ps_if (PW.pt (pw_or (pt_not (pt_val (pe_callB (id := "isinstance") call_isi (by rfl) T.isinstance (by decide +kernel) (pa_cons (pv 2) (pa_cons (pe_tyv (n := "str") (by rfl) T.str (by decide +kernel)) pa_nil))))) (pw_or1 (pt_cmpR (op_notIn_kd Dk) (pv 2) (F.pe (by rfl)) (by rfl))))) (pss_one (ps_ret pe_bl)) pss_nil)
      pss_never))), ?_⟩
    refine ⟨_, rfl, v, d, rfl, hv, fun H1 s1 => ⟨_, rfl, ?_⟩⟩
    rw [hs]
    refine iteT (iteT ?_)
    rw [evOk_odd hs] at q
    exact q _ s1
  | true =>
    cases hv with
    | lst hl r z =>
      rename_i a xs ds
      cases r with
      | nil =>
        refine ⟨_, (pss_cons (ps_if (PW.pt (pw_or (pt_not (pt_val (pe_cal C_is_list hr (by first | decide | omega) (by rfl) (pa_cons (pv 1) pa_nil)))) (pw_or1 (pt_cmpR op_eq (pe_callB (id := "len") call_len_seq (by rfl) T.len (by decide +kernel) (pa_cons (pv 1) pa_nil)) pe_int (nomark _))))) (pss_one (ps_ret pe_bl)) pss_nil)
      pss_never), ?_⟩
        exact ⟨_, rfl, _, _, rfl, .lst hl .nil z, fun H1 s1 => ⟨_, rfl, iteF ⟨_, rfl, a, [], rfl, .inl (SqL.of (s1 _ _ hl)), rfl, _, rfl, iteT (q _ s1)⟩⟩⟩
      | cons i r =>
        rename_i v0 vs d0 ds
        have head : ∀ H1, Same H H1 → SqL K H1 a (v0 :: vs) := fun H1 s1 => SqL.of (s1 _ _ hl)
        cases hq : isStr d0 with
        | false =>
          refine ⟨_, (pss_cons (ps_if (PW.pt (pw_or (pt_not (pt_val (pe_cal C_is_list hr (by first | decide | omega) (by rfl) (pa_cons (pv 1) pa_nil)))) (pw_or1 (pt_cmpR op_eq (pe_callB (id := "len") call_len_seq (by rfl) T.len (by decide +kernel) (pa_cons (pv 1) pa_nil)) pe_int (nomark _))))) (pss_one (ps_ret pe_bl)) pss_nil)
      (pss_cons (ps_set (i := 2) sc_is_event.nd rfl (by first | exact Or.inl rfl | exact Or.inr rfl) (pe_ix ix_list (pv 1) pe_int (fun _ _ => rfl)))
      (pss_cons (ps_if (PW.pt (pw_or (pt_not (pt_val (pe_callB (id := "isinstance") call_isi (by rfl) T.isinstance (by decide +kernel) (pa_cons (pv 2) (pa_cons (pe_tyv (n := "str") (by rfl) T.str (by decide +kernel)) pa_nil))))) (pw_or1 (pt_cmpR (op_notIn_kd Dk) (pv 2) (F.pe (by rfl)) (by rfl))))) (pss_one (ps_ret pe_bl)) pss_nil)
      pss_never))), ?_⟩
          refine ⟨_, rfl, _, _, rfl, .lst hl (.cons i r) z, fun H1 s1 => ⟨_, rfl, iteF ⟨_, rfl, a, _, rfl, .inl (head _ s1), rfl, _, rfl, ?_⟩⟩⟩
          rw [show decide (V.int ((v0 :: vs).length : Nat) = V.int 0) = false from lenN _ 0]
          refine iteF ⟨_, rfl, a, _, _, _, rfl, rfl, head _ s1, at0, ?_⟩
          refine ⟨_, rfl, _, _, _, _, _, rfl, .ty _, (i.mono s1).ty, kit_str K _, _, rfl, ?_⟩
          rw [hq]
          refine iteT (iteT ?_)
          have := q H1 s1
          rw [show evOk ks (.lst (d0 :: ds)) = false from by cases d0 <;> first | rfl | simp [isStr] at hq] at this
          exact this
        | true =>
        cases i with
        | str y hy =>
          rcases ff y with ⟨no, e⟩ | ⟨x0, af, k, f, hk, at_, hm, Cf, e⟩
          · refine ⟨_, (pss_cons (ps_if (PW.pt (pw_or (pt_not (pt_val (pe_cal C_is_list hr (by first | decide | omega) (by rfl) (pa_cons (pv 1) pa_nil)))) (pw_or1 (pt_cmpR op_eq (pe_callB (id := "len") call_len_seq (by rfl) T.len (by decide +kernel) (pa_cons (pv 1) pa_nil)) pe_int (nomark _))))) (pss_one (ps_ret pe_bl)) pss_nil)
      (pss_cons (ps_set (i := 2) sc_is_event.nd rfl (by first | exact Or.inl rfl | exact Or.inr rfl) (pe_ix ix_list (pv 1) pe_int (fun _ _ => rfl)))
      (pss_cons (ps_if (PW.pt (pw_or (pt_not (pt_val (pe_callB (id := "isinstance") call_isi (by rfl) T.isinstance (by decide +kernel) (pa_cons (pv 2) (pa_cons (pe_tyv (n := "str") (by rfl) T.str (by decide +kernel)) pa_nil))))) (pw_or1 (pt_cmpR (op_notIn_kd Dk) (pv 2) (F.pe (by rfl)) (by rfl))))) (pss_one (ps_ret pe_bl)) pss_nil)
      pss_never))), ?_⟩
            refine ⟨_, rfl, _, _, rfl, .lst hl (.cons (.str y hy) r) z, fun H1 s1 => ⟨_, rfl, iteF ⟨_, rfl, a, _, rfl, .inl (head _ s1), rfl, _, rfl, ?_⟩⟩⟩
            rw [show decide (V.int ((V.str y :: vs).length : Nat) = V.int 0) = false from lenN _ 0]
            refine iteF ⟨_, rfl, a, _, _, _, rfl, rfl, head _ s1, at0, ?_⟩
            refine ⟨_, rfl, _, _, _, _, _, rfl, .ty _, (Is.str (H := H1) y hy).ty, kit_str K _, _, rfl, iteF ⟨_, rfl, y, _, rfl, rfl, no, _, rfl, iteT ?_⟩⟩
            have := q H1 s1
            rw [show evOk ks (.lst (.str y :: ds)) = false from e ks ds] at this
            exact this
          · refine ⟨_, (pss_cons (ps_if (PW.pt (pw_or (pt_not (pt_val (pe_cal C_is_list hr (by first | decide | omega) (by rfl) (pa_cons (pv 1) pa_nil)))) (pw_or1 (pt_cmpR op_eq (pe_callB (id := "len") call_len_seq (by rfl) T.len (by decide +kernel) (pa_cons (pv 1) pa_nil)) pe_int (nomark _))))) (pss_one (ps_ret pe_bl)) pss_nil)
      (pss_cons (ps_set (i := 2) sc_is_event.nd rfl (by first | exact Or.inl rfl | exact Or.inr rfl) (pe_ix ix_list (pv 1) pe_int (fun _ _ => rfl)))
      (pss_cons (ps_if (PW.pt (pw_or (pt_not (pt_val (pe_callB (id := "isinstance") call_isi (by rfl) T.isinstance (by decide +kernel) (pa_cons (pv 2) (pa_cons (pe_tyv (n := "str") (by rfl) T.str (by decide +kernel)) pa_nil))))) (pw_or1 (pt_cmpR (op_notIn_kd Dk) (pv 2) (F.pe (by rfl)) (by rfl))))) (pss_one (ps_ret pe_bl)) pss_nil)
      (pss_cons (ps_set (i := 3) sc_is_event.nd rfl (by first | exact Or.inl rfl | exact Or.inr rfl) (pe_ix ix_kdict (F.pe (by rfl)) (pv 2) (fun _ _ => rfl)))
      (pss_one (ps_ret (pe_calL (i := 3) Cf hm hr (by first | decide | assumption) (by rfl) (by first | exact Or.inl rfl | exact Or.inr (Or.inl rfl) | exact Or.inr (Or.inr rfl)) (pa_cons (pv 0) (pa_cons (pe_callTy (T := "list") call_list_of (by rfl) T.list (by decide +kernel) (pa_cons (pe_slice sl_list (pv 1) (po_some pe_int) po_none) pa_nil)) pa_nil))))))))), ?_⟩
            refine ⟨_, rfl, _, _, rfl, .lst hl (.cons (.str y hy) r) z, fun H1 s1 => ⟨_, rfl, iteF ⟨_, rfl, a, _, rfl, .inl (head _ s1), rfl, _, rfl, ?_⟩⟩⟩
            rw [show decide (V.int ((V.str y :: vs).length : Nat) = V.int 0) = false from lenN _ 0]
            refine iteF ⟨_, rfl, a, _, _, _, rfl, rfl, head _ s1, at0, ?_⟩
            refine ⟨_, rfl, _, _, _, _, _, rfl, .ty _, (Is.str (H := H1) y hy).ty, kit_str K _, _, rfl, iteF ⟨_, rfl, y, _, rfl, rfl, at_, _, rfl, iteF ?_⟩⟩
            refine ⟨_, rfl, _, y, .ref af, rfl, rfl, ⟨es, n, _, Dk.at_, Dk.lit, at_, rfl⟩, ?_⟩
            refine ⟨rfl, _, rfl, _, rfl, _, rfl, a, _, rfl, head _ s1, fun p hp => ⟨p, vs, rfl, .inl (SqL.of (by rw [upd_same, cutV_one])), fun l hl2 => ?_⟩⟩
            have s2 : Same H1 (upd (upd H1 p (.lst (cutV (V.str y :: vs) (some 1) none))) l (.lst vs)) := (Same.up hp).trans (Same.up hl2)
            refine ⟨x, l, ks, vs, ds, rfl, o.mono (s1.trans s2), upd_same, r.mono (s1.trans s2), by simp at z; omega, fun H3 s3 => ?_⟩
            have := q H3 ((s1.trans s2).trans s3)
            rw [show evOk ks (.lst (.str y :: ds)) = f ks ds from e ks ds] at this
            exact this
        | _ => simp [isStr] at hq
    | tup hl r z =>
      rename_i a xs ds
      cases r with
      | nil =>
        refine ⟨_, (pss_cons (ps_if (PW.pt (pw_or (pt_not (pt_val (pe_cal C_is_list hr (by first | decide | omega) (by rfl) (pa_cons (pv 1) pa_nil)))) (pw_or1 (pt_cmpR op_eq (pe_callB (id := "len") call_len_seq (by rfl) T.len (by decide +kernel) (pa_cons (pv 1) pa_nil)) pe_int (nomark _))))) (pss_one (ps_ret pe_bl)) pss_nil)
      pss_never), ?_⟩
        exact ⟨_, rfl, _, _, rfl, .tup hl .nil z, fun H1 s1 => ⟨_, rfl, iteF ⟨_, rfl, a, [], rfl, .inr (SqT.of (s1 _ _ hl)), rfl, _, rfl, iteT (q _ s1)⟩⟩⟩
      | cons i r =>
        rename_i v0 vs d0 ds
        have head : ∀ H1, Same H H1 → SqT K H1 a (v0 :: vs) := fun H1 s1 => SqT.of (s1 _ _ hl)
        cases hq : isStr d0 with
        | false =>
          refine ⟨_, (pss_cons (ps_if (PW.pt (pw_or (pt_not (pt_val (pe_cal C_is_list hr (by first | decide | omega) (by rfl) (pa_cons (pv 1) pa_nil)))) (pw_or1 (pt_cmpR op_eq (pe_callB (id := "len") call_len_seq (by rfl) T.len (by decide +kernel) (pa_cons (pv 1) pa_nil)) pe_int (nomark _))))) (pss_one (ps_ret pe_bl)) pss_nil)
      (pss_cons (ps_set (i := 2) sc_is_event.nd rfl (by first | exact Or.inl rfl | exact Or.inr rfl) (pe_ix ix_tup (pv 1) pe_int (fun _ _ => rfl)))
      (pss_cons (ps_if (PW.pt (pw_or (pt_not (pt_val (pe_callB (id := "isinstance") call_isi (by rfl) T.isinstance (by decide +kernel) (pa_cons (pv 2) (pa_cons (pe_tyv (n := "str") (by rfl) T.str (by decide +kernel)) pa_nil))))) (pw_or1 (pt_cmpR (op_notIn_kd Dk) (pv 2) (F.pe (by rfl)) (by rfl))))) (pss_one (ps_ret pe_bl)) pss_nil)
      pss_never))), ?_⟩
          refine ⟨_, rfl, _, _, rfl, .tup hl (.cons i r) z, fun H1 s1 => ⟨_, rfl, iteF ⟨_, rfl, a, _, rfl, .inr (head _ s1), rfl, _, rfl, ?_⟩⟩⟩
          rw [show decide (V.int ((v0 :: vs).length : Nat) = V.int 0) = false from lenN _ 0]
          refine iteF ⟨_, rfl, a, _, _, _, rfl, rfl, head _ s1, at0, ?_⟩
          refine ⟨_, rfl, _, _, _, _, _, rfl, .ty _, (i.mono s1).ty, kit_str K _, _, rfl, ?_⟩
          rw [hq]
          refine iteT (iteT ?_)
          have := q H1 s1
          rw [show evOk ks (.tup (d0 :: ds)) = false from by cases d0 <;> first | rfl | simp [isStr] at hq] at this
          exact this
        | true =>
        cases i with
        | str y hy =>
          rcases ff y with ⟨no, e⟩ | ⟨x0, af, k, f, hk, at_, hm, Cf, e⟩
          · refine ⟨_, (pss_cons (ps_if (PW.pt (pw_or (pt_not (pt_val (pe_cal C_is_list hr (by first | decide | omega) (by rfl) (pa_cons (pv 1) pa_nil)))) (pw_or1 (pt_cmpR op_eq (pe_callB (id := "len") call_len_seq (by rfl) T.len (by decide +kernel) (pa_cons (pv 1) pa_nil)) pe_int (nomark _))))) (pss_one (ps_ret pe_bl)) pss_nil)
      (pss_cons (ps_set (i := 2) sc_is_event.nd rfl (by first | exact Or.inl rfl | exact Or.inr rfl) (pe_ix ix_tup (pv 1) pe_int (fun _ _ => rfl)))
      (pss_cons (ps_if (PW.pt (pw_or (pt_not (pt_val (pe_callB (id := "isinstance") call_isi (by rfl) T.isinstance (by decide +kernel) (pa_cons (pv 2) (pa_cons (pe_tyv (n := "str") (by rfl) T.str (by decide +kernel)) pa_nil))))) (pw_or1 (pt_cmpR (op_notIn_kd Dk) (pv 2) (F.pe (by rfl)) (by rfl))))) (pss_one (ps_ret pe_bl)) pss_nil)
      pss_never))), ?_⟩
            refine ⟨_, rfl, _, _, rfl, .tup hl (.cons (.str y hy) r) z, fun H1 s1 => ⟨_, rfl, iteF ⟨_, rfl, a, _, rfl, .inr (head _ s1), rfl, _, rfl, ?_⟩⟩⟩
            rw [show decide (V.int ((V.str y :: vs).length : Nat) = V.int 0) = false from lenN _ 0]
            refine iteF ⟨_, rfl, a, _, _, _, rfl, rfl, head _ s1, at0, ?_⟩
            refine ⟨_, rfl, _, _, _, _, _, rfl, .ty _, (Is.str (H := H1) y hy).ty, kit_str K _, _, rfl, iteF ⟨_, rfl, y, _, rfl, rfl, no, _, rfl, iteT ?_⟩⟩
            have := q H1 s1
            rw [show evOk ks (.tup (.str y :: ds)) = false from e ks ds] at this
            exact this
          · refine ⟨_, (pss_cons (ps_if (PW.pt (pw_or (pt_not (pt_val (pe_cal C_is_list hr (by first | decide | omega) (by rfl) (pa_cons (pv 1) pa_nil)))) (pw_or1 (pt_cmpR op_eq (pe_callB (id := "len") call_len_seq (by rfl) T.len (by decide +kernel) (pa_cons (pv 1) pa_nil)) pe_int (nomark _))))) (pss_one (ps_ret pe_bl)) pss_nil)
      (pss_cons (ps_set (i := 2) sc_is_event.nd rfl (by first | exact Or.inl rfl | exact Or.inr rfl) (pe_ix ix_tup (pv 1) pe_int (fun _ _ => rfl)))
      (pss_cons (ps_if (PW.pt (pw_or (pt_not (pt_val (pe_callB (id := "isinstance") call_isi (by rfl) T.isinstance (by decide +kernel) (pa_cons (pv 2) (pa_cons (pe_tyv (n := "str") (by rfl) T.str (by decide +kernel)) pa_nil))))) (pw_or1 (pt_cmpR (op_notIn_kd Dk) (pv 2) (F.pe (by rfl)) (by rfl))))) (pss_one (ps_ret pe_bl)) pss_nil)
      (pss_cons (ps_set (i := 3) sc_is_event.nd rfl (by first | exact Or.inl rfl | exact Or.inr rfl) (pe_ix ix_kdict (F.pe (by rfl)) (pv 2) (fun _ _ => rfl)))
      (pss_one (ps_ret (pe_calL (i := 3) Cf hm hr (by first | decide | assumption) (by rfl) (by first | exact Or.inl rfl | exact Or.inr (Or.inl rfl) | exact Or.inr (Or.inr rfl)) (pa_cons (pv 0) (pa_cons (pe_callTy (T := "list") call_list_of (by rfl) T.list (by decide +kernel) (pa_cons (pe_slice sl_tupA (pv 1) (po_some pe_int) po_none) pa_nil)) pa_nil))))))))), ?_⟩
            refine ⟨_, rfl, _, _, rfl, .tup hl (.cons (.str y hy) r) z, fun H1 s1 => ⟨_, rfl, iteF ⟨_, rfl, a, _, rfl, .inr (head _ s1), rfl, _, rfl, ?_⟩⟩⟩
            rw [show decide (V.int ((V.str y :: vs).length : Nat) = V.int 0) = false from lenN _ 0]
            refine iteF ⟨_, rfl, a, _, _, _, rfl, rfl, head _ s1, at0, ?_⟩
            refine ⟨_, rfl, _, _, _, _, _, rfl, .ty _, (Is.str (H := H1) y hy).ty, kit_str K _, _, rfl, iteF ⟨_, rfl, y, _, rfl, rfl, at_, _, rfl, iteF ?_⟩⟩
            refine ⟨_, rfl, _, y, .ref af, rfl, rfl, ⟨es, n, _, Dk.at_, Dk.lit, at_, rfl⟩, ?_⟩
            refine ⟨rfl, _, rfl, _, rfl, _, rfl, a, _, rfl, head _ s1, (fun w => absurd w.1 (by simp [HT.sIx])), fun _ p hp => ⟨p, vs, rfl, .inr (SqT.of (by rw [upd_same, cutV_one])), fun l hl2 => ?_⟩⟩
            have s2 : Same H1 (upd (upd H1 p (.tup (cutV (V.str y :: vs) (some 1) none))) l (.lst vs)) := (Same.up hp).trans (Same.up hl2)
            refine ⟨x, l, ks, vs, ds, rfl, o.mono (s1.trans s2), upd_same, r.mono (s1.trans s2), by simp at z; omega, fun H3 s3 => ?_⟩
            have := q H3 ((s1.trans s2).trans s3)
            rw [show evOk ks (.tup (.str y :: ds)) = f ks ds from e ks ds] at this
            exact this
        | _ => simp [isStr] at hq
    | _ => simp [isSeq] at hs
end
end K07

set_option Elab.async false
set_option linter.all false
set_option maxRecDepth 100000
set_option maxHeartbeats 4000000
namespace Sr
open PySem PySem.Spec PyProof.Rows L2
/-! ### dicts with keys of all kinds: texts, numbers, None and tuples in one -/
structure EntsOf (w : World) (h : Heap) (ks : List NestedKey) (es : Array DictEntry) : Prop where
  size : es.size = ks.length
  ent : ∀ (j : Nat) (e : DictEntry), es[j]? = some e → ∃ k, ks[j]? = some k ∧ NestedIs h k e.key ∧ e.hash = k.hash w ∧ k.depth ≤ 8
  nd : ks.Nodup
theorem places_mem {n : Nat} {f : Nat → Option Int} {h : Int} {j : Nat} : j ∈ placesWithHash n f h ↔ j < n ∧ f j = some h := by
  unfold placesWithHash
  rw [List.mem_filter, List.mem_range, beq_iff_eq]
theorem places_nodup (n : Nat) (f : Nat → Option Int) (h : Int) : (placesWithHash n f h).Nodup := List.nodup_range.filter _
theorem same_place {ks : List NestedKey} (nd : ks.Nodup) {i j : Nat} {k : NestedKey} (hi : ks[i]? = some k) (hj : ks[j]? = some k) : i = j :=
  (List.getElem?_inj (List.getElem?_eq_some_iff.mp hi).1 nd).mp (hi.trans hj.symm)
section
variable {prog : Program} {w : World} {A : Around} {E : Value → Shared → Prop} {s : Shared}
theorem mayTell {v : Value} {k : NestedKey} {stored : List Value} {Q : Bool → Shared → Prop} (hk : NestedIs s.heap k v) (kd : k.depth ≤ 8) (all : ∀ u ∈ stored, ∃ k', NestedIs s.heap k' u ∧ k'.depth ≤ 8) (q : Q false s) : wpAny (model prog w) A (tableMayTell v stored) Q E s := by
  unfold tableMayTell
  cases stored with
  | nil => exact wpAny_pure q
  | cons u r =>
    rw [if_neg (show ¬ (List.isEmpty (u :: r)) = true by simp)]
    refine wpAny_bind (quiet_key k v 8 s hk kd _ _ _ ?_)
    rw [if_neg (show ¬ (!true) = true by simp)]
    refine wpAny_bind (wpAny_forIn_list _ (fun left st s' => (s' = s ∧ st = (none, ())) ∧ ∀ u ∈ left, ∃ k', NestedIs s.heap k' u ∧ k'.depth ≤ 8) _ (fun y left st s' ⟨⟨e1, e2⟩, al⟩ => ?_) (fun st s' ⟨⟨e1, e2⟩, _⟩ => ?_) _ _ ⟨⟨rfl, rfl⟩, all⟩)
    · subst e1
      subst e2
      obtain ⟨k', h1, h2⟩ := al y List.mem_cons_self
      refine wpAny_bind (quiet_key k' y 8 s' h1 h2 _ _ _ ?_)
      rw [if_neg (show ¬ (!true) = true by simp)]
      exact wpAny_pure ⟨⟨rfl, rfl⟩, fun z m => al z (List.mem_cons_of_mem _ m)⟩
    · subst e1
      subst e2
      exact wpAny_pure q
theorem walk_places {β : Type} (P : Prop) {ks : List NestedKey} {k : NestedKey} (nd : ks.Nodup) (f : Nat → β → Sem (ForInStep β)) (b0 : β) (bh dn : Nat → β) {Q : β → Shared → Prop} (places : List Nat) (np : places.Nodup) (hp : ∀ i ∈ places, ∃ k', ks[i]? = some k')
    (turn0 : ∀ (i : Nat) (k' : NestedKey) (b : β) (R : ForInStep β → Shared → Prop), i ∈ places → ks[i]? = some k' → (b = b0 ∨ P ∧ ∃ j, b = bh j) → k' ≠ k → R (.yield b) s → wpAny (model prog w) A (f i b) R E s)
    (turn1 : ∀ (i : Nat) (R : ForInStep β → Shared → Prop), i ∈ places → ks[i]? = some k → R (.done (dn i)) s → (P → R (.yield (bh i)) s) → wpAny (model prog w) A (f i b0) R E s)
    (q0 : (∀ i ∈ places, ks[i]? ≠ some k) → Q b0 s) (qh : P → ∀ i : Nat, ks[i]? = some k → Q (bh i) s) (qd : ∀ i : Nat, ks[i]? = some k → Q (dn i) s) : wpAny (model prog w) A (forIn places b0 f) Q E s := by
  refine wpAny_forIn_list f (fun rest b s' => s' = s ∧ ∃ seen, seen ++ rest = places ∧ ((b = b0 ∧ ∀ i ∈ seen, ks[i]? ≠ some k) ∨ P ∧ ∃ j ∈ seen, b = bh j ∧ ks[j]? = some k)) Q (fun i rest b s' ⟨e, seen, es, h⟩ => ?_) (fun b s' ⟨e, seen, es, h⟩ => ?_) places b0 ⟨rfl, [], rfl, .inl ⟨rfl, fun i m => nomatch m⟩⟩
  · subst e
    have mi : i ∈ places := by rw [← es]; simp
    have ni : i ∉ seen := fun m => by
      rw [← es] at np
      exact (List.nodup_append.mp np).2.2 i m i List.mem_cons_self rfl
    have es2 : (seen ++ [i]) ++ rest = places := by rw [← es]; simp
    obtain ⟨k', hk'⟩ := hp i mi
    by_cases c : k' = k
    · subst c
      rcases h with ⟨rfl, no⟩ | ⟨p, j, mj, rfl, hj⟩
      · exact turn1 i _ mi hk' (qd i hk') fun p => ⟨rfl, seen ++ [i], es2, .inr ⟨p, i, by simp, rfl, hk'⟩⟩
      · exact absurd (same_place nd hj hk' ▸ mj) ni
    · refine turn0 i k' b _ mi hk' (h.imp And.left fun ⟨p, j, _, e, _⟩ => ⟨p, j, e⟩) c ⟨rfl, seen ++ [i], es2, ?_⟩
      rcases h with ⟨rfl, no⟩ | ⟨p, j, mj, rfl, hj⟩
      · refine .inl ⟨rfl, fun j m => ?_⟩
        rcases List.mem_append.mp m with m | m
        · exact no j m
        · rw [List.mem_singleton.mp m, hk']
          exact fun z => c (Option.some.inj z)
      · exact .inr ⟨p, j, by simp [mj], rfl, hj⟩
  · subst e
    rw [List.append_nil] at es
    subst es
    rcases h with ⟨rfl, no⟩ | ⟨p, j, mj, rfl, hj⟩
    · exact q0 no
    · exact qh p j hj
theorem find_any {d : Addr} {o : Obj} {es : Array DictEntry} {ep : Nat} {ks : List NestedKey} {k : NestedKey} {v : Value} {Q : Option Nat → Shared → Prop} (room : A.units + 8 < cLine) (hk : NestedIs s.heap k v) (kd : k.depth ≤ 8) (ho : s.heap.get? d = some o) (hdat : o.data = .dict es ep)
    (x : EntsOf w s.heap ks es) (hnone : (∀ j : Nat, ks[j]? ≠ some k) → Q none s) (hsome : ∀ j : Nat, ks[j]? = some k → Q (some j) s) : wpAny (model prog w) A (dictFind d v (k.hash w)) Q E s := by
  have at_ : ∀ (j : Nat) (k' : NestedKey), ks[j]? = some k' → ∃ e, es[j]? = some e ∧ NestedIs s.heap k' e.key ∧ e.hash = k'.hash w ∧ k'.depth ≤ 8 := fun j k' h => by
    have lt := (List.getElem?_eq_some_iff.mp h).1
    have lt2 : j < es.size := by rw [x.size]; exact lt
    obtain ⟨k2, h2, r⟩ := x.ent j es[j] (Array.getElem?_eq_getElem lt2)
    rw [h] at h2
    cases h2
    exact ⟨es[j], Array.getElem?_eq_getElem lt2, r⟩
  generalize hpl : placesWithHash es.size (fun i => es[i]?.map (·.hash)) (k.hash w) = places
  have np : places.Nodup := by rw [← hpl]; exact places_nodup _ _ _
  have inp : ∀ i, i ∈ places → ∃ e, es[i]? = some e ∧ e.hash = k.hash w := fun i m => by
    rw [← hpl] at m
    obtain ⟨_, e1⟩ := places_mem.mp m
    obtain ⟨e, h1, h2⟩ := Option.map_eq_some_iff.mp e1
    exact ⟨e, h1, h2⟩
  have hp : ∀ i ∈ places, ∃ k', ks[i]? = some k' := fun i m => by
    obtain ⟨e, h1, _⟩ := inp i m
    obtain ⟨k', h2, _⟩ := x.ent i e h1
    exact ⟨k', h2⟩
  have all : (∀ i ∈ places, ks[i]? ≠ some k) → Q none s := fun no => hnone fun j hj => by
    obtain ⟨e, h1, _, h3, _⟩ := at_ j k hj
    refine no j ?_ hj
    rw [← hpl]
    refine places_mem.mpr ⟨(Array.getElem?_eq_some_iff.mp h1).1, ?_⟩
    rw [h1]
    exact congrArg some h3
  have sto : ∀ u ∈ places.filterMap (fun i => es[i]?.map (·.key)), ∃ k', NestedIs s.heap k' u ∧ k'.depth ≤ 8 := fun u m => by
    obtain ⟨i, _, h⟩ := List.mem_filterMap.mp m
    obtain ⟨e, h1, rfl⟩ := Option.map_eq_some_iff.mp h
    obtain ⟨k', _, h3, _, h4⟩ := x.ent i e h1
    exact ⟨k', h3, h4⟩
  have ask : ∀ (k' : NestedKey) (u : Value) (R : Bool → Shared → Prop), NestedIs s.heap k' u → R (decide (k' = k)) s → wpAny (model prog w) A (eqBool u v) R E s := fun k' u R h q =>
    eqAt_key k' k A s u v h hk (by omega) _ _ _ _ (by rw [← NestedKey.decide_eq]; exact q)
  have plain : wpAny (model prog w) A (dictWalkPlain d v (k.hash w) es places) Q E s := by
    refine wpAny_bind (walk_places False (ks := ks) (k := k) x.nd _ _ (fun i => (some (some i), ())) (fun i => (some (some i), ())) places np hp (fun i k' b R mi hi hb c q => ?_) (fun i R mi hi q1 _ => ?_) (fun no => wpAny_pure (all no)) (fun z => z.elim) (fun i hi => wpAny_pure (hsome i hi)))
    · obtain rfl : b = (none, ()) := hb.elim id fun z => z.1.elim
      obtain ⟨e, h1, h2⟩ := inp i mi
      obtain ⟨k2, h3, h4, _⟩ := x.ent i e h1
      rw [hi] at h3
      cases h3
      dsimp only
      rw [h1]
      dsimp only
      rw [if_pos (by rw [h2]; simp)]
      refine wpAny_bind (wpAny_dictEpoch ho hdat (wpAny_bind (ask k' e.key _ h4 (wpAny_bind (wpAny_dictEpoch ho hdat ?_)))))
      rw [if_neg (show ¬ (ep != ep) = true by simp), decide_eq_false c]
      exact wpAny_bind (wpAny_rule (wpAny_pure q))
    · obtain ⟨e, h1, h2⟩ := inp i mi
      obtain ⟨k2, h3, h4, _⟩ := x.ent i e h1
      rw [hi] at h3
      cases h3
      dsimp only
      rw [h1]
      dsimp only
      rw [if_pos (by rw [h2]; simp)]
      refine wpAny_bind (wpAny_dictEpoch ho hdat (wpAny_bind (ask k e.key _ h4 (wpAny_bind (wpAny_dictEpoch ho hdat ?_)))))
      rw [if_neg (show ¬ (ep != ep) = true by simp), decide_eq_true rfl]
      exact wpAny_bind (wpAny_rule (wpAny_pure q1))
  have notref : ∀ a, v = .ref a → ¬ (es.any fun e => e.key == v && e.hash != k.hash w) = true := fun a e h => by
    obtain ⟨i, lt, h⟩ := Array.any_eq_true.mp h
    obtain ⟨k', h1, h2, h3, _⟩ := x.ent i es[i] (Array.getElem?_eq_getElem lt)
    simp only [Bool.and_eq_true, beq_iff_eq, bne_iff_ne, ne_eq] at h
    rw [h.1] at h2
    exact h.2 (by rw [h3, h2.inj k' k v hk])
  have str1 : ∀ (z : Str) (t : Tok), v = .str z t → (es.all fun e => isExactStrKey e.key) = true → wpAny (model prog w) A (foundByValue d v es z) Q E s := fun z t e h => by
    subst e
    obtain rfl : k = .text z := by cases hk; rfl
    unfold foundByValue
    cases hf : es.findIdx? (fun e => e.key.isStr z) with
    | none =>
      refine wpAny_pure (hnone fun j hj => ?_)
      obtain ⟨e, h1, h2, _⟩ := at_ j _ hj
      have n := Array.findIdx?_eq_none_iff.mp hf e (Array.mem_of_getElem? h1)
      generalize e.key = u at h2 n
      cases h2
      simp [Value.isStr] at n
    | some i =>
      obtain ⟨lt, hi, _⟩ := Array.findIdx?_eq_some_iff_getElem.mp hf
      obtain ⟨k', h1, h2, _⟩ := x.ent i es[i] (Array.getElem?_eq_getElem lt)
      have ek : k' = .text z := by
        generalize es[i].key = u at h2 hi
        cases h2 <;> simp [Value.isStr] at hi
        rw [hi]
      subst ek
      dsimp only
      rw [Array.getElem?_eq_getElem lt]
      dsimp only
      refine wpAny_bind (wpAny_dictEpoch ho hdat (wpAny_bind (ask _ _ _ h2 (wpAny_bind (wpAny_dictEpoch ho hdat ?_)))))
      rw [if_neg (show ¬ (ep != ep) = true by simp), decide_eq_true rfl]
      exact wpAny_bind (wpAny_rule (wpAny_pure (hsome i h1)))
  unfold dictFind
  try with_reducible refine wpAny_holding ?_
  refine wpAny_bind (wpAny_dictEntries ho hdat ?_)
  dsimp only
  rw [hpl]
  have ite2 : ∀ {c : Prop} [Decidable c] {a b : Sem (Option Nat)}, (c → wpAny (model prog w) A a Q E s) → (¬ c → wpAny (model prog w) A b Q E s) → wpAny (model prog w) A (if c then a else b) Q E s := fun {c} _ {a b} h1 h2 => by
    split
    · exact h1 ‹_›
    · exact h2 ‹_›
  have tail : ∀ (C : Bool → Sem (Option Nat)), wpAny (model prog w) A (C false) Q E s → wpAny (model prog w) A (if (places.filterMap (fun i => es[i]?.map (·.key)) == [v]) = true then (pure false >>= C) else (tableMayTell v (places.filterMap (fun i => es[i]?.map (·.key))) >>= C)) Q E s := fun C h => by
    split
    · exact wpAny_bind (wpAny_pure h)
    · exact wpAny_bind (mayTell hk kd sto h)
  by_cases hall : ((v :: places.filterMap (fun i => es[i]?.map (·.key))).all carriedByValue) = true
  · rw [if_pos hall]
    cases v
    all_goals dsimp only
    all_goals first
      | exact plain
      | (by_cases hs : (es.all fun e => isExactStrKey e.key) = true
         · rw [if_pos hs]
           exact str1 _ _ rfl hs
         · rw [if_neg hs]
           exact plain)
  · rw [if_neg hall]
    clear hall plain
    have hk' := hk
    cases v
    all_goals dsimp only
    all_goals first
      | refine tail _ ?_
      | (rw [if_neg (notref _ rfl)]
         refine tail _ ?_)
      | refine ite2 (fun hs => str1 _ _ rfl hs) fun _ => tail _ ?_
    all_goals clear tail notref str1 ite2
    all_goals rw [if_neg (show ¬ (false && _) = true by simp)]
    all_goals refine wpAny_bind (walk_places True (ks := ks) (k := k) x.nd _ _ (fun i => (none, some i)) (fun i => (some (some i), none)) places np hp (fun i k' b R mi hi hb c q => ?_) (fun i R mi hi q1 q2 => ?_) (fun no => ?_) (fun _ i hi => ?_) (fun i hi => ?_))
    all_goals first
      | exact wpAny_pure (all no)
      | exact wpAny_pure (hsome _ hi)
      | (obtain ⟨hit, rfl⟩ : ∃ hit, b = (none, hit) := hb.elim (fun z => ⟨none, z⟩) fun ⟨_, j, z⟩ => ⟨some j, z⟩
         obtain ⟨e, h1, h2⟩ := inp i mi
         obtain ⟨k2, h3, h4, _⟩ := x.ent i e h1
         rw [hi] at h3
         cases h3
         rw [h1]
         dsimp only
         rw [if_pos (by rw [h2]; simp)]
         refine wpAny_bind (wpAny_dictEpoch ho hdat (wpAny_bind (ask k' e.key _ h4 (wpAny_bind (wpAny_dictEpoch ho hdat ?_)))))
         rw [if_neg (show ¬ (ep != ep) = true by simp), decide_eq_false c, if_neg (show ¬ false = true by simp)]
         refine wpAny_bind (wpAny_rule ?_)
         rw [if_neg (show ¬ (false && _) = true by simp)]
         exact wpAny_pure q)
      | (obtain ⟨e, h1, h2⟩ := inp i mi
         obtain ⟨k2, h3, h4, _⟩ := x.ent i e h1
         rw [hi] at h3
         cases h3
         rw [h1]
         dsimp only
         rw [if_pos (by rw [h2]; simp)]
         refine wpAny_bind (wpAny_dictEpoch ho hdat (wpAny_bind (ask k e.key _ h4 (wpAny_bind (wpAny_dictEpoch ho hdat ?_)))))
         rw [if_neg (show ¬ (ep != ep) = true by simp), decide_eq_true rfl, if_pos rfl, if_neg (show ¬ Option.isSome none = true by simp)]
         refine wpAny_bind (wpAny_rule ?_)
         split
         · exact wpAny_pure q1
         · exact wpAny_pure (q2 True.intro))
end
end Sr

set_option Elab.async false
set_option linter.all false
set_option maxRecDepth 100000
set_option maxHeartbeats 4000000
namespace Sr
open PySem PySem.Spec PyProof.Rows L2
/-- tuples stay -/
def SeqsStay (h h' : Heap) : Prop := ∀ a o vs n, h.get? a = some o → o.data = .seq vs n → h'.get? a = some o
theorem EntsOf.keep {w : World} {h h' : Heap} {ks : List NestedKey} {es : Array DictEntry} (x : EntsOf w h ks es) (k : SeqsStay h h') : EntsOf w h' ks es :=
  ⟨x.size, fun j e he => by
    obtain ⟨k', h1, h2, h3⟩ := x.ent j e he
    exact ⟨k', h1, h2.at k k' e.key, h3⟩, x.nd⟩
/-- a key, what it stands for, and the value of an entry -/
abbrev KE3 := NestedKey × Value × Value
def entA (w : World) (p : KE3) : DictEntry := ⟨p.1.hash w, p.2.1, p.2.2⟩
def entsA (w : World) (l : List KE3) : Array DictEntry := (l.map (entA w)).toArray
theorem entsA_at {w : World} {l : List KE3} {j : Nat} : (entsA w l)[j]? = (l[j]?).map (entA w) := by
  unfold entsA
  rw [List.getElem?_toArray, List.getElem?_map]
def AllAt (h : Heap) (l : List KE3) : Prop := ∀ p ∈ l, NestedIs h p.1 p.2.1 ∧ p.1.depth ≤ 8
theorem AllAt.keep {h h' : Heap} {l : List KE3} (x : AllAt h l) (k : SeqsStay h h') : AllAt h' l := fun p m => ⟨(x p m).1.at k p.1 p.2.1, (x p m).2⟩
theorem ents_of {w : World} {h : Heap} {l : List KE3} (x : AllAt h l) (nd : (l.map (·.1)).Nodup) : EntsOf w h (l.map (·.1)) (entsA w l) := by
  refine ⟨by simp [entsA], fun j e he => ?_, nd⟩
  rw [entsA_at] at he
  obtain ⟨p, hp, rfl⟩ := Option.map_eq_some_iff.mp he
  have m := x p (List.mem_of_getElem? hp)
  exact ⟨p.1, by rw [List.getElem?_map, hp]; rfl, m.1, rfl, m.2⟩
theorem fresh_key {l : List KE3} {i : Nat} {p : KE3} (nd : (l.map (·.1)).Nodup) (hp : l[i]? = some p) (j : Nat) : ((l.take i).map (·.1))[j]? ≠ some p.1 := fun h => by
  have h1 : (l.map (·.1))[i]? = some p.1 := by rw [List.getElem?_map, hp]; rfl
  have lt : j < i := by
    have := (List.getElem?_eq_some_iff.mp h).1
    rw [List.length_map, List.length_take] at this
    omega
  have h2 : (l.map (·.1))[j]? = some p.1 := by
    rw [List.getElem?_map, List.getElem?_take_of_lt lt] at h
    rw [List.getElem?_map]
    exact h
  have := same_place nd h1 h2
  omega
section
variable {prog : Program} {w : World} {A : Around} {E : Value → Shared → Prop} {s : Shared}
theorem get_any {d : Addr} {o : Obj} {es : Array DictEntry} {ep : Nat} {ks : List NestedKey} {k : NestedKey} {v : Value} {j : Nat} {e : DictEntry} {Q : Option Value → Shared → Prop} (room : A.units + 8 < cLine) (hk : NestedIs s.heap k v) (kd : k.depth ≤ 8) (ho : s.heap.get? d = some o) (hdat : o.data = .dict es ep)
    (x : EntsOf w s.heap ks es) (hj : ks[j]? = some k) (he : es[j]? = some e) (q : ∀ tk, Q (some e.val) { s with toks := tk }) : wpAny (model prog w) A (dictGet d v) Q E s := by
  unfold dictGet
  try with_reducible refine wpAny_holding ?_
  refine wpAny_bind (pyHash_key k v A s _ hk (by omega) (wpAny_bind (find_any (s := { s with toks := s.toks + k.draws }) room hk kd ho hdat x (fun no => absurd hj (no j)) fun i hi => ?_)))
  obtain rfl := same_place x.nd hi hj
  refine wpAny_bind (wpAny_dictEntries (s := { s with toks := s.toks + k.draws }) ho hdat ?_)
  rw [he]
  exact wpAny_pure (q _)
theorem set_any {d : Addr} {es : Array DictEntry} {ep : Nat} {ks : List NestedKey} {k : NestedKey} {v u : Value} {Q : Unit → Shared → Prop} (room : A.units + 8 < cLine) (hk : NestedIs s.heap k v) (kd : k.depth ≤ 8) (hm : s.heap.DictRaw d es ep)
    (x : EntsOf w s.heap ks es) (new : ∀ j : Nat, ks[j]? ≠ some k) (hz : ks.length ≤ sizeLine) (q : ∀ h' ep' tk, h'.DictRaw d (es.push ⟨k.hash w, v, u⟩) ep' → Heap.SameBut d s.heap h' → Q () { s with heap := h', toks := tk }) : wpAny (model prog w) A (dictSet d v u) Q E s := by
  obtain ⟨o, ho, hc, hdat⟩ := hm
  unfold dictSet
  try with_reducible refine wpAny_holding ?_
  refine wpAny_bind (pyHash_key k v A s _ hk (by omega) ?_)
  unfold dictSetHashed
  try with_reducible refine wpAny_holding ?_
  refine wpAny_bind (find_any (s := { s with toks := s.toks + k.draws }) room hk kd ho hdat x (fun _ => ?_) fun i hi => absurd hi (new i))
  exact wpAny_bind (wpAny_rule (wpAny_updateDictKeys (hz := by rw [x.size]; exact hz) (s := { s with toks := s.toks + k.draws }) ho hdat (q _ (ep + 1) _ ⟨_, Heap.get?_update_self _ ho (Obj.isFreed_of_dict (Obj.data_mapDictKeys hdat _)), hc.mapDictKeys _, Obj.data_mapDictKeys hdat _⟩ (Heap.SameBut.update ..))))
/-- dict(xs), the keys of any kind, each but once -/
theorem dict_any {T : String} {a : Addr} {fp : List Addr} {n : Nat} {Rel : Nat → Value → Value → Prop} {OK : Heap → Prop} {ps : List KE3} {Q : Value → Shared → Prop} (P : PairArg prog w T a fp [] n Rel OK) (hh : A.handled = none) (room : A.units + 16 < cLine) (ok : OK s.heap) (hl : ps.length = n)
    (hc : ∀ i key v, Rel i key v → ∃ k, ps[i]? = some (k, key, v)) (al : AllAt s.heap ps) (nd : (ps.map (·.1)).Nodup) (hz : n ≤ sizeLine)
    (q : ∀ h' ep tk, h'.DictRaw s.heap.objs.size (entsA w ps) ep → (∀ b o, s.heap.get? b = some o → h'.get? b = some o) → Q (.ref s.heap.objs.size) { s with heap := h', toks := tk }) : wpAny (model prog w) A (call (.type "dict") [.ref a]) Q E s := by
  refine call_dict_arg P ok fun s1 e1 hdf ok1 => ?_
  subst e1
  have room1 : A.in1.in1.units + 8 < cLine := by simp only [Around.in1_units]; omega
  have ss : ∀ h', (∀ b o, b ≠ s.heap.objs.size → s.heap.get? b = some o → h'.get? b = some o) → SeqsStay s.heap h' := fun h' k b o vs n hb _ => k b o (Nat.ne_of_lt (Heap.lt_size hb)) hb
  refine updateFrom_arg (A := A.in1) (Tab := fun i h => (∃ ep, h.DictRaw s.heap.objs.size (entsA w (ps.take i)) ep) ∧ ∀ b o, b ≠ s.heap.objs.size → s.heap.get? b = some o → h.get? b = some o) P .none hh ok1 hdf ⟨⟨_, _, Heap.get?_push_size _ rfl, ⟨rfl, rfl, rfl⟩, rfl⟩, fun b o _ e => Heap.get?_push_of_some _ e⟩ (fun i h tb => ?_) (fun i h h' wr' hd hw tb hk => ?_) (fun i k v s' Q' E' hi hr tb _ hQ => ?_) (fun h' tk tb hk => ?_)
  · obtain ⟨⟨ep, o, ho, _⟩, _⟩ := tb
    exact Heap.lt_size ho
  · obtain ⟨⟨ep, hm⟩, hb⟩ := tb
    refine ⟨⟨ep, hm.at fun o e => hk _ o hd e⟩, fun b o ne e => hk b o (fun hm' => ?_) (hb b o ne e)⟩
    rcases hw b hm' with z | z
    · cases z
    · rw [Heap.get?_push_of_some _ e] at z
      cases z
  · obtain ⟨⟨ep, hm⟩, hb⟩ := tb
    obtain ⟨k', hk'⟩ := hc i k v hr
    have al' := al.keep (ss s'.heap hb)
    have me := al' _ (List.mem_of_getElem? hk')
    have nt : ((ps.take i).map (·.1)).Nodup := by rw [List.map_take]; exact nd.sublist (List.take_sublist _ _)
    refine set_any room1 me.1 me.2 hm (ents_of (fun p m => al' p (List.mem_of_mem_take m)) nt) (fresh_key nd hk') (by rw [List.length_map, List.length_take]; omega) fun h' ep' tk hm' hs => ?_
    refine hQ h' tk ⟨⟨ep', ?_⟩, fun b o ne e => hs.extBut b o ne (hb b o ne e)⟩ hs
    have e : entsA w (ps.take (i + 1)) = (entsA w (ps.take i)).push ⟨k'.hash w, k, v⟩ := by
      unfold entsA
      rw [List.take_add_one, hk', List.map_append]
      simp [entA]
    rw [e]
    exact hm'
  · obtain ⟨⟨ep, hm⟩, hb⟩ := tb
    rw [List.take_of_length_le (Nat.le_of_eq hl)] at hm
    exact ⟨rfl, q h' ep tk hm fun b o e => hb b o (Nat.ne_of_lt (Heap.lt_size e)) e⟩
end
end Sr

set_option Elab.async false
set_option linter.all false
set_option maxRecDepth 100000
set_option maxHeartbeats 4000000
namespace Sr
open PySem PySem.Spec PyProof.Rows L2
/-! ### the dict with keys of all kinds as a thing of the hand layer -/
inductive KeyIs (H : Hp) : NestedKey → V → Prop
  | non : KeyIs H .none .non
  | bl (b : Bool) : KeyIs H (.num (if b = true then 1 else 0)) (.bl b)
  | int (i : Int) : KeyIs H (.num i) (.int i)
  | str (s : Str) : KeyIs H (.text s) (.str s)
  | tup {q : Addr} {ss : List Str} : H q = some (.tup (ss.map V.str)) → KeyIs H (.tup (ss.map NestedKey.text)) (.ref q)
  | one {q : Addr} {i : Int} : H q = some (.tup [.int i]) → KeyIs H (.tup [.num i]) (.ref q)
theorem KeyIs.mono {H H' : Hp} {k : NestedKey} {v : V} (e : Same H H') (x : KeyIs H k v) : KeyIs H' k v := by
  cases x with
  | non => exact .non
  | bl b => exact .bl b
  | int i => exact .int i
  | str s => exact .str s
  | tup h => exact .tup (e _ _ h)
  | one h => exact .one (e _ _ h)
theorem nested_texts {h : Heap} : ∀ {ss : List Str} {us : List Value}, Vals (ss.map V.str) us → NestedAll h (ss.map NestedKey.text) us
  | [], _, r => by cases r; exact .nil
  | s :: t, us, r => by
    cases us with
    | nil => cases r
    | cons u us =>
      cases r with
      | cons r1 r2 =>
        obtain ⟨tk, rfl⟩ := r1
        exact .cons (.text s tk) (nested_texts r2)
theorem depth_texts : ∀ ss : List Str, NestedKey.depthAll (ss.map NestedKey.text) = 0
  | [] => rfl
  | s :: t => by
    rw [List.map_cons, NestedKey.depthAll, depth_texts t]
    rfl
theorem KeyIs.deep {H : Hp} {k : NestedKey} {v : V} (x : KeyIs H k v) : k.depth ≤ 8 := by
  cases x with
  | tup h =>
    rw [NestedKey.depth, depth_texts]
    decide
  | one h => exact Nat.le_of_ble_eq_true rfl
  | _ => exact Nat.zero_le _
theorem KeyIs.nested {P : Program} {w : World} {H : Hp} {h : Heap} {k : NestedKey} {v : V} {u : Value} (ok : HOk P w H h) (x : KeyIs H k v) (r : RelV v u) : NestedIs h k u := by
  cases x with
  | non => subst r; exact .none
  | bl b => subst r; exact .bool rfl
  | int i =>
    obtain ⟨t, rfl⟩ := r
    exact .int i t
  | str s =>
    obtain ⟨t, rfl⟩ := r
    exact .text s t
  | tup hq =>
    subst r
    obtain ⟨_, its, rv, o, e, c, n, d⟩ := ok _ _ hq
    exact .tup e c d (by simpa using nested_texts rv)
  | one hq =>
    subst r
    obtain ⟨_, its, rv, o, e, c, n, d⟩ := ok _ _ hq
    cases rv with
    | cons r1 r2 =>
      cases r2
      obtain ⟨tk, rfl⟩ := r1
      exact .tup e c d (.cons (.int _ tk) .nil)
/-- what the dict at d is -/
def MixO (d : Addr) (es : Array DictEntry) (ep : Nat) : HO := .ext fun h => h.DictRaw d es ep ∧ (d == sysModules) = false
abbrev KV3 := NestedKey × V × V
def MixE (w : World) (kvs : List KV3) (H : Hp) (es : Array DictEntry) : Prop := es.size = kvs.length ∧ (kvs.map (·.1)).Nodup ∧
  ∀ (j : Nat) (p : KV3), kvs[j]? = some p → ∃ e, es[j]? = some e ∧ KeyIs H p.1 p.2.1 ∧ RelV p.2.1 e.key ∧ RelV p.2.2 e.val ∧ e.hash = p.1.hash w
theorem MixE.mono {w : World} {H H' : Hp} {kvs : List KV3} {es : Array DictEntry} (e : Same H H') (x : MixE w kvs H es) : MixE w kvs H' es := by
  obtain ⟨h2, h3, h4⟩ := x
  refine ⟨h2, h3, fun j p hp => ?_⟩
  obtain ⟨en, g1, g2, g3⟩ := h4 j p hp
  exact ⟨en, g1, g2.mono e, g3⟩
def IsMix (w : World) (d : Addr) (kvs : List KV3) (H : Hp) (o : HO) : Prop := ∃ (es : Array DictEntry) (ep : Nat), o = MixO d es ep ∧ MixE w kvs H es
def MixAt (w : World) (H : Hp) (d : Addr) (kvs : List KV3) : Prop := ∃ o, H d = some o ∧ IsMix w d kvs H o
theorem IsMix.mono {w : World} {H H' : Hp} {d : Addr} {kvs : List KV3} {o : HO} (e : Same H H') (x : IsMix w d kvs H o) : IsMix w d kvs H' o := by
  obtain ⟨es, ep, h1, h2⟩ := x
  exact ⟨es, ep, h1, h2.mono e⟩
theorem MixAt.mono {w : World} {H H' : Hp} {d : Addr} {kvs : List KV3} (e : Same H H') (x : MixAt w H d kvs) : MixAt w H' d kvs :=
  let ⟨o, h, x⟩ := x
  ⟨o, e _ _ h, x.mono e⟩
section
variable {X : Cx} {pins : List (Addr × Obj)} {σ : L2.St} {H : Hp} {s : Shared}
theorem IsMix.ents {w : World} {kvs : List KV3} {P : Program} {h : Heap} {es : Array DictEntry} (ok : HOk P w H h) (h2 : es.size = kvs.length) (h3 : (kvs.map (·.1)).Nodup)
    (h4 : ∀ (j : Nat) (p : KV3), kvs[j]? = some p → ∃ e, es[j]? = some e ∧ KeyIs H p.1 p.2.1 ∧ RelV p.2.1 e.key ∧ RelV p.2.2 e.val ∧ e.hash = p.1.hash w) : EntsOf w h (kvs.map (·.1)) es := by
  refine ⟨by rw [h2, List.length_map], fun j e he => ?_, h3⟩
  have lt : j < kvs.length := by rw [← h2]; exact (Array.getElem?_eq_some_iff.mp he).1
  obtain ⟨e', g1, g2, g3, g4, g5⟩ := h4 j kvs[j] (List.getElem?_eq_getElem lt)
  rw [he] at g1
  cases g1
  exact ⟨kvs[j].1, by rw [List.getElem?_map, List.getElem?_eq_getElem lt]; rfl, g2.nested ok g3, g5, g2.deep⟩
theorem MixAt.open (I : Inv X pins σ H s) {d : Addr} {kvs : List KV3} (m : MixAt X.w H d kvs) : ∃ es ep, H d = some (MixO d es ep) ∧ s.heap.DictRaw d es ep ∧ (d == sysModules) = false ∧ EntsOf X.w s.heap (kvs.map (·.1)) es ∧ es.size = kvs.length ∧
    ∀ (j : Nat) (p : KV3), kvs[j]? = some p → ∃ e, es[j]? = some e ∧ KeyIs H p.1 p.2.1 ∧ RelV p.2.1 e.key ∧ RelV p.2.2 e.val := by
  obtain ⟨o, h, es, ep, rfl, h2, h3, h4⟩ := m
  obtain ⟨⟨g1, g2⟩, _⟩ := I.hok d _ h
  exact ⟨es, ep, h, g1, g2, IsMix.ents I.hok h2 h3 h4, h2, fun j p hp => by
    obtain ⟨e, a1, a2, a3, a4, _⟩ := h4 j p hp
    exact ⟨e, a1, a2, a3, a4⟩⟩
theorem mixPairs_of (I : Inv X pins σ H s) : ∀ {ts : List Addr} {kvs : List KV3}, Paired (fun t (p : KV3) => SqT X.K H t [p.2.1, p.2.2] ∧ KeyIs H p.1 p.2.1) ts kvs →
    ∃ ps : List KE3, ps.length = ts.length ∧ kvs.length = ts.length ∧ ∀ (j : Nat) (p : KV3), kvs[j]? = some p → ∃ t q, ts[j]? = some t ∧ ps[j]? = some q ∧ p.1 = q.1 ∧ KeyIs H p.1 p.2.1 ∧ RelV p.2.1 q.2.1 ∧ RelV p.2.2 q.2.2 ∧ IsTup s.heap t #[q.2.1, q.2.2] ∧ NestedIs s.heap q.1 q.2.1
  | _, _, .nil => ⟨[], rfl, rfl, fun j q e => by simp at e⟩
  | _, _, .cons (a := t) (b := kv) h r => by
    obtain ⟨xs, hl, hl2, hp⟩ := mixPairs_of I r
    obtain ⟨hq, hk⟩ := h
    obtain ⟨its, rv, ht, _⟩ := I.tuple hq
    obtain ⟨u, y, ei, ru, ry⟩ := vals2 rv
    subst ei
    refine ⟨(kv.1, u, y) :: xs, by rw [List.length_cons, List.length_cons, hl], by rw [List.length_cons, List.length_cons, hl2], fun j p e => ?_⟩
    cases j with
    | zero =>
      obtain rfl : kv = p := Option.some.inj e
      exact ⟨t, _, rfl, rfl, rfl, hk, ru, ry, ht, hk.nested I.hok ru⟩
    | succ j =>
      obtain ⟨t', q', e1, e2⟩ := hp j p (by simpa using e)
      exact ⟨t', q', by simpa using e1, by simpa using e2⟩
theorem keys_same {ps : List KE3} {kvs : List KV3} {n : Nat} (h1 : ps.length = n) (h2 : kvs.length = n) (h : ∀ (j : Nat) (p : KV3), kvs[j]? = some p → ∃ q, ps[j]? = some q ∧ p.1 = q.1) : ps.map (·.1) = kvs.map (·.1) := by
  refine List.ext_getElem? fun j => ?_
  rw [List.getElem?_map, List.getElem?_map]
  by_cases lt : j < kvs.length
  · obtain ⟨q, e1, e2⟩ := h j kvs[j] (List.getElem?_eq_getElem lt)
    rw [e1, List.getElem?_eq_getElem lt]
    exact congrArg some e2.symm
  · rw [List.getElem?_eq_none (by omega), List.getElem?_eq_none (by omega)]
    rfl
end
section
variable {X : Cx}
theorem call_dictM (hcalm : X.calm = true) (hu : X.A.units + 64 < cLine) : CallR X (.type "dict") (fun xs H Q => ∃ (a : Addr) (ts : List Addr) (kvs : List KV3), xs = [.ref a] ∧ SqL X.K H a (ts.map V.ref) ∧ Paired (fun t (p : KV3) => SqT X.K H t [p.2.1, p.2.2] ∧ KeyIs H p.1 p.2.1) ts kvs ∧
    (kvs.map (·.1)).Nodup ∧ ∀ p o, H p = none → IsMix X.w p kvs H o → Q (.ref p) (upd H p o)) := by
  intro pins s σ H xs us Q I r q
  obtain ⟨a, ts, kvs, ex, hq, hp, nd, q⟩ := q
  subst ex
  obtain ⟨u, eu, rx⟩ := vals1 r
  subst eu
  cases rx
  obtain ⟨its, rv, pl, hz⟩ := I.list hq
  have ei := refs_at rv
  subst ei
  rw [List.length_map] at hz
  obtain ⟨ps, hl, hl2, hpr⟩ := mixPairs_of I hp
  have ek : ps.map (·.1) = kvs.map (·.1) := keys_same hl hl2 fun j p e => by
    obtain ⟨t, q', _, e1, e2, _⟩ := hpr j p e
    exact ⟨q', e1, e2⟩
  have back : ∀ (j : Nat) (x : KE3), ps[j]? = some x → ∃ p : KV3, kvs[j]? = some p ∧ ∃ t, ts[j]? = some t ∧ p.1 = x.1 ∧ KeyIs H p.1 p.2.1 ∧ RelV p.2.1 x.2.1 ∧ RelV p.2.2 x.2.2 ∧ IsTup s.heap t #[x.2.1, x.2.2] ∧ NestedIs s.heap x.1 x.2.1 := fun j x e => by
    have lt : j < kvs.length := by
      have := (List.getElem?_eq_some_iff.mp e).1
      omega
    obtain ⟨t, q', e1, e2, r⟩ := hpr j kvs[j] (List.getElem?_eq_getElem lt)
    rw [e] at e2
    cases e2
    exact ⟨kvs[j], List.getElem?_eq_getElem lt, t, e1, r⟩
  obtain ⟨o, n, ho, hc, hd, hdat⟩ := pl
  have P := PairArg.list (prog := X.prog) (w := X.w) a (ts.map Value.ref).toArray (fun j => ts.getD j 0) (ps.map fun x => (x.2.1, x.2.2))
  refine dict_any (ps := ps) P (I.ok.hd hcalm) (by omega) ⟨⟨o, n, ho, hc, hd, hdat⟩, by simp [hl], fun j k v e => ?_⟩ (by simp) (fun i k v e => ?_) (fun x hx => ?_) (by rw [ek]; exact nd) (by rw [List.length_map, hl]; exact hz) fun h' ep tk hm keep => ?_
  · rw [List.getElem?_map] at e
    obtain ⟨x, hx, e⟩ := Option.map_eq_some_iff.mp e
    obtain ⟨p, _, t, e1, e2, e3, e4, e5, e6, e7⟩ := back j x hx
    cases e
    have g : ts.getD j 0 = t := by rw [List.getD_eq_getElem?_getD, e1]; rfl
    exact ⟨by simp [e1], .inl (by show IsTup s.heap (ts.getD j 0) _; rw [g]; exact e6)⟩
  · have e : (ps.map fun x => (x.2.1, x.2.2))[i]? = some (k, v) := e
    rw [List.getElem?_map] at e
    obtain ⟨x, hx, e⟩ := Option.map_eq_some_iff.mp e
    cases e
    exact ⟨x.1, hx⟩
  · obtain ⟨j, hj⟩ := List.mem_iff_getElem?.mp hx
    obtain ⟨p, _, t, e1, e2, e3, e4, e5, e6, e7⟩ := back j x hj
    exact ⟨e7, by rw [← e2]; exact e3.deep⟩
  · have hsm : (s.heap.objs.size == sysModules) = false := beq_eq_false_iff_ne.mpr (Nat.ne_of_gt I.big)
    refine ⟨.ref s.heap.objs.size, upd H s.heap.objs.size (MixO s.heap.objs.size (entsA X.w ps) ep), I.laid (t' := tk) keep (Nat.le_refl _) ⟨⟨hm, hsm⟩, ?_, fun h1 h2 ⟨φ1, φ2⟩ k => ⟨φ1.at k, φ2⟩⟩, rfl, q _ _ (I.hok.fresh (Nat.le_refl _)) ⟨_, _, rfl, ?_, nd, fun j p e => ?_⟩⟩
    · obtain ⟨o', g, _⟩ := hm
      exact ⟨o', g⟩
    · rw [entsA, List.size_toArray, List.length_map, hl, hl2]
    · obtain ⟨t, x, e1, e2, e3, e4, e5, e6, _⟩ := hpr j p e
      refine ⟨entA X.w x, by rw [entsA_at, e2]; rfl, e4, e5, e6, ?_⟩
      rw [e3]
      rfl
theorem call_isiM : CallR X (.builtin "isinstance") (fun xs H Q => ∃ d kvs, xs = [.ref d, .ty "dict"] ∧ MixAt X.w H d kvs ∧ Q (.bl true) H) := by
  intro pins s σ H xs us Q I r h
  obtain ⟨d, kvs, rfl, m, q⟩ := h
  obtain ⟨u1, u2, rfl, r1, r2⟩ := vals2 r
  cases r1
  cases r2
  obtain ⟨es, ep, _, ⟨o, h1, h2, _⟩, _⟩ := m.open I
  exact PySem.W.kia_one PySem.W.kitx_dict I.kIn ⟨o, h1, h2.1⟩ (kit_ty (show kitB "dict" "dict" = some true by decide +kernel)) (fun z => nomatch z) fun tk => ⟨.bl true, H, I.tok tk, rfl, q⟩
theorem ix_mix (hu : X.A.units + 64 < cLine) : IxR X (fun x y H Q => ∃ (d : Addr) (kvs : List KV3) (z : Str) (j : Nat) (p : KV3), x = .ref d ∧ y = .str z ∧ MixAt X.w H d kvs ∧ kvs[j]? = some p ∧ p.1 = .text z ∧ Q p.2.2 H) := by
  intro value slice pins s σ H x y v u Q I rx ry h hs
  obtain ⟨d, kvs, z, j, p, rfl, rfl, m, hj, hp, q⟩ := h
  cases rx
  obtain ⟨t, rfl⟩ := ry
  obtain ⟨es, ep, _, hm, hsm, en, sz, ents⟩ := m.open I
  obtain ⟨e, he, _, _, rv⟩ := ents j p hj
  obtain ⟨o, ho, hc, hdat⟩ := id hm
  refine tail_any hm.typeIs slot_dict_getitem.lookup ?_ hs
  unfold getItem
  try with_reducible refine wpAny_holding ?_
  refine wpAny_bind (wpAny_sequenceKey hm.typeIs (by decide) ?_)
  refine wpAny_bind (wpAny_callSpecial?_slot (name := Str.ofString "__getitem__") hm.typeIs slot_dict_getitem (wpAny_call_entry slot_dict_getitem hm.typeIs entry_dict_getitem ?_ (args_dict_getitem _ _)))
  show wpAny _ _ (dictGet d (.str z t) >>= _) _ _ s
  refine wpAny_bind (get_any (by simp only [Around.in1_units]; omega) (.text z t) (Nat.zero_le _) ho hdat en (by rw [List.getElem?_map, hj]; exact congrArg some hp) he fun tk => ?_)
  exact wpAny_pure ⟨e.val, rfl, wpAny_pure ⟨p.2.2, H, I.tok tk, rv, q⟩⟩
theorem ix_mixK (hu : X.A.units + 64 < cLine) : IxR X (fun x y H Q => ∃ (d : Addr) (kvs : List KV3) (j : Nat) (p : KV3), x = .ref d ∧ y = p.2.1 ∧ MixAt X.w H d kvs ∧ kvs[j]? = some p ∧ Q p.2.2 H) := by
  intro value slice pins s σ H x y v u Q I rx ry h hs
  obtain ⟨d, kvs, j, p, rfl, rfl, m, hj, q⟩ := h
  cases rx
  obtain ⟨es, ep, _, hm, hsm, en, sz, ents⟩ := m.open I
  obtain ⟨e, he, ki, _, rv⟩ := ents j p hj
  obtain ⟨o, ho, hc, hdat⟩ := id hm
  refine tail_any hm.typeIs slot_dict_getitem.lookup ?_ hs
  unfold getItem
  try with_reducible refine wpAny_holding ?_
  refine wpAny_bind (wpAny_sequenceKey hm.typeIs (by decide) ?_)
  refine wpAny_bind (wpAny_callSpecial?_slot (name := Str.ofString "__getitem__") hm.typeIs slot_dict_getitem (wpAny_call_entry slot_dict_getitem hm.typeIs entry_dict_getitem ?_ (args_dict_getitem _ _)))
  show wpAny _ _ (dictGet d u >>= _) _ _ s
  refine wpAny_bind (get_any (by simp only [Around.in1_units]; omega) (ki.nested I.hok ry) ki.deep ho hdat en (by rw [List.getElem?_map, hj]; rfl) he fun tk => ?_)
  exact wpAny_pure ⟨e.val, rfl, wpAny_pure ⟨p.2.2, H, I.tok tk, rv, q⟩⟩
/-- for k in such a dict -/
def ItM (w : World) (d : Addr) (kvs : List KV3) (es : Array DictEntry) (ep : Nat) : It :=
  ⟨fun i H => (H d = some (MixO d es ep) ∧ MixE w kvs H es) ∧ i < kvs.length, fun i H x H' => H' = H ∧ ∃ p, kvs[i]? = some p ∧ x = p.2.1, fun i H => (H d = some (MixO d es ep) ∧ MixE w kvs H es) ∧ kvs.length ≤ i⟩
theorem walk_mix {w : World} {d : Addr} {kvs : List KV3} {es : Array DictEntry} {ep : Nat} : Walk (ItM w d kvs es ep) kvs.length (fun H => H d = some (MixO d es ep) ∧ MixE w kvs H es) (YAt (kvs.map (·.2.1))) := by
  refine ⟨fun i H hi m => ⟨m, hi⟩, fun H m => ⟨m, Nat.le_refl _⟩, fun i H x H' hi m y => ?_⟩
  obtain ⟨e, p, hp, rfl⟩ := y
  exact ⟨e, by rw [List.getElem?_map, hp]; rfl⟩
end
theorem turn_mix {P : Program} {w : World} {K : PySem.W.Frag} {tg : Expr} {d it : Addr} {es : Array DictEntry} {ep : Nat} {kvs : List KV3} :
    Turn P w K tg (ItM w d kvs es ep) [it] it (fun i h => h.IsKeyIter it d i es.size ep) where
  mem := List.mem_singleton.mpr rfl
  obj i h st b hb := by
    obtain rfl := List.mem_singleton.mp hb
    obtain ⟨oi, e, c, dd⟩ := st
    exact ⟨oi, e, fun v z => by rw [dd] at z; cases z⟩
  keep i h h' st k := st.at (k it (List.mem_singleton.mpr rfl))
  item := by
    rintro X rfl rfl rfl hc i pins s σ H E I hf st ⟨⟨hd, hsz, nd, hx⟩, hi⟩
    obtain ⟨f0, f1, f2, f3, f4, f5⟩ := hf it (List.mem_singleton.mpr rfl)
    obtain ⟨⟨hm, _⟩, _⟩ := I.hok d _ hd
    obtain ⟨e, he, hk, rk, rv, _⟩ := hx i kvs[i] (List.getElem?_eq_getElem hi)
    have lt : i < es.size := by omega
    refine wpAny_pyNext_keys_item_raw st hm lt fun h' st' sb => ?_
    have I1 : Inv X pins σ H { s with heap := h' } := I.turned (t' := s.toks) (fun b ob hb e => (sb.2 b hb).trans e) f0 f1 f3 f4 f5
    obtain ⟨oi, a1, a2, a3⟩ := id st'
    rw [Array.getElem?_eq_getElem lt] at he
    cases he
    exact ⟨_, rfl, go_of (s := { s with heap := h' }) a1 a2 a3 (by decide) ⟨_, H, I1, rk, ⟨rfl, kvs[i], List.getElem?_eq_getElem hi, rfl⟩, st', fun b hb => (hf b hb).1⟩⟩
  done := by
    rintro X rfl rfl rfl hc i pins s σ H E I hf st ⟨⟨hd, hsz, nd, hx⟩, hi⟩
    obtain ⟨f0, f1, f2, f3, f4, f5⟩ := hf it (List.mem_singleton.mpr rfl)
    obtain ⟨⟨hm, _⟩, _⟩ := I.hok d _ hd
    exact wpAny_pyNext_keys_end_raw (I.ok.hd hc) st hm (by omega) fun h' eb => ⟨rfl, I.turned (t' := s.toks) (fun b ob hb e => eb b ob hb e) f0 f1 f3 f4 f5⟩
  self A i s Q E st h := wpAny_pyIter_keyiter st h
def iMix (w : World) (td : TE) : TI := fun σ H R => td σ H fun x H1 => ∃ (d : Addr) (kvs : List KV3), x = .ref d ∧ MixAt w H1 d kvs ∧ ∀ es ep, H1 d = some (MixO d es ep) → MixE w kvs H1 es → R (ItM w d kvs es ep) H1
theorem pi_mix {X : Cx} {tg e : Expr} {td : TE} (he : PE X e td) : PI X tg e (iMix X.w td) := by
  refine ⟨fun pins s σ H R I h => ?_⟩
  refine thn (he.run pins s σ H _ I h) fun u s1 ⟨x, H1, I1, rx, d, kvs, ex, m, q⟩ => ?_
  subst ex
  cases rx
  obtain ⟨o, h0, es, ep, rfl, me⟩ := m
  obtain ⟨⟨hm, hsm⟩, _⟩ := I1.hok d _ h0
  refine wpAny_pyIter_dict_raw hsm hm (pi_one (tk := s1.toks) I1 _ turn_mix ⟨_, Heap.get?_push_size _ rfl, rfl, rfl⟩ (q es ep h0 me))
end Sr

set_option Elab.async false
set_option linter.all false
set_option maxRecDepth 100000
set_option maxHeartbeats 4000000
namespace K07
open PySem PySem.Spec PyProof.Rows L2 Sr
def flatD (d : Dt) : Prop := isSeq d = false ∧ d ≠ .dic
def valD : Dt → V
  | .bl b => .bl b
  | .int i => .int i
  | .str s => .str s
  | _ => .non
theorem flat_val {H : Hp} {v : V} {d : Dt} (h : Is H v d) (f : flatD d) : v = valD d ∧ flatV (valD d) = true := by
  cases h with
  | lst => cases f.1
  | tup => cases f.1
  | dic => exact absurd rfl f.2
  | _ => exact ⟨rfl, rfl⟩
def seqOf : Dt → Option (List Dt)
  | .lst l => some l
  | .tup l => some l
  | _ => none
/-- the same, of a datum with a property -/
def spBP (p : Dt → Prop) (f : Dt → Bool) : Sp := fun vs H Q _ => ∃ v d, vs = [v] ∧ Is H v d ∧ p d ∧ ∀ H', Same H H' → Q (.bl (f d)) H'
theorem spBP_len {p : Dt → Prop} {f : Dt → Bool} (vs : List V) (H : Hp) (Q : VK) (E : XK) (h : spBP p f vs H Q E) : vs.length = 1 := by
  obtain ⟨v, d, rfl, _⟩ := h
  rfl
def words : List Str := ["points", "few", "home", "early", "late"]
def wordD : Dt → Bool
  | .str s => decide (s ∈ words)
  | _ => false
/-- unlike words in a list or a tuple -/
def wordsOk (ds : List Dt) : Bool := ds.all wordD && decide ((met (strsOf ds) (strsOf ds).length).length = (strsOf ds).length)
def rankOk (d : Dt) : Bool := match seqOf d with
  | some l => wordsOk l
  | none => false
/-- what may stand in a list: what is flat, or plain data -/
def elP (d : Dt) : Prop := flatD d ∨ (isSeq d = true ∧ plainD d = true ∧ SeqAt.shaped (toP d) = true)
def rkP (d : Dt) : Prop := ∀ l, seqOf d = some l → ∀ x ∈ l, elP x
structure Wds (K : PySem.W.Frag) (mg : Str → Option Value) : Prop where
  at_ : mg "WORDS" = some (.ref (He.ga K "WORDS"))
  is_ : ∀ H : Hp, SqT K H (He.ga K "WORDS") (words.map V.str)
theorem Wds.pe {X : Cx} {p : Pos} {K : PySem.W.Frag} {mg : Str → Option Value} (W : Wds K mg) (h : Gl X "WORDS") (hm : X.mg = mg := by rfl) : PE X (.Name "WORDS" p) (tC (.ref (He.ga K "WORDS"))) := pe_glob h (hm ▸ W.at_) rfl
theorem word_str {ds : List Dt} (h : ds.all wordD = true) : ds.all isStr = true := by
  rw [List.all_eq_true] at h ⊢
  intro d hd
  have := h d hd
  cases d <;> first | rfl | cases this
theorem inV_strs (s : Str) : ∀ ws : List Str, inV (.str s) (ws.map V.str) = decide (s ∈ ws)
  | [] => rfl
  | x :: r => by
    have ih := inV_strs s r
    unfold inV at ih ⊢
    rw [List.map_cons, List.any_cons, ih]
    by_cases c : x = s
    · subst c
      simp [eqV]
    · have c' : ¬ s = x := fun z => c z.symm
      simp [eqV, c, c']
theorem word_flat {d : Dt} (f : flatD d) : inV (valD d) (words.map V.str) = wordD d := by
  cases d with
  | str s =>
    exact inV_strs s words
  | non => rfl
  | bl b => cases b <;> rfl
  | int i => rfl
  | lst l => cases f.1
  | tup l => cases f.1
  | dic => exact absurd rfl f.2
def wordsP : List PyData := words.map PyData.str
theorem words_p (K : PySem.W.Frag) (H : Hp) : ∀ ws : List Str, DpAll K H (ws.map V.str) (ws.map PyData.str)
  | [] => .nil
  | s :: r => .cons (.str s) (words_p K H r)
theorem no_word {d : Dt} (h : isSeq d = true) : (wordsP.any fun z => PyData.eqv z (toP d)) = false := by
  cases d with
  | lst l => rfl
  | tup l => rfl
  | _ => cases h
theorem op_inDTK {X : Cx} (K : PySem.W.Frag) (hK : X.K = K) (hu : X.A.units + 65 < cLine) : OpR X (compareOp .In) (rInDT K) := hK ▸ op_inDT hu
section
variable {P : Program} {w : World} {K : PySem.W.Frag} {mg : Str → Option Value} {base : Heap}
abbrev s_is_rank : Stmt := top 32
theorem sc_is_rank : FnScope ["thing", "word"] ["thing"] (defScope s_is_rank) := ⟨rfl, rfl, rfl, by decide +kernel, rfl, by decide +kernel, by decide +kernel⟩
theorem c_is_rank (T : Txt K mg) (W : Wds K mg) (D : Dfn K mg "is_rank" s_is_rank) (C_is_list : Cal P w K mg base 1 "is_list" ["thing"] (spB isSeq)) : Cal P w K mg base 2 "is_rank" ["thing"] (spBP rkP rankOk) := by
  refine D.cal sc_is_rank (fun _ _ _ _ _ _ us hl => match us, hl with | [_], _ => rfl) spBP_len fun cdv A outer s H vs Q E hr h => ?_
  obtain ⟨v, d, rfl, hv, hf, q⟩ := h
  have turn : ∀ (xs : List V) (ds : List Dt) (H1 : Hp), IsA H1 xs ds → (∀ x ∈ ds, elP x) → ∀ (i : Nat) (u y : V) (H2 : Hp) (R : VK), xs[i]? = some u → ((ds.map wordD).map V.bl)[i]? = some y → Same H1 H2 → (∀ H3, Same H2 H3 → R y H3) →
      (rIn K false u (.ref (He.ga K "WORDS")) H2 R ∨ rInDT K u (.ref (He.ga K "WORDS")) H2 R) := fun xs ds H1 hA hP i u y H2 R hu hy s2 k => by
    obtain ⟨e, he, hI⟩ := hA.get hu
    rw [List.getElem?_map, List.getElem?_map, he] at hy
    obtain rfl : V.bl (wordD e) = y := Option.some.inj hy
    rcases hP e (List.mem_of_getElem? he) with f | ⟨f1, f2, f3⟩
    · obtain ⟨rfl, fv⟩ := flat_val hI f
      refine .inl ⟨He.ga K "WORDS", words.map V.str, rfl, .inr (W.is_ _), fv, by decide +kernel, ?_⟩
      show R (.bl (inV (valD e) (words.map V.str))) H2
      rw [word_flat f]
      exact k _ (Same.refl _)
    · refine .inr ⟨toP e, wordsP, dp_of (hI.mono s2) f2, .tup (W.is_ _) (words_p K _ words), f3, by decide +kernel, ?_⟩
      rw [no_word f1]
      have : wordD e = false := by cases e <;> first | rfl | cases f1
      rw [this] at k
      exact k _ (Same.refl _)
  have fin : ∀ (xs : List V) (ds : List Dt) (H1 : Hp), Same H H1 → IsA H xs ds → rankOk d = wordsOk ds → ds.all wordD = true →
      xs = (strsOf ds).map V.str ∧ ∀ H', Same H1 H' → Q (.bl (decide (V.int ((met (strsOf ds) (strsOf ds).length).length : Nat) = V.int (xs.length : Nat)))) H' := fun xs ds H1 s1 hA e1 e2 => by
    have ex := hA.strs (word_str e2)
    refine ⟨ex, fun H' s' => ?_⟩
    have el : xs.length = (strsOf ds).length := by
      have := congrArg List.length ex
      rwa [List.length_map] at this
    have e : decide (V.int ((met (strsOf ds) (strsOf ds).length).length : Nat) = V.int (xs.length : Nat)) = rankOk d := by
      rw [e1, wordsOk, e2, Bool.true_and, el]
      by_cases c : (met (strsOf ds) (strsOf ds).length).length = (strsOf ds).length
      · rw [decide_eq_true c, decide_eq_true (by rw [c])]
      · rw [decide_eq_false c, decide_eq_false fun z => c (by injection z with z; exact Int.ofNat.inj z)]
    rw [e]
    exact q H' (s1.trans s')
  have bad : ∀ (ds : List Dt), rankOk d = wordsOk ds → ds.all wordD = false → rankOk d = false := fun ds e1 e2 => by rw [e1, wordsOk, e2]; rfl
  have hv0 := hv
  cases hv with
  | lst h r z =>
    rename_i a xs ds
    refine ⟨_, (pss_cons (ps_if (PW.pt (pw_or (pt_not (pt_val (pe_cal C_is_list hr (by first | decide | omega) (by rfl) (pa_cons (pv 0) pa_nil)))) (pw_or1 (pt_not (pt_val (pe_callB (id := "all") (cr_all rfl) (by rfl) T.all (by decide +kernel) (pa_cons (pe_lc (own := [("word", 1)]) (g := gName 1) (tt := tYes) rfl sc_is_rank.nd (pi_list (pv 0)) (blkOk_by (N := ["thing", "word"]) (sc := defScope s_is_rank) (by decide +kernel)) (fun _ _ _ _ _ => (pg_name (i := 1) sc_is_rank.nd rfl (by first | exact Or.inl rfl | exact Or.inr rfl))) (fun _ _ _ _ _ => pts_nil) (fun _ _ _ _ _ => (pe_cmpR (op_or (op_in_seqK K rfl) (op_inDTK K rfl (u65 hr))) (pv 1) (W.pe (by rfl)) (by rfl)))) pa_nil))))))) (pss_one (ps_ret pe_bl)) pss_nil)
      (pss_one (ps_ret (pe_cmpR op_eq (pe_lenSetT rfl (by rfl) T.len (by rfl) T.set (pv 0)) (pe_callB (id := "len") call_len_seq (by rfl) T.len (by decide +kernel) (pa_cons (pv 0) pa_nil)) (nomark _))))), ?_⟩
    refine ⟨_, rfl, _, _, rfl, .lst h r z, fun H1 s1 => ⟨_, rfl, iteF ⟨_, rfl, a, rfl, ⟨_, SqL.of (s1 _ _ h)⟩, fun D hD => lc_pure walk_list walk_at ((ds.map wordD).map V.bl) (by rw [List.length_map, List.length_map, r.len]) (sz z) hD (fun H2 s2 => SqL.of (s2 _ _ (s1 _ _ h)))
      (fun i u y H2 R hi hu hy s2 k => ⟨_, rfl, turn xs ds H1 (r.mono s1) (hf ds rfl) i u y H2 R hu hy s2 k⟩) (fun H2 s2 h2 => ⟨D, ds.map wordD, rfl, SqL.of h2, ?_⟩)⟩⟩⟩
    refine ⟨_, rfl, ?_⟩
    rw [List.all_map]
    cases c : ds.all wordD with
    | true =>
      obtain ⟨ex, q2⟩ := fin xs ds H1 s1 r rfl c
      rw [show ds.all (id ∘ wordD) = true from c]
      refine iteF ⟨_, rfl, a, strsOf ds, rfl, .inl (by rw [← ex]; exact SqL.of (s2 _ _ (s1 _ _ h))), by have := congrArg List.length ex; rw [List.length_map] at this; omega, _, rfl, a, xs, rfl, .inl (SqL.of (s2 _ _ (s1 _ _ h))), rfl, q2 _ s2⟩
    | false =>
      rw [show ds.all (id ∘ wordD) = false from c]
      rw [bad ds rfl c] at q
      exact iteT (q H2 (s1.trans s2))
  | tup h r z =>
    rename_i a xs ds
    refine ⟨_, (pss_cons (ps_if (PW.pt (pw_or (pt_not (pt_val (pe_cal C_is_list hr (by first | decide | omega) (by rfl) (pa_cons (pv 0) pa_nil)))) (pw_or1 (pt_not (pt_val (pe_callB (id := "all") (cr_all rfl) (by rfl) T.all (by decide +kernel) (pa_cons (pe_lc (own := [("word", 1)]) (g := gName 1) (tt := tYes) rfl sc_is_rank.nd (pi_tup (pv 0)) (blkOk_by (N := ["thing", "word"]) (sc := defScope s_is_rank) (by decide +kernel)) (fun _ _ _ _ _ => (pg_name (i := 1) sc_is_rank.nd rfl (by first | exact Or.inl rfl | exact Or.inr rfl))) (fun _ _ _ _ _ => pts_nil) (fun _ _ _ _ _ => (pe_cmpR (op_or (op_in_seqK K rfl) (op_inDTK K rfl (u65 hr))) (pv 1) (W.pe (by rfl)) (by rfl)))) pa_nil))))))) (pss_one (ps_ret pe_bl)) pss_nil)
      (pss_one (ps_ret (pe_cmpR op_eq (pe_lenSetT rfl (by rfl) T.len (by rfl) T.set (pv 0)) (pe_callB (id := "len") call_len_seq (by rfl) T.len (by decide +kernel) (pa_cons (pv 0) pa_nil)) (nomark _))))), ?_⟩
    refine ⟨_, rfl, _, _, rfl, .tup h r z, fun H1 s1 => ⟨_, rfl, iteF ⟨_, rfl, a, rfl, ⟨_, SqT.of (s1 _ _ h)⟩, fun D hD => lc_pure walk_tup walk_at ((ds.map wordD).map V.bl) (by rw [List.length_map, List.length_map, r.len]) (sz z) hD (fun H2 s2 => SqT.of (s2 _ _ (s1 _ _ h)))
      (fun i u y H2 R hi hu hy s2 k => ⟨_, rfl, turn xs ds H1 (r.mono s1) (hf ds rfl) i u y H2 R hu hy s2 k⟩) (fun H2 s2 h2 => ⟨D, ds.map wordD, rfl, SqL.of h2, ?_⟩)⟩⟩⟩
    refine ⟨_, rfl, ?_⟩
    rw [List.all_map]
    cases c : ds.all wordD with
    | true =>
      obtain ⟨ex, q2⟩ := fin xs ds H1 s1 r rfl c
      rw [show ds.all (id ∘ wordD) = true from c]
      refine iteF ⟨_, rfl, a, strsOf ds, rfl, .inr (by rw [← ex]; exact SqT.of (s2 _ _ (s1 _ _ h))), by have := congrArg List.length ex; rw [List.length_map] at this; omega, _, rfl, a, xs, rfl, .inr (SqT.of (s2 _ _ (s1 _ _ h))), rfl, q2 _ s2⟩
    | false =>
      rw [show ds.all (id ∘ wordD) = false from c]
      rw [bad ds rfl c] at q
      exact iteT (q H2 (s1.trans s2))
  | _ =>
    refine ⟨_, (pss_cons (ps_if (PW.pt (pw_or (pt_not (pt_val (pe_cal C_is_list hr (by first | decide | omega) (by rfl) (pa_cons (pv 0) pa_nil)))) (pw_or1 (pt_not (pt_val (pe_callB (id := "all") (cr_all rfl) (by rfl) T.all (by decide +kernel) (pa_cons (pe_lc (own := [("word", 1)]) (g := gName 1) (tt := tYes) rfl sc_is_rank.nd (pi_tup (pv 0)) (blkOk_by (N := ["thing", "word"]) (sc := defScope s_is_rank) (by decide +kernel)) (fun _ _ _ _ _ => (pg_name (i := 1) sc_is_rank.nd rfl (by first | exact Or.inl rfl | exact Or.inr rfl))) (fun _ _ _ _ _ => pts_nil) (fun _ _ _ _ _ => (pe_cmpR (op_or (op_in_seqK K rfl) (op_inDTK K rfl (u65 hr))) (pv 1) (W.pe (by rfl)) (by rfl)))) pa_nil))))))) (pss_one (ps_ret pe_bl)) pss_nil)
      (pss_one (ps_ret (pe_cmpR op_eq (pe_lenSetT rfl (by rfl) T.len (by rfl) T.set (pv 0)) (pe_callB (id := "len") call_len_seq (by rfl) T.len (by decide +kernel) (pa_cons (pv 0) pa_nil)) (nomark _))))), ?_⟩
    exact ⟨_, rfl, _, _, rfl, hv0, fun H1 s1 => ⟨_, rfl, iteT (q H1 s1)⟩⟩
end
end K07

set_option Elab.async false
set_option linter.all false
set_option maxRecDepth 100000
set_option maxHeartbeats 4000000
namespace K07
open PySem PySem.Spec PyProof.Rows L2 Sr
/-! ### ranks as data -/
abbrev Rk := Str × List Str
def EntR (Rv : V → List Str → Prop) (kvs : List (Key × V)) (rs : List Rk) : Prop := Paired (fun kv (p : Rk) => kv.1 = Sum.inr p.1 ∧ Rv kv.2 p.2) kvs rs
def TupV (H : Hp) (v : V) (ws : List Str) : Prop := ∃ t, v = .ref t ∧ H t = some (.tup (ws.map V.str))
def SeqV (H : Hp) (v : V) (ws : List Str) : Prop := ∃ t, v = .ref t ∧ (H t = some (.lst (ws.map V.str)) ∨ H t = some (.tup (ws.map V.str)))
theorem TupV.mono {H H' : Hp} (e : Same H H') {v : V} {ws : List Str} (h : TupV H v ws) : TupV H' v ws :=
  let ⟨t, e1, e2⟩ := h
  ⟨t, e1, e _ _ e2⟩
theorem SeqV.mono {H H' : Hp} (e : Same H H') {v : V} {ws : List Str} (h : SeqV H v ws) : SeqV H' v ws :=
  let ⟨t, e1, e2⟩ := h
  ⟨t, e1, e2.imp (e _ _) (e _ _)⟩
theorem TupV.seq {H : Hp} {v : V} {ws : List Str} (h : TupV H v ws) : SeqV H v ws :=
  let ⟨t, e1, e2⟩ := h
  ⟨t, e1, .inr e2⟩
theorem EntR.imp {Rv Rv' : V → List Str → Prop} (f : ∀ v ws, Rv v ws → Rv' v ws) : ∀ {kvs : List (Key × V)} {rs : List Rk}, EntR Rv kvs rs → EntR Rv' kvs rs
  | _, _, .nil => .nil
  | _, _, .cons h r => .cons ⟨h.1, f _ _ h.2⟩ (EntR.imp f r)
/-- the words of a kind -/
def wd (rs : List Rk) (s : Str) : List Str := (rs.lookup s).getD []
theorem wd_at {rs : List Rk} {p : Rk} (nd : (rs.map (·.1)).Nodup) (m : p ∈ rs) : wd rs p.1 = p.2 := by
  induction rs with
  | nil => cases m
  | cons q r ih =>
    rw [List.map_cons, List.nodup_cons] at nd
    unfold wd at ih ⊢
    rw [List.lookup_cons]
    rcases List.mem_cons.mp m with e | m'
    · subst e
      rw [beq_self_eq_true]
      rfl
    · have ne : (p.1 == q.1) = false := beq_eq_false_iff_ne.mpr fun e => nd.1 (e ▸ List.mem_map.mpr ⟨p, m', rfl⟩)
      rw [ne]
      exact ih nd.2 m'
theorem EntR.ent {Rv : V → List Str → Prop} {kvs : List (Key × V)} {rs : List Rk} (nd : (rs.map (·.1)).Nodup) (h : EntR Rv kvs rs) : Ent (fun s v => Rv v (wd rs s)) kvs (rs.map (·.1)) := by
  have go : ∀ {k : List (Key × V)} {r : List Rk}, (∀ p ∈ r, p ∈ rs) → EntR Rv k r → Ent (fun s v => Rv v (wd rs s)) k (r.map (·.1)) := by
    intro k r sub e
    induction e with
    | nil => exact .nil
    | cons hd tl ih => exact .cons ⟨hd.1, by show Rv _ (wd rs _); rw [wd_at nd (sub _ List.mem_cons_self)]; exact hd.2⟩ (ih fun p m => sub p (List.mem_cons_of_mem _ m))
  exact go (fun _ m => m) h
def byName (rs : List Rk) (ys : List Str) : List Rk := ys.map fun s => (s, wd rs s)
theorem names_by {rs : List Rk} (ys : List Str) : (byName rs ys).map (·.1) = ys := by
  unfold byName
  rw [List.map_map]
  exact List.map_id _
theorem entR_of {Rv : V → List Str → Prop} {rs : List Rk} : ∀ {kvs : List (Key × V)} {ys : List Str}, Ent (fun s v => Rv v (wd rs s)) kvs ys → EntR Rv kvs (byName rs ys)
  | _, _, .nil => .nil
  | _, _, .cons h r => .cons h (entR_of r)
def rankG (ws : List Str) : Prop := (∀ x ∈ ws, x ∈ words) ∧ (met ws ws.length).length = ws.length ∧ ws.length ≤ 60
def goodR (rs : List Rk) : Prop := (∀ p ∈ rs, nameOk (.str p.1) = true ∧ rankG p.2) ∧ (rs.map (·.1)).Nodup ∧ rs.length ≤ 60
theorem words_small : ∀ s ∈ words, s.length ≤ 1000 := by decide +kernel
theorem strs_map : ∀ ws : List Str, strsOf (ws.map Dt.str) = ws
  | [] => rfl
  | s :: r => congrArg (s :: ·) (strs_map r)
theorem isA_strs {H : Hp} : ∀ {ws : List Str}, (∀ s ∈ ws, s.length ≤ 1000) → IsA H (ws.map V.str) (ws.map Dt.str)
  | [], _ => .nil
  | s :: r, h => .cons (.str s (h s List.mem_cons_self)) (isA_strs fun x m => h x (List.mem_cons_of_mem _ m))
theorem rankG.ok {ws : List Str} (g : rankG ws) : wordsOk (ws.map Dt.str) = true := by
  unfold wordsOk
  rw [strs_map, g.2.1, decide_eq_true rfl, Bool.and_true, List.all_map]
  exact List.all_eq_true.mpr fun x m => decide_eq_true (g.1 x m)
theorem strs_flat {ws : List Str} : ∀ x ∈ ws.map Dt.str, elP x := fun x m => by
  obtain ⟨s, _, rfl⟩ := List.mem_map.mp m
  exact .inl ⟨rfl, fun z => by cases z⟩
/-- a rank is a datum that is right -/
theorem SeqV.is {H : Hp} {v : V} {ws : List Str} (h : SeqV H v ws) (g : rankG ws) : ∃ d, Is H v d ∧ rkP d ∧ rankOk d = true := by
  obtain ⟨t, rfl, h | h⟩ := h
  · exact ⟨.lst (ws.map Dt.str), .lst h (isA_strs fun s m => words_small s (g.1 s m)) (by rw [List.length_map]; exact g.2.2), fun l e => by cases e; exact strs_flat, g.ok⟩
  · exact ⟨.tup (ws.map Dt.str), .tup h (isA_strs fun s m => words_small s (g.1 s m)) (by rw [List.length_map]; exact g.2.2), fun l e => by cases e; exact strs_flat, g.ok⟩
theorem name_len {s : Str} (h : nameOk (.str s) = true) : s.length ≤ 1000 := by
  have := (Bool.and_eq_true_iff.mp (Bool.and_eq_true_iff.mp h).1).2
  have := of_decide_eq_true this
  omega
/-- an office of the ranks rs, as it keeps them -/
def OffR (K : PySem.W.Frag) (H : Hp) (x : Addr) (rs : List Rk) : Prop := ∃ dx d kvs, H x = some (.ins (He.ga K "Office") dx [("_ranks", .ref d)]) ∧ H d = some (.dK kvs) ∧ EntR (TupV H) kvs rs ∧ (rs.map (·.1)).Nodup
theorem OffR.mono {K : PySem.W.Frag} {H H' : Hp} {x : Addr} {rs : List Rk} (e : Same H H') (o : OffR K H x rs) : OffR K H' x rs := by
  obtain ⟨dx, d, kvs, h1, h2, h3, h4⟩ := o
  exact ⟨dx, d, kvs, e _ _ h1, e _ _ h2, h3.imp fun v ws t => t.mono e, h4⟩
/-- an entry of what is no rank: its key and value as data -/
def entD (H : Hp) (p : KV3) (k d : Dt) : Prop := Is H p.2.1 k ∧ Is H p.2.2 d ∧ rkP d
theorem entD.mono {H H' : Hp} (e : Same H H') {p : KV3} {k d : Dt} (h : entD H p k d) : entD H' p k d := ⟨h.1.mono e, h.2.1.mono e, h.2.2⟩
theorem KeyIs.text {H : Hp} {k : NestedKey} {s : Str} (h : KeyIs H k (.str s)) : k = .text s := by cases h; rfl
def spInit (K : PySem.W.Frag) (w : World) : Sp := fun vs H Q E => ∃ x v H0 dx, vs = [.ref x, v] ∧ Same H0 H ∧ H0 x = none ∧ H x = some (.ins (He.ga K "Office") dx []) ∧
  ((∃ r kvs rs, v = .ref r ∧ H r = some (.dK kvs) ∧ EntR (SeqV H) kvs rs ∧ goodR rs ∧ ∀ H' ys, Same H0 H' → ys.Perm (rs.map (·.1)) → PyProof.Rows.sortedS ys = true → OffR K H' x (byName rs ys) → Q .non H') ∨
   (∃ d kvs j p, v = .ref d ∧ MixAt w H d kvs ∧ kvs[j]? = some p ∧ (∀ (i : Nat) (q : KV3), i < j → kvs[i]? = some q → ∃ k u, entD H q k u ∧ nameOk k = true ∧ rankOk u = true) ∧ (∃ k u, entD H p k u ∧ (nameOk k && rankOk u) = false) ∧
      ∀ H' e, Same H0 H' → Same H H' → H' e = none → E (.ref (He.ga K "BadRank")) (some e) (upd H' e (.xd [("kind", p.2.1)]))) ∨
   (∃ d, Is H v d ∧ d ≠ .dic ∧ ∀ H' e, Same H0 H' → Same H H' → H' e = none → E (.ref (He.ga K "BadRank")) (some e) (upd H' e (.xd [("kind", v)]))))
section
variable {P : Program} {w : World} {K : PySem.W.Frag} {mg : Str → Option Value} {base : Heap}
abbrev s_BadRank___init__ : Stmt := inClass (top 25) 0
theorem sc_BadRank___init__ : FnScope ["self", "kind"] ["self", "kind"] (defScope s_BadRank___init__) := ⟨rfl, rfl, rfl, by decide +kernel, rfl, by decide +kernel, by decide +kernel⟩
theorem m_BadRank (E : Err K (He.ga K "BadRank") (He.fAd K ("BadRank", some "__init__")) "kind") (D : DfnM K "BadRank" "__init__" "BadRank.__init__" s_BadRank___init__) :
    CalM P w K mg base CX0 1 (He.fAd K ("BadRank", some "__init__")) ["self", "kind"] (spErr K (He.ga K "BadRank") "kind") := by
  refine D.cal sc_BadRank___init__ (fun _ _ _ _ _ _ us hl => match us, hl with | [_, _], _ => rfl) (fun vs H Q E' h => ?_) fun cdv A outer s H vs Q E' hr h => ?_
  · obtain ⟨a, v, rfl, _⟩ := h
    rfl
  obtain ⟨a, v, rfl, ha, q⟩ := h
  refine ⟨_, (pss_one (ps_ost (pv 0) (pv 1))), ?_⟩
  exact ⟨_, rfl, _, rfl, a, _, rfl, E.oex, E.no, .inl ⟨ha, q⟩⟩
end
end K07

set_option Elab.async false
set_option linter.all false
set_option maxRecDepth 100000
set_option maxHeartbeats 4000000
namespace K07
open PySem PySem.Spec PyProof.Rows L2 Sr
section
variable {P : Program} {w : World} {K : PySem.W.Frag} {mg : Str → Option Value} {base : Heap}
abbrev s_Office___init__ : Stmt := inClass (top 31) 0
theorem sc_Office___init__ : FnScope ["self", "ranks", "kind"] ["self", "ranks"] (defScope s_Office___init__) := ⟨rfl, rfl, rfl, by decide +kernel, rfl, by decide +kernel, by decide +kernel⟩
theorem m_init (T : Txt K mg) (O : Off K mg) (R : ErrAt P w K mg base "BadRank" "kind" "kind") (D : DfnM K "Office" "__init__" "Office.__init__" s_Office___init__) (C_is_name : Cal P w K mg base 1 "is_name" ["thing"] (spB nameOk)) (C_is_rank : Cal P w K mg base 2 "is_rank" ["thing"] (spBP rkP rankOk)) :
    CalM P w K mg base (L2.CX P w) 3 (He.fAd K ("Office", some "__init__")) ["self", "ranks"] (spInit K w) := by
  refine D.calE sc_Office___init__ (fun _ _ _ _ _ _ us hl => match us, hl with | [_, _], _ => rfl) (fun vs H Q E h => ?_) fun cdv A outer s H vs Q E hr h => ?_
  · obtain ⟨x, v, H0, dx, rfl, _⟩ := h
    rfl
  obtain ⟨x, v, H0, dx, rfl, s0, x0, hx, h⟩ := h
  rcases h with ⟨r, kvs, rs, rfl, hd, he, ⟨gd, nd, hz⟩, q⟩ | ⟨d, kvs, j, p, rfl, mx, hj, before, ⟨kd, ud, ⟨ik, iu, up⟩, bad⟩, q⟩ | ⟨d, hv, nd, q⟩
  · have nrx : x ≠ r := ne_of hx hd (by intro z; cases z)
    have hn := he.ent nd
    refine ⟨_, (pss_cons (ps_if (pt_not (pt_val (pe_callB (id := "isinstance") call_isi (by rfl) T.isinstance (by decide +kernel) (pa_cons (pv 1) (pa_cons (pe_tyv (n := "dict") (by rfl) T.dict (by decide +kernel)) pa_nil))))) (pss_one (ps_raise rfl (takes_of rfl rfl rfl rfl) (R.mk_ hr (by decide) (by rfl) (pa_cons (pv 1) pa_nil)))) pss_nil)
      (pss_cons (ps_lock (ps_for (L2.passes_of rfl) rfl (pi_keys (pv 1)) (pg_name (i := 2) sc_Office___init__.nd rfl (by first | exact Or.inl rfl | exact Or.inr rfl))
      (pss_one (ps_if (PW.pt (pw_or (pt_not (pt_val (pe_cal C_is_name hr (by first | decide | omega) (by rfl) (pa_cons (pv 2) pa_nil)))) (pw_or1 (pt_not (pt_val (pe_cal C_is_rank hr (by first | decide | omega) (by rfl) (pa_cons (pe_dget (hu_of hr) (pv 1) (pv 2) (fun _ _ => rfl)) pa_nil))))))) (pss_one (ps_raise rfl (takes_of rfl rfl rfl rfl) (R.mk_ hr (by decide) (by rfl) (pa_cons (pv 2) pa_nil)))) pss_nil))))
      (pss_one (ps_fld (pv 0) (pe_dc (own := [("kind", 2)]) (g := gName 2) (tt := tYes) rfl sc_Office___init__.nd (pi_list (pe_callB (id := "sorted") (call_sortedD rfl) (by rfl) T.sorted (by decide +kernel) (pa_cons (pv 1) pa_nil))) (blkOk_by (N := ["self", "ranks", "kind"]) (sc := defScope s_Office___init__) (by decide +kernel)) (fun _ _ _ _ _ => (pg_name (i := 2) sc_Office___init__.nd rfl (by first | exact Or.inl rfl | exact Or.inr rfl))) (fun _ _ _ _ _ => pts_nil) (fun _ _ _ _ _ => (pv 2)) (fun _ _ _ _ _ => (pe_callTy (T := "tuple") (call_tuple_ofK K rfl) (by rfl) T.tuple (by decide +kernel) (pa_cons (pe_dget (hu_of hr) (pv 1) (pv 2) (fun _ _ => rfl)) pa_nil)))) rfl)))), ?_⟩
    refine ⟨_, rfl, _, _, _, _, _, rfl, .ty _, .base (.dK hd), kit_ty (show kitB "dict" "dict" = some true by decide +kernel), _, rfl, iteF ?_⟩
    have fz : ∀ od, ∀ b o, b ≠ r → H b = some o → (upd H r (.frz od (.dK kvs))) b = some o := fun od b o hb e => by rw [upd_ne hb]; exact e
    have seq_up : ∀ {H1 : Hp} (od : Obj) {v : V} {ws : List Str}, Same (upd H r (.frz od (.dK kvs))) H1 → SeqV H v ws → SeqV H1 v ws := fun {H1} od {v ws} s1 h => by
      obtain ⟨t, rfl, h⟩ := h
      refine ⟨t, rfl, h.imp (fun e => s1 _ _ (fz od t _ (ne_of e hd (by intro z; cases z)) e)) fun e => s1 _ _ (fz od t _ (ne_of e hd (by intro z; cases z)) e)⟩
    refine ⟨r, _, hd, trivial, fun od => ⟨_, rfl, r, od, rfl, .inl ⟨kvs, upd_same, for_it walk_keys (fun i σ H' => (∃ v, σ = [some (.ref x), some (.ref r), v]) ∧ Same (upd H r (.frz od (.dK kvs))) H') ⟨⟨_, rfl⟩, Same.refl _⟩ (fun i σ H' hi p => p.2 _ _ upd_same) ?_ ?_⟩⟩⟩
    · rintro i u σ H1 H2 hi ⟨⟨v, rfl⟩, s1⟩ ⟨rfl, k, v, hk, rfl⟩
      have hl := hn.len
      obtain ⟨y, hy⟩ : ∃ y, (rs.map (·.1))[i]? = some y := ⟨(rs.map (·.1))[i]'(by omega), List.getElem?_eq_getElem (by omega)⟩
      have ek : k = Sum.inr y := (Paired.at2 hn hk hy).1
      subst ek
      have my := List.mem_of_getElem? hy
      obtain ⟨p, mp, ep⟩ := List.mem_map.mp my
      obtain ⟨v', ev, rv⟩ := hn.at_ my
      obtain ⟨nm, rk⟩ := gd p mp
      have ew : wd rs y = p.2 := by rw [← ep]; exact wd_at nd mp
      rw [ew] at rv
      rw [ep] at nm
      refine ⟨_, rfl, .str y, .str y, rfl, .str y (name_len nm), fun H2 s2 => ⟨_, rfl, ?_⟩⟩
      rw [nm]
      obtain ⟨d, id, rp, ro⟩ := (seq_up od (s1.trans s2) rv).is rk
      refine iteF ⟨_, rfl, _, rfl, r, v', rfl, .inl ⟨kvs, Sum.inr y, .inr ⟨od, s2 _ _ (s1 _ _ upd_same)⟩, rfl, ev.symm⟩, v', d, rfl, id, rp, fun H3 s3 => ⟨_, rfl, ?_⟩⟩
      rw [ro]
      exact iteF ⟨⟨_, rfl⟩, s1.trans (s2.trans s3)⟩
    · rintro σ H1 ⟨⟨v, rfl⟩, s1⟩
      refine ⟨s1 _ _ upd_same, ?_⟩
      have sH : Same H (upd H1 r (.dK kvs)) := fun b o e => by
        by_cases hb : b = r
        · rw [hb] at e ⊢
          rw [hd] at e
          cases e
          exact upd_same
        · rw [upd_ne hb]
          exact s1 _ _ (fz od b o hb e)
      have dr : (upd H1 r (.dK kvs)) r = some (.dK kvs) := upd_same
      refine ⟨_, rfl, r, kvs, rs.map (·.1), rfl, .inl dr, hn.keys, by rw [List.length_map]; omega, fun ys p perm srt hp => ⟨p, rfl, ⟨_, SqL.of upd_same⟩, fun D hD =>
        dc_texts walk_list walk_at ys (by rw [List.length_map]) (perm.nodup_iff.mpr nd) (sz (m := 60) (by rw [List.length_map, perm.length_eq, List.length_map]; omega)) hD (fun H' s' => SqL.of (s' _ _ upd_same)) (fun H' s v => TupV H' v (wd rs s)) (fun _ _ _ _ e h => h.mono e) (fun _ _ _ _ _ e h => ?_)
          (fun i u y H2 R hi hu hy s2 k => ?_) (fun H2 kvs2 s2 h2 e2 => ?_)⟩⟩
      · obtain ⟨t, rfl, h⟩ := h
        exact ⟨t, rfl, by rw [upd_ne (ne_of h e (by intro z; cases z))]; exact h⟩
      · rw [List.getElem?_map, hy] at hu
        obtain rfl : V.str y = u := Option.some.inj hu
        have my : y ∈ rs.map (·.1) := perm.mem_iff.mp (List.mem_of_getElem? hy)
        obtain ⟨v', ev, t, rfl, ht⟩ := hn.at_ my
        have s3 : Same H H2 := (sH.trans (Same.up hp)).trans s2
        refine ⟨_, rfl, _, rfl, _, rfl, r, .ref t, rfl, .inl ⟨kvs, Sum.inr y, .inl (s3 _ _ hd), rfl, ev.symm⟩, t, (wd rs y).map V.str, rfl, ?_⟩
        rcases ht with ht | ht
        · exact .inl ⟨SqL.of (s3 _ _ ht), fun l hl => k _ _ (Same.up hl) ⟨l, rfl, upd_same⟩⟩
        · exact .inr ⟨SqT.of (s3 _ _ ht), k H2 _ (Same.refl _) ⟨t, rfl, s3 _ _ ht⟩⟩
      · have s3 : Same H H2 := (sH.trans (Same.up hp)).trans s2
        have nDx : D ≠ x := ne_of h2 (s3 _ _ hx) (by intro z; cases z)
        refine ⟨_, rfl, x, _, dx, [], rfl, s3 _ _ hx, O.cl, O.nR, by decide, q _ ys (fun b o e => ?_) perm srt ⟨dx, D, kvs2, upd_same, by rw [upd_ne nDx]; exact h2, ?_, by rw [names_by]; exact perm.nodup_iff.mpr nd⟩⟩
        · rw [upd_ne fun z => by rw [z, x0] at e; cases e]
          exact s3 _ _ (s0 _ _ e)
        · refine (entR_of e2).imp fun v ws h => ?_
          obtain ⟨t, rfl, h⟩ := h
          exact ⟨t, rfl, by rw [upd_ne (ne_of h (s3 _ _ hx) (by intro z; cases z))]; exact h⟩
  · refine ⟨_, (pss_cons (ps_if (pt_not (pt_val (pe_callB (id := "isinstance") call_isiM (by rfl) T.isinstance (by decide +kernel) (pa_cons (pv 1) (pa_cons (pe_tyv (n := "dict") (by rfl) T.dict (by decide +kernel)) pa_nil))))) (pss_one (ps_raise rfl (takes_of rfl rfl rfl rfl) (R.mk_ hr (by decide) (by rfl) (pa_cons (pv 1) pa_nil)))) pss_nil)
      (pss_cons (ps_for (L2.passes_of rfl) rfl (pi_mix (pv 1)) (pg_name (i := 2) sc_Office___init__.nd rfl (by first | exact Or.inl rfl | exact Or.inr rfl))
      (pss_one (ps_if (PW.pt (pw_or (pt_not (pt_val (pe_cal C_is_name hr (by first | decide | omega) (by rfl) (pa_cons (pv 2) pa_nil)))) (pw_or1 (pt_not (pt_val (pe_cal C_is_rank hr (by first | decide | omega) (by rfl) (pa_cons (pe_ix (ix_mix hr.units) (pv 1) (pv 2) (fun _ _ => rfl)) pa_nil))))))) (pss_one (ps_raise rfl (takes_of rfl rfl rfl rfl) (R.mk_ hr (by decide) (by rfl) (pa_cons (pv 2) pa_nil)))) pss_nil)))
      (pss_one (ps_fld (pv 0) (pe_dc (own := [("kind", 2)]) (g := gName 2) (tt := tYes) rfl sc_Office___init__.nd (pi_list (pe_callB (id := "sorted") (call_sortedD rfl) (by rfl) T.sorted (by decide +kernel) (pa_cons (pv 1) pa_nil))) (blkOk_by (N := ["self", "ranks", "kind"]) (sc := defScope s_Office___init__) (by decide +kernel)) (fun _ _ _ _ _ => (pg_name (i := 2) sc_Office___init__.nd rfl (by first | exact Or.inl rfl | exact Or.inr rfl))) (fun _ _ _ _ _ => pts_nil) (fun _ _ _ _ _ => (pv 2)) (fun _ _ _ _ _ => (pe_callTy (T := "tuple") (call_tuple_ofK K rfl) (by rfl) T.tuple (by decide +kernel) (pa_cons (pe_dget (hu_of hr) (pv 1) (pv 2) (fun _ _ => rfl)) pa_nil)))) rfl)))), ?_⟩
    have lt := (List.getElem?_eq_some_iff.mp hj).1
    refine ⟨_, rfl, d, kvs, rfl, mx, _, rfl, iteF ⟨_, rfl, d, kvs, rfl, mx, fun es ep hd me => ?_⟩⟩
    refine for_it walk_mix (fun i σ H' => (∃ v, σ = [some (.ref x), some (.ref d), v]) ∧ Same H H' ∧ i ≤ j) ⟨⟨_, rfl⟩, Same.refl _, Nat.zero_le _⟩ (fun i σ H' hi p => ⟨p.2.1 _ _ hd, me.mono p.2.1⟩) ?_ ?_
    · rintro i u σ H1 H2 hi ⟨⟨v, rfl⟩, s1, ij⟩ ⟨rfl, hu⟩
      obtain ⟨g, hg⟩ : ∃ g, kvs[i]? = some g := ⟨kvs[i], List.getElem?_eq_getElem hi⟩
      rw [List.getElem?_map, hg] at hu
      obtain rfl : g.2.1 = u := Option.some.inj hu
      have look : ∀ {k ud : Dt} {H2 : Hp}, Is H g.2.1 k → nameOk k = true → ∃ z, g.2.1 = .str z ∧ g.1 = .text z := fun {k ud H2} ik nk => by
        obtain ⟨_, _, hk, _⟩ := me.2.2 i g hg
        cases k with
        | str z =>
          cases e : g.2.1 with
          | str y =>
            rw [e] at ik hk
            exact ⟨y, rfl, KeyIs.text hk⟩
          | _ => rw [e] at ik; cases ik
        | _ => cases nk
      by_cases c : i = j
      · subst c
        rw [hj] at hg
        cases hg
        refine ⟨_, rfl, _, kd, rfl, ik.mono s1, fun H2 s2 => ⟨_, rfl, ?_⟩⟩
        cases nk : nameOk kd with
        | false => exact iteT ⟨_, rfl, err_at fun e he => q _ e (s0.trans (s1.trans s2)) (s1.trans s2) he⟩
        | true =>
          obtain ⟨z, ez, et⟩ := look (ud := ud) (H2 := H) ik nk
          have rb : rankOk ud = false := by rw [nk, Bool.true_and] at bad; exact bad
          refine iteF ⟨_, rfl, _, rfl, d, kvs, z, i, _, rfl, ez, mx.mono (s1.trans s2), hj, et, _, ud, rfl, iu.mono (s1.trans s2), up, fun H3 s3 => ⟨_, rfl, ?_⟩⟩
          rw [rb]
          exact iteT ⟨_, rfl, err_at fun e he => q _ e (s0.trans (s1.trans (s2.trans s3))) (s1.trans (s2.trans s3)) he⟩
      · obtain ⟨k, ud', ⟨ik', iu', up'⟩, nk, ro⟩ := before i g (by omega) hg
        obtain ⟨z, ez, et⟩ := look (ud := ud') (H2 := H) ik' nk
        refine ⟨_, rfl, _, k, rfl, ik'.mono s1, fun H2 s2 => ⟨_, rfl, ?_⟩⟩
        rw [nk]
        refine iteF ⟨_, rfl, _, rfl, d, kvs, z, i, _, rfl, ez, mx.mono (s1.trans s2), hg, et, _, ud', rfl, iu'.mono (s1.trans s2), up', fun H3 s3 => ⟨_, rfl, ?_⟩⟩
        rw [ro]
        exact iteF ⟨⟨_, rfl⟩, s1.trans (s2.trans s3), by omega⟩
    · rintro σ H1 ⟨_, _, le⟩
      omega
  · refine ⟨_, (pss_cons (ps_if (pt_not (pt_val (pe_callB (id := "isinstance") call_isi (by rfl) T.isinstance (by decide +kernel) (pa_cons (pv 1) (pa_cons (pe_tyv (n := "dict") (by rfl) T.dict (by decide +kernel)) pa_nil))))) (pss_one (ps_raise rfl (takes_of rfl rfl rfl rfl) (R.mk_ hr (by decide) (by rfl) (pa_cons (pv 1) pa_nil)))) pss_nil)
      (pss_cons (ps_lock (ps_for (L2.passes_of rfl) rfl (pi_keys (pv 1)) (pg_name (i := 2) sc_Office___init__.nd rfl (by first | exact Or.inl rfl | exact Or.inr rfl))
      (pss_one (ps_if (PW.pt (pw_or (pt_not (pt_val (pe_cal C_is_name hr (by first | decide | omega) (by rfl) (pa_cons (pv 2) pa_nil)))) (pw_or1 (pt_not (pt_val (pe_cal C_is_rank hr (by first | decide | omega) (by rfl) (pa_cons (pe_dget (hu_of hr) (pv 1) (pv 2) (fun _ _ => rfl)) pa_nil))))))) (pss_one (ps_raise rfl (takes_of rfl rfl rfl rfl) (R.mk_ hr (by decide) (by rfl) (pa_cons (pv 2) pa_nil)))) pss_nil))))
      (pss_one (ps_fld (pv 0) (pe_dc (own := [("kind", 2)]) (g := gName 2) (tt := tYes) rfl sc_Office___init__.nd (pi_list (pe_callB (id := "sorted") (call_sortedD rfl) (by rfl) T.sorted (by decide +kernel) (pa_cons (pv 1) pa_nil))) (blkOk_by (N := ["self", "ranks", "kind"]) (sc := defScope s_Office___init__) (by decide +kernel)) (fun _ _ _ _ _ => (pg_name (i := 2) sc_Office___init__.nd rfl (by first | exact Or.inl rfl | exact Or.inr rfl))) (fun _ _ _ _ _ => pts_nil) (fun _ _ _ _ _ => (pv 2)) (fun _ _ _ _ _ => (pe_callTy (T := "tuple") (call_tuple_ofK K rfl) (by rfl) T.tuple (by decide +kernel) (pa_cons (pe_dget (hu_of hr) (pv 1) (pv 2) (fun _ _ => rfl)) pa_nil)))) rfl)))), ?_⟩
    have kd : PySem.W.kitOne K (.type (tyN d)) (.type "dict") = some false := by
      cases d with
      | non => exact kit_ty (show kitB "NoneType" "dict" = some false by decide +kernel)
      | bl b => exact kit_ty (show kitB "bool" "dict" = some false by decide +kernel)
      | int i => exact kit_ty (show kitB "int" "dict" = some false by decide +kernel)
      | str s => exact kit_ty (show kitB "str" "dict" = some false by decide +kernel)
      | lst l => exact kit_ty (show kitB "list" "dict" = some false by decide +kernel)
      | tup l => exact kit_ty (show kitB "tuple" "dict" = some false by decide +kernel)
      | dic => exact absurd rfl nd
    exact ⟨_, rfl, v, _, _, _, _, rfl, .ty _, hv.ty, kd, _, rfl, iteT ⟨_, rfl, err_at fun e he => q H e s0 (Same.refl H) he⟩⟩
end
end K07

set_option Elab.async false
set_option linter.all false
set_option maxRecDepth 100000
set_option maxHeartbeats 4000000
namespace Sr
open PySem PySem.Spec PyProof.Rows L2
/-! ### == and != by an own __eq__, whatever it says -/
/-- what the right side may be: an instance, or a list -/
def EqRt (K : PySem.W.Frag) (C : Addr) (H : Hp) (y : V) : Prop := (∃ b C' dy gs, y = .ref b ∧ H b = some (.ins C' dy gs) ∧ PySem.W.notFirst K C (.ref C') = true) ∨ ∃ b ys, y = .ref b ∧ H b = some (.lst ys)
def rEqIns (K : PySem.W.Frag) (C : Addr) (sp : Sp) (E : XK) : R2 := fun x y H Q => ∃ a dx fs, x = .ref a ∧ H a = some (.ins C dx fs) ∧ EqRt K C H y ∧ sp [x, y] H Q E
theorem first_list {K : PySem.W.Frag} {C : Addr} : PySem.W.notFirst K C (.type "list") = true := by
  have e : fastBuiltinMro "list" = some [.type "list", .type "object"] := by decide +kernel
  have s : PySem.W.subIn K (.type "list") (.ref C) = some false := by
    show (fastBuiltinMro "list").map (·.contains (.ref C)) = some false
    rw [e]
    first
      | rfl
      | simp
  unfold PySem.W.notFirst
  rw [s]
  simp
theorem first_self {K : PySem.W.Frag} {C : Addr} : PySem.W.notFirst K C (.ref C) = true := by
  unfold PySem.W.notFirst
  simp
section
variable {X : Cx} {pins : List (Addr × Obj)} {σ : L2.St} {H : Hp} {s : Shared}
/-- the type of the right side -/
theorem EqRt.ty {C : Addr} {y : V} {u : Value} (I : L2.Inv X pins σ H s) (ry : L2.RelV y u) (h : EqRt X.K C H y) : ∃ tb, PySem.W.notFirst X.K C tb = true ∧ PySem.W.Looks (model X.prog X.w) s.heap (typeOf u) tb := by
  rcases h with ⟨b, C', dy, gs, rfl, hb, hn⟩ | ⟨b, ys, rfl, hb⟩
  · cases ry
    obtain ⟨mA, J, _⟩ := ins_get I.hok hb
    obtain ⟨od, J, _⟩ := J.look
    exact ⟨_, hn, J.type⟩
  · cases ry
    obtain ⟨_, its, n, _, hq⟩ := (show ObjOk X.prog X.w H s.heap b (.lst ys) from I.hok b _ hb)
    exact ⟨_, first_list, (PySem.W.Looks.ld (part := none) hq).andThen .now⟩
variable {CX : CXT} {k : Nat} {C f : Addr} {fd : FuncData} {ps : List Str} {sp : Sp} {E : XK}
theorem op_eqIns (F : FnOk X.prog X.w X.K X.mg X.base CX k f fd ps sp) (hr : Room k X.A) (hb : Binds X.K fd ps []) (hx : Passes CX X E) (hs : PySem.W.findIn X.K (.ref C) "__eq__" = some (some (.ref f))) (hf : PySem.W.isFn X.K (.ref f) = true) :
    OpR X (compareOp .Eq) (rEqIns X.K C sp E) := by
  intro pins s σ H x y v u Q I rx ry h
  obtain ⟨a, dx, fs, rfl, ha, hy, q⟩ := h
  cases rx
  obtain ⟨mA, J, _⟩ := ins_get I.hok ha
  obtain ⟨od, J, _⟩ := J.look
  obtain ⟨m, hF⟩ := I.fr
  obtain ⟨tb, hn, ht⟩ := hy.ty I ry
  show wpAny _ _ (richCompare .Eq (.ref a) u) _ _ _
  refine PySem.W.cmp_K (op := .Eq) (tb := tb) hr.units0 hF I.ok.mod.kin J ht hn hs hf ?_
  refine thn (run_fn (us := [.ref a, u]) (vs := [.ref a, y]) (dvs := []) (ds := []) F hr hb .nil hx I (.cons rfl (.cons ry .nil)) q) fun w s' z => ?_
  obtain ⟨z', H', I', rz, qz⟩ := z
  exact SlX.cmpback rz ⟨z', H', I', rz, qz⟩
/-- object.__ne__ asks the own __eq__ -/
theorem ne_entry {A : Around} {Em : Value → Shared → Prop} {x : Addr} {ox : Obj} {od : Option Obj} {y : Value} {Q : Fin → Shared → Prop} (hu : A.units < cLine) (Xk : X.K.In s.heap) (J : PySem.W.InstAt s.heap x ox C od)
    (hs : PySem.W.findIn X.K (.ref C) "__eq__" = some (some (.ref f))) (hf : PySem.W.isFn X.K (.ref f) = true)
    (h : wpAny (model X.prog X.w) A (call (.ref f) [.ref x, y]) (fun v s' => ∃ b, v = .bool b ∧ Q (.done (.ret (.bool (!b)))) s') Em s) : wpAny (model X.prog X.w) A (Builtin.«object.__ne__» ⟨[.ref x, y], []⟩) Q Em s := by
  have eq_ : wpAny (model X.prog X.w) A (callSpecialIfBound? (.ref x) (Str.ofString "__eq__") [y]) (fun r s' => ∃ b, r = some (.bool b) ∧ Q (.done (.ret (.bool (!b)))) s') Em s :=
    PySem.W.ifBound_K Xk J hs hf (thn h fun v s' ⟨b, e, q⟩ => ⟨b, by rw [e], q⟩)
  unfold Builtin.«object.__ne__»
  repeat (first
    | with_reducible refine wpAny_cRoomFor hu ?_
    | (refine wpAny_bind (m := callSpecialIfBound? (.ref x) (Str.ofString "__eq__") [y]) (thn eq_ fun r s' z => ?_)
       obtain ⟨b, rfl, q⟩ := z
       repeat (first | exact q | exact wpAny_pure q | exact wpAny_truthy_bool q | (refine wpAny_bind (m := truthy (.bool _)) (wpAny_truthy_bool ?_)) | wp_step))
    | wp_step)
/-- a special method that is a built-in of object, asked of an instance -/
theorem bound_ne {M : Model} {A : Around} {Em : Value → Shared → Prop} {x : Addr} {ox : Obj} {od : Option Obj} {args : List Value} {Q : Option Value → Shared → Prop} (Xk : X.K.In s.heap) (J : PySem.W.InstAt s.heap x ox C od)
    (hs : PySem.W.findIn X.K (.ref C) "__ne__" = some (some (.builtin "object.__ne__"))) (h : wpAny M A (call (.builtin "object.__ne__") (.ref x :: args)) (fun v => Q (some v)) Em s) : wpAny M A (callSpecialIfBound? (.ref x) "__ne__" args) Q Em s := by
  have out : wpAny M A (call (.builtin "object.__ne__") ([.ref x] ++ args) >>= fun v => pure (some v)) Q Em s := wpAny_bind (thn h fun v s' q => wpAny_pure q)
  have look := PySem.W.looks_findIn (M := M) Xk hs
  simp only [callSpecialIfBound?, bindSpecialIfBound?]
  refine wpAny_holding (wpAny_bind (wpAny_bind (wpAny_bind (J.type.here (look.here (wpAny_bind (wpAny_askSetting (wpAny_ite ?_))))))))
  split
  · exact wpAny_bind (wpAny_of_eq (PySem.F.cmp_object.ne.bind _) (wpAny_pure (by exact out)))
  · exact wpAny_tryCatch (wpAny_bind (wpAny_of_eq (PySem.F.cmp_object.ne.bind _) (wpAny_pure (by exact out))))
/-- the callee runs below a built-in -/
theorem run_in1 {Q : VK} {us : List Value} {vs : List V} (F : FnOk X.prog X.w X.K X.mg X.base CX k f fd ps sp) (hr : Room k X.A.in1) (hb : Binds X.K fd ps []) (hx : Passes CX X E) (I : L2.Inv X pins σ H s) (r : Vals vs us) (h : sp vs H Q E) :
    wpAny (model X.prog X.w) X.A.in1 (call (.ref f) us) (EP X pins σ Q) X.xe s := by
  have hl : us.length = ps.length := by rw [← r.length]; exact F.len _ _ _ _ h
  have bd : BindsTo s fd ⟨us, []⟩ (ps.zip us) := by
    have z := hb s us I.kIn (by simpa using hl)
    simpa using z
  refine wpAny_call (codeAny_mono (F.run X.A.in1 X.stack s H ⟨us, []⟩ us vs Q E hr I.env0.in1 bd r h) ?_)
  rintro (e | fl) s' hq
  · exact hx pins σ H s e s' I hq
  · cases fl with
    | ret w => exact I.after hq
    | _ => exact False.elim hq
/-- x != y -/
def rNeIns (K : PySem.W.Frag) (C : Addr) (sp : Sp) (E : XK) : R2 := fun x y H Q => ∃ a dx fs, x = .ref a ∧ H a = some (.ins C dx fs) ∧ EqRt K C H y ∧ sp [x, y] H (fun v H' => ∃ b, v = .bl b ∧ Q (.bl (!b)) H') E
theorem op_neIns (F : FnOk X.prog X.w X.K X.mg X.base CX k f fd ps sp) (hr : Room (k + 1) X.A) (hb : Binds X.K fd ps []) (hx : Passes CX X E) (hs : PySem.W.findIn X.K (.ref C) "__eq__" = some (some (.ref f))) (hf : PySem.W.isFn X.K (.ref f) = true)
    (hne : PySem.W.findIn X.K (.ref C) "__ne__" = some (some (.builtin "object.__ne__"))) (hm : PySem.W.mroIn X.K C (.type "object") = some true) :
    OpR X (compareOp .NotEq) (rNeIns X.K C sp E) := by
  intro pins s σ H x y v u Q I rx ry h
  obtain ⟨a, dx, fs, rfl, ha, hy, q⟩ := h
  cases rx
  obtain ⟨mA, J, _⟩ := ins_get I.hok ha
  obtain ⟨od, J, _⟩ := J.look
  obtain ⟨tb, hn, ht⟩ := hy.ty I ry
  have Xk := I.kIn
  show wpAny _ _ (richCompare .NotEq (.ref a) u) _ _ _
  have one : wpAny (model X.prog X.w) X.A (tryCompare (.ref a) (Str.ofString "__ne__") u) (fun r s' => ∃ v, r = some v ∧ EP X pins σ Q v s') X.xe s := by
    have own : wpAny (model X.prog X.w) X.A.in1 (call (.ref f) [.ref a, u]) (fun v s' => ∃ b, v = .bool b ∧ EP X pins σ Q (.bool (!b)) s') X.xe s := by
      refine thn (run_in1 (us := [.ref a, u]) (vs := [.ref a, y]) F hr.in1 hb hx I (.cons rfl (.cons ry .nil)) q) fun w s' z => ?_
      obtain ⟨z', H', I', rz, b, rfl, qz⟩ := z
      exact ⟨b, rz, .bl (!b), H', I', rfl, qz⟩
    unfold tryCompare
    refine wpAny_bind (bound_ne Xk J hne (wpAny_call (codeAny_call_builtin PySem.F.cmp_object.ne.plain PySem.F.cmpEntry_ne (PySem.W.check_slot PySem.F.cmpKind_ne PySem.F.cmpSplit_ne (J.type.andThen (PySem.W.looks_mroIn Xk hm)) (PySem.F.cmpArgs_ne _ _)
      (ne_entry hr.in1.units0 Xk J hs hf (thn own fun v s' z => ?_))))))
    obtain ⟨b, rfl, z⟩ := z
    exact ⟨b, rfl, wpAny_pure ⟨_, rfl, z⟩⟩
  unfold richCompare
  simp only [oneThing_ref]
  refine wpAny_holding (wpAny_bind (wpAny_cRoomFor hr.units0 ?_))
  refine wpAny_bind (J.type.here (wpAny_bind (ht.here ?_)))
  have sub : (Value.ref C != tb) = true → PySem.W.subIn X.K tb (.ref C) = some false := fun z => by
    rcases Bool.or_eq_true_iff.mp hn with e | e
    · rw [beq_iff_eq.mp e] at z; simp at z
    · exact beq_iff_eq.mp e
  split
  · next z =>
    refine wpAny_bind ((PySem.W.looks_subIn Xk (sub z)).here ?_)
    simp only [Bool.false_eq_true, if_false]
    refine wpAny_bind (thn one fun r s' z => ?_)
    obtain ⟨v, rfl, hq⟩ := z
    exact wpAny_pure hq
  · refine wpAny_bind (wpAny_pure ?_)
    simp only [Bool.false_eq_true, if_false]
    refine wpAny_bind (thn one fun r s' z => ?_)
    obtain ⟨v, rfl, hq⟩ := z
    exact wpAny_pure hq
/-- len(x) by an own __len__ -/
def rLenIns (C : Addr) (sp : Sp) (E : XK) : List V → Hp → VK → Prop := fun xs H Q => ∃ a dx fs, xs = [.ref a] ∧ H a = some (.ins C dx fs) ∧ sp [.ref a] H (fun v H' => ∃ n : Nat, v = .int (n : Nat) ∧ n ≤ 1000 ∧ Q (.int (n : Nat)) H') E
theorem call_lenIns (F : FnOk X.prog X.w X.K X.mg X.base CX k f fd ps sp) (hr : Room (k + 1) X.A) (hb : Binds X.K fd ps []) (hx : Passes CX X E) (hs : PySem.W.findIn X.K (.ref C) "__len__" = some (some (.ref f))) (hf : PySem.W.typeIn X.K (.ref f) = some (.type "function")) :
    CallR X (.builtin "len") (rLenIns C sp E) := by
  intro pins s σ H xs us Q I r h
  obtain ⟨a, dx, fs, rfl, ha, q⟩ := h
  obtain ⟨u, rfl, ru⟩ := r.one
  cases (show u = Value.ref a from ru)
  obtain ⟨mA, J, _⟩ := ins_get I.hok ha
  obtain ⟨od, J, _⟩ := J.look
  have own := run_in1 (us := [.ref a]) (vs := [.ref a]) F hr.in1 hb hx I (.cons rfl .nil) q
  refine Calls.call_function_entry kind_len plain_len entry_len (args_len1 _) ?_
  unfold Builtin.«len»
  refine wpAny_bind (m := oneArg "len" _) (wpAny_pure (wpAny_bind (m := callSpecial? (.ref a) (Str.ofString "__len__")) ?_))
  unfold callSpecial? specialOf
  refine wpAny_bind (wpAny_bind (J.type.here ((PySem.W.looks_findIn I.kIn hs).here ?_)))
  refine wpAny_holding (wpAny_bind ((PySem.W.bind_fn I.kIn (.ref a) hf).here (wpAny_bind (thn own fun w s' z => wpAny_pure ?_))))
  obtain ⟨z', H', I', rz, n, rfl, hn, qz⟩ := z
  obtain ⟨t, rfl⟩ := (show ∃ t, w = Value.int (n : Nat) t from rz)
  refine wpAny_bind (wpAny_holding (wpAny_pure (wpAny_bind (wpAny_letGo ?_))))
  show wpAny _ _ (if ((n : Nat) : Int) < 0 then _ else _) _ _ _
  rw [if_neg (by omega)]
  show wpAny _ _ (if ((n : Nat) : Int) ≥ 2 ^ 63 then _ else _) _ _ _
  rw [if_neg (by omega)]
  exact wpAny_bind (wpAny_mkInt (wpAny_pure ⟨_, rfl, .int (n : Nat), H', I'.tok _, ⟨_, rfl⟩, qz⟩))
end
end Sr

set_option Elab.async false
set_option linter.all false
set_option maxRecDepth 100000
set_option maxHeartbeats 4000000
namespace Sr
open PySem PySem.Spec PyProof.Rows L2
/-! ### == by an own __eq__, the right side of any common kind -/
theorem first_ty {K : PySem.W.Frag} {C : Addr} {n : String} {l : List Value} (e : fastBuiltinMro n = some l) (h : l.contains (.ref C) = false) : PySem.W.notFirst K C (.type n) = true := by
  have s : PySem.W.subIn K (.type n) (.ref C) = some false := by
    show (fastBuiltinMro n).map (·.contains (.ref C)) = some false
    rw [e, Option.map_some, h]
  unfold PySem.W.notFirst
  rw [s]
  simp
def EqRt2 (K : PySem.W.Frag) (C : Addr) (H : Hp) (y : V) : Prop := EqRt K C H y ∨ y = .non ∨ (∃ z, y = .str z) ∨ ∃ b kvs, y = .ref b ∧ H b = some (.dK kvs)
def rEqIns2 (K : PySem.W.Frag) (C : Addr) (sp : Sp) (E : XK) : R2 := fun x y H Q => ∃ a dx fs, x = .ref a ∧ H a = some (.ins C dx fs) ∧ EqRt2 K C H y ∧ sp [x, y] H Q E
section
variable {X : Cx} {pins : List (Addr × Obj)} {σ : L2.St} {H : Hp} {s : Shared}
theorem EqRt2.ty {C : Addr} {y : V} {u : Value} (I : L2.Inv X pins σ H s) (ry : L2.RelV y u) (h : EqRt2 X.K C H y) : ∃ tb, PySem.W.notFirst X.K C tb = true ∧ PySem.W.Looks (model X.prog X.w) s.heap (typeOf u) tb := by
  rcases h with h | rfl | ⟨z, rfl⟩ | ⟨b, kvs, rfl, hb⟩
  · exact h.ty I ry
  · cases ry
    exact ⟨.type "NoneType", first_ty (l := [.type "NoneType", .type "object"]) (by decide +kernel) (by first | rfl | simp), .now⟩
  · obtain ⟨t, rfl⟩ := ry
    exact ⟨.type "str", first_ty (l := [.type "str", .type "object"]) (by decide +kernel) (by first | rfl | simp), .now⟩
  · cases ry
    obtain ⟨_, _, vs, _, o, es, ep, hq, hc, _⟩ := (show ObjOk X.prog X.w H s.heap b (.dK kvs) from I.hok b _ hb)
    refine ⟨.type "dict", first_ty (l := [.type "dict", .type "object"]) (by decide +kernel) (by first | rfl | simp), ?_⟩
    rw [← hc.1]
    exact (PySem.W.Looks.ld (part := none) hq).andThen .now
variable {CX : CXT} {k : Nat} {C f : Addr} {fd : FuncData} {ps : List Str} {sp : Sp} {E : XK}
theorem op_eqIns2 (F : FnOk X.prog X.w X.K X.mg X.base CX k f fd ps sp) (hr : Room k X.A) (hb : Binds X.K fd ps []) (hx : Passes CX X E) (hs : PySem.W.findIn X.K (.ref C) "__eq__" = some (some (.ref f))) (hf : PySem.W.isFn X.K (.ref f) = true) :
    OpR X (compareOp .Eq) (rEqIns2 X.K C sp E) := by
  intro pins s σ H x y v u Q I rx ry h
  obtain ⟨a, dx, fs, rfl, ha, hy, q⟩ := h
  cases rx
  obtain ⟨mA, J, _⟩ := ins_get I.hok ha
  obtain ⟨od, J, _⟩ := J.look
  obtain ⟨m, hF⟩ := I.fr
  obtain ⟨tb, hn, ht⟩ := hy.ty I ry
  show wpAny _ _ (richCompare .Eq (.ref a) u) _ _ _
  refine PySem.W.cmp_K (op := .Eq) (tb := tb) hr.units0 hF I.ok.mod.kin J ht hn hs hf ?_
  refine thn (run_fn (us := [.ref a, u]) (vs := [.ref a, y]) (dvs := []) (ds := []) F hr hb .nil hx I (.cons rfl (.cons ry .nil)) q) fun w s' z => ?_
  obtain ⟨z', H', I', rz, qz⟩ := z
  exact SlX.cmpback rz ⟨z', H', I', rz, qz⟩
end
end Sr

set_option Elab.async false
set_option linter.all false
set_option maxRecDepth 100000
set_option maxHeartbeats 4000000
namespace K07
open PySem PySem.Spec PyProof.Rows L2 Sr
/-! ### == of two dicts of ranks -/
def sameR (rs rs' : List Rk) : Bool := rs.length == rs'.length && rs.all fun p => decide (p.1 ∈ rs'.map (·.1)) && decide (wd rs p.1 = wd rs' p.1)
def rEqRk : R2 := fun x y H Q => ∃ a b ks ls rs rs', x = .ref a ∧ y = .ref b ∧ H a = some (.dK ks) ∧ H b = some (.dK ls) ∧ EntR (TupV H) ks rs ∧ EntR (TupV H) ls rs' ∧ (rs.map (·.1)).Nodup ∧ (rs'.map (·.1)).Nodup ∧ Q (.bl (sameR rs rs')) H
theorem TupV.key {H : Hp} {v : V} {ws : List Str} (h : TupV H v ws) : KeyIs H (.tup (ws.map NestedKey.text)) v := by
  obtain ⟨t, rfl, h⟩ := h
  exact .tup h
theorem text_inj : ∀ {a b : List Str}, a.map NestedKey.text = b.map NestedKey.text → a = b
  | [], [], _ => rfl
  | [], _ :: _, h => by cases h
  | _ :: _, [], h => by cases h
  | x :: a, y :: b, h => by
    rw [List.map_cons, List.map_cons] at h
    injection h with h1 h2
    injection h1 with h1
    rw [h1, text_inj h2]
theorem all_keys {κ : Type} (g : κ → Bool) {α : Type} : ∀ l : List (κ × α), l.all (fun p => g p.1) = (l.map (·.1)).all g
  | [] => rfl
  | p :: r => by rw [List.all_cons, List.map_cons, List.all_cons, all_keys g r]
theorem op_eqRk {X : Cx} (hu : X.A.units + 64 < cLine) : OpR X (compareOp .Eq) rEqRk := by
  intro pins s σ H x y v u Q I rx ry h
  obtain ⟨a, b, ks, ls, rs, rs', rfl, rfl, ea, eb, ra, rb, na, nb, q⟩ := h
  cases rx
  cases ry
  obtain ⟨_, ya, va, ka, da⟩ := (show ObjOk X.prog X.w H s.heap a (.dK ks) from I.hok a _ ea)
  obtain ⟨_, yb, vb, kb, db⟩ := (show ObjOk X.prog X.w H s.heap b (.dK ls) from I.hok b _ eb)
  have ta := ra.ent na
  have tb := rb.ent nb
  have ek : va.map (·.1) = rs.map fun p => (Sum.inr p.1 : Key) := by rw [← ka.keys, ta.keys, List.map_map]; rfl
  let e : Key → Bool := fun k => match k with
    | .inr z => decide (wd rs z = wd rs' z)
    | .inl _ => false
  refine PySem.W.eq_dictsT (knd := mixKind X.prog X.w) (e := e) (n := 8) ya yb da db (fun k v y hm hv => ?_) (by omega) (fin_bl I q ?_)
  · have mk : k ∈ va.map (·.1) := List.mem_map.mpr ⟨_, hm, rfl⟩
    rw [ek] at mk
    obtain ⟨p, mp, rfl⟩ := List.mem_map.mp mk
    have ms : p.1 ∈ rs.map (·.1) := List.mem_map.mpr ⟨p, mp, rfl⟩
    obtain ⟨w1, e1, t1⟩ := ta.at_ ms
    have ndk : (va.map (·.1)).Nodup := by rw [← ka.keys, ta.keys]; exact List.pairwise_map.mpr (na.imp fun h z => h (Sum.inr.inj z))
    have hvv : valueAt va (Sum.inr p.1) = some v := valueAt_of_mem ndk hm
    have r1 := ka.val (Sum.inr p.1)
    rw [e1, hvv] at r1
    have r2 := kb.val (Sum.inr p.1)
    rw [hv] at r2
    have ms' : p.1 ∈ rs'.map (·.1) := by
      by_cases c : p.1 ∈ rs'.map (·.1)
      · exact c
      · rw [tb.out c] at r2; exact r2.elim
    obtain ⟨w2, e2, t2⟩ := tb.at_ ms'
    rw [e2] at r2
    have n1 := (TupV.key t1).nested I.hok r1
    have n2 := (TupV.key t2).nested I.hok r2
    have d1 := (TupV.key t1).deep
    have eb : e (Sum.inr p.1) = NestedKey.beq (.tup ((wd rs p.1).map NestedKey.text)) (.tup ((wd rs' p.1).map NestedKey.text)) := by
      rw [← NestedKey.decide_eq]
      show decide (wd rs p.1 = wd rs' p.1) = _
      by_cases c : wd rs p.1 = wd rs' p.1
      · rw [decide_eq_true c, c, decide_eq_true rfl]
      · rw [decide_eq_false c, decide_eq_false fun z => c (text_inj (NestedKey.tup.inj z))]
    show PySem.W.EqTree X.prog X.w s 8 v y (e (Sum.inr p.1))
    rw [eb]
    exact .leaf fun A hA => eqAt_key _ _ A s v y n1 n2 (by omega)
  · have l1 : va.length = rs.length := by rw [← ka.length, ta.len, List.length_map]
    have l2 : vb.length = rs'.length := by rw [← kb.length, tb.len, List.length_map]
    unfold sameR
    rw [l1, l2]
    congr 1
    rw [all_keys (fun k : Key => (valueAt vb k).isSome && e k), ek, List.all_map]
    refine List.all_congr rfl fun p => ?_
    show _ = ((valueAt vb (Sum.inr p.1)).isSome && decide (wd rs p.1 = wd rs' p.1))
    rw [← (kb.val (Sum.inr p.1)).isSome_eq, tb.has]
structure OfN (K : PySem.W.Frag) (mg : Str → Option Value) : Prop where
  nm : mg "Office" = some (.ref (He.ga K "Office"))
  ca : PySem.W.findIn K (.ref (He.ga K "Office")) "__class__" = some (some (.builtin "object.__class__"))
  cn : PySem.W.specialIn K (.builtin "object.__class__") "__get__" = some (some (.builtin "getset_descriptor.__get__"))
  ct : PySem.W.takesIn K (.builtin "object.__class__") = some true
  cm : PySem.W.mroIn K (He.ga K "Office") (.type "object") = some true
  yes : PySem.W.kitOne K (.ref (He.ga K "Office")) (.ref (He.ga K "Office")) = some true
  noN : PySem.W.kitOne K (.type "NoneType") (.ref (He.ga K "Office")) = some false
  noD : PySem.W.kitOne K (.type "dict") (.ref (He.ga K "Office")) = some false
  noL : PySem.W.kitOne K (.type "list") (.ref (He.ga K "Office")) = some false
  noS : PySem.W.kitOne K (.type "str") (.ref (He.ga K "Office")) = some false
theorem OfN.e {X : Cx} {p : Pos} (N : OfN X.K X.mg) (h : Gl X "Office" := by rfl) : PE X (.Name "Office" p) (tC (.ref (He.ga X.K "Office"))) := pe_glob h N.nm rfl
/-- what is no office -/
def Odd (H : Hp) (y : V) : Prop := y = .non ∨ (∃ z, y = .str z) ∨ (∃ b kvs, y = .ref b ∧ H b = some (.dK kvs)) ∨ ∃ b ys, y = .ref b ∧ H b = some (.lst ys)
theorem Odd.mono {H H' : Hp} (e : Same H H') {y : V} (h : Odd H y) : Odd H' y := by
  rcases h with h | h | ⟨b, kvs, rfl, h⟩ | ⟨b, kvs, rfl, h⟩
  · exact .inl h
  · exact .inr (.inl h)
  · exact .inr (.inr (.inl ⟨b, kvs, rfl, e _ _ h⟩))
  · exact .inr (.inr (.inr ⟨b, kvs, rfl, e _ _ h⟩))
theorem Odd.no {K : PySem.W.Frag} {mg : Str → Option Value} (N : OfN K mg) {H : Hp} {y : V} (h : Odd H y) : ∃ t, TyX K H y t ∧ PySem.W.kitOne K t (.ref (He.ga K "Office")) = some false := by
  rcases h with rfl | ⟨z, rfl⟩ | ⟨b, kvs, rfl, h⟩ | ⟨b, kvs, rfl, h⟩
  · exact ⟨_, .base .non, N.noN⟩
  · exact ⟨_, .base (.str z), N.noS⟩
  · exact ⟨_, .base (.dK h), N.noD⟩
  · exact ⟨_, .base (.lst h), N.noL⟩
theorem Odd.rt {K : PySem.W.Frag} {C : Addr} {H : Hp} {y : V} (h : Odd H y) : EqRt2 K C H y := by
  rcases h with rfl | h | h | ⟨b, kvs, rfl, h⟩
  · exact .inr (.inl rfl)
  · exact .inr (.inr (.inl h))
  · exact .inr (.inr (.inr h))
  · exact .inl (.inr ⟨b, kvs, rfl, h⟩)
theorem OffR.rt {K : PySem.W.Frag} {H : Hp} {x : Addr} {rs : List Rk} (o : OffR K H x rs) : EqRt2 K (He.ga K "Office") H (.ref x) := by
  obtain ⟨dx, d, kvs, h1, _⟩ := o
  exact .inl (.inl ⟨x, _, dx, _, rfl, h1, first_self⟩)
def spEq (K : PySem.W.Frag) : Sp := fun vs H Q _ => ∃ x y rs, vs = [.ref x, y] ∧ OffR K H x rs ∧ ((Odd H y ∧ Q (.bl false) H) ∨ ∃ b rs', y = .ref b ∧ OffR K H b rs' ∧ Q (.bl (sameR rs rs')) H)
section
variable {P : Program} {w : World} {K : PySem.W.Frag} {mg : Str → Option Value} {base : Heap}
abbrev s_Office___eq__ : Stmt := inClass (top 31) 3
theorem sc_Office___eq__ : FnScope ["self", "other"] ["self", "other"] (defScope s_Office___eq__) := ⟨rfl, rfl, rfl, by decide +kernel, rfl, by decide +kernel, by decide +kernel⟩
theorem m_eq (T : Txt K mg) (O : Off K mg) (N : OfN K mg) (D : DfnM K "Office" "__eq__" "Office.__eq__" s_Office___eq__) : CalM P w K mg base CX0 1 (He.fAd K ("Office", some "__eq__")) ["self", "other"] (spEq K) := by
  refine D.cal sc_Office___eq__ (fun _ _ _ _ _ _ us hl => match us, hl with | [_, _], _ => rfl) (fun vs H Q E h => ?_) fun cdv A outer s H vs Q E hr h => ?_
  · obtain ⟨x, y, rs, rfl, _⟩ := h
    rfl
  obtain ⟨x, y, rs, rfl, ⟨dx, d, kvs, h1, h2, h3, nd⟩, h⟩ := h
  refine ⟨_, (pss_one (ps_ret (pe_and (pe_callB (id := "isinstance") call_isi (by rfl) T.isinstance (by decide +kernel) (pa_cons (pv 1) (pa_cons (N.e (by rfl)) pa_nil))) (pe_one (pe_cmpR (op_eqRk hr.units) (pe_fld (pv 0) rfl) (pe_fld (pv 1) rfl) (nomark _)))))), ?_⟩
  rcases h with ⟨odd, q⟩ | ⟨b, rs', rfl, ⟨dx', d', kvs', g1, g2, g3, nd'⟩, q⟩
  · obtain ⟨t, ty, no⟩ := odd.no N
    exact ⟨_, rfl, _, _, _, _, _, rfl, .own _, ty, no, _, rfl, iteF q⟩
  · refine ⟨_, rfl, _, _, _, _, _, rfl, .own _, .base (.ins g1 O.cl N.ca N.cn N.ct N.cm), N.yes, _, rfl, iteT ?_⟩
    exact ⟨_, rfl, x, _, dx, _, _, rfl, h1, O.cl, O.nR, rfl, _, rfl, b, _, dx', _, _, rfl, g1, O.cl, O.nR, rfl, d, d', kvs, kvs', rs, rs', rfl, rfl, h2, g2, h3, g3, nd, nd', q⟩
end
end K07

set_option Elab.async false
set_option linter.all false
set_option maxRecDepth 100000
set_option maxHeartbeats 4000000
namespace Sr
open PySem PySem.Spec PyProof.Rows L2
theorem Paired.snoc {α β : Type} {F : α → β → Prop} {a : α} {b : β} (h : F a b) : ∀ {l : List α} {m : List β}, Paired F l m → Paired F (l ++ [a]) (m ++ [b])
  | _, _, .nil => .cons h .nil
  | _, _, .cons h1 t => .cons h1 (Paired.snoc h t)
theorem Paired.imp' {α β : Type} {F G : α → β → Prop} (f : ∀ a b, F a b → G a b) : ∀ {l : List α} {m : List β}, Paired F l m → Paired G l m
  | _, _, .nil => .nil
  | _, _, .cons h t => .cons (f _ _ h) (Paired.imp' f t)
/-- a comprehension over items, some of which are kept, each kept one a new thing; nothing that stood is changed -/
theorem lc_genD {α : Type} {J : It} {n : Nat} {G : Hp → Prop} {Y : Nat → Hp → V → Hp → Prop} {At : Nat → Hp → V → Prop} (w : Walk J n G Y) (hy : ∀ i H x H', Y i H x H' → H' = H ∧ At i H x) {g : TG} {tt : TT} {te : TE} {vs : List Nat} {σ : L2.St} {H : Hp} {D : Addr} {Qd : Hp → Prop}
    (items : List α) (keep : α → Bool) (hn : items.length = n) (hz : n < sizeLine) (hD : H D = none) (hG : ∀ H', Same H H' → G H') (Rel : Hp → α → V → Prop) (mono : ∀ H1 H2 a y, Same H1 H2 → Rel H1 a y → Rel H2 a y) (lay : ∀ H1 a y c c', H1 D = some (.lst c) → Rel H1 a y → Rel (upd H1 D (.lst c')) a y)
    (turn : ∀ (i : Nat) (x : V) (a : α) (H1 : Hp) (A : V → Hp → Prop) (B : Hp → Prop), i < n → At i H1 x → items[i]? = some a → H1 D ≠ none → Same H H1 → (keep a = true → ∀ y H2, Same H1 H2 → Rel H2 a y → A y H2) → (keep a = false → ∀ H2, Same H1 H2 → B H2) →
      g x (wipe σ vs) H1 fun σ2 H2 => wipe σ2 vs = wipe σ vs ∧ tt σ2 H2 fun b H3 => if b = true then te σ2 H3 A else B H3)
    (fin : ∀ H' acc, Same H H' → H' D = some (.lst acc) → Paired (fun y a => Rel H' a y) acc (items.filter keep) → Qd H') :
    ∃ W : Nat → Nat → Hp → Prop, (∃ m, W 0 m (upd H D (.lst []))) ∧ ∀ i m H, W i m H →
      (J.stop i H ∧ Qd H) ∨ (J.go i H ∧ ∃ Nx : Hp → Prop, (∀ H', Nx H' → ∃ m', m' < m ∧ W (i + 1) m' H') ∧ ∀ x H', J.yld i H x H' → g x (wipe σ vs) H' fun σ2 H2 => wipe σ2 vs = wipe σ vs ∧ tt σ2 H2 fun b H3 =>
        if b = true then te σ2 H3 fun y H4 => ∃ acc, H4 D = some (.lst acc) ∧ acc.length < sizeLine ∧ Nx (upd H4 D (.lst (acc ++ [y]))) else Nx H3) := by
  have below : ∀ {H1 H2 : Hp} {o : HO}, Same H H1 → Same H1 H2 → Same H (upd H2 D o) := fun {H1 H2 o} a b c u e => by
    rw [upd_ne (ne_of_none e hD)]
    exact b _ _ (a _ _ e)
  refine lc_it w (fun i H' => Same H H' ∧ ∃ acc, H' D = some (.lst acc) ∧ Paired (fun y a => Rel H' a y) acc ((items.take i).filter keep)) ⟨Same.up hD, [], upd_same, by simp; exact .nil⟩ (fun i H' _ p => hG H' p.1) (fun i x H1 H2 hi p y => ?_) fun H' p => ?_
  · obtain ⟨rfl, hx⟩ := hy _ _ _ _ y
    obtain ⟨s1, acc, hd, pr⟩ := p
    have hi' : i < items.length := by omega
    have tk : items.take (i + 1) = items.take i ++ [items[i]] := by rw [List.take_add_one, List.getElem?_eq_getElem hi']; rfl
    have hl : acc.length < sizeLine := by
      have h1 := Paired.length pr
      have h2 := List.length_filter_le keep (items.take i)
      rw [List.length_take] at h2
      omega
    refine turn i x items[i] H2 _ _ hi hx (List.getElem?_eq_getElem hi') (by rw [hd]; simp) s1 (fun hk y H3 s3 r => ?_) fun hk H3 s3 => ?_
    · refine ⟨acc, s3 _ _ hd, hl, below s1 s3, _, upd_same, ?_⟩
      rw [tk, List.filter_append, List.filter_cons, if_pos hk]
      have r1 : Rel (upd H3 D (.lst (acc ++ [y]))) items[i] y := lay _ _ _ _ _ (s3 _ _ hd) r
      have pr1 : Paired (fun z a => Rel (upd H3 D (.lst (acc ++ [y]))) a z) acc ((items.take i).filter keep) := Paired.imp' (fun y a h => lay _ a y _ _ (s3 _ _ hd) (mono _ _ a y s3 h)) pr
      exact Paired.snoc (F := fun z a => Rel (upd H3 D (.lst (acc ++ [y]))) a z) r1 pr1
    · refine ⟨s1.trans s3, acc, s3 _ _ hd, ?_⟩
      rw [tk, List.filter_append, List.filter_cons, if_neg (by rw [hk]; simp)]
      simp only [List.filter_nil, List.append_nil]
      exact Paired.imp' (fun y a h => mono _ _ _ _ s3 h) pr
  · obtain ⟨s1, acc, hd, pr⟩ := p
    rw [← hn, List.take_length] at pr
    exact fin H' acc s1 hd pr
/-- a comprehension over items, some of which are kept, each kept one a new thing; nothing that stood is changed -/
theorem lc_gen {α : Type} {J : It} {n : Nat} {G : Hp → Prop} {Y : Nat → Hp → V → Hp → Prop} {At : Nat → Hp → V → Prop} (w : Walk J n G Y) (hy : ∀ i H x H', Y i H x H' → H' = H ∧ At i H x) {g : TG} {tt : TT} {te : TE} {vs : List Nat} {σ : L2.St} {H : Hp} {D : Addr} {Qd : Hp → Prop}
    (items : List α) (keep : α → Bool) (hn : items.length = n) (hz : n < sizeLine) (hD : H D = none) (hG : ∀ H', Same H H' → G H') (Rel : Hp → α → V → Prop) (mono : ∀ H1 H2 a y, Same H1 H2 → Rel H1 a y → Rel H2 a y) (lay : ∀ H1 a y c c', H1 D = some (.lst c) → Rel H1 a y → Rel (upd H1 D (.lst c')) a y)
    (turn : ∀ (i : Nat) (x : V) (a : α) (H1 : Hp) (A : V → Hp → Prop) (B : Hp → Prop), i < n → At i H1 x → items[i]? = some a → Same H H1 → (keep a = true → ∀ y H2, Same H1 H2 → Rel H2 a y → A y H2) → (keep a = false → ∀ H2, Same H1 H2 → B H2) →
      g x (wipe σ vs) H1 fun σ2 H2 => wipe σ2 vs = wipe σ vs ∧ tt σ2 H2 fun b H3 => if b = true then te σ2 H3 A else B H3)
    (fin : ∀ H' acc, Same H H' → H' D = some (.lst acc) → Paired (fun y a => Rel H' a y) acc (items.filter keep) → Qd H') :
    ∃ W : Nat → Nat → Hp → Prop, (∃ m, W 0 m (upd H D (.lst []))) ∧ ∀ i m H, W i m H →
      (J.stop i H ∧ Qd H) ∨ (J.go i H ∧ ∃ Nx : Hp → Prop, (∀ H', Nx H' → ∃ m', m' < m ∧ W (i + 1) m' H') ∧ ∀ x H', J.yld i H x H' → g x (wipe σ vs) H' fun σ2 H2 => wipe σ2 vs = wipe σ vs ∧ tt σ2 H2 fun b H3 =>
        if b = true then te σ2 H3 fun y H4 => ∃ acc, H4 D = some (.lst acc) ∧ acc.length < sizeLine ∧ Nx (upd H4 D (.lst (acc ++ [y]))) else Nx H3) :=
  lc_genD w hy items keep hn hz hD hG Rel mono lay (fun i x a H1 A B hi hx ha _ s1 => turn i x a H1 A B hi hx ha s1) fin
end Sr

set_option Elab.async false
set_option linter.all false
set_option maxRecDepth 100000
set_option maxHeartbeats 4000000
namespace Sr
open PySem PySem.Spec PyProof.Rows L2
/-! ### dicts of sums -/
def intOf : Option V → Int
  | some (.int i) => i
  | _ => 0
section
variable {κ : Type} [DecidableEq κ]
def bump (kvs : List (κ × V)) (k : κ) (n : Int) : List (κ × V) := putK kvs k (.int (intOf (valV kvs k) + n))
structure Ints (P : κ → Prop) (kvs : List (κ × V)) : Prop where
  ent : ∀ e ∈ kvs, P e.1 ∧ ∃ n, e.2 = .int n
  nd : (kvs.map (·.1)).Nodup
theorem Ints.nil {P : κ → Prop} : Ints P ([] : List (κ × V)) := ⟨fun _ m => absurd m (by simp), List.nodup_nil⟩
theorem Ints.bump {P : κ → Prop} {kvs : List (κ × V)} {k : κ} {n : Int} (h : Ints P kvs) (hk : P k) : Ints P (Sr.bump kvs k n) := by
  unfold Sr.bump putK
  split
  · refine ⟨fun e m => ?_, ?_⟩
    · obtain ⟨e0, m0, rfl⟩ := List.mem_map.mp m
      split
      · exact ⟨(h.ent _ m0).1, _, rfl⟩
      · exact h.ent _ m0
    · rw [List.map_map]
      have e : (kvs.map ((fun x : κ × V => x.1) ∘ fun kv => if kv.1 = k then (kv.1, V.int (intOf (valV kvs k) + n)) else kv)) = kvs.map (·.1) := by
        refine List.map_congr_left fun kv _ => ?_
        show (if kv.1 = k then (kv.1, V.int (intOf (valV kvs k) + n)) else kv).1 = kv.1
        split <;> rfl
      rw [e]
      exact h.nd
  · rename_i no
    refine ⟨fun e m => ?_, ?_⟩
    · rcases List.mem_append.mp m with m | m
      · exact h.ent _ m
      · rw [List.mem_singleton.mp m]
        exact ⟨hk, _, rfl⟩
    · rw [List.map_append]
      refine List.nodup_append.mpr ⟨h.nd, by simp, fun a ha b hb e => no ?_⟩
      have hb' : b = k := by simpa using hb
      obtain ⟨kv, m, e2⟩ := List.mem_map.mp ha
      exact List.any_eq_true.mpr ⟨kv, m, decide_eq_true (e2.trans (e.trans hb'))⟩
theorem bump_len {kvs : List (κ × V)} {k : κ} {n : Int} : (Sr.bump kvs k n).length ≤ kvs.length + 1 := length_putK _ _ _
theorem val_of {kvs : List (κ × V)} : (kvs.map (·.1)).Nodup → ∀ {e : κ × V}, e ∈ kvs → valV kvs e.1 = some e.2 := by
  induction kvs with
  | nil => intro _ e m; cases m
  | cons p r ih =>
    intro nd e m
    rw [List.map_cons] at nd
    obtain ⟨n1, n2⟩ := List.nodup_cons.mp nd
    rcases List.mem_cons.mp m with rfl | m
    · exact valV_pos rfl
    · rw [valV_neg (fun z => n1 (by rw [z]; exact List.mem_map.mpr ⟨e, m, rfl⟩))]
      exact ih n2 m
theorem val_mem {kvs : List (κ × V)} {k : κ} {v : V} (h : valV kvs k = some v) : (k, v) ∈ kvs := by
  unfold valV at h
  obtain ⟨e, h1, h2⟩ := Option.map_eq_some_iff.mp h
  have h3 := List.find?_some h1
  have h4 : e.1 = k := of_decide_eq_true h3
  have m := List.mem_of_find?_eq_some h1
  rw [← h4, ← h2]
  exact m
/-- d.get(k, 0) -/
theorem Ints.get {P : κ → Prop} {kvs : List (κ × V)} (h : Ints P kvs) (k : κ) : (valV kvs k).getD (.int 0) = .int (intOf (valV kvs k)) := by
  cases e : valV kvs k with
  | none => rfl
  | some v =>
    obtain ⟨_, n, en⟩ := h.ent _ (val_mem e)
    have en : v = .int n := en
    subst en
    rfl
theorem Ints.at_ {P : κ → Prop} {kvs : List (κ × V)} (h : Ints P kvs) {k : κ} (m : k ∈ kvs.map (·.1)) : valV kvs k = some (.int (intOf (valV kvs k))) := by
  obtain ⟨e, m2, rfl⟩ := List.mem_map.mp m
  obtain ⟨_, n, en⟩ := h.ent _ m2
  rw [val_of h.nd m2, en]
  rfl
/-- sums of rows, each at its key -/
def sums {α : Type} (key : α → κ) (am : α → Int) (rows : List α) : List (κ × V) := rows.foldl (fun kvs r => bump kvs (key r) (am r)) []
theorem sums_snoc {α : Type} (key : α → κ) (am : α → Int) (rows : List α) (r : α) : sums key am (rows ++ [r]) = bump (sums key am rows) (key r) (am r) := by
  unfold sums
  rw [List.foldl_append]
  rfl
theorem sums_len {α : Type} (key : α → κ) (am : α → Int) : ∀ (rows : List α) (kvs : List (κ × V)), (rows.foldl (fun kvs r => bump kvs (key r) (am r)) kvs).length ≤ kvs.length + rows.length
  | [], _ => Nat.le_refl _
  | r :: t, kvs => by
    have h1 := sums_len key am t (bump kvs (key r) (am r))
    have h2 := bump_len (kvs := kvs) (k := key r) (n := am r)
    simp only [List.foldl_cons, List.length_cons]
    omega
theorem sums_ints {α : Type} {P : κ → Prop} (key : α → κ) (am : α → Int) : ∀ (rows : List α) (kvs : List (κ × V)), Ints P kvs → (∀ r ∈ rows, P (key r)) → Ints P (rows.foldl (fun kvs r => bump kvs (key r) (am r)) kvs)
  | [], _, h, _ => h
  | r :: t, kvs, h, hp => sums_ints key am t _ (h.bump (hp r List.mem_cons_self)) fun x m => hp x (List.mem_cons_of_mem _ m)
end
/-! ### what is told of sums with pairs of texts for keys -/
def small (p : Str × Str) : Prop := p.1.length ≤ 1000 ∧ p.2.length ≤ 1000
def isPk (k : List Key) : Prop := ∃ p, k = pk p ∧ small p
def unpk : List Key → Str × Str
  | [.inr a, .inr b] => (a, b)
  | _ => ("", "")
theorem unpk_pk (p : Str × Str) : unpk (pk p) = p := rfl
theorem pk_inj {p q : Str × Str} (h : pk p = pk q) : p = q := by rw [← unpk_pk p, ← unpk_pk q, h]
def keysOf (kvs : List (List Key × V)) : List (Str × Str) := kvs.map fun e => unpk e.1
theorem keysOf_eq {kvs : List (List Key × V)} (h : Ints isPk kvs) : kvs.map (·.1) = (keysOf kvs).map pk := by
  unfold keysOf
  rw [List.map_map]
  refine List.map_congr_left fun e m => ?_
  obtain ⟨⟨p, e1, _⟩, _⟩ := h.ent e m
  show e.1 = pk (unpk e.1)
  rw [e1, unpk_pk]
theorem keysOf_small {kvs : List (List Key × V)} (h : Ints isPk kvs) : ∀ p ∈ keysOf kvs, small p := fun p m => by
  obtain ⟨e, m2, rfl⟩ := List.mem_map.mp m
  obtain ⟨⟨q, e1, sm⟩, _⟩ := h.ent e m2
  rw [e1]
  exact sm
theorem keysOf_nodup {kvs : List (List Key × V)} (h : Ints isPk kvs) : (keysOf kvs).Nodup := by
  have nd := h.nd
  rw [keysOf_eq h] at nd
  exact List.Pairwise.imp (fun {a b} ne e => ne (by rw [e])) (List.pairwise_map.mp nd)
def amt (kvs : List (List Key × V)) (p : Str × Str) : Int := intOf (valV kvs (pk p))
def kept (kvs : List (List Key × V)) : List (Str × Str) := (pSort (keysOf kvs)).filter fun p => decide (amt kvs p ≠ 0)
def rowTd (p : Str × Str) (n : Int) : Dt := .tup [.str p.1, .str p.2, .int n]
def toldOf (kvs : List (List Key × V)) : List Dt := (kept kvs).map fun p => rowTd p (amt kvs p)
/-- what is told stands in the heap -/
theorem isA_told {H : Hp} {f : Str × Str → Int} : ∀ {acc : List V} {ks : List (Str × Str)}, Paired (fun y k => ∃ q, y = V.ref q ∧ H q = some (.tup [.str k.1, .str k.2, .int (f k)])) acc ks → (∀ k ∈ ks, small k) → IsA H acc (ks.map fun p => rowTd p (f p))
  | _, _, .nil, _ => .nil
  | _, _, .cons (b := k) ⟨q, e, h⟩ t, sm => by
    rw [e]
    have h1 := sm k List.mem_cons_self
    exact .cons (.tup h (.cons (.str _ h1.1) (.cons (.str _ h1.2) (.cons (.int _) .nil))) (show (3 : Nat) ≤ 60 by decide)) (isA_told t fun x m => sm x (List.mem_cons_of_mem _ m))
theorem kept_mem {kvs : List (List Key × V)} {p : Str × Str} (m : p ∈ kept kvs) : p ∈ keysOf kvs := (pSort_perm _).mem_iff.mp (List.mem_filter.mp m).1
theorem kept_nodup {kvs : List (List Key × V)} (h : Ints isPk kvs) : (kept kvs).Nodup := ((pSort_perm _).nodup_iff.mpr (keysOf_nodup h)).filter _
theorem kept_len {kvs : List (List Key × V)} : (kept kvs).length ≤ kvs.length := by
  refine Nat.le_trans (List.length_filter_le _ _) ?_
  rw [(pSort_perm _).length_eq]
  unfold keysOf
  rw [List.length_map]
  exact Nat.le_refl _
end Sr

set_option Elab.async false
set_option linter.all false
set_option maxRecDepth 100000
set_option maxHeartbeats 4000000
namespace Sr
open PySem PySem.Spec PyProof.Rows L2 LamX
/-! ### all but the draws' list -/
def rm (H : Hp) (a : Addr) : Hp := fun b => if b = a then none else H b
theorem cut_if {S REST : TS} {D : Ends} {σ : L2.St} {H : Hp} (G : L2.St → Hp → Prop) (hr : ∀ σ2 H2, G σ2 H2 → REST D σ2 H2) (h : (∀ σ2 H2, G σ2 H2 → REST D σ2 H2) → tSeq S REST D σ H) : tSeq S REST D σ H := h hr
theorem rm_same {H : Hp} {a : Addr} : Same (rm H a) H := fun b o e => by
  unfold rm at e
  split at e
  · cases e
  · exact e
theorem rm_at {H : Hp} {a : Addr} : rm H a a = none := by unfold rm; rw [if_pos rfl]
theorem rm_ne {H : Hp} {a b : Addr} (h : b ≠ a) : rm H a b = H b := by unfold rm; rw [if_neg h]
theorem rm_new {H : Hp} {a : Addr} {o : HO} (h : H a = none) : Same H (rm (upd H a o) a) := fun b x e => by
  have n := ne_of_none e h
  rw [rm_ne n, upd_ne n]
  exact e
theorem rm_upd {H : Hp} {a : Addr} {o : HO} : rm (upd H a o) a = rm H a := by
  funext b
  by_cases c : b = a
  · rw [c, rm_at, rm_at]
  · rw [rm_ne c, rm_ne c, upd_ne c]
theorem Same.rm {H H' : Hp} {a : Addr} (s : Same H H') : Same (Sr.rm H a) (Sr.rm H' a) := fun b o e => by
  by_cases c : b = a
  · rw [c, rm_at] at e; cases e
  · rw [rm_ne c] at e ⊢; exact s _ _ e
theorem rm_free {H : Hp} {a p : Addr} (h : H p = none) : rm H a p = none := by
  by_cases c : p = a
  · rw [c, rm_at]
  · rw [rm_ne c, h]
/-- an object of one's own changes: what stood ahead of it stays -/
theorem Same.set {M H : Hp} {p : Addr} {o : HO} (s : Same M H) (h : M p = none) : Same M (upd H p o) := fun b u e => by
  rw [upd_ne (ne_of_none e h)]
  exact s _ _ e
mutual
theorem Is.ext {H H' : Hp} (e : ExtN H H') : ∀ {v : V} {d : Dt}, Is H v d → Is H' v d
  | _, _, .non => .non
  | _, _, .bl b => .bl b
  | _, _, .int i => .int i
  | _, _, .str s h => .str s h
  | _, _, .lst h r z => .lst (e _ _ h (fun _ q => by cases q)) (IsA.ext e r) z
  | _, _, .tup h r z => .tup (e _ _ h (fun _ q => by cases q)) (IsA.ext e r) z
  | _, _, .dic h => .dic (e _ _ h (fun _ q => by cases q))
theorem IsA.ext {H H' : Hp} (e : ExtN H H') : ∀ {vs : List V} {ds : List Dt}, IsA H vs ds → IsA H' vs ds
  | _, _, .nil => .nil
  | _, _, .cons h r => .cons (Is.ext e h) (IsA.ext e r)
end
/-- what data consist of -/
def dataO : HO → Prop
  | .lst _ => True
  | .tup _ => True
  | .dK _ => True
  | _ => False
mutual
theorem Is.keep {H H' : Hp} (e : ∀ b o, H b = some o → dataO o → H' b = some o) : ∀ {v : V} {d : Dt}, Is H v d → Is H' v d
  | _, _, .non => .non
  | _, _, .bl b => .bl b
  | _, _, .int i => .int i
  | _, _, .str s h => .str s h
  | _, _, .lst h r z => .lst (e _ _ h trivial) (IsA.keep e r) z
  | _, _, .tup h r z => .tup (e _ _ h trivial) (IsA.keep e r) z
  | _, _, .dic h => .dic (e _ _ h trivial)
theorem IsA.keep {H H' : Hp} (e : ∀ b o, H b = some o → dataO o → H' b = some o) : ∀ {vs : List V} {ds : List Dt}, IsA H vs ds → IsA H' vs ds
  | _, _, .nil => .nil
  | _, _, .cons h r => .cons (Is.keep e h) (IsA.keep e r)
end
/-- a frozen thing let go -/
theorem thaw {H : Hp} {p : Addr} {od : Obj} {u o : HO} (h : H p = some (.frz od u)) : ∀ b x, H b = some x → dataO x → (upd H p o) b = some x := fun b x e d => by
  rw [upd_ne fun z => ?_]
  · exact e
  · rw [z, h] at e
    cases e
    exact d.elim
/-- no list of three ints within -/
def three : List Dt → Bool
  | [.int _, .int _, .int _] => true
  | _ => false
mutual
def noD : Dt → Bool
  | .lst l => !three l && noDs l
  | .tup l => noDs l
  | _ => true
def noDs : List Dt → Bool
  | [] => true
  | d :: r => noD d && noDs r
end
theorem noDs_all : ∀ {l : List Dt}, (∀ d ∈ l, noD d = true) → noDs l = true
  | [], _ => rfl
  | d :: r, h => by
    unfold noDs
    rw [h d List.mem_cons_self, noDs_all fun x m => h x (List.mem_cons_of_mem _ m)]
    rfl
theorem ints_three {H : Hp} {x y z : Int} {ds : List Dt} (h : IsA H [.int x, .int y, .int z] ds) : three ds = true := by
  cases h with
  | cons h1 t => cases t with
    | cons h2 t => cases t with
      | cons h3 t => cases t with
        | nil => cases h1 with
          | int i => cases h2 with
            | int j => cases h3 with
              | int k => rfl
mutual
theorem Is.off {H : Hp} {a : Addr} (hd : DrawsAt H a) : ∀ {v : V} {d : Dt}, Is H v d → noD d = true → Is (rm H a) v d
  | _, _, .non, _ => .non
  | _, _, .bl b, _ => .bl b
  | _, _, .int i, _ => .int i
  | _, _, .str s h, _ => .str s h
  | _, _, .lst (a := b) (xs := xs) (ds := ds) h r z, n => by
    unfold noD at n
    obtain ⟨n1, n2⟩ := Bool.and_eq_true_iff.mp n
    have ne : b ≠ a := fun e => by
      obtain ⟨o, ho, x, y, w, rfl⟩ := hd
      rw [← e, h] at ho
      have e2 : xs = [.int x, .int y, .int w] := by injection ho with ho; injection ho
      rw [e2] at r
      rw [ints_three r] at n1
      cases n1
    exact .lst (by rw [rm_ne ne]; exact h) (IsA.off hd r n2) z
  | _, _, .tup (a := b) h r z, n => by
    unfold noD at n
    have ne : b ≠ a := fun e => by
      obtain ⟨o, ho, x, y, w, rfl⟩ := hd
      rw [← e, h] at ho
      injection ho with ho
      cases ho
    exact .tup (by rw [rm_ne ne]; exact h) (IsA.off hd r n) z
  | _, _, .dic (a := b) h, _ => by
    have ne : b ≠ a := fun e => by
      obtain ⟨o, ho, x, y, w, rfl⟩ := hd
      rw [← e, h] at ho
      injection ho with ho
      cases ho
    exact .dic (by rw [rm_ne ne]; exact h)
theorem IsA.off {H : Hp} {a : Addr} (hd : DrawsAt H a) : ∀ {vs : List V} {ds : List Dt}, IsA H vs ds → noDs ds = true → IsA (rm H a) vs ds
  | _, _, .nil, _ => .nil
  | _, _, .cons h r, n => by
    unfold noDs at n
    obtain ⟨n1, n2⟩ := Bool.and_eq_true_iff.mp n
    exact .cons (Is.off hd h n1) (IsA.off hd r n2)
end
theorem Tabs.off {T : List (Addr × Str)} {H : Hp} {a : Addr} (t : Tabs T H) (hd : DrawsAt H a) : Tabs T (rm H a) := fun p hp => by
  obtain ⟨o, ho, x, y, w, rfl⟩ := hd
  obtain ⟨ps, h1, h2, h3⟩ := t p hp
  have n1 : p.1 ≠ a := fun e => by rw [e, ho] at h1; injection h1 with h1; cases h1
  refine ⟨ps, by rw [rm_ne n1]; exact h1, h2, fun pos cv hc => ?_⟩
  obtain ⟨c, e1, e2⟩ := h3 pos cv hc
  have n2 : c ≠ a := fun e => by
    rw [e, ho] at e2
    injection e2 with e2
    unfold CodeO at e2
    cases e2
  exact ⟨c, e1, by rw [rm_ne n2]; exact e2⟩
theorem ExtN.set {M H : Hp} {p : Addr} {o : HO} (e : ExtN M H) (h : M p = none) : ExtN M (upd H p o) := fun b u q n => by
  rw [upd_ne (ne_of_none q h)]
  exact e _ _ q n
theorem ExtN.none {H H' : Hp} {p : Addr} (e : ExtN H H') (h : H' p = Option.none) (n : ∀ ps, H p ≠ some (.tbl ps)) : H p = Option.none := by
  cases q : H p with
  | none => rfl
  | some o =>
    have := e _ _ q (fun ps z => n ps (by rw [q, z]))
    rw [this] at h
    cases h
theorem sql_ext {K : PySem.W.Frag} {H H' : Hp} {a : Addr} {xs : List V} (e : ExtN H H') (h : SqL K H a xs) : SqL K H' a xs := by
  rcases h with (h | ⟨u, h⟩) | h
  · exact .inl (.inl (e _ _ h fun _ q => by cases q))
  · exact .inl (.inr ⟨u, e _ _ h fun _ q => by cases q⟩)
  · exact .inr h
/-- a list changes: the tables stay -/
theorem Tabs.set {T : List (Addr × Str)} {H : Hp} {f : Addr} {xs ys : List V} (t : Tabs T H) (hf : H f = some (.lst xs)) : Tabs T (upd H f (.lst ys)) := fun p hp => by
  obtain ⟨ps, h1, h2, h3⟩ := t p hp
  have n1 : p.1 ≠ f := fun e => by rw [e, hf] at h1; injection h1 with h1; cases h1
  refine ⟨ps, by rw [upd_ne n1]; exact h1, h2, fun pos cv hc => ?_⟩
  obtain ⟨c, e1, e2⟩ := h3 pos cv hc
  have n2 : c ≠ f := fun e => by
    rw [e, hf] at e2
    injection e2 with e2
    unfold CodeO at e2
    cases e2
  exact ⟨c, e1, by rw [upd_ne n2]; exact e2⟩
theorem cut_to (xs : List V) {k : Nat} (h : k ≤ xs.length) : cutV xs none (some (k : Int)) = xs.take k := by
  unfold cutV
  rw [HT.sIx_none, HT.sIx_nat, Nat.min_eq_left h, Nat.sub_zero, List.drop_zero]
theorem cut_from (xs : List V) {k : Nat} (h : k ≤ xs.length) : cutV xs (some (k : Int)) none = xs.drop k := by
  unfold cutV
  rw [HT.sIx_none, HT.sIx_nat, Nat.min_eq_left h, List.take_of_length_le (by rw [List.length_drop]; exact Nat.le_refl _)]
/-! ### what is settled, beside the draws' list at a -/
structure Dr (a : Addr) (M H : Hp) : Prop where
  d : DrawsAt H a
  s : Same M (rm H a)
section
variable {a p : Addr} {M H H' : Hp} {o : HO}
theorem Dr.ne (D : Dr a M H) {b : Addr} {x : HO} (e : M b = some x) : b ≠ a := fun z => by
  have h := D.s _ _ e
  rw [z, rm_at] at h
  cases h
theorem Dr.get (D : Dr a M H) {b : Addr} {x : HO} (e : M b = some x) : H b = some x := rm_same _ _ (D.s _ _ e)
theorem Dr.up (D : Dr a M H) : Same M H := fun _ _ e => D.get e
theorem Dr.free (D : Dr a M H) {b : Addr} (h : H b = none) : M b = none := by
  cases q : M b with
  | none => rfl
  | some x => rw [D.get q] at h; cases h
theorem Dr.grow (D : Dr a M H) (s : Same H H') : Dr a M H' := ⟨by
  obtain ⟨o, e, x⟩ := D.d
  exact ⟨o, s _ _ e, x⟩, D.s.trans (Same.rm s)⟩
theorem Dr.lay (D : Dr a M H) (hp : H p = none) : Dr a (upd M p o) (upd H p o) ∧ Same M (upd M p o) := by
  have np : p ≠ a := fun z => D.d.some (by rw [← z]; exact hp)
  refine ⟨⟨(D.grow (Same.up hp)).d, fun b x e => ?_⟩, Same.up (D.free hp)⟩
  by_cases c : b = p
  · rw [c, upd_same] at e
    rw [c, rm_ne np, upd_same]
    exact e
  · rw [upd_ne c] at e
    have h := D.s _ _ e
    have nb : b ≠ a := D.ne e
    rw [rm_ne nb] at h ⊢
    rw [upd_ne c]
    exact h
theorem Dr.pick (D : Dr a M H) (ho : DrawsO o) : Dr a M (upd H a o) := ⟨⟨o, upd_same, ho⟩, by rw [rm_upd]; exact D.s⟩
end
end Sr

set_option Elab.async false
set_option linter.all false
set_option maxRecDepth 100000
set_option maxHeartbeats 4000000
namespace K07
open PySem PySem.Spec PyProof.Rows L2 Sr
/-! ### draws that are counted -/
def DrN (n : Nat) (o : HO) : Prop := ∃ x y z : Int, o = .lst [.int x, .int y, .int z] ∧ 0 ≤ y ∧ y ≤ 2147484000 ∧ 0 ≤ z ∧ z ≤ (n : Nat)
def DnAt (n : Nat) (H : Hp) (a : Addr) : Prop := ∃ o, H a = some o ∧ DrN n o
theorem DrN.le {n m : Nat} {o : HO} (h : DrN n o) (l : n ≤ m) : DrN m o := by
  obtain ⟨x, y, z, e, h1, h2, h3, h4⟩ := h
  exact ⟨x, y, z, e, h1, h2, h3, by omega⟩
theorem DnAt.le {n m : Nat} {H : Hp} {a : Addr} (h : DnAt n H a) (l : n ≤ m) : DnAt m H a := by
  obtain ⟨o, e, x⟩ := h
  exact ⟨o, e, x.le l⟩
theorem DnAt.up {n : Nat} {H H' : Hp} {a : Addr} (h : DnAt n H a) (s : Same H H') : DnAt n H' a := by
  obtain ⟨o, e, x⟩ := h
  exact ⟨o, s _ _ e, x⟩
theorem DnAt.at_ {n : Nat} {H : Hp} {a : Addr} (h : DnAt n H a) : DrawsAt H a := by
  obtain ⟨o, e, x, y, z, r, _⟩ := h
  exact ⟨o, e, x, y, z, r⟩
theorem DnAt.some {n : Nat} {H : Hp} {a : Addr} (h : DnAt n H a) : H a ≠ none := h.at_.some
/-- something else is changed -/
theorem DnAt.set {n : Nat} {H : Hp} {a p : Addr} {o : HO} (h : DnAt n H a) (ne : p ≠ a) : DnAt n (upd H p o) a := by
  obtain ⟨o', e, x⟩ := h
  exact ⟨o', by rw [upd_ne ne.symm]; exact e, x⟩
theorem DnAt.new {n : Nat} {H : Hp} {a p : Addr} (h : DnAt n H a) (e : H p = none) : p ≠ a := fun z => h.some (by rw [← z]; exact e)
def spStream (K : PySem.W.Frag) : Sp := fun vs H Q _ => ∃ (s : Addr) (t : Int) (ns : List Int), vs = [.ref s, .int t] ∧ SqL K H s (ns.map V.int) ∧ 0 ≤ t ∧ t ≤ 10 ∧ ∀ p o, H p = none → DrN 0 o → Q (.ref p) (upd H p o)
def spDraw : Sp := fun vs H Q _ => ∃ (a : Addr) (m : Int) (n : Nat), vs = [.ref a, .int m] ∧ DnAt n H a ∧ n ≤ 1000000000 ∧ 1 ≤ m ∧ m < 1073741824 ∧ ∀ r o, 0 ≤ r → r < m → DrN (n + 1) o → Q (.int r) (upd H a o)
def spPick (K : PySem.W.Frag) : Sp := fun vs H Q _ => ∃ (a l : Addr) (xs : List V) (n : Nat), vs = [.ref a, .ref l] ∧ DnAt n H a ∧ n ≤ 1000000000 ∧ l ≠ a ∧ (SqL K H l xs ∨ SqT K H l xs) ∧ 1 ≤ xs.length ∧ xs.length < 1073741824 ∧ ∀ (i : Nat) v o, xs[i]? = some v → DrN (n + 1) o → Q v (upd H a o)
section
variable {P : Program} {w : World} {K : PySem.W.Frag} {mg : Str → Option Value} {base : Heap}
abbrev s__law_stream : Stmt := top 39
theorem sc__law_stream : FnScope ["script", "k", "cell"] ["script", "k"] (defScope s__law_stream) := ⟨rfl, rfl, rfl, by decide +kernel, rfl, by decide +kernel, by decide +kernel⟩
theorem c__law_stream (T : Txt K mg) (D : Dfn K mg "_law_stream" s__law_stream) : Cal P w K mg base 1 "_law_stream" ["script", "k"] (spStream K) := by
  refine D.cal sc__law_stream (fun _ _ _ _ _ _ us hl => match us, hl with | [_, _], _ => rfl) (fun vs H Q E h => ?_) fun cdv A outer s H vs Q E hr h => ?_
  · obtain ⟨s, t, ns, rfl, _⟩ := h
    rfl
  obtain ⟨sc, t, ns, rfl, hS, h0, h10, q⟩ := h
  refine ⟨_, (pss_cons (ps_set (i := 2) sc__law_stream.nd rfl (by first | exact Or.inl rfl | exact Or.inr rfl) (pe_ifExp (pt_cmpR op_lt (pv 1) (pe_callB (id := "len") call_len_seq (by rfl) T.len (by decide +kernel) (pa_cons (pv 0) pa_nil)) (nomark _)) (pe_callB (id := "abs") call_abs (by rfl) T.abs (by decide +kernel) (pa_cons (pe_ix ix_list (pv 0) (pv 1) (fun _ _ => rfl)) pa_nil)) pe_int))
      (pss_one (ps_ret (pe_lst (pa_cons (pe_ifExp (pt_cmpR op_ge (pv 2) (pe_op op_pow pe_int pe_int) (nomark _)) (pv 2) pe_int) (pa_cons (pe_op op_add (pe_op op_mod (pe_callTy (T := "int") call_int1 (by rfl) T.int (by decide +kernel) (pa_cons (pv 2) pa_nil)) pe_int) (pe_op op_mul pe_int (pv 1))) (pa_cons pe_int pa_nil))))))), ?_⟩
  refine cut_if (fun σ H' => H' = H ∧ ∃ c : Int, σ = [some (.ref sc), some (.int t), some (.int c)]) ?_ fun rest => ?_
  rotate_left
  · refine ⟨_, rfl, _, rfl, sc, _, rfl, .inl hS, _, _, rfl, rfl, _, rfl, ?_⟩
    by_cases h : t < ((ns.map V.int).length : Int)
    · rw [decide_eq_true h]
      have hlt : t.toNat < ns.length := by rw [List.length_map] at h; omega
      exact iteT ⟨_, rfl, _, rfl, sc, _, _, .int ns[t.toNat], rfl, rfl, hS, atI_of (j := t.toNat) (by omega) (by rw [List.getElem?_map, List.getElem?_eq_getElem hlt]; rfl), _, rfl, rest _ _ ⟨rfl, _, rfl⟩⟩
    · rw [decide_eq_false h]
      exact iteF (rest _ _ ⟨rfl, _, rfl⟩)
  rintro σ H' ⟨rfl, c, rfl⟩
  try dsimp only
  have b1 : 0 ≤ c % 2147483647 + 31 * t ∧ c % 2147483647 + 31 * t ≤ 2147484000 := by omega
  refine ⟨_, rfl, _, _, rfl, rfl, ⟨by decide, by decide, by decide⟩, _, _, rfl, rfl, _, rfl, ?_⟩
  refine iteB ?_ ?_
  · exact ⟨_, rfl, _, rfl, .inl ⟨_, rfl, _, _, rfl, rfl, (by show (0 : Int) < 2147483647; decide), _, rfl, _, _, rfl, rfl, .inl ⟨by decide, by decide⟩, _, _, rfl, rfl, three_line, fun p hp => q p _ hp ⟨_, _, _, rfl, b1.1, b1.2, by decide, by decide⟩⟩⟩
  · exact ⟨_, rfl, .inl ⟨_, rfl, _, _, rfl, rfl, (by show (0 : Int) < 2147483647; decide), _, rfl, _, _, rfl, rfl, .inl ⟨by decide, by decide⟩, _, _, rfl, rfl, three_line, fun p hp => q p _ hp ⟨_, _, _, rfl, b1.1, b1.2, by decide, by decide⟩⟩⟩
abbrev s__law_draw : Stmt := top 40
theorem sc__law_draw : FnScope ["stream", "many", "spread", "digit"] ["stream", "many"] (defScope s__law_draw) := ⟨rfl, rfl, rfl, by decide +kernel, rfl, by decide +kernel, by decide +kernel⟩
theorem c__law_draw (T : Txt K mg) (D : Dfn K mg "_law_draw" s__law_draw) : Cal P w K mg base 1 "_law_draw" ["stream", "many"] spDraw := by
  refine D.cal sc__law_draw (fun _ _ _ _ _ _ us hl => match us, hl with | [_, _], _ => rfl) (fun vs H Q E h => ?_) fun cdv A outer s H vs Q E hr h => ?_
  · obtain ⟨a, m, n, rfl, _⟩ := h
    rfl
  obtain ⟨a, m, n, rfl, ⟨o, ho, x, y, z, rfl, y0, y1, z0, z1⟩, hn, h1, h2, q⟩ := h
  refine ⟨_, (pss_cons (ps_if (pt_cmpR op_gt (pe_ix ix_list (pv 0) pe_int (fun _ _ => rfl)) pe_int (nomark _)) (pss_cons (ps_set (i := 3) sc__law_draw.nd rfl (by first | exact Or.inl rfl | exact Or.inr rfl) (pe_op op_mod (pe_callTy (T := "int") call_int1 (by rfl) T.int (by decide +kernel) (pa_cons (pe_ix ix_list (pv 0) pe_int (fun _ _ => rfl)) pa_nil)) (pv 1)))
      (pss_cons (ps_asg (pe_op op_fdiv (pe_ix ix_list (pv 0) pe_int (fun _ _ => rfl)) (pv 1)) (pg_sub (pv 0) pe_int set_list))
      (pss_one (ps_ret (pv 3))))) pss_nil)
      (pss_cons (ps_asg (pe_op op_add (pe_ix ix_list (pv 0) pe_int (fun _ _ => rfl)) pe_int) (pg_sub (pv 0) pe_int set_list))
      (pss_cons (ps_set (i := 2) sc__law_draw.nd rfl (by first | exact Or.inl rfl | exact Or.inr rfl) (pe_op op_mod (pe_op op_pow (pe_callTy (T := "int") call_int1 (by rfl) T.int (by decide +kernel) (pa_cons (pe_op op_add (pe_op op_add (pe_ix ix_list (pv 0) pe_int (fun _ _ => rfl)) (pe_op op_mul pe_int (pe_ix ix_list (pv 0) pe_int (fun _ _ => rfl)))) pe_int) pa_nil)) pe_int) pe_int))
      (pss_one (ps_ret (pe_op op_mod (pe_op op_fdiv (pe_op op_mod (pe_callTy (T := "int") call_int1 (by rfl) T.int (by decide +kernel) (pa_cons (pe_op op_mul (pe_op op_add (pv 2) (pe_ix ix_list (pv 0) pe_int (fun _ _ => rfl))) pe_int) pa_nil)) pe_int) pe_int) (pv 1))))))), ?_⟩
  refine ⟨_, rfl, a, _, _, _, rfl, rfl, SqL.of ho, rfl, _, _, rfl, rfl, _, rfl, ?_⟩
  refine iteB ?_ ?_
  · refine ⟨_, rfl, a, _, _, _, rfl, rfl, SqL.of ho, rfl, .inl ⟨_, rfl, _, rfl, _, _, rfl, rfl, (by show 0 < m; omega), ?_⟩⟩
    refine ⟨_, rfl, a, _, _, _, rfl, rfl, SqL.of ho, rfl, _, rfl, _, _, rfl, rfl, ⟨by omega, h2⟩, _, rfl, a, _, _, 0, rfl, rfl, ho, rfl, ?_⟩
    exact ⟨_, rfl, q _ _ (Int.emod_nonneg _ (by omega)) (Int.emod_lt_of_pos _ (by omega)) ⟨_, _, _, rfl, y0, y1, z0, by omega⟩⟩
  · refine ⟨_, rfl, a, _, _, _, rfl, rfl, SqL.of ho, rfl, _, _, rfl, rfl, _, rfl, a, _, _, 2, rfl, rfl, ho, rfl, ?_⟩
    have bb : (y + 7919 * (z + 1) + 104729).natAbs < 2 ^ 64 := by omega
    refine ⟨_, rfl, a, _, _, _, rfl, rfl, SqL.of upd_same, rfl, _, rfl, a, _, _, _, rfl, rfl, SqL.of upd_same, rfl, _, _, rfl, rfl, .inl ⟨by decide, by decide⟩, _, _, rfl, rfl, _, _, rfl, rfl, .inl ⟨_, rfl, _, _, rfl, rfl, ⟨by decide, by decide, bb⟩, _, _, rfl, rfl, (by show (0 : Int) < 2147483647; decide), ?_⟩⟩
    refine ⟨_, rfl, _, rfl, a, _, _, _, rfl, rfl, SqL.of upd_same, rfl, _, _, rfl, rfl, _, _, rfl, rfl, .inr ⟨by decide, by decide⟩, .inl ⟨_, rfl, _, _, rfl, rfl, (by show (0 : Int) < 2147483629; decide), _, _, rfl, rfl, ⟨by decide, by decide⟩, _, rfl, _, _, rfl, rfl, (by show 0 < m; omega), ?_⟩⟩
    exact q _ _ (Int.emod_nonneg _ (by omega)) (Int.emod_lt_of_pos _ (by omega)) ⟨_, _, _, rfl, y0, y1, by omega, by push_cast; omega⟩
abbrev s__law_pick : Stmt := top 41
theorem sc__law_pick : FnScope ["stream", "things"] ["stream", "things"] (defScope s__law_pick) := ⟨rfl, rfl, rfl, by decide +kernel, rfl, by decide +kernel, by decide +kernel⟩
theorem c__law_pick (T : Txt K mg) (D : Dfn K mg "_law_pick" s__law_pick) (C_law_draw : Cal P w K mg base 1 "_law_draw" ["stream", "many"] spDraw) : Cal P w K mg base 2 "_law_pick" ["stream", "things"] (spPick K) := by
  refine D.cal sc__law_pick (fun _ _ _ _ _ _ us hl => match us, hl with | [_, _], _ => rfl) (fun vs H Q E h => ?_) fun cdv A outer s H vs Q E hr h => ?_
  · obtain ⟨a, l, xs, n, rfl, _⟩ := h
    rfl
  obtain ⟨a, l, xs, n, rfl, hd, hb, hn, hx, l1, l2, q⟩ := h
  refine ⟨_, (pss_one (ps_ret (pe_ix ix_seq (pv 1) (pe_cal C_law_draw hr (by first | decide | omega) (by rfl) (pa_cons (pv 0) (pa_cons (pe_callB (id := "len") call_len_seq (by rfl) T.len (by decide +kernel) (pa_cons (pv 1) pa_nil)) pa_nil))) (fun _ _ => rfl)))), ?_⟩
  refine ⟨_, rfl, _, rfl, _, rfl, l, xs, rfl, hx, a, _, n, rfl, hd, hb, by omega, by omega, fun r o r0 r1 ho => ?_⟩
  have hlt : r.toNat < xs.length := by omega
  have e : atI xs r = some xs[r.toNat] := atI_of (j := r.toNat) (by omega) (List.getElem?_eq_getElem hlt)
  rcases seq_upd (o := o) hn hx with h | h
  · exact .inl ⟨l, xs, r, _, rfl, rfl, h, e, q r.toNat _ o (List.getElem?_eq_getElem hlt) ho⟩
  · exact .inr (.inl ⟨l, xs, r, _, rfl, rfl, h, e, q r.toNat _ o (List.getElem?_eq_getElem hlt) ho⟩)
end
/-! ### what is beside the draws -/
theorem same_set {M H : Hp} {a t : Addr} {o : HO} (s : Same M (rm H a)) (n : M t = none) : Same M (rm (upd H t o) a) := fun b x e => by
  have nt : b ≠ t := ne_of_none e n
  have h := s _ _ e
  have na : b ≠ a := fun z => by rw [z, rm_at] at h; cases h
  rw [rm_ne na] at h ⊢
  rw [upd_ne nt]
  exact h
theorem DnAt.put {n : Nat} {H : Hp} {a : Addr} {o : HO} (h : DrN n o) : DnAt n (upd H a o) a := ⟨o, upd_same, h⟩
theorem rm_put {H : Hp} {a : Addr} {o : HO} : Same (rm H a) (rm (upd H a o) a) := by rw [rm_upd]; exact Same.refl _
theorem at_off {n : Nat} {H : Hp} {a b : Addr} {o : HO} (d : DnAt n H a) (h : H b = some o) (x : ∀ xs, o ≠ .lst xs) : rm H a b = some o := by
  rw [rm_ne fun z => ?_]
  · exact h
  · obtain ⟨o', e, _, _, _, e2, _⟩ := d
    rw [← z, h] at e
    cases e
    exact x _ e2
theorem rm_out {n : Nat} {H H' : Hp} {a b : Addr} (s : Same (rm H a) (rm H' a)) (d : DnAt n H' a) (h : H' b = none) : (rm H a) b = none := by
  cases e : rm H a b with
  | none => rfl
  | some o =>
    have := rm_same _ _ (s _ _ e)
    rw [h] at this
    cases this
/-- a comprehension that draws for each item; beside the draws and itself nothing is changed -/
theorem lc_draw {α : Type} {J : It} {n : Nat} {G : Hp → Prop} {Y : Nat → Hp → V → Hp → Prop} {At : Nat → Hp → V → Prop} (w : Walk J n G Y) (hy : ∀ i H x H', Y i H x H' → H' = H ∧ At i H x) {g : TG} {te : TE} {vs : List Nat} {σ : L2.St} {H : Hp} {a D : Addr} {k c : Nat} {Qd : Hp → Prop}
    (items : List α) (hn : items.length = n) (hz : n < sizeLine) (hD : H D = none) (d0 : DnAt k H a) (hG : ∀ H', Same (rm H a) (rm H' a) → G H') (Rel : Hp → α → V → Prop) (mono : ∀ H1 H2 x y, Same H1 H2 → Rel H1 x y → Rel H2 x y) (lay : ∀ H1 x y c c', H1 D = some (.lst c) → Rel H1 x y → Rel (upd H1 D (.lst c')) x y)
    (turn : ∀ (i : Nat) (x : V) (z : α) (H1 : Hp) (A : V → Hp → Prop) (B : Hp → Prop), i < n → At i H1 x → items[i]? = some z → H1 D ≠ none → DnAt (k + c * i) H1 a → Same (rm H a) (rm H1 a) → (∀ y H2, DnAt (k + c * (i + 1)) H2 a → Same (rm H1 a) (rm H2 a) → Rel (rm H2 a) z y → A y H2) →
      g x (wipe σ vs) H1 fun σ2 H2 => wipe σ2 vs = wipe σ vs ∧ tYes σ2 H2 fun b H3 => if b = true then te σ2 H3 A else B H3)
    (fin : ∀ H' acc, DnAt (k + c * n) H' a → Same (rm H a) (rm H' a) → H' D = some (.lst acc) → Paired (fun y z => Rel (rm H' a) z y) acc items → Qd H') :
    ∃ W : Nat → Nat → Hp → Prop, (∃ m, W 0 m (upd H D (.lst []))) ∧ ∀ i m H, W i m H →
      (J.stop i H ∧ Qd H) ∨ (J.go i H ∧ ∃ Nx : Hp → Prop, (∀ H', Nx H' → ∃ m', m' < m ∧ W (i + 1) m' H') ∧ ∀ x H', J.yld i H x H' → g x (wipe σ vs) H' fun σ2 H2 => wipe σ2 vs = wipe σ vs ∧ tYes σ2 H2 fun b H3 =>
        if b = true then te σ2 H3 fun y H4 => ∃ acc, H4 D = some (.lst acc) ∧ acc.length < sizeLine ∧ Nx (upd H4 D (.lst (acc ++ [y]))) else Nx H3) := by
  have nDa : D ≠ a := d0.new hD
  have mD : (rm H a) D = none := by rw [rm_ne nDa]; exact hD
  refine lc_it w (fun i H' => DnAt (k + c * i) H' a ∧ Same (rm H a) (rm H' a) ∧ ∃ acc, H' D = some (.lst acc) ∧ Paired (fun y z => Rel (rm H' a) z y) acc (items.take i)) ⟨d0.set nDa, same_set (Same.refl _) mD, [], upd_same, by simp; exact .nil⟩ (fun i H' _ p => hG H' p.2.1) (fun i x H1 H2 hi p y => ?_) fun H' p => ?_
  · obtain ⟨rfl, hx⟩ := hy _ _ _ _ y
    obtain ⟨d1, s1, acc, hd, pr⟩ := p
    have hi' : i < items.length := by omega
    have tk : items.take (i + 1) = items.take i ++ [items[i]] := by rw [List.take_add_one, List.getElem?_eq_getElem hi']; rfl
    have hl : acc.length < sizeLine := by
      have h1 := Paired.length pr
      rw [List.length_take] at h1
      omega
    refine turn i x items[i] H2 _ _ hi hx (List.getElem?_eq_getElem hi') (by rw [hd]; simp) d1 s1 fun y H3 d3 s3 r => ?_
    have hd3 : H3 D = some (.lst acc) := by
      have := s3 D _ (by rw [rm_ne nDa]; exact hd)
      rwa [rm_ne nDa] at this
    have hdr : (rm H3 a) D = some (.lst acc) := by rw [rm_ne nDa]; exact hd3
    have eu : rm (upd H3 D (.lst (acc ++ [y]))) a = upd (rm H3 a) D (.lst (acc ++ [y])) := by
      funext b
      by_cases c1 : b = a
      · rw [c1, rm_at, upd_ne nDa.symm, rm_at]
      · rw [rm_ne c1]
        by_cases c2 : b = D
        · rw [c2, upd_same, upd_same]
        · rw [upd_ne c2, upd_ne c2, rm_ne c1]
    refine ⟨acc, hd3, hl, d3.set nDa, same_set (s1.trans s3) mD, _, upd_same, ?_⟩
    rw [tk, eu]
    exact Paired.snoc (F := fun z a => Rel _ a z) (Paired.imp' (fun y a h => lay _ a y _ _ hdr (mono _ _ a y s3 h)) pr) (lay _ _ _ _ _ hdr r)
  · obtain ⟨d1, s1, acc, hd, pr⟩ := p
    rw [← hn, List.take_length] at pr
    exact fin H' acc d1 s1 hd pr
end K07

set_option Elab.async false
set_option linter.all false
set_option maxRecDepth 100000
set_option maxHeartbeats 4000000
namespace Sr
open PySem PySem.Spec PyProof.Rows L2
/-- a method of a list or a dict called in a comprehension's block -/
theorem pe_bmK {X : Cx} {T id name : String} {r : V → List V → Hp → VK → Prop} {o e : Expr} {es : List Expr} {to : TE} {t : TA} {apos cpos : Pos} (K : PySem.W.Frag) (hK : X.K = K) (pa : PlainAttrs T) (slot : Slot T name id) (hty : typeOf (.builtin id) = pure (.type "method_descriptor")) (hm : MtR X id r) (ho : PE X o to) (ha : PA X (e :: es) t)
    (hbase : attributeBase o name X.env (eval o X.env) = eval o X.env := by rfl)
    (hfew : ((backTo cpos (starEach (e :: es) X.env)).all (fun x => !x.1) && (backToKw cpos (keywordEach [] X.env)).all (fun x => x.1.isSome)
      && decide ((e :: es).length + ([] : List Keyword).length + (if ([] : List Keyword).isEmpty then 0 else 1) < 30)) = true := by rfl)
    (hline : (apos.endLine == cpos.line) = true := by rfl) (hs : starEach (e :: es) X.env = (false, eval e X.env) :: starEach es X.env := by rfl) (hplain : (backTo cpos (starEach es X.env)).any (·.1) = false := by rfl) :
    PE X (.Call (.Attribute o name apos) (e :: es) [] cpos) (tBM K T r to t) := by
  subst hK
  exact pe_bm pa slot hty hm ho ha hbase hfew hline hs hplain
end Sr

set_option Elab.async false
set_option linter.all false
set_option maxRecDepth 100000
set_option maxHeartbeats 4000000
namespace K07
open PySem PySem.Spec PyProof.Rows L2 Sr
theorem erase_map {α β : Type} (f : α → β) : ∀ (l : List α) (i : Nat), (l.map f).eraseIdx i = (l.eraseIdx i).map f
  | [], _ => rfl
  | _ :: _, 0 => rfl
  | x :: r, i + 1 => congrArg (f x :: ·) (erase_map f r i)
theorem erase_perm {α : Type} : ∀ {l : List α} {i : Nat} {x : α}, l[i]? = some x → l.Perm (x :: l.eraseIdx i)
  | [], _, _, h => by simp at h
  | y :: r, 0, x, h => by
    obtain rfl : y = x := by simpa using h
    exact List.Perm.refl _
  | y :: r, i + 1, x, h => by
    have p := erase_perm (l := r) (i := i) (x := x) (by simpa using h)
    exact (p.cons y).trans (List.Perm.swap x y _)
/-- new ranks -/
def spMix : Sp := fun vs H Q _ => ∃ (a l : Addr) (xs : List V) (n : Nat), vs = [.ref a, .ref l] ∧ DnAt n H a ∧ n ≤ 1000000 ∧ (rm H a) l = some (.lst xs) ∧ xs.length ≤ 60 ∧
  ∀ (p : Addr) (H' : Hp) (ys : List V), DnAt (n + xs.length) H' a → Same (rm H a) (rm H' a) → (rm H a) p = none → (rm H' a) p = some (.lst ys) → ys.Perm xs → Q (.ref p) H'
section
variable {P : Program} {w : World} {K : PySem.W.Frag} {mg : Str → Option Value} {base : Heap}
abbrev s__law_mix : Stmt := top 42
theorem sc__law_mix : FnScope ["stream", "things", "left", "k"] ["stream", "things"] (defScope s__law_mix) := ⟨rfl, rfl, rfl, by decide +kernel, rfl, by decide +kernel, by decide +kernel⟩
theorem c__law_mix (T : Txt K mg) (D : Dfn K mg "_law_mix" s__law_mix) (C_law_draw : Cal P w K mg base 1 "_law_draw" ["stream", "many"] spDraw) : Cal P w K mg base 2 "_law_mix" ["stream", "things"] spMix := by
  refine D.cal sc__law_mix (fun _ _ _ _ _ _ us hl => match us, hl with | [_, _], _ => rfl) (fun vs H Q E h => ?_) fun cdv A outer s H vs Q E hr h => ?_
  · obtain ⟨a, l, xs, n, rfl, _⟩ := h
    rfl
  obtain ⟨a, l, xs, n, rfl, hd, hb, hl, hz, q⟩ := h
  refine ⟨_, (pss_cons (ps_set (i := 2) sc__law_mix.nd rfl (by first | exact Or.inl rfl | exact Or.inr rfl) (pe_callTy (T := "list") call_list_of (by rfl) T.list (by decide +kernel) (pa_cons (pv 1) pa_nil)))
      (pss_one (ps_ret (pe_lc (own := [("k", 3)]) (g := gName 3) (tt := tYes) rfl sc__law_mix.nd (pi_range1 (by rfl) T.range (pa_cons (pe_callB (id := "len") call_len_seq (by rfl) T.len (by decide +kernel) (pa_cons (pv 1) pa_nil)) pa_nil)) (blkOk_by (N := ["stream", "things", "left", "k"]) (sc := defScope s__law_mix) (by decide +kernel)) (fun _ _ _ _ _ => (pg_name (i := 3) sc__law_mix.nd rfl (by first | exact Or.inl rfl | exact Or.inr rfl))) (fun _ _ _ _ _ => pts_nil) (fun _ _ _ _ _ => (pe_bmK K rfl PySem.F.plainAttrs_list PySem.F.slot_list_pop PySem.F.type_list_pop mt_popAt (pv 2) (pa_cons (pe_cal C_law_draw hr (by first | decide | omega) (by rfl) (pa_cons (pv 0) (pa_cons (pe_callB (id := "len") (call_len_seqK K rfl) (by rfl) T.len (by decide +kernel) (pa_cons (pv 2) pa_nil)) pa_nil))) pa_nil))))))), ?_⟩
  have hl0 := rm_same _ _ hl
  have nla : l ≠ a := fun z => by rw [z, rm_at] at hl; cases hl
  refine ⟨_, rfl, _, _, rfl, .inl (SqL.of hl0), fun m hm => ?_⟩
  have sm := Same.up (H := H) (o := .lst xs) hm
  have nma := hd.new hm
  have d1 := hd.up sm
  have mm : (rm H a) m = none := by rw [rm_ne nma]; exact hm
  refine ⟨_, rfl, l, _, rfl, .inl (SqL.of (sm _ _ hl0)), _, rfl, by omega, by omega, fun D hD => ?_⟩
  have nDa := d1.new hD
  have nDm : D ≠ m := fun z => by rw [z, upd_same] at hD; cases hD
  have hD0 : H D = none := by rw [upd_ne nDm] at hD; exact hD
  have mD : (rm H a) D = none := by rw [rm_ne nDa]; exact hD0
  refine lc_it walk_range (fun i H' => DnAt (n + i) H' a ∧ Same (rm H a) (rm H' a) ∧ ∃ ls acc, H' m = some (.lst ls) ∧ H' D = some (.lst acc) ∧ (acc ++ ls).Perm xs ∧ acc.length = i) ⟨d1.set nDa, same_set (Same.rm sm) mD, xs, [], (upd_ne nDm.symm).trans upd_same, upd_same, List.Perm.refl _, rfl⟩ (fun _ _ _ _ => trivial) (fun i x H1 H2 hi p y => ?_) fun H' p => ?_
  · obtain ⟨rfl, rfl⟩ := y
    obtain ⟨d2, s2, ls, acc, hm2, hD2, pm, la⟩ := p
    have hi' : i < xs.length := by omega
    have ll : acc.length + ls.length = xs.length := by rw [← List.length_append, pm.length_eq]
    refine ⟨rfl, _, rfl, .inl ⟨rfl, _, SqL.of hm2⟩, _, rfl, _, rfl, m, _, rfl, .inl (SqL.of hm2), a, _, n + i, rfl, d2, by omega, by omega, by omega, fun k o q0 q1 ho => ?_⟩
    have lt : k.toNat < ls.length := by omega
    have hy : ls[k.toNat]? = some ls[k.toNat] := List.getElem?_eq_getElem lt
    have pm1 := erase_perm hy
    refine ⟨m, ls, k, k.toNat, ls[k.toNat], rfl, rfl, (upd_ne nma).trans hm2, by omega, by omega, PySem.StrLaws.seqIndex_nonneg q0 (by omega), hy, acc, (upd_ne nDm).trans ((upd_ne nDa).trans hD2), sz (m := 60) (by omega), ?_⟩
    refine ⟨((DnAt.put ho).set nma).set nDa, same_set (same_set (s2.trans rm_put) mm) mD, ls.eraseIdx k.toNat, acc ++ [ls[k.toNat]], (upd_ne nDm.symm).trans upd_same, upd_same, ?_, by rw [List.length_append, la]; rfl⟩
    rw [List.append_assoc]
    exact (List.Perm.append_left acc pm1.symm).trans pm
  · obtain ⟨d2, s2, ls, acc, hm2, hD2, pm, la⟩ := p
    have e0 : ls = [] := by
      have := pm.length_eq
      rw [List.length_append] at this
      exact List.length_eq_zero_iff.mp (by omega)
    subst e0
    rw [List.append_nil] at pm
    exact q D H' acc (d2.le (by omega)) s2 mD (by rw [rm_ne nDa]; exact hD2) pm
end
end K07

set_option Elab.async false
set_option linter.all false
set_option maxRecDepth 100000
set_option maxHeartbeats 4000000
namespace K07
open PySem PySem.Spec PyProof.Rows L2 Sr
/-! ### drawn ranks as data -/
def menuW : List (List Str) := [[], ["points"], ["few"], ["home"], ["late"], ["early"], ["points", "late"], ["home", "points"]]
def names4 : List Str := ["red", "gym", "blue"]
theorem names4_ok : ∀ s ∈ names4, nameOk (.str s) = true ∧ s.length ≤ 1000 := by decide +kernel
theorem names4_str : ∀ s ∈ names4, PyData.canLay0 (.str s) = true := by decide +kernel
theorem menu_good : ∀ ws ∈ menuW, (∀ x ∈ ws, x ∈ words) ∧ (met ws ws.length).length = ws.length ∧ ws.length ≤ 60 := by decide +kernel
def drawnR (rs : List Rk) : Prop := (rs.map (·.1)).Nodup ∧ rs.length ≤ 4 ∧ rs ≠ [] ∧ ∀ p ∈ rs, p.1 ∈ names4 ∧ p.2 ∈ menuW
theorem drawnR.good {rs : List Rk} (h : drawnR rs) : goodR rs := ⟨fun p m => ⟨(names4_ok _ (h.2.2.2 p m).1).1, menu_good _ (h.2.2.2 p m).2⟩, h.1, by have := h.2.1; omega⟩
def LstV (H : Hp) (v : V) (ws : List Str) : Prop := ∃ t, v = .ref t ∧ H t = some (.lst (ws.map V.str))
theorem LstV.mono {H H' : Hp} (e : Same H H') {v : V} {ws : List Str} (h : LstV H v ws) : LstV H' v ws :=
  let ⟨t, h1, h2⟩ := h
  ⟨t, h1, e _ _ h2⟩
theorem LstV.seq {H : Hp} {v : V} {ws : List Str} (h : LstV H v ws) : SeqV H v ws :=
  let ⟨t, h1, h2⟩ := h
  ⟨t, h1, .inl h2⟩
/-- the law's ranks: their words stand in lists -/
def RanksR (H : Hp) (r : Addr) (rs : List Rk) : Prop := ∃ kvs, H r = some (.dK kvs) ∧ EntR (LstV H) kvs rs
theorem RanksR.mono {H H' : Hp} (e : Same H H') {r : Addr} {rs : List Rk} (h : RanksR H r rs) : RanksR H' r rs := by
  obtain ⟨kvs, h1, h2⟩ := h
  exact ⟨kvs, e _ _ h1, h2.imp fun v ws t => t.mono e⟩
theorem merge_nodup : ∀ {more acc : List (Key × V)}, ((acc ++ more).map (·.1)).Nodup → mergeK acc more = acc ++ more
  | [], acc, _ => by rw [List.append_nil]; rfl
  | p :: r, acc, h => by
    have nm : p.1 ∉ acc.map (·.1) := fun m => by
      rw [List.map_append, List.map_cons] at h
      exact (List.nodup_append.mp h).2.2 _ m _ List.mem_cons_self rfl
    have h2 : ((acc ++ [p] ++ r).map (·.1)).Nodup := by simpa using h
    have ih := merge_nodup h2
    show mergeK (L2.putK acc p.1 p.2) r = _
    rw [Sr.putK_new nm]
    rw [ih, List.append_assoc]
    rfl
theorem EntR.keysN {Rv : V → List Str → Prop} : ∀ {k : List (Key × V)} {r : List Rk}, EntR Rv k r → k.map (·.1) = r.map fun p => (Sum.inr p.1 : Key)
  | _, _, .nil => rfl
  | _, _, .cons a b => by rw [List.map_cons, List.map_cons, a.1, EntR.keysN b]
theorem keys_nodup {Rv : V → List Str → Prop} {k : List (Key × V)} {r : List Rk} (h : EntR Rv k r) (nd : (r.map (·.1)).Nodup) : (k.map (·.1)).Nodup := by
  rw [h.keysN, show (r.map fun p => (Sum.inr p.1 : Key)) = (r.map (·.1)).map Sum.inr by rw [List.map_map]; rfl]
  exact List.pairwise_map.mpr (nd.imp fun h z => h (Sum.inr.inj z))
theorem merge_ent {Rv : V → List Str → Prop} {k : List (Key × V)} {r : List Rk} (h : EntR Rv k r) (nd : (r.map (·.1)).Nodup) : mergeK [] k = k := by
  rw [merge_nodup (by rw [List.nil_append]; exact keys_nodup h nd)]
  rfl
/-- a pair of a kind and its words, laid; the words stood before -/
def PairR (M H : Hp) (s : Str) (v : V) : Prop := ∃ t u ws, v = .ref t ∧ H t = some (.tup [.str s, .ref u]) ∧ M u = some (.lst (ws.map V.str)) ∧ ws ∈ menuW
theorem PairR.mono {M H H' : Hp} (e : Same H H') {s : Str} {v : V} (h : PairR M H s v) : PairR M H' s v := by
  obtain ⟨t, u, ws, h1, h2, h3, h4⟩ := h
  exact ⟨t, u, ws, h1, e _ _ h2, h3, h4⟩
theorem PairR.lay {M H : Hp} {D : Addr} {c c' : List V} (hD : H D = some (.lst c)) {s : Str} {v : V} (h : PairR M H s v) : PairR M (upd H D (.lst c')) s v := by
  obtain ⟨t, u, ws, h1, h2, h3⟩ := h
  exact ⟨t, u, ws, h1, by rw [upd_ne (ne_of h2 hD (by intro z; cases z))]; exact h2, h3⟩
theorem pairR_of {K : PySem.W.Frag} {M H : Hp} : ∀ {acc : List V} {ss : List Str}, Paired (fun v s => PairR M H s v) acc ss →
    ∃ (ts : List Addr) (kvs : List (Key × V)) (rs : List Rk), acc = ts.map V.ref ∧ Paired (fun p kv => SqT K H p [kV kv.1, kv.2]) ts kvs ∧ EntR (LstV M) kvs rs ∧ rs.map (·.1) = ss ∧ ∀ p ∈ rs, p.2 ∈ menuW
  | _, _, .nil => ⟨[], [], [], rfl, .nil, .nil, rfl, fun p m => by cases m⟩
  | _, _, .cons (b := s) h r => by
    obtain ⟨ts, kvs, rs, e1, e2, e3, e4, e5⟩ := pairR_of (K := K) r
    obtain ⟨t, u, ws, h1, h2, h3, h4⟩ := h
    refine ⟨t :: ts, (Sum.inr s, .ref u) :: kvs, (s, ws) :: rs, by rw [h1, e1]; rfl, .cons (SqT.of h2) e2, .cons ⟨rfl, u, rfl, h3⟩ e3, by rw [List.map_cons, e4], fun p m => ?_⟩
    rcases List.mem_cons.mp m with rfl | m
    · exact h4
    · exact e5 p m
theorem perm_strs : ∀ {ss : List Str} {ys : List V}, ys.Perm (ss.map V.str) → ∃ zs : List Str, ys = zs.map V.str ∧ zs.Perm ss := fun {ss ys} p => by
  have all : ∀ y ∈ ys, ∃ s, y = V.str s := fun y m => by
    obtain ⟨s, _, e⟩ := List.mem_map.mp (p.mem_iff.mp m)
    exact ⟨s, e.symm⟩
  have : ∃ zs : List Str, ys = zs.map V.str := by
    clear p
    induction ys with
    | nil => exact ⟨[], rfl⟩
    | cons y r ih =>
      obtain ⟨s, rfl⟩ := all y (List.mem_cons_self ..)
      obtain ⟨zs, rfl⟩ := ih fun y m => all y (List.mem_cons_of_mem _ m)
      exact ⟨s :: zs, rfl⟩
  obtain ⟨zs, rfl⟩ := this
  refine ⟨zs, rfl, ?_⟩
  have h : ∀ l : List Str, (l.map V.str).filterMap (fun v => match v with | V.str s => some s | _ => none) = l := fun l => by
    induction l with
    | nil => rfl
    | cons s r ih => rw [List.map_cons, List.filterMap_cons, ih]
  have := p.filterMap (fun v => match v with | V.str s => some s | _ => none)
  rwa [h, h] at this
def spRanks : Sp := fun vs H Q _ => ∃ (a : Addr) (n : Nat), vs = [.ref a] ∧ DnAt n H a ∧ n ≤ 1000000 ∧ ∀ r H' rs, DnAt (n + 7) H' a → Same (rm H a) (rm H' a) → RanksR (rm H' a) r rs → drawnR rs → Q (.ref r) H'
section
variable {P : Program} {w : World} {K : PySem.W.Frag} {mg : Str → Option Value} {base : Heap}
abbrev s__law_ranks : Stmt := top 44
theorem sc__law_ranks : FnScope ["stream", "words", "kinds", "kind"] ["stream"] (defScope s__law_ranks) := ⟨rfl, rfl, rfl, by decide +kernel, rfl, by decide +kernel, by decide +kernel⟩
theorem c__law_ranks (T : Txt K mg) (D : Dfn K mg "_law_ranks" s__law_ranks) (C_law_draw : Cal P w K mg base 1 "_law_draw" ["stream", "many"] spDraw) (C_law_pick : Cal P w K mg base 2 "_law_pick" ["stream", "things"] (spPick K)) (C_law_mix : Cal P w K mg base 2 "_law_mix" ["stream", "things"] spMix) :
    Cal P w K mg base 3 "_law_ranks" ["stream"] spRanks := by
  refine D.cal sc__law_ranks (fun _ _ _ _ _ _ us hl => match us, hl with | [_], _ => rfl) (fun vs H Q E h => ?_) fun cdv A outer s H vs Q E hr h => ?_
  · obtain ⟨a, n, rfl, _⟩ := h
    rfl
  obtain ⟨a, n, rfl, hd, hb, q⟩ := h
  refine ⟨_, (pss_cons (ps_set (i := 1) sc__law_ranks.nd rfl (by first | exact Or.inl rfl | exact Or.inr rfl) (pe_lst (pa_cons (pe_lst pa_nil) (pa_cons (pe_lst pa_nil) (pa_cons (pe_lst (pa_cons pe_str pa_nil)) (pa_cons (pe_lst (pa_cons pe_str pa_nil)) (pa_cons (pe_lst (pa_cons pe_str pa_nil)) (pa_cons (pe_lst (pa_cons pe_str pa_nil)) (pa_cons (pe_lst (pa_cons pe_str pa_nil)) (pa_cons (pe_lst (pa_cons pe_str (pa_cons pe_str pa_nil))) (pa_cons (pe_lst (pa_cons pe_str (pa_cons pe_str pa_nil))) pa_nil)))))))))))
      (pss_cons (ps_set (i := 2) sc__law_ranks.nd rfl (by first | exact Or.inl rfl | exact Or.inr rfl) (pe_slice sl_list (pe_cal C_law_mix hr (by first | decide | omega) (by rfl) (pa_cons (pv 0) (pa_cons (pe_lst (pa_cons pe_str (pa_cons pe_str (pa_cons pe_str pa_nil)))) pa_nil))) po_none (po_some (pe_op op_add pe_int (pe_callTy (T := "int") call_int1 (by rfl) T.int (by decide +kernel) (pa_cons (pe_cmpR op_eq (pe_cal C_law_draw hr (by first | decide | omega) (by rfl) (pa_cons (pv 0) (pa_cons pe_int pa_nil))) pe_int (nomark _)) pa_nil))))))
      (pss_one (ps_ret (pe_callTy (T := "dict") (call_dictP rfl) (by rfl) T.dict (by decide +kernel) (pa_cons (pe_lc (own := [("kind", 3)]) (g := gName 3) (tt := tYes) rfl sc__law_ranks.nd (pi_list (pv 2)) (blkOk_by (N := ["stream", "words", "kinds", "kind"]) (sc := defScope s__law_ranks) (by decide +kernel)) (fun _ _ _ _ _ => (pg_name (i := 3) sc__law_ranks.nd rfl (by first | exact Or.inl rfl | exact Or.inr rfl))) (fun _ _ _ _ _ => pts_nil) (fun _ _ _ _ _ => (pe_tup (pa_cons (pv 3) (pa_cons (pe_cal C_law_pick hr (by first | decide | omega) (by rfl) (pa_cons (pv 0) (pa_cons (pv 1) pa_nil))) pa_nil))))) pa_nil)))))), ?_⟩
  refine cut_if (fun σ H' => ∃ (wl : Addr) (us : List V), σ = [some (.ref a), some (.ref wl), none, none] ∧ DnAt n H' a ∧ Same (rm H a) (rm H' a) ∧ (rm H' a) wl = some (.lst us) ∧ us.length = 9 ∧ ∀ u ∈ us, ∃ ws, LstV (rm H' a) u ws ∧ ws ∈ menuW) ?_ fun rest => ?_
  rotate_left
  · refine ⟨lineN (n := 0), fun l0 h0 => ⟨lineN (n := 0), fun l1 h1 => ⟨lineN (n := 1), fun l2 h2 => ⟨lineN (n := 1), fun l3 h3 => ⟨lineN (n := 1), fun l4 h4 => ⟨lineN (n := 1), fun l5 h5 => ⟨lineN (n := 1), fun l6 h6 => ⟨lineN (n := 2), fun l7 h7 => ⟨lineN (n := 2), fun l8 h8 => ⟨lineN (n := 9), fun wl hwl => ?_⟩⟩⟩⟩⟩⟩⟩⟩⟩⟩
    have s0 := Same.up (H := H) (o := .lst []) h0
    have s1 := Same.up (o := .lst []) h1
    have s2 := Same.up (o := .lst [.str "points"]) h2
    have s3 := Same.up (o := .lst [.str "few"]) h3
    have s4 := Same.up (o := .lst [.str "home"]) h4
    have s5 := Same.up (o := .lst [.str "late"]) h5
    have s6 := Same.up (o := .lst [.str "early"]) h6
    have s7 := Same.up (o := .lst [.str "points", .str "late"]) h7
    have s8 := Same.up (o := .lst [.str "home", .str "points"]) h8
    have s9 := Same.up (o := .lst [.ref l0, .ref l1, .ref l2, .ref l3, .ref l4, .ref l5, .ref l6, .ref l7, .ref l8]) hwl
    have d0 := hd.up s0
    have d1 := d0.up s1
    have d2 := d1.up s2
    have d3 := d2.up s3
    have d4 := d3.up s4
    have d5 := d4.up s5
    have d6 := d5.up s6
    have d7 := d6.up s7
    have d8 := d7.up s8
    have off : ∀ {G G' : Hp} {l : Addr} {o : HO}, DnAt n G a → G l = none → Same (upd G l o) G' → rm G' a l = some o := fun d h s => by
      rw [rm_ne (d.new h)]
      exact s _ _ upd_same
    have t8 := s8.trans s9
    have t7 := s7.trans t8
    have t6 := s6.trans t7
    have t5 := s5.trans t6
    have t4 := s4.trans t5
    have t3 := s3.trans t4
    have t2 := s2.trans t3
    have t1 := s1.trans t2
    refine rest _ _ ⟨wl, _, rfl, d8.up s9, Same.rm (s0.trans t1), off d8 hwl (Same.refl _), rfl, fun u m => ?_⟩
    simp only [List.mem_cons, List.not_mem_nil, or_false] at m
    rcases m with rfl | rfl | rfl | rfl | rfl | rfl | rfl | rfl | rfl
    · exact ⟨[], ⟨_, rfl, off hd h0 t1⟩, by decide +kernel⟩
    · exact ⟨[], ⟨_, rfl, off d0 h1 t2⟩, by decide +kernel⟩
    · exact ⟨["points"], ⟨_, rfl, off d1 h2 t3⟩, by decide +kernel⟩
    · exact ⟨["few"], ⟨_, rfl, off d2 h3 t4⟩, by decide +kernel⟩
    · exact ⟨["home"], ⟨_, rfl, off d3 h4 t5⟩, by decide +kernel⟩
    · exact ⟨["late"], ⟨_, rfl, off d4 h5 t6⟩, by decide +kernel⟩
    · exact ⟨["early"], ⟨_, rfl, off d5 h6 t7⟩, by decide +kernel⟩
    · exact ⟨["points", "late"], ⟨_, rfl, off d6 h7 t8⟩, by decide +kernel⟩
    · exact ⟨["home", "points"], ⟨_, rfl, off d7 h8 s9⟩, by decide +kernel⟩
  rintro σ H1 ⟨wl, us, rfl, d1, s1, hwl, lus, hus⟩
  try dsimp only
  refine cut_if (fun σ H' => ∃ (kl : Addr) (zs : List Str), σ = [some (.ref a), some (.ref wl), some (.ref kl), none] ∧ DnAt (n + 4) H' a ∧ Same (rm H1 a) (rm H' a) ∧ (rm H' a) kl = some (.lst (zs.map V.str)) ∧ zs.Nodup ∧ zs ≠ [] ∧ zs.length ≤ 3 ∧ ∀ z ∈ zs, z ∈ names4) ?_ fun rest => ?_
  rotate_left
  · refine ⟨_, rfl, lineN (n := 3), fun kl hkl => ?_⟩
    have s2 := Same.up (H := H1) (o := .lst [.str "red", .str "gym", .str "blue"]) hkl
    refine ⟨a, kl, [.str "red", .str "gym", .str "blue"], n, rfl, d1.up s2, hb, by rw [rm_ne (d1.new hkl), upd_same], by show 3 ≤ 60; decide, fun p H2 ys d3 s3 np hp pm => ?_⟩
    obtain ⟨zs, rfl, pz⟩ := perm_strs (ss := ["red", "gym", "blue"]) pm
    have lz : zs.length = 3 := pz.length_eq
    refine ⟨_, rfl, a, 3, n + 3, rfl, d3, by omega, by decide, by decide, fun r o r0 r1 ho => ⟨rfl, .inr ⟨_, rfl, _, _, rfl, rfl, _, rfl, p, _, rfl, SqL.of ((upd_ne (fun z => by rw [z, rm_at] at hp; cases hp)).trans (rm_same _ _ hp)), fun p1 h1 => ?_⟩⟩⟩
    have d4 : DnAt (n + 4) (upd H2 a o) a := (DnAt.put ho)
    have fin : ∀ k : Nat, 2 ≤ k → k ≤ 3 → cutV (zs.map V.str) none (some (k : Int)) = (zs.take k).map V.str := fun k _ k3 => (cut_to (zs.map V.str) (k := k) (by rw [List.length_map]; omega)).trans (by rw [List.map_take])
    have ndz : zs.Nodup := pz.nodup_iff.mpr (by decide +kernel)
    have inz : ∀ z ∈ zs, z ∈ names4 := fun z m => pz.mem_iff.mp m
    have go : ∀ k : Nat, 2 ≤ k → k ≤ 3 → ∀ xs : List V, xs = cutV (zs.map V.str) none (some (k : Int)) → ∀ {R : L2.St → Hp → Prop}, (∀ σ H', (∃ (kl : Addr) (zs : List Str), σ = [some (.ref a), some (.ref wl), some (.ref kl), none] ∧ DnAt (n + 4) H' a ∧ Same (rm H1 a) (rm H' a) ∧ (rm H' a) kl = some (.lst (zs.map V.str)) ∧ zs.Nodup ∧ zs ≠ [] ∧ zs.length ≤ 3 ∧ ∀ z ∈ zs, z ∈ names4) → R σ H') → R [some (.ref a), some (.ref wl), some (.ref p1), none] (upd (upd H2 a o) p1 (.lst xs)) := fun k k2 k3 xs ex R rest => by
      rw [ex, fin k k2 k3]
      refine rest _ _ ⟨p1, zs.take k, rfl, d4.up (Same.up h1), (Same.rm s2).trans (s3.trans (rm_put.trans (Same.rm (Same.up h1)))), by rw [rm_ne (d4.new h1), upd_same], (List.take_sublist _ _).nodup ndz, fun e => ?_, by rw [List.length_take]; omega, fun z m => inz z (List.mem_of_mem_take m)⟩
      have := congrArg List.length e
      rw [List.length_take, lz, List.length_nil] at this
      omega
    by_cases c : V.int r = V.int 0
    · exact go 3 (by decide) (by decide) _ (by rw [decide_eq_true c]; rfl) rest
    · exact go 2 (by decide) (by decide) _ (by rw [decide_eq_false c]; rfl) rest
  rintro σ H2 ⟨kl, zs, rfl, d2, s2, hkl, ndz, nez, lz, nz⟩
  try dsimp only
  have hkl0 := rm_same _ _ hkl
  refine ⟨_, rfl, kl, rfl, ⟨_, SqL.of hkl0⟩, fun D hD => lc_draw (k := n + 4) (c := 1) (a := a) walk_list walk_at zs (by rw [List.length_map]) (sz (m := 60) (by rw [List.length_map]; omega)) hD d2 (fun H' s' => SqL.of (rm_same _ _ (s' _ _ hkl))) (PairR (rm H2 a)) (fun _ _ _ _ e h => h.mono e) (fun _ _ _ _ _ e h => ?_) (fun i x z H3 A B hi hx hz hD3 d3 s3 kA => ?_) (fun H3 acc d3 s3 h3 pr => ?_)⟩
  · exact h.lay e
  · obtain rfl : x = .str z := by
      rw [List.getElem?_map, hz] at hx
      exact (Option.some.inj hx).symm
    have swl := (s2.trans s3) _ _ hwl
    have nwl : wl ≠ a := fun z => by rw [z, rm_at] at hwl; cases hwl
    have li : i < 3 := by rw [List.length_map] at hi; omega
    refine ⟨rfl, _, rfl, _, rfl, _, rfl, a, wl, us, _, rfl, d3, by omega, nwl, .inl (SqL.of (rm_same _ _ swl)), by omega, by omega, fun j v o hv ho => ⟨lineN (n := 2), fun t ht => ?_⟩⟩
    obtain ⟨ws, ⟨u, rfl, hu⟩, mw⟩ := hus v (List.mem_of_getElem? hv)
    have d4 := (DnAt.put (a := a) (H := H3) ho).up (Same.up (o := .tup [.str z, .ref u]) ht)
    have s4 : Same (rm H3 a) _ := rm_put.trans (Same.rm (a := a) (Same.up (H := upd H3 a o) (o := .tup [.str z, .ref u]) ht))
    exact kA _ _ (d4.le (by omega)) s4 ⟨t, u, ws, rfl, by rw [rm_ne ((DnAt.put (a := a) (H := H3) ho).new ht), upd_same], s2 _ _ hu, mw⟩
  · obtain ⟨ts, kvs, rs, eacc, pp, en, er, mw⟩ := pairR_of (K := K) pr
    subst eacc
    have ndr : (rs.map (·.1)).Nodup := by rw [er]; exact ndz
    have lr : rs.length = zs.length := by rw [← List.length_map (f := (·.1)), er]
    have lz4 : (zs.map V.str).length ≤ 3 := by rw [List.length_map]; exact lz
    refine ⟨D, ts, kvs, rfl, SqL.of h3, L2.Paired.mapP pp fun _ _ h => sqt_mono rm_same h, fun f hf => ?_⟩
    rw [merge_ent en ndr]
    have sf := Same.rm (a := a) (Same.up (o := .dK kvs) hf)
    refine q f _ rs ((d3.up (Same.up hf)).le (by omega)) (s1.trans (s2.trans (s3.trans sf))) ⟨kvs, at_off (d3.up (Same.up hf)) upd_same (fun _ z => by cases z), en.imp fun v ws h => h.mono (s3.trans sf)⟩ ⟨ndr, by omega, fun z => nez (List.length_eq_zero_iff.mp (by rw [← lr, z]; rfl)), fun p m => ⟨nz _ (by rw [← er]; exact List.mem_map_of_mem m), mw p m⟩⟩
end
end K07

set_option Elab.async false
set_option linter.all false
set_option maxRecDepth 100000
set_option maxHeartbeats 4000000
namespace K07
open PySem PySem.Spec PyProof.Rows L2 Sr
theorem nodup_sub {α : Type} [DecidableEq α] : ∀ (l l' : List α), l.Nodup → (∀ a ∈ l, a ∈ l') → l.length ≤ l'.length
  | [], _, _, _ => Nat.zero_le _
  | a :: l, l', nd, h => by
    have n := List.nodup_cons.mp nd
    have ma := h a List.mem_cons_self
    have ih := nodup_sub l (l'.erase a) n.2 fun b mb => (List.mem_erase_of_ne (fun z => n.1 (by rw [← z]; exact mb))).mpr (h b (List.mem_cons_of_mem _ mb))
    have le := List.length_erase_of_mem ma
    have pos : 0 < l'.length := List.length_pos_of_mem ma
    rw [List.length_cons]
    omega
theorem nodup_le {α : Type} [DecidableEq α] {l l' : List α} (n : l.Nodup) (s : ∀ a ∈ l, a ∈ l') : l.length ≤ l'.length := nodup_sub l l' n s
/-- unlike kinds, in a tuple -/
def wishG (rs : List Rk) (ws : List Str) : Prop := ws.Nodup ∧ ∀ s ∈ ws, s ∈ rs.map (·.1)
theorem wishG.len {rs : List Rk} {ws : List Str} (g : wishG rs ws) : ws.length ≤ rs.length := by
  have := nodup_le g.1 g.2
  rwa [List.length_map] at this
theorem perm_keys {rs : List Rk} {kvs : List (Key × V)} {Rv : V → List Str → Prop} (h : EntR Rv kvs rs) : kvs.map (fun p => kV p.1) = (rs.map (·.1)).map V.str := by
  have := congrArg (List.map kV) h.keysN
  rw [List.map_map, List.map_map] at this
  rw [List.map_map]
  exact this
def spWishes : Sp := fun vs H Q _ => ∃ (a r : Addr) (rs : List Rk) (n : Nat), vs = [.ref a, .ref r] ∧ DnAt n H a ∧ n ≤ 100000 ∧ RanksR (rm H a) r rs ∧ drawnR rs ∧
  ∀ t H' ws, DnAt (n + 5) H' a → Same (rm H a) (rm H' a) → (rm H' a) t = some (.tup (ws.map V.str)) → wishG rs ws → Q (.ref t) H'
section
variable {P : Program} {w : World} {K : PySem.W.Frag} {mg : Str → Option Value} {base : Heap}
abbrev s__law_wishes : Stmt := top 45
theorem sc__law_wishes : FnScope ["stream", "ranks", "kinds"] ["stream", "ranks"] (defScope s__law_wishes) := ⟨rfl, rfl, rfl, by decide +kernel, rfl, by decide +kernel, by decide +kernel⟩
theorem c__law_wishes (T : Txt K mg) (D : Dfn K mg "_law_wishes" s__law_wishes) (C_law_pick : Cal P w K mg base 2 "_law_pick" ["stream", "things"] (spPick K)) (C_law_mix : Cal P w K mg base 2 "_law_mix" ["stream", "things"] spMix) :
    Cal P w K mg base 3 "_law_wishes" ["stream", "ranks"] spWishes := by
  refine D.cal sc__law_wishes (fun _ _ _ _ _ _ us hl => match us, hl with | [_, _], _ => rfl) (fun vs H Q E h => ?_) fun cdv A outer s H vs Q E hr h => ?_
  · obtain ⟨a, r, rs, n, rfl, _⟩ := h
    rfl
  obtain ⟨a, r, rs, n, rfl, hd, hb, ⟨kvs, hr0, er0⟩, dr, q⟩ := h
  have l4 := dr.2.1
  refine ⟨_, (pss_cons (ps_set (i := 2) sc__law_wishes.nd rfl (by first | exact Or.inl rfl | exact Or.inr rfl) (pe_cal C_law_mix hr (by first | decide | omega) (by rfl) (pa_cons (pv 0) (pa_cons (pe_callTy (T := "list") (call_list_dK rfl) (by rfl) T.list (by decide +kernel) (pa_cons (pv 1) pa_nil)) pa_nil))))
      (pss_one (ps_ret (pe_callTy (T := "tuple") call_tuple_of (by rfl) T.tuple (by decide +kernel) (pa_cons (pe_slice sl_list (pv 2) po_none (po_some (pe_cal C_law_pick hr (by first | decide | omega) (by rfl) (pa_cons (pv 0) (pa_cons (pe_lst (pa_cons pe_int (pa_cons pe_int (pa_cons pe_int (pa_cons pe_int (pa_cons pe_int (pa_cons pe_int pa_nil))))))) pa_nil))))) pa_nil))))), ?_⟩
  refine ⟨_, rfl, _, rfl, r, kvs, rfl, rm_same _ _ hr0, fun kl hkl => ?_⟩
  delta tNil
  dsimp only
  rw [perm_keys er0]
  have s1 := Same.up (H := H) (o := .lst ((rs.map (·.1)).map V.str)) hkl
  refine ⟨a, kl, _, n, rfl, hd.up s1, by omega, by rw [rm_ne (hd.new hkl), upd_same], by rw [List.length_map, List.length_map]; omega, fun p H2 ys d2 s2 np hp pm => ?_⟩
  obtain ⟨zs, rfl, pz⟩ := perm_strs pm
  have lz : zs.length = rs.length := by rw [pz.length_eq, List.length_map]
  refine ⟨_, rfl, _, rfl, lineN (n := 6), fun cl hcl => ?_⟩
  have s3 := Same.up (H := H2) (o := .lst [.int 0, .int 1, .int 1, .int 2, .int 2, .int 3]) hcl
  refine ⟨a, cl, _, _, rfl, d2.up s3, by rw [List.length_map, List.length_map]; omega, (d2.new hcl), .inl (SqL.of upd_same), by decide, by decide, fun i v o hv ho => ?_⟩
  obtain ⟨k, rfl, k3⟩ : ∃ k : Nat, v = .int (k : Nat) ∧ k ≤ 3 := by
    have m := List.mem_of_getElem? hv
    simp only [List.mem_cons, List.not_mem_nil, or_false] at m
    rcases m with rfl | rfl | rfl | rfl | rfl | rfl
    · exact ⟨0, rfl, by decide⟩
    · exact ⟨1, rfl, by decide⟩
    · exact ⟨1, rfl, by decide⟩
    · exact ⟨2, rfl, by decide⟩
    · exact ⟨2, rfl, by decide⟩
    · exact ⟨3, rfl, by decide⟩
  have nla : p ≠ a := fun z => by rw [z, rm_at] at hp; cases hp
  have d4 : DnAt (n + 5) (upd (upd H2 cl (.lst [.int 0, .int 1, .int 1, .int 2, .int 2, .int 3])) a o) a := (DnAt.put ho).le (by rw [List.length_map, List.length_map]; omega)
  have s4 : Same (rm H2 a) (rm (upd (upd H2 cl (.lst [.int 0, .int 1, .int 1, .int 2, .int 2, .int 3])) a o) a) := (Same.rm s3).trans rm_put
  refine ⟨_, rfl, p, _, rfl, SqL.of (rm_same _ _ (s4 _ _ hp)), fun p1 h1 => ?_⟩
  have ec : cutV (zs.map V.str) none (some (k : Int)) = (zs.take k).map V.str := by
    by_cases c : k ≤ zs.length
    · exact (cut_to (zs.map V.str) (k := k) (by rw [List.length_map]; omega)).trans (by rw [List.map_take])
    · unfold cutV
      rw [HT.sIx_none, HT.sIx_nat, Nat.sub_zero, List.drop_zero, List.length_map, Nat.min_eq_right (by omega), List.take_of_length_le (by rw [List.length_map]; exact Nat.le_refl _), List.take_of_length_le (by omega)]
  rw [ec]
  have s5 := Same.up (o := .lst ((zs.take k).map V.str)) h1
  refine ⟨p1, _, rfl, .inl ⟨SqL.of upd_same, fun t ht => ?_⟩⟩
  have s6 := Same.up (o := .tup ((zs.take k).map V.str)) ht
  have d6 := (d4.up s5).up s6
  refine q t _ (zs.take k) d6 ((Same.rm s1).trans (s2.trans (s4.trans (Same.rm (s5.trans s6))))) (by rw [rm_ne ((d4.up s5).new ht), upd_same]) ⟨(List.take_sublist _ _).nodup (pz.nodup_iff.mpr dr.1), fun z m => pz.mem_iff.mp (List.mem_of_mem_take m)⟩
end
end K07

set_option Elab.async false
set_option linter.all false
set_option maxRecDepth 100000
set_option maxHeartbeats 4000000
namespace K07
open PySem PySem.Spec PyProof.Rows L2 Sr
/-! ### events as data -/
inductive Ev where
  | come (n : Str) (ws : List Str) (p : Int) (h : Option Str) | place (k : Str) | leave (n : Str) | withdraw (k : Str) | change (n : Str) (ws : List Str) | gather | round
  deriving DecidableEq
def homeD : Option Str → Dt
  | some s => .str s
  | none => .non
def wsD (ws : List Str) : Dt := .tup (ws.map Dt.str)
def Ev.row : Ev → List Dt
  | .come n ws p h => [.str "come", .str n, wsD ws, .int p, homeD h]
  | .place k => [.str "place", .str k]
  | .leave n => [.str "leave", .str n]
  | .withdraw k => [.str "withdraw", .str k]
  | .change n ws => [.str "change", .str n, wsD ws]
  | .gather => [.str "gather"]
  | .round => [.str "round"]
def Ev.dt (e : Ev) : Dt := .tup e.row
def names9 : List Str := ["ann", "bob", "come", "dan", "eve", "place", "gus", "hal", "ida"]
theorem names9_ok : ∀ s ∈ names9, nameOk (.str s) = true ∧ s.length ≤ 1000 ∧ PyData.canLay0 (.str s) = true := by decide +kernel
def Ev.good (rs : List Rk) : Ev → Prop
  | .come n ws p h => n ∈ names9 ∧ wishG rs ws ∧ (0 ≤ p ∧ p ≤ 3) ∧ ∀ s, h = some s → s ∈ rs.map (·.1)
  | .place k => k ∈ rs.map (·.1)
  | .leave n => n ∈ names9
  | .withdraw k => k ∈ rs.map (·.1)
  | .change n ws => n ∈ names9 ∧ wishG rs ws
  | .gather => True
  | .round => True
/-- the name that an event tells -/
def Ev.told : Ev → Option Str
  | .come n _ _ _ => some n
  | _ => none
theorem met_all : ∀ {xs : List Str} {n : Nat}, xs.Nodup → n ≤ xs.length → met xs n = xs.take n
  | xs, 0, _, _ => by rw [List.take_zero]; rfl
  | xs, n + 1, nd, h => by
    have ih := met_all nd (n := n) (by omega)
    have lt : n < xs.length := by omega
    have e : xs.getD n Str.empty = xs[n] := by simp [lt]
    unfold met
    rw [ih, e]
    have no : ¬ ((xs.take n).any (· == xs[n])) = true := fun z => by
      obtain ⟨y, my, ey⟩ := List.any_eq_true.mp z
      have ey : y = xs[n] := by simpa using ey
      obtain ⟨i, hi, e2⟩ := List.mem_take_iff_getElem.mp my
      have := (List.getElem?_inj (i := i) (j := n) (by omega) nd).mp (by rw [List.getElem?_eq_getElem (by omega), List.getElem?_eq_getElem lt, e2, ey])
      omega
    rw [if_neg no, List.take_add_one, List.getElem?_eq_getElem lt]
    rfl
theorem wish_ok {rs : List Rk} {ws : List Str} (g : wishG rs ws) : wishesOk (rs.map (·.1)) (wsD ws) = true := by
  show wl _ (ws.map Dt.str) = true
  unfold wl
  rw [strs_map, met_all g.1 (Nat.le_refl _), List.take_length, decide_eq_true rfl, Bool.and_true, List.all_map]
  exact List.all_eq_true.mpr fun s m => decide_eq_true (g.2 s m)
theorem Ev.ok {rs : List Rk} {e : Ev} (g : e.good rs) : evOk (rs.map (·.1)) e.dt = true := by
  cases e with
  | come n ws p h =>
    obtain ⟨g1, g2, g3, g4⟩ := g
    show (nameOk (.str n) && (wishesOk _ (wsD ws) && (pointsOk (.int p) && homeOk _ (homeD h)))) = true
    rw [(names9_ok n g1).1, wish_ok g2]
    have hp : pointsOk (.int p) = true := by
      show (decide (0 ≤ p) && decide (p ≤ 1000000)) = true
      rw [decide_eq_true g3.1, decide_eq_true (by omega : p ≤ 1000000)]
      rfl
    have hh : homeOk (rs.map (·.1)) (homeD h) = true := by
      cases h with
      | none => rfl
      | some s => exact decide_eq_true (g4 s rfl)
    rw [hp, hh]
    rfl
  | place k => exact decide_eq_true g
  | leave n => exact (names9_ok n g).1
  | withdraw k => exact decide_eq_true g
  | change n ws =>
    show (nameOk (.str n) && wishesOk _ (wsD ws)) = true
    rw [(names9_ok n g.1).1, wish_ok g.2]
    rfl
  | gather => rfl
  | round => rfl
theorem ws_is {H : Hp} {t : Addr} {rs : List Rk} {ws : List Str} (dr : drawnR rs) (g : wishG rs ws) (h : H t = some (.tup (ws.map V.str))) : Is H (.ref t) (wsD ws) := by
  refine .tup h (isA_strs fun s m => ?_) (by rw [List.length_map]; have := g.len; have := dr.2.1; omega)
  obtain ⟨p, mp, e⟩ := List.mem_map.mp (g.2 s m)
  rw [← e]
  exact (names4_ok _ (dr.2.2.2 p mp).1).2
def homeV : Option Str → V
  | some s => .str s
  | none => .non
/-! ### data of tuples alone -/
mutual
def tupD : Dt → Bool
  | .lst _ => false
  | .dic => false
  | .tup l => tupDs l
  | _ => true
def tupDs : List Dt → Bool
  | [] => true
  | d :: r => tupD d && tupDs r
end
def Tups (H H' : Hp) : Prop := ∀ b xs, H b = some (.tup xs) → H' b = some (.tup xs)
theorem Tups.trans {H H' H'' : Hp} (a : Tups H H') (b : Tups H' H'') : Tups H H'' := fun c xs e => b c xs (a c xs e)
theorem Tups.of {H H' : Hp} (s : Same H H') : Tups H H' := fun b xs e => s _ _ e
mutual
theorem is_tups {H H' : Hp} (k : Tups H H') : ∀ {v : V} {d : Dt}, Is H v d → tupD d = true → Is H' v d
  | _, _, .non, _ => .non
  | _, _, .bl b, _ => .bl b
  | _, _, .int i, _ => .int i
  | _, _, .str s h, _ => .str s h
  | _, _, .tup h r z, p => .tup (k _ _ h) (isA_tups k r p) z
  | _, _, .lst _ _ _, p => by cases p
  | _, _, .dic _, p => by cases p
theorem isA_tups {H H' : Hp} (k : Tups H H') : ∀ {vs : List V} {ds : List Dt}, IsA H vs ds → tupDs ds = true → IsA H' vs ds
  | _, _, .nil, _ => .nil
  | _, _, .cons h r, p => .cons (is_tups k h (Bool.and_eq_true_iff.mp p).1) (isA_tups k r (Bool.and_eq_true_iff.mp p).2)
end
theorem draws_no {H : Hp} {a : Addr} (d : DrawsAt H a) (xs : List V) : H a ≠ some (.tup xs) := fun e => by
  obtain ⟨o, h, _, _, _, rfl⟩ := d
  rw [h] at e
  cases e
theorem tupDs_strs : ∀ ws : List Str, tupDs (ws.map Dt.str) = true
  | [] => rfl
  | _ :: r => by
    show (true && tupDs (r.map Dt.str)) = true
    rw [tupDs_strs r]
    rfl
theorem Ev.tups (e : Ev) : tupD e.dt = true := by
  cases e with
  | come n ws p h =>
    show (true && (true && (tupDs (ws.map Dt.str) && (true && (tupD (homeD h) && true))))) = true
    rw [tupDs_strs]
    cases h <;> rfl
  | change n ws =>
    show (true && (true && (tupDs (ws.map Dt.str) && true))) = true
    rw [tupDs_strs]
    rfl
  | _ => rfl
theorem at_last {α : Type} {xs : List α} {x : α} : atI (xs ++ [x]) (-1) = some x := by
  unfold atI ixN
  have e : (xs ++ [x]).length = xs.length + 1 := by rw [List.length_append]; rfl
  rw [if_neg (by omega), if_pos (by omega), e, show (-1 + ((xs.length + 1 : Nat) : Int)).toNat = xs.length by omega]
  simp
/-! ### drawn events, each at its time -/
abbrev Es := List (Int × Ev)
def EvE (H : Hp) (kvs : List (Key × V)) (es : Es) : Prop := Paired (fun kv (p : Int × Ev) => kv.1 = Sum.inl p.1 ∧ ∃ T, kv.2 = .ref T ∧ Is H (.ref T) p.2.dt) kvs es
theorem EvE.keep {H H' : Hp} (k : Tups H H') {kvs : List (Key × V)} {es : Es} (h : EvE H kvs es) : EvE H' kvs es := L2.Paired.mapP h fun kv p ⟨e, T, e1, e2⟩ => ⟨e, T, e1, is_tups k e2 p.2.tups⟩
theorem EvE.snoc {H : Hp} {kvs : List (Key × V)} {es : Es} {tm : Int} {e : Ev} {T : Addr} (h : EvE H kvs es) (i : Is H (.ref T) e.dt) : EvE H (kvs ++ [(Sum.inl tm, .ref T)]) (es ++ [(tm, e)]) := Paired.snoc h ⟨rfl, T, rfl, i⟩
theorem EvE.keys {H : Hp} : ∀ {kvs : List (Key × V)} {es : Es}, EvE H kvs es → kvs.map (·.1) = es.map fun p => (Sum.inl p.1 : Key)
  | _, _, .nil => rfl
  | _, _, .cons h r => by rw [List.map_cons, List.map_cons, h.1, EvE.keys r]
/-- rising times from one to tm, right events -/
structure EsOk (rs : List Rk) (es : Es) (tm : Int) : Prop where
  up : es.Pairwise fun p q => p.1 < q.1
  low : ∀ p ∈ es, 1 ≤ p.1 ∧ p.1 ≤ tm
  good : ∀ p ∈ es, p.2.good rs
theorem EsOk.snoc {rs : List Rk} {es : Es} {tm t2 : Int} {e : Ev} (h : EsOk rs es tm) (t : tm < t2) (z : 0 ≤ tm) (g : e.good rs) : EsOk rs (es ++ [(t2, e)]) t2 := by
  refine ⟨List.pairwise_append.mpr ⟨h.up, List.pairwise_singleton _ _, fun p hp q hq => ?_⟩, fun p hp => ?_, fun p hp => ?_⟩
  · rw [List.mem_singleton.mp hq]
    have := (h.low p hp).2
    show p.1 < t2
    omega
  · rcases List.mem_append.mp hp with m | m
    · have := h.low p m
      omega
    · rw [List.mem_singleton.mp m]
      show 1 ≤ t2 ∧ t2 ≤ t2
      omega
  · rcases List.mem_append.mp hp with m | m
    · exact h.good p m
    · rw [List.mem_singleton.mp m]
      exact g
theorem EsOk.new {H : Hp} {rs : List Rk} {es : Es} {kvs : List (Key × V)} {tm t2 : Int} (h : EsOk rs es tm) (he : EvE H kvs es) (t : tm < t2) : (Sum.inl t2 : Key) ∉ kvs.map (·.1) := fun m => by
  rw [he.keys] at m
  obtain ⟨p, mp, e⟩ := List.mem_map.mp m
  have := (h.low p mp).2
  have e' : p.1 = t2 := Sum.inl.inj e
  omega
def toldOf (es : Es) : List Str := es.filterMap fun p => p.2.told
theorem tups_set {H : Hp} {p : Addr} {o : HO} (n : ∀ xs, H p ≠ some (.tup xs)) : Tups H (upd H p o) := fun b xs e => by
  rw [upd_ne fun z => n xs (by rw [← z]; exact e)]
  exact e
end K07

set_option Elab.async false
set_option linter.all false
set_option maxRecDepth 100000
set_option maxHeartbeats 4000000
namespace K07
open PySem PySem.Spec PyProof.Rows L2 Sr
/-- some things left out -/
def rms (H : Hp) (Z : List Addr) : Hp := fun b => if b ∈ Z then none else H b
theorem rms_at {H : Hp} {Z : List Addr} {b : Addr} (h : b ∈ Z) : rms H Z b = none := by unfold rms; rw [if_pos h]
theorem rms_ne {H : Hp} {Z : List Addr} {b : Addr} (h : b ∉ Z) : rms H Z b = H b := by unfold rms; rw [if_neg h]
theorem rms_same {H : Hp} {Z : List Addr} : Same (rms H Z) H := fun b o e => by
  by_cases c : b ∈ Z
  · rw [rms_at c] at e
    cases e
  · rw [rms_ne c] at e
    exact e
theorem Same.rms {H H' : Hp} {Z : List Addr} (s : Same H H') : Same (K07.rms H Z) (K07.rms H' Z) := fun b o e => by
  by_cases c : b ∈ Z
  · rw [rms_at c] at e
    cases e
  · rw [rms_ne c] at e ⊢
    exact s _ _ e
theorem rms_of_rm {H H' : Hp} {a : Addr} {Z : List Addr} (m : a ∈ Z) (s : Same (rm H a) (rm H' a)) : Same (rms H Z) (rms H' Z) := fun b o e => by
  by_cases c : b ∈ Z
  · rw [rms_at c] at e
    cases e
  · rw [rms_ne c] at e ⊢
    have nb : b ≠ a := fun z => c (z ▸ m)
    have := s b o (by rw [rm_ne nb]; exact e)
    rwa [rm_ne nb] at this
theorem rms_upd {H : Hp} {Z : List Addr} {p : Addr} {o : HO} (m : p ∈ Z) : rms (upd H p o) Z = rms H Z := by
  funext b
  by_cases c : b ∈ Z
  · rw [rms_at c, rms_at c]
  · rw [rms_ne c, rms_ne c, upd_ne fun z => c (by rw [z]; exact m)]
theorem rms_rm {H : Hp} {a : Addr} {Z : List Addr} (m : a ∈ Z) : Same (rms H Z) (rm H a) := fun b o e => by
  by_cases c : b ∈ Z
  · rw [rms_at c] at e
    cases e
  · rw [rms_ne c] at e
    rw [rm_ne fun z => c (by rw [z]; exact m)]
    exact e
theorem tups_rms {H H' : Hp} {Z : List Addr} (s : Same (rms H Z) (rms H' Z)) (n : ∀ b ∈ Z, ∀ xs, H b ≠ some (.tup xs)) : Tups H H' := fun b xs e => by
  have c : b ∉ Z := fun m => n b m xs e
  have := s b _ (by rw [rms_ne c]; exact e)
  rwa [rms_ne c] at this
theorem shp9 {K : PySem.W.Frag} {H : Hp} : ∀ {ws : List Str}, (∀ s ∈ ws, s ∈ names9) → DpAll K H (ws.map V.str) (ws.map PyData.str) ∧ PyData.canLayAll0 (ws.map PyData.str) = true ∧ PyData.depthAll (ws.map PyData.str) ≤ 1
  | [], _ => ⟨.nil, rfl, by simp [PyData.depthAll]⟩
  | s :: r, h => by
    obtain ⟨h1, h2, h3⟩ := shp9 (K := K) (H := H) (ws := r) fun x m => h x (List.mem_cons_of_mem _ m)
    refine ⟨.cons (.str s) h1, ?_, ?_⟩
    · show (PyData.canLay0 (.str s) && PyData.canLayAll0 (r.map PyData.str)) = true
      rw [(names9_ok s (h s List.mem_cons_self)).2.2, h2]
      rfl
    · simp only [List.map_cons, PyData.depthAll, PyData.depth]
      omega
theorem shaped9 {ws : List Str} (h : ∀ s ∈ ws, s ∈ names9) : SeqAt.shaped (.list (ws.map PyData.str)) = true := by
  obtain ⟨_, h2, h3⟩ := shp9 (K := []) (H := fun _ => none) h
  unfold SeqAt.shaped
  rw [Bool.and_eq_true]
  refine ⟨by simpa [PyData.canLay0] using h2, decide_eq_true ?_⟩
  simp only [PyData.depth]
  omega
/-- the names that came, those to come; a new event -/
def evStep (e : Ev) (ks ms ks' ms' : List Str) : Prop := (e.told = none ∧ ks' = ks ∧ ms' = ms) ∨ ∃ n, e.told = some n ∧ ks' = ks ++ [n] ∧ ms = n :: ms'
theorem eqv_ne {s : Str} {ws : List Str} : PyData.eqv (.list ((s :: ws).map PyData.str)) (.list []) = false := by simp [PyData.eqv, PyData.eqvAll]

def spEvent : Sp := fun vs H Q _ => ∃ (a r kn mo : Addr) (rs : List Rk) (ks ms : List Str) (n : Nat), vs = [.ref a, .ref r, .ref kn, .ref mo] ∧ DnAt n H a ∧ n ≤ 10000 ∧ kn ≠ mo ∧ kn ≠ a ∧ mo ≠ a ∧ RanksR (rms H [a, kn, mo]) r rs ∧ drawnR rs ∧
  H kn = some (.lst (ks.map V.str)) ∧ H mo = some (.lst (ms.map V.str)) ∧ ks.length ≤ 40 ∧ ms.length ≤ 9 ∧ (∀ s ∈ ks ++ ms, s ∈ names9) ∧
  ∀ T H' e ks' ms', DnAt (n + 8) H' a → Same (rms H [a, kn, mo]) (rms H' [a, kn, mo]) → Is H' (.ref T) e.dt → e.good rs → H' kn = some (.lst (ks'.map V.str)) → H' mo = some (.lst (ms'.map V.str)) → evStep e ks ms ks' ms' → Q (.ref T) H'
section
variable {P : Program} {w : World} {K : PySem.W.Frag} {mg : Str → Option Value} {base : Heap}
abbrev s__law_event : Stmt := top 46
theorem sc__law_event : FnScope ["stream", "ranks", "names", "fresh", "choice", "name", "home"] ["stream", "ranks", "names", "fresh"] (defScope s__law_event) := ⟨rfl, rfl, rfl, by decide +kernel, rfl, by decide +kernel, by decide +kernel⟩
theorem c__law_event (T : Txt K mg) (D : Dfn K mg "_law_event" s__law_event) (C_law_draw : Cal P w K mg base 1 "_law_draw" ["stream", "many"] spDraw) (C_law_pick : Cal P w K mg base 2 "_law_pick" ["stream", "things"] (spPick K))
    (C_law_wishes : Cal P w K mg base 3 "_law_wishes" ["stream", "ranks"] spWishes) : Cal P w K mg base 4 "_law_event" ["stream", "ranks", "names", "fresh"] spEvent := by
  refine D.cal sc__law_event (fun _ _ _ _ _ _ us hl => match us, hl with | [_, _, _, _], _ => rfl) (fun vs H Q E h => ?_) fun cdv A outer s H vs Q E hr h => ?_
  · obtain ⟨a, r, kn, mo, rs, ks, ms, n, rfl, _⟩ := h
    rfl
  obtain ⟨a, r, kn, mo, rs, ks, ms, n, rfl, hd, hb, nkm, nka, nma, hk0, dr, h1, h2, lk, lm, hns, q⟩ := h
  have l4 := dr.2.1
  have l1 : 1 ≤ rs.length := by
    have := dr.2.2.1
    cases rs with
    | nil => exact absurd rfl this
    | cons => simp
  have nm4 : ∀ s ∈ rs.map (·.1), s.length ≤ 1000 := fun s m => by
    obtain ⟨p, mp, e⟩ := List.mem_map.mp m
    rw [← e]
    exact (names4_ok _ (dr.2.2.2 p mp).1).2
  refine ⟨_, (pss_cons (ps_set (i := 4) sc__law_event.nd rfl (by first | exact Or.inl rfl | exact Or.inr rfl) (pe_cal C_law_draw hr (by first | decide | omega) (by rfl) (pa_cons (pv 0) (pa_cons pe_int pa_nil))))
      (pss_cons (ps_if (PW.pt (pw_and (pt_cmpR op_lt (pv 4) pe_int (nomark _)) (pw_and1 (pt_cmpR (op_neD hr.units) (pv 3) (pe_lst pa_nil) (nomark _))))) (pss_cons (ps_set (i := 5) sc__law_event.nd rfl (by first | exact Or.inl rfl | exact Or.inr rfl) (pe_bm PySem.F.plainAttrs_list PySem.F.slot_list_pop PySem.F.type_list_pop mt_popAt (pv 3) (pa_cons pe_int pa_nil)))
      (pss_cons (ps_expr (pe_bm PySem.F.plainAttrs_list PySem.F.slot_list_append PySem.F.type_list_append mt_append (pv 2) (pa_cons (pv 5) pa_nil)))
      (pss_cons (ps_set (i := 6) sc__law_event.nd rfl (by first | exact Or.inl rfl | exact Or.inr rfl) (pe_cal C_law_pick hr (by first | decide | omega) (by rfl) (pa_cons (pv 0) (pa_cons (pe_op op_cat (pe_lst (pa_cons pe_non pa_nil)) (pe_callTy (T := "list") (call_list_dK rfl) (by rfl) T.list (by decide +kernel) (pa_cons (pv 1) pa_nil))) pa_nil))))
      (pss_one (ps_ret (pe_tup (pa_cons pe_str (pa_cons (pv 5) (pa_cons (pe_cal C_law_wishes hr (by first | decide | omega) (by rfl) (pa_cons (pv 0) (pa_cons (pv 1) pa_nil))) (pa_cons (pe_cal C_law_draw hr (by first | decide | omega) (by rfl) (pa_cons (pv 0) (pa_cons pe_int pa_nil))) (pa_cons (pv 6) pa_nil))))))))))) pss_nil)
      (pss_cons (ps_if (PW.pt (pw_or (pt_cmpR op_lt (pv 4) pe_int (nomark _)) (pw_or1 (pt_cmpR (op_eqD hr.units) (pv 2) (pe_lst pa_nil) (nomark _))))) (pss_one (ps_ret (pe_tup (pa_cons pe_str (pa_cons (pe_cal C_law_pick hr (by first | decide | omega) (by rfl) (pa_cons (pv 0) (pa_cons (pe_callTy (T := "list") (call_list_dK rfl) (by rfl) T.list (by decide +kernel) (pa_cons (pv 1) pa_nil)) pa_nil))) pa_nil))))) pss_nil)
      (pss_cons (ps_if (pt_cmpR op_eq (pv 4) pe_int (nomark _)) (pss_one (ps_ret (pe_tup (pa_cons pe_str (pa_cons (pe_cal C_law_pick hr (by first | decide | omega) (by rfl) (pa_cons (pv 0) (pa_cons (pv 2) pa_nil))) pa_nil))))) pss_nil)
      (pss_cons (ps_if (pt_cmpR op_eq (pv 4) pe_int (nomark _)) (pss_one (ps_ret (pe_tup (pa_cons pe_str (pa_cons (pe_cal C_law_pick hr (by first | decide | omega) (by rfl) (pa_cons (pv 0) (pa_cons (pe_callTy (T := "list") (call_list_dK rfl) (by rfl) T.list (by decide +kernel) (pa_cons (pv 1) pa_nil)) pa_nil))) pa_nil))))) pss_nil)
      (pss_one (ps_ret (pe_tup (pa_cons pe_str (pa_cons (pe_cal C_law_pick hr (by first | decide | omega) (by rfl) (pa_cons (pv 0) (pa_cons (pv 2) pa_nil))) (pa_cons (pe_cal C_law_wishes hr (by first | decide | omega) (by rfl) (pa_cons (pv 0) (pa_cons (pv 1) pa_nil))) pa_nil))))))))))), ?_⟩
  refine ⟨_, rfl, a, 9, n, rfl, hd, by omega, by decide, by decide, fun ch o c0 c1 ho => ?_⟩
  have d0 : DnAt (n + 1) (upd H a o) a := DnAt.put ho
  have s0 : Same (rm H a) (rm (upd H a o) a) := rm_put
  have fin : ∀ (T : Addr) (H' : Hp) (e : Ev), Same (rm H a) (rm H' a) → DnAt (n + 8) H' a → Is H' (.ref T) e.dt → e.good rs → e.told = none → Q (.ref T) H' := fun T H' e s d i g n =>
    q T H' e ks ms d (rms_of_rm (by simp) s) i g (by have := s kn _ (by rw [rm_ne nka]; exact h1); rwa [rm_ne nka] at this) (by have := s mo _ (by rw [rm_ne nma]; exact h2); rwa [rm_ne nma] at this) (.inl ⟨n, rfl, rfl⟩)
  have rkOf : ∀ {G : Hp}, Same (rm H a) (rm G a) → RanksR (rm G a) r rs := fun s => (hk0.mono (rms_rm (by simp))).mono s
  try dsimp only
  refine cut_if (fun σ H' => σ = [some (.ref a), some (.ref r), some (.ref kn), some (.ref mo), some (.int ch), none, none] ∧ Same (rm H a) (rm H' a) ∧ DnAt (n + 1) H' a) ?_ fun rest => ?_
  · rintro _ G ⟨rfl, sG, dG⟩
    have k1 : G kn = some (.lst (ks.map V.str)) := by have := sG kn _ (by rw [rm_ne nka]; exact h1); rwa [rm_ne nka] at this
    obtain ⟨kvs, hk, he⟩ := rkOf sG
    have hkG := rm_same _ _ hk
    have kz : ∀ s ∈ ks, s ∈ names9 := fun s m => hns s (List.mem_append_left _ m)
    have one : ∀ {G1 : Hp} {T : Addr} {w s : Str}, w.length ≤ 1000 → s.length ≤ 1000 → G1 T = some (.tup [.str w, .str s]) → Is G1 (.ref T) (.tup [.str w, .str s]) := fun hw hs h => .tup h (.cons (.str _ hw) (.cons (.str _ hs) .nil)) (by show 2 ≤ 60; decide)
    have kinds : ∀ (G1 : Hp) (w : Str) (mkE : Str → Ev), w.length ≤ 1000 → (∀ k, (mkE k).dt = .tup [.str w, .str k]) → (∀ k, (mkE k).told = none) → (∀ k ∈ rs.map (·.1), (mkE k).good rs) → Same (rm G a) (rm G1 a) → DnAt (n + 1) G1 a → ∀ kl, G1 kl = none → ∀ (j : Nat) (v : V) (o : HO), ((rs.map (·.1)).map V.str)[j]? = some v → DrN (n + 2) o → ∀ T, (upd (upd G1 kl (.lst ((rs.map (·.1)).map V.str))) a o) T = none → Q (.ref T) (upd (upd (upd G1 kl (.lst ((rs.map (·.1)).map V.str))) a o) T (.tup [.str w, v])) := fun G1 w mkE hw hdt htl hgd s1 d1 kl hkl j v o hv ho T hT => by
      obtain ⟨s, ms', e⟩ := List.mem_map.mp (List.mem_of_getElem? hv)
      subst e
      have sp : Same (rm G1 a) (rm (upd (upd G1 kl (.lst ((rs.map (·.1)).map V.str))) a o) a) := (Same.rm (Same.up hkl)).trans rm_put
      have dp : DnAt (n + 8) (upd (upd G1 kl (.lst ((rs.map (·.1)).map V.str))) a o) a := (DnAt.put ho).le (by omega)
      exact fin T _ (mkE s) (sG.trans (s1.trans (sp.trans (Same.rm (Same.up hT))))) (dp.up (Same.up hT)) (by rw [hdt]; exact one hw (nm4 s ms') upd_same) (hgd s ms') (htl s)
    have lr : ((rs.map (·.1)).map V.str).length = rs.length := by rw [List.length_map, List.length_map]
    refine ⟨_, rfl, _, _, rfl, rfl, _, rfl, iteB ?_ ?_⟩
    · refine ⟨_, rfl, _, rfl, r, kvs, rfl, hkG, fun kl hkl => ?_⟩
      delta tNil
      dsimp only
      rw [perm_keys he]
      exact ⟨a, kl, _, n + 1, rfl, dG.up (Same.up hkl), by omega, dG.new hkl, .inl (SqL.of upd_same), by omega, by omega, fun j v o hv ho => ⟨lineN (n := 2), fun T hT => kinds G "place" .place (by decide +kernel) (fun _ => rfl) (fun _ => rfl) (fun k m => m) (Same.refl _) dG kl hkl j v o hv ho T hT⟩⟩
    refine ⟨_, rfl, lineN (n := 0), fun e0 he0 => ?_⟩
    have sE := Same.up (H := G) (o := .lst []) he0
    have dE := dG.up sE
    have k1E := sE _ _ k1
    refine ⟨.list (ks.map .str), .list [], .lst (SqL.of k1E) (shp9 kz).1, .lst (SqL.of upd_same) .nil, shaped9 kz, by decide +kernel, _, rfl, ?_⟩
    cases ks with
    | nil =>
      refine iteT ⟨_, rfl, _, rfl, r, kvs, rfl, sE _ _ hkG, fun kl hkl => ?_⟩
      delta tNil
      dsimp only
      rw [perm_keys he]
      exact ⟨a, kl, _, n + 1, rfl, dE.up (Same.up hkl), by omega, dE.new hkl, .inl (SqL.of upd_same), by omega, by omega, fun j v o hv ho => ⟨lineN (n := 2), fun T hT => kinds _ "place" .place (by decide +kernel) (fun _ => rfl) (fun _ => rfl) (fun k m => m) (Same.rm sE) dE kl hkl j v o hv ho T hT⟩⟩
    | cons k0 kr =>
    rw [eqv_ne]
    refine iteF ?_
    generalize hks : k0 :: kr = ks at *
    have lk1 : 1 ≤ ks.length := by rw [← hks]; simp
    clear hks
    have person : ∀ (j : Nat) (v : V), (ks.map V.str)[j]? = some v → ∃ s, v = .str s ∧ s ∈ names9 := fun j v hv => by
      obtain ⟨s, ms', e⟩ := List.mem_map.mp (List.mem_of_getElem? hv)
      exact ⟨s, e.symm, kz s ms'⟩
    refine ⟨_, rfl, rfl, _, rfl, iteB ?_ ?_⟩
    · refine ⟨_, rfl, _, rfl, a, kn, _, n + 1, rfl, dE, by omega, nka, .inl (SqL.of k1E), by rw [List.length_map]; exact lk1, by rw [List.length_map]; omega, fun j v o hv ho => ⟨lineN (n := 2), fun T hT => ?_⟩⟩
      obtain ⟨s, rfl, s9⟩ := person j v hv
      have dp : DnAt (n + 8) (upd (upd G e0 (.lst [])) a o) a := (DnAt.put ho).le (by omega)
      exact fin T _ (.leave s) (sG.trans ((Same.rm sE).trans (rm_put.trans (Same.rm (Same.up hT))))) (dp.up (Same.up hT)) (one (by decide +kernel) (names9_ok s s9).2.1 upd_same) s9 rfl
    refine ⟨_, rfl, rfl, _, rfl, iteB ?_ ?_⟩
    · refine ⟨_, rfl, _, rfl, r, kvs, rfl, sE _ _ hkG, fun kl hkl => ?_⟩
      delta tNil
      dsimp only
      rw [perm_keys he]
      exact ⟨a, kl, _, n + 1, rfl, dE.up (Same.up hkl), by omega, dE.new hkl, .inl (SqL.of upd_same), by omega, by omega, fun j v o hv ho => ⟨lineN (n := 2), fun T hT => kinds _ "withdraw" .withdraw (by decide +kernel) (fun _ => rfl) (fun _ => rfl) (fun k m => m) (Same.rm sE) dE kl hkl j v o hv ho T hT⟩⟩
    · refine ⟨_, rfl, _, rfl, a, kn, _, n + 1, rfl, dE, by omega, nka, .inl (SqL.of k1E), by rw [List.length_map]; exact lk1, by rw [List.length_map]; omega, fun j v o hv ho => ?_⟩
      obtain ⟨s, rfl, s9⟩ := person j v hv
      have dp : DnAt (n + 2) (upd (upd G e0 (.lst [])) a o) a := DnAt.put ho
      have sp : Same (rm H a) (rm (upd (upd G e0 (.lst [])) a o) a) := sG.trans ((Same.rm sE).trans rm_put)
      refine ⟨_, rfl, _, rfl, a, r, rs, n + 2, rfl, dp, by omega, rkOf sp, dr, fun t' H' ws dW sW ht' gw => ⟨lineN (n := 3), fun T hT => ?_⟩⟩
      have sT := Same.up (o := .tup [.str "change", .str s, .ref t']) hT
      exact fin T _ (.change s ws) (sp.trans (sW.trans (Same.rm sT))) ((dW.up sT).le (by omega)) (.tup upd_same (.cons (.str _ (by decide +kernel)) (.cons (.str s (names9_ok s s9).2.1) (.cons ((ws_is dr gw ht').mono (rm_same.trans sT)) .nil))) (by show 3 ≤ 60; decide)) ⟨s9, gw⟩ rfl
  · refine ⟨_, rfl, _, _, rfl, rfl, _, rfl, iteB ?_ ?_⟩
    · have g1 : (upd H a o) kn = some (.lst (ks.map V.str)) := (upd_ne nka).trans h1
      have g2 : (upd H a o) mo = some (.lst (ms.map V.str)) := (upd_ne nma).trans h2
      have m9 : ∀ s ∈ ms, s ∈ names9 := fun s m => hns s (List.mem_append_right _ m)
      refine ⟨_, rfl, lineN (n := 0), fun e hE => ⟨.list (ms.map .str), .list [], .lst (SqL.of (Same.up hE _ _ g2)) (shp9 m9).1, .lst (SqL.of upd_same) .nil, shaped9 m9, by decide +kernel, ?_⟩⟩
      have sE := Same.up (o := .lst []) hE
      have dE := d0.up sE
      have g1e := sE _ _ g1
      have g2e := sE _ _ g2
      cases ms with
      | nil => exact ⟨false, rfl, iteF (rest _ _ ⟨rfl, s0.trans (Same.rm sE), dE⟩)⟩
      | cons m0 mr =>
        rw [eqv_ne]
        refine ⟨true, rfl, iteT ⟨_, rfl, .inl ⟨rfl, _, SqL.of g2e⟩, mo, _, 0, 0, .str m0, rfl, rfl, g2e, by decide, by decide, PySem.StrLaws.seqIndex_nonneg (by decide) (by rw [List.length_map, List.length_cons]; omega), rfl, _, rfl, .inl ⟨rfl, _, SqL.of ((upd_ne nkm).trans g1e)⟩, _, rfl, kn, _, .str m0, rfl, rfl, (upd_ne nkm).trans g1e, sz (m := 60) (by rw [List.length_map]; omega), ?_⟩⟩
        rw [show (List.map V.str (m0 :: mr)).eraseIdx 0 = mr.map V.str from rfl]
        have dK : DnAt (n + 1) (upd (upd (upd (upd H a o) e (.lst [])) mo (.lst (mr.map V.str))) kn (.lst (ks.map V.str ++ [.str m0]))) a := (dE.set nma).set nka
        have sZ : Same (rms H [a, kn, mo]) (rms (upd (upd (upd (upd H a o) e (.lst [])) mo (.lst (mr.map V.str))) kn (.lst (ks.map V.str ++ [.str m0]))) [a, kn, mo]) := by
          rw [rms_upd (by simp), rms_upd (by simp)]
          refine Same.trans ?_ (Same.rms sE)
          rw [rms_upd (by simp)]
          exact Same.refl _
        have hkZ : RanksR (rm (upd (upd (upd (upd H a o) e (.lst [])) mo (.lst (mr.map V.str))) kn (.lst (ks.map V.str ++ [.str m0]))) a) r rs := (hk0.mono sZ).mono (rms_rm (by simp))
        have kK : (upd (upd (upd (upd H a o) e (.lst [])) mo (.lst (mr.map V.str))) kn (.lst (ks.map V.str ++ [.str m0]))) kn = some (.lst ((ks ++ [m0]).map V.str)) := by
          rw [upd_same, List.map_append]
          rfl
        have mK : (upd (upd (upd (upd H a o) e (.lst [])) mo (.lst (mr.map V.str))) kn (.lst (ks.map V.str ++ [.str m0]))) mo = some (.lst (mr.map V.str)) := (upd_ne nkm.symm).trans upd_same
        generalize (upd (upd (upd (upd H a o) e (.lst [])) mo (.lst (mr.map V.str))) kn (.lst (ks.map V.str ++ [.str m0]))) = G at dK sZ hkZ kK mK ⊢
        obtain ⟨kvs, hk, he⟩ := hkZ
        refine ⟨_, rfl, lineN (n := 1), fun e1 hE1 => ⟨_, rfl, r, kvs, rfl, (Same.up hE1) _ _ (rm_same _ _ hk), fun p hp => ?_⟩⟩
        delta tNil
        dsimp only
        rw [perm_keys he]
        have sp : Same G (upd G e1 (.lst [.non])) := Same.up hE1
        have sp2 := Same.up (o := .lst ((rs.map (·.1)).map V.str)) hp
        have lr : ((rs.map (·.1)).map V.str).length = rs.length := by rw [List.length_map, List.length_map]
        refine ⟨e1, p, _, _, rfl, rfl, sp2 _ _ upd_same, upd_same, lineN (by rw [lr]; show 1 + rs.length ≤ 1000; omega), fun c hc => ?_⟩
        have sp3 := Same.up (o := .lst ([.non] ++ (rs.map (·.1)).map V.str)) hc
        have d3 := ((dK.up sp).up sp2).up sp3
        refine ⟨a, c, _, n + 1, rfl, d3, by omega, ((dK.up sp).up sp2).new hc, .inl (SqL.of upd_same), by simp, (by rw [List.length_append, lr]; show 1 + rs.length < _; omega), fun j v o2 hv ho2 => ?_⟩
        obtain ⟨h, rfl, hh⟩ : ∃ h, v = homeV h ∧ ∀ s, h = some s → s ∈ rs.map (·.1) := by
          rcases List.mem_append.mp (List.mem_of_getElem? hv) with m | m
          · exact ⟨none, List.mem_singleton.mp m, fun s e => by cases e⟩
          · obtain ⟨s, ms, e⟩ := List.mem_map.mp m
            exact ⟨some s, e.symm, fun s' e' => by cases e'; exact ms⟩
        have sG3 : Same G (upd (upd (upd G e1 (.lst [.non])) p (.lst ((rs.map (·.1)).map V.str))) c (.lst ([.non] ++ (rs.map (·.1)).map V.str))) := sp.trans (sp2.trans sp3)
        generalize (upd (upd (upd G e1 (.lst [.non])) p (.lst ((rs.map (·.1)).map V.str))) c (.lst ([.non] ++ (rs.map (·.1)).map V.str))) = G3 at d3 sG3 ⊢
        have d4 : DnAt (n + 2) (upd G3 a o2) a := DnAt.put ho2
        have s4 : Same (rm G a) (rm (upd G3 a o2) a) := (Same.rm sG3).trans rm_put
        refine ⟨_, rfl, _, rfl, _, rfl, a, r, rs, n + 2, rfl, d4, by omega, RanksR.mono s4 ⟨kvs, hk, he⟩, dr, fun t H' ws dW sW ht gw => ?_⟩
        refine ⟨_, rfl, a, 4, n + 7, rfl, dW, by omega, by decide, by decide, fun pt o3 p0 p1 ho3 => ⟨_, rfl, lineN (n := 5), fun T hT => ?_⟩⟩
        have d5 : DnAt (n + 8) (upd H' a o3) a := DnAt.put ho3
        have sT := Same.up (H := upd H' a o3) (o := .tup [.str "come", .str m0, .ref t, .int pt, homeV h]) hT
        have s5 : Same (rm G a) (rm (upd (upd H' a o3) T (.tup [.str "come", .str m0, .ref t, .int pt, homeV h])) a) := s4.trans (sW.trans (rm_put.trans (Same.rm sT)))
        have ih : ∀ G : Hp, Is G (homeV h) (homeD h) := fun G => by
          cases h with
          | none => exact .non
          | some s => exact .str s (nm4 s (hh s rfl))
        have m09 := m9 m0 List.mem_cons_self
        refine q T _ (.come m0 ws pt h) (ks ++ [m0]) mr (d5.up sT) (sZ.trans (rms_of_rm (by simp) s5)) ?_ ⟨m09, gw, ⟨p0, by omega⟩, hh⟩ ?_ ?_ (.inr ⟨m0, rfl, rfl, rfl⟩)
        · exact .tup upd_same (.cons (.str _ (by decide +kernel)) (.cons (.str m0 (names9_ok m0 m09).2.1) (.cons ((ws_is dr gw ht).mono ((show Same (rm H' a) _ from rm_put.trans (Same.rm sT)).trans rm_same)) (.cons (.int pt) (.cons (ih _) .nil))))) (by show 5 ≤ 60; decide)
        · have := s5 kn _ (by rw [rm_ne nka]; exact kK)
          rwa [rm_ne nka] at this
        · have := s5 mo _ (by rw [rm_ne nma]; exact mK)
          rwa [rm_ne nma] at this
    · exact rest _ _ ⟨rfl, s0, d0⟩
end
end K07

set_option Elab.async false
set_option linter.all false
set_option maxRecDepth 100000
set_option maxHeartbeats 4000000
namespace K07
open PySem PySem.Spec PyProof.Rows L2 Sr
theorem told_snoc {es : Es} {t : Int} {e : Ev} {ks ms ks' ms' : List Str} (h : toldOf es = ks) (s : evStep e ks ms ks' ms') : toldOf (es ++ [(t, e)]) = ks' ∧ ks' ++ ms' = ks ++ ms := by
  unfold toldOf at h ⊢
  rw [List.filterMap_append, h]
  rcases s with ⟨n, rfl, rfl⟩ | ⟨n, e1, rfl, rfl⟩
  · refine ⟨?_, rfl⟩
    rw [List.filterMap_cons, n, List.filterMap_nil, List.append_nil]
  · refine ⟨?_, by rw [List.append_assoc]; rfl⟩
    rw [List.filterMap_cons, e1, List.filterMap_nil]

theorem free_below {H H' : Hp} (s : Same H H') {l : Addr} (h : H' l = none) : H l = none := by
  cases e : H l with
  | none => rfl
  | some o => rw [s _ _ e] at h; cases h
theorem rms_more {M H : Hp} {Z : List Addr} {t : Addr} (s : Same M (rms H Z)) (n : M t = none) (Z' : List Addr) (sub : ∀ b ∈ Z', b ∈ Z ∨ b = t) : Same M (rms H Z') := fun b x e => by
  have h := s _ _ e
  have na : b ∉ Z := fun z => by rw [rms_at z] at h; cases h
  rw [rms_ne na] at h
  rw [rms_ne fun z => ?_]
  · exact h
  · rcases sub b z with y | y
    · exact na y
    · rw [y, n] at e; cases e
theorem rms_set {M H : Hp} {Z : List Addr} {t : Addr} {o : HO} (s : Same M (rms H Z)) (n : M t = none) : Same M (rms (upd H t o) Z) := fun b x e => by
  have nt : b ≠ t := ne_of_none e n
  have h := s _ _ e
  have na : b ∉ Z := fun z => by rw [rms_at z] at h; cases h
  rw [rms_ne na] at h ⊢
  rw [upd_ne nt]
  exact h
theorem rms_trans {M H H' : Hp} {Z Z' : List Addr} (s : Same M (rms H Z)) (sub : ∀ b ∈ Z', b ∈ Z ∨ M b = none) (t : Same (rms H Z') (rms H' Z')) : Same M (rms H' Z) := fun b x e => by
  have h := s _ _ e
  have na : b ∉ Z := fun z => by rw [rms_at z] at h; cases h
  rw [rms_ne na] at h ⊢
  have nz : b ∉ Z' := fun z => by
    rcases sub b z with y | y
    · exact na y
    · rw [y] at e; cases e
  have := t b x (by rw [rms_ne nz]; exact h)
  rwa [rms_ne nz] at this
def spEvents : Sp := fun vs H Q _ => ∃ (a r fl : Addr) (rs : List Rk) (ms : List Str) (m n : Nat), vs = [.ref a, .ref r, .int (m : Nat), .ref fl] ∧ m ≤ 8 ∧ DnAt n H a ∧ n ≤ 5000 ∧ fl ≠ a ∧ RanksR (rms H [a, fl]) r rs ∧ drawnR rs ∧ H fl = some (.lst (ms.map V.str)) ∧ ms.length ≤ 9 ∧ (∀ s ∈ ms, s ∈ names9) ∧
  ∀ f H' kvs es tm ms', DnAt (n + 72) H' a → Same (rms H [a, fl]) (rms H' [a, fl]) → H f = none → H' f = some (.dK kvs) → EvE H' kvs es → EsOk rs es tm → tm ≤ 24 → es.length = m → toldOf es ++ ms' = ms → H' fl = some (.lst (ms'.map V.str)) → Q (.ref f) H'
section
variable {P : Program} {w : World} {K : PySem.W.Frag} {mg : Str → Option Value} {base : Heap}
abbrev s__law_events : Stmt := top 47
theorem sc__law_events : FnScope ["stream", "ranks", "many", "fresh", "k", "found", "names", "time"] ["stream", "ranks", "many", "fresh"] (defScope s__law_events) := ⟨rfl, rfl, rfl, by decide +kernel, rfl, by decide +kernel, by decide +kernel⟩
theorem c__law_events (T : Txt K mg) (D : Dfn K mg "_law_events" s__law_events) (C_law_draw : Cal P w K mg base 1 "_law_draw" ["stream", "many"] spDraw) (C_law_event : Cal P w K mg base 4 "_law_event" ["stream", "ranks", "names", "fresh"] spEvent) :
    Cal P w K mg base 5 "_law_events" ["stream", "ranks", "many", "fresh"] spEvents := by
  refine D.cal sc__law_events (fun _ _ _ _ _ _ us hl => match us, hl with | [_, _, _, _], _ => rfl) (fun vs H Q E h => ?_) fun cdv A outer s H vs Q E hr h => ?_
  · obtain ⟨a, r, fl, rs, ms, m, n, rfl, _⟩ := h
    rfl
  obtain ⟨a, r, fl, rs, ms, m, n, rfl, m8, hd, hb, nfa, hk0, dr, h2, lm, hns, q⟩ := h
  refine ⟨_, (pss_cons (ps_par3 (i := 5) (j := 6) (l := 7) (by rfl) sc__law_events.nd rfl rfl rfl (by decide) (by decide) (by decide) rfl rfl rfl (pa_cons pe_dnewK (pa_cons (pe_lst pa_nil) (pa_cons pe_int pa_nil))) (by rfl))
      (pss_cons (ps_for PassesOwn.never rfl (pi_range1 (by rfl) T.range (pa_cons (pv 2) pa_nil)) (pg_name (i := 4) sc__law_events.nd rfl (by first | exact Or.inl rfl | exact Or.inr rfl))
      (pss_cons (ps_set (i := 7) sc__law_events.nd rfl (by first | exact Or.inl rfl | exact Or.inr rfl) (pe_op op_add (pe_op op_add (pv 7) pe_int) (pe_cal C_law_draw hr (by first | decide | omega) (by rfl) (pa_cons (pv 0) (pa_cons pe_int pa_nil)))))
      (pss_one (ps_dput (hu_of hr) (pv 5) (pv 7) (pe_cal C_law_event hr (by first | decide | omega) (by rfl) (pa_cons (pv 0) (pa_cons (pv 1) (pa_cons (pv 6) (pa_cons (pv 3) pa_nil))))) rfl))))
      (pss_one (ps_ret (pv 5))))), ?_⟩
  refine fun f hf => ⟨lineN (n := 0), fun nl hnl => ⟨_, _, _, rfl, _, rfl, m, rfl, by omega, by omega, ?_⟩⟩
  have u1 := Same.up (o := .dK []) hf
  have u2 := Same.up (o := .lst []) hnl
  have s0 : Same H _ := u1.trans u2
  have nla : nl ≠ a := (hd.up u1).new hnl
  have nFa : f ≠ a := hd.new hf
  have nlf : nl ≠ f := fun z => by rw [z, upd_same] at hnl; cases hnl
  have hnl0 : H nl = none := free_below u1 hnl
  have nfl : f ≠ fl := fun z => by rw [z, h2] at hf; cases hf
  have nnl : nl ≠ fl := fun z => by rw [z, h2] at hnl0; cases hnl0
  have mf : (rms H [a, fl]) f = none := by rw [rms_ne (by simp [nFa, nfl])]; exact hf
  have mn : (rms H [a, fl]) nl = none := by rw [rms_ne (by simp [nla, nnl])]; exact hnl0
  refine for_range (fun i σ H' => ∃ kk tm es kvs ms', σ = [some (.ref a), some (.ref r), some (.int (m : Nat)), some (.ref fl), kk, some (.ref f), some (.ref nl), some (.int tm)] ∧ DnAt (n + 9 * i) H' a ∧ Same (rms H [a, fl]) (rms H' [a, fl]) ∧ H' f = some (.dK kvs) ∧ EvE H' kvs es ∧ EsOk rs es tm ∧ 0 ≤ tm ∧ tm ≤ 3 * (i : Nat) ∧ es.length = i ∧ H' nl = some (.lst ((toldOf es).map V.str)) ∧ H' fl = some (.lst (ms'.map V.str)) ∧ toldOf es ++ ms' = ms)
    ⟨_, 0, [], [], ms, rfl, hd.up s0, Same.rms s0, (upd_ne nlf.symm).trans upd_same, .nil, ⟨List.Pairwise.nil, (fun p m => by cases m), (fun p m => by cases m)⟩, by decide, by decide, rfl, upd_same, s0 _ _ h2, rfl⟩ ?_ ?_
  · rintro i σ H1 hi ⟨kk, tm, es, kvs, ms', rfl, d1, s1, hf1, ev, ok, tm0, tm3, le1, hnl1, hfl1, tld⟩
    have m1 : (n + 9 * i : Nat) ≤ 1000000 := by omega
    refine ⟨_, rfl, _, _, rfl, rfl, _, rfl, a, 3, n + 9 * i, rfl, d1, by omega, by decide, by decide, fun g o g0 g1 ho => ⟨_, _, rfl, rfl, _, rfl, _, rfl, _, rfl, _, rfl, ?_⟩⟩
    have d2 : DnAt (n + 9 * i + 1) (upd H1 a o) a := DnAt.put ho
    have s2 : Same (rms H [a, fl]) (rms (upd H1 a o) [a, fl]) := by rw [rms_upd (by simp)]; exact s1
    have f2 := (upd_ne nFa (o := o)).trans hf1
    have n2 := (upd_ne nla (o := o)).trans hnl1
    have fl2 := (upd_ne nfa (o := o)).trans hfl1
    have tp2 : Tups H1 (upd H1 a o) := tups_set (draws_no d1.at_)
    have lens : (toldOf es).length + ms'.length = ms.length := by rw [← tld, List.length_append]
    refine ⟨a, r, nl, fl, rs, toldOf es, ms', n + 9 * i + 1, rfl, d2, by omega, nnl, nla, nfa, hk0.mono (rms_more s2 mn [a, nl, fl] (by simp)), dr, n2, fl2, by omega, by omega, by rw [tld]; exact hns, fun T H2 e ks' ms2 d3 s3 i3 g3 k3 m3 st => ?_⟩
    have nFZ : f ∉ [a, nl, fl] := by simp [nFa, nlf.symm, nfl]
    have f3 : H2 f = some (.dK kvs) := by
      have := s3 f _ (by rw [rms_ne nFZ]; exact f2)
      rwa [rms_ne nFZ] at this
    have noZ : ∀ b ∈ [a, nl, fl], ∀ xs, (upd H1 a o) b ≠ some (.tup xs) := fun b m xs => by
      simp only [List.mem_cons, List.not_mem_nil, or_false] at m
      rcases m with rfl | rfl | rfl
      · exact draws_no d2.at_ xs
      · rw [n2]; intro z; cases z
      · rw [fl2]; intro z; cases z
    have tp3 := tp2.trans (tups_rms s3 noZ)
    obtain ⟨tl3, kms3⟩ := told_snoc (t := tm + 1 + g) rfl st
    refine ⟨_, rfl, _, rfl, f, _, rfl, DPut.k (k := Sum.inl _) f3 (sz (m := 60) (by rw [Paired.length ev]; omega)), ?_⟩
    rw [Sr.putK_new (ok.new ev (by omega : tm < tm + 1 + g))]
    have tp4 : Tups H2 (upd H2 f (.dK (kvs ++ [(Sum.inl (tm + 1 + g), .ref T)]))) := tups_set fun xs => by rw [f3]; intro z; cases z
    exact ⟨_, _, es ++ [(tm + 1 + g, e)], _, ms2, rfl, (d3.set nFa).le (by omega), rms_set (rms_trans s2 (fun b m => by
      simp only [List.mem_cons, List.not_mem_nil, or_false] at m
      rcases m with rfl | rfl | rfl
      · exact .inl (by simp)
      · exact .inr mn
      · exact .inl (by simp)) s3) mf, upd_same, (ev.keep (tp3.trans tp4)).snoc (is_tups tp4 i3 e.tups), ok.snoc (by omega) tm0 g3, by omega, by push_cast; omega, by rw [List.length_append, le1]; rfl, by rw [upd_ne nlf, tl3]; exact k3, (upd_ne nfl.symm).trans m3, by rw [tl3]; exact kms3.trans tld⟩
  · rintro σ H1 ⟨kk, tm, es, kvs, ms', rfl, d1, s1, hf1, ev, ok, tm0, tm3, le1, hnl1, hfl1, tld⟩
    have e3 : ((m : Int)).toNat = m := rfl
    exact ⟨_, rfl, q f H1 kvs es tm ms' (d1.le (by omega)) s1 hf hf1 ev ok (by omega) (by omega) tld hfl1⟩
end
end K07

set_option Elab.async false
set_option linter.all false
set_option maxRecDepth 100000
set_option maxHeartbeats 4000000
namespace K07
open PySem PySem.Spec PyProof.Rows L2 Sr
/-! ### tuples for lists throughout -/
mutual
def frzD : Dt → Dt
  | .lst l => .tup (frzDs l)
  | .tup l => .tup (frzDs l)
  | d => d
def frzDs : List Dt → List Dt
  | [] => []
  | d :: r => frzD d :: frzDs r
end
theorem frzDs_map : ∀ l : List Dt, frzDs l = l.map frzD
  | [] => rfl
  | d :: r => by
    show frzD d :: frzDs r = frzD d :: r.map frzD
    rw [frzDs_map r]
theorem tupDs_of : ∀ {l : List Dt}, (∀ d ∈ l, tupD d = true) → tupDs l = true
  | [], _ => rfl
  | d :: r, h => by
    show (tupD d && tupDs r) = true
    rw [h d List.mem_cons_self, tupDs_of fun x m => h x (List.mem_cons_of_mem _ m)]
    rfl
theorem frz_tup : ∀ {n : Nat} {d : Dt}, Dep n d → tupD (frzD d) = true
  | _, _, .non _ => rfl
  | _, _, .bl _ _ => rfl
  | _, _, .int _ _ => rfl
  | _, _, .str _ _ => rfl
  | _, _, .lst n l h => by
    show tupDs (frzDs l) = true
    rw [frzDs_map]
    exact tupDs_of fun x m => by
      obtain ⟨d, md, e⟩ := List.mem_map.mp m
      rw [← e]
      exact frz_tup (h d md)
  | _, _, .tup n l h => by
    show tupDs (frzDs l) = true
    rw [frzDs_map]
    exact tupDs_of fun x m => by
      obtain ⟨d, md, e⟩ := List.mem_map.mp m
      rw [← e]
      exact frz_tup (h d md)
def spFrz (n : Nat) : Sp := fun vs H Q _ => ∃ v d, vs = [v] ∧ Is H v d ∧ Dep n d ∧ ∀ u H', Same H H' → Is H' u (frzD d) → Q u H'
theorem isA_paired {H : Hp} {f : Dt → Dt} : ∀ {us : List V} {ds : List Dt}, Paired (fun v d => Is H v (f d)) us ds → IsA H us (ds.map f)
  | _, _, .nil => .nil
  | _, _, .cons h r => .cons h (isA_paired r)
section
variable {P : Program} {w : World} {K : PySem.W.Frag} {mg : Str → Option Value} {base : Heap}
abbrev s_frozen : Stmt := top 9
theorem sc_frozen : FnScope ["thing", "part"] ["thing"] (defScope s_frozen) := ⟨rfl, rfl, rfl, by decide +kernel, rfl, by decide +kernel, by decide +kernel⟩
theorem c_frozen (T : Txt K mg) (D : Dfn K mg "frozen" s_frozen) (C_is_list : Cal P w K mg base 1 "is_list" ["thing"] (spB isSeq)) : ∀ n : Nat, Cal P w K mg base (n + 2) "frozen" ["thing"] (spFrz n) := by
  intro n
  induction n with
  | zero =>
    refine D.cal sc_frozen (fun _ _ _ _ _ _ us hl => match us, hl with | [_], _ => rfl) (fun vs H Q E h => ?_) fun cdv A outer s H vs Q E hr h => ?_
    · obtain ⟨v, d, rfl, _⟩ := h
      rfl
    obtain ⟨v, d, rfl, iv, dp, q⟩ := h
    have hq : isSeq d = false := by cases dp <;> rfl
    refine ⟨_, (pss_cons (ps_if (pt_val (pe_cal C_is_list hr (by first | decide | omega) (by rfl) (pa_cons (pv 0) pa_nil))) pss_never pss_nil)
      (pss_one (ps_ret (pv 0)))), ?_⟩
    refine ⟨_, rfl, v, d, rfl, iv, fun H1 s1 => ⟨_, rfl, ?_⟩⟩
    rw [hq]
    have e : frzD d = d := by cases dp <;> rfl
    exact iteF ⟨_, rfl, q v H1 s1 (by rw [e]; exact iv.mono s1)⟩
  | succ n ih =>
    have C_frozen := ih
    refine D.cal sc_frozen (fun _ _ _ _ _ _ us hl => match us, hl with | [_], _ => rfl) (fun vs H Q E h => ?_) fun cdv A outer s H vs Q E hr h => ?_
    · obtain ⟨v, d, rfl, _⟩ := h
      rfl
    obtain ⟨v, d, rfl, iv, dp, q⟩ := h
    have iv0 := iv
    cases iv with
    | lst hv rv zv =>
      rename_i a xs l
      have dl : ∀ d ∈ l, Dep n d := by cases dp with | lst _ _ h => exact h
      refine ⟨_, (pss_cons (ps_if (pt_val (pe_cal C_is_list hr (by first | decide | omega) (by rfl) (pa_cons (pv 0) pa_nil))) (pss_one (ps_ret (pe_callTy (T := "tuple") call_tuple_of (by rfl) T.tuple (by decide +kernel) (pa_cons (pe_lc (own := [("part", 1)]) (g := gName 1) (tt := tYes) rfl sc_frozen.nd (pi_list (pv 0)) (blkOk_by (N := ["thing", "part"]) (sc := defScope s_frozen) (by decide +kernel)) (fun _ _ _ _ _ => (pg_name (i := 1) sc_frozen.nd rfl (by first | exact Or.inl rfl | exact Or.inr rfl))) (fun _ _ _ _ _ => pts_nil) (fun _ _ _ _ _ => (pe_cal C_frozen hr (by first | decide | omega) (by rfl) (pa_cons (pv 1) pa_nil)))) pa_nil)))) pss_nil)
      (pss_one (ps_ret (pv 0)))), ?_⟩
      refine ⟨_, rfl, _, _, rfl, iv0, fun H1 s1 => ⟨_, rfl, iteT ⟨_, rfl, a, rfl, ⟨_, SqL.of (s1 _ _ hv)⟩, fun D hD => lc_gen walk_list walk_at l (fun _ => true) rv.len.symm (sz zv) hD (fun H' s' => SqL.of (s' _ _ (s1 _ _ hv))) (fun H' d v => Is H' v (frzD d) ∧ tupD (frzD d) = true) (fun _ _ _ _ e h => ⟨h.1.mono e, h.2⟩) (fun _ _ _ _ _ e h => ⟨is_tups (tups_set fun xs => by rw [e]; intro z; cases z) h.1 h.2, h.2⟩) (fun i x d H2 A B hi hx hd s2 kA kB => ?_) (fun H2 acc s2 h2 pr => ?_)⟩⟩⟩
      · obtain ⟨d', e1, i1⟩ := rv.get hx
        rw [hd] at e1
        cases e1
        have dd := dl d (List.mem_of_getElem? hd)
        exact ⟨rfl, _, rfl, x, d, rfl, i1.mono (s1.trans s2), dd, fun u H3 s3 iu => kA rfl u H3 s3 ⟨iu, frz_tup dd⟩⟩
      · rw [List.filter_eq_self.mpr fun _ _ => rfl] at pr
        have ia := isA_paired (f := frzD) (L2.Paired.mapP pr fun _ _ h => h.1)
        refine ⟨D, acc, rfl, .inl ⟨SqL.of h2, fun p hp => q _ _ (s1.trans (s2.trans (Same.up hp))) ?_⟩⟩
        show Is _ (.ref p) (.tup (frzDs l))
        rw [frzDs_map]
        exact .tup upd_same (ia.mono (Same.up hp)) (by rw [Paired.length pr, ← rv.len]; exact zv)
    | tup hv rv zv =>
      rename_i a xs l
      have dl : ∀ d ∈ l, Dep n d := by cases dp with | tup _ _ h => exact h
      refine ⟨_, (pss_cons (ps_if (pt_val (pe_cal C_is_list hr (by first | decide | omega) (by rfl) (pa_cons (pv 0) pa_nil))) (pss_one (ps_ret (pe_callTy (T := "tuple") call_tuple_of (by rfl) T.tuple (by decide +kernel) (pa_cons (pe_lc (own := [("part", 1)]) (g := gName 1) (tt := tYes) rfl sc_frozen.nd (pi_tup (pv 0)) (blkOk_by (N := ["thing", "part"]) (sc := defScope s_frozen) (by decide +kernel)) (fun _ _ _ _ _ => (pg_name (i := 1) sc_frozen.nd rfl (by first | exact Or.inl rfl | exact Or.inr rfl))) (fun _ _ _ _ _ => pts_nil) (fun _ _ _ _ _ => (pe_cal C_frozen hr (by first | decide | omega) (by rfl) (pa_cons (pv 1) pa_nil)))) pa_nil)))) pss_nil)
      (pss_one (ps_ret (pv 0)))), ?_⟩
      refine ⟨_, rfl, _, _, rfl, iv0, fun H1 s1 => ⟨_, rfl, iteT ⟨_, rfl, a, rfl, ⟨_, SqT.of (s1 _ _ hv)⟩, fun D hD => lc_gen walk_tup walk_at l (fun _ => true) rv.len.symm (sz zv) hD (fun H' s' => SqT.of (s' _ _ (s1 _ _ hv))) (fun H' d v => Is H' v (frzD d) ∧ tupD (frzD d) = true) (fun _ _ _ _ e h => ⟨h.1.mono e, h.2⟩) (fun _ _ _ _ _ e h => ⟨is_tups (tups_set fun xs => by rw [e]; intro z; cases z) h.1 h.2, h.2⟩) (fun i x d H2 A B hi hx hd s2 kA kB => ?_) (fun H2 acc s2 h2 pr => ?_)⟩⟩⟩
      · obtain ⟨d', e1, i1⟩ := rv.get hx
        rw [hd] at e1
        cases e1
        have dd := dl d (List.mem_of_getElem? hd)
        exact ⟨rfl, _, rfl, x, d, rfl, i1.mono (s1.trans s2), dd, fun u H3 s3 iu => kA rfl u H3 s3 ⟨iu, frz_tup dd⟩⟩
      · rw [List.filter_eq_self.mpr fun _ _ => rfl] at pr
        have ia := isA_paired (f := frzD) (L2.Paired.mapP pr fun _ _ h => h.1)
        refine ⟨D, acc, rfl, .inl ⟨SqL.of h2, fun p hp => q _ _ (s1.trans (s2.trans (Same.up hp))) ?_⟩⟩
        show Is _ (.ref p) (.tup (frzDs l))
        rw [frzDs_map]
        exact .tup upd_same (ia.mono (Same.up hp)) (by rw [Paired.length pr, ← rv.len]; exact zv)
    | _ =>
      refine ⟨_, (pss_cons (ps_if (pt_val (pe_cal C_is_list hr (by first | decide | omega) (by rfl) (pa_cons (pv 0) pa_nil))) pss_never pss_nil)
      (pss_one (ps_ret (pv 0)))), ?_⟩
      exact ⟨_, rfl, _, _, rfl, iv0, fun H1 s1 => ⟨_, rfl, iteF ⟨_, rfl, q _ H1 s1 (iv0.mono s1)⟩⟩⟩
end
end K07

set_option Elab.async false
set_option linter.all false
set_option maxRecDepth 100000
set_option maxHeartbeats 4000000
namespace Sr
open PySem PySem.Spec PyProof.Rows L2
/-! ### sets of None, numbers and texts in one: what is in them, no order -/
def leafV : Leaf → V
  | .none => .non
  | .num i => .int i
  | .text z => .str z
theorem leaf_is {P : Program} {w : World} {k : Leaf} {u : Value} (r : RelV (leafV k) u) : (leafKind P w).is k u = true := by
  cases k with
  | none => cases r; rfl
  | num i => obtain ⟨t, rfl⟩ := r; exact decide_eq_true rfl
  | text z => obtain ⟨t, rfl⟩ := r; show Value.isStrOf z (.str z t) = true; simp [Value.isStrOf]
theorem leaf_scan {k : Leaf} {u : Value} (r : RelV (leafV k) u) : u.scannable = true := by
  cases k with
  | none => cases r; rfl
  | num i => obtain ⟨t, rfl⟩ := r; rfl
  | text z => obtain ⟨t, rfl⟩ := r; rfl
def SetL (P : Program) (w : World) (p : Addr) (S : Leaf → Bool) (n : Nat) : HO := .ext fun g => g.SetOf (leafKind P w) p S n
section
variable {X : Cx} {o e : Expr} {es : List Expr} {to : TE} {t : TA} {apos cpos : Pos}
theorem setL_is {P : Program} {w : World} {H : Hp} {g : Heap} {p : Addr} {S : Leaf → Bool} {n : Nat} (x : g.SetOf (leafKind P w) p S n) : ObjOk P w H g p (SetL P w p S n) := by
  refine ⟨x, ?_, fun g1 g2 y k => ?_⟩
  · obtain ⟨ob, _, _, _, e1, _⟩ := x
    exact ⟨ob, e1⟩
  · obtain ⟨ob, a1, a2, a3, e1, r⟩ := y
    exact ⟨ob, a1, a2, a3, k ob e1, r⟩
/-- set() -/
theorem call_set0L : CallR X (.type "set") (fun xs H Q => xs = [] ∧ ∀ p, H p = none → Q (.ref p) (upd H p (SetL X.prog X.w p (fun _ => false) 0))) := by
  intro pins s σ H xs us Q I rv ⟨ex, q⟩
  subst ex
  cases rv
  refine setR_new fun _ => ⟨.ref _, upd H s.heap.objs.size (SetL X.prog X.w s.heap.objs.size (fun _ => false) 0), I.laid (t' := s.toks) (fun b u hb => Heap.get?_push_of_some _ hb) (Nat.le_refl _) (setL_is ?_), rfl, q _ (I.hok.fresh (Nat.le_refl _))⟩
  refine ⟨_, #[], 0, _, Heap.get?_push_size _ rfl, ⟨rfl, rfl, rfl⟩, rfl, ?_, ?_, ?_, ?_, ?_⟩
  · intro el m
    simp at m
  · intro k
    simp
  · decide
  · rfl
  · rfl
def rAddL (P : Program) (w : World) : V → List V → Hp → VK → Prop := fun x xs H Q => ∃ (p : Addr) (k : Leaf) (S : Leaf → Bool) (n : Nat), x = .ref p ∧ xs = [leafV k] ∧ H p = some (SetL P w p S n) ∧ n + 1 < scanBound ∧
  Q .non (upd H p (SetL P w p (fun j => S j || decide (j = k)) (if S k = true then n else n + 1)))
theorem mt_addL : MtR X "set.add" (rAddL X.prog X.w) := by
  rintro pins s σ H x xs v us Q I rx rxs ⟨p, k, S, n, rfl, rfl, hp, room, q⟩
  cases rx
  obtain ⟨u, rfl, ru⟩ := vals1 rxs
  have st := (I.hok p _ hp).1
  refine call_set_add (leaf_is ru) (leaf_scan ru) st room fun g sb new => ?_
  have th : ∃ ob, g.get? p = some ob := by
    obtain ⟨ob, _, _, _, e1, _⟩ := new
    exact ⟨ob, e1⟩
  refine ⟨.non, _, I.write (e := p) (o := SetL X.prog X.w p (fun j => S j || decide (j = k)) (if S k = true then n else n + 1)) (t' := s.toks + 1) (by rw [hp]; trivial) (.inl rfl) (fun b ob nb hb => ?_) th (setL_is new), rfl, q⟩
  rw [sb.2 b nb]
  exact hb
/-- found.add(x) -/
def tAddL (P : Program) (w : World) (to : TE) (t : TA) : TE := fun σ H Q => to σ H fun x H1 => (∃ p S n, x = .ref p ∧ H1 p = some (SetL P w p S n)) ∧ t σ H1 fun xs H2 => rAddL P w x xs H2 Q
theorem pe_addL (ho : PE X o to) (ha : PA X (e :: es) t) (hb : attributeBase o "add" X.env (eval o X.env) = eval o X.env := by rfl)
    (hf : ((backTo cpos (starEach (e :: es) X.env)).all (fun x => !x.1) && (backToKw cpos (keywordEach [] X.env)).all (fun x => x.1.isSome) && decide ((e :: es).length + ([] : List Keyword).length + (if ([] : List Keyword).isEmpty then 0 else 1) < 30)) = true := by rfl)
    (hl : (apos.endLine == cpos.line) = true := by rfl) (hs : starEach (e :: es) X.env = (false, eval e X.env) :: starEach es X.env := by rfl) (hp : (backTo cpos (starEach es X.env)).any (·.1) = false := by rfl) :
    PE X (.Call (.Attribute o "add" apos) (e :: es) [] cpos) (tAddL X.prog X.w to t) := by
  refine ⟨fun pins s σ H Q I h => wpAny_Call_method_late hb hf hl rfl (thn (ho.run pins s σ H _ I h) fun v s1 ⟨x, H1, I1, r1, ⟨p, S, n, ex, hk⟩, q1⟩ => ?_)⟩
  subst ex
  cases r1
  have st := (I1.hok p _ hk).1
  refine ⟨"set", "set.add", F.plainAttrs_set, F.slot_set_add, F.type_set_add, st.typeIs, st.noDict, ?_⟩
  have run := ha.run cpos pins s1 σ H1 _ I1 q1
  rw [hs] at run ⊢
  refine Calls.callWith_builtin (by show (false || (backTo cpos (starEach es X.env)).any (·.1)) = false; rw [hp] <;> rfl) (Calls.evalArgs_plain (thn run fun us s2 ⟨vs, H2, I2, r2, q2⟩ => ?_))
  exact mt_addL pins s2 σ H2 (.ref p) vs (.ref p) us Q I2 rfl r2 q2
/-- x in found -/
theorem op_inL : OpR X (compareOp .In) (fun x y H Q => ∃ (k : Leaf) (p : Addr) (S : Leaf → Bool) (n : Nat), x = leafV k ∧ y = .ref p ∧ H p = some (SetL X.prog X.w p S n) ∧ Q (.bl (S k)) H) := by
  rintro pins s σ H x y v u Q I rx ry ⟨k, p, S, n, rfl, rfl, hp, q⟩
  cases ry
  exact wpAny_inSet_of (leaf_is rx) (leaf_scan rx) (I.hok p _ hp).1 ⟨.bl (S k), H, I.tok _, rfl, q⟩
end
end Sr

set_option Elab.async false
set_option linter.all false
set_option maxRecDepth 100000
set_option maxHeartbeats 4000000
namespace K07
open PySem PySem.Spec PyProof.Rows L2 Sr
section
variable {P : Program} {w : World} {K : PySem.W.Frag} {mg : Str → Option Value} {base : Heap}
abbrev s_is_time : Stmt := top 7
theorem sc_is_time : FnScope ["thing"] ["thing"] (defScope s_is_time) := ⟨rfl, rfl, rfl, by decide +kernel, rfl, by decide +kernel, by decide +kernel⟩
def timeOk : Dt → Bool
  | .int i => decide (0 ≤ i) && decide (i ≤ 1000000)
  | _ => false
theorem c_is_time (T : Txt K mg) (D : Dfn K mg "is_time" s_is_time) (C_is_integer : Cal P w K mg base 1 "is_integer" ["thing"] (spB isInteger)) : Cal P w K mg base 2 "is_time" ["thing"] (spB timeOk) := by
  refine D.cal sc_is_time (fun _ _ _ _ _ _ us hl => match us, hl with | [_], _ => rfl) spB_len fun cdv A outer s H vs Q E hr h => ?_
  obtain ⟨v, d, rfl, hv, q⟩ := h
  refine ⟨_, (pss_one (ps_ret (pe_and (pe_cal C_is_integer hr (by first | decide | omega) (by rfl) (pa_cons (pv 0) pa_nil)) (pe_one (pe_chain op_le op_le pe_int (pv 0) (T.e_GREATEST (by rfl))))))), ?_⟩
  refine ⟨_, rfl, v, d, rfl, hv, fun H1 s1 => ⟨_, rfl, ?_⟩⟩
  have q1 : ∀ b, timeOk d = b → ∀ H', Same H1 H' → Q (.bl b) H' := fun b e H' s' => e ▸ q H' (s1.trans s')
  cases hv with
  | int i =>
    refine iteT ⟨_, rfl, _, _, rfl, rfl, _, rfl, ?_⟩
    by_cases h1 : (0 : Int) ≤ i
    · rw [decide_eq_true h1]
      refine iteT ⟨_, _, rfl, rfl, q1 _ ?_ _ (Same.refl _)⟩
      show (decide (0 ≤ i) && _) = _
      rw [decide_eq_true h1, Bool.true_and]
    · rw [decide_eq_false h1]
      refine iteF (q1 _ ?_ _ (Same.refl _))
      show (decide (0 ≤ i) && _) = _
      rw [decide_eq_false h1, Bool.false_and]
  | _ => exact iteF (q1 _ rfl _ (Same.refl _))

abbrev s_BadEvent___init__ : Stmt := inClass (top 27) 0
theorem sc_BadEvent___init__ : FnScope ["self", "time"] ["self", "time"] (defScope s_BadEvent___init__) := ⟨rfl, rfl, rfl, by decide +kernel, rfl, by decide +kernel, by decide +kernel⟩
theorem m_BadEvent (E : Err K (He.ga K "BadEvent") (He.fAd K ("BadEvent", some "__init__")) "time") (D : DfnM K "BadEvent" "__init__" "BadEvent.__init__" s_BadEvent___init__) :
    CalM P w K mg base CX0 1 (He.fAd K ("BadEvent", some "__init__")) ["self", "time"] (spErr K (He.ga K "BadEvent") "time") := by
  refine D.cal sc_BadEvent___init__ (fun _ _ _ _ _ _ us hl => match us, hl with | [_, _], _ => rfl) (fun vs H Q E' h => ?_) fun cdv A outer s H vs Q E' hr h => ?_
  · obtain ⟨a, v, rfl, _⟩ := h
    rfl
  obtain ⟨a, v, rfl, ha, q⟩ := h
  refine ⟨_, (pss_one (ps_ost (pv 0) (pv 1))), ?_⟩
  exact ⟨_, rfl, _, rfl, a, _, rfl, E.oex, E.no, .inl ⟨ha, q⟩⟩
theorem at_nat {xs : List V} {i : Nat} {u : V} (h : xs[i]? = some u) : atI xs (i : Int) = some u := by
  have hl := (List.getElem?_eq_some_iff.mp h).1
  unfold atI ixN
  simp [hl]
  exact (List.getElem?_eq_some_iff.mp h).2
def tolV : Option Str → V
  | some s => .str s
  | none => .non
def spName : Sp := fun vs H Q _ => ∃ (t : Addr) (e : Ev), vs = [.ref t] ∧ Is H (.ref t) e.dt ∧ Q (tolV e.told) H
/-- a right event's tuple -/
theorem ev_row {H : Hp} {t : Addr} {e : Ev} (i : Is H (.ref t) e.dt) : ∃ xs, H t = some (.tup xs) ∧ IsA H xs e.row := by
  cases i with
  | tup h r z => exact ⟨_, h, r⟩
abbrev s_name_told : Stmt := top 14
theorem sc_name_told : FnScope ["event"] ["event"] (defScope s_name_told) := ⟨rfl, rfl, rfl, by decide +kernel, rfl, by decide +kernel, by decide +kernel⟩
theorem c_name_told (T : Txt K mg) (D : Dfn K mg "name_told" s_name_told) : Cal P w K mg base 1 "name_told" ["event"] spName := by
  refine D.cal sc_name_told (fun _ _ _ _ _ _ us hl => match us, hl with | [_], _ => rfl) (fun vs H Q E h => ?_) fun cdv A outer s H vs Q E hr h => ?_
  · obtain ⟨t, e, rfl, _⟩ := h
    rfl
  obtain ⟨t, e, rfl, i, q⟩ := h
  obtain ⟨xs, ht, ia⟩ := ev_row i
  refine ⟨_, (pss_cons (ps_if (pt_cmpR op_eq (pe_ix ix_tup (pv 0) pe_int (fun _ _ => rfl)) pe_str (nomark _)) (pss_one (ps_ret (pe_ix ix_tup (pv 0) pe_int (fun _ _ => rfl)))) pss_nil)
      (pss_one (ps_ret pe_non))), ?_⟩
  cases e with
  | come n ws p h =>
    cases ia with
    | cons h1 r1 =>
      cases h1
      cases r1 with
      | cons h2 r2 =>
        cases h2
        refine ⟨_, rfl, t, _, _, _, rfl, rfl, SqT.of ht, at_nat (i := 0) rfl, rfl, ?_⟩
        rw [decide_eq_true rfl]
        exact ⟨_, rfl, iteT ⟨_, rfl, t, _, _, _, rfl, rfl, SqT.of ht, at_nat (i := 1) rfl, q⟩⟩
  | _ =>
    cases ia with
    | cons h1 r1 =>
      cases h1
      refine ⟨_, rfl, t, _, _, _, rfl, rfl, SqT.of ht, at_nat (i := 0) rfl, rfl, ?_⟩
      rw [decide_eq_false (by decide +kernel)]
      exact ⟨_, rfl, iteF q⟩
end
end K07

set_option Elab.async false
set_option linter.all false
set_option maxRecDepth 100000
set_option maxHeartbeats 4000000
namespace K07
open PySem PySem.Spec PyProof.Rows L2 Sr
def leafT : Option Str → Leaf
  | some s => .text s
  | none => .none
theorem leaf_tol (o : Option Str) : leafV (leafT o) = tolV o := by cases o <;> rfl
/-- what has been told, None among it -/
def seen (es : Es) : List Leaf := es.map fun p => leafT p.2.told
theorem seen_text {es : Es} {n : Str} : (.text n : Leaf) ∈ seen es ↔ n ∈ toldOf es := by
  unfold seen toldOf
  rw [List.mem_map, List.mem_filterMap]
  constructor
  · rintro ⟨p, mp, e⟩
    refine ⟨p, mp, ?_⟩
    cases h : p.2.told with
    | none => rw [h] at e; cases e
    | some s => rw [h] at e; cases e; rfl
  · rintro ⟨p, mp, e⟩
    exact ⟨p, mp, by rw [e]; rfl⟩
/-- the first event that tells a name again -/
def againAt (es : Es) (j : Nat) (t : Int) : Prop := ∃ e n, es[j]? = some (t, e) ∧ e.told = some n ∧ n ∈ toldOf (es.take j) ∧ ∀ (i : Nat) (p : Int × Ev), i < j → es[i]? = some p → ∀ n, p.2.told = some n → n ∉ toldOf (es.take i)
def spChk (K : PySem.W.Frag) : Sp := fun vs H Q E => ∃ (d : Addr) (kvs : List (Key × V)) (es : Es), vs = [.ref d] ∧ H d = some (.dK kvs) ∧ EvE H kvs es ∧ (es.map (·.1)).Nodup ∧ es.length ≤ 60 ∧
  (((∀ (i : Nat) (p : Int × Ev), es[i]? = some p → ∀ n, p.2.told = some n → n ∉ toldOf (es.take i)) ∧ ∀ H', Same H H' → Q .non H') ∨
   ∃ j t, againAt es j t ∧ ∀ H' e, (∀ b o, b ≠ d → H b = some o → H' b = some o) → H' e = none → E (.ref (He.ga K "BadEvent")) (some e) (upd H' e (.xd [("time", .int t)])))
section
variable {P : Program} {w : World} {K : PySem.W.Frag} {mg : Str → Option Value} {base : Heap}
abbrev s__check_names : Stmt := top 35
theorem sc__check_names : FnScope ["events", "told", "time", "name"] ["events"] (defScope s__check_names) := ⟨rfl, rfl, rfl, by decide +kernel, rfl, by decide +kernel, by decide +kernel⟩
theorem c__check_names (T : Txt K mg) (R : ErrAt P w K mg base "BadEvent" "time" "time") (D : Dfn K mg "_check_names" s__check_names) (C_name_told : Cal P w K mg base 1 "name_told" ["event"] spName) : CalE P w K mg base 3 "_check_names" ["events"] (spChk K) := by
  refine D.calE sc__check_names (fun _ _ _ _ _ _ us hl => match us, hl with | [_], _ => rfl) (fun vs H Q E h => ?_) fun cdv A outer s H vs Q E hr h => ?_
  · obtain ⟨d, kvs, es, rfl, _⟩ := h
    rfl
  obtain ⟨d, kvs, es, rfl, hd, he, ndt, le, h⟩ := h
  refine ⟨_, (pss_cons (ps_set (i := 1) sc__check_names.nd rfl (by first | exact Or.inl rfl | exact Or.inr rfl) (pe_callTy0 (T := "set") call_set0L (by rfl) T.set (by decide +kernel)))
      (pss_one (ps_lock (ps_for (L2.passes_of rfl) rfl (pi_keys (pv 0)) (pg_name (i := 2) sc__check_names.nd rfl (by first | exact Or.inl rfl | exact Or.inr rfl))
      (pss_cons (ps_set (i := 3) sc__check_names.nd rfl (by first | exact Or.inl rfl | exact Or.inr rfl) (pe_cal C_name_told hr (by first | decide | omega) (by rfl) (pa_cons (pe_dget (hu_of hr) (pv 0) (pv 2) (fun _ _ => rfl)) pa_nil)))
      (pss_cons (ps_if (PW.pt (pw_and (pt_cmpR op_notN (pv 3) pe_non (nomark _)) (pw_and1 (pt_cmpR op_inL (pv 3) (pv 1) (by rfl))))) (pss_one (ps_raise rfl (takes_of rfl rfl rfl rfl) (R.mk_ hr (by decide) (by rfl) (pa_cons (pv 2) pa_nil)))) pss_nil)
      (pss_one (ps_expr (pe_addL (pv 1) (pa_cons (pv 3) pa_nil)))))))))), ?_⟩
  refine ⟨rfl, fun p hp => ?_⟩
  have s0 := Same.up (H := H) (o := SetL P w p (fun _ => false) 0) hp
  have npd : p ≠ d := fun z => by rw [z, hd] at hp; cases hp
  have nk : (kvs.map (·.1)).Nodup := by
    rw [he.keys, show (es.map fun p => (Sum.inl p.1 : Key)) = (es.map (·.1)).map Sum.inl by rw [List.map_map]; rfl]
    exact List.pairwise_map.mpr (ndt.imp fun h z => h (Sum.inl.inj z))
  have kl : kvs.length = es.length := Paired.length he
  refine ⟨d, _, s0 _ _ hd, trivial, fun od => ⟨_, rfl, d, od, rfl, .inl ⟨kvs, upd_same, for_it walk_keys (fun i σ H' => (∃ v1 v2, σ = [some (.ref d), some (.ref p), v1, v2]) ∧ Same (upd H d (.frz od (.dK kvs))) H' ∧ (∃ n, H' p = some (SetL P w p (fun k => decide (k ∈ seen (es.take i))) n) ∧ n ≤ i) ∧ ∀ (k : Nat) (q : Int × Ev), k < i → es[k]? = some q → ∀ n, q.2.told = some n → n ∉ toldOf (es.take k)) ?_ ?_ ?_ ?_⟩⟩⟩
  · refine ⟨⟨_, _, rfl⟩, fun b o e => ?_, ⟨0, ?_, Nat.le_refl _⟩, fun k q lt => absurd lt (Nat.not_lt_zero _)⟩
    · by_cases c : b = d
      · rw [c, upd_same] at e ⊢
        exact e
      · rw [upd_ne c] at e ⊢
        exact s0 _ _ e
    · rw [upd_ne npd, upd_same]
      have : (fun k => decide (k ∈ seen (es.take 0))) = fun _ : Leaf => false := by
        funext k
        simp [seen]
      rw [this]
      rfl
  · intro i σ H' hi pp
    exact pp.2.1 _ _ upd_same
  · rintro i u σ H1 H2 hi ⟨⟨v1, v2, rfl⟩, s1, ⟨n, hpS, nle⟩, bf⟩ ⟨rfl, k, v, hk, rfl⟩
    have hi' : i < es.length := by omega
    have hes : es[i]? = some es[i] := List.getElem?_eq_getElem hi'
    obtain ⟨ek, Tt, ev, iv⟩ := Paired.at2 he hk hes
    have ek : k = Sum.inl es[i].1 := ek
    have ev : v = .ref Tt := ev
    subst ek ev
    have vv := val_nodup nk _ (List.mem_of_getElem? hk)
    have tp : Tups H H2 := (tups_set (o := .frz od (.dK kvs)) fun xs => by rw [hd]; intro z; cases z).trans (Tups.of s1)
    have iv2 := is_tups tp iv es[i].2.tups
    have fz := s1 _ _ upd_same
    refine ⟨_, rfl, _, rfl, d, .ref Tt, rfl, .inl ⟨kvs, Sum.inl es[i].1, .inr ⟨od, fz⟩, rfl, vv.symm⟩, Tt, es[i].2, rfl, iv2, ?_⟩
    have nxt : ∀ {Q' : Hp → Prop}, (∀ H', Same (upd H d (.frz od (.dK kvs))) H' → (∃ n, H' p = some (SetL P w p (fun k => decide (k ∈ seen (es.take (i + 1)))) n) ∧ n ≤ i + 1) → Q' H') →
        n + 1 < scanBound ∧ Q' (upd H2 p (SetL P w p (fun j => decide (j ∈ seen (es.take i)) || decide (j = leafT es[i].2.told)) (if decide (leafT es[i].2.told ∈ seen (es.take i)) = true then n else n + 1))) := fun {Q'} qq => by
      refine ⟨by have : scanBound = 4096 := rfl; omega, qq _ (fun b o e => ?_) ⟨(if decide (leafT es[i].2.told ∈ seen (es.take i)) = true then n else n + 1), ?_, by split <;> omega⟩⟩
      · have nb : b ≠ p := fun z => by
          rw [z, upd_ne npd] at e
          rw [hp] at e
          cases e
        rw [upd_ne nb]
        exact s1 _ _ e
      · rw [upd_same]
        congr 2
        funext j
        rw [List.take_add_one, hes]
        show _ = decide (j ∈ (es.take i ++ [es[i]]).map fun p => leafT p.2.told)
        rw [List.map_append, ← Bool.decide_or]
        congr 1
        rw [List.mem_append]
        simp [seen]
    cases hT : es[i].2.told with
    | none =>
      rw [hT] at nxt
      have bf2 : ∀ (k : Nat) (q : Int × Ev), k < i + 1 → es[k]? = some q → ∀ n, q.2.told = some n → n ∉ toldOf (es.take k) := fun k q lt hq n' hn' => by
        by_cases c : k = i
        · subst c
          rw [hes] at hq
          cases hq
          rw [hT] at hn'
          cases hn'
        · exact bf k q (by omega) hq n' hn'
      refine ⟨_, rfl, rfl, _, rfl, iteF ⟨_, rfl, ⟨p, _, _, rfl, hpS⟩, _, rfl, p, .none, _, n, rfl, rfl, hpS, ?_⟩⟩
      exact nxt fun H' s' hs => ⟨⟨_, _, rfl⟩, s', hs, bf2⟩
    | some z =>
      rw [hT] at nxt
      refine ⟨_, rfl, rfl, _, rfl, iteT ⟨_, rfl, _, rfl, .text z, p, _, n, rfl, rfl, hpS, _, rfl, ?_⟩⟩
      by_cases c : (.text z : Leaf) ∈ seen (es.take i)
      · rw [decide_eq_true c]
        have cn := seen_text.mp c
        rcases h with ⟨no, _⟩ | ⟨j, tt, ag, q⟩
        · exact absurd cn (no i _ hes z hT)
        · obtain ⟨e, n', hj, hn', hin, bfj⟩ := ag
          have ej : j = i := by
            rcases Nat.lt_trichotomy j i with lt | eq | gt
            · exact absurd hin (bf j _ lt hj n' hn')
            · exact eq
            · exact absurd cn (bfj i _ gt hes z hT)
          subst ej
          rw [hes] at hj
          have et : es[j] = (tt, e) := Option.some.inj hj
          refine iteT ⟨_, rfl, err_at fun e1 he1 => ?_⟩
          have := q H2 e1 (fun b o nb e2 => s1 _ _ (by rw [upd_ne nb]; exact e2)) he1
          rw [show kV (Sum.inl es[j].1) = V.int tt by rw [et]; rfl]
          exact this
      · rw [decide_eq_false c]
        have cn : z ∉ toldOf (es.take i) := fun m => c (seen_text.mpr m)
        have bf2 : ∀ (k : Nat) (q : Int × Ev), k < i + 1 → es[k]? = some q → ∀ n, q.2.told = some n → n ∉ toldOf (es.take k) := fun k q lt hq n' hn' => by
          by_cases c2 : k = i
          · subst c2
            rw [hes] at hq
            cases hq
            rw [hT] at hn'
            cases hn'
            exact cn
          · exact bf k q (by omega) hq n' hn'
        refine iteF ⟨_, rfl, ⟨p, _, _, rfl, hpS⟩, _, rfl, p, .text z, _, n, rfl, rfl, hpS, ?_⟩
        exact nxt fun H' s' hs => ⟨⟨_, _, rfl⟩, s', hs, bf2⟩
  · rintro σ H1 ⟨⟨v1, v2, rfl⟩, s1, hS, bf⟩
    rcases h with ⟨_, q⟩ | ⟨j, tt, ⟨e, n, hj, hn, hin, _⟩, _⟩
    · refine ⟨s1 _ _ upd_same, q _ fun b o e => ?_⟩
      by_cases c : b = d
      · rw [c] at e ⊢
        rw [hd] at e
        cases e
        exact upd_same
      · rw [upd_ne c]
        exact s1 _ _ (by rw [upd_ne c]; exact e)
    · have lt := (List.getElem?_eq_some_iff.mp hj).1
      exact absurd hin (bf j _ (by omega) hj n hn)
end
end K07

set_option Elab.async false
set_option linter.all false
set_option maxRecDepth 100000
set_option maxHeartbeats 4000000
namespace K07
open PySem PySem.Spec PyProof.Rows L2 Sr
/-! ### a dict comprehension with unlike keys of one name -/
def EntK (Rv : Key → V → Prop) (kvs : List (Key × V)) (ks : List Key) : Prop := Paired (fun kv k => kv.1 = k ∧ Rv k kv.2) kvs ks
theorem EntK.keys {Rv : Key → V → Prop} : ∀ {kvs : List (Key × V)} {ks : List Key}, EntK Rv kvs ks → kvs.map (·.1) = ks
  | _, _, .nil => rfl
  | _, _, .cons h r => by rw [List.map_cons, h.1, EntK.keys r]
theorem dc_keys {J : It} {n : Nat} {G : Hp → Prop} {Y : Nat → Hp → V → Hp → Prop} {At : Nat → V → Prop} (w : Walk J n G Y) (hy : ∀ i H x H', Y i H x H' → H' = H ∧ At i x) {tk tv : TE} {j : Nat} {σ : L2.St} {H : Hp} {D : Addr} {Qd : Hp → Prop}
    (ks : List Key) (hn : ks.length = n) (nd : ks.Nodup) (hz : n < sizeLine) (hD : H D = none) (hG : ∀ H', Same H H' → G H') (Rv : Hp → Key → V → Prop) (mono : ∀ H1 H2 k v, Same H1 H2 → Rv H1 k v → Rv H2 k v)
    (lay : ∀ H1 k v c c', H1 D = some (.dK c) → Rv H1 k v → Rv (upd H1 D (.dK c')) k v)
    (turn : ∀ (i : Nat) (x : V) (k : Key) (H1 : Hp) (R : V → V → Hp → Prop), i < n → At i x → ks[i]? = some k → Same H H1 → (∀ H2 z, Same H1 H2 → Rv H2 k z → R (kV k) z H2) → tk ((σ.set j none).set j (some x)) H1 fun y H2 => tv ((σ.set j none).set j (some x)) H2 fun z H3 => R y z H3)
    (fin : ∀ H' kvs, Same H H' → H' D = some (.dK kvs) → EntK (Rv H') kvs ks → Qd H') :
    ∃ W : Nat → Nat → Hp → Prop, (∃ m, W 0 m (upd H D (.dK []))) ∧ ∀ i m H, W i m H →
      (J.stop i H ∧ Qd H) ∨ (J.go i H ∧ ∃ Nx : Hp → Prop, (∀ H', Nx H' → ∃ m', m' < m ∧ W (i + 1) m' H') ∧ ∀ x H', J.yld i H x H' → (gName j) x (wipe σ [j]) H' fun σ2 H2 => wipe σ2 [j] = wipe σ [j] ∧ tYes σ2 H2 fun b H3 =>
        if b = true then tk σ2 H3 fun y H4 => tv σ2 H4 fun z H5 => ∃ kvs k, y = kV k ∧ H5 D = some (.dK kvs) ∧ kvs.length < sizeLine ∧ Nx (upd H5 D (.dK (putK kvs k z))) else Nx H3) := by
  have below : ∀ {H1 H2 : Hp} {o : HO}, Same H H1 → Same H1 H2 → Same H (upd H2 D o) := fun {H1 H2 o} a b c u e => by
    rw [upd_ne (ne_of_none e hD)]
    exact b _ _ (a _ _ e)
  refine ⟨fun i m H' => m = n - i ∧ i ≤ n ∧ Same H H' ∧ ∃ kvs, H' D = some (.dK kvs) ∧ EntK (Rv H') kvs (ks.take i), ⟨n, by simp, Nat.zero_le _, Same.up hD, [], upd_same, by rw [List.take_zero]; exact .nil⟩, ?_⟩
  rintro i m H1 ⟨rfl, hi, s1, kvs, hd, he⟩
  by_cases lt : i < n
  · refine .inr ⟨w.goes i H1 lt (hG _ s1), fun H' => i + 1 ≤ n ∧ Same H H' ∧ ∃ kvs, H' D = some (.dK kvs) ∧ EntK (Rv H') kvs (ks.take (i + 1)), fun H' p => ⟨n - (i + 1), by omega, rfl, p⟩, fun x H2 y => ?_⟩
    obtain ⟨rfl, hx⟩ := hy _ _ _ _ (w.yields i H1 x H2 lt (hG _ s1) y)
    refine ⟨?_, ?_⟩
    · show ((σ.set j none).set j (some x)).set j none = σ.set j none
      rw [List.set_set, List.set_set]
    · unfold tYes
      simp only [if_true]
      have hi' : i < ks.length := by omega
      refine turn i x ks[i] H2 _ lt hx (List.getElem?_eq_getElem hi') s1 fun H3 z s3 rv => ?_
      have hl : kvs.length = (ks.take i).length := Paired.length he
      rw [List.length_take] at hl
      have nm : ks[i] ∉ kvs.map (·.1) := fun q => by
        rw [he.keys] at q
        obtain ⟨a, ha, e⟩ := List.mem_take_iff_getElem.mp q
        exact (List.pairwise_iff_getElem.mp nd) a i (by omega) hi' (by omega) e
      refine ⟨kvs, ks[i], rfl, s3 _ _ hd, by omega, lt, below s1 s3, _, upd_same, ?_⟩
      rw [List.take_add_one, List.getElem?_eq_getElem hi', Sr.putK_new nm]
      have r1 : EntK (Rv (upd H3 D (.dK (kvs ++ [(ks[i], z)])))) kvs (ks.take i) := L2.Paired.mapP he fun s v r => ⟨r.1, lay _ _ _ _ _ (s3 _ _ hd) (mono _ _ _ _ s3 r.2)⟩
      exact Paired.snoc r1 ⟨rfl, lay _ _ _ _ _ (s3 _ _ hd) rv⟩
  · obtain rfl : i = n := by omega
    refine .inl ⟨w.stops H1 (hG _ s1), fin H1 kvs s1 hd ?_⟩
    rwa [← hn, List.take_length] at he
/-! ### things without dicts -/
mutual
def plain : Dt → Bool
  | .dic => false
  | .lst l => plains l
  | .tup l => plains l
  | _ => true
def plains : List Dt → Bool
  | [] => true
  | d :: r => plain d && plains r
end
def SeqsK (H H' : Hp) : Prop := ∀ b xs, (H b = some (.tup xs) → H' b = some (.tup xs)) ∧ (H b = some (.lst xs) → H' b = some (.lst xs))
theorem SeqsK.of {H H' : Hp} (s : Same H H') : SeqsK H H' := fun b xs => ⟨s _ _, s _ _⟩
theorem SeqsK.trans {H H' H'' : Hp} (a : SeqsK H H') (b : SeqsK H' H'') : SeqsK H H'' := fun c xs => ⟨fun e => (b c xs).1 ((a c xs).1 e), fun e => (b c xs).2 ((a c xs).2 e)⟩
theorem SeqsK.frz {H : Hp} {r : Addr} {kvs : List (Key × V)} {o : HO} (h : H r = some (.dK kvs)) : SeqsK H (upd H r o) := fun b xs =>
  ⟨fun e => by rw [upd_ne (ne_of e h (by intro z; cases z))]; exact e, fun e => by rw [upd_ne (ne_of e h (by intro z; cases z))]; exact e⟩
theorem SeqsK.ins {H : Hp} {r : Addr} {c dx : Addr} {fs : List (Str × V)} {o : HO} (h : H r = some (.ins c dx fs)) : SeqsK H (upd H r o) := fun b xs =>
  ⟨fun e => by rw [upd_ne (ne_of e h (by intro z; cases z))]; exact e, fun e => by rw [upd_ne (ne_of e h (by intro z; cases z))]; exact e⟩
mutual
theorem is_seqs {H H' : Hp} (k : SeqsK H H') : ∀ {v : V} {d : Dt}, Is H v d → plain d = true → Is H' v d
  | _, _, .non, _ => .non
  | _, _, .bl b, _ => .bl b
  | _, _, .int i, _ => .int i
  | _, _, .str s h, _ => .str s h
  | _, _, .tup h r z, p => .tup ((k _ _).1 h) (isA_seqs k r p) z
  | _, _, .lst h r z, p => .lst ((k _ _).2 h) (isA_seqs k r p) z
  | _, _, .dic _, p => by cases p
theorem isA_seqs {H H' : Hp} (k : SeqsK H H') : ∀ {vs : List V} {ds : List Dt}, IsA H vs ds → plains ds = true → IsA H' vs ds
  | _, _, .nil, _ => .nil
  | _, _, .cons h r, p => .cons (is_seqs k h (Bool.and_eq_true_iff.mp p).1) (isA_seqs k r (Bool.and_eq_true_iff.mp p).2)
end
mutual
theorem plain_of : ∀ {d : Dt}, tupD d = true → plain d = true
  | .non, _ => rfl
  | .bl _, _ => rfl
  | .int _, _ => rfl
  | .str _, _ => rfl
  | .lst _, p => by cases p
  | .dic, p => by cases p
  | .tup l, p => plains_of (l := l) p
theorem plains_of : ∀ {l : List Dt}, tupDs l = true → plains l = true
  | [], _ => rfl
  | d :: r, p => by
    have p := Bool.and_eq_true_iff.mp p
    exact Bool.and_eq_true_iff.mpr ⟨plain_of p.1, plains_of p.2⟩
end
/-- an office whose dict is not r -/
def OffX (K : PySem.W.Frag) (H : Hp) (r x : Addr) (ks : List Str) : Prop := ∃ dx d kvs, d ≠ r ∧ H x = some (.ins (He.ga K "Office") dx [("_ranks", .ref d)]) ∧ H d = some (.dK kvs) ∧ ∀ s : Str, (valV kvs (Sum.inr s)).isSome = decide (s ∈ ks)
theorem OffX.mono {K : PySem.W.Frag} {H H' : Hp} {r x : Addr} {ks : List Str} (e : Same H H') (o : OffX K H r x ks) : OffX K H' r x ks := by
  obtain ⟨dx, d, kvs, h0, h1, h2, h3⟩ := o
  exact ⟨dx, d, kvs, h0, e _ _ h1, e _ _ h2, h3⟩
theorem OffX.frz {K : PySem.W.Frag} {H H' : Hp} {r x : Addr} {ks : List Str} {kvs : List (Key × V)} {o : HO} (h : H r = some (.dK kvs)) (e : Same (upd H r o) H') (a : OffX K H r x ks) : OffAt K H' x ks := by
  obtain ⟨dx, d, kvs2, h0, h1, h2, h3⟩ := a
  exact ⟨dx, d, kvs2, e _ _ (by rw [upd_ne (ne_of h1 h (by intro z; cases z))]; exact h1), e _ _ (by rw [upd_ne h0]; exact h2), h3⟩
theorem sorted_eq : ∀ {xs ys : List Int}, xs.Perm ys → xs.Pairwise (· ≤ ·) → ys.Pairwise (· ≤ ·) → xs = ys
  | [], ys, p, _, _ => (List.nil_perm.mp p).symm ▸ rfl
  | x :: xs, [], p, _, _ => absurd p.length_eq (by simp)
  | x :: xs, y :: ys, p, hx, hy => by
    rw [List.pairwise_cons] at hx hy
    have exy : x = y := by
      have a : x ∈ y :: ys := p.mem_iff.mp (List.mem_cons_self ..)
      have b : y ∈ x :: xs := p.mem_iff.mpr (List.mem_cons_self ..)
      rcases List.mem_cons.mp a with a | a
      · exact a
      · rcases List.mem_cons.mp b with b | b
        · exact b.symm
        · exact Int.le_antisymm (hx.1 _ b) (hy.1 _ a)
    subst exy
    rw [sorted_eq (List.Perm.cons_inv p) hx.2 hy.2]
theorem Ev.plain (e : Ev) : plain e.dt = true := plain_of e.tups
/-! ### courses as data -/
def EvL (ks : List Str) (H : Hp) (kvs : List (Key × V)) (es : Es) : Prop := Paired (fun kv (p : Int × Ev) => kv.1 = Sum.inl p.1 ∧ ∃ d, Is H kv.2 d ∧ plain d = true ∧ frzD d = p.2.dt ∧ Dep 2 d ∧ evOk ks d = true) kvs es
theorem EvL.mono {ks : List Str} {H H' : Hp} (e : Same H H') {kvs : List (Key × V)} {es : Es} (h : EvL ks H kvs es) : EvL ks H' kvs es := L2.Paired.mapP h fun kv p ⟨a, d, i, r⟩ => ⟨a, d, i.mono e, r⟩
theorem map_inj {es : Es} (nd : (es.map (·.1)).Nodup) {p q : Int × Ev} (hp : p ∈ es) (hq : q ∈ es) (e : p.1 = q.1) : p = q := by
  induction es with
  | nil => cases hp
  | cons a l ih =>
    rw [List.map_cons, List.nodup_cons] at nd
    rcases List.mem_cons.mp hp with ep | mp
    · rcases List.mem_cons.mp hq with eq | mq
      · rw [ep, eq]
      · exact absurd (by rw [← ep, e]; exact List.mem_map_of_mem mq) nd.1
    · rcases List.mem_cons.mp hq with eq | mq
      · exact absurd (by rw [← eq, ← e]; exact List.mem_map_of_mem mp) nd.1
      · exact ih nd.2 mp mq
theorem Ev.ref {H : Hp} {v : V} {e : Ev} (i : Is H v e.dt) : ∃ T, v = .ref T := by
  cases e <;> (cases i with | tup h r z => exact ⟨_, rfl⟩)
theorem EvL.keys {ks : List Str} {H : Hp} : ∀ {kvs : List (Key × V)} {es : Es}, EvL ks H kvs es → kvs.map (·.1) = es.map fun p => (Sum.inl p.1 : Key)
  | _, _, .nil => rfl
  | _, _, .cons h r => by rw [List.map_cons, List.map_cons, h.1, EvL.keys r]
theorem evE_of {H : Hp} {Rv : Key → V → Prop} : ∀ {es : Es} {kvs : List (Key × V)}, (∀ q ∈ es, ∀ v, Rv (Sum.inl q.1) v → ∃ T, v = .ref T ∧ Is H (.ref T) q.2.dt) → EntK Rv kvs (es.map fun p => (Sum.inl p.1 : Key)) → EvE H kvs es
  | [], _, _, e => by cases e; exact .nil
  | q :: es, _, h, e => by
    cases e with
    | cons h1 r =>
      obtain ⟨T, e1, e2⟩ := h q (List.mem_cons_self ..) _ h1.2
      exact .cons ⟨h1.1, T, e1, e2⟩ (evE_of (fun q' m => h q' (List.mem_cons_of_mem _ m)) r)
theorem EvL.at_ {ks : List Str} {H : Hp} {kvs : List (Key × V)} {es : Es} (h : EvL ks H kvs es) (nd : (es.map (·.1)).Nodup) {q : Int × Ev} (m : q ∈ es) : ∃ v, valV kvs (Sum.inl q.1) = some v ∧ ∃ d, Is H v d ∧ K07.plain d = true ∧ frzD d = q.2.dt ∧ Dep 2 d ∧ evOk ks d = true := by
  obtain ⟨i, hi⟩ := List.mem_iff_getElem?.mp m
  have lt := (List.getElem?_eq_some_iff.mp hi).1
  have hl : kvs.length = es.length := Paired.length h
  have hk : kvs[i]? = some kvs[i] := List.getElem?_eq_getElem (by omega)
  obtain ⟨ek, r⟩ := Paired.at2 h hk hi
  have nk : (kvs.map (·.1)).Nodup := by
    rw [h.keys, show (es.map fun p => (Sum.inl p.1 : Key)) = (es.map (·.1)).map Sum.inl by rw [List.map_map]; rfl]
    exact List.pairwise_map.mpr (nd.imp fun h z => h (Sum.inl.inj z))
  exact ⟨_, ek ▸ val_nodup nk _ (List.mem_of_getElem? hk), r⟩
def CouR (K : PySem.W.Frag) (H : Hp) (x off : Addr) (es : Es) : Prop := ∃ dx d kvs, H x = some (.ins (He.ga K "Course") dx [("office", .ref off), ("_events", .ref d)]) ∧ H d = some (.dK kvs) ∧ EvE H kvs es
theorem CouR.mono {K : PySem.W.Frag} {H H' : Hp} {x off : Addr} {es : Es} (e : Same H H') (c : CouR K H x off es) : CouR K H' x off es := by
  obtain ⟨dx, d, kvs, h1, h2, h3⟩ := c
  exact ⟨dx, d, kvs, e _ _ h1, e _ _ h2, h3.keep (Tups.of e)⟩
structure Cou (K : PySem.W.Frag) (mg : Str → Option Value) : Prop where
  cl : Cls K (He.ga K "Course")
  nO : NoAttr K (He.ga K "Course") "office"
  nE : NoAttr K (He.ga K "Course") "_events"
/-- the times of es are right and unlike -/
def timesOk (es : Es) : Prop := (∀ p ∈ es, 0 ≤ p.1 ∧ p.1 ≤ 1000000) ∧ (es.map (·.1)).Nodup ∧ es.length ≤ 60
def freshNames (es : Es) : Prop := ∀ (i : Nat) (p : Int × Ev), es[i]? = some p → ∀ n, p.2.told = some n → n ∉ toldOf (es.take i)
/-- an entry of what is no course -/
def entC (H : Hp) (p : KV3) (k d : Dt) : Prop := Is H p.2.1 k ∧ Is H p.2.2 d
def spCInit (K : PySem.W.Frag) (w : World) : Sp := fun vs H Q E => ∃ x off v H0 dx ks, vs = [.ref x, .ref off, v] ∧ Same H0 H ∧ H0 x = none ∧ H x = some (.ins (He.ga K "Course") dx []) ∧ OffAt K H off ks ∧
  ((∃ r kvs es es', v = .ref r ∧ H0 r = some (.dK kvs) ∧ OffX K H r off ks ∧ EvL ks H kvs es ∧ timesOk es ∧ es'.Perm es ∧ (es'.Pairwise fun p q => p.1 < q.1) ∧
      ((freshNames es' ∧ ∀ H', Same H0 H' → CouR K H' x off es' → Q .non H') ∨ ∃ j t, againAt es' j t ∧ ∀ H' e, Same H0 H' → H' e = none → E (.ref (He.ga K "BadEvent")) (some e) (upd H' e (.xd [("time", .int t)])))) ∨
   (∃ r kvs es j t u, v = .ref r ∧ H0 r = some (.dK kvs) ∧ OffX K H r off ks ∧ EvL ks H (kvs.take j) es ∧ (∀ p ∈ es, 0 ≤ p.1 ∧ p.1 ≤ 1000000) ∧ (kvs.map (·.1)).Nodup ∧ kvs[j]? = some (Sum.inl t, u) ∧ 0 ≤ t ∧ t ≤ 1000000 ∧ (∃ d, Is H u d ∧ plain d = true ∧ evOk ks d = false) ∧
      ∀ H' e, (∀ b o, b ≠ r → H0 b = some o → H' b = some o) → H' e = none → E (.ref (He.ga K "BadEvent")) (some e) (upd H' e (.xd [("time", .int t)]))) ∨
   (∃ d kvs j p, v = .ref d ∧ MixAt w H d kvs ∧ kvs[j]? = some p ∧ (∀ (i : Nat) (q : KV3), i < j → kvs[i]? = some q → ∃ k u, entC H q k u ∧ timeOk k = true ∧ evOk ks u = true) ∧ (∃ k u, entC H p k u ∧ (timeOk k && evOk ks u) = false) ∧
      ∀ H' e, Same H0 H' → H' e = none → E (.ref (He.ga K "BadEvent")) (some e) (upd H' e (.xd [("time", p.2.1)]))) ∨
   (∃ d, Is H v d ∧ d ≠ .dic ∧ ∀ H' e, Same H0 H' → H' e = none → E (.ref (He.ga K "BadEvent")) (some e) (upd H' e (.xd [("time", v)]))))
section
variable {P : Program} {w : World} {K : PySem.W.Frag} {mg : Str → Option Value} {base : Heap}
abbrev s_Course___init__ : Stmt := inClass (top 34) 0
theorem sc_Course___init__ : FnScope ["self", "office", "events", "time"] ["self", "office", "events"] (defScope s_Course___init__) := ⟨rfl, rfl, rfl, by decide +kernel, rfl, by decide +kernel, by decide +kernel⟩
theorem m_cinit (T : Txt K mg) (O : Cou K mg) (R : ErrAt P w K mg base "BadEvent" "time" "time") (D : DfnM K "Course" "__init__" "Course.__init__" s_Course___init__) (C_is_time : Cal P w K mg base 2 "is_time" ["thing"] (spB timeOk)) (C_is_event : Cal P w K mg base 4 "is_event" ["office", "thing"] (spO K evOk))
    (C_frozen : Cal P w K mg base 4 "frozen" ["thing"] (spFrz 2)) (C_check_names : CalE P w K mg base 3 "_check_names" ["events"] (spChk K)) :
    CalM P w K mg base (L2.CX P w) 5 (He.fAd K ("Course", some "__init__")) ["self", "office", "events"] (spCInit K w) := by
  refine D.calE sc_Course___init__ (fun _ _ _ _ _ _ us hl => match us, hl with | [_, _, _], _ => rfl) (fun vs H Q E h => ?_) fun cdv A outer s H vs Q E hr h => ?_
  · obtain ⟨x, off, v, H0, dx, ks, rfl, _⟩ := h
    rfl
  obtain ⟨x, off, v, H0, dx, ks, rfl, s0, x0, hx, ho, h⟩ := h
  rcases h with ⟨r, kvs, es, es', rfl, hr0, hx0, he, ⟨tok, tnd, hz⟩, pm, asc, h⟩ | ⟨r, kvs, es, j, t, u, rfl, hr0, hx0, he, tok, knd, hj, t0, t6, ⟨du, iu, pu, bad⟩, q⟩ | ⟨d, kvs, j, p, rfl, mx, hj, before, ⟨kd, ud, ⟨ik, iu⟩, bad⟩, q⟩ | ⟨d, hv, nd, q⟩
  · refine ⟨_, (pss_cons (ps_if (pt_not (pt_val (pe_callB (id := "isinstance") call_isi (by rfl) T.isinstance (by decide +kernel) (pa_cons (pv 2) (pa_cons (pe_tyv (n := "dict") (by rfl) T.dict (by decide +kernel)) pa_nil))))) (pss_one (ps_raise rfl (takes_of rfl rfl rfl rfl) (R.mk_ hr (by decide) (by rfl) (pa_cons (pv 2) pa_nil)))) pss_nil)
      (pss_cons (ps_lock (ps_for (L2.passes_of rfl) rfl (pi_keys (pv 2)) (pg_name (i := 3) sc_Course___init__.nd rfl (by first | exact Or.inl rfl | exact Or.inr rfl))
      (pss_one (ps_if (PW.pt (pw_or (pt_not (pt_val (pe_cal C_is_time hr (by first | decide | omega) (by rfl) (pa_cons (pv 3) pa_nil)))) (pw_or1 (pt_not (pt_val (pe_cal C_is_event hr (by first | decide | omega) (by rfl) (pa_cons (pv 1) (pa_cons (pe_dget (hu_of hr) (pv 2) (pv 3) (fun _ _ => rfl)) pa_nil)))))))) (pss_one (ps_raise rfl (takes_of rfl rfl rfl rfl) (R.mk_ hr (by decide) (by rfl) (pa_cons (pv 3) pa_nil)))) pss_nil))))
      (pss_cons (ps_fld (pv 0) (pv 1) rfl)
      (pss_cons (ps_fld (pv 0) (pe_dc (own := [("time", 3)]) (g := gName 3) (tt := tYes) rfl sc_Course___init__.nd (pi_list (pe_callB (id := "sorted") (call_sortedDI rfl) (by rfl) T.sorted (by decide +kernel) (pa_cons (pv 2) pa_nil))) (blkOk_by (N := ["self", "office", "events", "time"]) (sc := defScope s_Course___init__) (by decide +kernel)) (fun _ _ _ _ _ => (pg_name (i := 3) sc_Course___init__.nd rfl (by first | exact Or.inl rfl | exact Or.inr rfl))) (fun _ _ _ _ _ => pts_nil) (fun _ _ _ _ _ => (pv 3)) (fun _ _ _ _ _ => (pe_cal C_frozen hr (by first | decide | omega) (by rfl) (pa_cons (pe_dget (hu_of hr) (pv 2) (pv 3) (fun _ _ => rfl)) pa_nil)))) rfl)
      (pss_one (ps_expr (pe_calE C_check_names hr (by first | decide | omega) (by rfl) (passes_def rfl rfl rfl rfl) (pa_cons (pe_fld (pv 0) rfl) pa_nil)))))))), ?_⟩
    have hd := s0 _ _ hr0
    have nrx : x ≠ r := ne_of hx hd (by intro z; cases z)
    have kl : kvs.length = es.length := Paired.length he
    have nk : (kvs.map (·.1)).Nodup := by
      rw [he.keys, show (es.map fun p => (Sum.inl p.1 : Key)) = (es.map (·.1)).map Sum.inl by rw [List.map_map]; rfl]
      exact List.pairwise_map.mpr (tnd.imp fun h z => h (Sum.inl.inj z))
    refine ⟨_, rfl, _, _, _, _, _, rfl, .ty _, .base (.dK hd), kit_ty (show kitB "dict" "dict" = some true by decide +kernel), _, rfl, iteF ?_⟩
    have fz : ∀ od, ∀ b o, b ≠ r → H b = some o → (upd H r (.frz od (.dK kvs))) b = some o := fun od b o hb e => by rw [upd_ne hb]; exact e
    refine ⟨r, _, hd, trivial, fun od => ⟨_, rfl, r, od, rfl, .inl ⟨kvs, upd_same, for_it walk_keys (fun i σ H' => (∃ v, σ = [some (.ref x), some (.ref off), some (.ref r), v]) ∧ Same (upd H r (.frz od (.dK kvs))) H') ⟨⟨_, rfl⟩, Same.refl _⟩ (fun i σ H' hi p => p.2 _ _ upd_same) ?_ ?_⟩⟩⟩
    · rintro i u σ H1 H2 hi ⟨⟨v, rfl⟩, s1⟩ ⟨rfl, k, v, hk, rfl⟩
      have hi' : i < es.length := by omega
      have hes : es[i]? = some es[i] := List.getElem?_eq_getElem hi'
      obtain ⟨ek, dv, iv, pl, fv, dp, ok⟩ := Paired.at2 he hk hes
      have ek : k = Sum.inl es[i].1 := ek
      subst ek
      have vv := val_nodup nk _ (List.mem_of_getElem? hk)
      obtain ⟨g0, g6⟩ := tok _ (List.mem_of_getElem? hes)
      refine ⟨_, rfl, .int es[i].1, .int es[i].1, rfl, .int _, fun H2 s2 => ⟨_, rfl, ?_⟩⟩
      rw [show timeOk (.int es[i].1) = true by simp [timeOk, g0, g6]]
      have s12 := s1.trans s2
      refine iteF ⟨_, rfl, _, rfl, _, rfl, r, v, rfl, .inl ⟨kvs, Sum.inl es[i].1, .inr ⟨od, s12 _ _ upd_same⟩, rfl, vv.symm⟩, off, v, ks, dv, rfl, hx0.frz hd s12, is_seqs ((SeqsK.frz hd).trans (SeqsK.of s12)) iv pl, fun H3 s3 => ⟨_, rfl, ?_⟩⟩
      rw [ok]
      exact iteF ⟨⟨_, rfl⟩, s12.trans s3⟩
    · rintro σ H1 ⟨⟨v, rfl⟩, s1⟩
      refine ⟨s1 _ _ upd_same, ?_⟩
      have sH : Same H (upd H1 r (.dK kvs)) := fun b o e => by
        by_cases hb : b = r
        · rw [hb] at e ⊢
          rw [hd] at e
          cases e
          exact upd_same
        · rw [upd_ne hb]
          exact s1 _ _ (fz od b o hb e)
      have dr : (upd H1 r (.dK kvs)) r = some (.dK kvs) := upd_same
      refine ⟨_, rfl, _, rfl, x, _, dx, [], rfl, sH _ _ hx, O.cl, O.nO, by decide, ?_⟩
      have d2 : (upd (upd H1 r (.dK kvs)) x (.ins (He.ga K "Course") dx [("office", .ref off)])) r = some (.dK kvs) := by rw [upd_ne nrx.symm]; exact dr
      refine ⟨_, rfl, r, kvs, es.map (·.1), rfl, .inl d2, ?_, ?_, fun ys p perm srt hp => ?_⟩
      · rw [he.keys, List.map_map]; rfl
      · rw [List.length_map]; omega
      · have eys : ys = es'.map (·.1) := sorted_eq (perm.trans (pm.map _).symm) srt (List.pairwise_map.mpr (asc.imp fun h => Int.le_of_lt h))
        subst eys
        have zl : es'.length = es.length := pm.length_eq
        have nd' : (es'.map (·.1)).Nodup := perm.nodup_iff.mpr tnd
        refine ⟨p, rfl, ⟨_, SqL.of upd_same⟩, fun D hD => dc_keys walk_list walk_at (es'.map fun p => (Sum.inl p.1 : Key)) (by rw [List.length_map, List.length_map, List.length_map]) (by
            rw [show (es'.map fun p => (Sum.inl p.1 : Key)) = (es'.map (·.1)).map Sum.inl by rw [List.map_map]; rfl]
            exact List.pairwise_map.mpr (nd'.imp fun h z => h (Sum.inl.inj z))) (sz (m := 60) (by rw [List.length_map, List.length_map]; omega)) hD (fun H' s' => SqL.of (s' _ _ upd_same))
          (fun H' k v => ∀ q ∈ es', k = Sum.inl q.1 → ∃ T, v = .ref T ∧ Is H' (.ref T) q.2.dt) (fun _ _ _ _ e h q mq ek => ?_) (fun _ _ _ _ _ e h q mq ek => ?_)
          (fun i u y H2 R hi hu hy s2 k => ?_) (fun H2 kvs2 s2 h2 e2 => ?_)⟩
        · obtain ⟨T, e1, e2⟩ := h q mq ek
          exact ⟨T, e1, e2.mono e⟩
        · obtain ⟨T, e1, e2⟩ := h q mq ek
          exact ⟨T, e1, is_seqs (SeqsK.frz e) e2 q.2.plain⟩
        · rw [List.getElem?_map, List.getElem?_map] at hu
          rw [List.getElem?_map] at hy
          obtain ⟨q, hq, ey⟩ := Option.map_eq_some_iff.mp hy
          rw [hq] at hu
          obtain rfl : V.int q.1 = u := Option.some.inj hu
          subst ey
          have mq : q ∈ es' := List.mem_of_getElem? hq
          obtain ⟨v, ev, dv, iv, pl, fv, dp, ok⟩ := he.at_ tnd (pm.mem_iff.mp mq)
          have s3 := (Same.up hp).trans s2
          have k3 : SeqsK H H2 := ((SeqsK.of sH).trans (SeqsK.ins (sH _ _ hx))).trans (SeqsK.of s3)
          refine ⟨_, rfl, _, rfl, _, rfl, r, v, rfl, .inl ⟨kvs, Sum.inl q.1, .inl (s3 _ _ d2), rfl, ev.symm⟩, v, dv, rfl, is_seqs k3 iv pl, dp, fun z H3 s4 iz => k H3 z s4 fun q' mq' eq' => ?_⟩
          have e1 : q.1 = q'.1 := Sum.inl.inj eq'
          obtain rfl : q = q' := map_inj nd' mq mq' e1
          rw [fv] at iz
          obtain ⟨T, rfl⟩ := Ev.ref iz
          exact ⟨T, rfl, iz⟩
        · have s3 := (Same.up hp).trans s2
          have hx2 := s3 _ _ (show (upd (upd H1 r (.dK kvs)) x (.ins (He.ga K "Course") dx [("office", .ref off)])) x = _ from upd_same)
          refine ⟨_, rfl, x, _, dx, [("office", .ref off)], rfl, hx2, O.cl, O.nE, (by show 1 < 1000; decide), ?_⟩
          have nDx : D ≠ x := ne_of h2 hx2 (by intro z; cases z)
          have hD2 : (upd (upd H1 r (.dK kvs)) x (.ins (He.ga K "Course") dx [("office", .ref off)])) D = none := by
            by_cases c : D = p
            · rw [c]; exact hp
            · rw [upd_ne c] at hD; exact hD
          have up0 : ∀ b o, H0 b = some o → b ≠ D ∧ (upd H2 x (.ins (He.ga K "Course") dx (putF "_events" (.ref D) [("office", .ref off)]))) b = some o := fun b o e => by
            have nbx : b ≠ x := fun z => by rw [z, x0] at e; cases e
            have e1 : (upd (upd H1 r (.dK kvs)) x (.ins (He.ga K "Course") dx [("office", .ref off)])) b = some o := by
              rw [upd_ne nbx]
              exact sH _ _ (s0 _ _ e)
            refine ⟨fun z => ?_, ?_⟩
            · rw [z, hD2] at e1
              cases e1
            · rw [upd_ne nbx]
              exact s3 _ _ e1
          have ev : EvE (upd H2 x (.ins (He.ga K "Course") dx (putF "_events" (.ref D) [("office", .ref off)]))) kvs2 es' := evE_of (fun q mq v rv => by
            obtain ⟨T, e1, e2⟩ := rv q mq rfl
            exact ⟨T, e1, is_seqs (SeqsK.ins hx2) e2 q.2.plain⟩) e2
          refine ⟨_, rfl, x, _, dx, _, .ref D, rfl, upd_same, O.cl, O.nE, rfl, D, kvs2, es', rfl, by rw [upd_ne nDx]; exact h2, ev, nd', by omega, ?_⟩
          rcases h with ⟨fr, q⟩ | ⟨j, t, ag, q⟩
          · exact .inl ⟨fr, fun H' s' => q H' (fun b o e => s' _ _ (up0 b o e).2) ⟨dx, D, kvs2, s' _ _ upd_same, s' _ _ (by rw [upd_ne nDx]; exact h2), ev.keep (Tups.of s')⟩⟩
          · exact .inr ⟨j, t, ag, fun H' e keep he => q H' e (fun b o hb => keep b o (up0 b o hb).1 (up0 b o hb).2) he⟩
  · refine ⟨_, (pss_cons (ps_if (pt_not (pt_val (pe_callB (id := "isinstance") call_isi (by rfl) T.isinstance (by decide +kernel) (pa_cons (pv 2) (pa_cons (pe_tyv (n := "dict") (by rfl) T.dict (by decide +kernel)) pa_nil))))) (pss_one (ps_raise rfl (takes_of rfl rfl rfl rfl) (R.mk_ hr (by decide) (by rfl) (pa_cons (pv 2) pa_nil)))) pss_nil)
      (pss_cons (ps_lock (ps_for (L2.passes_of rfl) rfl (pi_keys (pv 2)) (pg_name (i := 3) sc_Course___init__.nd rfl (by first | exact Or.inl rfl | exact Or.inr rfl))
      (pss_one (ps_if (PW.pt (pw_or (pt_not (pt_val (pe_cal C_is_time hr (by first | decide | omega) (by rfl) (pa_cons (pv 3) pa_nil)))) (pw_or1 (pt_not (pt_val (pe_cal C_is_event hr (by first | decide | omega) (by rfl) (pa_cons (pv 1) (pa_cons (pe_dget (hu_of hr) (pv 2) (pv 3) (fun _ _ => rfl)) pa_nil)))))))) (pss_one (ps_raise rfl (takes_of rfl rfl rfl rfl) (R.mk_ hr (by decide) (by rfl) (pa_cons (pv 3) pa_nil)))) pss_nil))))
      (pss_cons (ps_fld (pv 0) (pv 1) rfl)
      (pss_cons (ps_fld (pv 0) (pe_dc (own := [("time", 3)]) (g := gName 3) (tt := tYes) rfl sc_Course___init__.nd (pi_list (pe_callB (id := "sorted") (call_sortedDI rfl) (by rfl) T.sorted (by decide +kernel) (pa_cons (pv 2) pa_nil))) (blkOk_by (N := ["self", "office", "events", "time"]) (sc := defScope s_Course___init__) (by decide +kernel)) (fun _ _ _ _ _ => (pg_name (i := 3) sc_Course___init__.nd rfl (by first | exact Or.inl rfl | exact Or.inr rfl))) (fun _ _ _ _ _ => pts_nil) (fun _ _ _ _ _ => (pv 3)) (fun _ _ _ _ _ => (pe_cal C_frozen hr (by first | decide | omega) (by rfl) (pa_cons (pe_dget (hu_of hr) (pv 2) (pv 3) (fun _ _ => rfl)) pa_nil)))) rfl)
      (pss_one (ps_expr (pe_calE C_check_names hr (by first | decide | omega) (by rfl) (passes_def rfl rfl rfl rfl) (pa_cons (pe_fld (pv 0) rfl) pa_nil)))))))), ?_⟩
    have hd := s0 _ _ hr0
    have lt := (List.getElem?_eq_some_iff.mp hj).1
    refine ⟨_, rfl, _, _, _, _, _, rfl, .ty _, .base (.dK hd), kit_ty (show kitB "dict" "dict" = some true by decide +kernel), _, rfl, iteF ?_⟩
    have fz : ∀ od, ∀ b o, b ≠ r → H b = some o → (upd H r (.frz od (.dK kvs))) b = some o := fun od b o hb e => by rw [upd_ne hb]; exact e
    refine ⟨r, _, hd, trivial, fun od => ⟨_, rfl, r, od, rfl, .inl ⟨kvs, upd_same, for_it walk_keys (fun i σ H' => (∃ v, σ = [some (.ref x), some (.ref off), some (.ref r), v]) ∧ Same (upd H r (.frz od (.dK kvs))) H' ∧ i ≤ j) ⟨⟨_, rfl⟩, Same.refl _, Nat.zero_le _⟩ (fun i σ H' hi p => p.2.1 _ _ upd_same) ?_ ?_⟩⟩⟩
    · rintro i u' σ H1 H2 hi ⟨⟨v, rfl⟩, s1, ij⟩ ⟨rfl, k, v, hk, rfl⟩
      have vv := val_nodup knd _ (List.mem_of_getElem? hk)
      by_cases c : i = j
      · subst c
        rw [hj] at hk
        obtain ⟨rfl, rfl⟩ := Prod.mk.inj (Option.some.inj hk)
        refine ⟨_, rfl, .int t, .int t, rfl, .int _, fun H2 s2 => ⟨_, rfl, ?_⟩⟩
        rw [show timeOk (.int t) = true by simp [timeOk, t0, t6]]
        have s12 := s1.trans s2
        refine iteF ⟨_, rfl, _, rfl, _, rfl, r, u, rfl, .inl ⟨kvs, Sum.inl t, .inr ⟨od, s12 _ _ upd_same⟩, rfl, vv.symm⟩, off, u, ks, du, rfl, hx0.frz hd s12, is_seqs ((SeqsK.frz hd).trans (SeqsK.of s12)) iu pu, fun H3 s3 => ⟨_, rfl, ?_⟩⟩
        rw [bad]
        exact iteT ⟨_, rfl, err_at fun e he0 => q H3 e (fun b o nb hb => (s12.trans s3) _ _ (fz od b o nb (s0 _ _ hb))) he0⟩
      · have hk2 : (kvs.take j)[i]? = some (k, v) := by rw [List.getElem?_take_of_lt (by omega)]; exact hk
        have hl : (kvs.take j).length = es.length := Paired.length he
        have hi' : i < es.length := by
          have := (List.getElem?_eq_some_iff.mp hk2).1
          omega
        have hes : es[i]? = some es[i] := List.getElem?_eq_getElem hi'
        obtain ⟨ek, dv, iv, pl, fv, dp, ok⟩ := Paired.at2 he hk2 hes
        have ek : k = Sum.inl es[i].1 := ek
        subst ek
        obtain ⟨g0, g6⟩ := tok _ (List.mem_of_getElem? hes)
        refine ⟨_, rfl, .int es[i].1, .int es[i].1, rfl, .int _, fun H2 s2 => ⟨_, rfl, ?_⟩⟩
        rw [show timeOk (.int es[i].1) = true by simp [timeOk, g0, g6]]
        have s12 := s1.trans s2
        refine iteF ⟨_, rfl, _, rfl, _, rfl, r, v, rfl, .inl ⟨kvs, Sum.inl es[i].1, .inr ⟨od, s12 _ _ upd_same⟩, rfl, vv.symm⟩, off, v, ks, dv, rfl, hx0.frz hd s12, is_seqs ((SeqsK.frz hd).trans (SeqsK.of s12)) iv pl, fun H3 s3 => ⟨_, rfl, ?_⟩⟩
        rw [ok]
        exact iteF ⟨⟨_, rfl⟩, s12.trans s3, by omega⟩
    · rintro σ H1 ⟨_, _, le⟩
      omega
  · refine ⟨_, (pss_cons (ps_if (pt_not (pt_val (pe_callB (id := "isinstance") call_isiM (by rfl) T.isinstance (by decide +kernel) (pa_cons (pv 2) (pa_cons (pe_tyv (n := "dict") (by rfl) T.dict (by decide +kernel)) pa_nil))))) (pss_one (ps_raise rfl (takes_of rfl rfl rfl rfl) (R.mk_ hr (by decide) (by rfl) (pa_cons (pv 2) pa_nil)))) pss_nil)
      (pss_cons (ps_for (L2.passes_of rfl) rfl (pi_mix (pv 2)) (pg_name (i := 3) sc_Course___init__.nd rfl (by first | exact Or.inl rfl | exact Or.inr rfl))
      (pss_one (ps_if (PW.pt (pw_or (pt_not (pt_val (pe_cal C_is_time hr (by first | decide | omega) (by rfl) (pa_cons (pv 3) pa_nil)))) (pw_or1 (pt_not (pt_val (pe_cal C_is_event hr (by first | decide | omega) (by rfl) (pa_cons (pv 1) (pa_cons (pe_ix (ix_mixK hr.units) (pv 2) (pv 3) (fun _ _ => rfl)) pa_nil)))))))) (pss_one (ps_raise rfl (takes_of rfl rfl rfl rfl) (R.mk_ hr (by decide) (by rfl) (pa_cons (pv 3) pa_nil)))) pss_nil)))
      (pss_cons (ps_fld (pv 0) (pv 1) rfl)
      (pss_cons (ps_fld (pv 0) (pe_dc (own := [("time", 3)]) (g := gName 3) (tt := tYes) rfl sc_Course___init__.nd (pi_list (pe_callB (id := "sorted") (call_sortedDI rfl) (by rfl) T.sorted (by decide +kernel) (pa_cons (pv 2) pa_nil))) (blkOk_by (N := ["self", "office", "events", "time"]) (sc := defScope s_Course___init__) (by decide +kernel)) (fun _ _ _ _ _ => (pg_name (i := 3) sc_Course___init__.nd rfl (by first | exact Or.inl rfl | exact Or.inr rfl))) (fun _ _ _ _ _ => pts_nil) (fun _ _ _ _ _ => (pv 3)) (fun _ _ _ _ _ => (pe_cal C_frozen hr (by first | decide | omega) (by rfl) (pa_cons (pe_dget (hu_of hr) (pv 2) (pv 3) (fun _ _ => rfl)) pa_nil)))) rfl)
      (pss_one (ps_expr (pe_calE C_check_names hr (by first | decide | omega) (by rfl) (passes_def rfl rfl rfl rfl) (pa_cons (pe_fld (pv 0) rfl) pa_nil)))))))), ?_⟩
    have lt := (List.getElem?_eq_some_iff.mp hj).1
    refine ⟨_, rfl, d, kvs, rfl, mx, _, rfl, iteF ⟨_, rfl, d, kvs, rfl, mx, fun es ep hd me => ?_⟩⟩
    refine for_it walk_mix (fun i σ H' => (∃ v, σ = [some (.ref x), some (.ref off), some (.ref d), v]) ∧ Same H H' ∧ i ≤ j) ⟨⟨_, rfl⟩, Same.refl _, Nat.zero_le _⟩ (fun i σ H' hi p => ⟨p.2.1 _ _ hd, me.mono p.2.1⟩) ?_ ?_
    · rintro i u σ H1 H2 hi ⟨⟨v, rfl⟩, s1, ij⟩ ⟨rfl, hu⟩
      obtain ⟨g, hg⟩ : ∃ g, kvs[i]? = some g := ⟨kvs[i], List.getElem?_eq_getElem hi⟩
      rw [List.getElem?_map, hg] at hu
      obtain rfl : g.2.1 = u := Option.some.inj hu
      by_cases c : i = j
      · subst c
        rw [hj] at hg
        cases hg
        refine ⟨_, rfl, _, kd, rfl, ik.mono s1, fun H2 s2 => ⟨_, rfl, ?_⟩⟩
        cases nk : timeOk kd with
        | false => exact iteT ⟨_, rfl, err_at fun e he => q _ e (s0.trans (s1.trans s2)) he⟩
        | true =>
          have rb : evOk ks ud = false := by rw [nk, Bool.true_and] at bad; exact bad
          have s12 := s1.trans s2
          refine iteF ⟨_, rfl, _, rfl, _, rfl, d, kvs, i, p, rfl, rfl, mx.mono s12, hj, off, _, ks, ud, rfl, ho.mono s12, iu.mono s12, fun H3 s3 => ⟨_, rfl, ?_⟩⟩
          rw [rb]
          exact iteT ⟨_, rfl, err_at fun e he => q _ e (s0.trans (s12.trans s3)) he⟩
      · obtain ⟨k, ud', ⟨ik', iu'⟩, nk, ro⟩ := before i g (by omega) hg
        refine ⟨_, rfl, _, k, rfl, ik'.mono s1, fun H2 s2 => ⟨_, rfl, ?_⟩⟩
        rw [nk]
        have s12 := s1.trans s2
        refine iteF ⟨_, rfl, _, rfl, _, rfl, d, kvs, i, g, rfl, rfl, mx.mono s12, hg, off, _, ks, ud', rfl, ho.mono s12, iu'.mono s12, fun H3 s3 => ⟨_, rfl, ?_⟩⟩
        rw [ro]
        exact iteF ⟨⟨_, rfl⟩, s12.trans s3, by omega⟩
    · rintro σ H1 ⟨_, _, le⟩
      omega
  · refine ⟨_, (pss_cons (ps_if (pt_not (pt_val (pe_callB (id := "isinstance") call_isi (by rfl) T.isinstance (by decide +kernel) (pa_cons (pv 2) (pa_cons (pe_tyv (n := "dict") (by rfl) T.dict (by decide +kernel)) pa_nil))))) (pss_one (ps_raise rfl (takes_of rfl rfl rfl rfl) (R.mk_ hr (by decide) (by rfl) (pa_cons (pv 2) pa_nil)))) pss_nil)
      (pss_cons (ps_lock (ps_for (L2.passes_of rfl) rfl (pi_keys (pv 2)) (pg_name (i := 3) sc_Course___init__.nd rfl (by first | exact Or.inl rfl | exact Or.inr rfl))
      (pss_one (ps_if (PW.pt (pw_or (pt_not (pt_val (pe_cal C_is_time hr (by first | decide | omega) (by rfl) (pa_cons (pv 3) pa_nil)))) (pw_or1 (pt_not (pt_val (pe_cal C_is_event hr (by first | decide | omega) (by rfl) (pa_cons (pv 1) (pa_cons (pe_dget (hu_of hr) (pv 2) (pv 3) (fun _ _ => rfl)) pa_nil)))))))) (pss_one (ps_raise rfl (takes_of rfl rfl rfl rfl) (R.mk_ hr (by decide) (by rfl) (pa_cons (pv 3) pa_nil)))) pss_nil))))
      (pss_cons (ps_fld (pv 0) (pv 1) rfl)
      (pss_cons (ps_fld (pv 0) (pe_dc (own := [("time", 3)]) (g := gName 3) (tt := tYes) rfl sc_Course___init__.nd (pi_list (pe_callB (id := "sorted") (call_sortedDI rfl) (by rfl) T.sorted (by decide +kernel) (pa_cons (pv 2) pa_nil))) (blkOk_by (N := ["self", "office", "events", "time"]) (sc := defScope s_Course___init__) (by decide +kernel)) (fun _ _ _ _ _ => (pg_name (i := 3) sc_Course___init__.nd rfl (by first | exact Or.inl rfl | exact Or.inr rfl))) (fun _ _ _ _ _ => pts_nil) (fun _ _ _ _ _ => (pv 3)) (fun _ _ _ _ _ => (pe_cal C_frozen hr (by first | decide | omega) (by rfl) (pa_cons (pe_dget (hu_of hr) (pv 2) (pv 3) (fun _ _ => rfl)) pa_nil)))) rfl)
      (pss_one (ps_expr (pe_calE C_check_names hr (by first | decide | omega) (by rfl) (passes_def rfl rfl rfl rfl) (pa_cons (pe_fld (pv 0) rfl) pa_nil)))))))), ?_⟩
    have kd : PySem.W.kitOne K (.type (tyN d)) (.type "dict") = some false := by
      cases d with
      | non => exact kit_ty (show kitB "NoneType" "dict" = some false by decide +kernel)
      | bl b => exact kit_ty (show kitB "bool" "dict" = some false by decide +kernel)
      | int i => exact kit_ty (show kitB "int" "dict" = some false by decide +kernel)
      | str s => exact kit_ty (show kitB "str" "dict" = some false by decide +kernel)
      | lst l => exact kit_ty (show kitB "list" "dict" = some false by decide +kernel)
      | tup l => exact kit_ty (show kitB "tuple" "dict" = some false by decide +kernel)
      | dic => exact absurd rfl nd
    exact ⟨_, rfl, v, _, _, _, _, rfl, .ty _, hv.ty, kd, _, rfl, iteT ⟨_, rfl, err_at fun e he => q H e s0 he⟩⟩
end
end K07

set_option Elab.async false
set_option linter.all false
set_option maxRecDepth 100000
set_option maxHeartbeats 4000000
namespace Sr
open PySem PySem.Spec PyProof.Rows L2
/-! ### methods, len, ==, != of an instance, from CalM -/
theorem m0_ {X : Cx} {k j : Nat} {C f : Addr} {ps : List Str} {sp : Sp} {m : Str} {o : Expr} {ta : TE} {p apos : Pos} {pl : Sem Bool} (M : CalM X.prog X.w X.K X.mg X.base CX0 k f ps sp) (hr : Room j X.A) (hk : k ≤ j) (c : Cls X.K C) (hm : Meth X.K C m f) (he : PE X o ta)
    (ht : eval (.Call (.Attribute o m apos) [] [] p) X.env = (do
      let ov ← eval o X.env
      standAt apos.atName
      let (f, first) ← holding [ov] (getMethod ov m pl)
      callWith p f first (backTo p (starEach [] X.env)) (backToKw p (keywordEach [] X.env))) := by rfl) : PE X (.Call (.Attribute o m apos) [] [] p) (tMeth C m sp [] E0 ta tNil) := by
  obtain ⟨fd, F, kp, hb⟩ := M.ex
  exact pe_meth0 he c hm F (hr.mono hk) hb .nil pass0 ht
theorem mE_ {X : Cx} {K : PySem.W.Frag} {k j : Nat} {C f : Addr} {ps : List Str} {sp : Sp} {m : Str} {o e : Expr} {es : List Expr} {ta : TE} {t : TA} {p apos : Pos} {pl : Sem Bool} {E : XK} (M : CalM X.prog X.w K X.mg X.base (L2.CX X.prog X.w) k f ps sp) (hK : X.K = K) (hr : Room j X.A) (hk : k ≤ j) (c : Cls K C) (hm : Meth K C m f) (hx : Passes (L2.CX X.prog X.w) X E) (he : PE X o ta) (ha : PA X (e :: es) t)
    (hst : starEach (e :: es) X.env = (false, eval e X.env) :: starEach es X.env := by rfl) (hpl : (backTo p (starEach es X.env)).any (·.1) = false := by rfl)
    (ht : eval (.Call (.Attribute o m apos) (e :: es) [] p) X.env = (do
      let ov ← eval o X.env
      standAt apos.atName
      let (f, first) ← holding [ov] (getMethod ov m pl)
      callWith p f first (backTo p (starEach (e :: es) X.env)) (backToKw p (keywordEach [] X.env))) := by rfl) : PE X (.Call (.Attribute o m apos) (e :: es) [] p) (tMeth C m sp [] E ta t) := by
  subst hK
  obtain ⟨fd, F, kp, hb⟩ := M.ex
  exact pe_meth he c hm F (hr.mono hk) hb .nil hx ha hst hpl ht
theorem len_ {X : Cx} {k j : Nat} {C f : Addr} {ps : List Str} {sp : Sp} (M : CalM X.prog X.w X.K X.mg X.base CX0 k f ps sp) (hr : Room j X.A) (hk : k + 1 ≤ j) (hs : PySem.W.findIn X.K (.ref C) "__len__" = some (some (.ref f))) (hf : PySem.W.typeIn X.K (.ref f) = some (.type "function")) : CallR X (.builtin "len") (rLenIns C sp E0) := by
  obtain ⟨fd, F, kp, hb⟩ := M.ex
  exact call_lenIns F (hr.mono hk) hb pass0 hs hf
theorem eq_ {X : Cx} {K : PySem.W.Frag} {k j : Nat} {C f : Addr} {ps : List Str} {sp : Sp} (M : CalM X.prog X.w K X.mg X.base CX0 k f ps sp) (hK : X.K = K) (hr : Room j X.A) (hk : k ≤ j) (hs : PySem.W.findIn K (.ref C) "__eq__" = some (some (.ref f))) (hf : PySem.W.isFn K (.ref f) = true) :
    OpR X (compareOp .Eq) (rEqIns2 K C sp E0) := by
  subst hK
  obtain ⟨fd, F, kp, hb⟩ := M.ex
  exact op_eqIns2 F (hr.mono hk) hb pass0 hs hf
theorem ne_ {X : Cx} {k j : Nat} {C f : Addr} {ps : List Str} {sp : Sp} (M : CalM X.prog X.w X.K X.mg X.base CX0 k f ps sp) (hr : Room j X.A) (hk : k + 1 ≤ j) (hs : PySem.W.findIn X.K (.ref C) "__eq__" = some (some (.ref f))) (hf : PySem.W.isFn X.K (.ref f) = true)
    (hne : PySem.W.findIn X.K (.ref C) "__ne__" = some (some (.builtin "object.__ne__"))) (hm : PySem.W.mroIn X.K C (.type "object") = some true) : OpR X (compareOp .NotEq) (rNeIns X.K C sp E0) := by
  obtain ⟨fd, F, kp, hb⟩ := M.ex
  exact op_neIns F (hr.mono hk) hb pass0 hs hf hne hm
end Sr

set_option Elab.async false
set_option linter.all false
set_option maxRecDepth 100000
set_option maxHeartbeats 4000000
namespace K07
open PySem PySem.Spec PyProof.Rows L2 Sr
/-! ### tuples as keys -/
mutual
def nk : Dt → NestedKey
  | .non => .none
  | .bl b => .num (if b = true then 1 else 0)
  | .int i => .num i
  | .str s => .text s
  | .tup l => .tup (nks l)
  | .lst _ => .none
  | .dic => .none
def nks : List Dt → List NestedKey
  | [] => []
  | d :: r => nk d :: nks r
end
mutual
theorem is_nested {P : Program} {w : World} {H : Hp} {h : Heap} (ok : HOk P w H h) : ∀ {v : V} {d : Dt} {u : Value}, Is H v d → tupD d = true → RelV v u → NestedIs h (nk d) u
  | _, _, _, .non, _, r => by subst r; exact .none
  | _, _, _, .bl b, _, r => by subst r; exact .bool rfl
  | _, _, _, .int i, _, r => by obtain ⟨t, rfl⟩ := r; exact .int i t
  | _, _, _, .str s _, _, r => by obtain ⟨t, rfl⟩ := r; exact .text s t
  | _, _, _, .tup hq ia z, p, r => by
    subst r
    obtain ⟨_, its, rv, o, e, c, n, d⟩ := ok _ _ hq
    exact .tup e c d (isA_nested ok ia p (by simpa using rv))
  | _, _, _, .lst _ _ _, p, _ => by cases p
  | _, _, _, .dic _, p, _ => by cases p
theorem isA_nested {P : Program} {w : World} {H : Hp} {h : Heap} (ok : HOk P w H h) : ∀ {vs : List V} {ds : List Dt} {us : List Value}, IsA H vs ds → tupDs ds = true → Vals vs us → NestedAll h (nks ds) us
  | _, _, _, .nil, _, r => by cases r; exact .nil
  | _, _, us, .cons h1 h2, p, r => by
    cases us with
    | nil => cases r
    | cons u us =>
      cases r with
      | cons r1 r2 => exact .cons (is_nested ok h1 (Bool.and_eq_true_iff.mp p).1 r1) (isA_nested ok h2 (Bool.and_eq_true_iff.mp p).2 r2)
end
theorem nks_texts (ws : List Str) : nks (ws.map Dt.str) = ws.map NestedKey.text := by
  induction ws with
  | nil => rfl
  | cons w r ih => show nk (.str w) :: nks (r.map Dt.str) = _; rw [ih]; rfl
theorem nk_wsD (ws : List Str) : nk (wsD ws) = .tup (ws.map NestedKey.text) := by
  show NestedKey.tup (nks (ws.map Dt.str)) = _
  rw [nks_texts]
theorem text_depth (ws : List Str) : (NestedKey.tup (ws.map NestedKey.text)).depth = 1 := by rw [NestedKey.depth, depth_texts]
theorem nk_deep (e : Ev) : (nk e.dt).depth ≤ 8 := by
  cases e with
  | come n ws p h =>
    show (NestedKey.tup [.text (Str.ofString "come"), .text n, nk (wsD ws), .num p, nk (homeD h)]).depth ≤ 8
    rw [nk_wsD]
    have : (nk (homeD h)).depth = 0 := by cases h <;> rfl
    simp [NestedKey.depth, NestedKey.depthAll, depth_texts, this]
  | change n ws =>
    show (NestedKey.tup [.text (Str.ofString "change"), .text n, nk (wsD ws)]).depth ≤ 8
    rw [nk_wsD]
    simp [NestedKey.depth, NestedKey.depthAll, depth_texts]
  | _ => exact Nat.le_of_ble_eq_true rfl
theorem home_inj : ∀ {a b : Option Str}, nk (homeD a) = nk (homeD b) → a = b
  | none, none, _ => rfl
  | none, some _, h => by cases h
  | some _, none, h => by cases h
  | some x, some y, h => by
    have h : NestedKey.text x = NestedKey.text y := h
    injection h with h
    rw [h]
def hdK : NestedKey → NestedKey
  | .tup (k :: _) => k
  | _ => .none
def Ev.word : Ev → Str
  | .come .. => "come"
  | .place _ => "place"
  | .leave _ => "leave"
  | .withdraw _ => "withdraw"
  | .change .. => "change"
  | .gather => "gather"
  | .round => "round"
theorem hd_word (e : Ev) : hdK (nk e.dt) = .text e.word := by cases e <;> rfl
theorem texts_inj (a b : List Str) (h : nk (wsD a) = nk (wsD b)) : a = b := by
  rw [nk_wsD, nk_wsD] at h
  exact text_inj (NestedKey.tup.inj h)
theorem nk_inj {a b : Ev} (h : nk a.dt = nk b.dt) : a = b := by
  have hw : a.word = b.word := by
    have := congrArg hdK h
    rw [hd_word, hd_word] at this
    exact NestedKey.text.inj this
  cases a <;> cases b <;> first
    | rfl
    | exact absurd hw (by simp only [Ev.word]; decide +kernel)
    | skip
  case come.come n ws p h1 n' ws' p' h2 =>
    have h : NestedKey.tup [.text (Str.ofString "come"), .text n, nk (wsD ws), .num p, nk (homeD h1)] = NestedKey.tup [.text (Str.ofString "come"), .text n', nk (wsD ws'), .num p', nk (homeD h2)] := h
    have h := NestedKey.tup.inj h
    simp only [List.cons.injEq, NestedKey.text.injEq, NestedKey.num.injEq, true_and, and_true] at h
    obtain ⟨rfl, e1, rfl, e2⟩ := h
    rw [texts_inj _ _ e1, home_inj e2]
  case place.place k k' =>
    have h : NestedKey.tup [.text (Str.ofString "place"), .text k] = NestedKey.tup [.text (Str.ofString "place"), .text k'] := h
    have h := NestedKey.tup.inj h
    simp only [List.cons.injEq, NestedKey.text.injEq, true_and, and_true] at h
    rw [h]
  case leave.leave k k' =>
    have h : NestedKey.tup [.text (Str.ofString "leave"), .text k] = NestedKey.tup [.text (Str.ofString "leave"), .text k'] := h
    have h := NestedKey.tup.inj h
    simp only [List.cons.injEq, NestedKey.text.injEq, true_and, and_true] at h
    rw [h]
  case withdraw.withdraw k k' =>
    have h : NestedKey.tup [.text (Str.ofString "withdraw"), .text k] = NestedKey.tup [.text (Str.ofString "withdraw"), .text k'] := h
    have h := NestedKey.tup.inj h
    simp only [List.cons.injEq, NestedKey.text.injEq, true_and, and_true] at h
    rw [h]
  case change.change n ws n' ws' =>
    have h : NestedKey.tup [.text (Str.ofString "change"), .text n, nk (wsD ws)] = NestedKey.tup [.text (Str.ofString "change"), .text n', nk (wsD ws')] := h
    have h := NestedKey.tup.inj h
    simp only [List.cons.injEq, NestedKey.text.injEq, true_and, and_true] at h
    obtain ⟨rfl, e1⟩ := h
    rw [texts_inj _ _ e1]
def evAt : Es → Int → Option Ev
  | [], _ => none
  | p :: r, t => if p.1 = t then some p.2 else evAt r t
theorem evAt_some {es : Es} {t : Int} : (evAt es t).isSome = decide (t ∈ es.map (·.1)) := by
  induction es with
  | nil => rfl
  | cons p r ih =>
    unfold evAt
    by_cases c : p.1 = t
    · rw [if_pos c, ← c]
      simp
    · rw [if_neg c, ih, List.map_cons]
      refine decide_eq_decide.mpr ⟨fun m => List.mem_cons_of_mem _ m, fun m => ?_⟩
      rcases List.mem_cons.mp m with e | m
      · exact absurd e.symm c
      · exact m
theorem EvE.val {H : Hp} : ∀ {kvs : List (Key × V)} {es : Es}, EvE H kvs es → ∀ t, (∃ e T, evAt es t = some e ∧ valV kvs (Sum.inl t) = some (.ref T) ∧ Is H (.ref T) e.dt) ∨ (evAt es t = none ∧ valV kvs (Sum.inl t) = none)
  | _, _, .nil, t => .inr ⟨rfl, rfl⟩
  | _, _, .cons (a := kv) (b := p) h r, t => by
    obtain ⟨hk, T, hv, hi⟩ := h
    unfold evAt valV
    rw [List.find?_cons, hk]
    by_cases c : p.1 = t
    · rw [if_pos c, decide_eq_true (by rw [c])]
      exact .inl ⟨p.2, T, rfl, by rw [Option.map_some, hv], hi⟩
    · rw [if_neg c, decide_eq_false fun z => c (Sum.inl.inj z)]
      exact EvE.val r t
/-! ### == of the dicts of two courses -/
def sameC (es es' : Es) : Bool := es.length == es'.length && es.all fun p => decide (p.1 ∈ es'.map (·.1)) && decide (evAt es p.1 = evAt es' p.1)
def rEqEv : R2 := fun x y H Q => ∃ a b ks ls es es', x = .ref a ∧ y = .ref b ∧ H a = some (.dK ks) ∧ H b = some (.dK ls) ∧ EvE H ks es ∧ EvE H ls es' ∧ (es.map (·.1)).Nodup ∧ Q (.bl (sameC es es')) H
theorem op_eqEv {X : Cx} (hu : X.A.units + 64 < cLine) : OpR X (compareOp .Eq) rEqEv := by
  intro pins s σ H x y v u Q I rx ry h
  obtain ⟨a, b, ks, ls, rs, rs', rfl, rfl, ea, eb, ra, rb, na, q⟩ := h
  cases rx
  cases ry
  obtain ⟨_, ya, va, ka, da⟩ := (show ObjOk X.prog X.w H s.heap a (.dK ks) from I.hok a _ ea)
  obtain ⟨_, yb, vb, kb, db⟩ := (show ObjOk X.prog X.w H s.heap b (.dK ls) from I.hok b _ eb)
  have ek : va.map (·.1) = rs.map fun p => (Sum.inl p.1 : Key) := by rw [← ka.keys, ra.keys]
  let e : Key → Bool := fun k => match k with
    | .inl z => decide (evAt rs z = evAt rs' z)
    | .inr _ => false
  have ndk : (va.map (·.1)).Nodup := by
    rw [ek, show (rs.map fun p => (Sum.inl p.1 : Key)) = (rs.map (·.1)).map Sum.inl by rw [List.map_map]; rfl]
    exact List.pairwise_map.mpr (na.imp fun h z => h (Sum.inl.inj z))
  refine PySem.W.eq_dictsT (knd := mixKind X.prog X.w) (e := e) (n := 8) ya yb da db (fun k v y hm hv => ?_) (by omega) (fin_bl I q ?_)
  · have mk : k ∈ va.map (·.1) := List.mem_map.mpr ⟨_, hm, rfl⟩
    rw [ek] at mk
    obtain ⟨p, mp, rfl⟩ := List.mem_map.mp mk
    have hvv : valueAt va (Sum.inl p.1) = some v := valueAt_of_mem ndk hm
    have r1 := ka.val (Sum.inl p.1)
    rw [hvv] at r1
    have r2 := kb.val (Sum.inl p.1)
    rw [hv] at r2
    obtain ⟨e1, T1, a1, b1, c1⟩ := (ra.val p.1).resolve_right fun z => by rw [z.2] at r1; exact r1.elim
    obtain ⟨e2, T2, a2, b2, c2⟩ := (rb.val p.1).resolve_right fun z => by rw [z.2] at r2; exact r2.elim
    rw [b1] at r1
    rw [b2] at r2
    have n1 := is_nested I.hok c1 e1.tups r1
    have n2 := is_nested I.hok c2 e2.tups r2
    have d1 := nk_deep e1
    have eb : e (Sum.inl p.1) = NestedKey.beq (nk e1.dt) (nk e2.dt) := by
      rw [← NestedKey.decide_eq]
      show decide (evAt rs p.1 = evAt rs' p.1) = _
      rw [a1, a2]
      by_cases c : e1 = e2
      · rw [c, decide_eq_true rfl, decide_eq_true rfl]
      · rw [decide_eq_false fun z => c (Option.some.inj z), decide_eq_false fun z => c (nk_inj z)]
    show PySem.W.EqTree X.prog X.w s 8 v y (e (Sum.inl p.1))
    rw [eb]
    exact .leaf fun A hA => eqAt_key _ _ A s v y n1 n2 (by omega)
  · have l1 : va.length = rs.length := by
      have := congrArg List.length ek
      rwa [List.length_map, List.length_map] at this
    have l2 : vb.length = rs'.length := by
      have := congrArg List.length (show vb.map (·.1) = _ by rw [← kb.keys, rb.keys])
      rwa [List.length_map, List.length_map] at this
    unfold sameC
    rw [l1, l2]
    congr 1
    rw [all_keys (fun k : Key => (valueAt vb k).isSome && e k), ek, List.all_map]
    refine List.all_congr rfl fun p => ?_
    show _ = ((valueAt vb (Sum.inl p.1)).isSome && decide (evAt rs p.1 = evAt rs' p.1))
    rw [← (kb.val (Sum.inl p.1)).isSome_eq, ← evAt_some]
    congr 1
    rcases rb.val p.1 with ⟨e2, T2, a2, b2, _⟩ | ⟨a2, b2⟩
    · rw [a2, b2]; rfl
    · rw [a2, b2]; rfl
end K07

set_option Elab.async false
set_option linter.all false
set_option maxRecDepth 100000
set_option maxHeartbeats 4000000
namespace K07
open PySem PySem.Spec PyProof.Rows L2 Sr
/-! ### the methods of Course -/
structure CoN (K : PySem.W.Frag) (mg : Str → Option Value) : Prop where
  nm : mg "Course" = some (.ref (He.ga K "Course"))
  ca : PySem.W.findIn K (.ref (He.ga K "Course")) "__class__" = some (some (.builtin "object.__class__"))
  cm : PySem.W.mroIn K (He.ga K "Course") (.type "object") = some true
  yes : PySem.W.kitOne K (.ref (He.ga K "Course")) (.ref (He.ga K "Course")) = some true
  noN : PySem.W.kitOne K (.type "NoneType") (.ref (He.ga K "Course")) = some false
  noD : PySem.W.kitOne K (.type "dict") (.ref (He.ga K "Course")) = some false
  noO : PySem.W.kitOne K (.ref (He.ga K "Office")) (.ref (He.ga K "Course")) = some false
  first : PySem.W.notFirst K (He.ga K "Course") (.ref (He.ga K "Office")) = true
theorem CoN.e {X : Cx} {p : Pos} (N : CoN X.K X.mg) (h : Gl X "Course" := by rfl) : PE X (.Name "Course" p) (tC (.ref (He.ga X.K "Course"))) := pe_glob h N.nm rfl
/-- what is no course -/
def OddC (K : PySem.W.Frag) (H : Hp) (y : V) : Prop := y = .non ∨ (∃ b kvs, y = .ref b ∧ H b = some (.dK kvs)) ∨ ∃ b rs, y = .ref b ∧ OffR K H b rs
theorem OddC.mono {K : PySem.W.Frag} {H H' : Hp} (e : Same H H') {y : V} (h : OddC K H y) : OddC K H' y := by
  rcases h with h | ⟨b, kvs, rfl, h⟩ | ⟨b, rs, rfl, h⟩
  · exact .inl h
  · exact .inr (.inl ⟨b, kvs, rfl, e _ _ h⟩)
  · exact .inr (.inr ⟨b, rs, rfl, h.mono e⟩)
theorem OddC.no {K : PySem.W.Frag} {mg : Str → Option Value} (N : CoN K mg) (M : OfN K mg) (O : Off K mg) {H : Hp} {y : V} (h : OddC K H y) : ∃ t, TyX K H y t ∧ PySem.W.kitOne K t (.ref (He.ga K "Course")) = some false := by
  rcases h with rfl | ⟨b, kvs, rfl, h⟩ | ⟨b, rs, rfl, dx, d, kvs, h, _⟩
  · exact ⟨_, .base .non, N.noN⟩
  · exact ⟨_, .base (.dK h), N.noD⟩
  · exact ⟨_, .base (.ins h O.cl M.ca M.cn M.ct M.cm), N.noO⟩
theorem OddC.rt {K : PySem.W.Frag} {mg : Str → Option Value} (N : CoN K mg) {H : Hp} {y : V} (h : OddC K H y) : EqRt2 K (He.ga K "Course") H y := by
  rcases h with rfl | h | ⟨b, rs, rfl, dx, d, kvs, h, _⟩
  · exact .inr (.inl rfl)
  · exact .inr (.inr (.inr h))
  · exact .inl (.inl ⟨b, _, dx, _, rfl, h, N.first⟩)
theorem CouR.rt {K : PySem.W.Frag} {H : Hp} {x off : Addr} {es : Es} (o : CouR K H x off es) : EqRt2 K (He.ga K "Course") H (.ref x) := by
  obtain ⟨dx, d, kvs, h1, _⟩ := o
  exact .inl (.inl ⟨x, _, dx, _, rfl, h1, first_self⟩)
def spCEvents (K : PySem.W.Frag) : Sp := fun vs H Q _ => ∃ x off es, vs = [.ref x] ∧ CouR K H x off es ∧ ∀ p kvs, H p = none → EvE (upd H p (.dK kvs)) kvs es → Q (.ref p) (upd H p (.dK kvs))
def spCLen (K : PySem.W.Frag) : Sp := fun vs H Q _ => ∃ x off es, vs = [.ref x] ∧ CouR K H x off es ∧ Q (.int (es.length : Nat)) H
def timeIn (es : Es) : Dt → Bool
  | .int i => decide (i ∈ es.map (·.1))
  | _ => false
def spCHas (K : PySem.W.Frag) : Sp := fun vs H Q _ => ∃ x v off es d, vs = [.ref x, v] ∧ CouR K H x off es ∧ Is H v d ∧ ∀ H', Same H H' → Q (.bl (timeIn es d)) H'
theorem spCHas_mono (K : PySem.W.Frag) (x y : V) (H : Hp) (Q Q' : VK) (E : XK) (h : ∀ v H', Q v H' → Q' v H') (p : spCHas K [x, y] H Q E) : spCHas K [x, y] H Q' E := by
  obtain ⟨a, v, off, es, d, e, o, hv, q⟩ := p
  exact ⟨a, v, off, es, d, e, o, hv, fun H' s' => h _ _ (q H' s')⟩
def spCEq (K : PySem.W.Frag) : Sp := fun vs H Q _ => ∃ x y off es rs, vs = [.ref x, y] ∧ CouR K H x off es ∧ OffR K H off rs ∧ (es.map (·.1)).Nodup ∧
  ((OddC K H y ∧ Q (.bl false) H) ∨ ∃ b off' es' rs', y = .ref b ∧ CouR K H b off' es' ∧ OffR K H off' rs' ∧ Q (.bl (sameR rs rs' && sameC es es')) H)
section
variable {P : Program} {w : World} {K : PySem.W.Frag} {mg : Str → Option Value} {base : Heap}
abbrev s_Course_events : Stmt := inClass (top 34) 1
theorem sc_Course_events : FnScope ["self"] ["self"] (defScope s_Course_events) := ⟨rfl, rfl, rfl, by decide +kernel, rfl, by decide +kernel, by decide +kernel⟩
theorem m_cevents (T : Txt K mg) (O : Cou K mg) (D : DfnM K "Course" "events" "Course.events" s_Course_events) : CalM P w K mg base CX0 1 (He.fAd K ("Course", some "events")) ["self"] (spCEvents K) := by
  refine D.cal sc_Course_events (fun _ _ _ _ _ _ us hl => match us, hl with | [_], _ => rfl) (fun vs H Q E h => ?_) fun cdv A outer s H vs Q E hr h => ?_
  · obtain ⟨x, off, es, rfl, _⟩ := h
    rfl
  obtain ⟨x, off, es, rfl, ⟨dx, d, kvs, h1, h2, h3⟩, q⟩ := h
  refine ⟨_, (pss_one (ps_ret (pe_callTy (T := "dict") call_dictD (by rfl) T.dict (by decide +kernel) (pa_cons (pe_fld (pv 0) rfl) pa_nil)))), ?_⟩
  exact ⟨_, rfl, x, _, dx, _, _, rfl, h1, O.cl, O.nE, rfl, d, kvs, rfl, .inl h2, fun p hp => q p kvs hp (h3.keep (Tups.of (Same.up hp)))⟩
abbrev s_Course___len__ : Stmt := inClass (top 34) 4
theorem sc_Course___len__ : FnScope ["self"] ["self"] (defScope s_Course___len__) := ⟨rfl, rfl, rfl, by decide +kernel, rfl, by decide +kernel, by decide +kernel⟩
theorem m_clen (T : Txt K mg) (O : Cou K mg) (D : DfnM K "Course" "__len__" "Course.__len__" s_Course___len__) : CalM P w K mg base CX0 1 (He.fAd K ("Course", some "__len__")) ["self"] (spCLen K) := by
  refine D.cal sc_Course___len__ (fun _ _ _ _ _ _ us hl => match us, hl with | [_], _ => rfl) (fun vs H Q E h => ?_) fun cdv A outer s H vs Q E hr h => ?_
  · obtain ⟨x, off, es, rfl, _⟩ := h
    rfl
  obtain ⟨x, off, es, rfl, ⟨dx, d, kvs, h1, h2, h3⟩, q⟩ := h
  have el : kvs.length = es.length := Paired.length h3
  refine ⟨_, (pss_one (ps_ret (pe_callB (id := "len") call_lenD (by rfl) T.len (by decide +kernel) (pa_cons (pe_fld (pv 0) rfl) pa_nil)))), ?_⟩
  exact ⟨_, rfl, x, _, dx, _, _, rfl, h1, O.cl, O.nE, rfl, d, kvs, rfl, h2, by rw [el]; exact q⟩
abbrev s_Course___contains__ : Stmt := inClass (top 34) 5
theorem sc_Course___contains__ : FnScope ["self", "thing"] ["self", "thing"] (defScope s_Course___contains__) := ⟨rfl, rfl, rfl, by decide +kernel, rfl, by decide +kernel, by decide +kernel⟩
theorem m_ccontains (T : Txt K mg) (O : Cou K mg) (D : DfnM K "Course" "__contains__" "Course.__contains__" s_Course___contains__) (C_is_integer : Cal P w K mg base 1 "is_integer" ["thing"] (spB isInteger)) : CalM P w K mg base CX0 2 (He.fAd K ("Course", some "__contains__")) ["self", "thing"] (spCHas K) := by
  refine D.cal sc_Course___contains__ (fun _ _ _ _ _ _ us hl => match us, hl with | [_, _], _ => rfl) (fun vs H Q E h => ?_) fun cdv A outer s H vs Q E hr h => ?_
  · obtain ⟨x, v, off, es, d, rfl, _⟩ := h
    rfl
  obtain ⟨x, v, off, es, d, rfl, ⟨dx, dd, kvs, h1, h2, h3⟩, hv, q⟩ := h
  refine ⟨_, (pss_one (ps_ret (pe_and (pe_cal C_is_integer hr (by first | decide | omega) (by rfl) (pa_cons (pv 1) pa_nil)) (pe_one (pe_cmp (pc_din (hu_of hr) (pv 1) (pe_fld (pv 0) rfl)) rfl))))), ?_⟩
  refine ⟨_, rfl, v, d, rfl, hv, fun H1 s1 => ⟨_, rfl, ?_⟩⟩
  cases hv with
  | int i =>
    refine iteT ⟨_, rfl, _, rfl, x, _, dx, _, _, rfl, s1 _ _ h1, O.cl, O.nE, rfl, dd, _, rfl, DGet.k (k := Sum.inl i) (s1 _ _ h2), ?_⟩
    have : (valV kvs (Sum.inl i)).isSome = decide (i ∈ es.map (·.1)) := by
      rw [← evAt_some]
      rcases h3.val i with ⟨e2, T2, a2, b2, _⟩ | ⟨a2, b2⟩
      · rw [a2, b2]; rfl
      · rw [a2, b2]; rfl
    rw [this]
    exact q H1 s1
  | _ => exact iteF (q H1 s1)
abbrev s_Course___eq__ : Stmt := inClass (top 34) 3
theorem sc_Course___eq__ : FnScope ["self", "other"] ["self", "other"] (defScope s_Course___eq__) := ⟨rfl, rfl, rfl, by decide +kernel, rfl, by decide +kernel, by decide +kernel⟩
/-- more that the head tells of the classes -/
structure OfM (K : PySem.W.Frag) : Prop where
  eq : PySem.W.findIn K (.ref (He.ga K "Office")) "__eq__" = some (some (.ref (He.fAd K ("Office", some "__eq__"))))
  fn : PySem.W.isFn K (.ref (He.fAd K ("Office", some "__eq__"))) = true
  ne : PySem.W.findIn K (.ref (He.ga K "Office")) "__ne__" = some (some (.builtin "object.__ne__"))
theorem m_ceq (T : Txt K mg) (O : Cou K mg) (N : CoN K mg) (M : OfN K mg) (OO : Off K mg) (OM : OfM K) (ME : CalM P w K mg base CX0 1 (He.fAd K ("Office", some "__eq__")) ["self", "other"] (spEq K)) (D : DfnM K "Course" "__eq__" "Course.__eq__" s_Course___eq__) :
    CalM P w K mg base CX0 2 (He.fAd K ("Course", some "__eq__")) ["self", "other"] (spCEq K) := by
  refine D.cal sc_Course___eq__ (fun _ _ _ _ _ _ us hl => match us, hl with | [_, _], _ => rfl) (fun vs H Q E h => ?_) fun cdv A outer s H vs Q E hr h => ?_
  · obtain ⟨x, y, off, es, rs, rfl, _⟩ := h
    rfl
  obtain ⟨x, y, off, es, rs, rfl, ⟨dx, d, kvs, h1, h2, h3⟩, of, nd, h⟩ := h
  refine ⟨_, (pss_one (ps_ret (pe_and (pe_callB (id := "isinstance") call_isi (by rfl) T.isinstance (by decide +kernel) (pa_cons (pv 1) (pa_cons (N.e (by rfl)) pa_nil))) (pe_and (pe_cmpR (eq_ (K := K) ME rfl hr (by decide) OM.eq OM.fn) (pe_fld (pv 0) rfl) (pe_fld (pv 1) rfl) (nomark _)) (pe_one (pe_cmpR (op_eqEv hr.units) (pe_fld (pv 0) rfl) (pe_fld (pv 1) rfl) (nomark _))))))), ?_⟩
  rcases h with ⟨odd, q⟩ | ⟨b, off', es', rs', rfl, ⟨dx', d', kvs', g1, g2, g3⟩, of', q⟩
  · obtain ⟨t, ty, no⟩ := odd.no N M OO
    exact ⟨_, rfl, _, _, _, _, _, rfl, .own _, ty, no, _, rfl, iteF q⟩
  · refine ⟨_, rfl, _, _, _, _, _, rfl, .own _, .base (.ins g1 O.cl N.ca M.cn M.ct N.cm), N.yes, _, rfl, iteT ?_⟩
    obtain ⟨dy, od, okv, o1, o2⟩ := id of
    refine ⟨_, rfl, x, _, dx, _, _, rfl, h1, O.cl, O.nO, rfl, _, rfl, b, _, dx', _, _, rfl, g1, O.cl, O.nO, rfl, off, dy, _, rfl, o1, of'.rt, off, .ref off', rs, rfl, of, .inr ⟨off', rs', rfl, of', _, rfl, ?_⟩⟩
    cases c : sameR rs rs' with
    | false =>
      rw [c] at q
      exact iteF q
    | true =>
      rw [c] at q
      exact iteT ⟨_, rfl, x, _, dx, _, _, rfl, h1, O.cl, O.nE, rfl, _, rfl, b, _, dx', _, _, rfl, g1, O.cl, O.nE, rfl, d, d', kvs, kvs', es, es', rfl, rfl, h2, g2, h3, g3, nd, q⟩
end
end K07

set_option Elab.async false
set_option linter.all false
set_option maxRecDepth 100000
set_option maxHeartbeats 4000000
namespace Sr
open PySem PySem.Spec PyProof.Rows L2 LamX
/-- a lambda handed to a def, several tables about -/
theorem pe_lamT {X : Cx} (T : List (Addr × Str)) (qn : Str) {x a : Str} {st : Stmt} {Ng : List Str} {TT : (XK → Hp → VK → Prop) → Hp → VK → Prop} {k : Nat} {params : Arguments} {body : Expr} {scope : Scope} {t : XK → TE} {c P : Addr} {p lpos pos : Pos} (D : Dfn X.K X.mg x st) (Sg : FnScope Ng [a] (defScope st))
    (hb : ∀ (kV doc pm : Value) (an : Option Addr) (cdv ct : Value) (us : List Value), us.length = [a].length → bindArgs (PySem.W.fnOf x x (defArgs st) (defBody st) (defScope st) .none kV doc pm an cdv ct) ⟨us, []⟩ = pure ([a].zip us))
    (hmT : (P, qn ++ "<lambda>") ∈ T) (hu : ∀ p ∈ T, p.1 = P → p.2 = qn ++ "<lambda>")
    (hG : ∀ cdv : Value, GivesTo X Ng x (defScope st) (He.ga X.K x) cdv (defBody st) a (X.env.qual ++ "<lambda>") TT) (TB : TabB X.base X.mg c P) (hcode : X.env.code = .ref c) (hr : Room (k + 2) X.A)
    (hbody : ∀ (A : Around) (outer : List Env) (s : Shared) (H : Hp) (E : XK) (f c' : Addr), Room k (A.deeper (lamEnv X scope s.heap.objs.size f c')) → PE (lamCx X A outer s H E scope f c') body (t E))
    (hg : Gl X x) (L : LamS X.env.scope scope) (hbind : ∀ (q : Str) (cl : List (Str × Addr)) (pm cv ctv : Value), bindArgs (PySem.W.kla_fn "<lambda>" q params body scope cl pm cv ctv) ⟨[], []⟩ = pure [])
    (hqn : X.env.qual = qn := by rfl) (hdef : defaultsOf params X.env = ([], []) := by rfl) (hNg : Ng[0]? = some a := by rfl) (hva : Vis (defScope st) a := by first | exact Or.inl rfl | exact Or.inr (Or.inl rfl))
    (hdb : (x == ("__debug__" : Str)) = false := by decide) (hd : (a == ("__debug__" : Str)) = false := by decide) (hcd : (a == ("__classdict__" : Str)) = false := by decide) :
    PE X (.Call (.Name x p) [.Lambda params body scope lpos] [] pos) (tLam T TT t) := by
  subst hqn
  obtain ⟨fd, F⟩ := D.fn
  have hB := F.bindsN hb
  obtain ⟨oc, od, dV, kV, doc, pm, an, cdv, ct, osl, rfl, lk, hcg, _, _⟩ := F.ex
  exact pe_lamcall hg D.at_ F.kp lk hcg hB Sg hNg hva (hG cdv) TB hcode hmT hu hr L hdef hbind hbody hdb hd hcd
end Sr

set_option Elab.async false
set_option linter.all false
set_option maxRecDepth 100000
set_option maxHeartbeats 4000000
namespace K07
open PySem PySem.Spec PyProof.Rows L2 Sr LamX
/-! ### what stays when a def with a lambda is called -/
theorem TupV.ext {H H' : Hp} (e : ExtN H H') {v : V} {ws : List Str} (h : TupV H v ws) : TupV H' v ws :=
  let ⟨t, e1, e2⟩ := h
  ⟨t, e1, e _ _ e2 (fun _ z => by cases z)⟩
theorem LstV.ext {H H' : Hp} (e : ExtN H H') {v : V} {ws : List Str} (h : LstV H v ws) : LstV H' v ws :=
  let ⟨t, e1, e2⟩ := h
  ⟨t, e1, e _ _ e2 (fun _ z => by cases z)⟩
theorem RanksR.ext {H H' : Hp} (e : ExtN H H') {r : Addr} {rs : List Rk} (h : RanksR H r rs) : RanksR H' r rs := by
  obtain ⟨kvs, h1, h2⟩ := h
  exact ⟨kvs, e _ _ h1 (fun _ z => by cases z), h2.imp fun v ws t => t.ext e⟩
theorem OffR.ext {K : PySem.W.Frag} {H H' : Hp} {x : Addr} {rs : List Rk} (e : ExtN H H') (o : OffR K H x rs) : OffR K H' x rs := by
  obtain ⟨dx, d, kvs, h1, h2, h3, h4⟩ := o
  exact ⟨dx, d, kvs, e _ _ h1 (fun _ z => by cases z), e _ _ h2 (fun _ z => by cases z), h3.imp fun v ws t => t.ext e, h4⟩
theorem EvE.ext {H H' : Hp} (e : ExtN H H') {kvs : List (Key × V)} {es : Es} (h : EvE H kvs es) : EvE H' kvs es := h.keep fun b xs hb => e _ _ hb (fun _ z => by cases z)
theorem CouR.ext {K : PySem.W.Frag} {H H' : Hp} {x off : Addr} {es : Es} (e : ExtN H H') (c : CouR K H x off es) : CouR K H' x off es := by
  obtain ⟨dx, d, kvs, h1, h2, h3⟩ := c
  exact ⟨dx, d, kvs, e _ _ h1 (fun _ z => by cases z), e _ _ h2 (fun _ z => by cases z), h3.ext e⟩
end K07

set_option Elab.async false
set_option linter.all false
set_option maxRecDepth 100000
set_option maxHeartbeats 4000000
namespace K07
open PySem PySem.Spec PyProof.Rows L2 Sr LamX
/-! ### calls of the class Course -/
structure MkC (P : Program) (w : World) (K : PySem.W.Frag) (mg : Str → Option Value) (base : Heap) : Prop where
  ex : CalM P w K mg base (L2.CX P w) 5 (He.fAd K ("Course", some "__init__")) ["self", "office", "events"] (spCInit K w)
  mk_ : Mk K (He.ga K "Course") (He.fAd K ("Course", some "__init__"))
  nm : mg "Course" = some (.ref (He.ga K "Course"))
theorem MkC.pe {X : Cx} {K : PySem.W.Frag} {w : World} {j : Nat} {E : XK} {p pos : Pos} {e : Expr} {es : List Expr} {t : TA} (c : MkC X.prog w K X.mg X.base) (hK : X.K = K) (hw : X.w = w) (hr : Room j X.A) (hk : 6 ≤ j) (hg : Gl X "Course") (hx : Passes (L2.CX X.prog X.w) X E) (ha : PA X (e :: es) t)
    (he : starEach (e :: es) X.env = (false, eval e X.env) :: starEach es X.env := by rfl) (hpl : (backTo pos (starEach es X.env)).any (·.1) = false := by rfl) :
    PE X (.Call (.Name "Course" p) (e :: es) [] pos) (tMake (He.ga K "Course") (spCInit K w) [] E t) := by
  subst hK
  subst hw
  obtain ⟨fd, F, kp, hb⟩ := c.ex.ex
  exact pe_make c.mk_ F (hr.mono hk) hg c.nm hb .nil hx ha (by decide) he hpl
structure MkO (P : Program) (w : World) (K : PySem.W.Frag) (mg : Str → Option Value) (base : Heap) : Prop where
  ex : CalM P w K mg base (L2.CX P w) 3 (He.fAd K ("Office", some "__init__")) ["self", "ranks"] (spInit K w)
  mk_ : Mk K (He.ga K "Office") (He.fAd K ("Office", some "__init__"))
  nm : mg "Office" = some (.ref (He.ga K "Office"))
theorem MkO.pe {X : Cx} {K : PySem.W.Frag} {w : World} {j : Nat} {E : XK} {p pos : Pos} {e : Expr} {es : List Expr} {t : TA} (c : MkO X.prog w K X.mg X.base) (hK : X.K = K) (hw : X.w = w) (hr : Room j X.A) (hk : 4 ≤ j) (hg : Gl X "Office") (hx : Passes (L2.CX X.prog X.w) X E) (ha : PA X (e :: es) t)
    (he : starEach (e :: es) X.env = (false, eval e X.env) :: starEach es X.env := by rfl) (hpl : (backTo pos (starEach es X.env)).any (·.1) = false := by rfl) :
    PE X (.Call (.Name "Office" p) (e :: es) [] pos) (tMake (He.ga K "Office") (spInit K w) [] E t) := by
  subst hK
  subst hw
  obtain ⟨fd, F, kp, hb⟩ := c.ex.ex
  exact pe_make c.mk_ F (hr.mono hk) hg c.nm hb .nil hx ha (by decide) he hpl
theorem OffR.offX {K : PySem.W.Frag} {H : Hp} {r off : Addr} {rs : List Rk} (o : OffR K H off rs) (n : ∀ dx d, H off = some (.ins (He.ga K "Office") dx [("_ranks", .ref d)]) → d ≠ r) : OffX K H r off (rs.map (·.1)) := by
  obtain ⟨dx, d, kvs, h1, h2, h3, nd⟩ := o
  exact ⟨dx, d, kvs, n dx d h1, h1, h2, fun s => (h3.ent nd).has s⟩
theorem OffR.at_ {K : PySem.W.Frag} {H : Hp} {off : Addr} {rs : List Rk} (o : OffR K H off rs) : OffAt K H off (rs.map (·.1)) := by
  obtain ⟨dx, d, kvs, h1, h2, h3, nd⟩ := o
  exact ⟨dx, d, kvs, h1, h2, fun s => (h3.ent nd).has s⟩
/-- the dict r came later than the office -/
theorem OffR.later {K : PySem.W.Frag} {H0 H : Hp} {r off : Addr} {rs : List Rk} (o : OffR K H0 off rs) (hr : H0 r = none) (s : Same H0 H) : OffX K H r off (rs.map (·.1)) := by
  refine (o.mono s).offX fun dx d h z => ?_
  obtain ⟨dx', d', kvs, h1, h2, _⟩ := o
  rw [s _ _ h1] at h
  have e : d' = d := by
    have := Option.some.inj h
    injection this with _ _ h
    have := (List.cons.inj h).1
    exact V.ref.inj (Prod.mk.inj this).2
  rw [e, z, hr] at h2
  cases h2
/-- the dict r has a key that is an int -/
theorem OffR.ints {K : PySem.W.Frag} {H : Hp} {r off : Addr} {rs : List Rk} {kvs : List (Key × V)} {t : Int} {v : V} (o : OffR K H off rs) (hr : H r = some (.dK kvs)) (m : (Sum.inl t, v) ∈ kvs) : OffX K H r off (rs.map (·.1)) := by
  refine o.offX fun dx d h z => ?_
  obtain ⟨dx', d', kvs', h1, h2, h3, nd⟩ := o
  rw [h1] at h
  have e : d' = d := by
    have := Option.some.inj h
    injection this with _ _ h
    have := (List.cons.inj h).1
    exact V.ref.inj (Prod.mk.inj this).2
  rw [e, z, hr] at h2
  cases h2
  have m2 : (Sum.inl t : Key) ∈ kvs.map (·.1) := List.mem_map.mpr ⟨_, m, rfl⟩
  rw [(h3.ent nd).keys] at m2
  obtain ⟨_, _, z⟩ := List.mem_map.mp m2
  cases z
section
variable {K : PySem.W.Frag} {w : World} {H : Hp} {Q : Addr → Hp → Prop} {E : XK}
theorem laid0 {x dx : Addr} (hx : H x = none) (hdx : H dx = none) (ne : dx ≠ x) : Same H (upd (upd H dx (.own x)) x (.ins (He.ga K "Course") dx [])) := (Same.up hdx).trans (Same.up (by rw [upd_ne fun z => ne z.symm]; exact hx))
/-- Course(office, events), the events right -/
theorem ok_course {off r : Addr} {ks : List Str} {kvs : List (Key × V)} {es es' : Es} (hr : H r = some (.dK kvs)) (o : OffX K H r off ks) (o2 : OffAt K H off ks) (he : EvL ks H kvs es) (tk : timesOk es) (pm : es'.Perm es) (asc : es'.Pairwise fun p q => p.1 < q.1) (fr : freshNames es')
    (q : ∀ x H', H x = none → Same H H' → CouR K H' x off es' → Q x H') :
    ∀ x dx, H x = none → H dx = none → dx ≠ x → spCInit K w (.ref x :: ([.ref off, .ref r] ++ [])) (upd (upd H dx (.own x)) x (.ins (He.ga K "Course") dx [])) (fun v H2 => v = .non ∧ Q x H2) E := by
  intro x dx hx hdx ne
  have s0 := laid0 (K := K) hx hdx ne
  exact ⟨x, off, .ref r, H, dx, ks, rfl, s0, hx, upd_same, o2.mono s0, .inl ⟨r, kvs, es, es', rfl, hr, o.mono s0, he.mono s0, tk, pm, asc, .inl ⟨fr, fun H' s c => ⟨rfl, q x H' hx s c⟩⟩⟩⟩
/-- a name told again -/
theorem ok_again {off r : Addr} {ks : List Str} {kvs : List (Key × V)} {es es' : Es} {j : Nat} {t : Int} (hr : H r = some (.dK kvs)) (o : OffX K H r off ks) (o2 : OffAt K H off ks) (he : EvL ks H kvs es) (tk : timesOk es) (pm : es'.Perm es) (asc : es'.Pairwise fun p q => p.1 < q.1) (ag : againAt es' j t)
    (q : ∀ H' e, Same H H' → H' e = none → E (.ref (He.ga K "BadEvent")) (some e) (upd H' e (.xd [("time", .int t)]))) :
    ∀ x dx, H x = none → H dx = none → dx ≠ x → spCInit K w (.ref x :: ([.ref off, .ref r] ++ [])) (upd (upd H dx (.own x)) x (.ins (He.ga K "Course") dx [])) (fun v H2 => v = .non ∧ Q x H2) E := by
  intro x dx hx hdx ne
  have s0 := laid0 (K := K) hx hdx ne
  exact ⟨x, off, .ref r, H, dx, ks, rfl, s0, hx, upd_same, o2.mono s0, .inl ⟨r, kvs, es, es', rfl, hr, o.mono s0, he.mono s0, tk, pm, asc, .inr ⟨j, t, ag, q⟩⟩⟩
/-- a wrong event at the time t: the dict stays locked -/
theorem ok_wrong {off r : Addr} {ks : List Str} {kvs : List (Key × V)} {es : Es} {j : Nat} {t : Int} {u : V} {d : Dt} (hr : H r = some (.dK kvs)) (o : OffX K H r off ks) (o2 : OffAt K H off ks) (he : EvL ks H (kvs.take j) es) (tk : ∀ p ∈ es, 0 ≤ p.1 ∧ p.1 ≤ 1000000) (nd : (kvs.map (·.1)).Nodup)
    (hj : kvs[j]? = some (Sum.inl t, u)) (t0 : 0 ≤ t) (t6 : t ≤ 1000000) (iu : Is H u d) (pu : K07.plain d = true) (bad : evOk ks d = false)
    (q : ∀ H' e, (∀ b o, b ≠ r → H b = some o → H' b = some o) → H' e = none → E (.ref (He.ga K "BadEvent")) (some e) (upd H' e (.xd [("time", .int t)]))) :
    ∀ x dx, H x = none → H dx = none → dx ≠ x → spCInit K w (.ref x :: ([.ref off, .ref r] ++ [])) (upd (upd H dx (.own x)) x (.ins (He.ga K "Course") dx [])) (fun v H2 => v = .non ∧ Q x H2) E := by
  intro x dx hx hdx ne
  have s0 := laid0 (K := K) hx hdx ne
  exact ⟨x, off, .ref r, H, dx, ks, rfl, s0, hx, upd_same, o2.mono s0, .inr (.inl ⟨r, kvs, es, j, t, u, rfl, hr, o.mono s0, he.mono s0, tk, nd, hj, t0, t6, ⟨d, iu.mono s0, pu, bad⟩, q⟩)⟩
/-- a dict with keys of all kinds, one entry wrong -/
theorem ok_mixed {off d : Addr} {ks : List Str} {kvs : List KV3} {j : Nat} {p : KV3} (o2 : OffAt K H off ks) (m : MixAt w H d kvs) (hj : kvs[j]? = some p) (bf : ∀ (i : Nat) (q : KV3), i < j → kvs[i]? = some q → ∃ k u, entC H q k u ∧ timeOk k = true ∧ evOk ks u = true)
    (bad : ∃ k u, entC H p k u ∧ (timeOk k && evOk ks u) = false) (q : ∀ H' e, Same H H' → H' e = none → E (.ref (He.ga K "BadEvent")) (some e) (upd H' e (.xd [("time", p.2.1)]))) :
    ∀ x dx, H x = none → H dx = none → dx ≠ x → spCInit K w (.ref x :: ([.ref off, .ref d] ++ [])) (upd (upd H dx (.own x)) x (.ins (He.ga K "Course") dx [])) (fun v H2 => v = .non ∧ Q x H2) E := by
  intro x dx hx hdx ne
  have s0 := laid0 (K := K) hx hdx ne
  refine ⟨x, off, .ref d, H, dx, ks, rfl, s0, hx, upd_same, o2.mono s0, .inr (.inr (.inl ⟨d, kvs, j, p, rfl, m.mono s0, hj, fun i q' lt hq => ?_, ?_, q⟩))⟩
  · obtain ⟨k, u, h, r⟩ := bf i q' lt hq
    exact ⟨k, u, ⟨h.1.mono s0, h.2.mono s0⟩, r⟩
  · obtain ⟨k, u, h, r⟩ := bad
    exact ⟨k, u, ⟨h.1.mono s0, h.2.mono s0⟩, r⟩
/-- no dict -/
theorem ok_odd {off : Addr} {ks : List Str} {v : V} {d : Dt} (o2 : OffAt K H off ks) (hv : Is H v d) (nd : d ≠ .dic) (q : ∀ H' e, Same H H' → H' e = none → E (.ref (He.ga K "BadEvent")) (some e) (upd H' e (.xd [("time", v)]))) :
    ∀ x dx, H x = none → H dx = none → dx ≠ x → spCInit K w (.ref x :: ([.ref off, v] ++ [])) (upd (upd H dx (.own x)) x (.ins (He.ga K "Course") dx [])) (fun v H2 => v = .non ∧ Q x H2) E := by
  intro x dx hx hdx ne
  have s0 := laid0 (K := K) hx hdx ne
  exact ⟨x, off, v, H, dx, ks, rfl, s0, hx, upd_same, o2.mono s0, .inr (.inr (.inr ⟨d, hv.mono s0, nd, q⟩))⟩
/-- Office(ranks), the ranks right -/
theorem ok_office {r : Addr} {kvs : List (Key × V)} {rs : List Rk} (hr : H r = some (.dK kvs)) (he : EntR (SeqV H) kvs rs) (g : goodR rs)
    (q : ∀ x H' ys, H x = none → Same H H' → ys.Perm (rs.map (·.1)) → PyProof.Rows.sortedS ys = true → OffR K H' x (byName rs ys) → Q x H') :
    ∀ x dx, H x = none → H dx = none → dx ≠ x → spInit K w (.ref x :: ([.ref r] ++ [])) (upd (upd H dx (.own x)) x (.ins (He.ga K "Office") dx [])) (fun v H2 => v = .non ∧ Q x H2) E := by
  intro x dx hx hdx ne
  have s0 : Same H (upd (upd H dx (.own x)) x (.ins (He.ga K "Office") dx [])) := (Same.up hdx).trans (Same.up (by rw [upd_ne fun z => ne z.symm]; exact hx))
  refine ⟨x, .ref r, H, dx, rfl, s0, hx, upd_same, .inl ⟨r, kvs, rs, rfl, s0 _ _ hr, he.imp fun v ws h => h.mono s0, g, fun H' ys s p srt o => ⟨rfl, q x H' ys hx s p srt o⟩⟩⟩
end
end K07

set_option Elab.async false
set_option linter.all false
set_option maxRecDepth 100000
set_option maxHeartbeats 4000000
namespace K07
open PySem PySem.Spec PyProof.Rows L2 Sr
/-! ### what the drawn events are -/
theorem told_take (es : Es) (i : Nat) : ∃ r, toldOf es = toldOf (es.take i) ++ r := by
  refine ⟨toldOf (es.drop i), ?_⟩
  unfold toldOf
  rw [← List.filterMap_append, List.take_append_drop]
theorem told_at {es : Es} {i : Nat} {p : Int × Ev} {n : Str} (h : es[i]? = some p) (t : p.2.told = some n) : ∃ r, toldOf es = toldOf (es.take i) ++ n :: r := by
  obtain ⟨r, e⟩ := told_take es (i + 1)
  refine ⟨r, ?_⟩
  rw [e, List.take_add_one, h]
  unfold toldOf
  rw [List.filterMap_append]
  show _ ++ List.filterMap _ [p] ++ r = _
  rw [List.filterMap_cons, t, List.filterMap_nil, List.append_assoc]
  rfl
theorem fresh_of {es : Es} (nd : (toldOf es).Nodup) : freshNames es := fun i p h n t m => by
  obtain ⟨r, e⟩ := told_at h t
  rw [e, List.nodup_append] at nd
  exact nd.2.2 n m n (List.mem_cons_self ..) rfl
theorem EsOk.times {rs : List Rk} {es : Es} {tm : Int} (h : EsOk rs es tm) (le : tm ≤ 96) (z : es.length ≤ 24) : timesOk es :=
  ⟨fun p m => by have := h.low p m; omega, List.pairwise_map.mpr (h.up.imp fun h e => by omega), by omega⟩
theorem timesOk.perm {es es' : Es} (h : timesOk es) (p : es'.Perm es) : timesOk es' :=
  ⟨fun q m => h.1 q (p.mem_iff.mp m), (p.map _).nodup_iff.mpr h.2.1, by rw [p.length_eq]; exact h.2.2⟩
/-! ### == of courses as data -/
theorem evAt_mem {es : Es} (nd : (es.map (·.1)).Nodup) {p : Int × Ev} (m : p ∈ es) : evAt es p.1 = some p.2 := by
  induction es with
  | nil => cases m
  | cons a r ih =>
    rw [List.map_cons, List.nodup_cons] at nd
    unfold evAt
    rcases List.mem_cons.mp m with e | m
    · rw [e, if_pos rfl]
    · rw [if_neg fun e => nd.1 (by rw [e]; exact List.mem_map_of_mem m)]
      exact ih nd.2 m
theorem sameC_self (es : Es) : sameC es es = true := by
  unfold sameC
  rw [Bool.and_eq_true]
  refine ⟨beq_self_eq_true _, List.all_eq_true.mpr fun p m => ?_⟩
  rw [decide_eq_true (List.mem_map_of_mem m), decide_eq_true rfl]
  rfl
theorem sameC_len {es es' : Es} (h : es.length ≠ es'.length) : sameC es es' = false := by
  unfold sameC
  rw [Bool.and_eq_false_iff]
  exact .inl (beq_eq_false_iff_ne.mpr h)
theorem sameC_at {es es' : Es} {p : Int × Ev} (m : p ∈ es) (h : evAt es p.1 ≠ evAt es' p.1) : sameC es es' = false := by
  unfold sameC
  rw [Bool.and_eq_false_iff]
  refine .inr (List.all_eq_false.mpr ⟨p, m, ?_⟩)
  rw [decide_eq_false h, Bool.and_false]
  simp
theorem sameR_self (rs : List Rk) : sameR rs rs = true := by
  unfold sameR
  rw [Bool.and_eq_true]
  refine ⟨beq_self_eq_true _, List.all_eq_true.mpr fun p m => ?_⟩
  rw [decide_eq_true (List.mem_map_of_mem m), decide_eq_true rfl]
  rfl
theorem sameR_len {rs rs' : List Rk} (h : rs.length ≠ rs'.length) : sameR rs rs' = false := by
  unfold sameR
  rw [Bool.and_eq_false_iff]
  exact .inl (beq_eq_false_iff_ne.mpr h)
/-- the drawn events in their order: what the law draws and what the course keeps are one list -/
theorem asc_eq : ∀ {es es' : Es}, es.Perm es' → (es.Pairwise fun p q => p.1 < q.1) → (es'.Pairwise fun p q => p.1 < q.1) → es = es'
  | [], _, p, _, _ => (List.nil_perm.mp p).symm ▸ rfl
  | x :: xs, [], p, _, _ => absurd p.length_eq (by simp)
  | x :: xs, y :: ys, p, hx, hy => by
    rw [List.pairwise_cons] at hx hy
    have exy : x = y := by
      have a : x ∈ y :: ys := p.mem_iff.mp (List.mem_cons_self ..)
      have b : y ∈ x :: xs := p.mem_iff.mpr (List.mem_cons_self ..)
      rcases List.mem_cons.mp a with a | a
      · exact a
      · rcases List.mem_cons.mp b with b | b
        · exact b.symm
        · have h1 := hx.1 _ b
          have h2 := hy.1 _ a
          omega
    subst exy
    rw [asc_eq (List.Perm.cons_inv p) hx.2 hy.2]
end K07

set_option Elab.async false
set_option linter.all false
set_option maxRecDepth 100000
set_option maxHeartbeats 4000000
namespace K07
open PySem PySem.Spec PyProof.Rows L2 Sr
/-! ### truths as data -/
def isW (d : Dt) (s : Str) : Bool := match d with
  | .str x => decide (x = s)
  | _ => false
def tl (ks : List Str) : List Dt → Bool
  | [w, t] => timeOk t && isW w "strike"
  | [w, t, e] => timeOk t && !isW w "strike" && ((isW w "put" || isW w "alter") && evOk ks e)
  | _ => false
def truthOk (ks : List Str) : Dt → Bool
  | .lst l => tl ks l
  | .tup l => tl ks l
  | _ => false
/-- a thing of two parts and a time begins with a text -/
def hdOk : Dt → Prop
  | .lst (w :: t :: _) => timeOk t = true → ∃ s, w = .str s
  | .tup (w :: t :: _) => timeOk t = true → ∃ s, w = .str s
  | _ => True
theorem seq_of {K : PySem.W.Frag} {H : Hp} {v : V} {d : Dt} (i : Is H v d) (h : isSeq d = true) : ∃ a xs l, v = .ref a ∧ (SqL K H a xs ∨ SqT K H a xs) ∧ IsA H xs l ∧ xs.length ≤ 60 ∧ (d = .lst l ∨ d = .tup l) := by
  cases i with
  | lst a b c => exact ⟨_, _, _, rfl, .inl (SqL.of a), b, c, .inl rfl⟩
  | tup a b c => exact ⟨_, _, _, rfl, .inr (SqT.of a), b, c, .inr rfl⟩
  | _ => cases h
theorem ix_any {K : PySem.W.Frag} {H : Hp} {a : Addr} {xs : List V} {i : Int} {u : V} {Q : VK} (h : SqL K H a xs ∨ SqT K H a xs) (e : atI xs i = some u) (q : Q u H) : rIx K (.ref a) (.int i) H Q := by
  rcases h with h | h
  · exact .inl ⟨a, xs, i, u, rfl, rfl, h, e, q⟩
  · exact .inr (.inl ⟨a, xs, i, u, rfl, rfl, h, e, q⟩)
theorem seq_mono {K : PySem.W.Frag} {H H' : Hp} {a : Addr} {xs : List V} (e : Same H H') (h : SqL K H a xs ∨ SqT K H a xs) : SqL K H' a xs ∨ SqT K H' a xs := h.elim (fun h => .inl (sql_mono e h)) (fun h => .inr (sqt_mono e h))
theorem inV2 {s a b : Str} : inV (.str s) [.str a, .str b] = (decide (s = a) || decide (s = b)) := by
  have e : ∀ x y : Str, eqV (.str x) (.str y) = decide (y = x) := fun x y => by
    by_cases h : y = x
    · subst h
      rw [decide_eq_true rfl]
      simp [eqV]
    · rw [decide_eq_false h]
      simp [eqV, Ne.symm h]
      try exact fun z => h z.symm
  show (eqV (.str a) (.str s) || (eqV (.str b) (.str s) || false)) = _
  rw [e, e, Bool.or_false]
/-- a list of data as an event -/
def evL (ks : List Str) : List Dt → Bool
  | .str s :: r => formOk s ks r
  | _ => false
def spTruth (K : PySem.W.Frag) : Sp := fun vs H Q _ => ∃ x v ks d, vs = [.ref x, v] ∧ OffAt K H x ks ∧ Is H v d ∧ hdOk d ∧ ∀ H', Same H H' → Q (.bl (truthOk ks d)) H'
section
variable {P : Program} {w : World} {K : PySem.W.Frag} {mg : Str → Option Value} {base : Heap}
abbrev s_is_truth : Stmt := top 22
theorem sc_is_truth : FnScope ["office", "thing"] ["office", "thing"] (defScope s_is_truth) := ⟨rfl, rfl, rfl, by decide +kernel, rfl, by decide +kernel, by decide +kernel⟩
theorem c_is_truth (T : Txt K mg) (D : Dfn K mg "is_truth" s_is_truth) (C_is_list : Cal P w K mg base 1 "is_list" ["thing"] (spB isSeq)) (C_is_time : Cal P w K mg base 2 "is_time" ["thing"] (spB timeOk)) (C_is_event : Cal P w K mg base 4 "is_event" ["office", "thing"] (spO K evOk)) :
    Cal P w K mg base 5 "is_truth" ["office", "thing"] (spTruth K) := by
  refine D.cal sc_is_truth (fun _ _ _ _ _ _ us hl => match us, hl with | [_, _], _ => rfl) (fun vs H Q E h => ?_) fun cdv A outer s H vs Q E hr h => ?_
  · obtain ⟨x, v, ks, d, rfl, _⟩ := h
    rfl
  obtain ⟨x, v, ks, d, rfl, o, hv, hd, q⟩ := h
  refine ⟨_, (pss_cons (ps_if (PW.pt (pw_or (pt_not (pt_val (pe_cal C_is_list hr (by first | decide | omega) (by rfl) (pa_cons (pv 1) pa_nil)))) (pw_or (pt_cmpR op_lt (pe_callB (id := "len") call_len_seq (by rfl) T.len (by decide +kernel) (pa_cons (pv 1) pa_nil)) pe_int (nomark _)) (pw_or1 (pt_not (pt_val (pe_cal C_is_time hr (by first | decide | omega) (by rfl) (pa_cons (pe_ix ix_seq (pv 1) pe_int (fun _ _ => rfl)) pa_nil)))))))) (pss_one (ps_ret pe_bl)) pss_nil)
      (pss_cons (ps_if (pt_cmpR op_eq (pe_ix ix_seq (pv 1) pe_int (fun _ _ => rfl)) pe_str (nomark _)) (pss_one (ps_ret (pe_cmpR op_eq (pe_callB (id := "len") call_len_seq (by rfl) T.len (by decide +kernel) (pa_cons (pv 1) pa_nil)) pe_int (nomark _)))) pss_nil)
      (pss_one (ps_ret (pe_and (pe_cmpR op_in_seq (pe_ix ix_seq (pv 1) pe_int (fun _ _ => rfl)) (pe_tup (pa_cons pe_str (pa_cons pe_str pa_nil))) (by rfl)) (pe_and (pe_cmpR op_eq (pe_callB (id := "len") call_len_seq (by rfl) T.len (by decide +kernel) (pa_cons (pv 1) pa_nil)) pe_int (nomark _)) (pe_one (pe_cal C_is_event hr (by first | decide | omega) (by rfl) (pa_cons (pv 0) (pa_cons (pe_ix ix_seq (pv 1) pe_int (fun _ _ => rfl)) pa_nil)))))))))), ?_⟩
  refine ⟨_, rfl, v, d, rfl, hv, fun H1 s1 => ⟨_, rfl, ?_⟩⟩
  cases hs : isSeq d with
  | false =>
    refine iteT (iteT ?_)
    have e : truthOk ks d = false := by cases d <;> first | rfl | cases hs
    rw [e] at q
    exact q _ s1
  | true =>
  obtain ⟨a, xs, l, rfl, hsq, ia, lx, hl⟩ := seq_of (K := K) hv hs
  have ed : truthOk ks d = tl ks l := by rcases hl with rfl | rfl <;> rfl
  rw [ed] at q
  have ln := ia.len
  refine iteF ⟨_, rfl, a, xs, rfl, seq_mono s1 hsq, _, _, rfl, rfl, _, rfl, ?_⟩
  cases ia with
  | nil => exact iteT (q _ s1)
  | cons i0 r0 =>
  rename_i v0 vs d0 ds
  cases r0 with
  | nil => exact iteT (q _ s1)
  | cons i1 r1 =>
  rename_i v1 vs d1 ds
  have two : decide (((v0 :: v1 :: vs).length : Int) < 2) = false := decide_eq_false (by simp only [List.length_cons]; omega)
  rw [two]
  refine iteF ⟨_, rfl, ix_any (seq_mono s1 hsq) (at_nat (i := 1) rfl) ⟨v1, d1, rfl, i1.mono s1, fun H2 s2 => ⟨_, rfl, ?_⟩⟩⟩
  have s12 := s1.trans s2
  cases ht : timeOk d1 with
  | false =>
    refine iteT ?_
    have e : tl ks (d0 :: d1 :: ds) = false := by
      cases ds with
      | nil => show (timeOk d1 && _) = false; rw [ht]; rfl
      | cons e r =>
        cases r with
        | nil => show (timeOk d1 && _ && _) = false; rw [ht]; rfl
        | cons => rfl
    rw [e] at q
    exact q _ s12
  | true =>
  refine iteF ?_
  obtain ⟨w, rfl⟩ : ∃ w, d0 = .str w := by rcases hl with rfl | rfl <;> exact hd ht
  obtain rfl : v0 = .str w := by cases i0; rfl
  have at0 : atI (V.str w :: v1 :: vs) 0 = some (.str w) := at_nat (i := 0) rfl
  refine ⟨_, rfl, ix_any (seq_mono s12 hsq) at0 ⟨rfl, _, rfl, ?_⟩⟩
  rw [show decide (V.str w = V.str (Str.ofString "strike")) = decide (w = Str.ofString "strike") from decide_eq_decide.mpr ⟨fun h => V.str.inj h, fun h => by rw [h]⟩]
  have lv : vs.length = ds.length := r1.len
  have ll : (V.str w :: v1 :: vs).length = ds.length + 2 := by rw [List.length_cons, List.length_cons, lv]
  have iw : ∀ z : Str, isW (.str w) z = decide (w = z) := fun z => rfl
  cases cs : decide (w = Str.ofString "strike") with
  | true =>
    refine iteT ⟨_, rfl, a, _, rfl, seq_mono s12 hsq, rfl, ?_⟩
    show Q (V.bl (decide (V.int (((V.str w :: v1 :: vs).length : Nat) : Int) = V.int ((2 : Nat) : Int)))) H2
    rw [ll, lenN]
    have e : decide (ds.length + 2 = 2) = tl ks (.str w :: d1 :: ds) := by
      cases ds with
      | nil => show _ = (timeOk d1 && decide (w = Str.ofString "strike")); rw [ht, cs]; rfl
      | cons e r =>
        cases r with
        | nil => show _ = (timeOk d1 && !decide (w = Str.ofString "strike") && _); rw [ht, cs]; rfl
        | cons e2 r => exact decide_eq_false (by simp only [List.length_cons]; omega)
    rw [e]
    exact q _ s12
  | false =>
    refine iteF ⟨_, rfl, ix_any (seq_mono s12 hsq) at0 ⟨lineN (n := 2), fun t ht2 => ?_⟩⟩
    have s3 := Same.up (H := H2) (o := .tup [.str "put", .str "alter"]) ht2
    have s13 := s12.trans s3
    refine ⟨t, _, rfl, .inr (SqT.of upd_same), rfl, rfl, _, rfl, ?_⟩
    have inv : (if false = true then !inV (.str w) [.str "put", .str "alter"] else inV (.str w) [.str "put", .str "alter"]) = (isW (.str w) "put" || isW (.str w) "alter") := inV2
    have odd : (isW (.str w) "put" || isW (.str w) "alter") = false → tl ks (.str w :: d1 :: ds) = false := fun h => by
      cases ds with
      | nil => show (timeOk d1 && decide (w = Str.ofString "strike")) = false; rw [cs, Bool.and_false]
      | cons e r =>
        cases r with
        | nil => show (timeOk d1 && _ && (_ && evOk ks e)) = false; rw [h, Bool.false_and, Bool.and_false]
        | cons e2 r => rfl
    rw [inv]
    cases hw : (isW (.str w) "put" || isW (.str w) "alter") with
    | false =>
      refine iteF ?_
      have := q _ s13
      rw [odd hw] at this
      exact this
    | true =>
    refine iteT ⟨_, rfl, a, _, rfl, seq_mono s13 hsq, rfl, _, rfl, ?_⟩
    rw [show decide (V.int (((V.str w :: v1 :: vs).length : Nat) : Int) = V.int 3) = decide (ds.length + 2 = 3) by rw [ll]; exact lenN _ 3]
    cases r1 with
    | nil =>
      have : tl ks [.str w, d1] = false := by show (timeOk d1 && decide (w = Str.ofString "strike")) = false; rw [cs, Bool.and_false]
      rw [this] at q
      exact iteF (q _ s13)
    | cons i2 r2 =>
    rename_i v2 vs2 d2 ds2
    cases r2 with
    | cons i3 r3 =>
      rename_i v3 vs3 d3 ds3
      rw [decide_eq_false (by simp only [List.length_cons]; omega : ¬ (d2 :: d3 :: ds3).length + 2 = 3)]
      exact iteF (q _ s13)
    | nil =>
      refine iteT ⟨_, rfl, _, rfl, ix_any (seq_mono s13 hsq) (at_nat (i := 2) rfl) ⟨x, v2, ks, d2, rfl, o.mono s13, i2.mono s13, fun H4 s4 => ?_⟩⟩
      have e : tl ks [.str w, d1, d2] = evOk ks d2 := by
        show (timeOk d1 && !decide (w = Str.ofString "strike") && ((isW (.str w) "put" || isW (.str w) "alter") && evOk ks d2)) = _
        rw [ht, cs, hw]
        simp
      rw [e] at q
      exact q _ (s13.trans s4)
end
end K07

set_option Elab.async false
set_option linter.all false
set_option maxRecDepth 100000
set_option maxHeartbeats 4000000
namespace K07
open PySem PySem.Spec PyProof.Rows L2 Sr
/-! ### one event otherwise -/
def repl (es : Es) (t : Int) (e : Ev) : Es := es.map fun p => if p.1 = t then (p.1, e) else p
theorem repl_times (es : Es) (t : Int) (e : Ev) : (repl es t e).map (·.1) = es.map (·.1) := by
  unfold repl
  rw [List.map_map]
  refine List.map_congr_left fun p _ => ?_
  show (if p.1 = t then (p.1, e) else p).1 = p.1
  split <;> rfl
theorem repl_mem {es : Es} {t : Int} {e : Ev} {q : Int × Ev} (m : q ∈ repl es t e) : ∃ p ∈ es, q.1 = p.1 ∧ (q.2 = p.2 ∨ q.2 = e) := by
  obtain ⟨p, mp, rfl⟩ := List.mem_map.mp m
  refine ⟨p, mp, ?_⟩
  split
  · exact ⟨rfl, .inr rfl⟩
  · exact ⟨rfl, .inl rfl⟩
theorem EvE.repl {H : Hp} {t : Int} {e : Ev} {T : Addr} (i : Is H (.ref T) e.dt) : ∀ {kvs : List (Key × V)} {es : Es}, EvE H kvs es → EvE H (kvs.map fun kv => if kv.1 = Sum.inl t then (kv.1, .ref T) else kv) (K07.repl es t e)
  | _, _, .nil => .nil
  | _, _, .cons (a := kv) (b := p) h r => by
    refine .cons ?_ (EvE.repl i r)
    dsimp only
    by_cases c : p.1 = t
    · rw [if_pos c, if_pos (by rw [h.1, c])]
      exact ⟨h.1, T, rfl, i⟩
    · rw [if_neg c, if_neg (by rw [h.1]; exact fun z => c (Sum.inl.inj z))]
      exact h
theorem repl_told {t : Int} {e : Ev} (he : e.told = none) : ∀ es : Es, (toldOf (repl es t e)).Sublist (toldOf es)
  | [] => List.Sublist.refl _
  | p :: r => by
    have ih := repl_told (t := t) he r
    show (toldOf ((if p.1 = t then (p.1, e) else p) :: repl r t e)).Sublist (toldOf (p :: r))
    have cs : ∀ (q : Int × Ev) (l : Es), toldOf (q :: l) = match q.2.told with
      | some n => n :: toldOf l
      | none => toldOf l := fun q l => by
      unfold toldOf
      rw [List.filterMap_cons]
      cases q.2.told <;> rfl
    have up : (toldOf r).Sublist (toldOf (p :: r)) := by
      rw [cs]
      cases p.2.told with
      | none => exact List.Sublist.refl _
      | some n => exact List.sublist_cons_self ..
    by_cases c : p.1 = t
    · rw [if_pos c, cs (p.1, e)]
      dsimp only
      rw [he]
      exact ih.trans up
    · rw [if_neg c, cs p, cs p]
      cases p.2.told with
      | none => exact ih
      | some n => exact ih.cons₂ _
theorem repl_at {es : Es} {t : Int} {e : Ev} (m : t ∈ es.map (·.1)) : evAt (repl es t e) t = some e := by
  induction es with
  | nil => cases m
  | cons p r ih =>
    show evAt ((if p.1 = t then (p.1, e) else p) :: repl r t e) t = _
    by_cases c : p.1 = t
    · rw [if_pos c]
      unfold evAt
      rw [if_pos c]
    · rw [if_neg c]
      unfold evAt
      rw [if_neg c]
      refine ih ?_
      rcases List.mem_cons.mp m with z | m
      · exact absurd z.symm c
      · exact m
theorem repl_put {H : Hp} {kvs : List (Key × V)} {es : Es} {t : Int} {v : V} (h : EvE H kvs es) (m : t ∈ es.map (·.1)) : L2.putK kvs (Sum.inl t) v = kvs.map fun kv => if kv.1 = Sum.inl t then (kv.1, v) else kv := by
  unfold L2.putK
  rw [if_pos]
  obtain ⟨p, mp, e⟩ := List.mem_map.mp m
  have mk : (Sum.inl t : Key) ∈ kvs.map (·.1) := by
    rw [h.keys, ← e]
    exact List.mem_map.mpr ⟨p, mp, rfl⟩
  obtain ⟨q, mq, eq⟩ := List.mem_map.mp mk
  exact List.any_eq_true.mpr ⟨q, mq, decide_eq_true eq⟩

/-! ### what is heard -/
inductive Tr where
  | put (t : Int) (e : Ev) | strike (t : Int) | alter (t : Int) (e : Ev)
def Tr.row : Tr → List Dt
  | .put t e => [.str "put", .int t, e.dt]
  | .strike t => [.str "strike", .int t]
  | .alter t e => [.str "alter", .int t, e.dt]
def Tr.time : Tr → Int
  | .put t _ => t
  | .strike t => t
  | .alter t _ => t
def Tr.good (ro : List Rk) : Tr → Prop
  | .put t e => 0 ≤ t ∧ t ≤ 1000 ∧ e.good ro
  | .strike t => 0 ≤ t ∧ t ≤ 1000
  | .alter t e => 0 ≤ t ∧ t ≤ 1000 ∧ e.good ro
def others (es : Es) (t : Int) : Es := es.filter fun p => decide (p.1 ≠ t)
def clash (e : Ev) (os : Es) : Bool := match e.told with
  | none => false
  | some n => decide (n ∈ toldOf os)
def hearE (es : Es) (b : Bool) (t : Int) (e : Ev) : Option Es := if b = decide (t ∈ es.map (·.1)) then none else if clash e (others es t) = true then none else some (if b = true then es ++ [(t, e)] else repl es t e)
def hear (es : Es) : Tr → Option Es
  | .put t e => hearE es true t e
  | .strike t => if t ∈ es.map (·.1) then some (others es t) else none
  | .alter t e => hearE es false t e
def TrAt (H : Hp) (v : V) (tr : Tr) : Prop := ∃ a xs, v = .ref a ∧ (H a = some (.lst xs) ∨ H a = some (.tup xs)) ∧ IsA H xs tr.row
theorem TrAt.seq {K : PySem.W.Frag} {H : Hp} {a : Addr} {xs : List V} (h : H a = some (.lst xs) ∨ H a = some (.tup xs)) : SqL K H a xs ∨ SqT K H a xs := h.elim (fun h => .inl (SqL.of h)) (fun h => .inr (SqT.of h))
theorem tol_flat (o : Option Str) : flatV (tolV o) = true := by cases o <;> rfl
theorem tol_all (os : Es) : (os.map fun p => tolV p.2.told).all flatV = true := List.all_eq_true.mpr fun v m => by
  obtain ⟨p, _, rfl⟩ := List.mem_map.mp m
  exact tol_flat _
theorem tol_in (n : Str) (os : Es) : inV (.str n) (os.map fun p => tolV p.2.told) = decide (n ∈ toldOf os) := by
  induction os with
  | nil => rfl
  | cons p r ih =>
    have e1 : inV (.str n) ((p :: r).map fun p => tolV p.2.told) = (eqV (tolV p.2.told) (.str n) || inV (.str n) (r.map fun p => tolV p.2.told)) := rfl
    rw [e1, ih]
    cases ht : p.2.told with
    | none =>
      have e2 : toldOf (p :: r) = toldOf r := by unfold toldOf; rw [List.filterMap_cons, ht]
      rw [e2]
      rfl
    | some m =>
      have e2 : toldOf (p :: r) = m :: toldOf r := by unfold toldOf; rw [List.filterMap_cons, ht]
      rw [e2]
      show ((m == n) || _) = _
      by_cases c : m = n
      · subst c
        simp
      · rw [beq_eq_false_iff_ne.mpr c, Bool.false_or]
        exact decide_eq_decide.mpr ⟨fun h => List.mem_cons_of_mem _ h, fun h => (List.mem_cons.mp h).resolve_left fun z => c z.symm⟩
theorem EvE.has {H : Hp} {kvs : List (Key × V)} {es : Es} (h : EvE H kvs es) (t : Int) : (valV kvs (Sum.inl t)).isSome = decide (t ∈ es.map (·.1)) := by
  rw [← evAt_some]
  rcases h.val t with ⟨e2, T2, a2, b2, _⟩ | ⟨a2, b2⟩
  · rw [a2, b2]; rfl
  · rw [a2, b2]; rfl
theorem bl_eq (a b : Bool) : decide (V.bl a = V.bl b) = decide (a = b) := decide_eq_decide.mpr ⟨fun h => V.bl.inj h, fun h => by rw [h]⟩
def spCan : Sp := fun vs H Q _ => ∃ (d : Addr) (v : V) (kvs : List (Key × V)) (es : Es) (tr : Tr), vs = [.ref d, v] ∧ H d = some (.dK kvs) ∧ EvE H kvs es ∧ (es.map (·.1)).Nodup ∧ es.length ≤ 40 ∧ TrAt H v tr ∧ ∀ H', Same H H' → Q (.bl (hear es tr).isSome) H'
section
variable {P : Program} {w : World} {K : PySem.W.Frag} {mg : Str → Option Value} {base : Heap}
abbrev s__can_be_heard : Stmt := top 36
theorem sc__can_be_heard : FnScope ["events", "truth", "time", "others", "other"] ["events", "truth"] (defScope s__can_be_heard) := ⟨rfl, rfl, rfl, by decide +kernel, rfl, by decide +kernel, by decide +kernel⟩
theorem c__can_be_heard (T : Txt K mg) (D : Dfn K mg "_can_be_heard" s__can_be_heard) (C_name_told : Cal P w K mg base 1 "name_told" ["event"] spName) :
    Cal P w K mg base 2 "_can_be_heard" ["events", "truth"] spCan := by
  refine D.cal sc__can_be_heard (fun _ _ _ _ _ _ us hl => match us, hl with | [_, _], _ => rfl) (fun vs H Q E h => ?_) fun cdv A outer s H vs Q E hr h => ?_
  · obtain ⟨d, v, kvs, es, tr, rfl, _⟩ := h
    rfl
  obtain ⟨d, v, kvs, es, tr, rfl, hd, he, nd, le, ⟨a, xs, rfl, hx, ia⟩, q⟩ := h
  refine ⟨_, (pss_cons (ps_set (i := 2) sc__can_be_heard.nd rfl (by first | exact Or.inl rfl | exact Or.inr rfl) (pe_ix ix_seq (pv 1) pe_int (fun _ _ => rfl)))
      (pss_cons (ps_if (pt_cmpR op_eq (pe_cmpR op_eq (pe_ix ix_seq (pv 1) pe_int (fun _ _ => rfl)) pe_str (nomark _)) (pe_cmp (pc_din (hu_of hr) (pv 2) (pv 0)) rfl) (nomark _)) (pss_one (ps_ret pe_bl)) pss_nil)
      (pss_cons (ps_if (PW.pt (pw_or (pt_cmpR op_eq (pe_ix ix_seq (pv 1) pe_int (fun _ _ => rfl)) pe_str (nomark _)) (pw_or1 (pt_cmpR op_isN (pe_cal C_name_told hr (by first | decide | omega) (by rfl) (pa_cons (pe_ix ix_seq (pv 1) pe_int (fun _ _ => rfl)) pa_nil)) pe_non (nomark _))))) (pss_one (ps_ret pe_bl)) pss_nil)
      (pss_cons (ps_lock (ps_setLc (i := 3) (own := [("other", 4)]) (g := gName 4) rfl sc__can_be_heard.nd rfl rfl (sw_true rfl rfl rfl rfl) (pi_keys (pv 0)) (blkOk_by (N := ["events", "truth", "time", "others", "other"]) (sc := defScope s__can_be_heard) (by decide +kernel)) (fun _ _ _ _ _ => (pg_name (i := 4) sc__can_be_heard.nd rfl (by first | exact Or.inl rfl | exact Or.inr rfl))) (fun _ _ _ _ _ => (pts_one (pt_cmpR op_ne (pv 4) (pv 2) (nomark _)))) (fun _ _ _ _ _ => (pe_cal C_name_told hr (by first | decide | omega) (by rfl) (pa_cons (pe_dget (hu_of hr) (pv 0) (pv 4) (fun _ _ => rfl)) pa_nil)))))
      (pss_one (ps_ret (pe_cmpR op_notIn_seq (pe_cal C_name_told hr (by first | decide | omega) (by rfl) (pa_cons (pe_ix ix_seq (pv 1) pe_int (fun _ _ => rfl)) pa_nil)) (pv 3) (by rfl)))))))), ?_⟩
  have hsq := TrAt.seq (K := K) hx
  have nk : (kvs.map (·.1)).Nodup := by
    rw [he.keys, show (es.map fun p => (Sum.inl p.1 : Key)) = (es.map (·.1)).map Sum.inl by rw [List.map_map]; rfl]
    exact List.pairwise_map.mpr (nd.imp fun h z => h (Sum.inl.inj z))
  have hcase : (∃ t, tr = .strike t) ∨ ∃ (w : Str) (b : Bool) (t : Int) (e : Ev), tr.row = [.str w, .int t, e.dt] ∧ decide (V.str w = V.str "put") = b ∧ decide (V.str w = V.str "strike") = false ∧ ∀ es, hear es tr = hearE es b t e := by
    cases tr with
    | strike t => exact .inl ⟨t, rfl⟩
    | put t e => exact .inr ⟨"put", true, t, e, rfl, decide_eq_true rfl, decide_eq_false fun h => absurd (V.str.inj h) (by decide +kernel), fun _ => rfl⟩
    | alter t e => exact .inr ⟨"alter", false, t, e, rfl, decide_eq_false fun h => absurd (V.str.inj h) (by decide +kernel), decide_eq_false fun h => absurd (V.str.inj h) (by decide +kernel), fun _ => rfl⟩
  rcases hcase with ⟨t, rfl⟩ | ⟨w, b, t, e, er, eb, es_, eh⟩
  · obtain ⟨rfl⟩ : xs = [.str "strike", .int t] := by
      cases ia with
      | cons i0 r => cases r with
        | cons i1 r => cases r; cases i0; cases i1; rfl
    refine ⟨_, rfl, ix_any hsq (at_nat (i := 1) rfl) ?_⟩
    refine ⟨_, rfl, ix_any hsq (at_nat (i := 0) rfl) ⟨rfl, _, rfl, _, rfl, d, _, rfl, DGet.k (k := Sum.inl t) hd, rfl, _, rfl, ?_⟩⟩
    rw [decide_eq_false (fun h => absurd (V.str.inj h) (by decide +kernel) : ¬ V.str (Str.ofString "strike") = V.str (Str.ofString "put")), he.has, bl_eq]
    by_cases c : t ∈ es.map (·.1)
    · rw [decide_eq_true c]
      refine iteF ⟨_, rfl, ix_any hsq (at_nat (i := 0) rfl) ⟨rfl, _, rfl, ?_⟩⟩
      rw [decide_eq_true rfl]
      have := q H (Same.refl _)
      rw [show hear es (.strike t) = some (others es t) from if_pos c] at this
      exact iteT (iteT this)
    · rw [decide_eq_false c]
      have := q H (Same.refl _)
      rw [show hear es (.strike t) = none from if_neg c] at this
      exact iteT this
  · rw [er] at ia
    obtain ⟨v2, rfl, i2⟩ : ∃ v2, xs = [.str w, .int t, v2] ∧ Is H v2 e.dt := by
      cases ia with
      | cons i0 r => cases r with
        | cons i1 r => cases r with
          | cons i2 r => cases r; cases i0; cases i1; exact ⟨_, rfl, i2⟩
    obtain ⟨T2, rfl⟩ := Ev.ref i2
    refine ⟨_, rfl, ix_any hsq (at_nat (i := 1) rfl) ?_⟩
    refine ⟨_, rfl, ix_any hsq (at_nat (i := 0) rfl) ⟨rfl, _, rfl, _, rfl, d, _, rfl, DGet.k (k := Sum.inl t) hd, rfl, _, rfl, ?_⟩⟩
    rw [eb, he.has, bl_eq]
    have qh : ∀ H', Same H H' → Q (.bl (hearE es b t e).isSome) H' := fun H' s' => by
      have := q H' s'
      rwa [eh] at this
    by_cases c : b = decide (t ∈ es.map (·.1))
    · rw [decide_eq_true c]
      have := qh H (Same.refl _)
      rw [show hearE es b t e = none from if_pos c] at this
      exact iteT this
    rw [decide_eq_false c]
    refine iteF ⟨_, rfl, ix_any hsq (at_nat (i := 0) rfl) ⟨rfl, _, rfl, ?_⟩⟩
    rw [es_]
    refine iteF ⟨_, rfl, ix_any hsq (at_nat (i := 2) rfl) ⟨T2, e, rfl, i2, ?_⟩⟩
    have eE : hearE es b t e = if clash e (others es t) = true then none else some (if b = true then es ++ [(t, e)] else repl es t e) := if_neg c
    cases ht : e.told with
    | none =>
      have := qh H (Same.refl _)
      rw [eE, show clash e (others es t) = false by unfold clash; rw [ht]] at this
      exact ⟨rfl, _, rfl, iteT this⟩
    | some m =>
      refine ⟨rfl, _, rfl, iteF ?_⟩
      delta tNext
      dsimp only
      refine cut_if (fun σ H' => ∃ ol : Addr, σ = [some (.ref d), some (.ref a), some (.int t), some (.ref ol), none] ∧ Same H H' ∧ H' ol = some (.lst ((others es t).map fun p => tolV p.2.told))) ?_ fun rest => ?_
      rotate_left
      · refine ⟨d, _, hd, trivial, fun od => ?_⟩
        refine ⟨_, rfl, d, od, rfl, .inl ⟨_, upd_same, fun D hD => lc_gen walk_keys (At := fun i _ x => ∃ k v, kvs[i]? = some (k, v) ∧ x = kV k) (fun i H x H' y => y) es (fun p => decide (p.1 ≠ t)) (Paired.length he).symm (sz (m := 60) (by rw [Paired.length he]; omega)) hD (fun H' s' => s' _ _ upd_same)
          (fun _ p y => y = tolV p.2.told) (fun _ _ _ _ _ e => e) (fun _ _ _ _ _ _ e => e) (fun i x p H3 A B hi hx hp s3 kA kB => ?_) (fun H3 acc s3 h3 pr => ?_)⟩⟩
        · obtain ⟨k, v, e1, rfl⟩ := hx
          obtain ⟨ek, T, ev, iv⟩ := Paired.at2 he e1 hp
          have ek : k = Sum.inl p.1 := ek
          have ev : v = .ref T := ev
          subst ek ev
          have vv := val_nodup nk _ (List.mem_of_getElem? e1)
          have tp : Tups H H3 := (tups_set (o := .frz od (.dK kvs)) fun xs => by rw [hd]; intro z; cases z).trans (Tups.of s3)
          refine ⟨rfl, _, rfl, _, rfl, rfl, _, rfl, ?_⟩
          rw [show decide (kV (Sum.inl p.1) = V.int t) = decide (p.1 = t) from decide_eq_decide.mpr ⟨fun h => V.int.inj h, fun h => by rw [← h]; rfl⟩]
          by_cases c2 : p.1 = t
          · rw [decide_eq_true c2]
            exact iteF (kB (decide_eq_false fun h => h c2) _ (Same.refl _))
          · rw [decide_eq_false c2]
            exact iteT ⟨_, rfl, _, rfl, d, .ref T, rfl, .inl ⟨kvs, Sum.inl p.1, .inr ⟨od, s3 _ _ upd_same⟩, rfl, vv.symm⟩, T, p.2, rfl, is_tups tp iv p.2.tups, kA (decide_eq_true c2) _ _ (Same.refl _) rfl⟩
        · have eacc : acc = (others es t).map fun p => tolV p.2.told := by
            have : ∀ {l : List V} {m : Es}, Paired (fun y p => y = tolV p.2.told) l m → l = m.map fun p => tolV p.2.told := fun h => by
              induction h with
              | nil => rfl
              | cons h r ih => rw [h, ih]; rfl
            exact this pr
          have fz := s3 _ _ upd_same
          refine ⟨fz, rest _ _ ⟨D, rfl, fun b o hb => ?_, ?_⟩⟩
          · by_cases c3 : b = d
            · rw [c3, hd] at hb
              cases hb
              rw [c3]
              exact upd_same
            · rw [upd_ne c3]
              exact s3 _ _ (by rw [upd_ne c3]; exact hb)
          · rw [upd_ne (ne_of h3 fz (by intro z; cases z)), h3, eacc]
      rintro σ H1 ⟨ol, rfl, s1, hol⟩
      try dsimp only
      refine ⟨_, rfl, ix_any (seq_mono s1 hsq) (at_nat (i := 2) rfl) ⟨T2, e, rfl, i2.mono s1, _, rfl, ol, _, rfl, .inl (SqL.of hol), tol_flat _, tol_all _, ?_⟩⟩
      have := qh _ s1
      rw [eE, show clash e (others es t) = decide (m ∈ toldOf (others es t)) by unfold clash; rw [ht]] at this
      show Q (.bl (!inV (tolV e.told) ((others es t).map fun p => tolV p.2.told))) H1
      rw [ht, show tolV (some m) = .str m from rfl, tol_in]
      by_cases c4 : m ∈ toldOf (others es t)
      · rw [decide_eq_true c4] at this ⊢
        exact this
      · rw [decide_eq_false c4] at this ⊢
        exact this
end
end K07

set_option Elab.async false
set_option linter.all false
set_option maxRecDepth 100000
set_option maxHeartbeats 4000000
namespace K07
open PySem PySem.Spec PyProof.Rows L2 Sr
/-! ### what is behind a truth that was heard -/
theorem others_no {es : Es} {t : Int} (h : t ∉ es.map (·.1)) : others es t = es := List.filter_eq_self.mpr fun p m => decide_eq_true fun z => h (by rw [← z]; exact List.mem_map_of_mem m)
theorem others_times {es : Es} {t : Int} : (others es t).map (·.1) = (es.map (·.1)).filter fun x => decide (x ≠ t) := by
  unfold others
  rw [List.filter_map]
  rfl
theorem repl_no {es : Es} {t : Int} {e : Ev} (h : t ∉ es.map (·.1)) : repl es t e = es := by
  unfold repl
  refine (List.map_congr_left fun p m => ?_).trans (List.map_id _)
  rw [if_neg fun z => h (by rw [← z]; exact List.mem_map_of_mem m)]
  rfl
theorem repl_perm {t : Int} {e : Ev} : ∀ {es : Es}, (es.map (·.1)).Nodup → t ∈ es.map (·.1) → (repl es t e).Perm ((t, e) :: others es t)
  | [], _, m => by cases m
  | p :: r, nd, m => by
    rw [List.map_cons, List.nodup_cons] at nd
    show ((if p.1 = t then (p.1, e) else p) :: repl r t e).Perm _
    by_cases c : p.1 = t
    · have nr : t ∉ r.map (·.1) := by rw [← c]; exact nd.1
      rw [if_pos c, repl_no nr]
      have : others (p :: r) t = r := by
        unfold others
        rw [List.filter_cons, if_neg (by simp [c])]
        exact others_no nr
      rw [this, c]
    · have mr : t ∈ r.map (·.1) := by
        rcases List.mem_cons.mp m with z | m
        · exact absurd z.symm c
        · exact m
      rw [if_neg c]
      have : others (p :: r) t = p :: others r t := by
        unfold others
        rw [List.filter_cons, if_pos (by simpa using c)]
      rw [this]
      exact ((repl_perm nd.2 mr).cons p).trans (List.Perm.swap _ _ _)
/-- events as they stand in a course -/
structure Ok (ro : List Rk) (es : Es) : Prop where
  nd : (es.map (·.1)).Nodup
  told : (toldOf es).Nodup
  good : ∀ p ∈ es, p.2.good ro ∧ 0 ≤ p.1 ∧ p.1 ≤ 1000
theorem told_cons (p : Int × Ev) (l : Es) : toldOf (p :: l) = match p.2.told with
    | some n => n :: toldOf l
    | none => toldOf l := by
  unfold toldOf
  rw [List.filterMap_cons]
  cases p.2.told <;> rfl
theorem clash_nodup {t : Int} {e : Ev} {os : Es} (nd : (toldOf os).Nodup) : clash e os = false ↔ (toldOf ((t, e) :: os)).Nodup := by
  rw [told_cons]
  unfold clash
  cases e.told with
  | none => exact ⟨fun _ => nd, fun _ => rfl⟩
  | some n =>
    show decide (n ∈ toldOf os) = false ↔ (n :: toldOf os).Nodup
    rw [List.nodup_cons, decide_eq_false_iff_not]
    exact ⟨fun h => ⟨h, nd⟩, fun h => h.1⟩
theorem others_told (es : Es) (t : Int) : (toldOf (others es t)).Sublist (toldOf es) := List.filter_sublist.filterMap _
theorem told_perm {a b : Es} (p : a.Perm b) : (toldOf a).Perm (toldOf b) := p.filterMap _
/-- what was put or altered, told by an order -/
def after (es : Es) (b : Bool) (t : Int) (e : Ev) : Es := if b = true then es ++ [(t, e)] else repl es t e
theorem after_perm {es : Es} {b : Bool} {t : Int} {e : Ev} (nd : (es.map (·.1)).Nodup) (h : b ≠ decide (t ∈ es.map (·.1))) : (after es b t e).Perm ((t, e) :: others es t) := by
  unfold after
  cases b with
  | true =>
    have n : t ∉ es.map (·.1) := fun m => h (decide_eq_true m).symm
    rw [if_pos rfl, others_no n]
    exact List.perm_append_comm (l₁ := es) (l₂ := [(t, e)])
  | false =>
    have m : t ∈ es.map (·.1) := by
      by_cases c : t ∈ es.map (·.1)
      · exact c
      · exact absurd (decide_eq_false c).symm h
    rw [if_neg (by simp)]
    exact repl_perm nd m
theorem hearE_some {es es' : Es} {b : Bool} {t : Int} {e : Ev} (h : hearE es b t e = some es') : b ≠ decide (t ∈ es.map (·.1)) ∧ clash e (others es t) = false ∧ es' = after es b t e := by
  unfold hearE at h
  by_cases c : b = decide (t ∈ es.map (·.1))
  · rw [if_pos c] at h
    cases h
  · rw [if_neg c] at h
    cases d : clash e (others es t) with
    | true => rw [d, if_pos rfl] at h; cases h
    | false =>
      rw [d, if_neg (by simp)] at h
      exact ⟨c, rfl, (Option.some.inj h).symm⟩
theorem Ok.others {ro : List Rk} {es : Es} (o : Ok ro es) (t : Int) : Ok ro (others es t) :=
  ⟨(List.filter_sublist.map _).nodup o.nd, (others_told es t).nodup o.told, fun p m => o.good p ((List.mem_filter.mp m).1)⟩
theorem Ok.perm {ro : List Rk} {es es' : Es} (o : Ok ro es) (p : es'.Perm es) : Ok ro es' :=
  ⟨(p.map _).nodup_iff.mpr o.nd, (told_perm p).nodup_iff.mpr o.told, fun q m => o.good q (p.mem_iff.mp m)⟩
theorem Ok.after {ro : List Rk} {es : Es} {b : Bool} {t : Int} {e : Ev} (o : Ok ro es) (g : e.good ro ∧ 0 ≤ t ∧ t ≤ 1000) (h : b ≠ decide (t ∈ es.map (·.1))) (c : clash e (K07.others es t) = false) : Ok ro (K07.after es b t e) := by
  refine Ok.perm ?_ (after_perm o.nd h)
  have oo := o.others t
  refine ⟨?_, (clash_nodup oo.told).mp c, fun p m => ?_⟩
  · rw [List.map_cons, List.nodup_cons]
    refine ⟨fun m => ?_, oo.nd⟩
    rw [others_times] at m
    have := (List.mem_filter.mp m).2
    simp at this
  · rcases List.mem_cons.mp m with rfl | m
    · exact g
    · exact oo.good p m
theorem hear_ok {ro : List Rk} {es es' : Es} {tr : Tr} (o : Ok ro es) (g : tr.good ro) (h : hear es tr = some es') : Ok ro es' ∧ es'.length ≤ es.length + 1 := by
  cases tr with
  | strike t =>
    have h : (if t ∈ es.map (·.1) then some (others es t) else none) = some es' := h
    split at h
    · obtain rfl := Option.some.inj h
      refine ⟨o.others t, ?_⟩
      have := List.length_filter_le (fun p : Int × Ev => decide (p.1 ≠ t)) es
      unfold K07.others
      omega
    · cases h
  | put t e =>
    obtain ⟨h1, h2, rfl⟩ := hearE_some (show hearE es true t e = some es' from h)
    refine ⟨o.after ⟨g.2.2, g.1, g.2.1⟩ h1 h2, ?_⟩
    have := (after_perm (e := e) o.nd h1).length_eq
    have l := List.length_filter_le (fun p : Int × Ev => decide (p.1 ≠ t)) es
    rw [this, List.length_cons]
    unfold K07.others
    omega
  | alter t e =>
    obtain ⟨h1, h2, rfl⟩ := hearE_some (show hearE es false t e = some es' from h)
    refine ⟨o.after ⟨g.2.2, g.1, g.2.1⟩ h1 h2, ?_⟩
    have := (after_perm (e := e) o.nd h1).length_eq
    have l := List.length_filter_le (fun p : Int × Ev => decide (p.1 ≠ t)) es
    rw [this, List.length_cons]
    unfold K07.others
    omega
theorem EvE.drop {H : Hp} {t : Int} : ∀ {kvs : List (Key × V)} {es : Es}, EvE H kvs es → EvE H (dropK kvs (Sum.inl t)) (others es t)
  | _, _, .nil => .nil
  | _, _, .cons (a := kv) (b := p) h r => by
    have ih := EvE.drop (t := t) r
    unfold dropK at ih ⊢
    unfold others at ih ⊢
    rw [List.filter_cons, List.filter_cons]
    by_cases c : p.1 = t
    · rw [if_neg (by rw [h.1, c]; simp), if_neg (by simp [c])]
      exact ih
    · rw [if_pos (by rw [h.1]; exact decide_eq_true fun z => c (Sum.inl.inj z)), if_pos (by simpa using c)]
      exact .cons h ih
theorem EvE.after {H : Hp} {kvs : List (Key × V)} {es : Es} {b : Bool} {t : Int} {e : Ev} {T : Addr} (h : EvE H kvs es) (i : Is H (.ref T) e.dt) (n : b ≠ decide (t ∈ es.map (·.1))) : EvE H (L2.putK kvs (Sum.inl t) (.ref T)) (after es b t e) := by
  unfold K07.after
  cases b with
  | true =>
    have nm : t ∉ es.map (·.1) := fun m => n (decide_eq_true m).symm
    rw [if_pos rfl, Sr.putK_new]
    · exact h.snoc i
    · rw [h.keys]
      exact fun m => by
        obtain ⟨p, mp, e⟩ := List.mem_map.mp m
        exact nm (List.mem_map.mpr ⟨p, mp, Sum.inl.inj e⟩)
  | false =>
    have m : t ∈ es.map (·.1) := by
      by_cases c : t ∈ es.map (·.1)
      · exact c
      · exact absurd (decide_eq_false c).symm n
    rw [if_neg (by simp), repl_put h m]
    exact EvE.repl i h
def spHeard : Sp := fun vs H Q _ => ∃ (d : Addr) (v : V) (kvs : List (Key × V)) (es es' : Es) (tr : Tr), vs = [.ref d, v] ∧ H d = some (.dK kvs) ∧ EvE H kvs es ∧ es.length ≤ 40 ∧ TrAt H v tr ∧ hear es tr = some es' ∧
  ∀ p H' kvs', H p = none → Same H H' → H' p = some (.dK kvs') → EvE H' kvs' es' → Q (.ref p) H'
section
variable {P : Program} {w : World} {K : PySem.W.Frag} {mg : Str → Option Value} {base : Heap}
abbrev s__heard : Stmt := top 37
theorem sc__heard : FnScope ["events", "truth", "later"] ["events", "truth"] (defScope s__heard) := ⟨rfl, rfl, rfl, by decide +kernel, rfl, by decide +kernel, by decide +kernel⟩
theorem c__heard (T : Txt K mg) (D : Dfn K mg "_heard" s__heard) : Cal P w K mg base 1 "_heard" ["events", "truth"] spHeard := by
  refine D.cal sc__heard (fun _ _ _ _ _ _ us hl => match us, hl with | [_, _], _ => rfl) (fun vs H Q E h => ?_) fun cdv A outer s H vs Q E hr h => ?_
  · obtain ⟨d, v, kvs, es, es', tr, rfl, _⟩ := h
    rfl
  obtain ⟨d, v, kvs, es, es', tr, rfl, hd, he, le, ⟨a, xs, rfl, hx, ia⟩, hh, q⟩ := h
  refine ⟨_, (pss_cons (ps_set (i := 2) sc__heard.nd rfl (by first | exact Or.inl rfl | exact Or.inr rfl) (pe_callTy (T := "dict") call_dictD (by rfl) T.dict (by decide +kernel) (pa_cons (pv 0) pa_nil)))
      (pss_cons (ps_if (pt_cmpR op_eq (pe_ix ix_seq (pv 1) pe_int (fun _ _ => rfl)) pe_str (nomark _)) (pss_one (ps_ddel (pv 2) (pe_ix ix_seq (pv 1) pe_int (fun _ _ => rfl)))) (pss_one (ps_dput (hu_of hr) (pv 2) (pe_ix ix_seq (pv 1) pe_int (fun _ _ => rfl)) (pe_ix ix_seq (pv 1) pe_int (fun _ _ => rfl)) rfl)))
      (pss_one (ps_ret (pv 2))))), ?_⟩
  have hsq := TrAt.seq (K := K) hx
  refine ⟨_, rfl, d, kvs, rfl, .inl hd, fun p hp => ?_⟩
  have s1 := Same.up (H := H) (o := .dK kvs) hp
  have tp : ∀ o, Tups (upd H p (.dK kvs)) (upd (upd H p (.dK kvs)) p o) := fun o => tups_set fun xs => by rw [upd_same]; intro z; cases z
  have he1 := he.keep (Tups.of s1)
  have sm : ∀ o, Same H (upd (upd H p (.dK kvs)) p o) := fun o => by rw [upd_upd]; exact Same.up hp
  have hcase : (∃ t, tr = .strike t) ∨ ∃ (w : Str) (b : Bool) (t : Int) (e : Ev), tr.row = [.str w, .int t, e.dt] ∧ decide (V.str w = V.str "strike") = false ∧ ∀ es, hear es tr = hearE es b t e := by
    cases tr with
    | strike t => exact .inl ⟨t, rfl⟩
    | put t e => exact .inr ⟨"put", true, t, e, rfl, decide_eq_false fun h => absurd (V.str.inj h) (by decide +kernel), fun _ => rfl⟩
    | alter t e => exact .inr ⟨"alter", false, t, e, rfl, decide_eq_false fun h => absurd (V.str.inj h) (by decide +kernel), fun _ => rfl⟩
  rcases hcase with ⟨t, rfl⟩ | ⟨w, b, t, e, er, es_, eh⟩
  · obtain ⟨rfl⟩ : xs = [.str "strike", .int t] := by
      cases ia with
      | cons i0 r => cases r with
        | cons i1 r => cases r; cases i0; cases i1; rfl
    have hh : (if t ∈ es.map (·.1) then some (others es t) else none) = some es' := hh
    have m : t ∈ es.map (·.1) := by
      by_cases c : t ∈ es.map (·.1)
      · exact c
      · rw [if_neg c] at hh; cases hh
    rw [if_pos m] at hh
    obtain rfl := Option.some.inj hh
    refine ⟨_, rfl, ix_any (seq_mono s1 hsq) (at_nat (i := 0) rfl) ⟨rfl, _, rfl, ?_⟩⟩
    rw [decide_eq_true rfl]
    refine iteT ⟨_, rfl, _, rfl, ix_any (seq_mono s1 hsq) (at_nat (i := 1) rfl) ⟨p, kvs, Sum.inl t, rfl, upd_same, rfl, by rw [he.has]; exact decide_eq_true m, ?_⟩⟩
    exact ⟨_, rfl, q p _ _ hp (sm _) upd_same ((EvE.drop he1).keep (tp _))⟩
  · rw [er] at ia
    obtain ⟨v2, rfl, i2⟩ : ∃ v2, xs = [.str w, .int t, v2] ∧ Is H v2 e.dt := by
      cases ia with
      | cons i0 r => cases r with
        | cons i1 r => cases r with
          | cons i2 r => cases r; cases i0; cases i1; exact ⟨_, rfl, i2⟩
    obtain ⟨T2, rfl⟩ := Ev.ref i2
    rw [eh] at hh
    obtain ⟨h1, h2, rfl⟩ := hearE_some hh
    refine ⟨_, rfl, ix_any (seq_mono s1 hsq) (at_nat (i := 0) rfl) ⟨rfl, _, rfl, ?_⟩⟩
    rw [es_]
    refine iteF ⟨_, rfl, ix_any (seq_mono s1 hsq) (at_nat (i := 2) rfl) ⟨_, rfl, _, rfl, ix_any (seq_mono s1 hsq) (at_nat (i := 1) rfl) ⟨p, _, rfl, DPut.k (k := Sum.inl t) upd_same (sz (m := 60) (by rw [Paired.length he]; omega)), ?_⟩⟩⟩
    exact ⟨_, rfl, q p _ _ hp (sm _) upd_same (EvE.after (he1.keep (tp _)) (is_tups (tp _) (i2.mono s1) e.tups) h1)⟩
end
end K07

set_option Elab.async false
set_option linter.all false
set_option maxRecDepth 100000
set_option maxHeartbeats 4000000
namespace K07
open PySem PySem.Spec PyProof.Rows L2 Sr
theorem dep_strs {n : Nat} {l : List Str} : Dep (n + 1) (.tup (l.map Dt.str)) := .tup n _ fun d m => by
  obtain ⟨s, _, rfl⟩ := List.mem_map.mp m
  exact .str _ _
/-! ### events as tuples are as they are kept -/
mutual
theorem frz_id : ∀ {d : Dt}, tupD d = true → frzD d = d
  | .tup l, h => by show Dt.tup (frzDs l) = _; rw [frzs_id h]
  | .lst _, h => by cases h
  | .dic, h => by cases h
  | .non, _ => rfl
  | .bl _, _ => rfl
  | .int _, _ => rfl
  | .str _, _ => rfl
theorem frzs_id : ∀ {l : List Dt}, tupDs l = true → frzDs l = l
  | [], _ => rfl
  | d :: r, h => by
    have h := Bool.and_eq_true_iff.mp h
    show frzD d :: frzDs r = _
    rw [frz_id h.1, frzs_id h.2]
end
theorem Ev.dep (e : Ev) : Dep 2 e.dt := by
  refine .tup 1 _ fun d m => ?_
  have str1 : ∀ ws : List Str, Dep 1 (.tup (ws.map Dt.str)) := fun ws => dep_strs
  cases e with
  | come n ws p h =>
    have m : d ∈ [Dt.str "come", .str n, .tup (ws.map Dt.str), .int p, homeD h] := m
    simp only [List.mem_cons, List.not_mem_nil, or_false] at m
    rcases m with rfl | rfl | rfl | rfl | rfl
    · exact .str _ _
    · exact .str _ _
    · exact str1 ws
    · exact .int _ _
    · cases h
      · exact .non _
      · exact .str _ _
  | change n ws =>
    have m : d ∈ [Dt.str "change", .str n, .tup (ws.map Dt.str)] := m
    simp only [List.mem_cons, List.not_mem_nil, or_false] at m
    rcases m with rfl | rfl | rfl
    · exact .str _ _
    · exact .str _ _
    · exact str1 ws
  | place k =>
    have m : d ∈ [Dt.str "place", .str k] := m
    simp only [List.mem_cons, List.not_mem_nil, or_false] at m
    rcases m with rfl | rfl <;> exact .str _ _
  | leave k =>
    have m : d ∈ [Dt.str "leave", .str k] := m
    simp only [List.mem_cons, List.not_mem_nil, or_false] at m
    rcases m with rfl | rfl <;> exact .str _ _
  | withdraw k =>
    have m : d ∈ [Dt.str "withdraw", .str k] := m
    simp only [List.mem_cons, List.not_mem_nil, or_false] at m
    rcases m with rfl | rfl <;> exact .str _ _
  | gather =>
    have m : d ∈ [Dt.str "gather"] := m
    simp only [List.mem_cons, List.not_mem_nil, or_false] at m
    rcases m with rfl
    exact .str _ _
  | round =>
    have m : d ∈ [Dt.str "round"] := m
    simp only [List.mem_cons, List.not_mem_nil, or_false] at m
    rcases m with rfl
    exact .str _ _
theorem EvE.evl {rs : List Rk} {H : Hp} : ∀ {kvs : List (Key × V)} {es : Es}, EvE H kvs es → (∀ p ∈ es, p.2.good rs) → EvL (rs.map (·.1)) H kvs es
  | _, _, .nil, _ => .nil
  | _, _, .cons (b := p) h r, g => by
    obtain ⟨e, T, e1, e2⟩ := h
    exact .cons ⟨e, _, e1 ▸ e2, p.2.plain, frz_id p.2.tups, p.2.dep, Ev.ok (g _ (List.mem_cons_self ..))⟩ (EvE.evl r fun q m => g q (List.mem_cons_of_mem _ m))

theorem OffR.evs {K : PySem.W.Frag} {H : Hp} {r off : Addr} {rs : List Rk} {kvs : List (Key × V)} {es : Es} (o : OffR K H off rs) (ne : rs ≠ []) (hr : H r = some (.dK kvs)) (he : EvE H kvs es) : OffX K H r off (rs.map (·.1)) := by
  refine o.offX fun dx d h z => ?_
  obtain ⟨dx', d', kvs', h1, h2, h3, nd⟩ := o
  rw [h1] at h
  have e : d' = d := by
    have := Option.some.inj h
    injection this with _ _ h
    have := (List.cons.inj h).1
    exact V.ref.inj (Prod.mk.inj this).2
  rw [e, z, hr] at h2
  cases h2
  cases h3 with
  | nil => exact ne rfl
  | cons a _ => cases he with
    | cons b _ =>
      have h1 := a.1
      rw [b.1] at h1
      cases h1
/-- the events by their times -/
theorem asc_of {es : Es} (nd : (es.map (·.1)).Nodup) : ∃ es' : Es, es'.Perm es ∧ es'.Pairwise fun p q => p.1 < q.1 := by
  refine ⟨es.mergeSort fun p q => decide (p.1 ≤ q.1), List.mergeSort_perm _ _, ?_⟩
  have s := List.pairwise_mergeSort (le := fun p q : Int × Ev => decide (p.1 ≤ q.1)) (fun a b c h1 h2 => decide_eq_true (Int.le_trans (of_decide_eq_true h1) (of_decide_eq_true h2))) (fun a b => by
    by_cases c : a.1 ≤ b.1
    · rw [decide_eq_true c]; rfl
    · rw [decide_eq_true (by omega : b.1 ≤ a.1), Bool.or_true]) es
  have n2 : ((es.mergeSort fun p q => decide (p.1 ≤ q.1)).map (·.1)).Nodup := ((List.mergeSort_perm es _).map _).nodup_iff.mpr nd
  exact (s.and (List.pairwise_map.mp n2)).imp fun h => by
    have := of_decide_eq_true h.1
    have := h.2
    omega
theorem Ok.times {ro : List Rk} {es : Es} (o : Ok ro es) (z : es.length ≤ 60) : timesOk es := ⟨fun p m => by have := o.good p m; omega, o.nd, z⟩
/-! ### several truths -/
def hearAll : Es → List (Option Tr) → Nat → Nat ⊕ Es
  | es, [], _ => .inr es
  | _, none :: _, n => .inl n
  | es, some tr :: r, n => match hear es tr with
    | none => .inl n
    | some es' => hearAll es' r (n + 1)
/-- a thing beside a truth: it is one, or none -/
def ItAt (rs : List Rk) (H : Hp) (v : V) : Option Tr → Prop
  | some tr => TrAt H v tr ∧ tr.good rs
  | none => ∃ d, Is H v d ∧ hdOk d ∧ truthOk (rs.map (·.1)) d = false
theorem TrAt.mono {H H' : Hp} (s : Same H H') {v : V} {tr : Tr} (h : TrAt H v tr) : TrAt H' v tr := by
  obtain ⟨a, xs, h1, h2, h3⟩ := h
  exact ⟨a, xs, h1, h2.imp (s _ _) (s _ _), h3.mono s⟩
theorem ItAt.mono {rs : List Rk} {H H' : Hp} (s : Same H H') {v : V} {o : Option Tr} (h : ItAt rs H v o) : ItAt rs H' v o := by
  cases o with
  | some tr => exact ⟨h.1.mono s, h.2⟩
  | none =>
    obtain ⟨d, h1, h2⟩ := h
    exact ⟨d, h1.mono s, h2⟩
theorem Tr.ok {rs : List Rk} {tr : Tr} (g : tr.good rs) : tl (rs.map (·.1)) tr.row = true := by
  have tk : ∀ t : Int, 0 ≤ t → t ≤ 1000 → timeOk (.int t) = true := fun t h1 h2 => by
    show (decide (0 ≤ t) && decide (t ≤ 1000000)) = true
    rw [decide_eq_true h1, decide_eq_true (by omega)]
    rfl
  have w : ∀ a b : Str, isW (.str a) b = decide (a = b) := fun _ _ => rfl
  cases tr with
  | strike t =>
    show (timeOk (.int t) && isW (.str "strike") "strike") = true
    rw [tk t g.1 g.2, w, decide_eq_true rfl]
    rfl
  | put t e =>
    show (timeOk (.int t) && !isW (.str "put") "strike" && ((isW (.str "put") "put" || isW (.str "put") "alter") && evOk (rs.map (·.1)) e.dt)) = true
    rw [tk t g.1 g.2.1, Ev.ok g.2.2]
    decide +kernel
  | alter t e =>
    show (timeOk (.int t) && !isW (.str "alter") "strike" && ((isW (.str "alter") "put" || isW (.str "alter") "alter") && evOk (rs.map (·.1)) e.dt)) = true
    rw [tk t g.1 g.2.1, Ev.ok g.2.2]
    decide +kernel
theorem Tr.hd (tr : Tr) : hdOk (.lst tr.row) ∧ hdOk (.tup tr.row) := by cases tr <;> exact ⟨fun _ => ⟨_, rfl⟩, fun _ => ⟨_, rfl⟩⟩
/-- what is_truth says of a thing -/
theorem ItAt.is {rs : List Rk} {H : Hp} {v : V} {o : Option Tr} (h : ItAt rs H v o) : ∃ d, Is H v d ∧ hdOk d ∧ truthOk (rs.map (·.1)) d = o.isSome := by
  cases o with
  | none => exact h
  | some tr =>
    obtain ⟨⟨a, xs, rfl, hx, ia⟩, g⟩ := h
    have z : xs.length ≤ 60 := by
      rw [ia.len]
      cases tr <;> first | exact (show (3 : Nat) ≤ 60 by decide) | exact (show (2 : Nat) ≤ 60 by decide)
    rcases hx with hx | hx
    · exact ⟨.lst tr.row, .lst hx ia z, tr.hd.1, Tr.ok g⟩
    · exact ⟨.tup tr.row, .tup hx ia z, tr.hd.2, Tr.ok g⟩
theorem its_is {rs : List Rk} {H : Hp} : ∀ {us : List V} {items : List (Option Tr)}, Paired (ItAt rs H) us items → ∃ ds, IsA H us ds
  | _, _, .nil => ⟨[], .nil⟩
  | _, _, .cons h r => by
    obtain ⟨d, i, _⟩ := h.is
    obtain ⟨ds, ia⟩ := its_is r
    exact ⟨d :: ds, .cons i ia⟩
theorem seq_is {rs : List Rk} {H : Hp} {a : Addr} {us : List V} {o : HO} {items : List (Option Tr)} (h : H a = some o) (so : seqO us o) (l : us.length ≤ 60) (pr : Paired (ItAt rs H) us items) : ∃ d, Is H (.ref a) d ∧ isSeq d = true := by
  obtain ⟨ds, ia⟩ := its_is pr
  rcases so with rfl | rfl
  · exact ⟨.lst ds, .lst h ia l, rfl⟩
  · exact ⟨.tup ds, .tup h ia l, rfl⟩
def spWith (K : PySem.W.Frag) : Sp := fun vs H Q E => ∃ (x off : Addr) (v : V) (es : Es) (rs : List Rk), vs = [.ref x, v] ∧ CouR K H x off es ∧ OffR K H off rs ∧ rs ≠ [] ∧ Ok rs es ∧ es.length ≤ 20 ∧
  ((∃ d, Is H v d ∧ isSeq d = false ∧ ∀ H' e, Same H H' → H' e = none → E (.ref (He.ga K "BadTruth")) (some e) (upd H' e (.xd [("index", .int 0)]))) ∨
   ∃ (a : Addr) (us : List V) (o : HO) (items : List (Option Tr)), v = .ref a ∧ H a = some o ∧ seqO us o ∧ us.length ≤ 20 ∧ Paired (ItAt rs H) us items ∧
    (∀ n, hearAll es items 0 = .inl n → ∀ H' e, Same H H' → H' e = none → E (.ref (He.ga K "BadTruth")) (some e) (upd H' e (.xd [("index", .int (n : Nat))]))) ∧
    ∀ es', hearAll es items 0 = .inr es' → ∀ c H' es2, Same H H' → H c = none → es2.Perm es' → (es2.Pairwise fun p q => p.1 < q.1) → Ok rs es' → es'.length ≤ 40 → CouR K H' c off es2 → Q (.ref c) H')
section
variable {P : Program} {w : World} {K : PySem.W.Frag} {mg : Str → Option Value} {base : Heap}
abbrev s_BadTruth___init__ : Stmt := inClass (top 28) 0
theorem sc_BadTruth___init__ : FnScope ["self", "index"] ["self", "index"] (defScope s_BadTruth___init__) := ⟨rfl, rfl, rfl, by decide +kernel, rfl, by decide +kernel, by decide +kernel⟩
theorem m_BadTruth (E : Err K (He.ga K "BadTruth") (He.fAd K ("BadTruth", some "__init__")) "index") (D : DfnM K "BadTruth" "__init__" "BadTruth.__init__" s_BadTruth___init__) :
    CalM P w K mg base CX0 1 (He.fAd K ("BadTruth", some "__init__")) ["self", "index"] (spErr K (He.ga K "BadTruth") "index") := by
  refine D.cal sc_BadTruth___init__ (fun _ _ _ _ _ _ us hl => match us, hl with | [_, _], _ => rfl) (fun vs H Q E' h => ?_) fun cdv A outer s H vs Q E' hr h => ?_
  · obtain ⟨a, v, rfl, _⟩ := h
    rfl
  obtain ⟨a, v, rfl, ha, q⟩ := h
  refine ⟨_, (pss_one (ps_ost (pv 0) (pv 1))), ?_⟩
  exact ⟨_, rfl, _, rfl, a, _, rfl, E.oex, E.no, .inl ⟨ha, q⟩⟩

abbrev s_Course_with_truths : Stmt := inClass (top 34) 2
theorem sc_Course_with_truths : FnScope ["self", "truths", "events", "index", "truth"] ["self", "truths"] (defScope s_Course_with_truths) := ⟨rfl, rfl, rfl, by decide +kernel, rfl, by decide +kernel, by decide +kernel⟩
theorem m_cwith (T : Txt K mg) (O : Cou K mg) (R : ErrAt P w K mg base "BadTruth" "index" "index") (D : DfnM K "Course" "with_truths" "Course.with_truths" s_Course_with_truths) (Mk0 : MkC P w K mg base) (C_is_list : Cal P w K mg base 1 "is_list" ["thing"] (spB isSeq))
    (C_is_truth : Cal P w K mg base 5 "is_truth" ["office", "thing"] (spTruth K)) (C_can_be_heard : Cal P w K mg base 2 "_can_be_heard" ["events", "truth"] spCan) (C_heard : Cal P w K mg base 1 "_heard" ["events", "truth"] spHeard) :
    CalM P w K mg base (L2.CX P w) 7 (He.fAd K ("Course", some "with_truths")) ["self", "truths"] (spWith K) := by
  refine D.calE sc_Course_with_truths (fun _ _ _ _ _ _ us hl => match us, hl with | [_, _], _ => rfl) (fun vs H Q E h => ?_) fun cdv A outer s H vs Q E hr h => ?_
  · obtain ⟨x, off, v, es, rs, rfl, _⟩ := h
    rfl
  obtain ⟨x, off, v, es, rs, rfl, co, oo, ne, ok, le, h⟩ := h
  refine ⟨_, (pss_cons (ps_if (pt_not (pt_val (pe_cal C_is_list hr (by first | decide | omega) (by rfl) (pa_cons (pv 1) pa_nil)))) (pss_one (ps_raise rfl (takes_of rfl rfl rfl rfl) (R.mk_ hr (by decide) (by rfl) (pa_cons pe_int pa_nil)))) pss_nil)
      (pss_cons (ps_set (i := 2) sc_Course_with_truths.nd rfl (by first | exact Or.inl rfl | exact Or.inr rfl) (pe_fld (pv 0) rfl))
      (pss_cons (ps_for (L2.passes_of rfl) rfl (pi_enumS (by rfl) T.enumerate (pa_cons (pv 1) pa_nil)) (pg_tup rfl (pgs_cons (pg_name (i := 3) sc_Course_with_truths.nd rfl (by first | exact Or.inl rfl | exact Or.inr rfl)) (pgs_cons (pg_name (i := 4) sc_Course_with_truths.nd rfl (by first | exact Or.inl rfl | exact Or.inr rfl)) pgs_nil)))
      (pss_cons (ps_if (PW.pt (pw_or (pt_not (pt_val (pe_cal C_is_truth hr (by first | decide | omega) (by rfl) (pa_cons (pe_fld (pv 0) rfl) (pa_cons (pv 4) pa_nil))))) (pw_or1 (pt_not (pt_val (pe_cal C_can_be_heard hr (by first | decide | omega) (by rfl) (pa_cons (pv 2) (pa_cons (pv 4) pa_nil)))))))) (pss_one (ps_raise rfl (takes_of rfl rfl rfl rfl) (R.mk_ hr (by decide) (by rfl) (pa_cons (pv 3) pa_nil)))) pss_nil)
      (pss_one (ps_set (i := 2) sc_Course_with_truths.nd rfl (by first | exact Or.inl rfl | exact Or.inr rfl) (pe_cal C_heard hr (by first | decide | omega) (by rfl) (pa_cons (pv 2) (pa_cons (pv 4) pa_nil)))))))
      (pss_one (ps_ret (MkC.pe (K := K) (w := w) Mk0 rfl rfl hr (by decide) (by rfl) passes_never (pa_cons (pe_fld (pv 0) rfl) (pa_cons (pv 2) pa_nil)))))))), ?_⟩
  obtain ⟨dx, d, kvs, h1, h2, h3⟩ := id co
  rcases h with ⟨dt, iv, hs, q⟩ | ⟨a, us, o, items, rfl, ho, so, lu, pr, qE, qC⟩
  · refine ⟨_, rfl, v, dt, rfl, iv, fun H1 s1 => ⟨_, rfl, ?_⟩⟩
    rw [hs]
    exact iteT (err_at fun e he => q H1 e s1 he)
  · obtain ⟨dt, iv, hs⟩ := seq_is ho so (by omega) pr
    refine ⟨_, rfl, .ref a, dt, rfl, iv, fun H1 s1 => ⟨_, rfl, ?_⟩⟩
    rw [hs]
    obtain ⟨J, wJ, put⟩ := seq_walkE (K := K) (a := a) so
    have ll : us.length = items.length := Paired.length pr
    refine iteF ⟨_, rfl, x, _, dx, _, _, rfl, s1 _ _ h1, O.cl, O.nE, rfl, ?_⟩
    refine ⟨_, rfl, a, rfl, put _ _ (s1 _ _ ho) (for_it wJ (fun i σ H' => ∃ u3 u4 p kv es1, σ = [some (.ref x), some (.ref a), some (.ref p), u3, u4] ∧ Same H H' ∧ H' p = some (.dK kv) ∧ EvE H' kv es1 ∧ Ok rs es1 ∧ es1.length ≤ es.length + i ∧ hearAll es items 0 = hearAll es1 (items.drop i) i)
      ⟨_, _, d, kvs, es, rfl, s1, s1 _ _ h2, h3.keep (Tups.of s1), ok, Nat.le_refl _, rfl⟩ (fun i σ H' hi p => ?_) ?_ ?_)⟩
    · obtain ⟨_, _, _, _, _, _, s2, _⟩ := p
      exact s2 _ _ ho
    · rintro i u σ H2 H3' hi ⟨u3, u4, p, kv, es1, rfl, s2, hp, he, ok1, le1, eq1⟩ ⟨T', pi, y, rfl, hT, rfl, hpi, hy⟩
      obtain rfl : V.int (i : Nat) = pi := Option.some.inj hpi
      have hi2 : i < items.length := by omega
      have hit := List.getElem?_eq_getElem hi2
      have ity := Paired.at2 pr hy hit
      have s3 := Same.up (H := H2) (o := .tup [.int (i : Nat), y]) hT
      generalize hH3 : upd H2 T' (.tup [.int (i : Nat), y]) = H3 at s3
      have hT3 : H3 T' = some (.tup [.int (i : Nat), y]) := by rw [← hH3]; exact upd_same
      have s03 := s2.trans s3
      have edrop : items.drop i = items[i] :: items.drop (i + 1) := List.drop_eq_getElem_cons hi2
      rw [edrop] at eq1
      obtain ⟨dy, iy, hdy, ty⟩ := ity.is
      refine ⟨T', _, rfl, SqT.of hT3, rfl, _, _, rfl, _, _, rfl, rfl, ?_⟩
      refine ⟨_, rfl, x, _, dx, _, _, rfl, s03 _ _ h1, O.cl, O.nO, rfl, _, rfl, off, y, rs.map (·.1), dy, rfl, (oo.mono s03).at_, iy.mono s03, hdy, fun H4 s4 => ⟨_, rfl, ?_⟩⟩
      rw [ty]
      have s34 := s3.trans s4
      have s04 := s2.trans s34
      cases hI : items[i] with
      | none =>
        rw [hI] at eq1
        refine iteT (iteT ⟨_, rfl, err_at fun e he => ?_⟩)
        exact qE i (eq1.trans rfl) H4 e s04 he
      | some tr =>
        rw [hI] at eq1 ity
        obtain ⟨tat, tg⟩ := ity
        refine iteF ⟨_, rfl, _, rfl, p, y, kv, es1, tr, rfl, s34 _ _ hp, he.keep (Tups.of s34), ok1.nd, by omega, tat.mono s04, fun H5 s5 => ⟨_, rfl, ?_⟩⟩
        have s35 := s34.trans s5
        have s05 := s2.trans s35
        have eqn : hearAll es1 (some tr :: items.drop (i + 1)) i = match hear es1 tr with
          | none => .inl i
          | some es' => hearAll es' (items.drop (i + 1)) (i + 1) := rfl
        rw [eqn] at eq1
        cases hh : hear es1 tr with
        | none =>
          rw [hh] at eq1
          refine iteT ⟨_, rfl, err_at fun e he => ?_⟩
          exact qE i eq1 H5 e s05 he
        | some es2 =>
          rw [hh] at eq1
          obtain ⟨ok2, le2⟩ := hear_ok ok1 tg hh
          refine iteF ⟨_, rfl, _, rfl, p, y, kv, es1, es2, tr, rfl, s35 _ _ hp, he.keep (Tups.of s35), by omega, tat.mono s05, hh, fun p2 H6 kv2 np s6 hp2 he2 => ?_⟩
          exact ⟨_, _, p2, kv2, es2, rfl, s05.trans s6, hp2, he2, ok2, by omega, eq1⟩
    · rintro σ H2 ⟨u3, u4, p, kv, es1, rfl, s2, hp, he, ok1, le1, eq1⟩
      rw [ll, List.drop_length] at eq1
      obtain ⟨es2, pm, asc⟩ := asc_of ok1.nd
      refine ⟨_, rfl, x, _, dx, _, _, rfl, s2 _ _ h1, O.cl, O.nO, rfl, _, rfl, ?_⟩
      delta tNil
      dsimp only
      have oH := oo.mono s2
      have told2 : (toldOf es2).Nodup := (told_perm pm).nodup_iff.mpr ok1.told
      refine ok_course hp (oH.evs ne hp he) oH.at_ (he.evl fun p m => (ok1.good p m).1) (ok1.times (by omega)) pm asc (fresh_of told2) fun c H3 hc s3 cc => ?_
      have nc : H c = none := by
        cases z : H c with
        | none => rfl
        | some o => rw [s2 _ _ z] at hc; cases hc
      exact qC es1 eq1 c H3 es2 (s2.trans s3) nc pm asc ok1 (by omega) cc
end
end K07

set_option Elab.async false
set_option linter.all false
set_option maxRecDepth 100000
set_option maxHeartbeats 4000000
namespace K07
open PySem PySem.Spec PyProof.Rows L2 Sr
/-! ### the law's office -/
def PairL (D : Addr) (H : Hp) (p : Rk) (v : V) : Prop := ∃ t u, v = .ref t ∧ H t = some (.tup [.str p.1, .ref u]) ∧ H u = some (.lst (p.2.map V.str)) ∧ u ≠ D
theorem PairL.mono {D : Addr} {H H' : Hp} (e : Same H H') {p : Rk} {v : V} (h : PairL D H p v) : PairL D H' p v := by
  obtain ⟨t, u, h1, h2, h3, h4⟩ := h
  exact ⟨t, u, h1, e _ _ h2, e _ _ h3, h4⟩
theorem PairL.lay {D : Addr} {H : Hp} {c c' : List V} (hD : H D = some (.lst c)) {p : Rk} {v : V} (h : PairL D H p v) : PairL D (upd H D (.lst c')) p v := by
  obtain ⟨t, u, h1, h2, h3, h4⟩ := h
  exact ⟨t, u, h1, by rw [upd_ne (ne_of h2 hD (by intro z; cases z))]; exact h2, by rw [upd_ne h4]; exact h3, h4⟩
theorem pairL_of {D : Addr} {H : Hp} : ∀ {acc : List V} {rs : List Rk}, Paired (fun v p => PairL D H p v) acc rs →
    ∃ (ts : List Addr) (kvs : List (Key × V)), acc = ts.map V.ref ∧ Paired (fun p kv => H p = some (.tup [kV kv.1, kv.2])) ts kvs ∧ EntR (LstV H) kvs rs
  | _, _, .nil => ⟨[], [], rfl, .nil, .nil⟩
  | _, _, .cons (b := p) h r => by
    obtain ⟨ts, kvs, e1, e2, e3⟩ := pairL_of r
    obtain ⟨t, u, h1, h2, h3, _⟩ := h
    exact ⟨t :: ts, (Sum.inr p.1, .ref u) :: kvs, by rw [h1, e1]; rfl, .cons h2 e2, .cons ⟨rfl, u, rfl, h3⟩ e3⟩
def spOffice (K : PySem.W.Frag) : Sp := fun vs H Q _ => ∃ (r : Addr) (kvs : List (Key × V)) (rs : List Rk), vs = [.ref r] ∧ H r = some (.dK kvs) ∧ EntR (LstV H) kvs rs ∧ drawnR rs ∧
  ∀ x H' ys, Same H H' → H x = none → ys.Perm (rs.map (·.1)) → PyProof.Rows.sortedS ys = true → OffR K H' x (byName rs ys) → Q (.ref x) H'
section
variable {P : Program} {w : World} {K : PySem.W.Frag} {mg : Str → Option Value} {base : Heap}
abbrev s__law_office : Stmt := top 48
theorem sc__law_office : FnScope ["ranks", "kind"] ["ranks"] (defScope s__law_office) := ⟨rfl, rfl, rfl, by decide +kernel, rfl, by decide +kernel, by decide +kernel⟩
theorem c__law_office (T : Txt K mg) (D : Dfn K mg "_law_office" s__law_office) (Mk0 : MkO P w K mg base) : Cal P w K mg base 6 "_law_office" ["ranks"] (spOffice K) := by
  refine D.cal sc__law_office (fun _ _ _ _ _ _ us hl => match us, hl with | [_], _ => rfl) (fun vs H Q E h => ?_) fun cdv A outer s H vs Q E hr h => ?_
  · obtain ⟨r, kvs, rs, rfl, _⟩ := h
    rfl
  obtain ⟨r, kvs, rs, rfl, hr0, er, dr, q⟩ := h
  have l4 := dr.2.1
  have lk : kvs.length = rs.length := Paired.length er
  have nk := keys_nodup er dr.1
  refine ⟨_, (pss_one (ps_ret (MkO.pe (K := K) (w := w) Mk0 rfl rfl hr (by decide) (by rfl) passes_never (pa_cons (pe_callTy (T := "dict") (call_dictP rfl) (by rfl) T.dict (by decide +kernel) (pa_cons (pe_lock (pe_lc (own := [("kind", 1)]) (g := gName 1) (tt := tYes) rfl sc__law_office.nd (pi_keys (pv 0)) (blkOk_by (N := ["ranks", "kind"]) (sc := defScope s__law_office) (by decide +kernel)) (fun _ _ _ _ _ => (pg_name (i := 1) sc__law_office.nd rfl (by first | exact Or.inl rfl | exact Or.inr rfl))) (fun _ _ _ _ _ => pts_nil) (fun _ _ _ _ _ => (pe_tup (pa_cons (pv 1) (pa_cons (pe_callTy (T := "list") (call_list_ofK K rfl) (by rfl) T.list (by decide +kernel) (pa_cons (pe_dget (hu_of hr) (pv 0) (pv 1) (fun _ _ => rfl)) pa_nil)) pa_nil)))))) pa_nil)) pa_nil)))), ?_⟩
  refine ⟨r, _, hr0, trivial, fun od => ?_⟩
  refine ⟨_, rfl, r, od, rfl, .inl ⟨_, upd_same, fun D hD => lc_genD walk_keys (At := fun i _ x => ∃ k v, kvs[i]? = some (k, v) ∧ x = kV k) (fun i H x H' y => y) rs (fun _ => true) lk.symm (sz (m := 60) (by omega)) hD (fun H' s' => s' _ _ upd_same)
    (fun H' p y => PairL D H' p y) (fun _ _ _ _ e h => h.mono e) (fun _ _ _ _ _ e h => h.lay e) (fun i x p H3 A B hi hx hp hDn s3 kA kB => ?_) (fun H3 acc s3 h3 pr => ?_)⟩⟩
  · obtain ⟨k, v, e1, rfl⟩ := hx
    obtain ⟨ek, t, ev, ht⟩ := Paired.at2 er e1 hp
    have ek : k = Sum.inr p.1 := ek
    have ev : v = .ref t := ev
    subst ek ev
    have vv := val_nodup nk _ (List.mem_of_getElem? e1)
    have nt : t ≠ r := ne_of ht hr0 (by intro z; cases z)
    have ht3 := s3 _ _ ((upd_ne nt).trans ht)
    exact ⟨rfl, _, rfl, _, rfl, _, rfl, r, .ref t, rfl, .inl ⟨kvs, Sum.inr p.1, .inr ⟨od, s3 _ _ upd_same⟩, rfl, vv.symm⟩, t, _, rfl, .inl (SqL.of ht3), fun u hu => ⟨lineN (n := 2), fun t2 ht2 => kA rfl _ _ ((Same.up hu).trans (Same.up ht2)) ⟨t2, u, rfl, upd_same, (Same.up ht2) _ _ upd_same, fun z => hDn (by rw [← z]; exact hu)⟩⟩⟩
  · rw [List.filter_eq_self.mpr fun _ _ => rfl] at pr
    obtain ⟨ts, kv2, eacc, pp, en⟩ := pairL_of pr
    subst eacc
    have fz := s3 _ _ upd_same
    have sH : Same H (upd H3 r (.dK kvs)) := fun b o hb => by
      by_cases c3 : b = r
      · rw [c3, hr0] at hb
        cases hb
        rw [c3]
        exact upd_same
      · rw [upd_ne c3]
        exact s3 _ _ (by rw [upd_ne c3]; exact hb)
    have sk : SeqsK H3 (upd H3 r (.dK kvs)) := fun b xs => ⟨fun e => by rw [upd_ne (ne_of e fz (by intro z; cases z))]; exact e, fun e => by rw [upd_ne (ne_of e fz (by intro z; cases z))]; exact e⟩
    have en2 : EntR (LstV (upd H3 r (.dK kvs))) kv2 rs := en.imp fun v ws ⟨t, e1, e2⟩ => ⟨t, e1, (sk t _).2 e2⟩
    refine ⟨fz, D, ts, kv2, rfl, SqL.of ((sk D _).2 h3), ?_, fun f hf => ?_⟩
    · exact L2.Paired.mapP pp fun _ _ h => SqT.of ((sk _ _).1 h)
    rw [merge_ent en2 dr.1]
    have s6 := Same.up (o := .dK kv2) hf
    refine ok_office upd_same (en2.imp fun v ws h => (h.mono s6).seq) dr.good fun x H6 ys hx s7 p7 srt o7 => ?_
    have sF := sH.trans (s6.trans s7)
    refine q x H6 ys sF ?_ p7 srt o7
    cases z : H x with
    | none => rfl
    | some o => 
      have := (sH.trans s6) _ _ z
      rw [hx] at this
      cases this
end
end K07

set_option Elab.async false
set_option linter.all false
set_option maxRecDepth 100000
set_option maxHeartbeats 4000000
namespace Sr
open PySem PySem.Spec PyProof.Rows L2
/-! ### list.count of a text in a list of texts -/
def eqks (k : Str) (v : Value) : Bool := match v with
  | .str n _ => n.cps.toList == k.cps.toList
  | _ => false
theorem cps_eq (a b : Str) : (a.cps.toList == b.cps.toList) = (a == b) := by
  obtain ⟨⟨a⟩⟩ := a
  obtain ⟨⟨b⟩⟩ := b
  by_cases c : a = b
  · subst c
    rw [beq_self_eq_true, beq_self_eq_true]
  · rw [beq_eq_false_iff_ne.mpr c, beq_eq_false_iff_ne.mpr]
    intro h
    injection h with h
    injection h with h
    exact c h
theorem eqks_gives {k : Str} {t : Tok} : ∀ {us : List Value} {ns : List Str}, StrsAre us ns → ∀ y ∈ us, MeetsSeq.EqGives y (.str k t) (eqks k y)
  | _, _, .nil => fun y hy => by cases hy
  | _, _, .cons n t' h => fun y hy => by
    rcases List.mem_cons.mp hy with e | e
    · rw [e]
      exact SeqRoads2.EqGives.str n k t' t
    · exact eqks_gives h y e
theorem eqks_count {k : Str} : ∀ {us : List Value} {ns : List Str}, StrsAre us ns → us.countP (eqks k) = ns.count k
  | _, _, .nil => rfl
  | _, _, .cons n t h => by
    have ih := eqks_count (k := k) h
    rw [List.countP_cons, List.count_cons, ih]
    show _ + (if (n.cps.toList == k.cps.toList) = true then 1 else 0) = _
    rw [cps_eq]
section
variable {X : Cx}
def rCntS (K : PySem.W.Frag) : V → List V → Hp → VK → Prop := fun x xs H Q => ∃ (p : Addr) (ns : List Str) (k : Str), x = .ref p ∧ xs = [.str k] ∧ SqL K H p (ns.map V.str) ∧ Q (.int (ns.count k : Nat)) H
theorem mt_scount : MtR X "list.count" (rCntS X.K) := by
  intro pins s σ H x xs v us Q I rx rxs h
  obtain ⟨p, ns, k, rfl, rfl, hs, q⟩ := h
  cases rx
  obtain ⟨u, rfl, ru⟩ := rxs.one
  obtain ⟨t, rfl⟩ := ru
  obtain ⟨its, rv, ⟨⟨cls, dd, data, sl⟩, n, ho, hc, hdn, hd⟩, hlen⟩ := I.list hs
  simp only at hc hd
  subst hc hd
  have hi := strs_of_vals rv
  refine call_meets PySem.F.slot_list_count ⟨_, ho, rfl⟩ PySem.F.entry_list_count (PySem.F.args_list_count_2 _ _)
    (SeqAt.list_countAt p its.toArray n dd sl (.str k t) (eqks k)) ⟨ho, fun y hy => (eqks_gives hi y (by simpa using hy)).at _ _, ?_⟩
  have ec : its.toArray.toList.countP (eqks k) = ns.count k := eqks_count hi
  refine ⟨.int (ns.count k : Nat), H, I.tok _, ⟨s.toks, ?_⟩, q⟩
  show Value.int ((its.toArray.toList.countP (eqks k) : Nat) : Int) s.toks = Value.int ((ns.count k : Nat) : Int) s.toks
  rw [ec]
theorem mt_scountK (K : PySem.W.Frag) (hK : X.K = K) : MtR X "list.count" (rCntS K) := hK ▸ mt_scount
end
end Sr

set_option Elab.async false
set_option linter.all false
set_option maxRecDepth 100000
set_option maxHeartbeats 4000000
namespace K07
open PySem PySem.Spec PyProof.Rows L2 Sr
/-! ### the law's own hearing -/
def TrsAt (rs : List Rk) (H : Hp) (us : List V) (trs : List Tr) : Prop := Paired (fun v tr => TrAt H v tr ∧ tr.good rs) us trs
theorem TrsAt.mono {rs : List Rk} {H H' : Hp} (s : Same H H') {us : List V} {trs : List Tr} (h : TrsAt rs H us trs) : TrsAt rs H' us trs := L2.Paired.mapP h fun _ _ h => ⟨h.1.mono s, h.2⟩
theorem TrsAt.its {rs : List Rk} {H : Hp} : ∀ {us : List V} {trs : List Tr}, TrsAt rs H us trs → Paired (ItAt rs H) us (trs.map some)
  | _, _, .nil => .nil
  | _, _, .cons h r => .cons h (TrsAt.its r)
def spBehind : Sp := fun vs H Q _ => ∃ (f l : Addr) (kvs : List (Key × V)) (es : Es) (rs : List Rk) (us : List V) (trs : List Tr), vs = [.ref f, .ref l] ∧ H f = some (.dK kvs) ∧ EvE H kvs es ∧ Ok rs es ∧ es.length ≤ 20 ∧ H l = some (.lst us) ∧ us.length ≤ 10 ∧ TrsAt rs H us trs ∧
  (∀ n, hearAll es (trs.map some) 0 = .inl n → ∀ t H', Same H H' → H t = none → H' t = some (.tup [.non, .int (n : Nat)]) → Q (.ref t) H') ∧
  ∀ es', hearAll es (trs.map some) 0 = .inr es' → Ok rs es' → es'.length ≤ 30 → ∀ t p kv H', Same H H' → H t = none → H p = none → H' t = some (.tup [.ref p, .non]) → H' p = some (.dK kv) → EvE H' kv es' → Q (.ref t) H'
theorem come_told (e : Ev) : (∃ n r, e.told = some n ∧ e.row = .str "come" :: .str n :: r) ∨ (e.told = none ∧ ∃ w r, e.row = .str w :: r ∧ w ≠ "come") := by
  cases e with
  | come n ws p h => exact .inl ⟨n, _, rfl, rfl⟩
  | place k => exact .inr ⟨rfl, "place", _, rfl, by decide +kernel⟩
  | leave k => exact .inr ⟨rfl, "leave", _, rfl, by decide +kernel⟩
  | withdraw k => exact .inr ⟨rfl, "withdraw", _, rfl, by decide +kernel⟩
  | change n ws => exact .inr ⟨rfl, "change", _, rfl, by decide +kernel⟩
  | gather => exact .inr ⟨rfl, "gather", _, rfl, by decide +kernel⟩
  | round => exact .inr ⟨rfl, "round", _, rfl, by decide +kernel⟩
/-- the names of those that come, by a filter -/
def comes (es : Es) : Es := es.filter fun p => p.2.told.isSome
theorem told_comes (es : Es) : (comes es).map (fun p => tolV p.2.told) = (toldOf es).map V.str := by
  induction es with
  | nil => rfl
  | cons p r ih =>
    unfold comes at ih ⊢
    rw [told_cons, List.filter_cons]
    cases h : p.2.told with
    | none =>
      rw [if_neg (by simp)]
      exact ih
    | some n =>
      rw [if_pos (show (some n).isSome = true from rfl), List.map_cons, List.map_cons, ih, h]
      rfl
/-- a word, its time, and what comes of it where no names are looked at -/
theorem hear_step {rs : List Rk} {es : Es} (ok : Ok rs es) {tr : Tr} (g : tr.good rs) : (∃ t, tr = .strike t ∧ tr.row = [.str "strike", .int t]) ∨ ∃ (w : Str) (b : Bool) (t : Int) (e : Ev), tr.row = [.str w, .int t, e.dt] ∧ decide (V.str w = V.str "put") = b ∧ decide (V.str w = V.str "strike") = false ∧ (e.good rs ∧ 0 ≤ t ∧ t ≤ 1000) ∧
    hear es tr = hearE es b t e := by
  cases tr with
  | strike t => exact .inl ⟨t, rfl, rfl⟩
  | put t e => exact .inr ⟨"put", true, t, e, rfl, decide_eq_true rfl, decide_eq_false fun h => absurd (V.str.inj h) (by decide +kernel), ⟨g.2.2, g.1, g.2.1⟩, rfl⟩
  | alter t e => exact .inr ⟨"alter", false, t, e, rfl, decide_eq_false fun h => absurd (V.str.inj h) (by decide +kernel), decide_eq_false fun h => absurd (V.str.inj h) (by decide +kernel), ⟨g.2.2, g.1, g.2.1⟩, rfl⟩
theorem clash_after {rs : List Rk} {es : Es} (ok : Ok rs es) {b : Bool} {t : Int} {e : Ev} (h : b ≠ decide (t ∈ es.map (·.1))) : clash e (others es t) = false ↔ (toldOf (after es b t e)).Nodup :=
  (clash_nodup (t := t) (ok.others t).told).trans (told_perm (after_perm ok.nd h)).nodup_iff.symm
theorem any_count (ns : List Str) : (ns.map fun n => decide (1 < (ns.count n : Int))).any id = !decide ns.Nodup := by
  by_cases c : ns.Nodup
  · rw [decide_eq_true c]
    refine List.any_eq_false.mpr fun x m => ?_
    obtain ⟨n, _, rfl⟩ := List.mem_map.mp m
    have := List.nodup_iff_count.mp c n
    simp
    omega
  · rw [decide_eq_false c]
    have : ¬ ∀ a, ns.count a ≤ 1 := fun h => c (List.nodup_iff_count.mpr h)
    obtain ⟨a, ha⟩ := Classical.not_forall.mp this
    have m : a ∈ ns := List.count_pos_iff.mp (by omega)
    exact List.any_eq_true.mpr ⟨_, List.mem_map_of_mem m, decide_eq_true (by omega)⟩
section
variable {P : Program} {w : World} {K : PySem.W.Frag} {mg : Str → Option Value} {base : Heap}
abbrev s__law_behind : Stmt := top 49
theorem sc__law_behind : FnScope ["events", "truths", "found", "number", "truth", "names", "word", "time", "at", "name"] ["events", "truths"] (defScope s__law_behind) := ⟨rfl, rfl, rfl, by decide +kernel, rfl, by decide +kernel, by decide +kernel⟩
theorem c__law_behind (T : Txt K mg) (D : Dfn K mg "_law_behind" s__law_behind) : Cal P w K mg base 1 "_law_behind" ["events", "truths"] spBehind := by
  refine D.cal sc__law_behind (fun _ _ _ _ _ _ us hl => match us, hl with | [_, _], _ => rfl) (fun vs H Q E h => ?_) fun cdv A outer s H vs Q E hr h => ?_
  · obtain ⟨f, l, kvs, es, rs, us, trs, rfl, _⟩ := h
    rfl
  obtain ⟨f, l, kvs, es, rs, us, trs, rfl, hf, he, ok, le, hl, lu, tat, qE, qC⟩ := h
  refine ⟨_, (pss_cons (ps_set (i := 2) sc__law_behind.nd rfl (by first | exact Or.inl rfl | exact Or.inr rfl) (pe_callTy (T := "dict") call_dictD (by rfl) T.dict (by decide +kernel) (pa_cons (pv 0) pa_nil)))
      (pss_cons (ps_for PassesOwn.never rfl (pi_enum (by rfl) T.enumerate (pa_cons (pv 1) pa_nil)) (pg_tup rfl (pgs_cons (pg_name (i := 3) sc__law_behind.nd rfl (by first | exact Or.inl rfl | exact Or.inr rfl)) (pgs_cons (pg_name (i := 4) sc__law_behind.nd rfl (by first | exact Or.inl rfl | exact Or.inr rfl)) pgs_nil)))
      (pss_cons (ps_par (i := 6) (j := 7) (by rfl) sc__law_behind.nd rfl rfl (by decide) rfl rfl (pa_cons (pe_ix ix_seq (pv 4) pe_int (fun _ _ => rfl)) (pa_cons (pe_ix ix_seq (pv 4) pe_int (fun _ _ => rfl)) pa_nil)) (by rfl))
      (pss_cons (ps_if (pt_cmpR op_eq (pe_cmpR op_eq (pv 6) pe_str (nomark _)) (pe_cmp (pc_din (hu_of hr) (pv 7) (pv 2)) rfl) (nomark _)) (pss_one (ps_ret (pe_tup (pa_cons pe_non (pa_cons (pv 3) pa_nil))))) pss_nil)
      (pss_cons (ps_if (pt_cmpR op_eq (pv 6) pe_str (nomark _)) (pss_one (ps_expr (pe_dpop1 (pv 2) (pv 7) ⟨rfl, by rfl, rfl, rfl⟩))) (pss_one (ps_dput (hu_of hr) (pv 2) (pv 7) (pe_ix ix_seq (pv 4) pe_int (fun _ _ => rfl)) rfl)))
      (pss_cons (ps_set (i := 5) sc__law_behind.nd rfl (by first | exact Or.inl rfl | exact Or.inr rfl) (pe_lock (pe_lc (own := [("at", 8)]) (g := gName 8) rfl sc__law_behind.nd (pi_keys (pv 2)) (blkOk_by (N := ["events", "truths", "found", "number", "truth", "names", "word", "time", "at", "name"]) (sc := defScope s__law_behind) (by decide +kernel)) (fun _ _ _ _ _ => (pg_name (i := 8) sc__law_behind.nd rfl (by first | exact Or.inl rfl | exact Or.inr rfl))) (fun _ _ _ _ _ => (pts_one (pt_cmpR op_eq (pe_ix (ix_tupK K rfl) (pe_dget (hu_of hr) (pv 2) (pv 8) (fun _ _ => rfl)) pe_int (fun _ _ => rfl)) pe_str (nomark _)))) (fun _ _ _ _ _ => (pe_ix (ix_tupK K rfl) (pe_dget (hu_of hr) (pv 2) (pv 8) (fun _ _ => rfl)) pe_int (fun _ _ => rfl))))))
      (pss_one (ps_if (pt_val (pe_callB (id := "any") (cr_any rfl) (by rfl) T.any (by decide +kernel) (pa_cons (pe_lc (own := [("name", 9)]) (g := gName 9) (tt := tYes) rfl sc__law_behind.nd (pi_list (pv 5)) (blkOk_by (N := ["events", "truths", "found", "number", "truth", "names", "word", "time", "at", "name"]) (sc := defScope s__law_behind) (by decide +kernel)) (fun _ _ _ _ _ => (pg_name (i := 9) sc__law_behind.nd rfl (by first | exact Or.inl rfl | exact Or.inr rfl))) (fun _ _ _ _ _ => pts_nil) (fun _ _ _ _ _ => (pe_cmpR op_gt (pe_bmK K rfl PySem.F.plainAttrs_list PySem.F.slot_list_count PySem.F.type_list_count (mt_scountK K rfl) (pv 5) (pa_cons (pv 9) pa_nil)) pe_int (nomark _)))) pa_nil))) (pss_one (ps_ret (pe_tup (pa_cons pe_non (pa_cons (pv 3) pa_nil))))) pss_nil)))))))
      (pss_one (ps_ret (pe_tup (pa_cons (pv 2) (pa_cons pe_non pa_nil))))))), ?_⟩
  refine ⟨_, rfl, f, kvs, rfl, .inl hf, fun p hp => ?_⟩
  have s0 := Same.up (H := H) (o := .dK kvs) hp
  have ll : us.length = trs.length := Paired.length tat
  refine ⟨_, rfl, l, us, rfl, SqL.of (s0 _ _ hl), for_it (walk_enum (xs := us)) (fun i σ H' => ∃ v3 v4 v5 v6 v7 v8 v9 kv es1, σ = [some (.ref f), some (.ref l), some (.ref p), v3, v4, v5, v6, v7, v8, v9] ∧ Same H H' ∧ H' p = some (.dK kv) ∧ EvE H' kv es1 ∧ Ok rs es1 ∧ es1.length ≤ es.length + i ∧ hearAll es (trs.map some) 0 = hearAll es1 ((trs.drop i).map some) i)
    ⟨_, _, _, _, _, _, _, kvs, es, rfl, s0, upd_same, he.keep (Tups.of s0), ok, Nat.le_refl _, rfl⟩ (fun i σ H' hi p => ?_) ?_ ?_⟩
  · obtain ⟨_, _, _, _, _, _, _, _, _, _, s2, _⟩ := p
    exact SqL.of (s2 _ _ hl)
  · rintro i u σ H2 H3' hi ⟨v3, v4, v5, v6, v7, v8, v9, kv, es1, rfl, s2, hp2, he2, ok1, le1, eq1⟩ ⟨T', pi, y, rfl, hT, rfl, hpi, hy⟩
    obtain rfl : V.int (i : Nat) = pi := Option.some.inj hpi
    have hi2 : i < trs.length := by omega
    have hit := List.getElem?_eq_getElem hi2
    obtain ⟨⟨a, xs, rfl, hx, ia⟩, tg⟩ := Paired.at2 tat hy hit
    have s3 := Same.up (H := H2) (o := .tup [.int (i : Nat), .ref a]) hT
    generalize hH3 : upd H2 T' (.tup [.int (i : Nat), .ref a]) = H3 at s3
    have hT3 : H3 T' = some (.tup [.int (i : Nat), .ref a]) := by rw [← hH3]; exact upd_same
    have s03 := s2.trans s3
    have edrop : (trs.drop i).map some = some trs[i] :: (trs.drop (i + 1)).map some := by rw [List.drop_eq_getElem_cons hi2, List.map_cons]
    rw [edrop] at eq1
    generalize trs[i] = tr at ia tg eq1 hit
    have eqn : hearAll es1 (some tr :: (trs.drop (i + 1)).map some) i = match hear es1 tr with
      | none => .inl i
      | some es' => hearAll es' ((trs.drop (i + 1)).map some) (i + 1) := rfl
    rw [eqn] at eq1
    have hsq := seq_mono s03 (TrAt.seq (K := K) hx)
    obtain ⟨w, t, r, er⟩ : ∃ w t r, tr.row = .str w :: .int t :: r := by cases tr <;> exact ⟨_, _, _, rfl⟩
    obtain ⟨xr, rfl, iar⟩ : ∃ xr, xs = .str w :: .int t :: xr ∧ IsA H xr r := by
      rw [er] at ia
      cases ia with
      | cons i0 r0 => cases r0 with
        | cons i1 r1 => cases i0; cases i1; exact ⟨_, rfl, r1⟩
    refine ⟨T', _, rfl, SqT.of hT3, rfl, _, _, rfl, _, _, rfl, rfl, ?_⟩
    dsimp only
    refine cut_if (fun σ H' => σ = [some (.ref f), some (.ref l), some (.ref p), some (.int (i : Nat)), some (.ref a), v5, some (.str w), some (.int t), v8, v9] ∧ H' = H3) ?_ fun rest => ?_
    rotate_left
    · refine ⟨_, rfl, ix_any hsq (at_nat (i := 0) rfl) ⟨_, rfl, ix_any hsq (at_nat (i := 1) rfl) ?_⟩⟩
      exact ⟨_, _, rfl, rest _ _ ⟨rfl, rfl⟩⟩
    rintro σ H3' ⟨rfl, eG⟩
    rw [eG]
    clear eG
    try dsimp only
    have hp3 := s3 _ _ hp2
    have he3 := he2.keep (Tups.of s3)
    have lk := Paired.length he2
    have fail : ∀ {G : Hp}, Same H G → hear es1 tr = none → ∀ t2, G t2 = none → Q (.ref t2) (upd G t2 (.tup [.non, .int (i : Nat)])) := fun {G} sG hn t2 ht2 => by
      rw [hn] at eq1
      have nt : H t2 = none := by
        cases z : H t2 with
        | none => rfl
        | some o => rw [sG _ _ z] at ht2; cases ht2
      exact qE i eq1 t2 _ (sG.trans (Same.up ht2)) nt upd_same
    have hs := hear_step ok1 tg
    have none_of : decide (V.str w = V.str "put") = decide (t ∈ es1.map (·.1)) → hear es1 tr = none := fun h => by
      rcases hs with ⟨t', rfl, e⟩ | ⟨w', b, t', e, er', eb, es_, ge, eh⟩
      · rw [er] at e
        injection e with e1 e2
        injection e2 with e2 e3
        obtain rfl := Dt.str.inj e1
        obtain rfl := Dt.int.inj e2
        rw [decide_eq_false (fun h => absurd (V.str.inj h) (by decide +kernel) : ¬ V.str (Str.ofString "strike") = V.str (Str.ofString "put"))] at h
        exact if_neg (of_decide_eq_false h.symm)
      · rw [er] at er'
        injection er' with e1 e2
        injection e2 with e2 e3
        obtain rfl := Dt.str.inj e1
        obtain rfl := Dt.int.inj e2
        rw [eh]
        rw [eb] at h
        exact if_pos h
    refine cut_if (fun σ H' => σ = [some (.ref f), some (.ref l), some (.ref p), some (.int (i : Nat)), some (.ref a), v5, some (.str w), some (.int t), v8, v9] ∧ H' = H3 ∧ decide (V.str w = V.str "put") ≠ decide (t ∈ es1.map (·.1))) ?_ fun rest => ?_
    rotate_left
    · refine ⟨_, rfl, rfl, _, rfl, _, rfl, p, _, rfl, DGet.k (k := Sum.inl t) hp3, rfl, _, rfl, ?_⟩
      rw [he2.has, bl_eq]
      by_cases c : decide (V.str w = V.str "put") = decide (t ∈ es1.map (·.1))
      · rw [decide_eq_true c]
        exact iteT ⟨_, rfl, lineN (n := 2), fun t2 ht2 => fail s03 (none_of c) t2 ht2⟩
      · rw [decide_eq_false c]
        exact iteF (rest _ _ ⟨rfl, rfl, c⟩)
    rintro σ H3' ⟨rfl, eG, cw⟩
    rw [eG]
    clear eG
    try dsimp only
    refine cut_if (fun σ H' => ∃ kv2 es2, σ = [some (.ref f), some (.ref l), some (.ref p), some (.int (i : Nat)), some (.ref a), v5, some (.str w), some (.int t), v8, v9] ∧ Same H H' ∧ H' p = some (.dK kv2) ∧ EvE H' kv2 es2 ∧ (es2.map (·.1)).Nodup ∧ es2.length ≤ es1.length + 1 ∧ hear es1 tr = if (toldOf es2).Nodup then some es2 else none) ?_ fun rest => ?_
    rotate_left
    · have tp : ∀ o, Tups H3 (upd H3 p o) := fun o => tups_set fun xs => by rw [hp3]; intro z; cases z
      have sM : ∀ o, Same H (upd H3 p o) := fun o b x e => by
        rw [upd_ne (ne_of_none e hp)]
        exact s03 _ _ e
      rcases hs with ⟨t', rfl, e⟩ | ⟨w', b, t', e, er', eb, es_, ge, eh⟩
      · rw [er] at e
        injection e with e1 e2
        injection e2 with e2 e3
        obtain rfl := Dt.str.inj e1
        obtain rfl := Dt.int.inj e2
        have m : t ∈ es1.map (·.1) := by
          by_cases c : t ∈ es1.map (·.1)
          · exact c
          · rw [decide_eq_false c] at cw
            exact absurd (decide_eq_false (fun h => absurd (V.str.inj h) (by decide +kernel))) cw
        refine ⟨_, rfl, rfl, _, rfl, ?_⟩
        rw [decide_eq_true rfl]
        have hv : (valV kv (Sum.inl t)).isSome = true := by rw [he2.has]; exact decide_eq_true m
        obtain ⟨v0, ev⟩ := Option.isSome_iff_exists.mp hv
        refine iteT ⟨_, rfl, p, rfl, .inl ⟨_, .inl hp3⟩, _, rfl, kv, Sum.inl t, v0, hp3, rfl, ev, ?_⟩
        have oo := ok1.others t
        have ln := List.length_filter_le (fun p : Int × Ev => decide (p.1 ≠ t)) es1
        refine rest _ _ ⟨_, others es1 t, rfl, sM _, upd_same, (EvE.drop he3).keep (tp _), oo.nd, by unfold others; omega, ?_⟩
        rw [if_pos oo.told]
        exact if_pos m
      · rw [er] at er'
        injection er' with e1 e2
        injection e2 with e2 e3
        obtain rfl := Dt.str.inj e1
        obtain rfl := Dt.int.inj e2
        subst e3
        obtain ⟨v2, rfl, i2⟩ : ∃ v2, xr = [v2] ∧ Is H v2 e.dt := by
          cases iar with
          | cons i2 r => cases r; exact ⟨_, rfl, i2⟩
        obtain ⟨T2, rfl⟩ := Ev.ref i2
        rw [eb] at cw
        refine ⟨_, rfl, rfl, _, rfl, ?_⟩
        rw [es_]
        refine iteF ⟨_, rfl, ix_any hsq (at_nat (i := 2) rfl) ⟨_, rfl, _, rfl, p, _, rfl, DPut.k (k := Sum.inl t) hp3 (sz (m := 60) (by rw [lk]; omega)), ?_⟩⟩
        have pa := after_perm (e := e) ok1.nd cw
        have ln := List.length_filter_le (fun p : Int × Ev => decide (p.1 ≠ t)) es1
        refine rest _ _ ⟨_, after es1 b t e, rfl, sM _, upd_same, EvE.after (he3.keep (tp _)) (is_tups (tp _) (i2.mono s03) e.tups) cw, ?_, by rw [pa.length_eq, List.length_cons]; unfold others; omega, ?_⟩
        · refine (pa.map _).nodup_iff.mpr ?_
          rw [List.map_cons, List.nodup_cons]
          refine ⟨fun m => ?_, (ok1.others t).nd⟩
          rw [others_times] at m
          have := (List.mem_filter.mp m).2
          simp at this
        · rw [eh]
          have ca := clash_after ok1 (e := e) cw
          unfold hearE
          rw [if_neg cw]
          cases hc : clash e (others es1 t) with
          | true =>
            rw [if_pos rfl, if_neg fun h => ?_]
            rw [ca.mpr h] at hc
            cases hc
          | false =>
            rw [if_neg (by simp), if_pos (ca.mp hc)]
            rfl
    rintro σ H4 ⟨kv2, es2, rfl, s4, hp4, he4, nd4, le4, eh4⟩
    try dsimp only
    have lk2 : kv2.length = es2.length := Paired.length he4
    have nk : (kv2.map (·.1)).Nodup := by
      rw [he4.keys, show (es2.map fun p => (Sum.inl p.1 : Key)) = (es2.map (·.1)).map Sum.inl by rw [List.map_map]; rfl]
      exact List.pairwise_map.mpr (nd4.imp fun h z => h (Sum.inl.inj z))
    refine cut_if (fun σ H' => ∃ nl : Addr, σ = [some (.ref f), some (.ref l), some (.ref p), some (.int (i : Nat)), some (.ref a), some (.ref nl), some (.str w), some (.int t), v8, v9] ∧ Same H4 H' ∧ H' nl = some (.lst ((toldOf es2).map V.str))) ?_ fun rest => ?_
    rotate_left
    · refine ⟨p, _, hp4, trivial, fun od => ?_⟩
      refine ⟨_, rfl, p, od, rfl, .inl ⟨_, upd_same, fun D hD => lc_gen walk_keys (At := fun i _ x => ∃ k v, kv2[i]? = some (k, v) ∧ x = kV k) (fun i H x H' y => y) es2 (fun q => q.2.told.isSome) lk2.symm (sz (m := 60) (by omega)) hD (fun H' s' => s' _ _ upd_same)
        (fun _ q y => y = tolV q.2.told) (fun _ _ _ _ _ e => e) (fun _ _ _ _ _ _ e => e) (fun j x q H5 A B hj hx hq s5 kA kB => ?_) (fun H5 acc s5 h5 pr => ?_)⟩⟩
      · obtain ⟨k, v, e1, rfl⟩ := hx
        obtain ⟨ek, T, ev, iv⟩ := Paired.at2 he4 e1 hq
        have ek : k = Sum.inl q.1 := ek
        have ev : v = .ref T := ev
        subst ek ev
        have vv := val_nodup nk _ (List.mem_of_getElem? e1)
        have tp : Tups H4 H5 := (tups_set (o := .frz od (.dK kv2)) fun xs => by rw [hp4]; intro z; cases z).trans (Tups.of s5)
        have iv5 := is_tups tp iv q.2.tups
        obtain ⟨ys, hT5, ia5⟩ := ev_row iv5
        have dg : DGet H5 p (kV (Sum.inl q.1)) (some (V.ref T)) := .inl ⟨kv2, Sum.inl q.1, .inr ⟨od, s5 _ _ upd_same⟩, rfl, vv.symm⟩
        rcases come_told q.2 with ⟨n, r5, et, er5⟩ | ⟨et, w5, r5, er5, nw⟩
        · rw [er5] at ia5
          obtain ⟨r6, rfl⟩ : ∃ r6, ys = .str "come" :: .str n :: r6 := by
            cases ia5 with
            | cons a b => cases b with
              | cons c d => cases a; cases c; exact ⟨_, rfl⟩
          refine ⟨rfl, _, rfl, _, rfl, p, .ref T, rfl, dg, T, _, _, _, rfl, rfl, SqT.of hT5, at_nat (i := 0) rfl, rfl, _, rfl, ?_⟩
          rw [decide_eq_true rfl]
          exact iteT ⟨_, rfl, _, rfl, p, .ref T, rfl, dg, T, _, _, _, rfl, rfl, SqT.of hT5, at_nat (i := 1) rfl, kA (by rw [et]; rfl) _ _ (Same.refl _) (by rw [et]; rfl)⟩
        · rw [er5] at ia5
          obtain ⟨r6, rfl⟩ : ∃ r6, ys = .str w5 :: r6 := by
            cases ia5 with
            | cons a b => cases a; exact ⟨_, rfl⟩
          refine ⟨rfl, _, rfl, _, rfl, p, .ref T, rfl, dg, T, _, _, _, rfl, rfl, SqT.of hT5, at_nat (i := 0) rfl, rfl, _, rfl, ?_⟩
          rw [decide_eq_false fun h => nw (V.str.inj h)]
          exact iteF (kB (by rw [et]; rfl) _ (Same.refl _))
      · have fz := s5 _ _ upd_same
        have eacc : acc = (toldOf es2).map V.str := by
          have : ∀ {l : List V} {m : Es}, Paired (fun y p => y = tolV p.2.told) l m → l = m.map fun p => tolV p.2.told := fun h => by
            induction h with
            | nil => rfl
            | cons h r ih => rw [h, ih]; rfl
          exact (this pr).trans (told_comes es2)
        refine ⟨fz, rest _ _ ⟨D, rfl, fun b o hb => ?_, ?_⟩⟩
        · by_cases c3 : b = p
          · rw [c3, hp4] at hb
            cases hb
            rw [c3]
            exact upd_same
          · rw [upd_ne c3]
            exact s5 _ _ (by rw [upd_ne c3]; exact hb)
        · rw [upd_ne (ne_of h5 fz (by intro z; cases z)), h5, eacc]
    rintro σ H5 ⟨nl, rfl, s5, hnl⟩
    try dsimp only
    have tl5 : (toldOf es2).length ≤ es2.length := List.length_filterMap_le ..
    have lN : ((toldOf es2).map V.str).length ≤ 60 := by rw [List.length_map]; omega
    refine ⟨_, rfl, nl, rfl, ⟨_, SqL.of hnl⟩, fun D hD => lc_pure walk_list walk_at (((toldOf es2).map fun n => decide (1 < ((toldOf es2).count n : Int))).map V.bl) (by simp) (sz lN) hD (fun H' s' => SqL.of (s' _ _ hnl)) (fun j u y H6 R hj hu hy s6 k => ?_) (fun H6 s6 h6 => ⟨D, (toldOf es2).map fun n => decide (1 < ((toldOf es2).count n : Int)), rfl, SqL.of h6, ?_⟩)⟩
    · rw [List.getElem?_map] at hu
      obtain ⟨n, hn, rfl⟩ := Option.map_eq_some_iff.mp hu
      rw [List.getElem?_map, List.getElem?_map, hn] at hy
      obtain rfl := Option.some.inj hy
      have hn6 := s6 _ _ hnl
      exact ⟨_, rfl, .inl ⟨rfl, _, SqL.of hn6⟩, _, rfl, nl, toldOf es2, n, rfl, rfl, SqL.of hn6, _, _, rfl, rfl, k _ (Same.refl _)⟩
    · rw [any_count]
      have s46 := s4.trans (s5.trans s6)
      refine ⟨_, rfl, ?_⟩
      by_cases c : (toldOf es2).Nodup
      · rw [decide_eq_true c]
        rw [if_pos c] at eh4
        rw [eh4] at eq1
        obtain ⟨ok2, le2⟩ := hear_ok ok1 tg eh4
        exact iteF ⟨_, _, _, _, _, _, _, kv2, es2, rfl, s46, (s5.trans s6) _ _ hp4, he4.keep (Tups.of (s5.trans s6)), ok2, by omega, eq1⟩
      · rw [decide_eq_false c]
        rw [if_neg c] at eh4
        exact iteT ⟨_, rfl, lineN (n := 2), fun t2 ht2 => fail s46 eh4 t2 ht2⟩
  · rintro σ H2 ⟨v3, v4, v5, v6, v7, v8, v9, kv, es1, rfl, s2, hp2, he2, ok1, le1, eq1⟩
    rw [ll, List.drop_length] at eq1
    refine ⟨_, rfl, lineN (n := 2), fun t ht => ?_⟩
    have nt : H t = none := by
      cases z : H t with
      | none => rfl
      | some o => rw [s2 _ _ z] at ht; cases ht
    have st := Same.up (H := H2) (o := .tup [.ref p, .non]) ht
    exact qC es1 eq1 ok1 (by omega) t p kv _ (s2.trans st) nt hp upd_same (st _ _ hp2) (he2.keep (Tups.of st))
end
end K07

set_option Elab.async false
set_option linter.all false
set_option maxRecDepth 100000
set_option maxHeartbeats 4000000
namespace K07
open PySem PySem.Spec PyProof.Rows L2 Sr
/-! ### an event beside ("gather",) -/
mutual
def pdD : Dt → PyData
  | .non => .none
  | .bl b => .bool b
  | .int i => .int i
  | .str s => .str s
  | .lst l => .list (pdDs l)
  | .tup l => .tuple (pdDs l)
  | .dic => .none
def pdDs : List Dt → List PyData
  | [] => []
  | d :: r => pdD d :: pdDs r
end
mutual
theorem is_dp {K : PySem.W.Frag} {H : Hp} : ∀ {v : V} {d : Dt}, Is H v d → tupD d = true → Dp K H v (pdD d)
  | _, _, .non, _ => .non
  | _, _, .bl b, _ => .bl b
  | _, _, .int i, _ => .int i
  | _, _, .str s h, _ => .str s
  | _, _, .tup h r z, p => .tup (SqT.of h) (isA_dp r p)
  | _, _, .lst _ _ _, p => by cases p
  | _, _, .dic _, p => by cases p
theorem isA_dp {K : PySem.W.Frag} {H : Hp} : ∀ {vs : List V} {ds : List Dt}, IsA H vs ds → tupDs ds = true → DpAll K H vs (pdDs ds)
  | _, _, .nil, _ => .nil
  | _, _, .cons h r, p => .cons (is_dp h (Bool.and_eq_true_iff.mp p).1) (isA_dp r (Bool.and_eq_true_iff.mp p).2)
end
theorem lay_strs : ∀ {ws : List Str}, (∀ s ∈ ws, PyData.canLay0 (.str s) = true) → PyData.canLayAll0 (pdDs (ws.map Dt.str)) = true ∧ PyData.depthAll (pdDs (ws.map Dt.str)) ≤ 1
  | [], _ => ⟨rfl, by simp [pdDs, PyData.depthAll]⟩
  | s :: r, h => by
    obtain ⟨h1, h2⟩ := lay_strs (ws := r) fun x m => h x (List.mem_cons_of_mem _ m)
    refine ⟨?_, ?_⟩
    · show (PyData.canLay0 (.str s) && PyData.canLayAll0 (pdDs (r.map Dt.str))) = true
      rw [h s (List.mem_cons_self ..), h1]
      rfl
    · simp only [List.map_cons, pdDs, pdD, PyData.depthAll, PyData.depth]
      omega
theorem names4_lay : ∀ s ∈ names4, PyData.canLay0 (.str s) = true := by decide +kernel
theorem Ev.shaped {ro : List Rk} (dr : drawnR ro) {e : Ev} (g : e.good ro) : SeqAt.shaped (pdD e.dt) = true := by
  have kn : ∀ s ∈ ro.map (·.1), PyData.canLay0 (.str s) = true := fun s m => by
    obtain ⟨p, mp, e⟩ := List.mem_map.mp m
    rw [← e]
    exact names4_lay _ (dr.2.2.2 p mp).1
  have wl : ∀ {ws : List Str}, wishG ro ws → PyData.canLay0 (pdD (wsD ws)) = true ∧ PyData.depth (pdD (wsD ws)) ≤ 2 := fun {ws} w => by
    obtain ⟨h1, h2⟩ := lay_strs (ws := ws) fun s m => kn s (w.2 s m)
    refine ⟨h1, ?_⟩
    show PyData.depth (.tuple (pdDs (ws.map Dt.str))) ≤ 2
    simp only [PyData.depth]
    omega
  have c1 : PyData.canLay0 (.str "come") = true ∧ PyData.canLay0 (.str "place") = true ∧ PyData.canLay0 (.str "leave") = true ∧ PyData.canLay0 (.str "withdraw") = true ∧ PyData.canLay0 (.str "change") = true ∧ PyData.canLay0 (.str "gather") = true ∧ PyData.canLay0 (.str "round") = true := by decide +kernel
  obtain ⟨e1, e2, e3, e4, e5, e6, e7⟩ := c1
  unfold SeqAt.shaped
  rw [Bool.and_eq_true]
  cases e with
  | come n ws p h =>
    obtain ⟨w1, w2⟩ := wl g.2.1
    have hh : PyData.canLay0 (pdD (homeD h)) = true ∧ PyData.depth (pdD (homeD h)) ≤ 1 := by
      cases h with
      | none => exact ⟨rfl, by simp [homeD, pdD, PyData.depth]⟩
      | some s => exact ⟨kn s (g.2.2.2 s rfl), by simp [homeD, pdD, PyData.depth]⟩
    refine ⟨?_, decide_eq_true ?_⟩
    · show (PyData.canLay0 (.str "come") && (PyData.canLay0 (.str n) && (PyData.canLay0 (pdD (wsD ws)) && (true && (PyData.canLay0 (pdD (homeD h)) && true))))) = true
      rw [e1, (names9_ok n g.1).2.2, w1, hh.1]
      rfl
    · show PyData.depth (.tuple [.str "come", .str n, pdD (wsD ws), .int p, pdD (homeD h)]) ≤ 64
      have := hh.2
      simp only [PyData.depth, PyData.depthAll]
      omega
  | change n ws =>
    obtain ⟨w1, w2⟩ := wl g.2
    refine ⟨?_, decide_eq_true ?_⟩
    · show (PyData.canLay0 (.str "change") && (PyData.canLay0 (.str n) && (PyData.canLay0 (pdD (wsD ws)) && true))) = true
      rw [e5, (names9_ok n g.1).2.2, w1]
      rfl
    · show PyData.depth (.tuple [.str "change", .str n, pdD (wsD ws)]) ≤ 64
      simp only [PyData.depth, PyData.depthAll]
      omega
  | place k =>
    refine ⟨?_, decide_eq_true (by show PyData.depth (.tuple [.str "place", .str k]) ≤ 64; simp [PyData.depth, PyData.depthAll])⟩
    show (PyData.canLay0 (.str "place") && (PyData.canLay0 (.str k) && true)) = true
    rw [e2, kn k g]
    rfl
  | leave k =>
    refine ⟨?_, decide_eq_true (by show PyData.depth (.tuple [.str "leave", .str k]) ≤ 64; simp [PyData.depth, PyData.depthAll])⟩
    show (PyData.canLay0 (.str "leave") && (PyData.canLay0 (.str k) && true)) = true
    rw [e3, (names9_ok k g).2.2]
    rfl
  | withdraw k =>
    refine ⟨?_, decide_eq_true (by show PyData.depth (.tuple [.str "withdraw", .str k]) ≤ 64; simp [PyData.depth, PyData.depthAll])⟩
    show (PyData.canLay0 (.str "withdraw") && (PyData.canLay0 (.str k) && true)) = true
    rw [e4, kn k g]
    rfl
  | gather => exact ⟨by show (PyData.canLay0 (.str "gather") && true) = true; rw [e6]; rfl, rfl⟩
  | round => exact ⟨by show (PyData.canLay0 (.str "round") && true) = true; rw [e7]; rfl, rfl⟩

/-! ### != of two dicts of events: alike but for their order, or the second empty -/
theorem hits_all {K : Type} [DecidableEq K] {A : Around} {s : Shared} {kb : List (K × Value)} : ∀ {r : List (K × Value)}, (∀ p ∈ r, ∃ y, valueAt kb p.1 = some y ∧ SeqAt.EqAt A s p.2 y true) → PySem.W.KeqHits A s kb r true
  | [], _ => .nil
  | (k, v) :: r, h => by
    obtain ⟨y, h1, h2⟩ := h (k, v) (List.mem_cons_self ..)
    exact .hit h1 h2 (hits_all fun p m => h p (List.mem_cons_of_mem _ m))
def rNeEv : R2 := fun x y H Q => ∃ a b ks ls es es' ro, x = .ref a ∧ y = .ref b ∧ H a = some (.dK ks) ∧ H b = some (.dK ls) ∧ EvE H ks es ∧ EvE H ls es' ∧ drawnR ro ∧ (∀ p ∈ es, p.2.good ro) ∧
  ((es.Perm es' ∧ (es.map (·.1)).Nodup ∧ Q (.bl false) H) ∨ (es' = [] ∧ Q (.bl (!decide (es.length = 0))) H))
theorem op_neEv {X : Cx} (hu : X.A.units + 70 < cLine) : OpR X (compareOp .NotEq) rNeEv := by
  intro pins s σ H x y v u Q I rx ry h
  obtain ⟨a, b, ks, ls, es, es', ro, rfl, rfl, ea, eb, ra, rb, dr, gd, h⟩ := h
  cases rx
  cases ry
  obtain ⟨_, ya, va, ka, da⟩ := (show ObjOk X.prog X.w H s.heap a (.dK ks) from I.hok a _ ea)
  obtain ⟨_, yb, vb, kb, db⟩ := (show ObjOk X.prog X.w H s.heap b (.dK ls) from I.hok b _ eb)
  have la : va.length = es.length := by rw [← Paired.length ra]; exact (KV.length ka).symm
  have lb : vb.length = es'.length := by rw [← Paired.length rb]; exact (KV.length kb).symm
  rcases h with ⟨pm, na, q⟩ | ⟨rfl, q⟩
  · have nb : (es'.map (·.1)).Nodup := (pm.map _).nodup_iff.mp na
    have ek : va.map (·.1) = es.map fun p => (Sum.inl p.1 : Key) := by rw [← ka.keys, ra.keys]
    have ndk : (va.map (·.1)).Nodup := by
      rw [ek, show (es.map fun p => (Sum.inl p.1 : Key)) = (es.map (·.1)).map Sum.inl by rw [List.map_map]; rfl]
      exact List.pairwise_map.mpr (na.imp fun h z => h (Sum.inl.inj z))
    have hits : PySem.W.KeqHits X.A.in1 s vb va true := hits_all fun kv hm => by
      have mk : kv.1 ∈ va.map (·.1) := List.mem_map_of_mem hm
      rw [ek] at mk
      obtain ⟨p, mp, ekp⟩ := List.mem_map.mp mk
      have hvv : valueAt va kv.1 = some kv.2 := valueAt_of_mem ndk hm
      have r1 := ka.val kv.1
      have r2 := kb.val kv.1
      rw [hvv] at r1
      rw [← ekp] at r1 r2 ⊢
      have ev1 := evAt_mem na mp
      have ev2 := evAt_mem nb (pm.mem_iff.mp mp)
      rcases ra.val p.1 with ⟨e1, T1, a1, b1, c1⟩ | ⟨z, _⟩
      rotate_left
      · rw [ev1] at z; cases z
      rcases rb.val p.1 with ⟨e2, T2, a2, b2, c2⟩ | ⟨z, _⟩
      rotate_left
      · rw [ev2] at z; cases z
      rw [ev1] at a1
      rw [ev2] at a2
      cases a1
      cases a2
      rw [b1] at r1
      rw [b2] at r2
      cases hy : valueAt vb (Sum.inl p.1) with
      | none => rw [hy] at r2; exact r2.elim
      | some y =>
        rw [hy] at r2
        obtain ⟨as1, q1⟩ := Dp.reads I _ _ _ (is_dp (K := X.K) c1 p.2.tups) r1
        obtain ⟨as2, q2⟩ := Dp.reads I _ _ _ (is_dp (K := X.K) c2 p.2.tups) r2
        have sh := Ev.shaped dr (gd p mp)
        have := PySem.W.keq_at (A := X.A) q1 q2 sh sh (by show X.A.units + 1 + 64 < cLine; omega)
        rw [SeqAt.eqv_refl _ (SeqAt.canLay_of_shaped sh)] at this
        exact ⟨y, rfl, this⟩
    refine PySem.W.keq_ne (r := true) ya yb da db (by omega) (fun _ => hits) (fin_bl I q ?_)
    rw [la, lb, pm.length_eq, beq_self_eq_true]
    rfl
  · have lb0 : vb.length = 0 := lb
    by_cases c : es.length = 0
    · have v0 : va = [] := List.length_eq_zero_iff.mp (by omega)
      refine PySem.W.keq_ne (r := true) ya yb da db (by omega) (fun _ => by rw [v0]; exact .nil) (fin_bl I q ?_)
      rw [la, lb, decide_eq_true c, c]
      rfl
    · refine PySem.W.keq_ne (r := false) ya yb da db (by omega) (fun e => by omega) (fin_bl I q ?_)
      rw [Bool.and_false, decide_eq_false c]
end K07

set_option Elab.async false
set_option linter.all false
set_option maxRecDepth 100000
set_option maxHeartbeats 4000000
namespace K07
open PySem PySem.Spec PyProof.Rows L2 Sr
theorem fint_ok : ((List.range 30).map fun i : Nat => (i : Int)).length = 30 := by decide
/-- of thirty times one is free -/
theorem free_one {ts : List Int} (l : ts.length ≤ 20) : (((List.range 30).map fun i : Nat => (i : Int)).filter fun t => decide (t ∉ ts)) ≠ [] := fun e => by
  have all : ∀ a ∈ (List.range 30).map fun i : Nat => (i : Int), a ∈ ts := fun a m => by
    have := List.filter_eq_nil_iff.mp e a m
    simpa using this
  have nd : ((List.range 30).map fun i : Nat => (i : Int)).Nodup := List.pairwise_map.mpr (List.nodup_range.imp fun h z => h (by omega))
  have := nodup_le nd all
  rw [fint_ok] at this
  omega
def spFree : Sp := fun vs H Q _ => ∃ (a f : Addr) (kvs : List (Key × V)) (es : Es) (n : Nat), vs = [.ref a, .ref f] ∧ DnAt n H a ∧ n ≤ 100000 ∧ (rm H a) f = some (.dK kvs) ∧ EvE H kvs es ∧ es.length ≤ 20 ∧
  ∀ t H', DnAt (n + 1) H' a → Same (rm H a) (rm H' a) → 0 ≤ t → t < 30 → t ∉ es.map (·.1) → Q (.int t) H'
section
variable {P : Program} {w : World} {K : PySem.W.Frag} {mg : Str → Option Value} {base : Heap}
abbrev s__law_free_time : Stmt := top 50
theorem sc__law_free_time : FnScope ["stream", "events", "times", "time"] ["stream", "events"] (defScope s__law_free_time) := ⟨rfl, rfl, rfl, by decide +kernel, rfl, by decide +kernel, by decide +kernel⟩
theorem c__law_free_time (T : Txt K mg) (D : Dfn K mg "_law_free_time" s__law_free_time) (C_law_pick : Cal P w K mg base 2 "_law_pick" ["stream", "things"] (spPick K)) : Cal P w K mg base 3 "_law_free_time" ["stream", "events"] spFree := by
  refine D.cal sc__law_free_time (fun _ _ _ _ _ _ us hl => match us, hl with | [_, _], _ => rfl) (fun vs H Q E h => ?_) fun cdv A outer s H vs Q E hr h => ?_
  · obtain ⟨a, f, kvs, es, n, rfl, _⟩ := h
    rfl
  obtain ⟨a, f, kvs, es, n, rfl, hd, hb, hf, he, le, q⟩ := h
  refine ⟨_, (pss_cons (ps_setLc (i := 2) (own := [("time", 3)]) (g := gName 3) rfl sc__law_free_time.nd rfl rfl (sw_true rfl rfl rfl rfl) (pi_range1 (by rfl) T.range (pa_cons pe_int pa_nil)) (blkOk_by (N := ["stream", "events", "times", "time"]) (sc := defScope s__law_free_time) (by decide +kernel)) (fun _ _ _ _ _ => (pg_name (i := 3) sc__law_free_time.nd rfl (by first | exact Or.inl rfl | exact Or.inr rfl))) (fun _ _ _ _ _ => (pts_one (pt_cmp (pc_dnotin (hu_of hr) (pv 3) (pv 1))))) (fun _ _ _ _ _ => (pv 3)))
      (pss_one (ps_ret (pe_cal C_law_pick hr (by first | decide | omega) (by rfl) (pa_cons (pv 0) (pa_cons (pv 2) pa_nil)))))), ?_⟩
  have hf0 := rm_same _ _ hf
  refine cut_if (fun σ H' => ∃ (tl : Addr) (v2 : Option V), σ = [some (.ref a), some (.ref f), some (.ref tl), v2] ∧ Same H H' ∧ H tl = none ∧ H' tl = some (.lst ((((List.range 30).map fun i : Nat => (i : Int)).filter fun t => decide (t ∉ es.map (·.1))).map V.int))) ?_ fun rest => ?_
  rotate_left
  · refine ⟨_, rfl, by decide, by decide, fun D hD => lc_gen walk_range (At := fun i _ x => x = .int (0 + (i : Nat))) (fun i H x H' y => y) ((List.range 30).map fun i : Nat => (i : Int)) (fun t => decide (t ∉ es.map (·.1))) rfl (sz (m := 60) (by show 30 ≤ 60; decide)) hD (fun H' s' => trivial)
      (fun _ t y => y = V.int t) (fun _ _ _ _ _ e => e) (fun _ _ _ _ _ _ e => e) (fun j x t H5 A B hj hx ht s5 kA kB => ?_) (fun H5 acc s5 h5 pr => ?_)⟩
    · obtain rfl : t = (j : Int) := by
        rw [List.getElem?_map] at ht
        obtain ⟨k, hk, e⟩ := Option.map_eq_some_iff.mp ht
        have := List.getElem?_eq_some_iff.mp hk
        obtain ⟨h1, h2⟩ := this
        rw [List.getElem_range] at h2
        omega
      subst hx
      refine ⟨rfl, _, rfl, _, rfl, f, _, rfl, DGet.k (k := Sum.inl (0 + (j : Int))) (s5 _ _ hf0), _, rfl, ?_⟩
      rw [he.has, show (0 : Int) + (j : Int) = j by omega]
      by_cases c : (j : Int) ∈ es.map (·.1)
      · rw [decide_eq_true c]
        exact iteF (kB (decide_eq_false fun h => h c) _ (Same.refl _))
      · rw [decide_eq_false c]
        exact iteT ⟨_, rfl, kA (decide_eq_true c) _ _ (Same.refl _) (by first | rfl | rw [show (0 : Int) + (j : Int) = j by omega])⟩
    · have eacc : acc = (((List.range 30).map fun i : Nat => (i : Int)).filter fun t => decide (t ∉ es.map (·.1))).map V.int := by
        have : ∀ {l : List V} {m : List Int}, Paired (fun y t => y = V.int t) l m → l = m.map V.int := fun h => by
          induction h with
          | nil => rfl
          | cons h r ih => rw [h, ih]; rfl
        exact this pr
      exact rest _ _ ⟨D, _, rfl, s5, hD, by rw [h5, eacc]⟩
  rintro σ H1 ⟨tl, v2, rfl, s1, ntl, htl⟩
  try dsimp only
  have fo := free_one (ts := es.map (·.1)) (by rw [List.length_map]; exact le)
  generalize hts : (((List.range 30).map fun i : Nat => (i : Int)).filter fun t => decide (t ∉ es.map (·.1))) = ts at htl fo
  have mem : ∀ t ∈ ts, 0 ≤ t ∧ t < 30 ∧ t ∉ es.map (·.1) := fun t m => by
    rw [← hts] at m
    obtain ⟨m1, m2⟩ := List.mem_filter.mp m
    obtain ⟨k, mk, rfl⟩ := List.mem_map.mp m1
    have := List.mem_range.mp mk
    exact ⟨by omega, by omega, of_decide_eq_true m2⟩
  have lt : ts.length ≤ 30 := by
    rw [← hts]
    exact List.length_filter_le _ _
  have l1 : 1 ≤ ts.length := by
    cases ts with
    | nil => exact absurd rfl fo
    | cons => simp
  refine ⟨_, rfl, _, rfl, a, tl, _, n, rfl, hd.up s1, by omega, hd.new ntl, .inl (SqL.of htl), by rw [List.length_map]; exact l1, by rw [List.length_map]; omega, fun j v o hv ho => ?_⟩
  obtain ⟨t, mt, rfl⟩ := List.mem_map.mp (List.mem_of_getElem? hv)
  obtain ⟨m1, m2, m3⟩ := mem t mt
  exact q t _ (DnAt.put ho) ((Same.rm s1).trans rm_put) m1 m2 m3
end
end K07

set_option Elab.async false
set_option linter.all false
set_option maxRecDepth 100000
set_option maxHeartbeats 4000000
namespace K07
open PySem PySem.Spec PyProof.Rows L2 Sr
theorem u70 {k : Nat} {A : Around} (r : Room k A) : A.units + 70 < cLine := by have := r.un; omega
theorem told_names {ro : List Rk} : ∀ {es : Es}, (∀ p ∈ es, p.2.good ro) → ∀ s ∈ toldOf es, s ∈ names9
  | [], _, s, m => by cases m
  | p :: r, g, s, m => by
    have ih := told_names (es := r) (fun q mq => g q (List.mem_cons_of_mem _ mq)) s
    rw [told_cons] at m
    have gp := g p (List.mem_cons_self ..)
    cases h : p.2.told with
    | none => rw [h] at m; exact ih m
    | some n =>
      rw [h] at m
      rcases List.mem_cons.mp m with rfl | m
      · cases he : p.2 with
        | come n' ws pt hm =>
          rw [he] at gp h
          obtain rfl : n' = s := Option.some.inj h
          exact gp.1
        | _ => rw [he] at h; cases h
      · exact ih m
theorem tups_out {H : Hp} {Z : List Addr} (n : ∀ b ∈ Z, ∀ xs, H b ≠ some (.tup xs)) : Tups H (rms H Z) := fun b xs e => by
  rw [rms_ne fun m => n b m xs e]
  exact e
theorem rms_up {M H H' : Hp} {Z : List Addr} (s : Same M (rms H Z)) (t : Same H H') : Same M (rms H' Z) := s.trans (Same.rms t)
theorem rms_put {M H : Hp} {a : Addr} {Z : List Addr} {o : HO} (s : Same M (rms H Z)) (m : a ∈ Z) : Same M (rms (upd H a o) Z) := by rw [rms_upd m]; exact s
def spSomeTruth : Sp := fun vs H Q _ => ∃ (a r f fl : Addr) (rs : List Rk) (kvs : List (Key × V)) (es : Es) (ms : List Str) (n : Nat), vs = [.ref a, .ref r, .ref f, .ref fl] ∧ DnAt n H a ∧ n ≤ 5000 ∧ fl ≠ a ∧ RanksR (rms H [a, fl]) r rs ∧ drawnR rs ∧
  (rms H [a, fl]) f = some (.dK kvs) ∧ EvE (rms H [a, fl]) kvs es ∧ Ok rs es ∧ es.length ≤ 20 ∧ H fl = some (.lst (ms.map V.str)) ∧ ms.length ≤ 9 ∧ (∀ s ∈ ms, s ∈ names9) ∧
  ∀ (t : Addr) (H' : Hp) (tr : Tr) (ms' : List Str), DnAt (n + 30) H' a → Same (rms H [a, fl]) (rms H' [a, fl]) → TrAt (rms H' [a, fl]) (.ref t) tr → tr.good rs → H' fl = some (.lst (ms'.map V.str)) → ms'.length ≤ ms.length → (∀ s ∈ ms', s ∈ ms) → Q (.ref t) H'
section
variable {P : Program} {w : World} {K : PySem.W.Frag} {mg : Str → Option Value} {base : Heap}
abbrev s__law_some_truth : Stmt := top 51
theorem sc__law_some_truth : FnScope ["stream", "ranks", "events", "fresh", "names", "event", "choice", "time"] ["stream", "ranks", "events", "fresh"] (defScope s__law_some_truth) := ⟨rfl, rfl, rfl, by decide +kernel, rfl, by decide +kernel, by decide +kernel⟩
theorem c__law_some_truth (T : Txt K mg) (D : Dfn K mg "_law_some_truth" s__law_some_truth) (C_law_draw : Cal P w K mg base 1 "_law_draw" ["stream", "many"] spDraw) (C_law_pick : Cal P w K mg base 2 "_law_pick" ["stream", "things"] (spPick K)) (C_law_wishes : Cal P w K mg base 3 "_law_wishes" ["stream", "ranks"] spWishes)
    (C_law_event : Cal P w K mg base 4 "_law_event" ["stream", "ranks", "names", "fresh"] spEvent) (C_law_free_time : Cal P w K mg base 3 "_law_free_time" ["stream", "events"] spFree) : Cal P w K mg base 5 "_law_some_truth" ["stream", "ranks", "events", "fresh"] spSomeTruth := by
  refine D.cal sc__law_some_truth (fun _ _ _ _ _ _ us hl => match us, hl with | [_, _, _, _], _ => rfl) (fun vs H Q E h => ?_) fun cdv A outer s H vs Q E hr h => ?_
  · obtain ⟨a, r, f, fl, rs, kvs, es, ms, n, rfl, _⟩ := h
    rfl
  obtain ⟨a, r, f, fl, rs, kvs, es, ms, n, rfl, hd, hb, nfa, hk, dr, hf, he, ok, le, hfl, lm, hns, q⟩ := h
  refine ⟨_, (pss_cons (ps_lock (ps_setLc (i := 4) (own := [("time", 7)]) (g := gName 7) rfl sc__law_some_truth.nd rfl rfl (sw_true rfl rfl rfl rfl) (pi_keys (pv 2)) (blkOk_by (N := ["stream", "ranks", "events", "fresh", "names", "event", "choice", "time"]) (sc := defScope s__law_some_truth) (by decide +kernel)) (fun _ _ _ _ _ => (pg_name (i := 7) sc__law_some_truth.nd rfl (by first | exact Or.inl rfl | exact Or.inr rfl))) (fun _ _ _ _ _ => (pts_one (pt_cmpR op_eq (pe_ix (ix_tupK K rfl) (pe_dget (hu_of hr) (pv 2) (pv 7) (fun _ _ => rfl)) pe_int (fun _ _ => rfl)) pe_str (nomark _)))) (fun _ _ _ _ _ => (pe_ix (ix_tupK K rfl) (pe_dget (hu_of hr) (pv 2) (pv 7) (fun _ _ => rfl)) pe_int (fun _ _ => rfl)))))
      (pss_cons (ps_set (i := 5) sc__law_some_truth.nd rfl (by first | exact Or.inl rfl | exact Or.inr rfl) (pe_cal C_law_event hr (by first | decide | omega) (by rfl) (pa_cons (pv 0) (pa_cons (pv 1) (pa_cons (pe_callTy (T := "list") call_list_of (by rfl) T.list (by decide +kernel) (pa_cons (pv 4) pa_nil)) (pa_cons (pv 3) pa_nil))))))
      (pss_cons (ps_if (PW.pt (pw_and (pt_cmpR (op_neD hr.units) (pv 4) (pe_lst pa_nil) (nomark _)) (pw_and1 (pt_cmpR op_eq (pe_cal C_law_draw hr (by first | decide | omega) (by rfl) (pa_cons (pv 0) (pa_cons pe_int pa_nil))) pe_int (nomark _))))) (pss_one (ps_set (i := 5) sc__law_some_truth.nd rfl (by first | exact Or.inl rfl | exact Or.inr rfl) (pe_tup (pa_cons pe_str (pa_cons (pe_cal C_law_pick hr (by first | decide | omega) (by rfl) (pa_cons (pv 0) (pa_cons (pv 4) pa_nil))) (pa_cons (pe_cal C_law_wishes hr (by first | decide | omega) (by rfl) (pa_cons (pv 0) (pa_cons (pv 1) pa_nil))) (pa_cons (pe_cal C_law_draw hr (by first | decide | omega) (by rfl) (pa_cons (pv 0) (pa_cons pe_int pa_nil))) (pa_cons pe_non pa_nil)))))))) pss_nil)
      (pss_cons (ps_set (i := 6) sc__law_some_truth.nd rfl (by first | exact Or.inl rfl | exact Or.inr rfl) (pe_ifExp (pt_cmpR (op_neEv (u70 hr)) (pv 2) pe_dnewK (nomark _)) (pe_cal C_law_draw hr (by first | decide | omega) (by rfl) (pa_cons (pv 0) (pa_cons pe_int pa_nil))) pe_int))
      (pss_cons (ps_if (pt_cmpR op_lt (pv 6) pe_int (nomark _)) (pss_one (ps_ret (pe_tup (pa_cons pe_str (pa_cons (pe_cal C_law_free_time hr (by first | decide | omega) (by rfl) (pa_cons (pv 0) (pa_cons (pv 2) pa_nil))) (pa_cons (pv 5) pa_nil)))))) pss_nil)
      (pss_cons (ps_set (i := 7) sc__law_some_truth.nd rfl (by first | exact Or.inl rfl | exact Or.inr rfl) (pe_cal C_law_pick hr (by first | decide | omega) (by rfl) (pa_cons (pv 0) (pa_cons (pe_callB (id := "sorted") (call_sortedDI rfl) (by rfl) T.sorted (by decide +kernel) (pa_cons (pv 2) pa_nil)) pa_nil))))
      (pss_cons (ps_if (pt_cmpR op_eq (pv 6) pe_int (nomark _)) (pss_one (ps_ret (pe_tup (pa_cons pe_str (pa_cons (pv 7) pa_nil))))) pss_nil)
      (pss_cons (ps_if (PW.pt (pw_and (pt_cmpR op_eq (pe_ix ix_tup (pe_dget (hu_of hr) (pv 2) (pv 7) (fun _ _ => rfl)) pe_int (fun _ _ => rfl)) pe_str (nomark _)) (pw_and1 (pt_cmpR op_eq (pe_cal C_law_draw hr (by first | decide | omega) (by rfl) (pa_cons (pv 0) (pa_cons pe_int pa_nil))) pe_int (nomark _))))) (pss_one (ps_set (i := 5) sc__law_some_truth.nd rfl (by first | exact Or.inl rfl | exact Or.inr rfl) (pe_tup (pa_cons pe_str (pa_cons (pe_ix ix_tup (pe_dget (hu_of hr) (pv 2) (pv 7) (fun _ _ => rfl)) pe_int (fun _ _ => rfl)) (pa_cons (pe_cal C_law_wishes hr (by first | decide | omega) (by rfl) (pa_cons (pv 0) (pa_cons (pv 1) pa_nil))) (pa_cons (pe_cal C_law_draw hr (by first | decide | omega) (by rfl) (pa_cons (pv 0) (pa_cons pe_int pa_nil))) (pa_cons pe_non pa_nil)))))))) pss_nil)
      (pss_one (ps_ret (pe_tup (pa_cons pe_str (pa_cons (pv 7) (pa_cons (pv 5) pa_nil)))))))))))))), ?_⟩
  have hf0 := rms_same _ _ hf
  have lk : kvs.length = es.length := Paired.length he
  have he0 : EvE H kvs es := he.keep (Tups.of rms_same)
  have nk : (kvs.map (·.1)).Nodup := by
    rw [he.keys, show (es.map fun p => (Sum.inl p.1 : Key)) = (es.map (·.1)).map Sum.inl by rw [List.map_map]; rfl]
    exact List.pairwise_map.mpr (ok.nd.imp fun h z => h (Sum.inl.inj z))
  have tn := told_names (ro := rs) (es := es) fun p m => (ok.good p m).1
  have tl : (toldOf es).length ≤ 20 := Nat.le_trans (List.length_filterMap_le ..) le
  refine cut_if (fun σ H' => ∃ nl : Addr, σ = [some (.ref a), some (.ref r), some (.ref f), some (.ref fl), some (.ref nl), none, none, none] ∧ Same H H' ∧ H nl = none ∧ H' nl = some (.lst ((toldOf es).map V.str))) ?_ fun rest => ?_
  rotate_left
  · refine ⟨f, _, hf0, trivial, fun od => ?_⟩
    refine ⟨_, rfl, f, od, rfl, .inl ⟨_, upd_same, fun D hD => lc_gen walk_keys (At := fun i _ x => ∃ k v, kvs[i]? = some (k, v) ∧ x = kV k) (fun i H x H' y => y) es (fun q => q.2.told.isSome) lk.symm (sz (m := 60) (by omega)) hD (fun H' s' => s' _ _ upd_same)
      (fun _ q y => y = tolV q.2.told) (fun _ _ _ _ _ e => e) (fun _ _ _ _ _ _ e => e) (fun j x q H5 A B hj hx hq s5 kA kB => ?_) (fun H5 acc s5 h5 pr => ?_)⟩⟩
    · obtain ⟨k, v, e1, rfl⟩ := hx
      obtain ⟨ek, T, ev, iv⟩ := Paired.at2 he0 e1 hq
      have ek : k = Sum.inl q.1 := ek
      have ev : v = .ref T := ev
      subst ek ev
      have vv := val_nodup nk _ (List.mem_of_getElem? e1)
      have tp : Tups H H5 := (tups_set (o := .frz od (.dK kvs)) fun xs => by rw [hf0]; intro z; cases z).trans (Tups.of s5)
      have iv5 := is_tups tp iv q.2.tups
      obtain ⟨ys, hT5, ia5⟩ := ev_row iv5
      have dg : DGet H5 f (kV (Sum.inl q.1)) (some (V.ref T)) := .inl ⟨kvs, Sum.inl q.1, .inr ⟨od, s5 _ _ upd_same⟩, rfl, vv.symm⟩
      rcases come_told q.2 with ⟨nm, r5, et, er5⟩ | ⟨et, w5, r5, er5, nw⟩
      · rw [er5] at ia5
        obtain ⟨r6, rfl⟩ : ∃ r6, ys = .str "come" :: .str nm :: r6 := by
          cases ia5 with
          | cons a b => cases b with
            | cons c d => cases a; cases c; exact ⟨_, rfl⟩
        refine ⟨rfl, _, rfl, _, rfl, f, .ref T, rfl, dg, T, _, _, _, rfl, rfl, SqT.of hT5, at_nat (i := 0) rfl, rfl, _, rfl, ?_⟩
        rw [decide_eq_true rfl]
        exact iteT ⟨_, rfl, _, rfl, f, .ref T, rfl, dg, T, _, _, _, rfl, rfl, SqT.of hT5, at_nat (i := 1) rfl, kA (by rw [et]; rfl) _ _ (Same.refl _) (by rw [et]; rfl)⟩
      · rw [er5] at ia5
        obtain ⟨r6, rfl⟩ : ∃ r6, ys = .str w5 :: r6 := by
          cases ia5 with
          | cons a b => cases a; exact ⟨_, rfl⟩
        refine ⟨rfl, _, rfl, _, rfl, f, .ref T, rfl, dg, T, _, _, _, rfl, rfl, SqT.of hT5, at_nat (i := 0) rfl, rfl, _, rfl, ?_⟩
        rw [decide_eq_false fun h => nw (V.str.inj h)]
        exact iteF (kB (by rw [et]; rfl) _ (Same.refl _))
    · have fz := s5 _ _ upd_same
      have eacc : acc = (toldOf es).map V.str := by
        have : ∀ {l : List V} {m : Es}, Paired (fun y p => y = tolV p.2.told) l m → l = m.map fun p => tolV p.2.told := fun h => by
          induction h with
          | nil => rfl
          | cons h r ih => rw [h, ih]; rfl
        exact (this pr).trans (told_comes es)
      have nD : H D = none := by
        have nDf : D ≠ f := fun z => by rw [z, upd_same] at hD; cases hD
        rw [upd_ne nDf] at hD
        exact hD
      refine ⟨fz, rest _ _ ⟨D, rfl, fun b o hb => ?_, nD, ?_⟩⟩
      · by_cases c3 : b = f
        · rw [c3, hf0] at hb
          cases hb
          rw [c3]
          exact upd_same
        · rw [upd_ne c3]
          exact s5 _ _ (by rw [upd_ne c3]; exact hb)
      · rw [upd_ne (ne_of h5 fz (by intro z; cases z)), h5, eacc]
  rintro σ H1 ⟨nl, rfl, s1, nnl0, hnl⟩
  try dsimp only
  have nla : nl ≠ a := hd.new nnl0
  have nlfl : nl ≠ fl := fun z => by rw [z, hfl] at nnl0; cases nnl0
  have hfl1 := s1 _ _ hfl
  have sM1 : Same (rms H [a, fl]) (rms H1 [a, fl]) := Same.rms s1
  have nn : (rms H1 [a, fl]) nl = some (.lst ((toldOf es).map V.str)) := by rw [rms_ne (by simp [nla, nlfl])]; exact hnl
  refine cut_if (fun σ H' => ∃ (T : Addr) (e : Ev) (ms' : List Str), σ = [some (.ref a), some (.ref r), some (.ref f), some (.ref fl), some (.ref nl), some (.ref T), none, none] ∧ DnAt (n + 8) H' a ∧ Same (rms H1 [a, fl]) (rms H' [a, fl]) ∧ Is (rms H' [a, fl]) (.ref T) e.dt ∧ e.good rs ∧ H' fl = some (.lst (ms'.map V.str)) ∧ ms'.length ≤ ms.length ∧ ∀ s ∈ ms', s ∈ ms) ?_ fun rest => ?_
  rotate_left
  · refine ⟨_, rfl, _, rfl, _, rfl, nl, _, rfl, .inl (SqL.of hnl), fun n2 hn2 => ⟨_, rfl, ?_⟩⟩
    have s2 := Same.up (H := H1) (o := .lst ((toldOf es).map V.str)) hn2
    have d2 := (hd.up s1).up s2
    have n2a := (hd.up s1).new hn2
    have n2f : n2 ≠ fl := fun z => by rw [z, hfl1] at hn2; cases hn2
    have mn2 : (rms H1 [a, fl]) n2 = none := by rw [rms_ne (by simp [n2a, n2f])]; exact hn2
    have sM2 : Same (rms H1 [a, fl]) (rms (upd H1 n2 (.lst ((toldOf es).map V.str))) [a, fl]) := Same.rms s2
    refine ⟨a, r, n2, fl, rs, toldOf es, ms, n, rfl, d2, by omega, n2f, n2a, nfa, (hk.mono sM1).mono (rms_more sM2 mn2 [a, n2, fl] (by simp)), dr, upd_same, s2 _ _ hfl1, by omega, by omega, fun s m => ?_, fun T H' e ks' ms' d3 s3 i3 g3 k3 m3 st => ?_⟩
    · rcases List.mem_append.mp m with m | m
      · exact tn s m
      · exact hns s m
    · have noZ : ∀ b ∈ [a, fl], ∀ xs, H' b ≠ some (.tup xs) := fun b m xs => by
        simp only [List.mem_cons, List.not_mem_nil, or_false] at m
        rcases m with rfl | rfl
        · exact draws_no d3.at_ xs
        · rw [m3]; intro z; cases z
      refine rest _ _ ⟨T, e, ms', rfl, d3, rms_trans sM2 (fun b m => ?_) s3, is_tups (tups_out noZ) i3 e.tups, g3, m3, ?_, ?_⟩
      · simp only [List.mem_cons, List.not_mem_nil, or_false] at m
        rcases m with rfl | rfl | rfl
        · exact .inl (by simp)
        · exact .inr mn2
        · exact .inl (by simp)
      · rcases st with ⟨_, _, rfl⟩ | ⟨x, _, _, rfl⟩
        · exact Nat.le_refl _
        · simp
      · rcases st with ⟨_, _, rfl⟩ | ⟨x, _, _, rfl⟩
        · exact fun s m => m
        · exact fun s m => List.mem_cons_of_mem _ m
  rintro σ H2 ⟨T, e, ms', rfl, d2, s2, iT, ge, hfl2, lm', sm'⟩
  try dsimp only
  have lift : ∀ {G : Hp}, Same (rms H1 [a, fl]) (rms G [a, fl]) → RanksR (rm G a) r rs := fun s => (hk.mono (sM1.trans s)).mono (rms_rm (by simp))
  have hnl2 := rms_same _ _ (s2 _ _ nn)
  -- beside the draws alone nothing is changed
  have more : ∀ {G G' : Hp}, Same (rms H1 [a, fl]) (rms G [a, fl]) → G fl = some (.lst (ms'.map V.str)) → Same (rm G a) (rm G' a) → Same (rms H1 [a, fl]) (rms G' [a, fl]) ∧ G' fl = some (.lst (ms'.map V.str)) := fun {G G'} s hf s' => by
    refine ⟨s.trans (rms_of_rm (by simp) s'), ?_⟩
    have := s' fl _ (by rw [rm_ne nfa]; exact hf)
    rwa [rm_ne nfa] at this
  have mkCome : ∀ {G : Hp} {T' t' : Addr} {nm : Str} {ws : List Str} {pt : Int}, nm ∈ names9 → wishG rs ws → 0 ≤ pt → pt < 4 → DnAt (n + 30) G a → G fl = some (.lst (ms'.map V.str)) → G T' = some (.tup [.str "come", .str nm, .ref t', .int pt, .non]) → G t' = some (.tup (ws.map V.str)) → Is (rms G [a, fl]) (.ref T') (Ev.come nm ws pt none).dt ∧ (Ev.come nm ws pt none).good rs := fun {G T' t' nm ws pt} hm gw p0 p4 dG fG hT ht => by
    have noZ : ∀ b ∈ [a, fl], ∀ xs, G b ≠ some (.tup xs) := fun b m xs => by
      simp only [List.mem_cons, List.not_mem_nil, or_false] at m
      rcases m with rfl | rfl
      · exact draws_no dG.at_ xs
      · rw [fG]; intro z; cases z
    have i : Is G (.ref T') (Ev.come nm ws pt none).dt := .tup hT (.cons (.str _ (by decide +kernel)) (.cons (.str nm (names9_ok nm hm).2.1) (.cons (ws_is dr gw ht) (.cons (.int pt) (.cons .non .nil))))) (by show 5 ≤ 60; decide)
    exact ⟨is_tups (tups_out noZ) i (Ev.tups _), hm, gw, ⟨p0, by omega⟩, fun s z => by cases z⟩
  refine cut_if (fun σ H' => ∃ (T : Addr) (e : Ev), σ = [some (.ref a), some (.ref r), some (.ref f), some (.ref fl), some (.ref nl), some (.ref T), none, none] ∧ DnAt (n + 16) H' a ∧ Same (rms H1 [a, fl]) (rms H' [a, fl]) ∧ Is (rms H' [a, fl]) (.ref T) e.dt ∧ e.good rs ∧ H' fl = some (.lst (ms'.map V.str))) ?_ fun rest => ?_
  rotate_left
  · refine ⟨_, rfl, lineN (n := 0), fun e0 he0 => ?_⟩
    have sE := Same.up (H := H2) (o := .lst []) he0
    have dE := d2.up sE
    obtain ⟨sE2, flE⟩ := more s2 hfl2 (Same.rm (a := a) sE)
    have hnlE := sE _ _ hnl2
    refine ⟨.list ((toldOf es).map .str), .list [], .lst (SqL.of hnlE) (shp9 tn).1, .lst (SqL.of upd_same) .nil, shaped9 tn, by decide +kernel, ?_⟩
    have stay : ∀ {G : Hp}, DnAt (n + 16) G a → Same (rms (upd H2 e0 (.lst [])) [a, fl]) (rms G [a, fl]) → G fl = some (.lst (ms'.map V.str)) → ∀ {R : L2.St → Hp → Prop}, (∀ σ H', (∃ (T : Addr) (e : Ev), σ = [some (.ref a), some (.ref r), some (.ref f), some (.ref fl), some (.ref nl), some (.ref T), none, none] ∧ DnAt (n + 16) H' a ∧ Same (rms H1 [a, fl]) (rms H' [a, fl]) ∧ Is (rms H' [a, fl]) (.ref T) e.dt ∧ e.good rs ∧ H' fl = some (.lst (ms'.map V.str))) → R σ H') → R [some (.ref a), some (.ref r), some (.ref f), some (.ref fl), some (.ref nl), some (.ref T), none, none] G := fun {G} dG sG fG {R} k =>
      k _ _ ⟨T, e, rfl, dG, sE2.trans sG, iT.mono ((Same.rms sE).trans sG), ge, fG⟩
    cases htl : toldOf es with
    | nil => exact ⟨false, rfl, iteF (stay (dE.le (by omega)) (Same.refl _) flE rest)⟩
    | cons k0 kr =>
    rw [eqv_ne]
    refine ⟨true, rfl, iteT ⟨_, rfl, a, 5, n + 8, rfl, dE, by omega, by decide, by decide, fun x o x0 x1 ho => ⟨rfl, _, rfl, iteB ?_ ?_⟩⟩⟩
    · have d3 : DnAt (n + 9) (upd (upd H2 e0 (.lst [])) a o) a := DnAt.put ho
      obtain ⟨s3, fl3⟩ := more sE2 flE (rm_put (H := upd H2 e0 (.lst [])) (a := a) (o := o))
      have hnl3 := (upd_ne nla (o := o)).trans hnlE
      generalize upd (upd H2 e0 (.lst [])) a o = G3 at d3 s3 fl3 hnl3 ⊢
      rw [htl] at hnl3
      refine ⟨_, rfl, _, rfl, a, nl, _, n + 9, rfl, d3, by omega, nla, .inl (SqL.of hnl3), by simp, (by rw [List.length_map, ← htl]; omega), fun j v o2 hv ho2 => ?_⟩
      obtain ⟨nm, mn, rfl⟩ := List.mem_map.mp (List.mem_of_getElem? hv)
      have n9 := tn nm (by rw [htl]; exact mn)
      have d4 : DnAt (n + 10) (upd G3 a o2) a := DnAt.put ho2
      obtain ⟨s4, fl4⟩ := more s3 fl3 (rm_put (H := G3) (a := a) (o := o2))
      refine ⟨_, rfl, _, rfl, a, r, rs, n + 10, rfl, d4, by omega, lift s4, dr, fun t' H' ws dW sW ht' gw => ?_⟩
      obtain ⟨s5, fl5⟩ := more s4 fl4 sW
      refine ⟨_, rfl, a, 4, n + 15, rfl, dW, by omega, by decide, by decide, fun pt o3 p0 p1 ho3 => ⟨lineN (n := 5), fun T' hT' => ?_⟩⟩
      have d6 : DnAt (n + 16) (upd H' a o3) a := DnAt.put ho3
      have sT := Same.up (H := upd H' a o3) (o := .tup [.str "come", .str nm, .ref t', .int pt, .non]) hT'
      have s56 : Same (rm H' a) (rm (upd (upd H' a o3) T' (.tup [.str "come", .str nm, .ref t', .int pt, .non])) a) := rm_put.trans (Same.rm sT)
      obtain ⟨s6, fl6⟩ := more s5 fl5 s56
      have d7 := d6.up sT
      obtain ⟨i7, g7⟩ := mkCome n9 gw p0 p1 (d7.le (by omega)) fl6 upd_same (rm_same _ _ (s56 _ _ ht'))
      exact rest _ _ ⟨T', _, rfl, d7, s6, i7, g7, fl6⟩
    · have d3 : DnAt (n + 9) (upd (upd H2 e0 (.lst [])) a o) a := DnAt.put ho
      exact stay (d3.le (by omega)) (rms_put (Same.refl _) (by simp)) ((upd_ne nfa).trans flE) rest
  rintro σ H3 ⟨T3, e3, rfl, d3, s3, iT3, ge3, hfl3⟩
  try dsimp only
  have out : ∀ {G : Hp} {T : Addr} {tr : Tr} {xs : List V}, tr.good rs → DnAt (n + 30) G a → Same (rms H1 [a, fl]) (rms G [a, fl]) → G fl = some (.lst (ms'.map V.str)) → rms G [a, fl] T = some (.tup xs) → IsA (rms G [a, fl]) xs tr.row → Q (.ref T) G := fun {G T tr xs} g dG sG fG hT ia =>
    q T G tr ms' dG (sM1.trans sG) ⟨T, xs, rfl, .inr hT, ia⟩ g fG lm' sm'
  have hf1 := (sM1 _ _ hf)
  have he1 := he.keep (Tups.of sM1)
  have evG : ∀ {G : Hp}, Same (rms H1 [a, fl]) (rms G [a, fl]) → (rms G [a, fl]) f = some (.dK kvs) ∧ EvE (rms G [a, fl]) kvs es := fun s => ⟨s _ _ hf1, he1.keep (Tups.of s)⟩
  have tupZ : ∀ {G : Hp} {T : Addr} {o : HO}, DnAt (n + 30) G a → G fl = some (.lst (ms'.map V.str)) → G T = none → rms (upd G T o) [a, fl] T = some o := fun dG fG hT => by
    have n1 := dG.new hT
    have n2 : ∀ {T : Addr} {G : Hp}, G T = none → G fl = some (.lst (ms'.map V.str)) → T ≠ fl := fun h1 h2 z => by rw [z, h2] at h1; cases h1
    rw [rms_ne (by simp [n1, n2 hT fG])]
    exact upd_same
  refine cut_if (fun σ H' => ∃ (ch : Int), σ = [some (.ref a), some (.ref r), some (.ref f), some (.ref fl), some (.ref nl), some (.ref T3), some (.int ch), none] ∧ DnAt (n + 17) H' a ∧ Same (rms H3 [a, fl]) (rms H' [a, fl]) ∧ H' fl = some (.lst (ms'.map V.str)) ∧ (2 ≤ ch → es ≠ [])) ?_ fun rest => ?_
  rotate_left
  · obtain ⟨f3, v3⟩ := evG s3
    refine ⟨_, rfl, fun e0 he0 => ?_⟩
    have sE := Same.up (H := H3) (o := .dK []) he0
    have dE := d3.up sE
    obtain ⟨sE2, flE⟩ := more s3 hfl3 (Same.rm (a := a) sE)
    refine ⟨f, e0, kvs, [], es, [], rs, rfl, rfl, sE _ _ (rms_same _ _ f3), upd_same, v3.keep (Tups.of (rms_same.trans sE)), .nil, dr, fun p m => (ok.good p m).1, .inr ⟨rfl, _, rfl, ?_⟩⟩
    by_cases c : es.length = 0
    · rw [decide_eq_true c]
      exact iteF (rest _ _ ⟨0, rfl, dE.le (by omega), Same.rms sE, flE, fun h => absurd h (by decide)⟩)
    · rw [decide_eq_false c]
      refine iteT ⟨_, rfl, a, 4, n + 16, rfl, dE, by omega, by decide, by decide, fun ch o c0 c1 ho => ?_⟩
      exact rest _ _ ⟨ch, rfl, DnAt.put ho, rms_put (Same.rms sE) (by simp), (upd_ne nfa).trans flE, fun _ z => c (by rw [z]; rfl)⟩
  rintro σ H4 ⟨ch, rfl, d4, s4, hfl4, ne4⟩
  try dsimp only
  have s14 := s3.trans s4
  have iT4 := iT3.mono s4
  refine cut_if (fun σ H' => σ = [some (.ref a), some (.ref r), some (.ref f), some (.ref fl), some (.ref nl), some (.ref T3), some (.int ch), none] ∧ H' = H4 ∧ 2 ≤ ch) ?_ fun rest => ?_
  rotate_left
  · refine ⟨_, rfl, _, _, rfl, rfl, _, rfl, ?_⟩
    by_cases c : ch < 2
    · rw [decide_eq_true c]
      obtain ⟨f4, v4⟩ := evG s14
      have f4r : (rm H4 a) f = some (.dK kvs) := rms_rm (Z := [a, fl]) (by simp) _ _ f4
      refine iteT ⟨_, rfl, _, rfl, a, f, kvs, es, n + 17, rfl, d4, by omega, f4r, v4.keep (Tups.of rms_same), le, fun t H' d5 s5 t0 t30 tn5 => ⟨_, rfl, lineN (n := 3), fun T hT => ?_⟩⟩
      obtain ⟨s5', fl5⟩ := more s14 hfl4 s5
      have d6 := (d5.le (show n + 17 + 1 ≤ n + 30 by omega))
      have sT := Same.up (H := H') (o := .tup [.str "put", .int t, .ref T3]) hT
      have s45 : Same (rms H4 [a, fl]) (rms (upd H' T (.tup [.str "put", .int t, .ref T3])) [a, fl]) := (rms_of_rm (by simp) s5).trans (Same.rms sT)
      exact out (tr := .put t e3) ⟨t0, by omega, ge3⟩ (d6.up sT) (s14.trans s45) (sT _ _ fl5) (tupZ d6 fl5 hT) (.cons (.str _ (by decide +kernel)) (.cons (.int t) (.cons (iT4.mono s45) .nil)))
    · rw [decide_eq_false c]
      exact iteF (rest _ _ ⟨rfl, rfl, by omega⟩)
  rintro σ H4' ⟨rfl, eG, ch2⟩
  rw [eG]
  clear eG
  try dsimp only
  refine cut_if (fun σ H' => ∃ t : Int, σ = [some (.ref a), some (.ref r), some (.ref f), some (.ref fl), some (.ref nl), some (.ref T3), some (.int ch), some (.int t)] ∧ DnAt (n + 18) H' a ∧ Same (rms H4 [a, fl]) (rms H' [a, fl]) ∧ H' fl = some (.lst (ms'.map V.str)) ∧ t ∈ es.map (·.1)) ?_ fun rest => ?_
  rotate_left
  · obtain ⟨f4, v4⟩ := evG s14
    refine ⟨_, rfl, _, rfl, f, kvs, es.map (·.1), rfl, .inl (rms_same _ _ f4), by rw [v4.keys, List.map_map]; rfl, by rw [List.length_map]; omega, fun ys p perm srt hp => ?_⟩
    have sp := Same.up (H := H4) (o := .lst (ys.map V.int)) hp
    have l1 : 1 ≤ es.length := by
      cases es with
      | nil => exact absurd rfl (ne4 ch2)
      | cons => simp
    have ly : ys.length = es.length := by rw [perm.length_eq, List.length_map]
    refine ⟨a, p, _, n + 17, rfl, d4.up sp, by omega, d4.new hp, .inl (SqL.of upd_same), by rw [List.length_map]; omega, by rw [List.length_map]; omega, fun j v o hv ho => ?_⟩
    obtain ⟨t, mt, rfl⟩ := List.mem_map.mp (List.mem_of_getElem? hv)
    exact rest _ _ ⟨t, rfl, DnAt.put ho, rms_put (Same.rms sp) (by simp), (upd_ne nfa).trans (sp _ _ hfl4), perm.mem_iff.mp mt⟩
  rintro σ H5 ⟨t, rfl, d5, s5, hfl5, mt⟩
  try dsimp only
  have s15 := s14.trans s5
  have iT5 := iT4.mono s5
  obtain ⟨pt, mpt, ept⟩ := List.mem_map.mp mt
  have tg : 0 ≤ t ∧ t ≤ 1000 := by rw [← ept]; exact (ok.good pt mpt).2
  refine cut_if (fun σ H' => σ = [some (.ref a), some (.ref r), some (.ref f), some (.ref fl), some (.ref nl), some (.ref T3), some (.int ch), some (.int t)] ∧ H' = H5) ?_ fun rest => ?_
  rotate_left
  · refine ⟨_, rfl, rfl, _, rfl, ?_⟩
    by_cases c : V.int ch = V.int 2
    · rw [decide_eq_true c]
      refine iteT ⟨_, rfl, lineN (n := 2), fun T hT => ?_⟩
      have d6 := (d5.le (show n + 18 ≤ n + 30 by omega))
      have sT := Same.up (H := H5) (o := .tup [.str "strike", .int t]) hT
      exact out (tr := .strike t) tg (d6.up sT) (s15.trans (Same.rms sT)) (sT _ _ hfl5) (tupZ d6 hfl5 hT) (.cons (.str _ (by decide +kernel)) (.cons (.int t) .nil))
    · rw [decide_eq_false c]
      exact iteF (rest _ _ ⟨rfl, rfl⟩)
  rintro σ H5' ⟨rfl, eG⟩
  rw [eG]
  clear eG
  try dsimp only
  refine cut_if (fun σ H' => ∃ (T : Addr) (e : Ev), σ = [some (.ref a), some (.ref r), some (.ref f), some (.ref fl), some (.ref nl), some (.ref T), some (.int ch), some (.int t)] ∧ DnAt (n + 30) H' a ∧ Same (rms H1 [a, fl]) (rms H' [a, fl]) ∧ Is (rms H' [a, fl]) (.ref T) e.dt ∧ e.good rs ∧ H' fl = some (.lst (ms'.map V.str))) ?_ fun rest => ?_
  rotate_left
  · obtain ⟨f5, v5⟩ := evG s15
    have f5r := rms_same _ _ f5
    have stay : ∀ {G : Hp}, DnAt (n + 30) G a → Same (rms H5 [a, fl]) (rms G [a, fl]) → G fl = some (.lst (ms'.map V.str)) → ∀ {R : L2.St → Hp → Prop}, (∀ σ H', (∃ (T : Addr) (e : Ev), σ = [some (.ref a), some (.ref r), some (.ref f), some (.ref fl), some (.ref nl), some (.ref T), some (.int ch), some (.int t)] ∧ DnAt (n + 30) H' a ∧ Same (rms H1 [a, fl]) (rms H' [a, fl]) ∧ Is (rms H' [a, fl]) (.ref T) e.dt ∧ e.good rs ∧ H' fl = some (.lst (ms'.map V.str))) → R σ H') → R [some (.ref a), some (.ref r), some (.ref f), some (.ref fl), some (.ref nl), some (.ref T3), some (.int ch), some (.int t)] G := fun {G} dG sG fG {R} k =>
      k _ _ ⟨T3, e3, rfl, dG, s15.trans sG, iT5.mono sG, ge3, fG⟩
    obtain ⟨ev, T0, e1, e2, i0⟩ : ∃ ev T0, evAt es t = some ev ∧ valV kvs (Sum.inl t) = some (.ref T0) ∧ Is (rms H5 [a, fl]) (.ref T0) ev.dt := by
      rcases v5.val t with ⟨ev, T0, a1, b1, c1⟩ | ⟨z, _⟩
      · exact ⟨ev, T0, a1, b1, c1⟩
      · have := evAt_mem ok.nd mpt
        rw [ept, z] at this
        cases this
    have gev : ev.good rs := by
      have := evAt_mem ok.nd mpt
      rw [ept, e1] at this
      rw [Option.some.inj this]
      exact (ok.good pt mpt).1
    obtain ⟨ys, hT0, ia0⟩ := ev_row (i0.mono rms_same)
    have dg : DGet H5 f (.int t) (some (.ref T0)) := e2 ▸ DGet.k (k := Sum.inl t) f5r
    rcases come_told ev with ⟨nm, r5, et, er5⟩ | ⟨et, w5, r5, er5, nw⟩
    · rw [er5] at ia0
      obtain ⟨r6, rfl⟩ : ∃ r6, ys = .str "come" :: .str nm :: r6 := by
        cases ia0 with
        | cons a b => cases b with
          | cons c d => cases a; cases c; exact ⟨_, rfl⟩
      refine ⟨_, rfl, _, rfl, f, .ref T0, rfl, dg, T0, _, _, _, rfl, rfl, SqT.of hT0, at_nat (i := 0) rfl, rfl, _, rfl, ?_⟩
      rw [decide_eq_true rfl]
      refine iteT ⟨_, rfl, a, 2, n + 18, rfl, d5, by omega, by decide, by decide, fun x o x0 x1 ho => ⟨rfl, _, rfl, iteB ?_ ?_⟩⟩
      · have n9 : nm ∈ names9 := by
          cases ev with
          | come n' ws' p' h' =>
            obtain rfl : n' = nm := Option.some.inj et
            exact gev.1
          | _ => cases et
        have d6 : DnAt (n + 19) (upd H5 a o) a := DnAt.put ho
        obtain ⟨s6, fl6⟩ := more s15 hfl5 (rm_put (H := H5) (a := a) (o := o))
        have nT0a : T0 ≠ a := fun z => by
          obtain ⟨o', e', _, _, _, e2', _⟩ := d5
          rw [← z, hT0, e2'] at e'
          cases e'
        have nfa2 : f ≠ a := fun z => by rw [z, rms_at (by simp)] at f5; cases f5
        have dg6 : DGet (upd H5 a o) f (.int t) (some (.ref T0)) := e2 ▸ DGet.k (k := Sum.inl t) ((upd_ne nfa2).trans f5r)
        refine ⟨_, rfl, _, rfl, f, .ref T0, rfl, dg6, T0, _, _, _, rfl, rfl, SqT.of ((upd_ne nT0a).trans hT0), at_nat (i := 1) rfl, ?_⟩
        refine ⟨_, rfl, _, rfl, a, r, rs, n + 19, rfl, d6, by omega, lift s6, dr, fun t' H' ws dW sW ht' gw => ?_⟩
        obtain ⟨s7, fl7⟩ := more s6 fl6 sW
        refine ⟨_, rfl, a, 4, n + 24, rfl, dW, by omega, by decide, by decide, fun pp o3 p0 p1 ho3 => ⟨lineN (n := 5), fun T' hT' => ?_⟩⟩
        have d8 : DnAt (n + 25) (upd H' a o3) a := DnAt.put ho3
        have sT := Same.up (H := upd H' a o3) (o := .tup [.str "come", .str nm, .ref t', .int pp, .non]) hT'
        have s78 : Same (rm H' a) (rm (upd (upd H' a o3) T' (.tup [.str "come", .str nm, .ref t', .int pp, .non])) a) := rm_put.trans (Same.rm sT)
        obtain ⟨s8, fl8⟩ := more s7 fl7 s78
        have d9 := (d8.up sT).le (show n + 25 ≤ n + 30 by omega)
        obtain ⟨i9, g9⟩ := mkCome n9 gw p0 p1 d9 fl8 upd_same (rm_same _ _ (s78 _ _ ht'))
        exact rest _ _ ⟨T', _, rfl, d9, s8, i9, g9, fl8⟩
      · have d6 : DnAt (n + 19) (upd H5 a o) a := DnAt.put ho
        exact stay (d6.le (by omega)) (rms_put (Same.refl _) (by simp)) ((upd_ne nfa).trans hfl5) rest
    · rw [er5] at ia0
      obtain ⟨r6, rfl⟩ : ∃ r6, ys = .str w5 :: r6 := by
        cases ia0 with
        | cons a b => cases a; exact ⟨_, rfl⟩
      refine ⟨_, rfl, _, rfl, f, .ref T0, rfl, dg, T0, _, _, _, rfl, rfl, SqT.of hT0, at_nat (i := 0) rfl, rfl, _, rfl, ?_⟩
      rw [decide_eq_false fun h => nw (V.str.inj h)]
      exact iteF (stay (d5.le (by omega)) (Same.refl _) hfl5 rest)
  rintro σ H6 ⟨T6, e6, rfl, d6, s6, iT6, ge6, hfl6⟩
  try dsimp only
  refine ⟨_, rfl, _, rfl, lineN (n := 3), fun T hT => ?_⟩
  have sT := Same.up (H := H6) (o := .tup [.str "alter", .int t, .ref T6]) hT
  exact out (tr := .alter t e6) ⟨tg.1, tg.2, ge6⟩ (d6.up sT) (s6.trans (Same.rms sT)) (sT _ _ hfl6) (tupZ d6 hfl6 hT) (.cons (.str _ (by decide +kernel)) (.cons (.int t) (.cons (iT6.mono (Same.rms sT)) .nil)))
end
end K07

set_option Elab.async false
set_option linter.all false
set_option maxRecDepth 100000
set_option maxHeartbeats 4000000
namespace K07
open PySem PySem.Spec PyProof.Rows L2 Sr
def spTruthB : Sp := fun vs H Q _ => ∃ b c : Bool, vs = [.bl b, .bl c] ∧ Q (.bl (decide (b = c))) H
/-! ### things that are no truths -/
theorem two {ks : List Str} {w : Str} {t : Dt} (h : decide (w = Str.ofString "strike") = false) : tl ks [.str w, t] = false := by
  show (timeOk t && decide (w = Str.ofString "strike")) = false
  rw [h, Bool.and_false]
theorem three {ks : List Str} {w t e : Dt} (h : evOk ks e = false) : tl ks [w, t, e] = false := by
  show (timeOk t && !isW w "strike" && ((isW w "put" || isW w "alter") && evOk ks e)) = false
  rw [h, Bool.and_false, Bool.and_false]
theorem come_form (ks : List Str) (r : List Dt) : evOk ks (.tup (.str (Str.ofString "come") :: r)) = comeOk ks r := by
  show formOk (Str.ofString "come") ks r = _
  unfold formOk
  rw [if_pos rfl]
theorem come4 (ks : List Str) (n w p h : Dt) : evOk ks (.tup [.str (Str.ofString "come"), n, w, p, h]) = (nameOk n && (wishesOk ks w && (pointsOk p && homeOk ks h))) := by
  rw [come_form]
  rfl
theorem twice_no (ks : List Str) (k : Str) : wishesOk ks (.lst [.str k, .str k]) = false := by
  show wl ks [.str k, .str k] = false
  unfold wl
  rw [Bool.and_eq_false_iff]
  refine .inr ?_
  simp [strsOf, met]
def OddT (ks : List Str) (M : Hp) (v : V) : Prop := ∃ d, Is M v d ∧ hdOk d ∧ truthOk ks d = false
theorem OddT.mono {ks : List Str} {H H' : Hp} (s : Same H H') {v : V} (h : OddT ks H v) : OddT ks H' v := by
  obtain ⟨d, h1, h2⟩ := h
  exact ⟨d, h1.mono s, h2⟩
def spOdd : Sp := fun vs H Q _ => ∃ (a r : Addr) (v : V) (rs : List Rk) (n : Nat), vs = [.ref a, .ref r, v] ∧ DnAt n H a ∧ n ≤ 100000 ∧ RanksR (rm H a) r rs ∧ drawnR rs ∧
  ∀ u H', DnAt (n + 1) H' a → Same (rm H a) (rm H' a) → OddT (rs.map (·.1)) (rm H' a) u → Q u H'
section
variable {P : Program} {w : World} {K : PySem.W.Frag} {mg : Str → Option Value} {base : Heap}
abbrev s__law_truth : Stmt := top 43
theorem sc__law_truth : FnScope ["found", "due"] ["found", "due"] (defScope s__law_truth) := ⟨rfl, rfl, rfl, by decide +kernel, rfl, by decide +kernel, by decide +kernel⟩
theorem c__law_truth (T : Txt K mg) (D : Dfn K mg "_law_truth" s__law_truth) : Cal P w K mg base 1 "_law_truth" ["found", "due"] spTruthB := by
  refine D.cal sc__law_truth (fun _ _ _ _ _ _ us hl => match us, hl with | [_, _], _ => rfl) (fun vs H Q E h => ?_) fun cdv A outer s H vs Q E hr h => ?_
  · obtain ⟨b, c, rfl, _⟩ := h
    rfl
  obtain ⟨b, c, rfl, q⟩ := h
  refine ⟨_, (pss_one (ps_ret (pe_ifExp (pt_val (pv 1)) (pe_cmpR op_isBl (pv 0) pe_bl (nomark _)) (pe_cmpR op_isBl (pv 0) pe_bl (nomark _))))), ?_⟩
  cases c with
  | true => exact ⟨_, rfl, _, rfl, iteT ⟨_, rfl, _, _, rfl, rfl, q⟩⟩
  | false => exact ⟨_, rfl, _, rfl, iteF ⟨_, rfl, _, _, rfl, rfl, q⟩⟩
abbrev s__law_odd_truth : Stmt := top 52
theorem sc__law_odd_truth : FnScope ["stream", "ranks", "events", "kind", "some"] ["stream", "ranks", "events"] (defScope s__law_odd_truth) := ⟨rfl, rfl, rfl, by decide +kernel, rfl, by decide +kernel, by decide +kernel⟩
theorem c__law_odd_truth (T : Txt K mg) (D : Dfn K mg "_law_odd_truth" s__law_odd_truth) (C_law_pick : Cal P w K mg base 2 "_law_pick" ["stream", "things"] (spPick K)) : Cal P w K mg base 3 "_law_odd_truth" ["stream", "ranks", "events"] spOdd := by
  refine D.cal sc__law_odd_truth (fun _ _ _ _ _ _ us hl => match us, hl with | [_, _, _], _ => rfl) (fun vs H Q E h => ?_) fun cdv A outer s H vs Q E hr h => ?_
  · obtain ⟨a, r, v, rs, n, rfl, _⟩ := h
    rfl
  obtain ⟨a, r, v, rs, n, rfl, hd, hb, ⟨kvs, hr0, er0⟩, dr, q⟩ := h
  refine ⟨_, (pss_cons (ps_set (i := 3) sc__law_odd_truth.nd rfl (by first | exact Or.inl rfl | exact Or.inr rfl) (pe_ix ix_list (pe_callTy (T := "list") (call_list_dK rfl) (by rfl) T.list (by decide +kernel) (pa_cons (pv 1) pa_nil)) pe_int (fun _ _ => rfl)))
      (pss_cons (ps_set (i := 4) sc__law_odd_truth.nd rfl (by first | exact Or.inl rfl | exact Or.inr rfl) (pe_lst (pa_cons pe_non (pa_cons pe_int (pa_cons pe_str (pa_cons (pe_lst pa_nil) (pa_cons (pe_tup (pa_cons pe_str (pa_cons pe_int pa_nil))) (pa_cons (pe_tup (pa_cons pe_str pa_nil)) (pa_cons (pe_tup (pa_cons pe_str (pa_cons (pe_un un_neg pe_int) pa_nil))) (pa_cons (pe_tup (pa_cons pe_str (pa_cons pe_bl pa_nil))) pa_nil))))))))))
      (pss_cons (ps_set (i := 4) sc__law_odd_truth.nd rfl (by first | exact Or.inl rfl | exact Or.inr rfl) (pe_op op_cat (pv 4) (pe_lst (pa_cons (pe_tup (pa_cons pe_str (pa_cons (pe_op op_add (pe_op op_pow pe_int pe_int) pe_int) pa_nil))) (pa_cons (pe_tup (pa_cons pe_str (pa_cons pe_int pa_nil))) (pa_cons (pe_tup (pa_cons pe_str (pa_cons pe_int (pa_cons pe_non pa_nil)))) pa_nil))))))
      (pss_cons (ps_set (i := 4) sc__law_odd_truth.nd rfl (by first | exact Or.inl rfl | exact Or.inr rfl) (pe_op op_cat (pv 4) (pe_lst (pa_cons (pe_tup (pa_cons pe_str (pa_cons pe_str (pa_cons (pe_tup (pa_cons pe_str (pa_cons (pv 3) pa_nil))) pa_nil)))) (pa_cons (pe_tup (pa_cons pe_str (pa_cons pe_int (pa_cons (pe_tup (pa_cons pe_str (pa_cons pe_str pa_nil))) pa_nil)))) pa_nil)))))
      (pss_cons (ps_set (i := 4) sc__law_odd_truth.nd rfl (by first | exact Or.inl rfl | exact Or.inr rfl) (pe_op op_cat (pv 4) (pe_lst (pa_cons (pe_tup (pa_cons pe_str (pa_cons pe_int (pa_cons (pe_tup (pa_cons pe_str (pa_cons pe_str (pa_cons (pe_lst pa_nil) (pa_cons pe_int (pa_cons pe_non pa_nil)))))) pa_nil)))) (pa_cons (pe_tup (pa_cons pe_str (pa_cons pe_int (pa_cons (pe_tup (pa_cons pe_str (pa_cons pe_str (pa_cons (pe_lst (pa_cons (pv 3) (pa_cons (pv 3) pa_nil))) (pa_cons pe_int (pa_cons pe_non pa_nil)))))) pa_nil)))) (pa_cons pe_dnewK pa_nil))))))
      (pss_cons (ps_set (i := 4) sc__law_odd_truth.nd rfl (by first | exact Or.inl rfl | exact Or.inr rfl) (pe_op op_cat (pv 4) (pe_lst (pa_cons (pe_tup (pa_cons pe_str (pa_cons pe_int (pa_cons pe_int pa_nil)))) (pa_cons (pe_tup (pa_cons pe_str (pa_cons pe_int (pa_cons (pe_tup (pa_cons pe_str (pa_cons (pv 3) pa_nil))) (pa_cons pe_int pa_nil))))) (pa_cons (pe_tup (pa_cons pe_str (pa_cons pe_int (pa_cons (pe_tup (pa_cons pe_str (pa_cons pe_str (pa_cons (pe_lst pa_nil) (pa_cons (pe_un un_neg pe_int) (pa_cons pe_non pa_nil)))))) pa_nil)))) pa_nil))))))
      (pss_one (ps_ret (pe_cal C_law_pick hr (by first | decide | omega) (by rfl) (pa_cons (pv 0) (pa_cons (pv 4) pa_nil))))))))))), ?_⟩
  have l4 := dr.2.1
  obtain ⟨k, kr, ek⟩ : ∃ k kr, rs.map (·.1) = k :: kr := by
    cases hh : rs with
    | nil => exact absurd hh dr.2.2.1
    | cons p r => exact ⟨_, _, rfl⟩
  have k4 : k ∈ names4 := by
    have m : k ∈ rs.map (·.1) := by rw [ek]; exact List.mem_cons_self ..
    obtain ⟨p, mp, e⟩ := List.mem_map.mp m
    rw [← e]
    exact (dr.2.2.2 p mp).1
  have kl := (names4_ok k k4).2
  generalize hks : rs.map (·.1) = ks at q ek
  have nn : (Str.ofString "none") ∉ ks := fun m => by
    rw [← hks] at m
    obtain ⟨p, mp, e⟩ := List.mem_map.mp m
    have := (dr.2.2.2 p mp).1
    rw [e] at this
    exact absurd this (by decide +kernel)
  have sm : ∀ s ∈ ([Str.ofString "put", Str.ofString "strike", Str.ofString "move", Str.ofString "alter", Str.ofString "3", Str.ofString "place", Str.ofString "none", Str.ofString "come", Str.ofString "A", Str.ofString "a"] : List Str), s.length ≤ 1000 := by decide +kernel
  have off : ∀ {G G' : Hp} {l : Addr} {o : HO}, DnAt n G a → G l = none → Same (upd G l o) G' → rm G' a l = some o := fun d h s => by
    rw [rm_ne (d.new h)]
    exact s _ _ upd_same
  refine cut_if (fun σ H' => σ = [some (.ref a), some (.ref r), some v, some (.str k), none] ∧ DnAt n H' a ∧ Same (rm H a) (rm H' a)) ?_ fun rest => ?_
  rotate_left
  · refine ⟨_, rfl, r, kvs, rfl, rm_same _ _ hr0, fun kl hkl => ?_⟩
    delta tNil
    dsimp only
    rw [perm_keys er0, hks]
    exact ⟨kl, _, _, _, rfl, rfl, SqL.of upd_same, at_nat (i := 0) (u := .str k) (by rw [ek]; rfl), rest _ _ ⟨rfl, hd.up (Same.up hkl), Same.rm (Same.up hkl)⟩⟩
  rintro σ H0 ⟨rfl, d0, s0⟩
  try dsimp only
  refine cut_if (fun σ H' => ∃ (sl : Addr) (us : List V), σ = [some (.ref a), some (.ref r), some v, some (.str k), some (.ref sl)] ∧ DnAt n H' a ∧ Same (rm H0 a) (rm H' a) ∧ (rm H' a) sl = some (.lst us) ∧ us.length = 8 ∧ ∀ u ∈ us, OddT ks (rm H' a) u) ?_ fun rest => ?_
  rotate_left
  · refine ⟨lineN (n := 0), fun o0 ho0 => ⟨lineN (n := 2), fun o1 ho1 => ⟨lineN (n := 1), fun o2 ho2 => ⟨_, rfl, ⟨lineN (n := 2), fun o3 ho3 => ⟨lineN (n := 2), fun o4 ho4 => ⟨lineN (n := 8), fun bl hbl => ?_⟩⟩⟩⟩⟩⟩⟩
    have so0 := Same.up (H := H0) (o := .lst []) ho0
    have so1 := Same.up (o := .tup [.str "put", .int 3]) ho1
    have so2 := Same.up (o := .tup [.str "strike"]) ho2
    have so3 := Same.up (o := .tup [.str "strike", .int (-1)]) ho3
    have so4 := Same.up (o := .tup [.str "strike", .bl true]) ho4
    have sbl := Same.up (o := .lst [.non, .int 5, .str "put", .ref o0, .ref o1, .ref o2, .ref o3, .ref o4]) hbl
    have to4 := sbl
    have to3 := so4.trans to4
    have to2 := so3.trans to3
    have to1 := so2.trans to2
    have to0 := so1.trans to1
    have tall := so0.trans to0
    have offo0 := off (o := .lst []) d0 ho0 to0
    have eo0 := DnAt.up d0 so0
    have offo1 := off (o := .tup [.str "put", .int 3]) eo0 ho1 to1
    have eo1 := DnAt.up eo0 so1
    have offo2 := off (o := .tup [.str "strike"]) eo1 ho2 to2
    have eo2 := DnAt.up eo1 so2
    have offo3 := off (o := .tup [.str "strike", .int (-1)]) eo2 ho3 to3
    have eo3 := DnAt.up eo2 so3
    have offo4 := off (o := .tup [.str "strike", .bl true]) eo3 ho4 to4
    have eo4 := DnAt.up eo3 so4
    have offbl := off (o := .lst [.non, .int 5, .str "put", .ref o0, .ref o1, .ref o2, .ref o3, .ref o4]) eo4 hbl (Same.refl _)
    have ebl := DnAt.up eo4 sbl
    refine rest _ _ ⟨bl, _, rfl, ebl, Same.rm tall, offbl, rfl, fun u m => ?_⟩
    simp only [List.mem_cons, List.not_mem_nil, or_false] at m
    rcases m with rfl | rfl | rfl | rfl | rfl | rfl | rfl | rfl
    · exact ⟨.non, .non, trivial, rfl⟩
    · exact ⟨.int 5, .int 5, trivial, rfl⟩
    · exact ⟨.str "put", .str _ (sm _ (by simp)), trivial, rfl⟩
    · exact ⟨.lst [], .lst (offo0) .nil (by show 0 ≤ 60; decide), trivial, rfl⟩
    · exact ⟨.tup [.str "put", .int 3], .tup (offo1) (.cons (.str _ (sm _ (by simp))) (.cons (.int 3) .nil)) (by show 2 ≤ 60; decide), fun _ => ⟨_, rfl⟩, (show tl ks [.str (Str.ofString "put"), .int 3] = false from two (by decide +kernel))⟩
    · exact ⟨.tup [.str "strike"], .tup (offo2) (.cons (.str _ (sm _ (by simp))) .nil) (by show 1 ≤ 60; decide), trivial, rfl⟩
    · exact ⟨.tup [.str "strike", .int (-1)], .tup (offo3) (.cons (.str _ (sm _ (by simp))) (.cons (.int (-1)) .nil)) (by show 2 ≤ 60; decide), fun _ => ⟨_, rfl⟩, rfl⟩
    · exact ⟨.tup [.str "strike", .bl true], .tup (offo4) (.cons (.str _ (sm _ (by simp))) (.cons (.bl true) .nil)) (by show 2 ≤ 60; decide), fun _ => ⟨_, rfl⟩, rfl⟩
  rintro σ H1 ⟨sl, us, rfl, d1, s1, hsl, lus, odd⟩
  try dsimp only
  refine cut_if (fun σ H' => ∃ (sl : Addr) (us : List V), σ = [some (.ref a), some (.ref r), some v, some (.str k), some (.ref sl)] ∧ DnAt n H' a ∧ Same (rm H1 a) (rm H' a) ∧ (rm H' a) sl = some (.lst us) ∧ us.length = 11 ∧ ∀ u ∈ us, OddT ks (rm H' a) u) ?_ fun rest => ?_
  rotate_left
  · refine ⟨_, rfl, ⟨_, _, rfl, rfl, ⟨by decide, by decide, by decide⟩, _, _, rfl, rfl, ⟨lineN (n := 2), fun o0 ho0 => ⟨lineN (n := 2), fun o1 ho1 => ⟨lineN (n := 3), fun o2 ho2 => ⟨lineN (n := 3), fun bl hbl => ?_⟩⟩⟩⟩⟩⟩
    have so0 := Same.up (H := H1) (o := .tup [.str "strike", .int (10 ^ (6 : Int).toNat + 1)]) ho0
    have so1 := Same.up (o := .tup [.str "move", .int 3]) ho1
    have so2 := Same.up (o := .tup [.str "alter", .int 3, .non]) ho2
    have sbl := Same.up (o := .lst [.ref o0, .ref o1, .ref o2]) hbl
    have to2 := sbl
    have to1 := so2.trans to2
    have to0 := so1.trans to1
    have tall := so0.trans to0
    have offo0 := off (o := .tup [.str "strike", .int (10 ^ (6 : Int).toNat + 1)]) d1 ho0 to0
    have eo0 := DnAt.up d1 so0
    have offo1 := off (o := .tup [.str "move", .int 3]) eo0 ho1 to1
    have eo1 := DnAt.up eo0 so1
    have offo2 := off (o := .tup [.str "alter", .int 3, .non]) eo1 ho2 to2
    have eo2 := DnAt.up eo1 so2
    have offbl := off (o := .lst [.ref o0, .ref o1, .ref o2]) eo2 hbl (Same.refl _)
    have ebl := DnAt.up eo2 sbl
    have tsl := rm_same _ _ ((Same.rm (a := a) tall) _ _ hsl)
    refine ⟨sl, bl, us, _, rfl, rfl, tsl, upd_same, lineN (by rw [lus]; show 11 ≤ 1000; decide), fun p hp => ?_⟩
    have sp := Same.up (o := .lst (us ++ [.ref o0, .ref o1, .ref o2])) hp
    refine rest _ _ ⟨p, _, rfl, ebl.up sp, (Same.rm tall).trans (Same.rm sp), by rw [rm_ne (ebl.new hp), upd_same], by rw [List.length_append, lus]; rfl, fun u m => ?_⟩
    rcases List.mem_append.mp m with m | m
    · exact (odd u m).mono ((Same.rm tall).trans (Same.rm sp))
    refine OddT.mono (Same.rm sp) ?_
    simp only [List.mem_cons, List.not_mem_nil, or_false] at m
    rcases m with rfl | rfl | rfl
    · exact ⟨.tup [.str "strike", .int (10 ^ (6 : Int).toNat + 1)], .tup (offo0) (.cons (.str _ (sm _ (by simp))) (.cons (.int _) .nil)) (by show 2 ≤ 60; decide), fun _ => ⟨_, rfl⟩, rfl⟩
    · exact ⟨.tup [.str "move", .int 3], .tup (offo1) (.cons (.str _ (sm _ (by simp))) (.cons (.int 3) .nil)) (by show 2 ≤ 60; decide), fun _ => ⟨_, rfl⟩, (show tl ks [.str (Str.ofString "move"), .int 3] = false from two (by decide +kernel))⟩
    · exact ⟨.tup [.str "alter", .int 3, .non], .tup (offo2) (.cons (.str _ (sm _ (by simp))) (.cons (.int 3) (.cons (.non) .nil))) (by show 3 ≤ 60; decide), fun _ => ⟨_, rfl⟩, (show tl ks [.str (Str.ofString "alter"), .int 3, .non] = false from three rfl)⟩
  rintro σ H2 ⟨sl, us, rfl, d2, s2, hsl, lus, odd⟩
  try dsimp only
  refine cut_if (fun σ H' => ∃ (sl : Addr) (us : List V), σ = [some (.ref a), some (.ref r), some v, some (.str k), some (.ref sl)] ∧ DnAt n H' a ∧ Same (rm H2 a) (rm H' a) ∧ (rm H' a) sl = some (.lst us) ∧ us.length = 13 ∧ ∀ u ∈ us, OddT ks (rm H' a) u) ?_ fun rest => ?_
  rotate_left
  · refine ⟨_, rfl, ⟨_, rfl, ⟨lineN (n := 2), fun o0 ho0 => ⟨lineN (n := 3), fun o1 ho1 => ⟨lineN (n := 2), fun o2 ho2 => ⟨lineN (n := 3), fun o3 ho3 => ⟨lineN (n := 2), fun bl hbl => ?_⟩⟩⟩⟩⟩⟩⟩
    have so0 := Same.up (H := H2) (o := .tup [.str "place", .str k]) ho0
    have so1 := Same.up (o := .tup [.str "put", .str "3", .ref o0]) ho1
    have so2 := Same.up (o := .tup [.str "place", .str "none"]) ho2
    have so3 := Same.up (o := .tup [.str "put", .int 3, .ref o2]) ho3
    have sbl := Same.up (o := .lst [.ref o1, .ref o3]) hbl
    have to3 := sbl
    have to2 := so3.trans to3
    have to1 := so2.trans to2
    have to0 := so1.trans to1
    have tall := so0.trans to0
    have offo0 := off (o := .tup [.str "place", .str k]) d2 ho0 to0
    have eo0 := DnAt.up d2 so0
    have offo1 := off (o := .tup [.str "put", .str "3", .ref o0]) eo0 ho1 to1
    have eo1 := DnAt.up eo0 so1
    have offo2 := off (o := .tup [.str "place", .str "none"]) eo1 ho2 to2
    have eo2 := DnAt.up eo1 so2
    have offo3 := off (o := .tup [.str "put", .int 3, .ref o2]) eo2 ho3 to3
    have eo3 := DnAt.up eo2 so3
    have offbl := off (o := .lst [.ref o1, .ref o3]) eo3 hbl (Same.refl _)
    have ebl := DnAt.up eo3 sbl
    have tsl := rm_same _ _ ((Same.rm (a := a) tall) _ _ hsl)
    refine ⟨sl, bl, us, _, rfl, rfl, tsl, upd_same, lineN (by rw [lus]; show 13 ≤ 1000; decide), fun p hp => ?_⟩
    have sp := Same.up (o := .lst (us ++ [.ref o1, .ref o3])) hp
    refine rest _ _ ⟨p, _, rfl, ebl.up sp, (Same.rm tall).trans (Same.rm sp), by rw [rm_ne (ebl.new hp), upd_same], by rw [List.length_append, lus]; rfl, fun u m => ?_⟩
    rcases List.mem_append.mp m with m | m
    · exact (odd u m).mono ((Same.rm tall).trans (Same.rm sp))
    refine OddT.mono (Same.rm sp) ?_
    simp only [List.mem_cons, List.not_mem_nil, or_false] at m
    rcases m with rfl | rfl
    · exact ⟨.tup [.str "put", .str "3", .tup [.str "place", .str k]], .tup (offo1) (.cons (.str _ (sm _ (by simp))) (.cons (.str _ (sm _ (by simp))) (.cons (.tup (offo0) (.cons (.str _ (sm _ (by simp))) (.cons (.str k kl) .nil)) (by show 2 ≤ 60; decide)) .nil))) (by show 3 ≤ 60; decide), fun _ => ⟨_, rfl⟩, rfl⟩
    · exact ⟨.tup [.str "put", .int 3, .tup [.str "place", .str "none"]], .tup (offo3) (.cons (.str _ (sm _ (by simp))) (.cons (.int 3) (.cons (.tup (offo2) (.cons (.str _ (sm _ (by simp))) (.cons (.str _ (sm _ (by simp))) .nil)) (by show 2 ≤ 60; decide)) .nil))) (by show 3 ≤ 60; decide), fun _ => ⟨_, rfl⟩, (show tl ks [.str (Str.ofString "put"), .int 3, .tup [.str (Str.ofString "place"), .str (Str.ofString "none")]] = false from three (show evOk ks (.tup [.str (Str.ofString "place"), .str (Str.ofString "none")]) = false from decide_eq_false nn))⟩
  rintro σ H3 ⟨sl, us, rfl, d3, s3, hsl, lus, odd⟩
  try dsimp only
  refine cut_if (fun σ H' => ∃ (sl : Addr) (us : List V), σ = [some (.ref a), some (.ref r), some v, some (.str k), some (.ref sl)] ∧ DnAt n H' a ∧ Same (rm H3 a) (rm H' a) ∧ (rm H' a) sl = some (.lst us) ∧ us.length = 16 ∧ ∀ u ∈ us, OddT ks (rm H' a) u) ?_ fun rest => ?_
  rotate_left
  · refine ⟨_, rfl, ⟨lineN (n := 0), fun o0 ho0 => ⟨lineN (n := 5), fun o1 ho1 => ⟨lineN (n := 3), fun o2 ho2 => ⟨_, rfl, ⟨_, rfl, ⟨lineN (n := 2), fun o3 ho3 => ⟨lineN (n := 5), fun o4 ho4 => ⟨lineN (n := 3), fun o5 ho5 => (fun o6 ho6 => ⟨lineN (n := 3), fun bl hbl => ?_⟩)⟩⟩⟩⟩⟩⟩⟩⟩⟩
    have so0 := Same.up (H := H3) (o := .lst []) ho0
    have so1 := Same.up (o := .tup [.str "come", .str "A", .ref o0, .int 0, .non]) ho1
    have so2 := Same.up (o := .tup [.str "put", .int 3, .ref o1]) ho2
    have so3 := Same.up (o := .lst [.str k, .str k]) ho3
    have so4 := Same.up (o := .tup [.str "come", .str "a", .ref o3, .int 0, .non]) ho4
    have so5 := Same.up (o := .tup [.str "put", .int 3, .ref o4]) ho5
    have so6 := Same.up (o := .dK []) ho6
    have sbl := Same.up (o := .lst [.ref o2, .ref o5, .ref o6]) hbl
    have to6 := sbl
    have to5 := so6.trans to6
    have to4 := so5.trans to5
    have to3 := so4.trans to4
    have to2 := so3.trans to3
    have to1 := so2.trans to2
    have to0 := so1.trans to1
    have tall := so0.trans to0
    have offo0 := off (o := .lst []) d3 ho0 to0
    have eo0 := DnAt.up d3 so0
    have offo1 := off (o := .tup [.str "come", .str "A", .ref o0, .int 0, .non]) eo0 ho1 to1
    have eo1 := DnAt.up eo0 so1
    have offo2 := off (o := .tup [.str "put", .int 3, .ref o1]) eo1 ho2 to2
    have eo2 := DnAt.up eo1 so2
    have offo3 := off (o := .lst [.str k, .str k]) eo2 ho3 to3
    have eo3 := DnAt.up eo2 so3
    have offo4 := off (o := .tup [.str "come", .str "a", .ref o3, .int 0, .non]) eo3 ho4 to4
    have eo4 := DnAt.up eo3 so4
    have offo5 := off (o := .tup [.str "put", .int 3, .ref o4]) eo4 ho5 to5
    have eo5 := DnAt.up eo4 so5
    have offo6 := off (o := .dK []) eo5 ho6 to6
    have eo6 := DnAt.up eo5 so6
    have offbl := off (o := .lst [.ref o2, .ref o5, .ref o6]) eo6 hbl (Same.refl _)
    have ebl := DnAt.up eo6 sbl
    have tsl := rm_same _ _ ((Same.rm (a := a) tall) _ _ hsl)
    refine ⟨sl, bl, us, _, rfl, rfl, tsl, upd_same, lineN (by rw [lus]; show 16 ≤ 1000; decide), fun p hp => ?_⟩
    have sp := Same.up (o := .lst (us ++ [.ref o2, .ref o5, .ref o6])) hp
    refine rest _ _ ⟨p, _, rfl, ebl.up sp, (Same.rm tall).trans (Same.rm sp), by rw [rm_ne (ebl.new hp), upd_same], by rw [List.length_append, lus]; rfl, fun u m => ?_⟩
    rcases List.mem_append.mp m with m | m
    · exact (odd u m).mono ((Same.rm tall).trans (Same.rm sp))
    refine OddT.mono (Same.rm sp) ?_
    simp only [List.mem_cons, List.not_mem_nil, or_false] at m
    rcases m with rfl | rfl | rfl
    · exact ⟨.tup [.str "put", .int 3, .tup [.str "come", .str "A", .lst [], .int 0, .non]], .tup (offo2) (.cons (.str _ (sm _ (by simp))) (.cons (.int 3) (.cons (.tup (offo1) (.cons (.str _ (sm _ (by simp))) (.cons (.str _ (sm _ (by simp))) (.cons (.lst (offo0) .nil (by show 0 ≤ 60; decide)) (.cons (.int 0) (.cons (.non) .nil))))) (by show 5 ≤ 60; decide)) .nil))) (by show 3 ≤ 60; decide), fun _ => ⟨_, rfl⟩, (show tl ks [.str (Str.ofString "put"), .int 3, .tup [.str (Str.ofString "come"), .str (Str.ofString "A"), .lst [], .int 0, .non]] = false from three (show evOk ks (.tup [.str (Str.ofString "come"), .str (Str.ofString "A"), .lst [], .int 0, .non]) = false from by rw [come4]; rw [show nameOk (.str (Str.ofString "A")) = false by decide +kernel]; simp only [Bool.false_and]))⟩
    · exact ⟨.tup [.str "put", .int 3, .tup [.str "come", .str "a", .lst [.str k, .str k], .int 0, .non]], .tup (offo5) (.cons (.str _ (sm _ (by simp))) (.cons (.int 3) (.cons (.tup (offo4) (.cons (.str _ (sm _ (by simp))) (.cons (.str _ (sm _ (by simp))) (.cons (.lst (offo3) (.cons (.str k kl) (.cons (.str k kl) .nil)) (by show 2 ≤ 60; decide)) (.cons (.int 0) (.cons (.non) .nil))))) (by show 5 ≤ 60; decide)) .nil))) (by show 3 ≤ 60; decide), fun _ => ⟨_, rfl⟩, (show tl ks [.str (Str.ofString "put"), .int 3, .tup [.str (Str.ofString "come"), .str (Str.ofString "a"), .lst [.str k, .str k], .int 0, .non]] = false from three (show evOk ks (.tup [.str (Str.ofString "come"), .str (Str.ofString "a"), .lst [.str k, .str k], .int 0, .non]) = false from by rw [come4]; rw [twice_no ks k]; simp only [Bool.false_and, Bool.and_false]))⟩
    · exact ⟨.dic, .dic (offo6), trivial, rfl⟩
  rintro σ H4 ⟨sl, us, rfl, d4, s4, hsl, lus, odd⟩
  try dsimp only
  refine cut_if (fun σ H' => ∃ (sl : Addr) (us : List V), σ = [some (.ref a), some (.ref r), some v, some (.str k), some (.ref sl)] ∧ DnAt n H' a ∧ Same (rm H4 a) (rm H' a) ∧ (rm H' a) sl = some (.lst us) ∧ us.length = 19 ∧ ∀ u ∈ us, OddT ks (rm H' a) u) ?_ fun rest => ?_
  rotate_left
  · refine ⟨_, rfl, ⟨lineN (n := 3), fun o0 ho0 => ⟨_, rfl, ⟨lineN (n := 2), fun o1 ho1 => ⟨lineN (n := 4), fun o2 ho2 => ⟨lineN (n := 0), fun o3 ho3 => ⟨_, rfl, ⟨lineN (n := 5), fun o4 ho4 => ⟨lineN (n := 3), fun o5 ho5 => ⟨lineN (n := 3), fun bl hbl => ?_⟩⟩⟩⟩⟩⟩⟩⟩⟩⟩
    have so0 := Same.up (H := H4) (o := .tup [.str "strike", .int 3, .int 4]) ho0
    have so1 := Same.up (o := .tup [.str "place", .str k]) ho1
    have so2 := Same.up (o := .tup [.str "put", .int 3, .ref o1, .int 1]) ho2
    have so3 := Same.up (o := .lst []) ho3
    have so4 := Same.up (o := .tup [.str "come", .str "a", .ref o3, .int (-1), .non]) ho4
    have so5 := Same.up (o := .tup [.str "put", .int 3, .ref o4]) ho5
    have sbl := Same.up (o := .lst [.ref o0, .ref o2, .ref o5]) hbl
    have to5 := sbl
    have to4 := so5.trans to5
    have to3 := so4.trans to4
    have to2 := so3.trans to3
    have to1 := so2.trans to2
    have to0 := so1.trans to1
    have tall := so0.trans to0
    have offo0 := off (o := .tup [.str "strike", .int 3, .int 4]) d4 ho0 to0
    have eo0 := DnAt.up d4 so0
    have offo1 := off (o := .tup [.str "place", .str k]) eo0 ho1 to1
    have eo1 := DnAt.up eo0 so1
    have offo2 := off (o := .tup [.str "put", .int 3, .ref o1, .int 1]) eo1 ho2 to2
    have eo2 := DnAt.up eo1 so2
    have offo3 := off (o := .lst []) eo2 ho3 to3
    have eo3 := DnAt.up eo2 so3
    have offo4 := off (o := .tup [.str "come", .str "a", .ref o3, .int (-1), .non]) eo3 ho4 to4
    have eo4 := DnAt.up eo3 so4
    have offo5 := off (o := .tup [.str "put", .int 3, .ref o4]) eo4 ho5 to5
    have eo5 := DnAt.up eo4 so5
    have offbl := off (o := .lst [.ref o0, .ref o2, .ref o5]) eo5 hbl (Same.refl _)
    have ebl := DnAt.up eo5 sbl
    have tsl := rm_same _ _ ((Same.rm (a := a) tall) _ _ hsl)
    refine ⟨sl, bl, us, _, rfl, rfl, tsl, upd_same, lineN (by rw [lus]; show 19 ≤ 1000; decide), fun p hp => ?_⟩
    have sp := Same.up (o := .lst (us ++ [.ref o0, .ref o2, .ref o5])) hp
    refine rest _ _ ⟨p, _, rfl, ebl.up sp, (Same.rm tall).trans (Same.rm sp), by rw [rm_ne (ebl.new hp), upd_same], by rw [List.length_append, lus]; rfl, fun u m => ?_⟩
    rcases List.mem_append.mp m with m | m
    · exact (odd u m).mono ((Same.rm tall).trans (Same.rm sp))
    refine OddT.mono (Same.rm sp) ?_
    simp only [List.mem_cons, List.not_mem_nil, or_false] at m
    rcases m with rfl | rfl | rfl
    · exact ⟨.tup [.str "strike", .int 3, .int 4], .tup (offo0) (.cons (.str _ (sm _ (by simp))) (.cons (.int 3) (.cons (.int 4) .nil))) (by show 3 ≤ 60; decide), fun _ => ⟨_, rfl⟩, rfl⟩
    · exact ⟨.tup [.str "put", .int 3, .tup [.str "place", .str k], .int 1], .tup (offo2) (.cons (.str _ (sm _ (by simp))) (.cons (.int 3) (.cons (.tup (offo1) (.cons (.str _ (sm _ (by simp))) (.cons (.str k kl) .nil)) (by show 2 ≤ 60; decide)) (.cons (.int 1) .nil)))) (by show 4 ≤ 60; decide), fun _ => ⟨_, rfl⟩, rfl⟩
    · exact ⟨.tup [.str "put", .int 3, .tup [.str "come", .str "a", .lst [], .int (-1), .non]], .tup (offo5) (.cons (.str _ (sm _ (by simp))) (.cons (.int 3) (.cons (.tup (offo4) (.cons (.str _ (sm _ (by simp))) (.cons (.str _ (sm _ (by simp))) (.cons (.lst (offo3) .nil (by show 0 ≤ 60; decide)) (.cons (.int (-1)) (.cons (.non) .nil))))) (by show 5 ≤ 60; decide)) .nil))) (by show 3 ≤ 60; decide), fun _ => ⟨_, rfl⟩, (show tl ks [.str (Str.ofString "put"), .int 3, .tup [.str (Str.ofString "come"), .str (Str.ofString "a"), .lst [], .int (-1), .non]] = false from three (show evOk ks (.tup [.str (Str.ofString "come"), .str (Str.ofString "a"), .lst [], .int (-1), .non]) = false from by rw [come4]; rw [show pointsOk (.int (-1)) = false from rfl]; simp only [Bool.false_and, Bool.and_false]))⟩
  rintro σ H5 ⟨sl, us, rfl, d5, s5, hsl, lus, odd⟩
  try dsimp only
  have nsl : sl ≠ a := fun z => by rw [z, rm_at] at hsl; cases hsl
  refine ⟨_, rfl, _, rfl, a, sl, us, n, rfl, d5, by omega, nsl, .inl (SqL.of (rm_same _ _ hsl)), by omega, by omega, fun j u o hu ho => ?_⟩
  exact q u _ (DnAt.put ho) (((((((s0).trans s1).trans s2).trans s3).trans s4).trans s5).trans rm_put) ((odd u (List.mem_of_getElem? hu)).mono rm_put)
end
end K07

set_option Elab.async false
set_option linter.all false
set_option maxRecDepth 100000
set_option maxHeartbeats 4000000
namespace K07
open PySem PySem.Spec PyProof.Rows L2 Sr LamX
abbrev s__law_tried : Stmt := top 53
theorem sc__law_tried : FnScope ["job", "e"] ["job"] (defScope s__law_tried) := ⟨rfl, rfl, rfl, by decide +kernel, rfl, by decide +kernel, by decide +kernel⟩
/-- what was tried: nothing, or the word with the number -/
def TRf (CB : Addr) : (XK → Hp → VK → Prop) → Hp → VK → Prop := fun tl H Q =>
  tl (fun cls d H' => ∃ (e : Addr) (v : V), cls = .ref CB ∧ d = some e ∧ H' e = some (.xd [("index", v)]) ∧ ∀ p, H' p = none → Q (.ref p) (upd H' p (.tup [.str "truth", v]))) H
    fun v H' => Q .non H'
theorem g_tried {X : Cx} {CB fB g : Addr} (hB : X.mg "BadTruth" = some (.ref CB)) (EB : Err X.K CB fB "index")
    (x11 : PySem.W.exmOne X.K (.ref CB) (.ref CB) = some true) (cdg : Value) (q : Str) :
    GivesTo X ["job", "e"] "_law_tried" (defScope s__law_tried) g cdg (defBody s__law_tried) "job" q (TRf CB) := by
  intro f c' s H Q tl act hc h
  refine ⟨_, pss_cons (ps_try_named (X := (cxOf C8.CX0 X.prog X.w X.K X.mg X.base ["job", "e"] "_law_tried" (defScope s__law_tried) g cdg X.A X.stack s H C8.E0).nox)
      (tb := fun W D σ H => ∃ Ech : XK, (∀ cls d σ' H', Ech cls d H' → W cls d σ' H') ∧ σ[0]? = some (some (.ref f)) ∧ H c' = some (CodeO c' q) ∧ tl Ech H (fun v H' => D.nx σ H'))
      (l := [(.ref CB, 1, fun a cls d D σ H => σ.length = 2 → tRet (tTup (tCons (tC (.str "truth")) (tCons (tXf a cls d CB "index" (tVar 1)) tNil))) D σ H)]) rfl rfl sc__law_tried.nd takes0 (fun W pn xe tk _ => ?_) (.cons ⟨?_⟩ .nil)) (pss_one (ps_ret pe_non)), ?_⟩
  · refine ⟨fun pins s' σ H' D I h' => ?_⟩
    obtain ⟨Ech, hW, h1, h2, h3⟩ := h'
    have hp := act W pn xe Ech ⟨257, 8, 257, 11⟩ ⟨257, 8, 257, 13⟩ tk hW
    exact (pss_one (ps_expr hp)).run pins s' σ H' D I ⟨h1, h2, h3⟩
  · refine ⟨_, _, _, _, _, _, rfl, ⟨rfl, by decide, .inl hB⟩, rfl, rfl, fun a oe cls d pn hz hf => ?_⟩
    exact pss_len (pss_one (ps_ret (pe_tup (pa_cons pe_str (pa_cons (pe_xf EB.xf EB.no hz hf (pv 1)) pa_nil)))))
  · refine ⟨_, fun cls d σ' H' hE => ?_, rfl, hc, h⟩
    obtain ⟨e, v, rfl, rfl, he, hq⟩ := hE
    have h1 : ∀ {a : Addr}, (σ'.set 1 (some (V.ref a))).length = 2 → (σ'.set 1 (some (V.ref a)))[1]? = some (some (.ref a)) := fun {a} hl => by
      rw [List.length_set] at hl
      rw [List.getElem?_set_self (by omega)]
    exact ⟨true, x11, iteT fun a ha hl => ⟨_, h1 hl, rfl, rfl, e, _, v, rfl, he, rfl, two_line, fun p hp => hq p hp⟩⟩
/-- a def with lambdas as a Cal: its code object is known -/
theorem calT {P : Program} {w : World} {K : PySem.W.Frag} {mg : Str → Option Value} {base : Heap} {x : Str} {st : Stmt} {N ps : List Str} {k : Nat} {sp : Sp} (D : Dfn K mg x st) (S : FnScope N ps (defScope st))
    (hb : ∀ (kV doc pm : Value) (an : Option Addr) (cdv ct : Value) (us : List Value), us.length = ps.length → bindArgs (PySem.W.fnOf x x (defArgs st) (defBody st) (defScope st) .none kV doc pm an cdv ct) ⟨us, []⟩ = pure (ps.zip us))
    (len : ∀ vs H Q E, sp vs H Q E → vs.length = ps.length)
    (hbody : ∀ (A : Around) (outer : List Env) (s : Shared) (H : Hp) (vs : List V) (Q : VK) (E : XK), Room k (A.deeper (envOfC x (defScope st) s.heap.objs.size (He.ga K x) (.ref (He.codeOf K (x, none))))) → sp vs H Q E →
      ∃ t, PSs (cxOf CX0 P w K mg base N x (defScope st) (He.ga K x) (.ref (He.codeOf K (x, none))) A outer s H E) (defBody st) t ∧ t { nx := fun _ H' => Q .non H', rt := Q } (L2.start N vs) H) : Cal P w K mg base (k + 1) x ps sp := by
  obtain ⟨fd, F⟩ := D.fn
  exact ⟨He.ga K x, fd, fun_ok F S len hbody, D.at_, F.kp, F.bindsN hb⟩
theorem ext_rm {H H' : Hp} {a : Addr} (e : ExtN H H') : ExtN (rm H a) (rm H' a) := fun b o h n => by
  by_cases c : b = a
  · rw [c, rm_at] at h
    cases h
  · rw [rm_ne c] at h ⊢
    exact e b o h n
theorem DnAt.ext {n : Nat} {H H' : Hp} {a : Addr} (d : DnAt n H a) (e : ExtN H H') : DnAt n H' a := by
  obtain ⟨o, h, x⟩ := d
  refine ⟨o, e _ _ h (fun ps z => ?_), x⟩
  obtain ⟨_, _, _, rfl, _⟩ := x
  cases z
/-! ### the drawn ranks in another order -/
theorem drawn_by {rs : List Rk} {ys : List Str} (dr : drawnR rs) (p : ys.Perm (rs.map (·.1))) : drawnR (byName rs ys) := by
  have ln : (byName rs ys).length = rs.length := by
    unfold byName
    rw [List.length_map, p.length_eq, List.length_map]
  refine ⟨by rw [names_by]; exact p.nodup_iff.mpr dr.1, by rw [ln]; exact dr.2.1, fun z => dr.2.2.1 (List.length_eq_zero_iff.mp (by rw [← ln, z]; rfl)), fun q m => ?_⟩
  unfold byName at m
  obtain ⟨s, ms, rfl⟩ := List.mem_map.mp m
  obtain ⟨r, mr, e⟩ := List.mem_map.mp (p.mem_iff.mp ms)
  have := dr.2.2.2 r mr
  rw [← e, wd_at dr.1 mr]
  exact this
theorem Ev.good_of {rs ro : List Rk} (h : ∀ s ∈ rs.map (·.1), s ∈ ro.map (·.1)) {e : Ev} (g : e.good rs) : e.good ro := by
  cases e with
  | come n ws p hm => exact ⟨g.1, ⟨g.2.1.1, fun s m => h s (g.2.1.2 s m)⟩, g.2.2.1, fun s z => h s (g.2.2.2 s z)⟩
  | place k => exact h k g
  | leave n => exact g
  | withdraw k => exact h k g
  | change n ws => exact ⟨g.1, ⟨g.2.1, fun s m => h s (g.2.2 s m)⟩⟩
  | gather => trivial
  | round => trivial
theorem Tr.good_of {rs ro : List Rk} (h : ∀ s ∈ rs.map (·.1), s ∈ ro.map (·.1)) {t : Tr} (g : t.good rs) : t.good ro := by
  cases t with
  | strike t => exact g
  | put t e => exact ⟨g.1, g.2.1, Ev.good_of h g.2.2⟩
  | alter t e => exact ⟨g.1, g.2.1, Ev.good_of h g.2.2⟩
theorem Ok.good_of {rs ro : List Rk} (h : ∀ s ∈ rs.map (·.1), s ∈ ro.map (·.1)) {es : Es} (o : Ok rs es) : Ok ro es := ⟨o.nd, o.told, fun p m => ⟨Ev.good_of h (o.good p m).1, (o.good p m).2⟩⟩
theorem TrsAt.good_of {rs ro : List Rk} (h : ∀ s ∈ rs.map (·.1), s ∈ ro.map (·.1)) {H : Hp} {us : List V} {trs : List Tr} (t : TrsAt rs H us trs) : TrsAt ro H us trs := L2.Paired.mapP t fun _ _ h2 => ⟨h2.1, Tr.good_of h h2.2⟩
theorem by_sub {rs : List Rk} {ys : List Str} (p : ys.Perm (rs.map (·.1))) : ∀ s ∈ rs.map (·.1), s ∈ (byName rs ys).map (·.1) := fun s m => by rw [names_by]; exact p.mem_iff.mpr m
/-! ### the order of the events tells nothing -/
theorem others_perm {a b : Es} (p : a.Perm b) (t : Int) : (others a t).Perm (others b t) := p.filter _
theorem after_perms {a b : Es} (p : a.Perm b) (w : Bool) (t : Int) (e : Ev) : (after a w t e).Perm (after b w t e) := by
  unfold after
  cases w
  · rw [if_neg (by simp), if_neg (by simp)]
    exact p.map _
  · rw [if_pos rfl, if_pos rfl]
    exact p.append_right _
theorem mem_times {a b : Es} (p : a.Perm b) (t : Int) : (t ∈ a.map (·.1)) ↔ (t ∈ b.map (·.1)) := (p.map _).mem_iff
theorem clash_perm {a b : Es} (p : a.Perm b) (e : Ev) : clash e a = clash e b := by
  unfold clash
  cases e.told with
  | none => rfl
  | some n =>
    show decide (n ∈ toldOf a) = decide (n ∈ toldOf b)
    exact decide_eq_decide.mpr (told_perm p).mem_iff
def OptPerm : Option Es → Option Es → Prop
  | none, none => True
  | some a, some b => a.Perm b
  | _, _ => False
theorem hearE_perm {a b : Es} (p : a.Perm b) (w : Bool) (t : Int) (e : Ev) : OptPerm (hearE a w t e) (hearE b w t e) := by
  have h1 : decide (t ∈ a.map (·.1)) = decide (t ∈ b.map (·.1)) := decide_eq_decide.mpr (mem_times p t)
  unfold hearE
  rw [h1, clash_perm (others_perm p t) e]
  split
  · trivial
  · split
    · trivial
    · exact after_perms p w t e
theorem hear_perm {a b : Es} (p : a.Perm b) (tr : Tr) : OptPerm (hear a tr) (hear b tr) := by
  cases tr with
  | strike t =>
    show OptPerm (if t ∈ a.map (·.1) then some (others a t) else none) (if t ∈ b.map (·.1) then some (others b t) else none)
    by_cases c : t ∈ a.map (·.1)
    · rw [if_pos c, if_pos ((mem_times p t).mp c)]
      exact others_perm p t
    · rw [if_neg c, if_neg fun h => c ((mem_times p t).mpr h)]
      trivial
  | put t e => exact hearE_perm p true t e
  | alter t e => exact hearE_perm p false t e
def SumPerm : Nat ⊕ Es → Nat ⊕ Es → Prop
  | .inl a, .inl b => a = b
  | .inr a, .inr b => a.Perm b
  | _, _ => False
theorem hearAll_perm : ∀ {items : List (Option Tr)} {a b : Es} {n : Nat}, a.Perm b → SumPerm (hearAll a items n) (hearAll b items n)
  | [], _, _, _, p => p
  | none :: r, _, _, n, p => rfl
  | some tr :: r, a, b, n, p => by
    have h := hear_perm p tr
    show SumPerm (match hear a tr with | none => .inl n | some es' => hearAll es' r (n + 1)) (match hear b tr with | none => .inl n | some es' => hearAll es' r (n + 1))
    cases h1 : hear a tr with
    | none =>
      cases h2 : hear b tr with
      | none => rfl
      | some y => rw [h1, h2] at h; exact h.elim
    | some x =>
      cases h2 : hear b tr with
      | none => rw [h1, h2] at h; exact h.elim
      | some y =>
        rw [h1, h2] at h
        exact hearAll_perm h
theorem hearAll_len {ro : List Rk} : ∀ {trs : List Tr} {es es' : Es} {n : Nat}, Ok ro es → (∀ t ∈ trs, t.good ro) → hearAll es (trs.map some) n = .inr es' → es'.length ≤ es.length + trs.length
  | [], _, _, _, _, _, h => by cases h; exact Nat.le_refl _
  | tr :: r, es, es', n, o, g, h => by
    have h : (match hear es tr with | none => Sum.inl n | some es' => hearAll es' (r.map some) (n + 1)) = .inr es' := h
    cases h1 : hear es tr with
    | none => rw [h1] at h; cases h
    | some x =>
      rw [h1] at h
      obtain ⟨o2, l2⟩ := hear_ok o (g tr (List.mem_cons_self ..)) h1
      have := hearAll_len o2 (fun t m => g t (List.mem_cons_of_mem _ m)) h
      rw [List.length_cons]
      omega
/-- more beside those that are heard -/
theorem hearAll_app : ∀ {trs : List Tr} {es : Es} {n : Nat} (more : List (Option Tr)), hearAll es (trs.map some ++ more) n = match hearAll es (trs.map some) n with
    | .inl m => .inl m
    | .inr es' => hearAll es' more (n + trs.length)
  | [], _, _, _ => rfl
  | tr :: r, es, n, more => by
    show (match hear es tr with | none => Sum.inl n | some es' => hearAll es' (r.map some ++ more) (n + 1)) = match (match hear es tr with | none => Sum.inl n | some es' => hearAll es' (r.map some) (n + 1)) with
      | .inl m => .inl m
      | .inr es' => hearAll es' more (n + (tr :: r).length)
    cases hear es tr with
    | none => rfl
    | some x =>
      show hearAll x (r.map some ++ more) (n + 1) = _
      rw [hearAll_app more, List.length_cons, show n + 1 + r.length = n + (r.length + 1) by omega]
theorem trs_good {rs : List Rk} {H : Hp} {us : List V} {trs : List Tr} (t : TrsAt rs H us trs) : ∀ x ∈ trs, x.good rs := fun x m => by
  induction t with
  | nil => cases m
  | cons h r ih =>
    rcases List.mem_cons.mp m with rfl | m
    · exact h.2
    · exact ih m
theorem asc_one {a b : Es} (p : a.Perm b) (x : a.Pairwise fun p q => p.1 < q.1) (y : b.Pairwise fun p q => p.1 < q.1) : a = b := by
  refine List.Perm.eq_of_pairwise (le := fun p q : Int × Ev => p.1 < q.1) (fun a b _ _ h1 h2 => ?_) x y p
  omega
/-! ### what stands beside the draws -/
theorem TrAt.ext {H H' : Hp} (e : ExtN H H') {v : V} {tr : Tr} (h : TrAt H v tr) : TrAt H' v tr := by
  obtain ⟨a, xs, h1, h2, h3⟩ := h
  exact ⟨a, xs, h1, h2.imp (fun h => e _ _ h (fun _ z => by cases z)) (fun h => e _ _ h (fun _ z => by cases z)), h3.ext e⟩
theorem TrsAt.ext {rs : List Rk} {H H' : Hp} (e : ExtN H H') {us : List V} {trs : List Tr} (h : TrsAt rs H us trs) : TrsAt rs H' us trs := L2.Paired.mapP h fun _ _ h => ⟨h.1.ext e, h.2⟩
theorem EvE.out {n : Nat} {H : Hp} {a : Addr} (d : DnAt n H a) {kvs : List (Key × V)} {es : Es} (h : EvE H kvs es) : EvE (rm H a) kvs es := h.keep fun b xs e => at_off d e (fun _ z => by cases z)
theorem OffR.out {n : Nat} {K : PySem.W.Frag} {H : Hp} {a x : Addr} {rs : List Rk} (d : DnAt n H a) (o : OffR K H x rs) : OffR K (rm H a) x rs := by
  obtain ⟨dx, dd, kvs, h1, h2, h3, h4⟩ := o
  refine ⟨dx, dd, kvs, at_off d h1 (fun _ z => by cases z), at_off d h2 (fun _ z => by cases z), h3.imp fun v ws h => ?_, h4⟩
  obtain ⟨t, e1, e2⟩ := h
  exact ⟨t, e1, at_off d e2 (fun _ z => by cases z)⟩
theorem CouR.out {n : Nat} {K : PySem.W.Frag} {H : Hp} {a x off : Addr} {es : Es} (d : DnAt n H a) (o : CouR K H x off es) : CouR K (rm H a) x off es := by
  obtain ⟨dx, dd, kvs, h1, h2, h3⟩ := o
  exact ⟨dx, dd, kvs, at_off d h1 (fun _ z => by cases z), at_off d h2 (fun _ z => by cases z), h3.out d⟩
theorem tab_draw {T : List (Addr × Str)} {n : Nat} {H H' : Hp} {a : Addr} (t : Tabs T H) (d : DnAt n H a) (s : Same (rm H a) (rm H' a)) : Tabs T H' := Tabs.ext (Tabs.off t d.at_) (s.trans rm_same)
abbrev Tb (P1 P2 : Addr) : List (Addr × Str) := [(P1, "_law_told_right" ++ ".<locals>." ++ "<lambda>"), (P2, "law" ++ ".<locals>." ++ "<lambda>")]
end K07

set_option Elab.async false
set_option linter.all false
set_option maxRecDepth 100000
set_option maxHeartbeats 4000000
namespace K07
open PySem PySem.Spec PyProof.Rows L2 Sr LamX
theorem sameC_perm {es es' : Es} (p : es.Perm es') (nd : (es.map (·.1)).Nodup) : sameC es es' = true := by
  have nd' : (es'.map (·.1)).Nodup := (p.map _).nodup_iff.mp nd
  unfold sameC
  rw [p.length_eq, beq_self_eq_true, Bool.true_and]
  refine List.all_eq_true.mpr fun q m => ?_
  have m' := p.mem_iff.mp m
  rw [evAt_mem nd m, evAt_mem nd' m', decide_eq_true rfl, Bool.and_true]
  exact decide_eq_true (List.mem_map_of_mem m')
theorem ints_p (K : PySem.W.Frag) (H : Hp) : ∀ ns : List Int, DpAll K H (ns.map V.int) (ns.map PyData.int) ∧ PyData.canLayAll0 (ns.map PyData.int) = true ∧ PyData.depthAll (ns.map PyData.int) ≤ 1
  | [] => ⟨.nil, rfl, by simp [PyData.depthAll]⟩
  | n :: r => by
    obtain ⟨h1, h2, h3⟩ := ints_p K H r
    refine ⟨.cons (.int n) h1, ?_, ?_⟩
    · show (true && PyData.canLayAll0 (r.map PyData.int)) = true
      rw [h2]
      rfl
    · simp only [List.map_cons, PyData.depthAll, PyData.depth]
      omega
theorem ints_sh (K : PySem.W.Frag) (ns : List Int) : SeqAt.shaped (.list (ns.map PyData.int)) = true := by
  have h := ints_p K (fun _ => none) ns
  unfold SeqAt.shaped
  rw [Bool.and_eq_true]
  refine ⟨h.2.1, decide_eq_true ?_⟩
  show PyData.depth (.list (ns.map PyData.int)) ≤ 64
  have := h.2.2
  simp only [PyData.depth]
  omega
/-- what the head tells of the class Course -/
structure CoM (K : PySem.W.Frag) : Prop where
  events : Meth K (He.ga K "Course") "events" (He.fAd K ("Course", some "events"))
  with_ : Meth K (He.ga K "Course") "with_truths" (He.fAd K ("Course", some "with_truths"))
  eq : PySem.W.findIn K (.ref (He.ga K "Course")) "__eq__" = some (some (.ref (He.fAd K ("Course", some "__eq__"))))
  fn : PySem.W.isFn K (.ref (He.fAd K ("Course", some "__eq__"))) = true
  ne : PySem.W.findIn K (.ref (He.ga K "Course")) "__ne__" = some (some (.builtin "object.__ne__"))
def spTold (K : PySem.W.Frag) (P1 P2 : Addr) : Sp := fun vs H Q _ => ∃ (a r f l : Addr) (rs : List Rk) (kvs : List (Key × V)) (es : Es) (us : List V) (trs : List Tr) (n : Nat), vs = [.ref a, .ref r, .ref f, .ref l] ∧ DnAt n H a ∧ n ≤ 5000 ∧ RanksR (rm H a) r rs ∧ drawnR rs ∧
  (rm H a) f = some (.dK kvs) ∧ EvE (rm H a) kvs es ∧ Ok rs es ∧ es.length ≤ 8 ∧ (rm H a) l = some (.lst us) ∧ us.length ≤ 4 ∧ TrsAt rs (rm H a) us trs ∧ Tabs (Tb P1 P2) H ∧
  ∀ H', DnAt (n + 5) H' a → ExtN (rm H a) (rm H' a) → Tabs (Tb P1 P2) H' → Q (.bl true) H'
/-- what comes of the truths, by the law's own hearing -/
def DueAt (H : Hp) (rs : List Rk) (es : Es) (trs : List Tr) (due num : V) : Prop := (∃ n : Nat, hearAll es (trs.map some) 0 = .inl n ∧ due = .non ∧ num = .int (n : Nat)) ∨
  ∃ es' p kv, hearAll es (trs.map some) 0 = .inr es' ∧ due = .ref p ∧ num = .non ∧ H p = some (.dK kv) ∧ EvE H kv es' ∧ Ok rs es' ∧ es'.length ≤ 30
theorem DueAt.ext {H H' : Hp} {rs : List Rk} {es : Es} {trs : List Tr} {due num : V} (e : ExtN H H') (h : DueAt H rs es trs due num) : DueAt H' rs es trs due num := by
  rcases h with h | ⟨es', p, kv, h1, h2, h3, h4, h5, h6⟩
  · exact .inl h
  · exact .inr ⟨es', p, kv, h1, h2, h3, e _ _ h4 (fun _ z => by cases z), h5.ext e, h6⟩
theorem DueAt.out {n : Nat} {a : Addr} {H : Hp} {rs : List Rk} {es : Es} {trs : List Tr} {due num : V} (d : DnAt n H a) (h : DueAt H rs es trs due num) : DueAt (rm H a) rs es trs due num := by
  rcases h with h | ⟨es', p, kv, h1, h2, h3, h4, h5, h6⟩
  · exact .inl h
  · exact .inr ⟨es', p, kv, h1, h2, h3, at_off d h4 (fun _ z => by cases z), h5.out d, h6⟩
/-- what stands while it is told -/
structure Tx (K : PySem.W.Frag) (f l x c : Addr) (rs ro : List Rk) (kvs : List (Key × V)) (es es2 : Es) (us : List V) (trs : List Tr) (due num : V) (M : Hp) : Prop where
  f : M f = some (.dK kvs)
  ev : EvE M kvs es
  l : M l = some (.lst us)
  tat : TrsAt rs M us trs
  off : OffR K M x ro
  co : CouR K M c x es2
  due : DueAt M rs es trs due num
theorem Tx.ext {K : PySem.W.Frag} {f l x c : Addr} {rs ro : List Rk} {kvs : List (Key × V)} {es es2 : Es} {us : List V} {trs : List Tr} {due num : V} {M M' : Hp} (X : Tx K f l x c rs ro kvs es es2 us trs due num M) (e : ExtN M M') : Tx K f l x c rs ro kvs es es2 us trs due num M' :=
  ⟨e _ _ X.f (fun _ z => by cases z), X.ev.ext e, e _ _ X.l (fun _ z => by cases z), X.tat.ext e, X.off.ext e, X.co.ext e, X.due.ext e⟩
theorem Tx.mono {K : PySem.W.Frag} {f l x c : Addr} {rs ro : List Rk} {kvs : List (Key × V)} {es es2 : Es} {us : List V} {trs : List Tr} {due num : V} {M M' : Hp} (X : Tx K f l x c rs ro kvs es es2 us trs due num M) (s : Same M M') : Tx K f l x c rs ro kvs es es2 us trs due num M' := X.ext (.of s)
/-- one of the truths handed -/
def HanL (rs : List Rk) (D : Addr) (H : Hp) (tr : Tr) (v : V) : Prop := TrAt H v tr ∧ tr.good rs ∧ v ≠ .ref D
theorem HanL.mono {rs : List Rk} {D : Addr} {H H' : Hp} (s : Same H H') {tr : Tr} {v : V} (h : HanL rs D H tr v) : HanL rs D H' tr v := ⟨h.1.mono s, h.2⟩
theorem Tr.tups (tr : Tr) : tupDs tr.row = true := by
  cases tr with
  | strike t => rfl
  | put t e => show (true && (true && (tupD e.dt && true))) = true; rw [e.tups]; rfl
  | alter t e => show (true && (true && (tupD e.dt && true))) = true; rw [e.tups]; rfl
theorem TrAt.set {H : Hp} {D : Addr} {o : HO} {v : V} {tr : Tr} (n : ∀ xs, H D ≠ some (.tup xs)) (h : TrAt H v tr) (ne : v ≠ .ref D) : TrAt (upd H D o) v tr := by
  obtain ⟨a, xs, rfl, h2, h3⟩ := h
  have na : a ≠ D := fun z => ne (by rw [z])
  exact ⟨a, xs, rfl, by rw [upd_ne na]; exact h2, isA_tups (tups_set n) h3 tr.tups⟩
theorem HanL.lay {rs : List Rk} {D : Addr} {H : Hp} {c c' : List V} (hD : H D = some (.lst c)) {tr : Tr} {v : V} (h : HanL rs D H tr v) : HanL rs D (upd H D (.lst c')) tr v := ⟨h.1.set (fun xs z => by rw [hD] at z; cases z) h.2.2, h.2⟩
theorem CouR.set {K : PySem.W.Frag} {H : Hp} {c x h : Addr} {us : List V} {es : Es} {o : HO} (co : CouR K H c x es) (hh : H h = some (.lst us)) : CouR K (upd H h o) c x es := by
  obtain ⟨dx, d, kv, h1, h2, h3⟩ := co
  exact ⟨dx, d, kv, (upd_ne (ne_of h1 hh (by intro z; cases z))).trans h1, (upd_ne (ne_of h2 hh (by intro z; cases z))).trans h2, h3.keep (tups_set fun xs z => by rw [hh] at z; cases z)⟩
theorem EvE.times {H : Hp} {kvs : List (Key × V)} {es : Es} (h : EvE H kvs es) : kvs.map (fun kv => kV kv.1) = (es.map (·.1)).map V.int := by
  rw [show kvs.map (fun kv => kV kv.1) = (kvs.map (·.1)).map kV by rw [List.map_map]; rfl, h.keys, List.map_map, List.map_map]
  rfl
theorem truth_sh (m : Int) : SeqAt.shaped (.tuple [.str "truth", .int m]) = true := by
  unfold SeqAt.shaped
  rw [Bool.and_eq_true]
  refine ⟨?_, decide_eq_true (by simp [PyData.depth, PyData.depthAll])⟩
  show (PyData.canLay0 (.str "truth") && (true && true)) = true
  rw [show PyData.canLay0 (.str "truth") = true by decide +kernel]
  rfl
theorem truth_dp {K : PySem.W.Frag} {H : Hp} {p : Addr} {m : Int} (h : H p = some (.tup [.str "truth", .int m])) : Dp K H (.ref p) (.tuple [.str "truth", .int m]) := .tup (SqT.of h) (.cons (.str _) (.cons (.int _) .nil))
/-- with_truths of truths that are all good -/
theorem with_trs {K : PySem.W.Frag} {G : Hp} {c x b : Addr} {o : HO} {ro : List Rk} {es es2 : Es} {us : List V} {trs : List Tr} {Q : VK} {E : XK} (co : CouR K G c x es2) (off : OffR K G x ro) (ner : ro ≠ []) (ok2 : Ok ro es2) (le2 : es2.length ≤ 20) (ho : G b = some o) (so : seqO us o) (lu : us.length ≤ 20) (t : TrsAt ro G us trs) (pm : es2.Perm es)
    (qE : ∀ n, hearAll es (trs.map some) 0 = .inl n → ∀ G' e, Same G G' → G' e = none → E (.ref (He.ga K "BadTruth")) (some e) (upd G' e (.xd [("index", .int (n : Nat))])))
    (qC : ∀ es', hearAll es (trs.map some) 0 = .inr es' → ∀ c' G' es3, Same G G' → G c' = none → es3.Perm es' → (es3.Pairwise fun p q => p.1 < q.1) → Ok ro es' → CouR K G' c' x es3 → Q (.ref c') G') : spWith K [.ref c, .ref b] G Q E := by
  have sp := hearAll_perm (items := trs.map some) (n := 0) pm
  refine ⟨c, x, .ref b, es2, ro, rfl, co, off, ner, ok2, le2, .inr ⟨b, us, o, trs.map some, rfl, ho, so, lu, t.its, fun n hn G' e s he => ?_, fun e2 hn c' G' es3 s hc p3 a3 k3 _ c3 => ?_⟩⟩
  · rw [hn] at sp
    cases h1 : hearAll es (trs.map some) 0 with
    | inl m =>
      rw [h1] at sp
      obtain rfl : n = m := sp
      exact qE n h1 G' e s he
    | inr m => rw [h1] at sp; exact sp.elim
  · rw [hn] at sp
    cases h1 : hearAll es (trs.map some) 0 with
    | inl m => rw [h1] at sp; exact sp.elim
    | inr e1 =>
      rw [h1] at sp
      exact qC e1 h1 c' G' es3 s hc (p3.trans sp) a3 (k3.perm (List.Perm.symm sp)) c3
theorem ne_same {K : PySem.W.Frag} {G : Hp} {c c' x x' : Addr} {ro : List Rk} {es : Es} {Q : VK} (co' : CouR K G c' x' es) (co : CouR K G c x es) (off' : OffR K G x' ro) (off : OffR K G x ro) (nd : (es.map (·.1)).Nodup) (q : Q (.bl false) G) : rNeIns K (He.ga K "Course") (spCEq K) E0 (.ref c') (.ref c) G Q := by
  obtain ⟨dx, d, kv, h1, h2, h3⟩ := id co'
  obtain ⟨dx', d', kv', g1, g2, g3⟩ := id co
  exact ⟨c', dx, _, rfl, h1, .inl ⟨c, _, dx', _, rfl, g1, first_self⟩, c', .ref c, x', es, ro, rfl, co', off', nd, .inr ⟨c, x, es, ro, rfl, co, off, true, by rw [sameR_self, sameC_self]; rfl, q⟩⟩
theorem eq_same {K : PySem.W.Frag} {G : Hp} {c c' x x' : Addr} {ro : List Rk} {es : Es} {Q : VK} (co' : CouR K G c' x' es) (co : CouR K G c x es) (off' : OffR K G x' ro) (off : OffR K G x ro) (nd : (es.map (·.1)).Nodup) (q : Q (.bl true) G) : rEqIns2 K (He.ga K "Course") (spCEq K) E0 (.ref c') (.ref c) G Q := by
  obtain ⟨dx, d, kv, h1, h2, h3⟩ := id co'
  refine ⟨c', dx, _, rfl, h1, co.rt, c', .ref c, x', es, ro, rfl, co', off', nd, .inr ⟨c, x, es, ro, rfl, co, off, ?_⟩⟩
  rw [sameR_self, sameC_self]
  exact q
section
variable {P : Program} {w : World} {K : PySem.W.Frag} {mg : Str → Option Value} {base : Heap}
abbrev s__law_told_right : Stmt := top 54
theorem sc__law_told_right : FnScope ["stream", "ranks", "events", "truths", "office", "handed", "later", "course", "due", "number", "truth"] ["stream", "ranks", "events", "truths"] (defScope s__law_told_right) := ⟨rfl, rfl, rfl, by decide +kernel, rfl, by decide +kernel, by decide +kernel⟩
theorem c__law_told_right {P1 P2 CB fB : Addr} (T : Txt K mg) (O : Cou K mg) (CN : CoN K mg) (CM : CoM K) (D : Dfn K mg "_law_told_right" s__law_told_right) (TB : TabB base mg (He.codeOf K ("_law_told_right", none)) P1) (nP : P1 ≠ P2) (D_law_tried : Dfn K mg "_law_tried" s__law_tried)
    (hB : mg "BadTruth" = some (.ref CB)) (EB : Err K CB fB "index") (eB : CB = He.ga K "BadTruth") (x11 : PySem.W.exmOne K (.ref CB) (.ref CB) = some true)
    (C_law_draw : Cal P w K mg base 1 "_law_draw" ["stream", "many"] spDraw) (C_law_office : Cal P w K mg base 6 "_law_office" ["ranks"] (spOffice K)) (C_law_behind : Cal P w K mg base 1 "_law_behind" ["events", "truths"] spBehind) (MkC0 : MkC P w K mg base)
    (MV : CalM P w K mg base CX0 1 (He.fAd K ("Course", some "events")) ["self"] (spCEvents K)) (MQ : CalM P w K mg base CX0 2 (He.fAd K ("Course", some "__eq__")) ["self", "other"] (spCEq K)) (MW : CalM P w K mg base (L2.CX P w) 7 (He.fAd K ("Course", some "with_truths")) ["self", "truths"] (spWith K)) :
    Cal P w K mg base 12 "_law_told_right" ["stream", "ranks", "events", "truths"] (spTold K P1 P2) := by
  refine calT D sc__law_told_right (fun _ _ _ _ _ _ us hl => match us, hl with | [_, _, _, _], _ => rfl) (fun vs H Q E h => ?_) fun A outer s H vs Q E hr h => ?_
  · obtain ⟨a, r, f, l, rs, kvs, es, us, trs, n, rfl, _⟩ := h
    rfl
  obtain ⟨a, r, f, l, rs, kvs, es, us, trs, n, rfl, hd, hb, hk, dr, hf, he, ok, le, hl, lu, tat, tab, q⟩ := h
  refine ⟨_, PSs.nox (pss_cons (ps_set (i := 4) sc__law_told_right.nd rfl (by first | exact Or.inl rfl | exact Or.inr rfl) (pe_cal C_law_office hr (by first | decide | omega) (by rfl) (pa_cons (pv 1) pa_nil)))
      (pss_cons (ps_asg (pe_tup (pa_cons (MkC.pe (K := K) (w := w) MkC0 rfl rfl hr (by decide) (by rfl) passes_never (pa_cons (pv 4) (pa_cons (pv 2) pa_nil))) (pa_cons (pe_cal C_law_behind hr (by first | decide | omega) (by rfl) (pa_cons (pv 2) (pa_cons (pv 3) pa_nil))) pa_nil))) (pg_tup rfl (pgs_cons (pg_name (i := 7) sc__law_told_right.nd rfl (by first | exact Or.inl rfl | exact Or.inr rfl)) (pgs_cons (pg_tup rfl (pgs_cons (pg_name (i := 8) sc__law_told_right.nd rfl (by first | exact Or.inl rfl | exact Or.inr rfl)) (pgs_cons (pg_name (i := 9) sc__law_told_right.nd rfl (by first | exact Or.inl rfl | exact Or.inr rfl)) pgs_nil))) pgs_nil))))
      (pss_cons (ps_set (i := 5) sc__law_told_right.nd rfl (by first | exact Or.inl rfl | exact Or.inr rfl) (pe_lc (own := [("truth", 10)]) (g := gName 10) (tt := tYes) rfl sc__law_told_right.nd (pi_list (pv 3)) (blkOk_by (N := ["stream", "ranks", "events", "truths", "office", "handed", "later", "course", "due", "number", "truth"]) (sc := defScope s__law_told_right) (by decide +kernel)) (fun _ _ _ _ _ => (pg_name (i := 10) sc__law_told_right.nd rfl (by first | exact Or.inl rfl | exact Or.inr rfl))) (fun _ _ _ _ _ => pts_nil) (fun _ _ _ _ _ => (pe_ifExp (pt_cmpR op_eq (pe_cal C_law_draw hr (by first | decide | omega) (by rfl) (pa_cons (pv 0) (pa_cons pe_int pa_nil))) pe_int (nomark _)) (pe_callTy (T := "list") (call_list_ofK K rfl) (by rfl) T.list (by decide +kernel) (pa_cons (pv 10) pa_nil)) (pv 10)))))
      (pss_cons (ps_if (PW.pt (pw_and (pt_cmpR op_eq (pe_cal C_law_draw hr (by first | decide | omega) (by rfl) (pa_cons (pv 0) (pa_cons pe_int pa_nil))) pe_int (nomark _)) (pw_and1 (pt_cmpR (ne_ MQ hr (by decide) CM.eq CM.fn CM.ne CN.cm) ((mE_ (K := K) MW rfl hr (by decide) O.cl CM.with_ passes_never) (pv 7) (pa_cons (pe_tup pa_nil) pa_nil)) (pv 7) (nomark _))))) (pss_one (ps_ret pe_bl)) pss_nil)
      (pss_cons (ps_if (pt_cmpR op_isN (pv 8) pe_non (nomark _)) (pss_one (ps_ret (pe_cmpR (op_eqD hr.units) (pe_lamT (Tb P1 P2) ("_law_told_right" ++ ".<locals>.") D_law_tried sc__law_tried (fun _ _ _ _ _ _ us hl => match us, hl with | [_], _ => rfl) (.head _) (fun p hp e => by simp only [List.mem_cons, List.not_mem_nil, or_false] at hp; rcases hp with rfl | rfl; exact rfl; exact absurd e.symm nP) (fun cdv => g_tried hB EB x11 cdv _) TB rfl hr (fun A outer s H E f c' hr => ((mE_ (K := K) MW rfl hr (by decide) O.cl CM.with_ (passes_def rfl rfl rfl rfl)) (pv 7) (pa_cons (pv 5) pa_nil))) (by rfl) (lamS_by (by show lamSB (defScope s__law_told_right) _ = true; decide +kernel)) (fun _ _ _ _ _ => rfl)) (pe_tup (pa_cons pe_str (pa_cons (pv 9) pa_nil))) (nomark _)))) pss_nil)
      (pss_cons (ps_if (pt_cmpR (ne_ MQ hr (by decide) CM.eq CM.fn CM.ne CN.cm) ((mE_ (K := K) MW rfl hr (by decide) O.cl CM.with_ passes_never) (pv 7) (pa_cons (pe_callTy (T := "tuple") call_tuple_of (by rfl) T.tuple (by decide +kernel) (pa_cons (pv 5) pa_nil)) pa_nil)) ((mE_ (K := K) MW rfl hr (by decide) O.cl CM.with_ passes_never) (pv 7) (pa_cons (pv 3) pa_nil)) (nomark _)) (pss_one (ps_ret pe_bl)) pss_nil)
      (pss_cons (ps_set (i := 6) sc__law_told_right.nd rfl (by first | exact Or.inl rfl | exact Or.inr rfl) ((mE_ (K := K) MW rfl hr (by decide) O.cl CM.with_ passes_never) (pv 7) (pa_cons (pv 5) pa_nil)))
      (pss_cons (ps_expr (pe_bm PySem.F.plainAttrs_list PySem.F.slot_list_append PySem.F.type_list_append mt_append (pv 5) (pa_cons pe_non pa_nil)))
      (pss_cons (ps_if (PW.pt (pw_or (pt_cmpR (op_neEv (u70 hr)) (m0_ MV hr (by decide) O.cl CM.events (pv 6)) (pv 8) (nomark _)) (pw_or (pt_cmpR (op_neD hr.units) (pe_callTy (T := "list") (call_list_dK rfl) (by rfl) T.list (by decide +kernel) (pa_cons (m0_ MV hr (by decide) O.cl CM.events (pv 6)) pa_nil)) (pe_callB (id := "sorted") (call_sortedDI rfl) (by rfl) T.sorted (by decide +kernel) (pa_cons (pv 8) pa_nil)) (nomark _)) (pw_or1 (pt_cmpR (ne_ MQ hr (by decide) CM.eq CM.fn CM.ne CN.cm) (pv 6) (MkC.pe (K := K) (w := w) MkC0 rfl rfl hr (by decide) (by rfl) passes_never (pa_cons (pv 4) (pa_cons (pv 8) pa_nil))) (nomark _)))))) (pss_one (ps_ret pe_bl)) pss_nil)
      (pss_one (ps_ret (pe_and (pe_cmpR (op_eqEv hr.units) (m0_ MV hr (by decide) O.cl CM.events (pv 7)) (pv 2) (nomark _)) (pe_one (pe_cmpR (eq_ (K := K) MQ rfl hr (by decide) CM.eq CM.fn) (pv 7) (MkC.pe (K := K) (w := w) MkC0 rfl rfl hr (by decide) (by rfl) passes_never (pa_cons (pv 4) (pa_cons (pv 2) pa_nil))) (nomark _))))))))))))))), ?_⟩
  have okn := (fun (ys : List Str) (p : ys.Perm (rs.map (·.1))) => Ok.good_of (by_sub p) ok)
  refine cut_if (fun σ H' => ∃ (x : Addr) (ys : List Str), σ = [some (.ref a), some (.ref r), some (.ref f), some (.ref l), some (.ref x), none, none, none, none, none, none] ∧ Same H H' ∧ ys.Perm (rs.map (·.1)) ∧ OffR K H' x (byName rs ys)) ?_ fun rest => ?_
  rotate_left
  · obtain ⟨kvr, hr0, er0⟩ := hk
    exact ⟨_, rfl, r, kvr, rs, rfl, rm_same _ _ hr0, er0.imp (fun _ _ h => h.mono rm_same), dr, fun x H' ys s n p srt o => rest _ _ ⟨x, ys, rfl, s, p, o⟩⟩
  rintro σ H1 ⟨x, ys, rfl, s1, perm, o1⟩
  try dsimp only
  have okr := okn ys perm
  generalize hro : byName rs ys = ro at okr o1
  have sub : ∀ s ∈ rs.map (·.1), s ∈ ro.map (·.1) := by rw [← hro]; exact by_sub perm
  have ner : ro ≠ [] := fun z => by
    have := dr.2.2.1
    rw [z] at sub
    cases hh : rs with
    | nil => exact this hh
    | cons p r => exact absurd (sub p.1 (by rw [hh]; exact List.mem_cons_self ..)) (by simp)
  obtain ⟨es2, pm, asc⟩ := asc_of ok.nd
  have d1 := hd.up s1
  have sr1 := Same.rm (a := a) s1
  refine cut_if (fun σ H' => ∃ (c : Addr) (due num : V), σ = [some (.ref a), some (.ref r), some (.ref f), some (.ref l), some (.ref x), none, none, some (.ref c), some due, some num, none] ∧ Same H H' ∧ Tx K f l x c rs ro kvs es es2 us trs due num (rm H' a)) ?_ fun rest => ?_
  rotate_left
  · have f1 := s1 _ _ (rm_same _ _ hf)
    have v1 := he.keep (Tups.of (rm_same.trans s1))
    refine ⟨_, rfl, _, rfl, ?_⟩
    delta tNil
    dsimp only
    refine ok_course f1 (o1.evs ner f1 v1) o1.at_ (v1.evl fun p m => (okr.good p m).1) (ok.times (by omega)) pm asc (fresh_of ((told_perm pm).nodup_iff.mpr ok.told)) fun c H2 hc sc co => ?_
    have s02 := s1.trans sc
    have M02 := Same.rm (a := a) s02
    have d2 := hd.up s02
    have tx : ∀ {t2 : Addr} {o : HO} {due num : V} {G : Hp}, Same H2 G → DueAt G rs es trs due num → G t2 = none → Same H (upd G t2 o) ∧ Tx K f l x c rs ro kvs es es2 us trs due num (rm (upd G t2 o) a) := fun {t2 o due num G} sG du ht2 => by
      have s2 := Same.up (H := G) (o := o) ht2
      have sF := s02.trans (sG.trans s2)
      have dF := hd.up sF
      have MF := Same.rm (a := a) sF
      exact ⟨sF, MF _ _ hf, he.keep (Tups.of MF), MF _ _ hl, tat.mono MF, (o1.mono (sc.trans (sG.trans s2))).out dF, (co.mono (sG.trans s2)).out dF, (du.ext (.of s2)).out dF⟩
    refine ⟨_, rfl, _, rfl, f, l, kvs, es, rs, us, trs, rfl, s02 _ _ (rm_same _ _ hf), he.keep (Tups.of (rm_same.trans s02)), ok, by omega, s02 _ _ (rm_same _ _ hl), by omega, tat.mono (rm_same.trans s02), fun m hm t G sG nt ht => ?_, fun es' hm ok' l' t p kv G sG nt np ht hp hev => ?_⟩
    · refine ⟨lineN (n := 2), fun t2 ht2 => ⟨t2, _, rfl, SqT.of upd_same, rfl, _, _, rfl, _, _, rfl, t, _, rfl, SqT.of ((Same.up ht2) _ _ ht), rfl, _, _, rfl, _, _, rfl, rfl, rfl, ?_⟩⟩
      exact rest _ _ ⟨c, .non, .int (m : Nat), rfl, tx sG (.inl ⟨m, hm, rfl, rfl⟩) ht2⟩
    · refine ⟨lineN (n := 2), fun t2 ht2 => ⟨t2, _, rfl, SqT.of upd_same, rfl, _, _, rfl, _, _, rfl, t, _, rfl, SqT.of ((Same.up ht2) _ _ ht), rfl, _, _, rfl, _, _, rfl, rfl, rfl, ?_⟩⟩
      exact rest _ _ ⟨c, .ref p, .non, rfl, tx sG (.inr ⟨es', p, kv, hm, rfl, rfl, hp, hev, ok', l'⟩) ht2⟩
  rintro σ H2 ⟨c, due, num, rfl, s2, X2⟩
  try dsimp only
  have d2 := hd.up s2
  have M2 := Same.rm (a := a) s2
  refine cut_if (fun σ H' => ∃ (h : Addr) (hs : List V), σ = [some (.ref a), some (.ref r), some (.ref f), some (.ref l), some (.ref x), some (.ref h), none, some (.ref c), some due, some num, none] ∧ DnAt (n + 4) H' a ∧ Same (rm H2 a) (rm H' a) ∧ h ≠ a ∧ (rm H' a) h = some (.lst hs) ∧ (rm H2 a) h = none ∧ TrsAt rs (rm H' a) hs trs ∧ ∀ v ∈ hs, v ≠ .ref h) ?_ fun rest => ?_
  rotate_left
  · have ll : us.length = trs.length := Paired.length tat
    refine ⟨_, rfl, l, rfl, ⟨_, SqL.of (rm_same _ _ X2.l)⟩, fun D hD => lc_draw (k := n) (c := 1) (a := a) (walk_list (xs := us)) walk_at trs ll.symm (sz (m := 60) (by omega)) hD d2 (fun H' s' => SqL.of (rm_same _ _ (s' _ _ X2.l))) (fun G tr v => HanL rs D G tr v) (fun _ _ _ _ e h => h.mono e) (fun _ _ _ _ _ e h => h.lay e) (fun i y tr H3 A B hi hy hz hD3 d3 s3 kA => ?_) (fun H3 acc d3 s3 h3 pr => ?_)⟩
    · obtain ⟨⟨b, xs, rfl, hx, ia⟩, tg⟩ := Paired.at2 X2.tat hy hz
      have hx3 := hx.imp (fun h => s3 _ _ h) (fun h => s3 _ _ h)
      have nbD : b ≠ D := fun z => by
        subst z
        rcases hx with h | h <;> (have := rm_same _ _ h; rw [hD] at this; cases this)
      refine ⟨rfl, _, rfl, a, 3, n + 1 * i, rfl, d3, by omega, by decide, by decide, fun k o k0 k1 ho => ⟨rfl, _, rfl, iteB ?_ ?_⟩⟩
      · have nba : b ≠ a := fun z => by rcases hx3 with h | h <;> (rw [z, rm_at] at h; cases h)
        have sq : SqL K (upd H3 a o) b xs ∨ SqT K (upd H3 a o) b xs := TrAt.seq (hx3.imp (fun h => (upd_ne nba).trans (rm_same _ _ h)) (fun h => (upd_ne nba).trans (rm_same _ _ h)))
        refine ⟨_, rfl, b, xs, rfl, sq, fun u hu => ?_⟩
        have sU := Same.up (H := upd H3 a o) (o := .lst xs) hu
        have dP : DnAt (n + 1 * i + 1) (upd H3 a o) a := DnAt.put ho
        have s4 : Same (rm H3 a) (rm (upd (upd H3 a o) u (.lst xs)) a) := rm_put.trans (Same.rm sU)
        refine kA _ _ ((dP.up sU).le (by omega)) s4 ⟨⟨u, xs, rfl, .inl (by rw [rm_ne (dP.new hu), upd_same]), ia.mono (s3.trans s4)⟩, tg, fun z => ?_⟩
        have z := V.ref.inj z
        rw [z, upd_ne (d2.new hD)] at hu
        exact hD3 hu
      · have dP : DnAt (n + 1 * i + 1) (upd H3 a o) a := DnAt.put ho
        exact ⟨_, rfl, kA _ _ (dP.le (by omega)) rm_put ⟨⟨b, xs, rfl, hx3.imp (fun h => rm_put _ _ h) (fun h => rm_put _ _ h), ia.mono (s3.trans rm_put)⟩, tg, fun z => nbD (V.ref.inj z)⟩⟩
    · have nD := d2.new hD
      exact rest _ _ ⟨D, acc, rfl, d3.le (by omega), s3, nD, (rm_ne nD).trans h3, (rm_ne nD).trans hD, L2.Paired.mapP pr fun _ _ h => ⟨h.1, h.2.1⟩, fun v m => by
        obtain ⟨j, hj⟩ := List.getElem?_of_mem m
        obtain ⟨tr, ht⟩ : ∃ tr, trs[j]? = some tr := by
          have := (List.getElem?_eq_some_iff.mp hj).1
          exact ⟨_, List.getElem?_eq_getElem (by rw [← Paired.length pr]; exact this)⟩
        exact (Paired.at2 pr hj ht).2.2⟩
  rintro σ H3 ⟨h, hs, rfl, d3, s3, nha, hh3, mh, th3, hsn⟩
  try dsimp only
  have X3 := X2.mono s3
  have lh : hs.length ≤ 4 := by rw [Paired.length th3, ← Paired.length tat]; exact lu
  refine cut_if (fun σ H' => σ = [some (.ref a), some (.ref r), some (.ref f), some (.ref l), some (.ref x), some (.ref h), none, some (.ref c), some due, some num, none] ∧ DnAt (n + 5) H' a ∧ Same (rm H3 a) (rm H' a)) ?_ fun rest => ?_
  rotate_left
  · refine ⟨_, rfl, a, 3, n + 4, rfl, d3, by omega, by decide, by decide, fun k o k0 k1 ho => ⟨rfl, _, rfl, ?_⟩⟩
    have d4 : DnAt (n + 5) (upd H3 a o) a := (DnAt.put ho).le (by omega)
    refine iteB ?_ ?_
    · have s4 := rm_put (H := H3) (a := a) (o := o)
      have X4 := (X3.mono s4).mono rm_same
      obtain ⟨cx, cd, kvc, c1, c2, c3⟩ := id X4.co
      refine ⟨_, rfl, c, cx, _, rfl, c1, rfl, lineN (n := 0), fun t0 ht0 => ?_⟩
      have s5 := Same.up (H := upd H3 a o) (o := .tup []) ht0
      delta tNil
      dsimp only
      refine with_trs (trs := []) (X4.co.mono s5) (X4.off.mono s5) ner (okr.perm pm) (by rw [pm.length_eq]; omega) upd_same (.inr rfl) (by show 0 ≤ 20; decide) .nil pm (fun m hm => by cases hm) fun es' hm c9 G es3 s6 hc9 p3 a3 k3 co9 => ?_
      obtain rfl : es = es' := Sum.inr.inj hm
      obtain rfl := asc_one (p3.trans pm.symm) a3 asc
      have s56 := s5.trans s6
      refine ⟨_, rfl, ne_same co9 (X4.co.mono s56) (X4.off.mono s56) (X4.off.mono s56) (okr.perm pm).nd ?_⟩
      exact ⟨_, rfl, iteF (rest _ _ ⟨rfl, (d4.up s5).up s6, s4.trans (Same.rm s56)⟩)⟩
    · exact iteF (rest _ _ ⟨rfl, d4, rm_put⟩)
  rintro σ H4 ⟨rfl, d4, s4⟩
  try dsimp only
  have X4 := X3.mono s4
  have XH := X4.mono rm_same
  have hh4 := rm_same _ _ (s4 _ _ hh3)
  have th4 := (th3.mono s4).mono rm_same
  have ok2 := okr.perm pm
  have le2 : es2.length ≤ 20 := by rw [pm.length_eq]; omega
  have tab4 := tab_draw tab hd (M2.trans (s3.trans s4))
  refine cut_if (fun σ H' => σ = [some (.ref a), some (.ref r), some (.ref f), some (.ref l), some (.ref x), some (.ref h), none, some (.ref c), some due, some num, none] ∧ H' = H4 ∧ ∃ es' p kv, hearAll es (trs.map some) 0 = .inr es' ∧ due = .ref p ∧ (rm H4 a) p = some (.dK kv) ∧ EvE (rm H4 a) kv es' ∧ Ok rs es' ∧ es'.length ≤ 30) ?_ fun rest => ?_
  rotate_left
  · refine ⟨_, rfl, rfl, _, rfl, ?_⟩
    rcases X4.due with ⟨m, hm, rfl, rfl⟩ | ⟨es', p, kv, hm, rfl, rfl, hp, hev, k', l'⟩
    · rw [decide_eq_true rfl]
      refine iteT ⟨tab4, fun G1 e1 t1 => ?_⟩
      have XG := XH.ext e1
      obtain ⟨cx, cd, kvc, c1, c2, c3⟩ := id XG.co
      refine ⟨_, rfl, c, cx, _, rfl, c1, rfl, _, rfl, ?_⟩
      delta tNil
      dsimp only
      refine with_trs XG.co XG.off ner ok2 le2 (e1 _ _ hh4 (fun _ z => by cases z)) (.inl rfl) (by omega) ((th4.ext e1).good_of sub) pm (fun m' hm' G2 e s6 he2 => ?_) fun es' hm' c9 G es3 s6 hc9 p3 a3 k3 co9 => ?_
      · obtain rfl : m = m' := by rw [hm] at hm'; exact Sum.inl.inj hm'
        refine ⟨e, .int (m : Nat), by rw [eB], rfl, upd_same, fun p1 hp1 => ?_⟩
        have s7 := Same.up (o := .xd [("index", .int (m : Nat))]) he2
        have s8 := Same.up (o := .tup [.str "truth", .int (m : Nat)]) hp1
        refine ⟨_, rfl, lineN (n := 2), fun q2 hq2 => ?_⟩
        have s9 := Same.up (o := .tup [.str "truth", .int (m : Nat)]) hq2
        refine ⟨_, _, truth_dp (s9 _ _ upd_same), truth_dp upd_same, truth_sh _, truth_sh _, ?_⟩
        rw [SeqAt.eqv_refl _ (SeqAt.canLay_of_shaped (truth_sh _))]
        have sF := s6.trans (s7.trans (s8.trans s9))
        exact q _ ((d4.ext e1).up sF) ((ExtN.of (M2.trans (s3.trans s4))).trans ((ext_rm e1).trans (.of (Same.rm sF)))) (Tabs.ext t1 sF)
      · rw [hm] at hm'
        cases hm'
    · rw [decide_eq_false fun z => by cases z]
      exact iteF (rest _ _ ⟨rfl, rfl, es', p, kv, hm, rfl, hp, hev, k', l'⟩)
  rintro σ H4' ⟨rfl, eG, es', p, kv, hm, rfl, hp, hev, k', l'⟩
  rw [eG]
  clear eG
  try dsimp only
  have nd2 := ok2.nd
  have full : ∀ {G : Hp} {b : Addr} {o : HO} {us' : List V}, Same H4 G → G b = some o → seqO us' o → us'.length ≤ 20 → TrsAt rs G us' trs → ∀ {Q' : VK}, (∀ c' G' es3, Same G G' → G c' = none → es3.Perm es' → (es3.Pairwise fun p q => p.1 < q.1) → CouR K G' c' x es3 → Q' (.ref c') G') → spWith K [.ref c, .ref b] G Q' E0 := fun {G b o us'} sG hb so lu' tt Q' qq => by
    have XG := XH.mono sG
    refine with_trs XG.co XG.off ner ok2 le2 hb so lu' (tt.good_of sub) pm (fun m' hm' => ?_) fun e1 hm' c' G' es3 s' hc p3 a3 k3 co3 => ?_
    · rw [hm] at hm'
      cases hm'
    · rw [hm] at hm'
      obtain rfl := Sum.inr.inj hm'
      exact qq c' G' es3 s' hc p3 a3 co3
  refine cut_if (fun σ H' => σ = [some (.ref a), some (.ref r), some (.ref f), some (.ref l), some (.ref x), some (.ref h), none, some (.ref c), some (.ref p), some num, none] ∧ Same H4 H') ?_ fun rest => ?_
  rotate_left
  · obtain ⟨cx, cd, kvc, c1, c2, c3⟩ := id XH.co
    refine ⟨_, rfl, c, cx, _, rfl, c1, rfl, _, rfl, h, hs, rfl, .inl ⟨SqL.of hh4, fun b1 hb1 => ?_⟩⟩
    have s5 := Same.up (o := .tup hs) hb1
    delta tNil
    dsimp only
    refine full s5 upd_same (.inr rfl) (by omega) (th4.mono s5) fun c5 G5 es5 s6 hc5 p5 a5 co5 => ?_
    have s56 := s5.trans s6
    refine ⟨_, rfl, c, cx, _, rfl, s56 _ _ c1, rfl, _, rfl, ?_⟩
    refine full s56 (s56 _ _ XH.l) (.inl rfl) (by omega) (XH.tat.mono s56) fun c6 G6 es6 s7 hc6 p6 a6 co6 => ?_
    have s57 := s56.trans s7
    obtain rfl := asc_one (p5.trans p6.symm) a5 a6
    have nd5 : (es5.map (·.1)).Nodup := (p5.map _).nodup_iff.mpr k'.nd
    refine ne_same (co5.mono s7) co6 (XH.off.mono s57) (XH.off.mono s57) nd5 ?_
    exact ⟨_, rfl, iteF (rest _ _ ⟨rfl, s57⟩)⟩
  rintro σ H5 ⟨rfl, s5⟩
  try dsimp only
  refine cut_if (fun σ H' => ∃ (c7 : Addr) (es3 : Es), σ = [some (.ref a), some (.ref r), some (.ref f), some (.ref l), some (.ref x), some (.ref h), some (.ref c7), some (.ref c), some (.ref p), some num, none] ∧ Same H4 H' ∧ es3.Perm es' ∧ (es3.Pairwise fun p q => p.1 < q.1) ∧ CouR K H' c7 x es3) ?_ fun rest => ?_
  rotate_left
  · obtain ⟨cx, cd, kvc, c1, c2, c3⟩ := id XH.co
    refine ⟨_, rfl, c, cx, _, rfl, s5 _ _ c1, rfl, _, rfl, ?_⟩
    delta tNil
    dsimp only
    exact full s5 (s5 _ _ hh4) (.inl rfl) (by omega) (th4.mono s5) fun c5 G5 es5 s6 hc5 p5 a5 co5 => rest _ _ ⟨c5, es5, rfl, s5.trans s6, p5, a5, co5⟩
  rintro σ H6 ⟨c7, es3, rfl, s6, p3, a3, co3⟩
  try dsimp only
  refine cut_if (fun σ H' => σ = [some (.ref a), some (.ref r), some (.ref f), some (.ref l), some (.ref x), some (.ref h), some (.ref c7), some (.ref c), some (.ref p), some num, none] ∧ DnAt (n + 5) H' a ∧ Same (rm H2 a) (rm H' a) ∧ CouR K H' c7 x es3) ?_ fun rest => ?_
  rotate_left
  · have hh6 := s6 _ _ hh4
    refine ⟨_, rfl, .inl ⟨rfl, _, SqL.of hh6⟩, h, hs, .non, rfl, rfl, hh6, by show hs.length < sizeLine; exact sz (m := 60) (by omega), ?_⟩
    exact rest _ _ ⟨rfl, ((d4.up s6).set nha), same_set (s3.trans (s4.trans (Same.rm s6))) mh, co3.set hh6⟩
  rintro σ H7 ⟨rfl, d7, s7, co7⟩
  try dsimp only
  have X7 := X2.mono s7
  have XH7 := X7.mono rm_same
  have t7 := tab_draw tab hd (M2.trans s7)
  obtain ⟨kv7, hp7, hev7⟩ : ∃ kv7, H7 p = some (.dK kv7) ∧ EvE H7 kv7 es' := by
    rcases XH7.due with ⟨m, hm7, _⟩ | ⟨es8, p8, kv8, hm8, e8, _, hp8, hev8, _⟩
    · rw [hm] at hm7
      cases hm7
    · rw [hm] at hm8
      obtain rfl := Sum.inr.inj hm8
      obtain rfl := V.ref.inj e8
      exact ⟨kv8, hp8, hev8⟩
  have nd3 : (es3.map (·.1)).Nodup := (p3.map _).nodup_iff.mpr k'.nd
  have gd3 : ∀ q ∈ es3, q.2.good rs := fun q m => (k'.good q (p3.mem_iff.mp m)).1
  have lk7 : kv7.length = es'.length := Paired.length hev7
  refine cut_if (fun σ H' => σ = [some (.ref a), some (.ref r), some (.ref f), some (.ref l), some (.ref x), some (.ref h), some (.ref c7), some (.ref c), some (.ref p), some num, none] ∧ Same H7 H') ?_ fun rest => ?_
  rotate_left
  · obtain ⟨dx, dd, kvx, g1, g2, g3⟩ := id co7
    refine ⟨_, rfl, c7, dx, _, rfl, g1, rfl, c7, x, es3, rfl, co7, fun p1 kv1 h1 ev1 => ?_⟩
    have s1' := Same.up (o := .dK kv1) h1
    refine ⟨_, rfl, p1, p, kv1, kv7, es3, es', rs, rfl, rfl, upd_same, s1' _ _ hp7, ev1, hev7.keep (Tups.of s1'), dr, gd3, .inl ⟨p3, nd3, ?_⟩⟩
    refine ⟨_, rfl, _, rfl, c7, dx, _, rfl, s1' _ _ g1, rfl, c7, x, es3, rfl, co7.mono s1', fun p2 kv2 h2 ev2 => ?_⟩
    have s2' := s1'.trans (Same.up (o := .dK kv2) h2)
    delta tNil
    dsimp only
    refine ⟨p2, kv2, rfl, upd_same, fun q1 hq1 => ?_⟩
    have s3' := s2'.trans (Same.up (o := .lst (kv2.map fun kv => kV kv.1)) hq1)
    refine ⟨_, rfl, p, kv7, es'.map (·.1), rfl, .inl (s3' _ _ hp7), by rw [hev7.keys, List.map_map]; rfl, by rw [List.length_map]; omega, fun ys q2 perm2 srt2 hq2 => ?_⟩
    have s4' := s3'.trans (Same.up (o := .lst (ys.map V.int)) hq2)
    obtain rfl : ys = es3.map (·.1) := sorted_eq (perm2.trans (p3.map _).symm) srt2 (List.pairwise_map.mpr (a3.imp fun h => Int.le_of_lt h))
    have hq1' : (upd _ q1 (HO.lst (kv2.map fun kv => kV kv.1))) q1 = _ := upd_same (H := upd (upd H7 p1 (.dK kv1)) p2 (.dK kv2))
    refine ⟨_, _, .lst (SqL.of ((Same.up hq2) _ _ upd_same)) (by rw [ev2.times]; exact (ints_p K _ _).1), .lst (SqL.of upd_same) (ints_p K _ _).1, ints_sh K _, ints_sh K _, ?_⟩
    rw [SeqAt.eqv_refl _ (SeqAt.canLay_of_shaped (ints_sh K _))]
    refine ⟨_, rfl, _, rfl, _, rfl, _, rfl, ?_⟩
    dsimp only
    refine ok_course (s4' _ _ hp7) ((XH7.off.mono s4').evs ner (s4' _ _ hp7) (hev7.keep (Tups.of s4'))) (XH7.off.mono s4').at_ ((hev7.keep (Tups.of s4')).evl fun q m => Ev.good_of sub (k'.good q m).1) (k'.times (by omega)) p3 a3 (fresh_of ((told_perm p3).nodup_iff.mpr k'.told)) fun c8 G8 hc8 s5' co8 => ?_
    have sF := s4'.trans s5'
    refine ne_same (co7.mono sF) co8 (XH7.off.mono sF) (XH7.off.mono sF) nd3 ?_
    exact ⟨_, rfl, iteF (rest _ _ ⟨rfl, sF⟩)⟩
  rintro σ H8 ⟨rfl, s8⟩
  try dsimp only
  have XH8 := XH7.mono s8
  obtain ⟨cx, cd, kvc, c1, c2, c3⟩ := id XH8.co
  refine ⟨_, rfl, c, cx, _, rfl, c1, rfl, c, x, es2, rfl, XH8.co, fun p1 kv1 h1 ev1 => ?_⟩
  have s1' := Same.up (o := .dK kv1) h1
  refine ⟨_, rfl, p1, f, kv1, kvs, es2, es, rfl, rfl, upd_same, s1' _ _ XH8.f, ev1, XH8.ev.keep (Tups.of s1'), nd2, ?_⟩
  rw [sameC_perm pm nd2]
  refine ⟨_, rfl, _, rfl, _, rfl, _, rfl, ?_⟩
  delta tNil
  dsimp only
  refine ok_course (s1' _ _ XH8.f) ((XH8.off.mono s1').evs ner (s1' _ _ XH8.f) (XH8.ev.keep (Tups.of s1'))) (XH8.off.mono s1').at_ ((XH8.ev.keep (Tups.of s1')).evl fun q m => (okr.good q m).1) (ok.times (by omega)) pm asc (fresh_of ((told_perm pm).nodup_iff.mpr ok.told)) fun c9 G9 hc9 s5' co9 => ?_
  have sF := s1'.trans s5'
  refine eq_same (XH8.co.mono sF) co9 (XH8.off.mono sF) (XH8.off.mono sF) nd2 ?_
  have s89 := s8.trans sF
  exact q _ (d7.up s89) (.of (M2.trans (s7.trans (Same.rm s89)))) (Tabs.ext t7 s89)
end
end K07

set_option Elab.async false
set_option linter.all false
set_option maxRecDepth 100000
set_option maxHeartbeats 4000000
namespace K07
open PySem PySem.Spec PyProof.Rows L2 Sr LamX
def spLaw (K : PySem.W.Frag) (P1 P2 : Addr) : Sp := fun vs H Q _ => ∃ (l : Addr) (ns : List Int), vs = [.ref l] ∧ SqL K H l (ns.map V.int) ∧ H P1 = some (.tbl #[]) ∧ H P2 = some (.tbl #[]) ∧ ∀ H', Q (.bl true) H'
def bodyFor : Stmt → List Stmt
  | .For _ _ b _ _ => b
  | _ => []
/-- what the tail of a turn leaves -/
def LawInv (K : PySem.W.Frag) (l P1 P2 : Addr) (ns : List Int) (σ : L2.St) (H' : Hp) : Prop :=
  (∃ v1 v2 v3 v4 v5 v6 v7 v8 v9 v10 v11 v12 v13 v14 v15 v16 v17, σ = [some (.ref l), v1, v2, v3, v4, v5, v6, v7, v8, v9, v10, v11, v12, v13, v14, v15, v16, v17]) ∧ SqL K H' l (ns.map V.int) ∧ Tabs (Tb P1 P2) H'
theorem OddT.ext {ks : List Str} {H H' : Hp} (e : ExtN H H') {v : V} (h : OddT ks H v) : OddT ks H' v := by
  obtain ⟨d, h1, h2⟩ := h
  exact ⟨d, h1.ext e, h2⟩
theorem paired_app {α β : Type} {F : α → β → Prop} : ∀ {l l' : List α} {m m' : List β}, Paired F l m → Paired F l' m' → Paired F (l ++ l') (m ++ m')
  | _, _, _, _, .nil, h => h
  | _, _, _, _, .cons a b, h => .cons a (paired_app b h)
/-- the word and the number, twice -/
theorem truth_ne {K : PySem.W.Frag} {H : Hp} {p q : Addr} {m : Int} {Q : VK} (hp : H p = some (.tup [.str "truth", .int m])) (hq : H q = some (.tup [.str "truth", .int m])) (k : Q (.bl false) H) : rNeD K (.ref p) (.ref q) H Q := by
  refine ⟨_, _, truth_dp hp, truth_dp hq, truth_sh _, truth_sh _, ?_⟩
  rw [SeqAt.eqv_refl _ (SeqAt.canLay_of_shaped (truth_sh _))]
  exact k
section
variable {P : Program} {w : World} {K : PySem.W.Frag} {mg : Str → Option Value} {base : Heap}
abbrev s_law : Stmt := top 55
theorem sc_law : FnScope ["script", "turn", "stream", "events", "k", "at", "thing", "ranks", "fresh", "truths", "now", "later", "office", "odd", "course", "due", "number", "truth"] ["script"] (defScope s_law) := ⟨rfl, rfl, rfl, by decide +kernel, rfl, by decide +kernel, by decide +kernel⟩
/-- what the law leans on -/
structure LawC (P : Program) (w : World) (K : PySem.W.Frag) (mg : Str → Option Value) (base : Heap) (P1 P2 CB fB : Addr) : Prop where
  T : Txt K mg
  O : Cou K mg
  CN : CoN K mg
  CM : CoM K
  MkC0 : MkC P w K mg base
  TB : TabB base mg (He.codeOf K ("law", none)) P2
  nP : P1 ≠ P2
  D_law_tried : Dfn K mg "_law_tried" s__law_tried
  hB : mg "BadTruth" = some (.ref CB)
  EB : Err K CB fB "index"
  eB : CB = He.ga K "BadTruth"
  x11 : PySem.W.exmOne K (.ref CB) (.ref CB) = some true
  MW : CalM P w K mg base (L2.CX P w) 7 (He.fAd K ("Course", some "with_truths")) ["self", "truths"] (spWith K)
  C_is_truth : Cal P w K mg base 5 "is_truth" ["office", "thing"] (spTruth K)
  C_law_stream : Cal P w K mg base 1 "_law_stream" ["script", "k"] (spStream K)
  C_law_draw : Cal P w K mg base 1 "_law_draw" ["stream", "many"] spDraw
  C_law_ranks : Cal P w K mg base 3 "_law_ranks" ["stream"] spRanks
  C_law_events : Cal P w K mg base 5 "_law_events" ["stream", "ranks", "many", "fresh"] spEvents
  C_law_some_truth : Cal P w K mg base 5 "_law_some_truth" ["stream", "ranks", "events", "fresh"] spSomeTruth
  C_law_behind : Cal P w K mg base 1 "_law_behind" ["events", "truths"] spBehind
  C_law_told_right : Cal P w K mg base 12 "_law_told_right" ["stream", "ranks", "events", "truths"] (spTold K P1 P2)
  C_law_office : Cal P w K mg base 6 "_law_office" ["ranks"] (spOffice K)
  C_law_odd_truth : Cal P w K mg base 3 "_law_odd_truth" ["stream", "ranks", "events"] spOdd
  C_law_truth : Cal P w K mg base 1 "_law_truth" ["found", "due"] spTruthB
abbrev XL (P : Program) (w : World) (K : PySem.W.Frag) (mg : Str → Option Value) (base : Heap) (A : Around) (outer : List Env) (s : Shared) (H : Hp) (E : XK) : Cx := Cx.nox (cxOf CX0 P w K mg base ["script", "turn", "stream", "events", "k", "at", "thing", "ranks", "fresh", "truths", "now", "later", "office", "odd", "course", "due", "number", "truth"] "law" (defScope s_law) (He.ga K "law") (.ref (He.codeOf K ("law", none))) A outer s H E)
abbrev lawBody : List Stmt := match defBody s_law with
  | x :: _ => bodyFor x
  | _ => []
/-- what stands before the wrong truths are tried -/
structure Ex (K : PySem.W.Frag) (l f tl x : Addr) (od : V) (ns : List Int) (rs ro : List Rk) (kvs : List (Key × V)) (es : Es) (us : List V) (trs : List Tr) (P1 P2 : Addr) (G : Hp) : Prop where
  sql : SqL K G l (ns.map V.int)
  tab : Tabs (Tb P1 P2) G
  f : G f = some (.dK kvs)
  ev : EvE G kvs es
  t : G tl = some (.lst us)
  tat : TrsAt rs G us trs
  off : OffR K G x ro
  odd : OddT (ro.map (·.1)) G od
theorem Ex.ext {K : PySem.W.Frag} {l f tl x : Addr} {od : V} {ns : List Int} {rs ro : List Rk} {kvs : List (Key × V)} {es : Es} {us : List V} {trs : List Tr} {P1 P2 : Addr} {G G' : Hp} (X : Ex K l f tl x od ns rs ro kvs es us trs P1 P2 G) (e : ExtN G G') (t : Tabs (Tb P1 P2) G') : Ex K l f tl x od ns rs ro kvs es us trs P1 P2 G' :=
  ⟨sql_ext e X.sql, t, e _ _ X.f (fun _ z => by cases z), X.ev.ext e, e _ _ X.t (fun _ z => by cases z), X.tat.ext e, X.off.ext e, X.odd.ext e⟩
theorem Ex.grow {K : PySem.W.Frag} {l f tl x : Addr} {od : V} {ns : List Int} {rs ro : List Rk} {kvs : List (Key × V)} {es : Es} {us : List V} {trs : List Tr} {P1 P2 : Addr} {G G' : Hp} (X : Ex K l f tl x od ns rs ro kvs es us trs P1 P2 G) (s : Same G G') : Ex K l f tl x od ns rs ro kvs es us trs P1 P2 G' := X.ext (.of s) (Tabs.ext X.tab s)
theorem la_e {P1 P2 CB fB : Addr} (C : LawC P w K mg base P1 P2 CB fB) {A : Around} {outer : List Env} {s : Shared} {H : Hp} {E : XK} (hr : Room 13 (XL P w K mg base A outer s H E).A) :
    ∃ t, PSs (XL P w K mg base A outer s H E) (lawBody.drop 9) t ∧ ∀ (D : Ends) (l f tl x : Addr) (od : V) (v1 v2 v4 v5 v6 v7 v8 v10 v11 v14 v15 v16 v17 : Option V) (ns : List Int) (rs ro : List Rk) (kvs : List (Key × V)) (es : Es) (us : List V) (trs : List Tr) (G : Hp), Ex K l f tl x od ns rs ro kvs es us trs P1 P2 G → Ok rs es → es.length ≤ 8 → us.length ≤ 4 → (∀ s ∈ rs.map (·.1), s ∈ ro.map (·.1)) → ro ≠ [] →
      (∀ σ H', LawInv K l P1 P2 ns σ H' → D.nx σ H') →
      t D [some (.ref l), v1, v2, some (.ref f), v4, v5, v6, v7, v8, some (.ref tl), v10, v11, some (.ref x), some od, v14, v15, v16, v17] G := by
  obtain ⟨T, O, CN, CM, MkC0, TB, nP, D_law_tried, hB, EB, eB, x11, MW, C_is_truth, C_law_stream, C_law_draw, C_law_ranks, C_law_events, C_law_some_truth, C_law_behind, C_law_told_right, C_law_office, C_law_odd_truth, C_law_truth⟩ := C
  refine ⟨_, (pss_cons (ps_asg (pe_tup (pa_cons (MkC.pe (K := K) (w := w) MkC0 rfl rfl hr (by decide) (by rfl) passes_never (pa_cons (pv 12) (pa_cons (pv 3) pa_nil))) (pa_cons (pe_cal C_law_behind hr (by first | decide | omega) (by rfl) (pa_cons (pv 3) (pa_cons (pv 9) pa_nil))) pa_nil))) (pg_tup rfl (pgs_cons (pg_name (i := 14) sc_law.nd rfl (by first | exact Or.inl rfl | exact Or.inr rfl)) (pgs_cons (pg_tup rfl (pgs_cons (pg_name (i := 15) sc_law.nd rfl (by first | exact Or.inl rfl | exact Or.inr rfl)) (pgs_cons (pg_name (i := 16) sc_law.nd rfl (by first | exact Or.inl rfl | exact Or.inr rfl)) pgs_nil))) pgs_nil))))
      (pss_cons (ps_set (i := 5) sc_law.nd rfl (by first | exact Or.inl rfl | exact Or.inr rfl) (pe_ifExp (pt_cmpR op_isN (pv 16) pe_non (nomark _)) (pe_callB (id := "len") call_len_seq (by rfl) T.len (by decide +kernel) (pa_cons (pv 9) pa_nil)) (pv 16)))
      (pss_cons (ps_if (pt_cmpR (op_neD hr.units) (pe_lamT (Tb P1 P2) ("law" ++ ".<locals>.") D_law_tried sc__law_tried (fun _ _ _ _ _ _ us hl => match us, hl with | [_], _ => rfl) (.tail _ (.head _)) (fun p hp e => by simp only [List.mem_cons, List.not_mem_nil, or_false] at hp; rcases hp with rfl | rfl; exact absurd e nP; exact rfl) (fun cdv => g_tried hB EB x11 cdv _) TB rfl hr (fun A outer s H E f c' hr => ((mE_ (K := K) MW rfl hr (by decide) O.cl CM.with_ (passes_def rfl rfl rfl rfl)) (pv 14) (pa_cons (pe_op op_cat (pv 9) (pe_lst (pa_cons (pv 13) (pa_cons pe_non pa_nil)))) pa_nil))) (by rfl) (lamS_by (by show lamSB (defScope s_law) _ = true; decide +kernel)) (fun _ _ _ _ _ => rfl)) (pe_tup (pa_cons pe_str (pa_cons (pv 5) pa_nil))) (nomark _)) (pss_one (ps_ret pe_bl)) pss_nil)
      (pss_one (ps_for PassesOwn.never rfl (pi_tup (pe_tup (pa_cons pe_non (pa_cons pe_int (pa_cons pe_str (pa_cons pe_dnewK pa_nil)))))) (pg_name (i := 6) sc_law.nd rfl (by first | exact Or.inl rfl | exact Or.inr rfl))
      (pss_one (ps_if (pt_cmpR (op_neD hr.units) (pe_lamT (Tb P1 P2) ("law" ++ ".<locals>.") D_law_tried sc__law_tried (fun _ _ _ _ _ _ us hl => match us, hl with | [_], _ => rfl) (.tail _ (.head _)) (fun p hp e => by simp only [List.mem_cons, List.not_mem_nil, or_false] at hp; rcases hp with rfl | rfl; exact absurd e nP; exact rfl) (fun cdv => g_tried hB EB x11 cdv _) TB rfl hr (fun A outer s H E f c' hr => ((mE_ (K := K) MW rfl hr (by decide) O.cl CM.with_ (passes_def rfl rfl rfl rfl)) (pv 14) (pa_cons (pv 6) pa_nil))) (by rfl) (lamS_by (by show lamSB (defScope s_law) _ = true; decide +kernel)) (fun _ _ _ _ _ => rfl)) (pe_tup (pa_cons pe_str (pa_cons pe_int pa_nil))) (nomark _)) (pss_one (ps_ret pe_bl)) pss_nil))))))), ?_⟩
  intro D l f tl x od v1 v2 v4 v5 v6 v7 v8 v10 v11 v14 v15 v16 v17 ns rs ro kvs es us trs G X ok le lu sub ner q
  have okr := Ok.good_of sub ok
  obtain ⟨es2, pm, asc⟩ := asc_of ok.nd
  have ok2 := okr.perm pm
  have le2 : es2.length ≤ 20 := by rw [pm.length_eq]; omega
  refine cut_if (fun σ H' => ∃ (c : Addr) (due num : V), σ = [some (.ref l), v1, v2, some (.ref f), v4, v5, v6, v7, v8, some (.ref tl), v10, v11, some (.ref x), some od, some (.ref c), some due, some num, v17] ∧ Same G H' ∧ CouR K H' c x es2 ∧ DueAt H' rs es trs due num) ?_ fun rest => ?_
  rotate_left
  · refine ⟨_, rfl, _, rfl, ?_⟩
    delta tNil
    dsimp only
    refine ok_course X.f (X.off.evs ner X.f X.ev) X.off.at_ (X.ev.evl fun p m => (okr.good p m).1) (ok.times (by omega)) pm asc (fresh_of ((told_perm pm).nodup_iff.mpr ok.told)) fun c H2 hc sc co => ?_
    refine ⟨_, rfl, _, rfl, f, tl, kvs, es, rs, us, trs, rfl, sc _ _ X.f, X.ev.keep (Tups.of sc), ok, by omega, sc _ _ X.t, by omega, X.tat.mono sc, fun m hm t G' sG nt ht => ?_, fun es' hm ok' l' t p kv G' sG nt np ht hp hev => ?_⟩
    · refine ⟨lineN (n := 2), fun t2 ht2 => ⟨t2, _, rfl, SqT.of upd_same, rfl, _, _, rfl, _, _, rfl, t, _, rfl, SqT.of ((Same.up ht2) _ _ ht), rfl, _, _, rfl, _, _, rfl, rfl, rfl, ?_⟩⟩
      have s2 := Same.up (H := G') (o := .tup [.ref c, .ref t]) ht2
      exact rest _ _ ⟨c, .non, .int (m : Nat), rfl, sc.trans (sG.trans s2), co.mono (sG.trans s2), .inl ⟨m, hm, rfl, rfl⟩⟩
    · refine ⟨lineN (n := 2), fun t2 ht2 => ⟨t2, _, rfl, SqT.of upd_same, rfl, _, _, rfl, _, _, rfl, t, _, rfl, SqT.of ((Same.up ht2) _ _ ht), rfl, _, _, rfl, _, _, rfl, rfl, rfl, ?_⟩⟩
      have s2 := Same.up (H := G') (o := .tup [.ref c, .ref t]) ht2
      exact rest _ _ ⟨c, .ref p, .non, rfl, sc.trans (sG.trans s2), co.mono (sG.trans s2), .inr ⟨es', p, kv, hm, rfl, rfl, s2 _ _ hp, hev.keep (Tups.of s2), ok', l'⟩⟩
  rintro σ G1 ⟨c, due, num, rfl, s1, co1, du1⟩
  try dsimp only
  have X1 := X.grow s1
  have lt : us.length = trs.length := Paired.length X.tat
  have ar := hearAll_app (trs := trs) (es := es) (n := 0) [none, none]
  refine cut_if (fun σ H' => ∃ m : Nat, σ = [some (.ref l), v1, v2, some (.ref f), v4, some (.int (m : Nat)), v6, v7, v8, some (.ref tl), v10, v11, some (.ref x), some od, some (.ref c), some due, some num, v17] ∧ H' = G1 ∧ hearAll es (trs.map some ++ [none, none]) 0 = .inl m) ?_ fun rest => ?_
  rotate_left
  · refine ⟨_, rfl, rfl, _, rfl, ?_⟩
    rcases du1 with ⟨m, hm, rfl, rfl⟩ | ⟨es', p, kv, hm, rfl, rfl, _⟩
    · rw [hm] at ar
      rw [decide_eq_false fun z => by cases z]
      exact iteF ⟨_, rfl, rest _ _ ⟨m, rfl, rfl, ar⟩⟩
    · rw [hm] at ar
      rw [decide_eq_true rfl]
      refine iteT ⟨_, rfl, tl, us, rfl, .inl (SqL.of X1.t), rest _ _ ⟨us.length, rfl, rfl, ?_⟩⟩
      rw [ar, lt]
      show Sum.inl (0 + trs.length) = _
      rw [Nat.zero_add]
  rintro σ G1' ⟨m, rfl, eG, hm⟩
  rw [eG]
  clear eG
  try dsimp only
  refine cut_if (fun σ H' => σ = [some (.ref l), v1, v2, some (.ref f), v4, some (.int (m : Nat)), v6, v7, v8, some (.ref tl), v10, v11, some (.ref x), some od, some (.ref c), some due, some num, v17] ∧ Ex K l f tl x od ns rs ro kvs es us trs P1 P2 H' ∧ CouR K H' c x es2) ?_ fun rest => ?_
  rotate_left
  · refine ⟨X1.tab, fun G2 e2 t2 => ?_⟩
    have X2 := X1.ext e2 t2
    have co2 := co1.ext e2
    obtain ⟨cx, cd, kvc, c1, c2, c3⟩ := id co2
    refine ⟨_, rfl, c, cx, _, rfl, c1, rfl, ?_⟩
    refine ⟨_, rfl, _, rfl, lineN (n := 2), fun l2 h2 => ⟨tl, l2, us, [od, .non], rfl, rfl, (Same.up h2) _ _ X2.t, upd_same, lineN (by rw [lt]; show trs.length + 2 ≤ 1000; omega), fun p3 h3 => ?_⟩⟩
    have s3 := (Same.up (o := .lst [od, .non]) h2).trans (Same.up (o := .lst (us ++ [od, .non])) h3)
    delta tNil
    dsimp only
    have sp := hearAll_perm (items := trs.map some ++ [none, none]) (n := 0) pm
    rw [hm] at sp
    have its : Paired (ItAt ro (upd (upd G2 l2 (.lst [od, .non])) p3 (.lst (us ++ [od, .non])))) (us ++ [od, .non]) (trs.map some ++ [none, none]) :=
      paired_app ((X2.tat.mono s3).good_of sub).its (.cons (X2.odd.mono s3) (.cons ⟨.non, .non, trivial, rfl⟩ .nil))
    refine ⟨c, x, .ref p3, es2, ro, rfl, co2.mono s3, X2.off.mono s3, ner, ok2, le2, .inr ⟨p3, us ++ [od, .non], _, trs.map some ++ [none, none], rfl, upd_same, .inl rfl, by rw [List.length_append]; show us.length + 2 ≤ 20; omega, its, fun n hn G3 e s4 he => ?_, fun e1 hn => ?_⟩⟩
    · rw [hn] at sp
      obtain rfl : n = m := sp
      refine ⟨e, .int (n : Nat), by rw [eB], rfl, upd_same, fun p1 hp1 => ?_⟩
      have s7 := Same.up (o := .xd [("index", .int (n : Nat))]) he
      have s8 := Same.up (o := .tup [.str "truth", .int (n : Nat)]) hp1
      refine ⟨_, rfl, lineN (n := 2), fun q2 hq2 => ?_⟩
      have s9 := Same.up (o := .tup [.str "truth", .int (n : Nat)]) hq2
      have sF := s3.trans (s4.trans (s7.trans (s8.trans s9)))
      exact truth_ne (s9 _ _ upd_same) upd_same ⟨_, rfl, iteF (rest _ _ ⟨rfl, X2.grow sF, co2.mono sF⟩)⟩
    · rw [hn] at sp
      exact sp.elim
  rintro σ G2 ⟨rfl, X2, co2⟩
  try dsimp only
  refine fun d3 hd3 => ⟨lineN (n := 4), fun t3 ht3 => ?_⟩
  have s3 := (Same.up (o := .dK []) hd3).trans (Same.up (o := .tup [.non, .int 5, .str "put", .ref d3]) ht3)
  have hdd : (upd (upd G2 d3 (.dK [])) t3 (.tup [.non, .int 5, .str "put", .ref d3])) d3 = some (.dK []) := (Same.up ht3) _ _ upd_same
  refine ⟨t3, rfl, ⟨_, SqT.of upd_same⟩, for_it (walk_tup (xs := [.non, .int 5, .str "put", .ref d3])) (fun i σ H' => (∃ v6, σ = [some (.ref l), v1, v2, some (.ref f), v4, some (.int (m : Nat)), v6, v7, v8, some (.ref tl), v10, v11, some (.ref x), some od, some (.ref c), some due, some num, v17]) ∧ Ex K l f tl x od ns rs ro kvs es us trs P1 P2 H' ∧ CouR K H' c x es2 ∧ H' t3 = some (.tup [.non, .int 5, .str "put", .ref d3]) ∧ H' d3 = some (.dK [])) ⟨⟨_, rfl⟩, X2.grow s3, co2.mono s3, upd_same, hdd⟩ (fun i σ H' hi p => SqT.of p.2.2.2.1) ?_ ?_⟩
  · rintro i y σ G4 G4' hi ⟨⟨v6', rfl⟩, X4, co4, ht4, hd4⟩ ⟨rfl, hy⟩
    refine ⟨X4.tab, fun G5 e5 t5 => ?_⟩
    have X5 := X4.ext e5 t5
    have co5 := co4.ext e5
    have ht5 := e5 _ _ ht4 (fun _ z => by cases z)
    have hd5 := e5 _ _ hd4 (fun _ z => by cases z)
    obtain ⟨cx, cd, kvc, c1, c2, c3⟩ := id co5
    obtain ⟨d, iy, hs⟩ : ∃ d, Is G5 y d ∧ isSeq d = false := by
      have m := List.mem_of_getElem? hy
      simp only [List.mem_cons, List.not_mem_nil, or_false] at m
      rcases m with rfl | rfl | rfl | rfl
      · exact ⟨_, .non, rfl⟩
      · exact ⟨_, .int 5, rfl⟩
      · exact ⟨_, .str _ (by decide +kernel), rfl⟩
      · exact ⟨_, .dic hd5, rfl⟩
    refine ⟨_, rfl, c, cx, _, rfl, c1, rfl, _, rfl, ?_⟩
    delta tNil
    dsimp only
    refine ⟨c, x, y, es2, ro, rfl, co5, X5.off, ner, ok2, le2, .inl ⟨d, iy, hs, fun G6 e s6 he => ?_⟩⟩
    refine ⟨e, .int 0, by rw [eB], rfl, upd_same, fun p1 hp1 => ?_⟩
    have s7 := Same.up (o := .xd [("index", .int 0)]) he
    have s8 := Same.up (o := .tup [.str "truth", .int 0]) hp1
    refine ⟨lineN (n := 2), fun q2 hq2 => ?_⟩
    have s9 := Same.up (o := .tup [.str "truth", .int 0]) hq2
    have sF := s6.trans (s7.trans (s8.trans s9))
    exact truth_ne (s9 _ _ upd_same) upd_same ⟨_, rfl, iteF ⟨⟨_, rfl⟩, X5.grow sF, co5.mono sF, sF _ _ ht5, sF _ _ hd5⟩⟩
  · rintro σ G4 ⟨⟨v6', rfl⟩, X4, _⟩
    exact q _ _ ⟨⟨_, _, _, _, _, _, _, _, _, _, _, _, _, _, _, _, _, rfl⟩, X4.sql, X4.tab⟩
end
end K07

set_option Elab.async false
set_option linter.all false
set_option maxRecDepth 100000
set_option maxHeartbeats 4000000
namespace K07
open PySem PySem.Spec PyProof.Rows L2 Sr LamX
/-! ### of the names of the office only which they are -/
section
variable {ks ks' : List Str} (h : ∀ s, s ∈ ks ↔ s ∈ ks')
include h
theorem kind_eq : kindOk ks = kindOk ks' := by
  funext d
  cases d with
  | str s => exact decide_eq_decide.mpr (h s)
  | _ => rfl
theorem wl_eq (ds : List Dt) : wl ks ds = wl ks' ds := by unfold wl; rw [kind_eq h]
theorem wishes_eq (d : Dt) : wishesOk ks d = wishesOk ks' d := by
  cases d with
  | lst ds => exact wl_eq h ds
  | tup ds => exact wl_eq h ds
  | _ => rfl
theorem home_eq (d : Dt) : homeOk ks d = homeOk ks' d := by
  cases d with
  | non => rfl
  | str s => exact congrFun (kind_eq h) (.str s)
  | _ => rfl
theorem form_eq (s : Str) (ds : List Dt) : formOk s ks ds = formOk s ks' ds := by
  have e1 : comeOk ks ds = comeOk ks' ds := by
    unfold comeOk
    split
    · rw [wishes_eq h, home_eq h]
    · rfl
  have e2 : kindForm ks ds = kindForm ks' ds := by
    unfold kindForm
    rw [kind_eq h]
  have e3 : changeForm ks ds = changeForm ks' ds := by
    unfold changeForm
    split
    · rw [wishes_eq h]
    · rfl
  have e4 : nameForm ks ds = nameForm ks' ds := by
    unfold nameForm
    rfl
  unfold formOk
  rw [e1, e2, e3, e4]
  rfl
theorem ev_eq (d : Dt) : evOk ks d = evOk ks' d := by
  unfold evOk
  split
  · exact form_eq h _ _
  · exact form_eq h _ _
  · rfl
theorem truth_eq (d : Dt) : truthOk ks d = truthOk ks' d := by
  have e : ∀ l, tl ks l = tl ks' l := fun l => by
    unfold tl
    split
    · rfl
    · rw [ev_eq h]
    · rfl
  cases d with
  | lst l => exact e l
  | tup l => exact e l
  | _ => rfl
theorem OddT.names {H : Hp} {v : V} (o : OddT ks H v) : OddT ks' H v := by
  obtain ⟨d, h1, h2, h3⟩ := o
  exact ⟨d, h1, h2, by rw [← truth_eq h]; exact h3⟩
end
/-- what stands while a turn goes -/
structure Dx (K : PySem.W.Frag) (n : Nat) (l a r f tl : Addr) (ns : List Int) (rs : List Rk) (kvs : List (Key × V)) (es : Es) (us : List V) (trs : List Tr) (P1 P2 : Addr) (H : Hp) : Prop where
  d : DnAt n H a
  sql : SqL K (rm H a) l (ns.map V.int)
  tab : Tabs (Tb P1 P2) H
  rk : RanksR (rm H a) r rs
  f : (rm H a) f = some (.dK kvs)
  ev : EvE (rm H a) kvs es
  t : (rm H a) tl = some (.lst us)
  tat : TrsAt rs (rm H a) us trs
section
variable {K : PySem.W.Frag} {n m : Nat} {l a r f tl : Addr} {ns : List Int} {rs : List Rk} {kvs : List (Key × V)} {es : Es} {us : List V} {trs : List Tr} {P1 P2 : Addr} {H H' : Hp}
theorem Dx.ext (X : Dx K n l a r f tl ns rs kvs es us trs P1 P2 H) (e : ExtN (rm H a) (rm H' a)) (d : DnAt m H' a) (t : Tabs (Tb P1 P2) H') : Dx K m l a r f tl ns rs kvs es us trs P1 P2 H' :=
  ⟨d, sql_ext e X.sql, t, X.rk.ext e, e _ _ X.f (fun _ z => by cases z), X.ev.ext e, e _ _ X.t (fun _ z => by cases z), X.tat.ext e⟩
theorem Dx.draw (X : Dx K n l a r f tl ns rs kvs es us trs P1 P2 H) (s : Same (rm H a) (rm H' a)) (d : DnAt m H' a) : Dx K m l a r f tl ns rs kvs es us trs P1 P2 H' := X.ext (.of s) d (tab_draw X.tab X.d s)
end
section
variable {P : Program} {w : World} {K : PySem.W.Frag} {mg : Str → Option Value} {base : Heap}
theorem la_d {P1 P2 CB fB : Addr} (C : LawC P w K mg base P1 P2 CB fB) {A : Around} {outer : List Env} {s : Shared} {H : Hp} {E : XK} (hr : Room 13 (XL P w K mg base A outer s H E).A) :
    ∃ t, PSs (XL P w K mg base A outer s H E) (lawBody.drop 5) t ∧ ∀ (D : Ends) (l a r f tl : Addr) (v1 v4 v5 v6 v8 v10 v11 v12 v13 v14 v15 v16 v17 : Option V) (n : Nat) (ns : List Int) (rs : List Rk) (kvs : List (Key × V)) (es : Es) (us : List V) (trs : List Tr) (G : Hp), Dx K n l a r f tl ns rs kvs es us trs P1 P2 G → n ≤ 4000 → drawnR rs → Ok rs es → es.length ≤ 8 → us.length ≤ 4 →
      (∀ σ H', LawInv K l P1 P2 ns σ H' → D.nx σ H') →
      t D [some (.ref l), v1, some (.ref a), some (.ref f), v4, v5, v6, some (.ref r), v8, some (.ref tl), v10, v11, v12, v13, v14, v15, v16, v17] G := by
  obtain ⟨tt, pt, ht⟩ := la_e C (outer := outer) (H := H) (E := E) hr
  obtain ⟨T, O, CN, CM, MkC0, TB, nP, D_law_tried, hB, EB, eB, x11, MW, C_is_truth, C_law_stream, C_law_draw, C_law_ranks, C_law_events, C_law_some_truth, C_law_behind, C_law_told_right, C_law_office, C_law_odd_truth, C_law_truth⟩ := C
  refine ⟨_, (pss_cons (ps_if (pt_not (pt_val (pe_cal C_law_told_right hr (by first | decide | omega) (by rfl) (pa_cons (pv 2) (pa_cons (pv 7) (pa_cons (pv 3) (pa_cons (pv 9) pa_nil))))))) (pss_one (ps_ret pe_bl)) pss_nil)
      (pss_cons (ps_asg (pe_tup (pa_cons (pe_cal C_law_office hr (by first | decide | omega) (by rfl) (pa_cons (pv 7) pa_nil)) (pa_cons (pe_cal C_law_odd_truth hr (by first | decide | omega) (by rfl) (pa_cons (pv 2) (pa_cons (pv 7) (pa_cons (pv 3) pa_nil)))) pa_nil))) (pg_tup rfl (pgs_cons (pg_name (i := 12) sc_law.nd rfl (by first | exact Or.inl rfl | exact Or.inr rfl)) (pgs_cons (pg_name (i := 13) sc_law.nd rfl (by first | exact Or.inl rfl | exact Or.inr rfl)) pgs_nil))))
      (pss_cons (ps_if (pt_not (pt_val (pe_callB (id := "all") (cr_all rfl) (by rfl) T.all (by decide +kernel) (pa_cons (pe_lc (own := [("truth", 17)]) (g := gName 17) (tt := tYes) rfl sc_law.nd (pi_list (pv 9)) (blkOk_by (N := ["script", "turn", "stream", "events", "k", "at", "thing", "ranks", "fresh", "truths", "now", "later", "office", "odd", "course", "due", "number", "truth"]) (sc := defScope s_law) (by decide +kernel)) (fun _ _ _ _ _ => (pg_name (i := 17) sc_law.nd rfl (by first | exact Or.inl rfl | exact Or.inr rfl))) (fun _ _ _ _ _ => pts_nil) (fun _ _ _ _ _ => (pe_cal C_law_truth hr (by first | decide | omega) (by rfl) (pa_cons (pe_cal C_is_truth hr (by first | decide | omega) (by rfl) (pa_cons (pv 12) (pa_cons (pe_callTy (T := "list") (call_list_ofK K rfl) (by rfl) T.list (by decide +kernel) (pa_cons (pv 17) pa_nil)) pa_nil))) (pa_cons pe_bl pa_nil))))) pa_nil)))) (pss_one (ps_ret pe_bl)) pss_nil)
      (pss_cons (ps_if (pt_not (pt_val (pe_cal C_law_truth hr (by first | decide | omega) (by rfl) (pa_cons (pe_cal C_is_truth hr (by first | decide | omega) (by rfl) (pa_cons (pv 12) (pa_cons (pv 13) pa_nil))) (pa_cons pe_bl pa_nil))))) (pss_one (ps_ret pe_bl)) pss_nil)
      pt)))), ?_⟩
  intro D l a r f tl v1 v4 v5 v6 v8 v10 v11 v12 v13 v14 v15 v16 v17 n ns rs kvs es us trs G X nb dr ok le lu q
  refine cut_if (fun σ H' => σ = [some (.ref l), v1, some (.ref a), some (.ref f), v4, v5, v6, some (.ref r), v8, some (.ref tl), v10, v11, v12, v13, v14, v15, v16, v17] ∧ Dx K (n + 5) l a r f tl ns rs kvs es us trs P1 P2 H') ?_ fun rest => ?_
  rotate_left
  · refine ⟨_, rfl, _, rfl, _, rfl, _, rfl, ?_⟩
    refine ⟨a, r, f, tl, rs, kvs, es, us, trs, n, rfl, X.d, by omega, X.rk, dr, X.f, X.ev, ok, le, X.t, lu, X.tat, X.tab, fun H' d' e' t' => ⟨_, rfl, ?_⟩⟩
    exact iteF (rest _ _ ⟨rfl, X.ext e' d' t'⟩)
  rintro σ G1 ⟨rfl, X1⟩
  try dsimp only
  refine cut_if (fun σ H' => ∃ (x : Addr) (ys : List Str) (od : V), σ = [some (.ref l), v1, some (.ref a), some (.ref f), v4, v5, v6, some (.ref r), v8, some (.ref tl), v10, v11, some (.ref x), some od, v14, v15, v16, v17] ∧ Dx K (n + 6) l a r f tl ns rs kvs es us trs P1 P2 H' ∧ ys.Perm (rs.map (·.1)) ∧ OffR K H' x (byName rs ys) ∧ OddT (rs.map (·.1)) H' od) ?_ fun rest => ?_
  rotate_left
  · obtain ⟨kvr, hr0, er0⟩ := X1.rk.mono rm_same
    refine ⟨_, rfl, r, kvr, rs, rfl, hr0, er0, dr, fun x H2 ys s2 hx perm srt o2 => ?_⟩
    have d2 := X1.d.up s2
    have X2 := X1.draw (Same.rm s2) d2
    refine ⟨_, rfl, _, rfl, _, rfl, a, r, .ref f, rs, n + 5, rfl, d2, by omega, X2.rk, dr, fun u H3 d3 s3 od => ⟨lineN (n := 2), fun t ht => ?_⟩⟩
    have s4 := Same.up (H := H3) (o := .tup [.ref x, u]) ht
    have fin := rest _ _ ⟨x, ys, u, rfl, (X2.draw s3 d3).draw (Same.rm s4) (d3.up s4), perm, ((o2.out d2).mono (s3.trans rm_same)).mono s4, (od.mono rm_same).mono s4⟩
    exact ⟨t, _, rfl, SqT.of upd_same, rfl, _, _, rfl, _, _, rfl, rfl, fin⟩
  rintro σ G2 ⟨x, ys, od, rfl, X2, perm, o2, od2⟩
  try dsimp only
  have mem : ∀ s, s ∈ (byName rs ys).map (·.1) ↔ s ∈ rs.map (·.1) := fun s => by rw [names_by]; exact perm.mem_iff
  have sub := by_sub perm
  have ner : byName rs ys ≠ [] := fun z => by
    have := dr.2.2.1
    rw [z] at sub
    cases hh : rs with
    | nil => exact this hh
    | cons p r => exact absurd (sub p.1 (by rw [hh]; exact List.mem_cons_self ..)) (by simp)
  generalize byName rs ys = ro at o2 mem sub ner
  have od3 := od2.names fun s => (mem s).symm
  have t2 := rm_same _ _ X2.t
  have tat2 := X2.tat.mono rm_same
  refine cut_if (fun σ H' => ∃ v17, σ = [some (.ref l), v1, some (.ref a), some (.ref f), v4, v5, v6, some (.ref r), v8, some (.ref tl), v10, v11, some (.ref x), some od, v14, v15, v16, v17] ∧ Same G2 H') ?_ fun rest => ?_
  rotate_left
  · refine ⟨_, rfl, tl, rfl, ⟨_, SqL.of t2⟩, fun D9 hD => lc_pure (walk_list (xs := us)) walk_at ((us.map fun _ => true).map V.bl) (by simp) (sz (m := 60) (by omega)) hD (fun H' s' => SqL.of (s' _ _ t2)) (fun j u y H4 R hj hu hy s4 k => ?_) (fun H4 s4 h4 => ⟨D9, us.map fun _ => true, rfl, SqL.of h4, ?_⟩)⟩
    · rw [List.getElem?_map, List.getElem?_map, hu] at hy
      obtain rfl : V.bl true = y := Option.some.inj hy
      obtain ⟨tr, htr⟩ : ∃ tr, trs[j]? = some tr := by
        have := (List.getElem?_eq_some_iff.mp hu).1
        exact ⟨_, List.getElem?_eq_getElem (by rw [← Paired.length tat2]; exact this)⟩
      obtain ⟨⟨b, xs, rfl, hx, ia⟩, tg⟩ := Paired.at2 tat2 hu htr
      have sq : SqL K H4 b xs ∨ SqT K H4 b xs := TrAt.seq (hx.imp (fun h => s4 _ _ h) (fun h => s4 _ _ h))
      refine ⟨_, rfl, _, rfl, b, xs, rfl, sq, fun u2 hu2 => ?_⟩
      have s5 := Same.up (H := H4) (o := .lst xs) hu2
      have z : xs.length ≤ 60 := by
        rw [ia.len]
        cases tr <;> first | exact (show (3 : Nat) ≤ 60 by decide) | exact (show (2 : Nat) ≤ 60 by decide)
      refine ⟨x, .ref u2, ro.map (·.1), .lst tr.row, rfl, (o2.mono (s4.trans s5)).at_, .lst upd_same (ia.mono (s4.trans s5)) z, tr.hd.1, fun H5 s6 => ⟨true, true, ?_, k _ (s5.trans s6)⟩⟩
      rw [show truthOk (ro.map (·.1)) (.lst tr.row) = true from Tr.ok (Tr.good_of sub tg)]
      rfl
    · rw [show (us.map fun _ => true).all id = true from by rw [List.all_map]; exact List.all_eq_true.mpr fun _ _ => rfl]
      exact ⟨_, rfl, iteF (rest _ _ ⟨_, rfl, s4⟩)⟩
  rintro σ G3 ⟨v17', rfl, s3⟩
  try dsimp only
  refine cut_if (fun σ H' => σ = [some (.ref l), v1, some (.ref a), some (.ref f), v4, v5, v6, some (.ref r), v8, some (.ref tl), v10, v11, some (.ref x), some od, v14, v15, v16, v17'] ∧ Same G2 H') ?_ fun rest => ?_
  rotate_left
  · obtain ⟨d, hi, hh, hb⟩ := od3.mono s3
    refine ⟨_, rfl, _, rfl, x, od, ro.map (·.1), d, rfl, (o2.mono s3).at_, hi, hh, fun H5 s6 => ?_⟩
    rw [hb]
    refine ⟨false, false, rfl, true, rfl, ?_⟩
    exact iteF (rest _ _ ⟨rfl, s3.trans s6⟩)
  rintro σ G4 ⟨rfl, s4⟩
  try dsimp only
  have X4 := X2.draw (Same.rm s4) (X2.d.up s4)
  exact ht D l f tl x od _ _ _ _ _ _ _ _ _ _ _ _ _ ns rs ro kvs es us trs G4 ⟨sql_mono rm_same X4.sql, X4.tab, rm_same _ _ X4.f, X4.ev.keep (Tups.of rm_same), rm_same _ _ X4.t, X4.tat.mono rm_same, o2.mono s4, od3.mono s4⟩ ok le lu sub ner q
end
end K07

set_option Elab.async false
set_option linter.all false
set_option maxRecDepth 100000
set_option maxHeartbeats 4000000
namespace K07
open PySem PySem.Spec PyProof.Rows L2 Sr LamX
theorem cut_end (us : List V) (v : V) : cutV (us ++ [v]) (some (-1)) none = [v] := by
  have e1 : HT.sIx (us ++ [v]).length 0 (some (-1)) = us.length := by
    show (if (-1 : Int) < 0 then ((-1 : Int) + ((us ++ [v]).length : Nat)).toNat else min (-1 : Int).toNat (us ++ [v]).length) = us.length
    rw [if_pos (by decide), List.length_append]
    show ((-1 : Int) + ((us.length + 1 : Nat) : Int)).toNat = us.length
    omega
  unfold cutV
  rw [e1, HT.sIx_none, List.drop_left, List.length_append]
  show List.take (us.length + 1 - us.length) [v] = [v]
  rw [show us.length + 1 - us.length = 1 by omega]
  rfl
theorem rms_sub {H : Hp} {Z Z' : List Addr} (h : ∀ b ∈ Z, b ∈ Z') : Same (rms H Z') (rms H Z) := fun b o e => by
  have n : b ∉ Z' := fun m => by rw [rms_at m] at e; cases e
  rw [rms_ne n] at e
  rw [rms_ne fun m => n (h b m)]
  exact e
theorem rms_cut {H H' : Hp} {Z Z' : List Addr} (h : ∀ b ∈ Z, b ∈ Z') (s : Same (rms H Z) (rms H' Z)) : Same (rms H Z') (rms H' Z') := fun b o e => by
  have n : b ∉ Z' := fun m => by rw [rms_at m] at e; cases e
  have n2 : b ∉ Z := fun m => n (h b m)
  rw [rms_ne n] at e ⊢
  have := s b o (by rw [rms_ne n2]; exact e)
  rwa [rms_ne n2] at this
/-- what stands while the truths are drawn -/
structure Lp (K : PySem.W.Frag) (n : Nat) (l a r f fl tl nw : Addr) (ns : List Int) (rs : List Rk) (kvs : List (Key × V)) (es : Es) (us : List V) (trs : List Tr) (kvn : List (Key × V)) (esn : Es) (ms : List Str) (P1 P2 : Addr) (H : Hp) : Prop where
  d : DnAt n H a
  sql : SqL K (rms H [a, fl, tl]) l (ns.map V.int)
  tab : Tabs (Tb P1 P2) (rms H [a, fl, tl])
  rk : RanksR (rms H [a, fl, tl]) r rs
  hf : (rms H [a, fl, tl]) f = some (.dK kvs)
  ev : EvE (rms H [a, fl, tl]) kvs es
  hfl : H fl = some (.lst (ms.map V.str))
  lm : ms.length ≤ 9
  mn : ∀ s ∈ ms, s ∈ names9
  ht : H tl = some (.lst us)
  tat : TrsAt rs (rms H [a, fl, tl]) us trs
  hnw : (rms H [a, fl, tl]) nw = some (.dK kvn)
  evn : EvE (rms H [a, fl, tl]) kvn esn
  okn : Ok rs esn
  nfa : fl ≠ a
  nta : tl ≠ a
  ntf : tl ≠ fl
section
variable {K : PySem.W.Frag} {n m : Nat} {l a r f fl tl nw : Addr} {ns : List Int} {rs : List Rk} {kvs : List (Key × V)} {es : Es} {us : List V} {trs : List Tr} {kvn : List (Key × V)} {esn : Es} {ms : List Str} {P1 P2 : Addr} {H H' : Hp}
theorem Lp.put {o : HO} (X : Lp K n l a r f fl tl nw ns rs kvs es us trs kvn esn ms P1 P2 H) (ho : DrN m o) : Lp K m l a r f fl tl nw ns rs kvs es us trs kvn esn ms P1 P2 (upd H a o) := by
  have e : rms (upd H a o) [a, fl, tl] = rms H [a, fl, tl] := rms_upd (by simp)
  obtain ⟨d, sql, tab, rk, hf, ev, hfl, lm, mn, ht, tat, hnw, evn, okn, nfa, nta, ntf⟩ := X
  rw [← e] at sql tab rk hf ev tat hnw evn
  exact ⟨DnAt.put ho, sql, tab, rk, hf, ev, (upd_ne nfa).trans hfl, lm, mn, (upd_ne nta).trans ht, tat, hnw, evn, okn, nfa, nta, ntf⟩
theorem Lp.grow (X : Lp K n l a r f fl tl nw ns rs kvs es us trs kvn esn ms P1 P2 H) (s : Same H H') (le : n ≤ m) : Lp K m l a r f fl tl nw ns rs kvs es us trs kvn esn ms P1 P2 H' := by
  obtain ⟨d, sql, tab, rk, hf, ev, hfl, lm, mn, ht, tat, hnw, evn, okn, nfa, nta, ntf⟩ := X
  have sr : Same (rms H [a, fl, tl]) (rms H' [a, fl, tl]) := Same.rms s
  exact ⟨(d.up s).le le, sql_mono sr sql, Tabs.ext tab sr, rk.mono sr, sr _ _ hf, ev.keep (Tups.of sr), s _ _ hfl, lm, mn, s _ _ ht, tat.mono sr, sr _ _ hnw, evn.keep (Tups.of sr), okn, nfa, nta, ntf⟩
/-- a truth more -/
theorem Lp.more {H2 : Hp} {t : Addr} {tr : Tr} {ms2 : List Str} (X : Lp K n l a r f fl tl nw ns rs kvs es us trs kvn esn ms P1 P2 H) (d2 : DnAt m H2 a) (s2 : Same (rms H [a, fl]) (rms H2 [a, fl])) (t2 : TrAt (rms H2 [a, fl]) (.ref t) tr) (g2 : tr.good rs) (fl2 : H2 fl = some (.lst (ms2.map V.str))) (l2 : ms2.length ≤ ms.length) (m2 : ∀ s ∈ ms2, s ∈ ms) :
    H2 tl = some (.lst us) ∧ Lp K m l a r f fl tl nw ns rs kvs es (us ++ [.ref t]) (trs ++ [tr]) kvn esn ms2 P1 P2 (upd H2 tl (.lst (us ++ [.ref t]))) := by
  obtain ⟨d, sql, tab, rk, hf, ev, hfl, lm, mn, ht, tat, hnw, evn, okn, nfa, nta, ntf⟩ := X
  have sr : Same (rms H [a, fl, tl]) (rms H2 [a, fl, tl]) := rms_cut (by simp) s2
  have e : rms (upd H2 tl (.lst (us ++ [.ref t]))) [a, fl, tl] = rms H2 [a, fl, tl] := rms_upd (by simp)
  have nz : tl ∉ [a, fl] := by simp [nta, ntf]
  have htl : (rms H2 [a, fl]) tl = some (.lst us) := s2 _ _ (by rw [rms_ne nz]; exact ht)
  have htl2 := rms_same _ _ htl
  have tz : Tups (rms H2 [a, fl]) (rms H2 [a, fl, tl]) := fun b xs h => by
    have nb : b ∉ [a, fl, tl] := fun z => by
      simp only [List.mem_cons, List.not_mem_nil, or_false] at z
      rcases z with rfl | rfl | rfl
      · rw [rms_at (by simp)] at h; cases h
      · rw [rms_at (by simp)] at h; cases h
      · rw [htl] at h; cases h
    rw [rms_ne nb]
    exact rms_same _ _ h
  have tat2 := tat.mono sr
  have tt : TrAt (rms H2 [a, fl, tl]) (.ref t) tr := by
    obtain ⟨b, xs, eb, hx, ia⟩ := t2
    obtain rfl := V.ref.inj eb
    have nt : t ≠ tl := fun z => by
      subst z
      have ex : xs = us := by
        rcases hx with hx | hx
        · rw [htl] at hx; exact (HO.lst.inj (Option.some.inj hx)).symm
        · rw [htl] at hx; cases hx
      subst ex
      obtain ⟨w, t', r', er⟩ : ∃ w t r, tr.row = .str w :: t :: r := by cases tr <;> exact ⟨_, _, _, rfl⟩
      rw [er] at ia
      cases ia with
      | cons i0 r0 =>
        cases i0
        cases tat2 with
        | cons h _ =>
          obtain ⟨_, _, z, _⟩ := h.1
          cases z
    have nb : t ∉ [a, fl, tl] := fun z => by
      simp only [List.mem_cons, List.not_mem_nil, or_false] at z
      rcases z with rfl | rfl | rfl
      · rcases hx with h | h <;> (rw [rms_at (by simp)] at h; cases h)
      · rcases hx with h | h <;> (rw [rms_at (by simp)] at h; cases h)
      · exact nt rfl
    exact ⟨t, xs, rfl, hx.imp (fun h => by rw [rms_ne nb]; exact rms_same _ _ h) (fun h => by rw [rms_ne nb]; exact rms_same _ _ h), isA_tups tz ia tr.tups⟩
  refine ⟨htl2, d2.set nta, ?_, ?_, ?_, ?_, ?_, (upd_ne ntf.symm).trans fl2, by omega, fun s h => mn s (m2 s h), upd_same, ?_, ?_, ?_, okn, nfa, nta, ntf⟩
  · rw [e]; exact sql_mono sr sql
  · rw [e]; exact Tabs.ext tab sr
  · rw [e]; exact rk.mono sr
  · rw [e]; exact sr _ _ hf
  · rw [e]; exact ev.keep (Tups.of sr)
  · rw [e]; exact paired_app tat2 (.cons ⟨tt, g2⟩ .nil)
  · rw [e]; exact sr _ _ hnw
  · rw [e]; exact evn.keep (Tups.of sr)
/-- the events later -/
theorem Lp.next {p : Addr} {kv : List (Key × V)} {es' : Es} (X : Lp K n l a r f fl tl nw ns rs kvs es us trs kvn esn ms P1 P2 H) (hp : H p = some (.dK kv)) (he : EvE H kv es') (o : Ok rs es') : Lp K n l a r f fl tl p ns rs kvs es us trs kv es' ms P1 P2 H := by
  obtain ⟨d, sql, tab, rk, hf, ev, hfl, lm, mn, ht, tat, hnw, evn, okn, nfa, nta, ntf⟩ := X
  have ls : ∀ b ∈ [a, fl, tl], ∃ xs, H b = some (.lst xs) := fun b z => by
    simp only [List.mem_cons, List.not_mem_nil, or_false] at z
    rcases z with rfl | rfl | rfl
    · obtain ⟨o, e, _, _, _, rfl, _⟩ := d
      exact ⟨_, e⟩
    · exact ⟨_, hfl⟩
    · exact ⟨_, ht⟩
  have np : p ∉ [a, fl, tl] := fun z => by
    obtain ⟨xs, e⟩ := ls p z
    rw [hp] at e
    cases e
  have tz : Tups H (rms H [a, fl, tl]) := tups_out fun b z xs e => by
    obtain ⟨ys, e2⟩ := ls b z
    rw [e2] at e
    cases e
  exact ⟨d, sql, tab, rk, hf, ev, hfl, lm, mn, ht, tat, by rw [rms_ne np]; exact hp, he.keep tz, o, nfa, nta, ntf⟩
end
section
variable {P : Program} {w : World} {K : PySem.W.Frag} {mg : Str → Option Value} {base : Heap}
theorem la_c {P1 P2 CB fB : Addr} (C : LawC P w K mg base P1 P2 CB fB) {A : Around} {outer : List Env} {s : Shared} {H : Hp} {E : XK} (hr : Room 13 (XL P w K mg base A outer s H E).A) :
    ∃ t, PSs (XL P w K mg base A outer s H E) (lawBody.drop 4) t ∧ ∀ (D : Ends) (l a r f fl tl nw : Addr) (v1 v4 v5 v6 v11 v12 v13 v14 v15 v16 v17 : Option V) (n : Nat) (ns : List Int) (rs : List Rk) (kvs : List (Key × V)) (es : Es) (ms : List Str) (G : Hp), Lp K n l a r f fl tl nw ns rs kvs es [] [] kvs es ms P1 P2 G → n ≤ 3000 → drawnR rs → es.length ≤ 8 →
      (∀ σ H', LawInv K l P1 P2 ns σ H' → D.nx σ H') →
      t D [some (.ref l), v1, some (.ref a), some (.ref f), v4, v5, v6, some (.ref r), some (.ref fl), some (.ref tl), some (.ref nw), v11, v12, v13, v14, v15, v16, v17] G := by
  obtain ⟨tt, pt, ht⟩ := la_d C (outer := outer) (H := H) (E := E) hr
  obtain ⟨T, O, CN, CM, MkC0, TB, nP, D_law_tried, hB, EB, eB, x11, MW, C_is_truth, C_law_stream, C_law_draw, C_law_ranks, C_law_events, C_law_some_truth, C_law_behind, C_law_told_right, C_law_office, C_law_odd_truth, C_law_truth⟩ := C
  refine ⟨_, (pss_cons (ps_for PassesOwn.never rfl (pi_range1 (by rfl) T.range (pa_cons (pe_cal C_law_draw hr (by first | decide | omega) (by rfl) (pa_cons (pv 2) (pa_cons pe_int pa_nil))) pa_nil)) (pg_name (i := 4) sc_law.nd rfl (by first | exact Or.inl rfl | exact Or.inr rfl))
      (pss_cons (ps_expr (pe_bm PySem.F.plainAttrs_list PySem.F.slot_list_append PySem.F.type_list_append mt_append (pv 9) (pa_cons (pe_cal C_law_some_truth hr (by first | decide | omega) (by rfl) (pa_cons (pv 2) (pa_cons (pv 7) (pa_cons (pv 10) (pa_cons (pv 8) pa_nil))))) pa_nil)))
      (pss_cons (ps_set (i := 11) sc_law.nd rfl (by first | exact Or.inl rfl | exact Or.inr rfl) (pe_ix ix_tup (pe_cal C_law_behind hr (by first | decide | omega) (by rfl) (pa_cons (pv 10) (pa_cons (pe_slice sl_list (pv 9) (po_some (pe_un un_neg pe_int)) po_none) pa_nil))) pe_int (fun _ _ => rfl)))
      (pss_one (ps_set (i := 10) sc_law.nd rfl (by first | exact Or.inl rfl | exact Or.inr rfl) (pe_ifExp (PW.pt (pw_or (pt_cmpR op_isN (pv 11) pe_non (nomark _)) (pw_or1 (pt_cmpR op_eq (pe_cal C_law_draw hr (by first | decide | omega) (by rfl) (pa_cons (pv 2) (pa_cons pe_int pa_nil))) pe_int (nomark _))))) (pv 10) (pv 11)))))))
      pt), ?_⟩
  intro D l a r f fl tl nw v1 v4 v5 v6 v11 v12 v13 v14 v15 v16 v17 n ns rs kvs es ms G X nb dr le q
  have ok := X.okn
  refine cut_if (fun σ H' => ∃ v4 nw v11 us trs kvn esn ms', σ = [some (.ref l), v1, some (.ref a), some (.ref f), v4, v5, v6, some (.ref r), some (.ref fl), some (.ref tl), some (.ref nw), v11, v12, v13, v14, v15, v16, v17] ∧ Lp K (n + 1 + 31 * 4) l a r f fl tl nw ns rs kvs es us trs kvn esn ms' P1 P2 H' ∧ us.length ≤ 4) ?_ fun rest => ?_
  rotate_left
  · refine ⟨_, rfl, a, 5, n, rfl, X.d, by omega, by decide, by decide, fun m o m0 m1 ho => ?_⟩
    obtain ⟨c, rfl⟩ := Int.eq_ofNat_of_zero_le m0
    refine ⟨_, rfl, ?_⟩
    refine ⟨by omega, by omega, ?_⟩
    refine for_range (fun i σ H' => ∃ v4 nw v11 us trs kvn esn ms', σ = [some (.ref l), v1, some (.ref a), some (.ref f), v4, v5, v6, some (.ref r), some (.ref fl), some (.ref tl), some (.ref nw), v11, v12, v13, v14, v15, v16, v17] ∧ Lp K (n + 1 + 31 * i) l a r f fl tl nw ns rs kvs es us trs kvn esn ms' P1 P2 H' ∧ us.length = i ∧ esn.length ≤ 8 + i) ⟨_, _, _, _, _, _, _, _, rfl, X.put (ho.le (by omega)), rfl, by omega⟩ ?_ ?_
    rotate_left
    · rintro σ H1 ⟨v4, nw, v11, us, trs, kvn, esn, ms', rfl, X1, lu, _⟩
      have : ((c : Nat) : Int).toNat = c := Int.toNat_natCast c
      exact rest _ _ ⟨_, _, _, _, _, _, _, _, rfl, X1.grow (Same.refl _) (by omega), by omega⟩
    rintro i σ H1 hi ⟨v4, nw, v11, us, trs, kvn, esn, ms', rfl, X1, lu, le1⟩
    have hi4 : i < 4 := by
      have : ((c : Nat) : Int).toNat = c := Int.toNat_natCast c
      omega
    have sS : Same (rms H1 [a, fl, tl]) (rms H1 [a, fl]) := rms_sub (by simp)
    try dsimp only
    refine cut_if (fun σ H' => ∃ (t : Addr) (tr : Tr) (ms2 : List Str), σ = [some (.ref l), v1, some (.ref a), some (.ref f), some (.int (0 + (i : Nat))), v5, v6, some (.ref r), some (.ref fl), some (.ref tl), some (.ref nw), v11, v12, v13, v14, v15, v16, v17] ∧ tr.good rs ∧ Lp K (n + 1 + 31 * i + 30) l a r f fl tl nw ns rs kvs es (us ++ [.ref t]) (trs ++ [tr]) kvn esn ms2 P1 P2 H') ?_ fun rest2 => ?_
    rotate_left
    · refine ⟨_, rfl, .inl ⟨rfl, _, SqL.of X1.ht⟩, _, rfl, _, rfl, _, rfl, _, rfl, a, r, nw, fl, rs, kvn, esn, ms', n + 1 + 31 * i, rfl, X1.d, by omega, X1.nfa, X1.rk.mono sS, dr, sS _ _ X1.hnw, X1.evn.keep (Tups.of sS), X1.okn, by omega, X1.hfl, X1.lm, X1.mn, fun t H2 tr ms2 d2 s2 t2 g2 fl2 l2 m2 => ?_⟩
      obtain ⟨h2, X2⟩ := X1.more d2 s2 t2 g2 fl2 l2 m2
      exact ⟨tl, us, .ref t, rfl, rfl, h2, sz (m := 60) (by omega), rest2 _ _ ⟨t, tr, ms2, rfl, g2, X2⟩⟩
    rintro σ H2 ⟨t, tr, ms2, rfl, g2, X2⟩
    try dsimp only
    refine cut_if (fun σ H' => ∃ lt : V, σ = [some (.ref l), v1, some (.ref a), some (.ref f), some (.int (0 + (i : Nat))), v5, v6, some (.ref r), some (.ref fl), some (.ref tl), some (.ref nw), some lt, v12, v13, v14, v15, v16, v17] ∧ Same H2 H' ∧ (lt = .non ∨ ∃ p kv es', lt = .ref p ∧ H' p = some (.dK kv) ∧ EvE H' kv es' ∧ Ok rs es' ∧ es'.length ≤ 8 + (i + 1))) ?_ fun rest2 => ?_
    rotate_left
    · refine ⟨_, rfl, _, rfl, 1, rfl, ?_⟩
      refine ⟨_, rfl, tl, us ++ [.ref t], rfl, SqL.of X2.ht, fun p hp => ?_⟩
      rw [cut_end] at *
      have s3 := Same.up (H := H2) (o := .lst [.ref t]) hp
      have X3 := X2.grow s3 (Nat.le_refl _)
      have tt3 : TrsAt rs (rms (upd H2 p (.lst [.ref t])) [a, fl, tl]) [.ref t] [tr] := by
        have h := X3.tat
        have lq : us.length = trs.length := Paired.length X1.tat
        have e := Paired.at2 h (i := us.length) (a := .ref t) (b := tr) (by rw [List.getElem?_append_right (Nat.le_refl _), Nat.sub_self]; rfl) (by rw [lq, List.getElem?_append_right (Nat.le_refl _), Nat.sub_self]; rfl)
        exact .cons e .nil
      delta tNil
      dsimp only
      refine ⟨nw, p, kvn, esn, rs, [.ref t], [tr], rfl, rms_same _ _ X3.hnw, X3.evn.keep (Tups.of rms_same), X3.okn, by omega, upd_same, by show 1 ≤ 10; decide, tt3.mono rms_same, fun m hm T H4 s4 nT hT => ?_, fun es' hm ok' l' T p2 kv H4 s4 nT np hT hp2 hev => ?_⟩
      · exact ⟨T, _, _, _, rfl, rfl, SqT.of hT, at_nat (i := 0) rfl, rest2 _ _ ⟨.non, rfl, s3.trans s4, .inl rfl⟩⟩
      · have lh := hearAll_len (trs := [tr]) X3.okn (fun x m => by rw [List.mem_singleton.mp m]; exact g2) hm
        exact ⟨T, _, _, _, rfl, rfl, SqT.of hT, at_nat (i := 0) rfl, rest2 _ _ ⟨.ref p2, rfl, s3.trans s4, .inr ⟨p2, kv, es', rfl, hp2, hev, ok', by rw [List.length_singleton] at lh; omega⟩⟩⟩
    rintro σ H3 ⟨lt, rfl, s3, hlt⟩
    try dsimp only
    have X3 := X2.grow s3 (Nat.le_refl _)
    have lu3 : (us ++ [V.ref t]).length = i + 1 := by rw [List.length_append, lu]; rfl
    refine ⟨_, rfl, rfl, _, rfl, ?_⟩
    rcases hlt with rfl | ⟨p, kv, es', rfl, hp, hev, ok', l'⟩
    · rw [decide_eq_true rfl]
      exact iteT (iteT ⟨_, rfl, _, _, _, _, _, _, _, _, rfl, X3.grow (Same.refl _) (by omega), lu3, by omega⟩)
    · rw [decide_eq_false fun z => by cases z]
      refine iteF ⟨_, rfl, a, 6, n + 1 + 31 * i + 30, rfl, X3.d, by omega, by decide, by decide, fun k o k0 k1 ho => ⟨rfl, _, rfl, ?_⟩⟩
      have X4 := X3.put (ho.le (show n + 1 + 31 * i + 30 + 1 ≤ n + 1 + 31 * (i + 1) by omega))
      refine iteB ?_ ?_
      · exact ⟨_, rfl, _, _, _, _, _, _, _, _, rfl, X4, lu3, by omega⟩
      · have npa : p ≠ a := fun z => by
          obtain ⟨o', e, _, _, _, rfl, _⟩ := X3.d
          rw [z, e] at hp
          cases hp
        have tp : Tups H3 (upd H3 a o) := tups_set (draws_no X3.d.at_)
        exact ⟨_, rfl, _, _, _, _, _, _, _, _, rfl, X4.next ((upd_ne npa).trans hp) (hev.keep tp) ok', lu3, l'⟩
  rintro σ G1 ⟨v4', nw', v11', us, trs, kvn, esn, ms', rfl, X1, lu⟩
  try dsimp only
  have sZ : Same (rms G1 [a, fl, tl]) (rm G1 a) := rms_rm (by simp)
  have t1 : (rm G1 a) tl = some (.lst us) := by rw [rm_ne X1.nta]; exact X1.ht
  exact ht D l a r f tl _ _ _ _ _ _ _ _ _ _ _ _ _ (n + 1 + 31 * 4) ns rs kvs es us trs G1 ⟨X1.d, sql_mono sZ X1.sql, Tabs.ext X1.tab rms_same, X1.rk.mono sZ, sZ _ _ X1.hf, X1.ev.keep (Tups.of sZ), t1, X1.tat.mono sZ⟩ (by omega) dr ok le lu q
end
end K07

set_option Elab.async false
set_option linter.all false
set_option maxRecDepth 100000
set_option maxHeartbeats 4000000
namespace K07
open PySem PySem.Spec PyProof.Rows L2 Sr LamX
theorem EsOk.ok {rs : List Rk} {es : Es} {tm : Int} (o : EsOk rs es tm) (t : tm ≤ 24) (nd : (toldOf es).Nodup) : Ok rs es :=
  ⟨List.pairwise_map.mpr (o.up.imp fun h z => by omega), nd, fun p m => ⟨o.good p m, by have := o.low p m; omega, by have := o.low p m; omega⟩⟩
theorem rm_rms {H : Hp} {a t : Addr} {o : HO} (n : H t = none) : Same (rm H a) (rms (upd H t o) [a, t]) := fun b u e => by
  have na : b ≠ a := fun z => by rw [z, rm_at] at e; cases e
  rw [rm_ne na] at e
  have nt : b ≠ t := ne_of_none e n
  rw [rms_ne (by simp [na, nt]), upd_ne nt]
  exact e
section
variable {P : Program} {w : World} {K : PySem.W.Frag} {mg : Str → Option Value} {base : Heap}
theorem c_law {fd : FuncData} {P1 P2 CB fB : Addr} (C : LawC P w K mg base P1 P2 CB fB) (DL : FunD K "law" "law" (defArgs s_law) (defBody s_law) (defScope s_law) [] [] (He.ga K "law") fd) : FnOk P w K mg base CX0 14 (He.ga K "law") fd ["script"] (spLaw K P1 P2) := by
  refine fun_ok DL sc_law (fun vs H Q E h => ?_) fun A outer s H vs Q E hr h => ?_
  · obtain ⟨l, ns, rfl, _⟩ := h
    rfl
  obtain ⟨l, ns, rfl, hs, h1, h2, q⟩ := h
  obtain ⟨tt, pt, ht⟩ := la_c C (A := A) (outer := outer) (s := s) (H := H) (E := E) hr
  obtain ⟨T, O, CN, CM, MkC0, TB, nP, D_law_tried, hB, EB, eB, x11, MW, C_is_truth, C_law_stream, C_law_draw, C_law_ranks, C_law_events, C_law_some_truth, C_law_behind, C_law_told_right, C_law_office, C_law_odd_truth, C_law_truth⟩ := C
  refine ⟨_, PSs.nox (pss_cons (ps_for PassesOwn.never rfl (pi_range1 (by rfl) T.range (pa_cons pe_int pa_nil)) (pg_name (i := 1) sc_law.nd rfl (by first | exact Or.inl rfl | exact Or.inr rfl))
      (pss_cons (ps_set (i := 2) sc_law.nd rfl (by first | exact Or.inl rfl | exact Or.inr rfl) (pe_cal C_law_stream hr (by first | decide | omega) (by rfl) (pa_cons (pv 0) (pa_cons (pv 1) pa_nil))))
      (pss_cons (ps_par (i := 7) (j := 8) (by rfl) sc_law.nd rfl rfl (by decide) rfl rfl (pa_cons (pe_cal C_law_ranks hr (by first | decide | omega) (by rfl) (pa_cons (pv 2) pa_nil)) (pa_cons (pe_lst (pa_cons pe_str (pa_cons pe_str (pa_cons pe_str (pa_cons pe_str (pa_cons pe_str (pa_cons pe_str (pa_cons pe_str (pa_cons pe_str (pa_cons pe_str pa_nil)))))))))) pa_nil)) (by rfl))
      (pss_cons (ps_set (i := 3) sc_law.nd rfl (by first | exact Or.inl rfl | exact Or.inr rfl) (pe_cal C_law_events hr (by first | decide | omega) (by rfl) (pa_cons (pv 2) (pa_cons (pv 7) (pa_cons (pe_cal C_law_draw hr (by first | decide | omega) (by rfl) (pa_cons (pv 2) (pa_cons pe_int pa_nil))) (pa_cons (pv 8) pa_nil))))))
      (pss_cons (ps_asg (pe_tup (pa_cons (pe_lst pa_nil) (pa_cons (pe_callTy (T := "dict") call_dictD (by rfl) T.dict (by decide +kernel) (pa_cons (pv 3) pa_nil)) pa_nil))) (pg_tup rfl (pgs_cons (pg_name (i := 9) sc_law.nd rfl (by first | exact Or.inl rfl | exact Or.inr rfl)) (pgs_cons (pg_name (i := 10) sc_law.nd rfl (by first | exact Or.inl rfl | exact Or.inr rfl)) pgs_nil))))
      pt)))))
      (pss_one (ps_ret pe_bl))), ?_⟩
  have tab0 : Tabs (Tb P1 P2) H := fun p hp => by
    rcases List.mem_cons.mp hp with rfl | hp
    · exact TabS.nil h1
    · rw [List.mem_singleton.mp hp]
      exact TabS.nil h2
  refine ⟨3, rfl, by decide, by decide, ?_⟩
  refine for_range (fun i σ H' => LawInv K l P1 P2 ns σ H') ⟨⟨_, _, _, _, _, _, _, _, _, _, _, _, _, _, _, _, _, rfl⟩, hs, tab0⟩ ?_ ?_
  rotate_left
  · rintro σ H1 ⟨⟨v1, v2, v3, v4, v5, v6, v7, v8, v9, v10, v11, v12, v13, v14, v15, v16, v17, rfl⟩, _, _⟩
    try dsimp only
    exact q _
  rintro i σ H1 hi ⟨⟨v1, v2, v3, v4, v5, v6, v7, v8, v9, v10, v11, v12, v13, v14, v15, v16, v17, rfl⟩, sql1, tab1⟩
  refine ⟨_, rfl, _, rfl, l, _, ns, rfl, sql1, by omega, by omega, fun a o ha ho => ?_⟩
  have sN := rm_new (o := o) ha
  have dA : DnAt 0 (upd H1 a o) a := DnAt.put ho
  try dsimp only
  refine cut_if (fun σ H' => ∃ (r fl : Addr) (rs : List Rk), σ = [some (.ref l), some (.int (0 + (i : Nat))), some (.ref a), v3, v4, v5, v6, some (.ref r), some (.ref fl), v9, v10, v11, v12, v13, v14, v15, v16, v17] ∧ DnAt 7 H' a ∧ Same H1 (rms H' [a, fl]) ∧ RanksR (rms H' [a, fl]) r rs ∧ drawnR rs ∧ fl ≠ a ∧ H' fl = some (.lst (names9.map V.str))) ?_ fun rest => ?_
  rotate_left
  · refine ⟨_, rfl, a, 0, rfl, dA, by decide, fun r H2 rs d2 s2 hrk dr => ?_⟩
    refine ⟨lineN (n := 9), fun fl hfl => ⟨_, _, rfl, ?_⟩⟩
    have s3 := Same.up (H := H2) (o := .lst (names9.map V.str)) hfl
    have sr : Same (rm H2 a) (rms (upd H2 fl (.lst (names9.map V.str))) [a, fl]) := rm_rms hfl
    exact rest _ _ ⟨r, fl, rs, rfl, d2.up s3, (sN.trans s2).trans sr, hrk.mono sr, dr, d2.new hfl, upd_same⟩
  rintro σ H2 ⟨r, fl, rs, rfl, d2, s2, hrk, dr, nfa, hfl⟩
  try dsimp only
  refine cut_if (fun σ H' => ∃ (f : Addr) (kvs : List (Key × V)) (es : Es) (ms : List Str), σ = [some (.ref l), some (.int (0 + (i : Nat))), some (.ref a), some (.ref f), v4, v5, v6, some (.ref r), some (.ref fl), v9, v10, v11, v12, v13, v14, v15, v16, v17] ∧ DnAt 80 H' a ∧ Same (rms H2 [a, fl]) (rms H' [a, fl]) ∧ H' f = some (.dK kvs) ∧ EvE H' kvs es ∧ Ok rs es ∧ es.length ≤ 8 ∧ ms.length ≤ 9 ∧ (∀ s ∈ ms, s ∈ names9) ∧ H' fl = some (.lst (ms.map V.str))) ?_ fun rest => ?_
  rotate_left
  · refine ⟨_, rfl, _, rfl, _, rfl, a, 9, 7, rfl, d2, by decide, by decide, by decide, fun m o2 m0 m1 ho2 => ?_⟩
    obtain ⟨c, rfl⟩ := Int.eq_ofNat_of_zero_le m0
    have s3 : Same (rms H2 [a, fl]) (rms (upd H2 a o2) [a, fl]) := rms_put (Same.refl _) (by simp)
    refine ⟨_, rfl, a, r, fl, rs, names9, c, 8, rfl, by omega, DnAt.put ho2, by decide, nfa, hrk.mono s3, dr, (upd_ne nfa).trans hfl, by decide, fun s m => m, fun f H4 kvs es tm ms d4 s4 hf0 hf ev ok t24 le tld hfl4 => ?_⟩
    have ln : (toldOf es).length + ms.length = 9 := by rw [← List.length_append, tld]; rfl
    have nd : (toldOf es).Nodup := by
      have h : names9.Nodup := by decide +kernel
      rw [← tld] at h
      exact (List.nodup_append.mp h).1
    exact rest _ _ ⟨f, kvs, es, ms, rfl, d4, s3.trans s4, hf, ev, ok.ok t24 nd, by omega, by omega, fun s m => by rw [← tld]; exact List.mem_append_right _ m, hfl4⟩
  rintro σ H4 ⟨f, kvs, es, ms, rfl, d4, s4, hf, ev, ok, le, lm, mn, hfl4⟩
  try dsimp only
  refine cut_if (fun σ H' => ∃ (tl nw : Addr), σ = [some (.ref l), some (.int (0 + (i : Nat))), some (.ref a), some (.ref f), v4, v5, v6, some (.ref r), some (.ref fl), some (.ref tl), some (.ref nw), v11, v12, v13, v14, v15, v16, v17] ∧ Lp K 80 l a r f fl tl nw ns rs kvs es [] [] kvs es ms P1 P2 H') ?_ fun rest => ?_
  rotate_left
  · refine ⟨lineN (n := 0), fun tl htl => ?_⟩
    have s5 := Same.up (H := H4) (o := .lst []) htl
    refine ⟨_, rfl, f, kvs, rfl, .inl (s5 _ _ hf), fun nw hnw => ⟨lineN (n := 2), fun t ht2 => ?_⟩⟩
    have s6 := Same.up (o := .dK kvs) hnw
    have s7 := Same.up (o := .tup [.ref tl, .ref nw]) ht2
    have sA := s5.trans (s6.trans s7)
    have ls : ∀ b ∈ [a, fl], ∃ xs, H4 b = some (.lst xs) := fun b z => by
      simp only [List.mem_cons, List.not_mem_nil, or_false] at z
      rcases z with rfl | rfl
      · obtain ⟨o, e, _, _, _, rfl, _⟩ := d4
        exact ⟨_, e⟩
      · exact ⟨_, hfl4⟩
    have nf : f ∉ [a, fl] := fun z => by
      obtain ⟨xs, e⟩ := ls f z
      rw [hf] at e
      cases e
    have mtl : (rms H4 [a, fl]) tl = none := by
      cases e : rms H4 [a, fl] tl with
      | none => rfl
      | some o =>
        have := rms_same _ _ e
        rw [htl] at this
        cases this
    have SM : Same (rms H4 [a, fl]) (rms (upd (upd (upd H4 tl (.lst [])) nw (.dK kvs)) t (.tup [.ref tl, .ref nw])) [a, fl, tl]) := rms_more (Same.rms sA) mtl [a, fl, tl] (by simp)
    have old := s2.trans (s4.trans SM)
    have tz : Tups H4 (rms H4 [a, fl]) := tups_out fun b z xs e => by
      obtain ⟨ys, e2⟩ := ls b z
      rw [e2] at e
      cases e
    have evM := ev.keep (tz.trans (Tups.of SM))
    have hfM := SM _ _ (by rw [rms_ne nf]; exact hf)
    have X : Lp K 80 l a r f fl tl f ns rs kvs es [] [] kvs es ms P1 P2 (upd (upd (upd H4 tl (.lst [])) nw (.dK kvs)) t (.tup [.ref tl, .ref nw])) :=
      ⟨d4.up sA, sql_mono old sql1, Tabs.ext tab1 old, hrk.mono (s4.trans SM), hfM, evM, sA _ _ hfl4, lm, mn, (s6.trans s7) _ _ upd_same, .nil, hfM, evM, ok, nfa, d4.new htl, fun z => by rw [z, hfl4] at htl; cases htl⟩
    have X2 := X.next (s7 _ _ upd_same) (ev.keep (Tups.of sA)) ok
    exact ⟨t, _, rfl, SqT.of upd_same, rfl, _, _, rfl, _, _, rfl, rfl, rest _ _ ⟨tl, nw, rfl, X2⟩⟩
  rintro σ H5 ⟨tl, nw, rfl, X⟩
  try dsimp only
  exact ht _ l a r f fl tl nw _ _ _ _ _ _ _ _ _ _ _ 80 ns rs kvs es ms H5 X (by decide) dr le fun σ H' h => h
end
end K07

set_option Elab.async false
set_option linter.all false
set_option maxRecDepth 100000
set_option maxHeartbeats 0
namespace K07
open PySem PySem.Spec PyProof.Rows L2 Sr
/-! ### the head -/
def dd (x : Str) (i : Nat) : He.DefD := ⟨(x, none), x, x, defArgs (top i), defBody (top i), defScope (top i), [], []⟩
def dm (c m qual : Str) (st : Stmt) : He.DefD := ⟨(c, some m), m, qual, defArgs st, defBody st, defScope st, [], []⟩
def fn : List He.DefD := [dd "is_integer" 4, dd "is_list" 5, dd "is_name" 6, dd "is_time" 7, dd "is_points" 8, dd "frozen" 9, dd "is_event" 11, dd "is_wishes" 12, dd "is_home" 13, dd "name_told" 14, dd "_is_come" 15, dd "_is_of_kind" 16, dd "_is_of_person" 17, dd "_is_change" 18, dd "_is_alone" 19, dd "is_truth" 22, dd "is_rank" 32, dd "_check_names" 35, dd "_can_be_heard" 36, dd "_heard" 37, dd "_law_stream" 39, dd "_law_draw" 40, dd "_law_pick" 41, dd "_law_mix" 42, dd "_law_truth" 43, dd "_law_ranks" 44, dd "_law_wishes" 45, dd "_law_event" 46, dd "_law_events" 47, dd "_law_office" 48, dd "_law_behind" 49, dd "_law_free_time" 50, dd "_law_some_truth" 51, dd "_law_odd_truth" 52, dd "_law_tried" 53, dd "_law_told_right" 54, dd "law" 55, dm "BadRank" "__init__" "BadRank.__init__" s_BadRank___init__, dm "BadEvent" "__init__" "BadEvent.__init__" s_BadEvent___init__, dm "BadTruth" "__init__" "BadTruth.__init__" s_BadTruth___init__, dm "Office" "__init__" "Office.__init__" s_Office___init__, dm "Office" "__eq__" "Office.__eq__" s_Office___eq__, dm "Office" "__contains__" "Office.__contains__" s_Office___contains__, dm "Course" "__init__" "Course.__init__" s_Course___init__, dm "Course" "events" "Course.events" s_Course_events, dm "Course" "with_truths" "Course.with_truths" s_Course_with_truths, dm "Course" "__eq__" "Course.__eq__" s_Course___eq__]
def fa : List He.Fa := [.glo "is_integer", .glo "is_list", .glo "is_name", .glo "is_time", .glo "is_points", .glo "frozen", .glo "is_event", .glo "is_wishes", .glo "is_home", .glo "name_told", .glo "_is_come", .glo "_is_of_kind", .glo "_is_of_person", .glo "_is_change", .glo "_is_alone", .glo "is_truth", .glo "is_rank", .glo "_check_names", .glo "_can_be_heard", .glo "_heard", .glo "_law_stream", .glo "_law_draw", .glo "_law_pick", .glo "_law_mix", .glo "_law_truth", .glo "_law_ranks", .glo "_law_wishes", .glo "_law_event", .glo "_law_events", .glo "_law_office", .glo "_law_behind", .glo "_law_free_time", .glo "_law_some_truth", .glo "_law_odd_truth", .glo "_law_tried", .glo "_law_told_right", .glo "law", .free "len", .free "isinstance", .free "all", .free "range", .free "sorted", .free "list", .free "tuple", .free "min", .free "int", .free "str", .free "bool", .free "dict", .free "zip", .free "enumerate", .str "SIGNS" signs, .int "GREATEST" 1000000, .int "LONGEST" 8, .free "max", .free "sum", .free "set", .free "any", .free "abs", .glo "BadRank", .glo "BadEvent", .glo "BadTruth", .glo "Office", .glo "Course", .glo "FORMS", .glo "WORDS", .cls "Office", .noat "Office" "_ranks", .cls "Course", .noat "Course" "office", .noat "Course" "_events", .meth "Course" "events", .meth "Course" "with_truths", .mkr "Office", .mkr "Course"]
def forms : List (Str × He.Dv) := [("come", .glo "_is_come"), ("place", .glo "_is_of_kind"), ("leave", .glo "_is_of_person"), ("withdraw", .glo "_is_of_kind"), ("change", .glo "_is_change"), ("gather", .glo "_is_alone"), ("round", .glo "_is_alone")]
def formKeys : List Str := ["come", "place", "leave", "withdraw", "change", "gather", "round"]
def ts : List He.Tab := [(fun K => He.ga K "FORMS", formKeys)]
def tf : List He.Defn := [("_law_told_right", none), ("law", none)]
def ex (K : PySem.W.Frag) : Bool := He.valsB K (He.ga K "FORMS") forms && (He.tupB K "WORDS" (words.map He.Dv.str) && (errAll K (He.ga K "BadRank") (He.fAd K ("BadRank", some "__init__")) "kind" && (errAll K (He.ga K "BadEvent") (He.fAd K ("BadEvent", some "__init__")) "time" && (errAll K (He.ga K "BadTruth") (He.fAd K ("BadTruth", some "__init__")) "index" && (decide (PySem.W.exmOne K (.ref (He.ga K "BadTruth")) (.ref (He.ga K "BadTruth")) = some true) && (decide ((He.cT K ("_law_told_right", none)).2 ≠ (He.cT K ("law", none)).2) && (decide (PySem.W.findIn K (.ref (He.ga K "Office")) "__class__" = some (some (.builtin "object.__class__"))) && (decide (PySem.W.specialIn K (.builtin "object.__class__") "__get__" = some (some (.builtin "getset_descriptor.__get__"))) && (decide (PySem.W.takesIn K (.builtin "object.__class__") = some true) && (decide (PySem.W.mroIn K (He.ga K "Office") (.type "object") = some true) && (decide (PySem.W.kitOne K (.ref (He.ga K "Office")) (.ref (He.ga K "Office")) = some true) && (decide (PySem.W.kitOne K (.type "NoneType") (.ref (He.ga K "Office")) = some false) && (decide (PySem.W.kitOne K (.type "dict") (.ref (He.ga K "Office")) = some false) && (decide (PySem.W.kitOne K (.type "list") (.ref (He.ga K "Office")) = some false) && (decide (PySem.W.kitOne K (.type "str") (.ref (He.ga K "Office")) = some false) && (decide (PySem.W.findIn K (.ref (He.ga K "Course")) "__class__" = some (some (.builtin "object.__class__"))) && (decide (PySem.W.mroIn K (He.ga K "Course") (.type "object") = some true) && (decide (PySem.W.kitOne K (.ref (He.ga K "Course")) (.ref (He.ga K "Course")) = some true) && (decide (PySem.W.kitOne K (.type "NoneType") (.ref (He.ga K "Course")) = some false) && (decide (PySem.W.kitOne K (.type "dict") (.ref (He.ga K "Course")) = some false) && (decide (PySem.W.kitOne K (.ref (He.ga K "Office")) (.ref (He.ga K "Course")) = some false) && (decide (PySem.W.notFirst K (He.ga K "Course") (.ref (He.ga K "Office")) = true) && (decide (PySem.W.findIn K (.ref (He.ga K "Office")) "__eq__" = some (some (.ref (He.fAd K ("Office", some "__eq__"))))) && (PySem.W.isFn K (.ref (He.fAd K ("Office", some "__eq__"))) && (decide (PySem.W.findIn K (.ref (He.ga K "Office")) "__ne__" = some (some (.builtin "object.__ne__"))) && (decide (PySem.W.findIn K (.ref (He.ga K "Office")) "__contains__" = some (some (.ref (He.fAd K ("Office", some "__contains__"))))) && (decide (PySem.W.typeIn K (.ref (He.fAd K ("Office", some "__contains__"))) = some (.type "function")) && (decide (PySem.W.findIn K (.ref (He.ga K "Course")) "__eq__" = some (some (.ref (He.fAd K ("Course", some "__eq__"))))) && (PySem.W.isFn K (.ref (He.fAd K ("Course", some "__eq__"))) && (decide (PySem.W.findIn K (.ref (He.ga K "Course")) "__ne__" = some (some (.builtin "object.__ne__")))))))))))))))))))))))))))))))))
abbrev R : PySem.W.OpenRow := PySem.W.OpenLaw.row PySem.Challenge.rw_seatroads_k07_truths_told
abbrev hk : PySem.W.Hook := He.hookX 6 fa fn ts tf ex
def ob (s : PySem.W.SharedT) : He.AlX := He.obsX 6 fa fn ts tf ex (HandSHeadRun.getT s)
theorem ob_eq (s : PySem.W.SharedT) : ob s = hk.obs s.abs := He.obsX_eq (HandSHeadRun.getT_eq s)
def loose0 : List Str := ["is_integer", "is_list", "is_name", "is_time", "is_points", "frozen", "is_event", "is_wishes", "is_home", "name_told", "_is_come", "_is_of_kind", "_is_of_person", "_is_change", "_is_alone", "is_truth"]
def loose1 : List Str := ["is_rank", "_check_names", "_can_be_heard", "_heard", "_law_stream", "_law_draw", "_law_pick", "_law_mix", "_law_truth", "_law_ranks", "_law_wishes", "_law_event", "_law_events", "_law_office", "_law_behind", "_law_free_time"]
def loose2 : List Str := ["_law_some_truth", "_law_odd_truth", "_law_tried", "_law_told_right", "SIGNS", "LONGEST", "GREATEST", "OfficeError", "Office", "Course", "FORMS", "WORDS", "BadRank", "BadKind", "BadEvent", "BadTruth"]
def loose : List Str := loose0 ++ loose1 ++ loose2
theorem run0 (w : World) : HandSHeadRun.RunEq R (PySem.W.view R.prog [55]) hk ob 60000 loose (w.withFollow "special-get-raises" false) := by
  intro os
  kernel_rfl
theorem run1 (w : World) : HandSHeadRun.RunEq R (PySem.W.view R.prog [55]) hk ob 60000 loose (w.withFollow "special-get-raises" true) := by
  intro os
  kernel_rfl
theorem run (w : World) : HandSHeadRun.RunEq R (PySem.W.view R.prog [55]) hk ob 60000 loose w := by
  exact PySem.W.byRow2 "special-get-raises" (P := fun w => HandSHeadRun.RunEq R (PySem.W.view R.prog [55]) hk ob 60000 loose w) run0 run1 w
end K07

set_option Elab.async false
set_option linter.all false
set_option maxRecDepth 100000
set_option maxHeartbeats 4000000
namespace K07
open PySem PySem.Spec PyProof.Rows L2 Sr LamX
theorem tab_dic {fa : List He.Fa} {fn : List He.DefD} {ts : List He.Tab} {w : World} {K : PySem.W.Frag} (c : He.SaysT fa fn ts w K) (i : Nat) {t : He.Tab} (h : ts[i]? = some t := by rfl) : He.dicW K (t.1 K) = some (He.keysIn w.params t.2) := by
  have e : ts.map (fun t => He.dicW K (t.1 K)) = ts.map fun t => some (He.keysIn w.params t.2) := congrArg (fun z : He.AlT => z.2) c
  have e2 : (ts.map fun t => He.dicW K (t.1 K))[i]? = (ts.map fun t => some (He.keysIn w.params t.2))[i]? := by rw [e]
  rw [List.getElem?_map, List.getElem?_map, h] at e2
  exact Option.some.inj e2
theorem val_at {K : PySem.W.Frag} (h : He.valsB K (He.ga K "FORMS") forms = true) {k x : Str} (m : (k, He.Dv.glo x) ∈ forms) : PySem.W.nsIn K (He.ga K "FORMS") k = some (some (.ref (He.ga K x))) := by
  obtain ⟨u, h1, h2⟩ := He.valsB_ok h m
  have e : u = .ref (He.ga K x) := h2
  rw [e] at h1
  exact h1
theorem facts {l : PySem.W.OpenLaw} {w : World} {K : PySem.W.Frag} {h : Heap} {mg : Str → Option Value} {f : Addr} (X : K.In h) (G : h.Ns mainGlobals mg) (hfa : mg ("law" : Str) = some (.ref f)) (c : He.SaysX fa fn ts tf ex w h K) : LawAtS l w K CX0 14 63 "script" mg f h := by
  have cd : He.SaysD fa fn K := c.t.d
  have e := hfa.symm.trans (He.glo_ok X G (cd.fact 36 (f := .glo "law") rfl))
  cases e
  obtain ⟨x0, y1⟩ := He.ba c.more
  obtain ⟨x1, y2⟩ := He.ba y1
  obtain ⟨x2, y3⟩ := He.ba y2
  obtain ⟨x3, y4⟩ := He.ba y3
  obtain ⟨x4, y5⟩ := He.ba y4
  obtain ⟨x5, y6⟩ := He.ba y5
  obtain ⟨x6, y7⟩ := He.ba y6
  obtain ⟨x7, y8⟩ := He.ba y7
  obtain ⟨x8, y9⟩ := He.ba y8
  obtain ⟨x9, y10⟩ := He.ba y9
  obtain ⟨x10, y11⟩ := He.ba y10
  obtain ⟨x11, y12⟩ := He.ba y11
  obtain ⟨x12, y13⟩ := He.ba y12
  obtain ⟨x13, y14⟩ := He.ba y13
  obtain ⟨x14, y15⟩ := He.ba y14
  obtain ⟨x15, y16⟩ := He.ba y15
  obtain ⟨x16, y17⟩ := He.ba y16
  obtain ⟨x17, y18⟩ := He.ba y17
  obtain ⟨x18, y19⟩ := He.ba y18
  obtain ⟨x19, y20⟩ := He.ba y19
  obtain ⟨x20, y21⟩ := He.ba y20
  obtain ⟨x21, y22⟩ := He.ba y21
  obtain ⟨x22, y23⟩ := He.ba y22
  obtain ⟨x23, y24⟩ := He.ba y23
  obtain ⟨x24, y25⟩ := He.ba y24
  obtain ⟨x25, y26⟩ := He.ba y25
  obtain ⟨x26, y27⟩ := He.ba y26
  obtain ⟨x27, y28⟩ := He.ba y27
  obtain ⟨x28, y29⟩ := He.ba y28
  obtain ⟨x29, y30⟩ := He.ba y29
  have bF := x0
  have bW := x1
  have bE_BadRank := x2
  have bE_BadEvent := x3
  have bE_BadTruth := x4
  have bx11 := of_decide_eq_true x5
  have bnP := of_decide_eq_true x6
  have bcaO := of_decide_eq_true x7
  have bcn := of_decide_eq_true x8
  have bct := of_decide_eq_true x9
  have bcmO := of_decide_eq_true x10
  have byO := of_decide_eq_true x11
  have bnNoneType := of_decide_eq_true x12
  have bndict := of_decide_eq_true x13
  have bnlist := of_decide_eq_true x14
  have bnstr := of_decide_eq_true x15
  have bcaC := of_decide_eq_true x16
  have bcmC := of_decide_eq_true x17
  have byC := of_decide_eq_true x18
  have bcN := of_decide_eq_true x19
  have bcD := of_decide_eq_true x20
  have bcO := of_decide_eq_true x21
  have bfirst := x22
  have beqO := of_decide_eq_true x23
  have bfnO := x24
  have bneO := of_decide_eq_true x25
  have bhsO := of_decide_eq_true x26
  have bhfO := of_decide_eq_true x27
  have beqC := of_decide_eq_true x28
  have bfnC := x29
  have bneC := of_decide_eq_true y30
  have D_is_integer : Dfn K mg "is_integer" s_is_integer := ⟨cd.def_ 0 (d := dd "is_integer" 4) rfl, He.glo_ok X G (cd.fact 0 (f := .glo "is_integer") rfl)⟩
  have D_is_list : Dfn K mg "is_list" s_is_list := ⟨cd.def_ 1 (d := dd "is_list" 5) rfl, He.glo_ok X G (cd.fact 1 (f := .glo "is_list") rfl)⟩
  have D_is_name : Dfn K mg "is_name" s_is_name := ⟨cd.def_ 2 (d := dd "is_name" 6) rfl, He.glo_ok X G (cd.fact 2 (f := .glo "is_name") rfl)⟩
  have D_is_time : Dfn K mg "is_time" s_is_time := ⟨cd.def_ 3 (d := dd "is_time" 7) rfl, He.glo_ok X G (cd.fact 3 (f := .glo "is_time") rfl)⟩
  have D_is_points : Dfn K mg "is_points" s_is_points := ⟨cd.def_ 4 (d := dd "is_points" 8) rfl, He.glo_ok X G (cd.fact 4 (f := .glo "is_points") rfl)⟩
  have D_frozen : Dfn K mg "frozen" s_frozen := ⟨cd.def_ 5 (d := dd "frozen" 9) rfl, He.glo_ok X G (cd.fact 5 (f := .glo "frozen") rfl)⟩
  have D_is_event : Dfn K mg "is_event" s_is_event := ⟨cd.def_ 6 (d := dd "is_event" 11) rfl, He.glo_ok X G (cd.fact 6 (f := .glo "is_event") rfl)⟩
  have D_is_wishes : Dfn K mg "is_wishes" s_is_wishes := ⟨cd.def_ 7 (d := dd "is_wishes" 12) rfl, He.glo_ok X G (cd.fact 7 (f := .glo "is_wishes") rfl)⟩
  have D_is_home : Dfn K mg "is_home" s_is_home := ⟨cd.def_ 8 (d := dd "is_home" 13) rfl, He.glo_ok X G (cd.fact 8 (f := .glo "is_home") rfl)⟩
  have D_name_told : Dfn K mg "name_told" s_name_told := ⟨cd.def_ 9 (d := dd "name_told" 14) rfl, He.glo_ok X G (cd.fact 9 (f := .glo "name_told") rfl)⟩
  have D__is_come : Dfn K mg "_is_come" s__is_come := ⟨cd.def_ 10 (d := dd "_is_come" 15) rfl, He.glo_ok X G (cd.fact 10 (f := .glo "_is_come") rfl)⟩
  have D__is_of_kind : Dfn K mg "_is_of_kind" s__is_of_kind := ⟨cd.def_ 11 (d := dd "_is_of_kind" 16) rfl, He.glo_ok X G (cd.fact 11 (f := .glo "_is_of_kind") rfl)⟩
  have D__is_of_person : Dfn K mg "_is_of_person" s__is_of_person := ⟨cd.def_ 12 (d := dd "_is_of_person" 17) rfl, He.glo_ok X G (cd.fact 12 (f := .glo "_is_of_person") rfl)⟩
  have D__is_change : Dfn K mg "_is_change" s__is_change := ⟨cd.def_ 13 (d := dd "_is_change" 18) rfl, He.glo_ok X G (cd.fact 13 (f := .glo "_is_change") rfl)⟩
  have D__is_alone : Dfn K mg "_is_alone" s__is_alone := ⟨cd.def_ 14 (d := dd "_is_alone" 19) rfl, He.glo_ok X G (cd.fact 14 (f := .glo "_is_alone") rfl)⟩
  have D_is_truth : Dfn K mg "is_truth" s_is_truth := ⟨cd.def_ 15 (d := dd "is_truth" 22) rfl, He.glo_ok X G (cd.fact 15 (f := .glo "is_truth") rfl)⟩
  have D_is_rank : Dfn K mg "is_rank" s_is_rank := ⟨cd.def_ 16 (d := dd "is_rank" 32) rfl, He.glo_ok X G (cd.fact 16 (f := .glo "is_rank") rfl)⟩
  have D__check_names : Dfn K mg "_check_names" s__check_names := ⟨cd.def_ 17 (d := dd "_check_names" 35) rfl, He.glo_ok X G (cd.fact 17 (f := .glo "_check_names") rfl)⟩
  have D__can_be_heard : Dfn K mg "_can_be_heard" s__can_be_heard := ⟨cd.def_ 18 (d := dd "_can_be_heard" 36) rfl, He.glo_ok X G (cd.fact 18 (f := .glo "_can_be_heard") rfl)⟩
  have D__heard : Dfn K mg "_heard" s__heard := ⟨cd.def_ 19 (d := dd "_heard" 37) rfl, He.glo_ok X G (cd.fact 19 (f := .glo "_heard") rfl)⟩
  have D__law_stream : Dfn K mg "_law_stream" s__law_stream := ⟨cd.def_ 20 (d := dd "_law_stream" 39) rfl, He.glo_ok X G (cd.fact 20 (f := .glo "_law_stream") rfl)⟩
  have D__law_draw : Dfn K mg "_law_draw" s__law_draw := ⟨cd.def_ 21 (d := dd "_law_draw" 40) rfl, He.glo_ok X G (cd.fact 21 (f := .glo "_law_draw") rfl)⟩
  have D__law_pick : Dfn K mg "_law_pick" s__law_pick := ⟨cd.def_ 22 (d := dd "_law_pick" 41) rfl, He.glo_ok X G (cd.fact 22 (f := .glo "_law_pick") rfl)⟩
  have D__law_mix : Dfn K mg "_law_mix" s__law_mix := ⟨cd.def_ 23 (d := dd "_law_mix" 42) rfl, He.glo_ok X G (cd.fact 23 (f := .glo "_law_mix") rfl)⟩
  have D__law_truth : Dfn K mg "_law_truth" s__law_truth := ⟨cd.def_ 24 (d := dd "_law_truth" 43) rfl, He.glo_ok X G (cd.fact 24 (f := .glo "_law_truth") rfl)⟩
  have D__law_ranks : Dfn K mg "_law_ranks" s__law_ranks := ⟨cd.def_ 25 (d := dd "_law_ranks" 44) rfl, He.glo_ok X G (cd.fact 25 (f := .glo "_law_ranks") rfl)⟩
  have D__law_wishes : Dfn K mg "_law_wishes" s__law_wishes := ⟨cd.def_ 26 (d := dd "_law_wishes" 45) rfl, He.glo_ok X G (cd.fact 26 (f := .glo "_law_wishes") rfl)⟩
  have D__law_event : Dfn K mg "_law_event" s__law_event := ⟨cd.def_ 27 (d := dd "_law_event" 46) rfl, He.glo_ok X G (cd.fact 27 (f := .glo "_law_event") rfl)⟩
  have D__law_events : Dfn K mg "_law_events" s__law_events := ⟨cd.def_ 28 (d := dd "_law_events" 47) rfl, He.glo_ok X G (cd.fact 28 (f := .glo "_law_events") rfl)⟩
  have D__law_office : Dfn K mg "_law_office" s__law_office := ⟨cd.def_ 29 (d := dd "_law_office" 48) rfl, He.glo_ok X G (cd.fact 29 (f := .glo "_law_office") rfl)⟩
  have D__law_behind : Dfn K mg "_law_behind" s__law_behind := ⟨cd.def_ 30 (d := dd "_law_behind" 49) rfl, He.glo_ok X G (cd.fact 30 (f := .glo "_law_behind") rfl)⟩
  have D__law_free_time : Dfn K mg "_law_free_time" s__law_free_time := ⟨cd.def_ 31 (d := dd "_law_free_time" 50) rfl, He.glo_ok X G (cd.fact 31 (f := .glo "_law_free_time") rfl)⟩
  have D__law_some_truth : Dfn K mg "_law_some_truth" s__law_some_truth := ⟨cd.def_ 32 (d := dd "_law_some_truth" 51) rfl, He.glo_ok X G (cd.fact 32 (f := .glo "_law_some_truth") rfl)⟩
  have D__law_odd_truth : Dfn K mg "_law_odd_truth" s__law_odd_truth := ⟨cd.def_ 33 (d := dd "_law_odd_truth" 52) rfl, He.glo_ok X G (cd.fact 33 (f := .glo "_law_odd_truth") rfl)⟩
  have D__law_tried : Dfn K mg "_law_tried" s__law_tried := ⟨cd.def_ 34 (d := dd "_law_tried" 53) rfl, He.glo_ok X G (cd.fact 34 (f := .glo "_law_tried") rfl)⟩
  have D__law_told_right : Dfn K mg "_law_told_right" s__law_told_right := ⟨cd.def_ 35 (d := dd "_law_told_right" 54) rfl, He.glo_ok X G (cd.fact 35 (f := .glo "_law_told_right") rfl)⟩
  obtain ⟨fd, DL⟩ := cd.def_ 36 (d := dd "law" 55) rfl
  have DM_BadRank___init__ : DfnM K "BadRank" "__init__" "BadRank.__init__" s_BadRank___init__ := ⟨cd.def_ 37 (d := dm "BadRank" "__init__" "BadRank.__init__" s_BadRank___init__) rfl⟩
  have DM_BadEvent___init__ : DfnM K "BadEvent" "__init__" "BadEvent.__init__" s_BadEvent___init__ := ⟨cd.def_ 38 (d := dm "BadEvent" "__init__" "BadEvent.__init__" s_BadEvent___init__) rfl⟩
  have DM_BadTruth___init__ : DfnM K "BadTruth" "__init__" "BadTruth.__init__" s_BadTruth___init__ := ⟨cd.def_ 39 (d := dm "BadTruth" "__init__" "BadTruth.__init__" s_BadTruth___init__) rfl⟩
  have DM_Office___init__ : DfnM K "Office" "__init__" "Office.__init__" s_Office___init__ := ⟨cd.def_ 40 (d := dm "Office" "__init__" "Office.__init__" s_Office___init__) rfl⟩
  have DM_Office___eq__ : DfnM K "Office" "__eq__" "Office.__eq__" s_Office___eq__ := ⟨cd.def_ 41 (d := dm "Office" "__eq__" "Office.__eq__" s_Office___eq__) rfl⟩
  have DM_Office___contains__ : DfnM K "Office" "__contains__" "Office.__contains__" s_Office___contains__ := ⟨cd.def_ 42 (d := dm "Office" "__contains__" "Office.__contains__" s_Office___contains__) rfl⟩
  have DM_Course___init__ : DfnM K "Course" "__init__" "Course.__init__" s_Course___init__ := ⟨cd.def_ 43 (d := dm "Course" "__init__" "Course.__init__" s_Course___init__) rfl⟩
  have DM_Course_events : DfnM K "Course" "events" "Course.events" s_Course_events := ⟨cd.def_ 44 (d := dm "Course" "events" "Course.events" s_Course_events) rfl⟩
  have DM_Course_with_truths : DfnM K "Course" "with_truths" "Course.with_truths" s_Course_with_truths := ⟨cd.def_ 45 (d := dm "Course" "with_truths" "Course.with_truths" s_Course_with_truths) rfl⟩
  have DM_Course___eq__ : DfnM K "Course" "__eq__" "Course.__eq__" s_Course___eq__ := ⟨cd.def_ 46 (d := dm "Course" "__eq__" "Course.__eq__" s_Course___eq__) rfl⟩
  have T : Txt K mg := ⟨He.free_ok X G (cd.fact 37 (f := .free "len") rfl), He.free_ok X G (cd.fact 38 (f := .free "isinstance") rfl), He.free_ok X G (cd.fact 39 (f := .free "all") rfl), He.free_ok X G (cd.fact 40 (f := .free "range") rfl), He.free_ok X G (cd.fact 41 (f := .free "sorted") rfl), He.free_ok X G (cd.fact 42 (f := .free "list") rfl), He.free_ok X G (cd.fact 43 (f := .free "tuple") rfl), He.free_ok X G (cd.fact 44 (f := .free "min") rfl), He.free_ok X G (cd.fact 45 (f := .free "int") rfl), He.free_ok X G (cd.fact 46 (f := .free "str") rfl), He.free_ok X G (cd.fact 47 (f := .free "bool") rfl), He.free_ok X G (cd.fact 48 (f := .free "dict") rfl), He.free_ok X G (cd.fact 49 (f := .free "zip") rfl), He.free_ok X G (cd.fact 50 (f := .free "enumerate") rfl), He.str_ok X G (cd.fact 51 (f := .str "SIGNS" signs) rfl), He.int_ok X G (cd.fact 52 (f := .int "GREATEST" 1000000) rfl), He.int_ok X G (cd.fact 53 (f := .int "LONGEST" 8) rfl), He.free_ok X G (cd.fact 54 (f := .free "max") rfl), He.free_ok X G (cd.fact 55 (f := .free "sum") rfl), He.free_ok X G (cd.fact 56 (f := .free "set") rfl), He.free_ok X G (cd.fact 57 (f := .free "any") rfl), He.free_ok X G (cd.fact 58 (f := .free "abs") rfl)⟩
  have N_BadRank := He.glo_ok X G (cd.fact 59 (f := .glo "BadRank") rfl)
  have N_BadEvent := He.glo_ok X G (cd.fact 60 (f := .glo "BadEvent") rfl)
  have N_BadTruth := He.glo_ok X G (cd.fact 61 (f := .glo "BadTruth") rfl)
  have N_Office := He.glo_ok X G (cd.fact 62 (f := .glo "Office") rfl)
  have N_Course := He.glo_ok X G (cd.fact 63 (f := .glo "Course") rfl)
  have N_FORMS := He.glo_ok X G (cd.fact 64 (f := .glo "FORMS") rfl)
  have N_WORDS := He.glo_ok X G (cd.fact 65 (f := .glo "WORDS") rfl)
  have O : Off K mg := ⟨He.cls_ok (cd.fact 66 (f := .cls "Office") rfl), He.noat_ok (cd.fact 67 (f := .noat "Office" "_ranks") rfl), ⟨bhsO, bhfO⟩⟩
  have ON : OfN K mg := ⟨N_Office, bcaO, bcn, bct, bcmO, byO, bnNoneType, bndict, bnlist, bnstr⟩
  have OM : OfM K := ⟨beqO, bfnO, bneO⟩
  have Oc : Cou K mg := ⟨He.cls_ok (cd.fact 68 (f := .cls "Course") rfl), He.noat_ok (cd.fact 69 (f := .noat "Course" "office") rfl), He.noat_ok (cd.fact 70 (f := .noat "Course" "_events") rfl)⟩
  have CN : CoN K mg := ⟨N_Course, bcaC, bcmC, byC, bcN, bcD, bcO, of_decide_eq_true bfirst⟩
  have M_events : Meth K (He.ga K "Course") "events" (He.fAd K ("Course", some "events")) := He.meth_ok (cd.fact 71 (f := .meth "Course" "events") rfl)
  have M_with : Meth K (He.ga K "Course") "with_truths" (He.fAd K ("Course", some "with_truths")) := He.meth_ok (cd.fact 72 (f := .meth "Course" "with_truths") rfl)
  have CM : CoM K := ⟨M_events, M_with, beqC, bfnC, bneC⟩
  have MoO : Mk K (He.ga K "Office") (He.fAd K ("Office", some "__init__")) := He.mkr_ok (cd.fact 73 (f := .mkr "Office") rfl)
  have MoC : Mk K (He.ga K "Course") (He.fAd K ("Course", some "__init__")) := He.mkr_ok (cd.fact 74 (f := .mkr "Course") rfl)
  have W : Wds K mg := ⟨N_WORDS, fun H => He.tupB_ok bW H⟩
  obtain ⟨es, n, KD, keys⟩ := tab_list (tab_dic c.t 0 (t := (fun K => He.ga K "FORMS", formKeys)) rfl)
  have F : Frm K w mg := ⟨N_FORMS, ⟨es, n, KD⟩, val_at bF (by simp [forms]), val_at bF (by simp [forms]), val_at bF (by simp [forms]), val_at bF (by simp [forms]), val_at bF (by simp [forms]), val_at bF (by simp [forms]), val_at bF (by simp [forms]), fun z hz => nsIn_out KD keys hz⟩
  have b := FunD.bindsA (ps := ["script"]) DL fun _ _ _ _ _ _ us hl => match us, hl with | [_], _ => rfl
  refine ⟨fd, [He.cT K ("_law_told_right", none), He.cT K ("law", none)], spLaw K (He.cT K ("_law_told_right", none)).2 (He.cT K ("law", none)).2, ?_, ?_, ?_, fun s v => b s [v] rfl, fun H a ns hl _ hT hS => ⟨a, ns, rfl, hS, hT _ List.mem_cons_self, hT _ (List.mem_cons_of_mem _ List.mem_cons_self), fun _ => rfl⟩, fun base _ _ TB => ?_⟩
  · intro p hp
    rcases List.mem_cons.mp hp with rfl | hp
    · exact c.empty _ List.mem_cons_self
    · rw [List.mem_singleton.mp hp]
      exact c.empty _ (List.mem_cons_of_mem _ List.mem_cons_self)
  · intro p hp
    rcases List.mem_cons.mp hp with rfl | hp
    · exact c.out _ List.mem_cons_self
    · rw [List.mem_singleton.mp hp]
      exact c.out _ (List.mem_cons_of_mem _ List.mem_cons_self)
  · intro p hp
    rcases List.mem_cons.mp hp with rfl | hp
    · exact PySem.W.codeHd_of_K X (c.hd _ List.mem_cons_self)
    · rw [List.mem_singleton.mp hp]
      exact PySem.W.codeHd_of_K X (c.hd _ (List.mem_cons_of_mem _ List.mem_cons_self))
  have TB1 := TB _ List.mem_cons_self
  have TB2 := TB _ (List.mem_cons_of_mem _ List.mem_cons_self)
  have C_is_integer := c_is_integer (P := l.prog) (w := w) (base := base) T D_is_integer
  have C_is_list := c_is_list (P := l.prog) (w := w) (base := base) T D_is_list
  have C_is_name := c_is_name (P := l.prog) (w := w) (base := base) T D_is_name
  have C_is_time := c_is_time T D_is_time C_is_integer
  have C_is_points := c_is_points T D_is_points C_is_integer
  have Mh := m_contains (P := l.prog) (w := w) (base := base) T O DM_Office___contains__
  have C_is_wishes := c_is_wishes T O Mh D_is_wishes C_is_list
  have C_is_home := c_is_home T O Mh D_is_home
  have C_come := c__is_come T D__is_come C_is_name C_is_wishes C_is_points C_is_home
  have C_kind := c__is_of_kind T O Mh D__is_of_kind
  have C_person := c__is_of_person T D__is_of_person C_is_name
  have C_change := c__is_change T D__is_change C_is_name C_is_wishes
  have C_alone := c__is_alone (P := l.prog) (w := w) (base := base) T D__is_alone
  have C_is_event := c_is_event T F D_is_event C_is_list (form_of F D__is_come.at_ D__is_of_kind.at_ D__is_of_person.at_ D__is_change.at_ D__is_alone.at_ C_come C_kind C_person C_change C_alone)
  have C_is_rank := c_is_rank T W D_is_rank C_is_list
  have C_frozen := c_frozen T D_frozen C_is_list 2
  have C_name := c_name_told (P := l.prog) (w := w) (base := base) T D_name_told
  have R_BadRank : ErrAt l.prog w K mg base "BadRank" "kind" "kind" := ⟨errAll_ok bE_BadRank, m_BadRank (errAll_ok bE_BadRank) DM_BadRank___init__, N_BadRank⟩
  have R_BadEvent : ErrAt l.prog w K mg base "BadEvent" "time" "time" := ⟨errAll_ok bE_BadEvent, m_BadEvent (errAll_ok bE_BadEvent) DM_BadEvent___init__, N_BadEvent⟩
  have C_chk := c__check_names T R_BadEvent D__check_names C_name
  have MkO0 : MkO l.prog w K mg base := ⟨m_init T O R_BadRank DM_Office___init__ C_is_name C_is_rank, MoO, N_Office⟩
  have MkC0 : MkC l.prog w K mg base := ⟨m_cinit T Oc R_BadEvent DM_Course___init__ C_is_time C_is_event C_frozen C_chk, MoC, N_Course⟩
  have ME := m_eq (P := l.prog) (w := w) (base := base) T O ON DM_Office___eq__
  have MV := m_cevents (P := l.prog) (w := w) (base := base) T Oc DM_Course_events
  have MQ := m_ceq T Oc CN ON O OM ME DM_Course___eq__
  have R_BadTruth : ErrAt l.prog w K mg base "BadTruth" "index" "index" := ⟨errAll_ok bE_BadTruth, m_BadTruth (errAll_ok bE_BadTruth) DM_BadTruth___init__, N_BadTruth⟩
  have C_truth := c_is_truth T D_is_truth C_is_list C_is_time C_is_event
  have C_can := c__can_be_heard T D__can_be_heard C_name
  have C_heard := c__heard (P := l.prog) (w := w) (base := base) T D__heard
  have MW := m_cwith T Oc R_BadTruth DM_Course_with_truths MkC0 C_is_list C_truth C_can C_heard
  have C_stream := c__law_stream (P := l.prog) (w := w) (base := base) T D__law_stream
  have C_draw := c__law_draw (P := l.prog) (w := w) (base := base) T D__law_draw
  have C_pick := c__law_pick T D__law_pick C_draw
  have C_mix := c__law_mix T D__law_mix C_draw
  have C_lt := c__law_truth (P := l.prog) (w := w) (base := base) T D__law_truth
  have C_ranks := c__law_ranks T D__law_ranks C_draw C_pick C_mix
  have C_ws := c__law_wishes T D__law_wishes C_pick C_mix
  have C_ev := c__law_event T D__law_event C_draw C_pick C_ws
  have C_evs := c__law_events T D__law_events C_draw C_ev
  have C_off := c__law_office T D__law_office MkO0
  have C_beh := c__law_behind (P := l.prog) (w := w) (base := base) T D__law_behind
  have C_free := c__law_free_time T D__law_free_time C_pick
  have C_st := c__law_some_truth T D__law_some_truth C_draw C_pick C_ws C_ev C_free
  have C_odd := c__law_odd_truth T D__law_odd_truth C_pick
  have C_told := c__law_told_right T Oc CN CM D__law_told_right TB1 bnP D__law_tried N_BadTruth (errAll_ok bE_BadTruth) rfl bx11 C_draw C_off C_beh MkC0 MV MQ MW
  exact c_law ⟨T, Oc, CN, CM, MkC0, TB2, bnP, D__law_tried, N_BadTruth, errAll_ok bE_BadTruth, rfl, bx11, MW, C_truth, C_stream, C_draw, C_ranks, C_evs, C_st, C_beh, C_told, C_off, C_odd, C_lt⟩ DL
end K07
open PySem PySem.W PySem.Calls PyProof.Rows
theorem PySem.Challenge.cw_seatroads_k07_truths_told_holds : PySem.Challenge.rw_seatroads_k07_truths_told.Holds := by
  w_on; o_law
  refine HandSHeadRun.head_any (r := OpenLaw.row PySem.Challenge.rw_seatroads_k07_truths_told) (q := view (OpenLaw.row PySem.Challenge.rw_seatroads_k07_truths_told).prog [55]) (H := K07.hk) (ob := K07.ob) (M := 60000) (loose := K07.loose) (d := HandSHeadRun.topDef (OpenLaw.row PySem.Challenge.rw_seatroads_k07_truths_told).prog 55) (kwd := []) K07.ob_eq
    (by kernel_rfl) (fun s => by kernel_rfl) K07.run (by kernel_rfl) (by kernel_rfl) (by kernel_rfl) (by rfl) (by first | assumption | decide +kernel) (by decide +kernel) ⟨rfl, rfl, rfl, rfl, rfl, by decide +kernel⟩ ?hw ?hc
  case hw => w_witness2
  case hc =>
    refine LamX.walk_ofTsE (l := PySem.Challenge.rw_seatroads_k07_truths_told) (n := 63) (k := 14) (x := "script") (CX := fun _ => L2.CX0) rfl (by decide) (by kernel_rfl) ⟨rfl, by decide, by decide⟩ ?F (fun _ _ _ _ _ z => z)
    intro w mg fa h Y G hmg0
    obtain ⟨K, KX, c⟩ := Y
    have hmg : mg ("law" : PySem.Str) = some (.ref fa) := by
      have e : (HandSHeadRun.topDef (OpenLaw.row PySem.Challenge.rw_seatroads_k07_truths_told).prog 55).name = ("law" : PySem.Str) := by kernel_rfl
      rw [← e]
      exact hmg0
    exact ⟨K, KX, K07.facts KX G hmg c⟩
