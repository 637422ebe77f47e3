import PyProof.Rows.All
import Wide.All
import OpenK.AllK
import Wide.FinOn
import KE.KStateDown
import HandS.ForMost
import HandS.Defaults
import HandS.IsInst
import HandS.CallLocal
import HandS.TupAny
import HandS.NoneIn
import HandS.Strs
import HandS.TryOnly
import HandS.Head0
import HandS.Head1
import HandS.Head2
import HandS.HeadEnd
import HandS.HeadHook1
import HandS.HeadHook2
import HandS.HeadHook3
import HandS.HeadHook4
import HandS.ListItems
import HandS.More
import HandS.Walk
import HandS.DictComp
import HandS.Zip
import KE.SortData
import HandS.Conv
import KE.KDictPairs
import HandS.Exc
import HandS.TryMany
import HandS.ExcInit
import HandS.ExcField
import KE.GoesEnum
import HandS.Lambda
import HandS.EndTab
import HandS.Deep
import KE.KeyNested
import KE.KDictWalk
import KE.KEqNest
import KE.KDictLaw
import HandS.SlotsOwn
import HandS.WordsDict
import HandS.Style
import KE.KRevSl
import HandS.Finally
import HandS.HeadWalk
import PySem.Challenge.RW_seatroads_k00_offices_made
set_option Elab.async false
set_option linter.all false
set_option maxRecDepth 100000
set_option maxHeartbeats 4000000
namespace Sr
open PySem PySem.Spec PyProof.Rows L2

/-- a def of the top that may be called: its promise, its name -/
structure Cal (P : Program) (w : World) (K : PySem.W.Frag) (mg : Str → Option Value) (base : Heap) (k : Nat) (x : Str) (ps : List Str) (sp : Sp) : Prop where
  ex : ∃ (f : Addr) (fd : FuncData), FnOk P w K mg base CX0 k f fd ps sp ∧ mg x = some (.ref f) ∧ PySem.W.keepIn K (.ref f) = true ∧ Binds K fd ps []

theorem pe_cal {X : Cx} {k k' : Nat} {x : Str} {ps : List Str} {sp : Sp} {p pos : Pos} {e : Expr} {es : List Expr} {t : TA} (C : Cal X.prog X.w X.K X.mg X.base k x ps sp) (hr : Room k' X.A) (hk : k ≤ k') (hg : Gl X x) (ha : PA X (e :: es) t)
    (hdb : (x == ("__debug__" : Str)) = false := by decide) (he : starEach (e :: es) X.env = (false, eval e X.env) :: starEach es X.env := by rfl) (hpl : (backTo pos (starEach es X.env)).any (·.1) = false := by rfl) :
    PE X (.Call (.Name x p) (e :: es) [] pos) (tCall sp [] E0 t) := by
  obtain ⟨f, fd, F, hm, hkp, hb⟩ := C.ex
  exact pe_call F (hr.mono hk) hg hm hkp hb .nil pass0 ha hdb he hpl

/-- a def of the top as the head tells it -/
structure Dfn (K : PySem.W.Frag) (mg : Str → Option Value) (x : Str) (st : Stmt) : Prop where
  fn : ∃ fd, FunD K x x (defArgs st) (defBody st) (defScope st) [] [] (He.ga K x) fd
  at_ : mg x = some (.ref (He.ga K x))

theorem Dfn.cal {P : Program} {w : World} {K : PySem.W.Frag} {mg : Str → Option Value} {base : Heap} {x : Str} {st : Stmt} {N ps : List Str} {k : Nat} {sp : Sp} (D : Dfn K mg x st) (S : FnScope N ps (defScope st))
    (hb : ∀ (kV doc pm : Value) (an : Option Addr) (cdv ct : Value) (us : List Value), us.length = ps.length → bindArgs (PySem.W.fnOf x x (defArgs st) (defBody st) (defScope st) .none kV doc pm an cdv ct) ⟨us, []⟩ = pure (ps.zip us))
    (len : ∀ vs H Q E, sp vs H Q E → vs.length = ps.length)
    (body : ∀ (cdv : Value) (A : Around) (outer : List Env) (s : Shared) (H : Hp) (vs : List V) (Q : VK) (E : XK), Room k (A.deeper (envOfC x (defScope st) s.heap.objs.size (He.ga K x) cdv)) → sp vs H Q E →
      ∃ t, PSs (cxOf CX0 P w K mg base N x (defScope st) (He.ga K x) cdv A outer s H E).nox (defBody st) t ∧ t { nx := fun _ H' => Q .non H', rt := Q } (start N vs) H) :
    Cal P w K mg base (k + 1) x ps sp := by
  obtain ⟨fd, F⟩ := D.fn
  refine ⟨_, fd, F.ok S len fun cdv A outer s H vs Q E hr h => ?_, D.at_, F.kp, F.bindsN hb⟩
  obtain ⟨t, h1, h2⟩ := body cdv A outer s H vs Q E hr h
  exact ⟨t, PSs.nox h1, h2⟩

/-- a method of a class of the top -/
structure CalM (P : Program) (w : World) (K : PySem.W.Frag) (mg : Str → Option Value) (base : Heap) (CX : CXT) (k : Nat) (f : Addr) (ps : List Str) (sp : Sp) : Prop where
  ex : ∃ fd : FuncData, FnOk P w K mg base CX k f fd ps sp ∧ PySem.W.keepIn K (.ref f) = true ∧ Binds K fd ps []
/-- a method as the head tells it -/
structure DfnM (K : PySem.W.Frag) (c m qual : Str) (st : Stmt) : Prop where
  fn : ∃ fd, FunD K m qual (defArgs st) (defBody st) (defScope st) [] [] (He.fAd K (c, some m)) fd
theorem DfnM.cal {P : Program} {w : World} {K : PySem.W.Frag} {mg : Str → Option Value} {base : Heap} {c m qual : Str} {st : Stmt} {N ps : List Str} {k : Nat} {sp : Sp} (D : DfnM K c m qual st) (S : FnScope N ps (defScope st))
    (hb : ∀ (kV doc pm : Value) (an : Option Addr) (cdv ct : Value) (us : List Value), us.length = ps.length → bindArgs (PySem.W.fnOf m qual (defArgs st) (defBody st) (defScope st) .none kV doc pm an cdv ct) ⟨us, []⟩ = pure (ps.zip us))
    (len : ∀ vs H Q E, sp vs H Q E → vs.length = ps.length)
    (body : ∀ (cdv : Value) (A : Around) (outer : List Env) (s : Shared) (H : Hp) (vs : List V) (Q : VK) (E : XK), Room k (A.deeper (envOfC qual (defScope st) s.heap.objs.size (He.fAd K (c, some m)) cdv)) → sp vs H Q E →
      ∃ t, PSs (cxOf CX0 P w K mg base N qual (defScope st) (He.fAd K (c, some m)) cdv A outer s H E).nox (defBody st) t ∧ t { nx := fun _ H' => Q .non H', rt := Q } (start N vs) H) :
    CalM P w K mg base CX0 (k + 1) (He.fAd K (c, some m)) ps sp := by
  obtain ⟨fd, F⟩ := D.fn
  refine ⟨fd, F.ok S len fun cdv A outer s H vs Q E hr h => ?_, F.kp, F.bindsN hb⟩
  obtain ⟨t, h1, h2⟩ := body cdv A outer s H vs Q E hr h
  exact ⟨t, PSs.nox h1, h2⟩

/-- x in o, o an instance whose class says __contains__ -/
structure Has (K : PySem.W.Frag) (C f : Addr) : Prop where
  at_ : PySem.W.findIn K (.ref C) "__contains__" = some (some (.ref f))
  ty : PySem.W.typeIn K (.ref f) = some (.type "function")
def rInOwn (C : Addr) (sp : Sp) (E : XK) (neg : Bool) : R2 := fun x y H Q => ∃ a dx fs, y = .ref a ∧ H a = some (.ins C dx fs) ∧ sp [y, x] H (fun v H' => ∃ b, v = .bl b ∧ Q (.bl (if neg then !b else b)) H') E

theorem own_in {X : Cx} {CX : CXT} {k : Nat} {C f : Addr} {fd : FuncData} {ps : List Str} {sp : Sp} {E : XK} (F : FnOk X.prog X.w X.K X.mg X.base CX k f fd ps sp) (hr : Room k X.A) (hs : Has X.K C f) (hb : Binds X.K fd ps []) (hx : Passes CX X E)
    {pins : List (Addr × Obj)} {s : Shared} {σ : L2.St} {H : Hp} {x y : V} {v u : Value} {Q : Bool → Shared → Prop} (I : Inv X pins σ H s) (rx : RelV x v) (ry : RelV y u)
    (h : ∃ a dx fs, y = .ref a ∧ H a = some (.ins C dx fs) ∧ sp [y, x] H (fun v H' => ∃ b, v = .bl b ∧ ∀ s', Inv X pins σ H' s' → Q b s') E) :
    wpAny (model X.prog X.w) X.A (contains u v) Q X.xe s := by
  obtain ⟨a, dx, fs, rfl, ha, hsp⟩ := h
  cases ry
  obtain ⟨mA, J, _⟩ := ins_get I.hok ha
  obtain ⟨od, J, _⟩ := J.look
  unfold contains
  refine wpAny_holding ?_
  rw [stdlibNamesSay?_ref]
  refine wpAny_bind ?_
  unfold specialOf
  refine wpAny_bind (J.type.here ?_)
  refine (PySem.W.looks_findIn I.kIn hs.at_).here ?_
  show wpAny _ _ (if (some (Value.ref f) == some Value.none) = true then _ else _) _ _ _
  rw [if_neg (by simp)]
  refine wpAny_bind ?_
  unfold callSpecialUnlessNone?
  refine wpAny_bind ?_
  unfold specialOf
  refine wpAny_bind (J.type.here ?_)
  refine (PySem.W.looks_findIn I.kIn hs.at_).here ?_
  refine wpAny_holding ?_
  refine wpAny_bind ((PySem.W.bind_fn I.kIn (.ref a) hs.ty).here ?_)
  show wpAny _ _ (if (Value.ref f == Value.none) = true then _ else _) _ _ _
  rw [if_neg (by simp)]
  refine wpAny_bind ?_
  have r2 : Vals [V.ref a, x] [Value.ref a, v] := .cons rfl (.cons rx .nil)
  refine thn (run_fn (dvs := []) (ds := []) F hr hb .nil hx I r2 hsp) fun r s1 hq => ?_
  obtain ⟨z, H1, I1, rz, b, ez, hb1⟩ := hq
  subst ez
  obtain rfl : r = Value.bool b := rz
  exact wpAny_pure (wpAny_truthy_bool (hb1 s1 I1))

theorem op_inOwn {X : Cx} {CX : CXT} {k : Nat} {C f : Addr} {fd : FuncData} {ps : List Str} {sp : Sp} {E : XK} (F : FnOk X.prog X.w X.K X.mg X.base CX k f fd ps sp) (hr : Room k X.A) (hs : Has X.K C f) (hb : Binds X.K fd ps []) (hx : Passes CX X E)
    (hm : ∀ x y H Q Q' E, (∀ v H', Q v H' → Q' v H') → sp [x, y] H Q E → sp [x, y] H Q' E) :
    OpR X (compareOp .In) (rInOwn C sp E false) := by
  intro pins s σ H x y v u Q I rx ry h
  obtain ⟨a, dx, fs, e, ha, hsp⟩ := h
  show wpAny _ _ (do return Value.bool (← contains u v)) _ _ _
  refine wpAny_bind (own_in F hr hs hb hx (Q := fun b s' => wpAny (model X.prog X.w) X.A (pure (Value.bool b)) (EP X pins σ Q) X.xe s') I rx ry ⟨a, dx, fs, e, ha, hm _ _ _ _ _ _ (fun z H' hz => ?_) hsp⟩)
  obtain ⟨b, rfl, hq⟩ := hz
  exact ⟨b, rfl, fun s' I' => wpAny_pure ⟨.bl b, H', I', rfl, hq⟩⟩
theorem op_has {X : Cx} {k k' : Nat} {C f : Addr} {ps : List Str} {sp : Sp} (M : CalM X.prog X.w X.K X.mg X.base CX0 k f ps sp) (hr : Room k' X.A) (hk : k ≤ k') (hs : Has X.K C f)
    (hm : ∀ x y H Q Q' E, (∀ v H', Q v H' → Q' v H') → sp [x, y] H Q E → sp [x, y] H Q' E) : OpR X (compareOp .In) (rInOwn C sp E0 false) := by
  obtain ⟨fd, F, _, hb⟩ := M.ex
  exact op_inOwn F (hr.mono hk) hs hb pass0 hm
end Sr

set_option Elab.async false
set_option linter.all false
set_option maxRecDepth 100000
set_option maxHeartbeats 4000000
namespace Sr
open PySem PySem.Spec PyProof.Rows L2
open PySem.SeqAt
/-! ### set(texts): how many unlike ones -/
/-- the unlike texts among the first i, in the order in which they are met -/
def met (xs : List Str) : Nat → List Str
  | 0 => []
  | i + 1 => if (met xs i).any (· == xs.getD i Str.empty) = true then met xs i else met xs i ++ [xs.getD i Str.empty]
theorem met_le (xs : List Str) : ∀ i, (met xs i).length ≤ i
  | 0 => Nat.le_refl _
  | i + 1 => by
    have := met_le xs i
    unfold met
    split
    · omega
    · rw [List.length_append]; simp; omega
theorem met_any (xs : List Str) (i : Nat) (k : Str) : ((met xs i).any (· == k) || decide (k = xs.getD i Str.empty)) = (met xs (i + 1)).any (· == k) := by
  show _ = (if (met xs i).any (· == xs.getD i Str.empty) = true then met xs i else met xs i ++ [xs.getD i Str.empty]).any (· == k)
  split
  · rename_i h
    by_cases e : k = xs.getD i Str.empty
    · rw [e, h]; rfl
    · rw [decide_eq_false e, Bool.or_false]
  · rw [List.any_append]
    by_cases e : k = xs.getD i Str.empty
    · subst e; simp
    · rw [decide_eq_false e]
      have : (xs.getD i Str.empty == k) = false := by
        rw [beq_eq_false_iff_ne]; exact fun z => e z.symm
      simp only [List.any_cons, List.any_nil, this, Bool.or_false]
theorem met_len (xs : List Str) (i : Nat) : (if ((met xs i).any (· == xs.getD i Str.empty)) = true then (met xs i).length else (met xs i).length + 1) = (met xs (i + 1)).length := by
  show _ = (if (met xs i).any (· == xs.getD i Str.empty) = true then met xs i else met xs i ++ [xs.getD i Str.empty]).length
  split <;> rename_i h
  · rfl
  · rw [List.length_append]; rfl
abbrev nset (led : Bool) : Obj := { cls := .type "set", dict := none, data := .set #[] 0 (.fresh 0 0 led) }
section
variable {prog : Program} {w : World} {A : Around} {R : Result → Shared → Prop} {I : Addr} {fp wr : List Addr} {G : Array GenState → Array GenState → Prop} {n : Nat} {P : Nat → Value → Prop} {Stt : Nat → Shared → Prop}
theorem texts_loop (W : WalksS prog w A.in1 I fp wr G n P Stt) (S : Addr) (hSf : S ∉ fp) (xs : List Str) (hv : ∀ i v, P i v → ∃ t, v = .str (xs.getD i Str.empty) t) (hb : n + 1 < scanBound) (d : Nat) :
    ∀ (i : Nat) (s : Shared), n = i + d → Stt i s → s.heap.SetOf (PySem.strKind prog w) S (fun k => (met xs i).any (· == k)) (met xs i).length →
      (∀ s', Moved (S :: wr) G s s' → s'.heap.SetOf (PySem.strKind prog w) S (fun k => (met xs n).any (· == k)) (met xs n).length → R (.ok (.ret .none)) s') →
      codeAny (model prog w) A (.builtin "set.update.loop" ⟨[.ref S, .ref I], []⟩) R s := by
  have out : S ∉ wr := fun h => hSf (W.sub _ h)
  have more : ∀ b ∈ wr, b ∈ S :: wr := fun b h => List.mem_cons_of_mem _ h
  have moves : ∀ (s s' : Shared) (i : Nat), Moved wr G s s' → s.heap.SetOf (PySem.strKind prog w) S (fun k => (met xs i).any (· == k)) (met xs i).length →
      s'.heap.SetOf (PySem.strKind prog w) S (fun k => (met xs i).any (· == k)) (met xs i).length := fun s s' i hm ⟨o, es, ep, t, ho, r⟩ => ⟨o, es, ep, t, hm.heap S _ out ho, r⟩
  induction d with
  | zero =>
    intro i s hd hs hS hR
    obtain rfl : n = i := hd
    refine codeAny_builtin PyProof.Rows.F.entry_set_update_loop ?_
    rw [Around.under_plainId PyProof.Rows.F.plain_set_update_loop _]
    show wpAny _ A.in1 (pyNext (.ref I) >>= _) _ _ s
    refine wpAny_bind (W.done s _ _ hs fun s' hm => ?_)
    show wpAny _ A.in1 (ret Value.none) _ _ s'
    exact wpAny_pure (hR s' (hm.mono more) (moves s s' _ hm hS))
  | succ d ih =>
    intro i s hd hs hS hR
    have lt : i < n := by omega
    refine codeAny_builtin PyProof.Rows.F.entry_set_update_loop ?_
    rw [Around.under_plainId PyProof.Rows.F.plain_set_update_loop _]
    show wpAny _ A.in1 (pyNext (.ref I) >>= _) _ _ s
    refine wpAny_bind (W.item i s _ _ lt hs fun v s' hP hs' hm => ?_)
    obtain ⟨t, rfl⟩ := hv i v hP
    have hS' := moves s s' i hm hS
    show wpAny _ A.in1 (holding [Value.str (xs.getD i Str.empty) t] (setAdd S _) >>= _) _ _ s'
    refine wpAny_bind (wpAny_holding ?_)
    unfold setAdd
    refine wpAny_holding (wpAny_bind ((PySem.strKind prog w).pyHash (k := xs.getD i Str.empty) (strKind_is _ _ _ _) ?_))
    have room : (met xs i).length + 1 < scanBound := by have := met_le xs i; omega
    refine wpAny_setAddHashed_of (knd := PySem.strKind prog w) (s := { s' with toks := s'.toks + 1 }) (strKind_is _ _ _ _) rfl hS' room fun h' hsb hS2 => ?_
    have hS3 : h'.SetOf (PySem.strKind prog w) S (fun k => (met xs (i + 1)).any (· == k)) (met xs (i + 1)).length :=
      PyProof.Rows.SetOf_congr hS2 (fun k => met_any xs i k) (met_len xs i)
    refine wpAny_pure ⟨plainId_quiet PyProof.Rows.F.plain_set_update_loop _, ih (i + 1) _ (by omega) (W.frame _ s' _ _ hs' (Nat.le_succ _) fun b hb o e => ?_) hS3 fun s2 hm2 hS4 => ?_⟩
    · rw [hsb.2 b (fun h : b = S => hSf (by rw [← h]; exact hb))]
      exact e
    · refine hR s2 (Moved.trans W.gtrans ((hm.mono more).then_heap (Nat.le_succ _) fun b o hb e => ?_) hm2) hS4
      rw [hsb.2 b (fun h : b = S => hb (by rw [h]; exact List.mem_cons_self))]
      exact e
end
/-- what set(l) leaves -/
def SetOut (prog : Program) (w : World) (s : Shared) (xs : List Str) (n : Nat) (h' : Heap) : Prop :=
  h'.SetOf (PySem.strKind prog w) s.heap.objs.size (fun k => (met xs n).any (· == k)) (met xs n).length ∧ ∀ b o, b < s.heap.objs.size → s.heap.get? b = some o → h'.get? b = some o
section
variable {prog : Program} {w : World} {A : Around} {E : Value → Shared → Prop} {s : Shared}
theorem texts_set {l : Addr} {items : Array Value} {xs : List Str} {Q : Value → Shared → Prop} {ty : String} {walk : Obj} {wr : List Addr} {G : Array GenState → Array GenState → Prop} {Stt : Nat → Shared → Prop}
    (hl : s.heap.get? l ≠ none) (hi : PyProof.Rows.StrsAre items.toList xs) (hb : items.size + 1 < scanBound)
    (e1 : isSubtype (.type ty) (.type "set") = pure false) (e2 : isSubtype (.type ty) (.type "frozenset") = pure false) (e3 : (Value.type ty == Value.type "dict") = false)
    (hty : ∀ led, Shared.TypeIs { s with heap := s.heap.push (nset led) } (.ref l) ty)
    (hit : ∀ (led : Bool) (A : Around) (Q : Value → Shared → Prop) (E : Value → Shared → Prop), (∀ s' : Shared, s' = { s with heap := (s.heap.push (nset led)).push walk } → Q (.ref (s.heap.objs.size + 1)) s') → wpAny (model prog w) A (pyIter (.ref l)) Q E { s with heap := s.heap.push (nset led) })
    (hW : WalksS prog w A.in1.in1.in1 (s.heap.objs.size + 1) [s.heap.objs.size + 1, l] wr G items.size (fun i v => items[i]? = some v) Stt)
    (hG : ∀ a b, G a b → b = a)
    (hwr : ∀ b ∈ wr, b = s.heap.objs.size + 1)
    (hst : ∀ led, Stt 0 { s with heap := (s.heap.push (nset led)).push walk })
    (h : ∀ (h' : Heap) (tk : Nat), SetOut prog w s xs items.size h' → Q (.ref s.heap.objs.size) { s with heap := h', toks := tk }) :
    wpAny (model prog w) A (call (.type "set") [.ref l]) Q E s := by
  have lt : l < s.heap.objs.size := by
    cases e : s.heap.get? l with
    | none => exact absurd e hl
    | some o => exact Heap.lt_size e
  obtain ⟨c, tl, hmro⟩ := PySem.F.called_set.mro
  have a1 := PySem.F.called_set.made
  have a2 := PySem.F.called_set.sub
  have a3 := PySem.F.called_set.notType
  have a4 := PySem.F.called_set.canCreate
  have a5 := PySem.F.typeCall_set_1 (.ref l)
  refine wpAny_call (codeAny_of_tree ?_)
  show wpAny _ _ (callAny (.type "set") _) _ _ _
  refine wpAny_pure ⟨Code.quiet_builtin _ (by decide +kernel), codeAny_builtin PySem.F.entry_type_call ?_⟩
  rw [Around.under_plain (weight_type_call_type "set" [.ref l] []) rfl]
  repeat (any_goals (first | assumption | wp_step))
  refine codeAny_mono (code_set_new_1 (.ref l) (E := E) (Q₁ := fun obj t => ∃ led : Bool, obj = .ref s.heap.objs.size ∧ t = { s with heap := s.heap.push (nset led) }) fun led => ⟨led, rfl, rfl⟩) fun r t hr => ?_
  cases r with
  | error e => exact hr
  | ok fl =>
    cases fl with
    | ret obj =>
      obtain ⟨led, rfl, rfl⟩ := hr
      have b1 : (s.heap.push (nset led)).get? s.heap.objs.size = some (nset led) := Heap.get?_push_size _ rfl
      have b2 : Shared.TypeIs { s with heap := s.heap.push (nset led) } (.ref s.heap.objs.size) "set" := ⟨_, b1, rfl⟩
      have b3 := PySem.F.called_set.init.lookup
      have b4 := PySem.F.called_set.init.bind (.ref s.heap.objs.size)
      repeat (any_goals (first | assumption | wp_step))
      refine codeAny_mono (codeAny_call_builtin (R := wants (fun r t => r = .none ∧ ∃ h' tk, t = { s with heap := h', toks := tk } ∧ SetOut prog w s xs items.size h') E) PySem.F.called_set.init.plain PySem.F.entry_set_init (check_set_init_1 b2 ?_)) fun r t hr => ?_
      · have c1 := hty led
        unfold Builtin.«set.__init__» noKeywords Builtin.Frozenset.updateFrom
        generalize hPI : pyIter = PI
        wp_walk
        subst hPI
        refine hit led _ _ _ fun s' e => ?_
        subst e
        refine wpAny_bind (wpAny_runValue ?_)
        have nS : s.heap.objs.size ∉ [s.heap.objs.size + 1, l] := fun z => by
          rcases List.mem_cons.mp z with z | z
          · exact Nat.ne_of_lt (Nat.lt_succ_self _) z
          · exact Nat.ne_of_gt lt (List.mem_singleton.mp z)
        have hsz : xs.length = items.size := by rw [← PyProof.Rows.StrsAre.len_eq hi, Array.length_toList]
        have hS0 : ((s.heap.push (nset led)).push walk).SetOf (PySem.strKind prog w) s.heap.objs.size (fun k => (met xs 0).any (· == k)) (met xs 0).length := by
          have g : ((s.heap.push (nset led)).push walk).get? s.heap.objs.size = some (nset led) := Heap.get?_push_of_some _ b1
          exact PyProof.Rows.SetOf_congr ((PyProof.Rows.setObjOf_fresh (knd := PySem.strKind prog w) led).setOf g (by unfold scanBound; omega)) (fun _ => rfl) rfl
        refine texts_loop hW s.heap.objs.size nS xs (fun i v hv => SS.strs_at hi i v (by rw [Array.getElem?_toList]; exact hv)) hb items.size 0 _ (by omega) (hst led) hS0 fun s' hm hS' => ?_
        obtain ⟨h', g', d', tk', os'⟩ := s'
        obtain rfl : g' = s.gens := hG _ _ hm.gens
        obtain rfl : d' = s.drawn := hm.drawn
        obtain rfl : os' = s.os := hm.os
        show wpAny _ _ _ _ _ _
        refine wpAny_pure ?_
        show wpAny _ _ (ret Value.none) _ _ _
        refine wpAny_pure ⟨rfl, h', tk', rfl, hS', fun b o hb e => ?_⟩
        refine hm.heap b o ?_ (Heap.get?_push_of_some _ (Heap.get?_push_of_some _ e))
        intro z
        rcases List.mem_cons.mp z with z | z
        · exact Nat.ne_of_lt hb z
        · exact Nat.ne_of_lt (Nat.lt_succ_of_lt hb) (hwr b z)
      · cases r with
        | error e => exact hr
        | ok fl =>
          cases fl with
          | ret r =>
            obtain ⟨rfl, h', tk, rfl, o⟩ := hr
            repeat (any_goals (first | assumption | wp_step))
            exact h _ _ o
          | _ => exact hr.elim
    | _ => exact hr.elim
end

end Sr

set_option Elab.async false
set_option linter.all false
set_option maxRecDepth 100000
set_option maxHeartbeats 4000000
namespace Sr
open PySem PySem.Spec PyProof.Rows L2
open PySem.SeqAt

section
variable {X : Cx}
def tLenSetT (K : PySem.W.Frag) (ta : TE) : TE := fun σ H Q => ta σ H fun x H1 => ∃ (l : Addr) (xs : List Str), x = .ref l ∧ (SqL K H1 l (xs.map V.str) ∨ SqT K H1 l (xs.map V.str)) ∧ xs.length ≤ 60 ∧ Q (.int (met xs xs.length).length) H1
theorem pe_lenSetT {a : Expr} {ta : TE} {p p2 q pos : Pos} (hc : X.calm = true) (hg : Gl X "len") (hm : X.mg "len" = none) (hg2 : Gl X "set") (hm2 : X.mg "set" = none) (ha : PE X a ta)
    (na : starEach [a] X.env = (false, eval a X.env) :: starEach [] X.env := by rfl) : PE X (.Call (.Name "len" p) [.Call (.Name "set" p2) [a] [] q] [] pos) (tLenSetT X.K ta) := by
  refine ⟨fun pins s σ H Q I h => ?_⟩
  refine Call_ (ld_blt I hg hm boot_len ?_)
  refine PyProof.Rows.callWith_builtin1 (PyProof.Rows.args_cons ?_ rfl) rfl rfl
  refine Call_ (ld_blt (u := .type "set") I hg2 hm2 (by decide +kernel) ?_)
  refine PyProof.Rows.callWith_type1 (PyProof.Rows.args_cons (thn (ha.run pins s σ H _ I h) fun v s1 ⟨x, H1, I1, r1, q1⟩ => PyProof.Rows.args_nil ?_) na) na rfl
  obtain ⟨l, xs, rfl, hq, h1, q1⟩ := q1
  cases r1
  have fin : ∀ (its : List Value), Vals (xs.map V.str) its → ∀ (h' : Heap) (tk : Nat), SetOut X.prog X.w s1 xs its.toArray.size h' →
      wpAny (model X.prog X.w) X.A (spliced (backTo pos (starEach [] X.env))) (fun vs s₂ => wpAny (model X.prog X.w) X.A (call (.builtin "len") (Value.ref s1.heap.objs.size :: vs)) (EP X pins σ Q) X.xe s₂) X.xe { s1 with heap := h', toks := tk } := fun its r h' tk ⟨hS, hk⟩ => by
    refine PyProof.Rows.args_nil ?_
    have hl : its.toArray.size = xs.length := by rw [List.size_toArray, ← r.length, List.length_map]
    rw [hl] at hS
    have := met_le xs xs.length
    obtain ⟨o, es, ep, t, ho, hex, hd, _, _, _, hf, hn⟩ := hS
    have I2 : Inv X pins σ H1 { s1 with heap := h', toks := tk } := I1.kept fun b o e => hk b o (Heap.lt_size e) e
    exact call_len_set ho hex hd hf (by rw [hn] <;> omega) ⟨.int _, H1, I2.tok _, ⟨_, by rw [hn]⟩, q1⟩
  have zz : ∀ its : List Value, Vals (xs.map V.str) its → its.toArray.size + 1 < scanBound := fun its r => by
    rw [List.size_toArray, ← r.length, List.length_map]; unfold scanBound; omega
  have lts : ∀ {o : Obj}, s1.heap.get? l = some o → l < s1.heap.objs.size := fun e => Heap.lt_size e
  have hh : ∀ A : Around, A.handled = none → A.in1.in1.in1.handled = none := fun A h => by simp [h]
  have g2 : ∀ (led : Bool) (o : Obj) (ho : o.isFreed = false), ((s1.heap.push (nset led)).push o).get? (s1.heap.objs.size + 1) = some o := fun led o ho => by
    have e := Heap.get?_push_size (s1.heap.push (nset led)) ho
    rwa [Heap.size_push] at e
  have it : ∀ (led : Bool) (o : Obj) (Q : Value → Shared → Prop), (∀ s' : Shared, s' = { s1 with heap := (s1.heap.push (nset led)).push o } → Q (.ref (s1.heap.objs.size + 1)) s') → Q (.ref (s1.heap.push (nset led)).objs.size) { s1 with heap := (s1.heap.push (nset led)).push o } := fun led o Q k => by
    rw [Heap.size_push]
    exact k _ rfl
  rcases hq with hq | hq
  · obtain ⟨its, r, pl, hz⟩ := I1.list hq
    obtain ⟨ol, e, ec, nn, ed⟩ := pl.isList
    have il : s1.heap.IsList l its.toArray := ⟨ol, e, ec, nn, ed⟩
    have ne : l ≠ s1.heap.objs.size + 1 := Nat.ne_of_lt (Nat.lt_succ_of_lt (lts e))
    exact texts_set (ty := "list") (walk := { cls := .type "list_iterator", data := .fields #[.ref l, .int 0 0] }) (by rw [e]; simp) (by simpa using strsAre_of r) (zz its r) PySem.F.sub_list_set PySem.F.sub_list_frozenset (by decide) (fun led => ⟨_, Heap.get?_push_of_some _ e, ec⟩)
      (fun led A Q E k => wpAny_pyIter_list (il.push _) (it led _ Q k)) ((Walks.list (hh _ (I1.ok.hd hc)) _ l ne its.toArray).toS) (fun a b e => e) (fun b hb => List.mem_singleton.mp hb) (fun led => ⟨⟨_, g2 led _ rfl, rfl, rfl⟩, (il.push _).push _⟩) fun h' tk o => fin its r h' tk o
  · obtain ⟨its, r, pl, hz⟩ := I1.tuple hq
    have il : s1.heap.IsTuple l its.toArray := pl
    obtain ⟨ol, e, ec, nn, ed⟩ := pl
    have ne : l ≠ s1.heap.objs.size + 1 := Nat.ne_of_lt (Nat.lt_succ_of_lt (lts e))
    exact texts_set (ty := "tuple") (walk := { cls := .type "tuple_iterator", data := .fields #[.ref l, .int 0 0] }) (by rw [e]; simp) (by simpa using strsAre_of r) (zz its r) PySem.F.sub_tuple_set PySem.F.sub_tuple_frozenset (by decide) (fun led => ⟨_, Heap.get?_push_of_some _ e, ec⟩)
      (fun led A Q E k => wpAny_pyIter_tuple (il.push _) (it led _ Q k)) ((Walks.tuple (hh _ (I1.ok.hd hc)) _ l ne its.toArray).toS) (fun a b e => e) (fun b hb => List.mem_singleton.mp hb) (fun led => ⟨⟨_, g2 led _ rfl, rfl, rfl⟩, (il.push _).push _⟩) fun h' tk o => fin its r h' tk o
end
end Sr

set_option Elab.async false
set_option linter.all false
set_option maxRecDepth 100000
set_option maxHeartbeats 4000000
namespace Sr
open PySem PySem.Spec PyProof.Rows L2
/-! ### list(d.values()) -/
def tListValues (te : TE) : TE := fun σ H Q => te σ H fun x H1 => ∃ d kvs, x = .ref d ∧ H1 d = some (.dK kvs) ∧ ∀ p, H1 p = none → Q (.ref p) (upd H1 p (.lst (kvs.map (·.2))))
theorem vals_of_kv : ∀ {kvs : List (Key × V)} {vs : List (Key × Value)}, KV kvs vs → Vals (kvs.map (·.2)) (vs.map (·.2))
  | _, _, .nil => .nil
  | _, _, .cons h t => .cons h.2 (vals_of_kv t)
theorem pe_listValues {X : Cx} {e : Expr} {te : TE} {p apos cpos pos : Pos} (hg : Gl X "list") (hm : X.mg "list" = none) (he : PE X e te) (hc : X.calm = true := by rfl) (hbase : attributeBase e "values" X.env (eval e X.env) = eval e X.env := by rfl) (hline : (apos.endLine == cpos.line) = true := by rfl)
    (hs : starEach [.Call (.Attribute e "values" apos) [] [] cpos] X.env = (false, eval (.Call (.Attribute e "values" apos) [] [] cpos) X.env) :: starEach [] X.env := by rfl) :
    PE X (.Call (.Name "list" p) [.Call (.Attribute e "values" apos) [] [] cpos] [] pos) (tListValues te) := by
  refine ⟨fun pins s σ H Q I hq => ?_⟩
  refine wpAny_Call_Name_kw (ld_blt (u := .type "list") I hg hm (by decide +kernel) ?_)
  refine PyProof.Rows.callWith_type1 ?_ hs rfl
  rw [hs]
  show wpAny _ _ (spliced ((false, eval (.Call (.Attribute e "values" apos) [] [] cpos) X.env) :: backTo pos (starEach [] X.env))) _ _ s
  refine Calls.spliced_cons ?_
  refine wpAny_Call_method (T := "dict") (id := "dict.values") hbase rfl hline F.plainAttrs_dict F.slot_dict_values F.type_dict_values (thn (he.run pins s σ H _ I hq) fun u s1 ⟨x, H1, I1, rx, d, kvs, ex, hd, q⟩ => ?_)
  subst ex
  obtain rfl : u = Value.ref d := rx
  obtain ⟨hz, hs0, vs, kv, hdo⟩ := I1.hok d _ hd
  obtain ⟨ep, hat⟩ := hdo.dictAt
  have lk : kvs.length = vs.length := Paired.length kv
  have I2 : Inv X pins σ H1 { s1 with heap := s1.heap.push { cls := .type "dict_values", data := .fields #[.ref d] } } := I1.kept (t' := s1.toks) fun b ob q => Heap.get?_push_of_some _ q
  refine ⟨hdo.typeIs, hdo.mapOf.noDict, ?_⟩
  show wpAny _ _ (callWith cpos (.builtin "dict.values") [.ref d] [] []) _ X.xe s1
  refine method_meetsIn F.slot_dict_values F.entry_dict_values rfl (PySem.evalArgs_none ⟨rfl, hdo.typeIs, F.args_dict_values_1 _, _, meets_dict_values (mixKind X.prog X.w) d hs0, ⟨vs, hdo⟩, ?_⟩)
  refine Calls.spliced_nil ?_
  refine PySem.W.kdl_call (PySem.W.kdl_values (knd := mixKind X.prog X.w) (kvs := vs) (ep := ep) (d := d) (r := s1.heap.objs.size)) (I1.ok.hd hc) ⟨⟨_, Heap.get?_push_size _ rfl, rfl, rfl⟩, hat.push _⟩ (by omega) fun h' tk acc c hk hS hacc => ?_
  have ev : acc.toList = vs.map (·.2) := PySem.W.kdl_vals_eq _ (by rw [Array.length_toList]; exact hacc.1) fun j v e => hacc.2 j v (by rw [← Array.getElem?_toList]; exact e)
  have hv : Vals (kvs.map (·.2)) acc.toList := by rw [ev]; exact vals_of_kv kv
  exact ⟨.ref _, _, I2.laid (t' := tk) hk (Nat.le_refl _) (show ObjOk X.prog X.w _ _ _ (.lst (kvs.map (·.2))) from ⟨by rw [List.length_map]; exact hz, acc.toList, c, hv, by rw [Array.toArray_toList]; exact hS⟩), rfl, q _ (I2.hok.fresh (Nat.le_refl _))⟩
end Sr

set_option Elab.async false
set_option linter.all false
set_option maxRecDepth 100000
set_option maxHeartbeats 4000000
namespace Sr
open PySem PySem.Spec PyProof.Rows L2
/-! ### data as they are passed about -/
inductive Dt where
  | non | bl (b : Bool) | int (i : Int) | str (s : Str) | lst (l : List Dt) | tup (l : List Dt) | dic
mutual
/-- v stands for d in the heap H -/
inductive Is (H : Hp) : V → Dt → Prop
  | non : Is H .non .non
  | bl (b : Bool) : Is H (.bl b) (.bl b)
  | int (i : Int) : Is H (.int i) (.int i)
  | str (s : Str) (h : s.length ≤ 1000) : Is H (.str s) (.str s)
  | lst {a : Addr} {xs : List V} {ds : List Dt} : H a = some (.lst xs) → IsA H xs ds → xs.length ≤ 60 → Is H (.ref a) (.lst ds)
  | tup {a : Addr} {xs : List V} {ds : List Dt} : H a = some (.tup xs) → IsA H xs ds → xs.length ≤ 60 → Is H (.ref a) (.tup ds)
  | dic {a : Addr} {kvs : List (Key × V)} : H a = some (.dK kvs) → Is H (.ref a) .dic
inductive IsA (H : Hp) : List V → List Dt → Prop
  | nil : IsA H [] []
  | cons {v : V} {vs : List V} {d : Dt} {ds : List Dt} : Is H v d → IsA H vs ds → IsA H (v :: vs) (d :: ds)
end
mutual
theorem Is.mono {H H' : Hp} (e : Same H H') : ∀ {v : V} {d : Dt}, Is H v d → Is H' v d
  | _, _, .non => .non
  | _, _, .bl b => .bl b
  | _, _, .int i => .int i
  | _, _, .str s h => .str s h
  | _, _, .lst h r z => .lst (e _ _ h) (IsA.mono e r) z
  | _, _, .tup h r z => .tup (e _ _ h) (IsA.mono e r) z
  | _, _, .dic h => .dic (e _ _ h)
theorem IsA.mono {H H' : Hp} (e : Same H H') : ∀ {vs : List V} {ds : List Dt}, IsA H vs ds → IsA H' vs ds
  | _, _, .nil => .nil
  | _, _, .cons h r => .cons (Is.mono e h) (IsA.mono e r)
end
theorem IsA.len {H : Hp} : ∀ {vs : List V} {ds : List Dt}, IsA H vs ds → vs.length = ds.length
  | _, _, .nil => rfl
  | _, _, .cons _ r => congrArg (· + 1) (IsA.len r)
theorem IsA.get {H : Hp} : ∀ {vs : List V} {ds : List Dt} {i : Nat} {v : V}, IsA H vs ds → vs[i]? = some v → ∃ d, ds[i]? = some d ∧ Is H v d
  | _, _, _, _, .nil, e => by simp at e
  | _, _, 0, _, .cons h _, e => by simp at e; subst e; exact ⟨_, rfl, h⟩
  | _, _, i + 1, v, .cons _ r, e => by
    obtain ⟨d, h1, h2⟩ := IsA.get (i := i) (v := v) r (by simpa using e)
    exact ⟨d, by simpa using h1, h2⟩
theorem IsA.app {H : Hp} : ∀ {xs ys : List V} {ds es : List Dt}, IsA H xs ds → IsA H ys es → IsA H (xs ++ ys) (ds ++ es)
  | _, _, _, _, .nil, s => s
  | _, _, _, _, .cons h r, s => .cons h (IsA.app r s)
theorem IsA.take {H : Hp} : ∀ {xs : List V} {ds : List Dt} (n : Nat), IsA H xs ds → IsA H (xs.take n) (ds.take n)
  | _, _, 0, _ => by simp; exact .nil
  | _, _, _ + 1, .nil => .nil
  | _, _, n + 1, .cons h r => .cons h (IsA.take n r)
theorem IsA.drop {H : Hp} : ∀ {xs : List V} {ds : List Dt} (n : Nat), IsA H xs ds → IsA H (xs.drop n) (ds.drop n)
  | _, _, 0, r => r
  | _, _, _ + 1, .nil => .nil
  | _, _, n + 1, .cons _ r => IsA.drop n r
/-- the name of the type -/
def tyN : Dt → String
  | .non => "NoneType" | .bl _ => "bool" | .int _ => "int" | .str _ => "str" | .lst _ => "list" | .tup _ => "tuple" | .dic => "dict"
theorem Is.ty {K : PySem.W.Frag} {H : Hp} {v : V} {d : Dt} (h : Is H v d) : TyX K H v (.type (tyN d)) := by
  cases h with
  | non => exact .base .non
  | bl b => exact .base (.bl b)
  | int i => exact .base (.int i)
  | str s h => exact .base (.str s)
  | lst h r z => exact .base (.lst h)
  | tup h r z => exact .base (.tup h)
  | dic h => exact .base (.dK h)
def isSeq : Dt → Bool
  | .lst _ => true
  | .tup _ => true
  | _ => false
def isStr : Dt → Bool
  | .str _ => true
  | _ => false
def isInt : Dt → Bool
  | .int _ => true
  | .bl _ => true
  | _ => false
def isBl : Dt → Bool
  | .bl _ => true
  | _ => false
theorem kit_two {K : PySem.W.Frag} {t c1 c2 : Value} {a b : Bool} (h1 : PySem.W.kitOne K t c1 = some a) (h2 : PySem.W.kitOne K t c2 = some b) : PySem.W.kitAny K t [c1, c2] = some (a || b) := by
  refine kitAny_cons h1 (fun e => kitAny_cons h2 (fun e2 => ?_) fun e2 => ?_) fun e => ?_
  · rw [e, e2]; rfl
  · rw [e, e2]; rfl
  · rw [e]; rfl
def isLst : Dt → Bool
  | .lst _ => true
  | _ => false
def isTup : Dt → Bool
  | .tup _ => true
  | _ => false
theorem kit_list (K : PySem.W.Frag) : ∀ d : Dt, PySem.W.kitOne K (.type (tyN d)) (.type "list") = some (isLst d)
  | .non => kit_ty (show kitB "NoneType" "list" = some false by decide +kernel)
  | .bl b => kit_ty (show kitB "bool" "list" = some false by decide +kernel)
  | .int i => kit_ty (show kitB "int" "list" = some false by decide +kernel)
  | .str s => kit_ty (show kitB "str" "list" = some false by decide +kernel)
  | .lst l => kit_ty (show kitB "list" "list" = some true by decide +kernel)
  | .tup l => kit_ty (show kitB "tuple" "list" = some false by decide +kernel)
  | .dic => kit_ty (show kitB "dict" "list" = some false by decide +kernel)
theorem kit_tuple (K : PySem.W.Frag) : ∀ d : Dt, PySem.W.kitOne K (.type (tyN d)) (.type "tuple") = some (isTup d)
  | .non => kit_ty (show kitB "NoneType" "tuple" = some false by decide +kernel)
  | .bl b => kit_ty (show kitB "bool" "tuple" = some false by decide +kernel)
  | .int i => kit_ty (show kitB "int" "tuple" = some false by decide +kernel)
  | .str s => kit_ty (show kitB "str" "tuple" = some false by decide +kernel)
  | .lst l => kit_ty (show kitB "list" "tuple" = some false by decide +kernel)
  | .tup l => kit_ty (show kitB "tuple" "tuple" = some true by decide +kernel)
  | .dic => kit_ty (show kitB "dict" "tuple" = some false by decide +kernel)
theorem kit_seq (K : PySem.W.Frag) (d : Dt) : PySem.W.kitAny K (.type (tyN d)) [.type "list", .type "tuple"] = some (isSeq d) := by
  rw [kit_two (kit_list K d) (kit_tuple K d)]
  cases d <;> rfl
theorem kit_str (K : PySem.W.Frag) : ∀ d : Dt, PySem.W.kitOne K (.type (tyN d)) (.type "str") = some (isStr d)
  | .non => kit_ty (show kitB "NoneType" "str" = some false by decide +kernel)
  | .bl b => kit_ty (show kitB "bool" "str" = some false by decide +kernel)
  | .int i => kit_ty (show kitB "int" "str" = some false by decide +kernel)
  | .str s => kit_ty (show kitB "str" "str" = some true by decide +kernel)
  | .lst l => kit_ty (show kitB "list" "str" = some false by decide +kernel)
  | .tup l => kit_ty (show kitB "tuple" "str" = some false by decide +kernel)
  | .dic => kit_ty (show kitB "dict" "str" = some false by decide +kernel)
theorem kit_int (K : PySem.W.Frag) : ∀ d : Dt, PySem.W.kitOne K (.type (tyN d)) (.type "int") = some (isInt d)
  | .non => kit_ty (show kitB "NoneType" "int" = some false by decide +kernel)
  | .bl b => kit_ty (show kitB "bool" "int" = some true by decide +kernel)
  | .int i => kit_ty (show kitB "int" "int" = some true by decide +kernel)
  | .str s => kit_ty (show kitB "str" "int" = some false by decide +kernel)
  | .lst l => kit_ty (show kitB "list" "int" = some false by decide +kernel)
  | .tup l => kit_ty (show kitB "tuple" "int" = some false by decide +kernel)
  | .dic => kit_ty (show kitB "dict" "int" = some false by decide +kernel)
theorem kit_bool (K : PySem.W.Frag) : ∀ d : Dt, PySem.W.kitOne K (.type (tyN d)) (.type "bool") = some (isBl d)
  | .non => kit_ty (show kitB "NoneType" "bool" = some false by decide +kernel)
  | .bl b => kit_ty (show kitB "bool" "bool" = some true by decide +kernel)
  | .int i => kit_ty (show kitB "int" "bool" = some false by decide +kernel)
  | .str s => kit_ty (show kitB "str" "bool" = some false by decide +kernel)
  | .lst l => kit_ty (show kitB "list" "bool" = some false by decide +kernel)
  | .tup l => kit_ty (show kitB "tuple" "bool" = some false by decide +kernel)
  | .dic => kit_ty (show kitB "dict" "bool" = some false by decide +kernel)
/-- the texts of a list of data -/
def strsOf : List Dt → List Str
  | [] => []
  | .str s :: r => s :: strsOf r
  | _ :: r => strsOf r
theorem IsA.strs {H : Hp} : ∀ {xs : List V} {ds : List Dt}, IsA H xs ds → ds.all isStr = true → xs = (strsOf ds).map V.str
  | _, _, .nil, _ => rfl
  | _, _, .cons (.str s h) r, e => by
    have e2 := IsA.strs r (by simpa [isStr] using e)
    show _ = V.str s :: _
    rw [e2]
  | _, _, .cons .non r, e => by simp [isStr] at e
  | _, _, .cons (.bl b) r, e => by simp [isStr] at e
  | _, _, .cons (.int b) r, e => by simp [isStr] at e
  | _, _, .cons (.lst h z y) r, e => by simp [isStr] at e
  | _, _, .cons (.tup h z y) r, e => by simp [isStr] at e
  | _, _, .cons (.dic h) r, e => by simp [isStr] at e
theorem cls_two (a b : String) : Paired ClsV [V.ty a, V.ty b] [.type a, .type b] := .cons (.ty a) (.cons (.ty b) .nil)
theorem two_line : (2 : Nat) ≤ sizeLine := by rw [sizeLine_eq]; decide
theorem Same.up {H : Hp} {p : Addr} {o : HO} (h : H p = none) : Same H (upd H p o) := fun b u e => by
  rw [upd_ne (ne_of_none e h)]
  exact e
end Sr

set_option Elab.async false
set_option linter.all false
set_option maxRecDepth 100000
set_option maxHeartbeats 4000000
namespace Sr
open PySem PySem.Spec PyProof.Rows L2
/-- a comprehension of one name whose elements change nothing that stood: the list of what they are -/
theorem lc_pure {J : It} {n : Nat} {G : Hp → Prop} {Y : Nat → Hp → V → Hp → Prop} {At : Nat → V → Prop} (w : Walk J n G Y) (hy : ∀ i H x H', Y i H x H' → H' = H ∧ At i x) {te : TE} {j : Nat} {σ : L2.St} {H : Hp} {D : Addr} {Qd : Hp → Prop}
    (ys : List V) (hn : ys.length = n) (hz : n < sizeLine) (hD : H D = none) (hG : ∀ H', Same H H' → G H')
    (turn : ∀ (i : Nat) (x y : V) (H1 : Hp) (Q : VK), i < n → At i x → ys[i]? = some y → Same H H1 → (∀ H2, Same H1 H2 → Q y H2) → te ((σ.set j none).set j (some x)) H1 Q)
    (fin : ∀ H', Same H H' → H' D = some (.lst ys) → Qd H') :
    ∃ W : Nat → Nat → Hp → Prop, (∃ m, W 0 m (upd H D (.lst []))) ∧ ∀ i m H, W i m H →
      (J.stop i H ∧ Qd H) ∨ (J.go i H ∧ ∃ Nx : Hp → Prop, (∀ H', Nx H' → ∃ m', m' < m ∧ W (i + 1) m' H') ∧ ∀ x H', J.yld i H x H' → (gName j) x (wipe σ [j]) H' fun σ2 H2 => wipe σ2 [j] = wipe σ [j] ∧ tYes σ2 H2 fun b H3 =>
        if b = true then te σ2 H3 fun y H4 => ∃ acc, H4 D = some (.lst acc) ∧ acc.length < sizeLine ∧ Nx (upd H4 D (.lst (acc ++ [y]))) else Nx H3) := by
  have below : ∀ {H1 H2 : Hp} {o : HO}, Same H H1 → Same H1 H2 → Same H (upd H2 D o) := fun {H1 H2 o} a b c u e => by
    rw [upd_ne (ne_of_none e hD)]
    exact b _ _ (a _ _ e)
  refine lc_it w (fun i H' => Same H H' ∧ H' D = some (.lst (ys.take i))) ⟨Same.up hD, by rw [upd_same]; simp⟩ (fun i H' _ p => hG H' p.1) (fun i x H1 H2 hi p y => ?_) fun H' p => fin H' p.1 (by rw [p.2, ← hn, List.take_length])
  obtain ⟨rfl, hx⟩ := hy _ _ _ _ y
  refine ⟨?_, ?_⟩
  · show ((σ.set j none).set j (some x)).set j none = σ.set j none
    rw [List.set_set, List.set_set]
  · unfold tYes
    simp only [if_true]
    have hi' : i < ys.length := by omega
    refine turn i x ys[i] H2 _ hi hx (List.getElem?_eq_getElem hi') p.1 fun H3 s3 => ?_
    refine ⟨_, s3 _ _ p.2, by rw [List.length_take]; omega, below p.1 s3, ?_⟩
    rw [upd_same, List.take_add_one, List.getElem?_eq_getElem hi']
    rfl
theorem walk_at {xs : List V} : ∀ (i : Nat) (H : Hp) (x : V) (H' : Hp), YAt xs i H x H' → H' = H ∧ xs[i]? = some x := fun _ _ _ _ y => y
/-- all([.. for ..]) behind its list -/
theorem all_of {K : PySem.W.Frag} {H : Hp} {D : Addr} {bs : List Bool} {Q : VK} (h : H D = some (.lst (bs.map V.bl))) (q : Q (.bl (bs.all id)) H) : (rAll K) [V.ref D] H Q := ⟨D, bs, rfl, SqL.of h, q⟩
theorem sz {n m : Nat} (h : n ≤ m) (hm : m ≤ 1000000 := by decide) : n < sizeLine := by
  rw [sizeLine_eq]
  exact Nat.lt_of_le_of_lt (Nat.le_trans h hm) (by decide)
/-- a built-in class as a value -/
theorem pe_tyv {X : Cx} {x : Str} {n : String} {p : Pos} (hg : Gl X x) (hm : X.mg x = none) (hv : bootBuiltins x = some (.type n)) (hn : x ≠ "__name__" := by decide) (hd : (x == ("__debug__" : Str)) = false := by decide) : PE X (.Name x p) (tC (.ty n)) :=
  pe_bltn hg hm hv rfl hn hd
end Sr

set_option Elab.async false
set_option linter.all false
set_option maxRecDepth 100000
set_option maxHeartbeats 4000000
namespace Sr
open PySem PySem.Spec PyProof.Rows L2
/-! ### a table of the top with text keys, wholly known -/
theorem find_out {P : Params} {z : Str} : ∀ {es : List DictEntry} {ks : List Str}, es.map He.keyOf = He.keysIn P ks → z ∉ ks → es.find? (·.key.isStr z) = none ∧ es.any (·.refKey) = false
  | [], _, _, _ => ⟨rfl, rfl⟩
  | e :: r, [], h, _ => by cases h
  | e :: r, k :: ks, h, hz => by
    have h1 : He.keyOf e :: r.map He.keyOf = some (k, PyData.keyHash P k) :: He.keysIn P ks := h
    injection h1 with h2 h3
    obtain ⟨i1, i2⟩ := find_out h3 fun m => hz (List.mem_cons_of_mem _ m)
    have hk : k ≠ z := fun q => hz (by rw [q]; exact List.mem_cons_self)
    obtain ⟨hs, ky, vl⟩ := e
    unfold He.keyOf at h2
    cases ky with
    | str x t =>
      have e1 : (x, hs) = (k, PyData.keyHash P k) := Option.some.inj h2
      obtain rfl : x = k := congrArg Prod.fst e1
      have n1 : (Value.str x t).isStr z = false := by
        show (x == z) = false
        simpa using hk
      exact ⟨by rw [List.find?_cons, n1]; exact i1, by rw [List.any_cons, i2]; rfl⟩
    | _ => cases h2
theorem tab_list {K : PySem.W.Frag} {w : World} {a : Addr} {ks : List Str} (h : He.dicW K a = some (He.keysIn w.params ks)) : ∃ es n, KDict K w a es n ∧ es.toList.map He.keyOf = He.keysIn w.params ks := by
  obtain ⟨es, n, D⟩ := He.dicW_ok h
  refine ⟨es, n, D, ?_⟩
  unfold He.dicW at h
  rw [D.at_] at h
  have h1 : (match decide ("dict" = "dict") && (#[].isEmpty && !(a == sysModules)) with
    | true => some (es.toList.map He.keyOf)
    | false => none) = some (He.keysIn w.params ks) := h
  rw [D.low] at h1
  exact Option.some.inj h1
theorem nsIn_out {K : PySem.W.Frag} {w : World} {a : Addr} {es : Array DictEntry} {n : Nat} {ks : List Str} {z : Str} (D : KDict K w a es n) (h : es.toList.map He.keyOf = He.keysIn w.params ks) (hz : z ∉ ks) : PySem.W.nsIn K a z = some none := by
  obtain ⟨h1, h2⟩ := find_out h hz
  unfold PySem.W.nsIn
  rw [D.at_]
  show (match es.toList.find? (·.key.isStr z) with
      | some e => some (some e.val)
      | none => if es.toList.any (·.refKey) then none else some none) = some none
  rw [h1]
  show (if es.toList.any (·.refKey) then none else some none) = some none
  rw [h2]
  rfl
/-- a call of a local name that holds a def of the top -/
theorem pe_calL {X : Cx} {k k' i : Nat} {x x0 : Str} {ps : List Str} {sp : Sp} {a : Addr} {p pos : Pos} {e : Expr} {es : List Expr} {t : TA} (C : Cal X.prog X.w X.K X.mg X.base k x0 ps sp) (hm0 : X.mg x0 = some (.ref a)) (hr : Room k' X.A) (hk : k ≤ k') (hN : X.N[i]? = some x) (hv : Vis X.env.scope x) (ha : PA X (e :: es) t)
    (hdb : (x == ("__debug__" : Str)) = false := by decide) (hcd : (x == ("__classdict__" : Str)) = false := by decide)
    (he : starEach (e :: es) X.env = (false, eval e X.env) :: starEach es X.env := by rfl) (hpl : (backTo pos (starEach es X.env)).any (·.1) = false := by rfl) : PE X (.Call (.Name x p) (e :: es) [] pos) (tCallL i a sp [] E0 t) := by
  obtain ⟨f, fd, F, hm, hkp, hb⟩ := C.ex
  obtain rfl : f = a := by
    have := hm.symm.trans hm0
    injection this with this
    injection this
  exact pe_callL F (hr.mono hk) hN hv hkp hb .nil pass0 ha hdb hcd he hpl
end Sr

set_option Elab.async false
set_option linter.all false
set_option maxRecDepth 100000
set_option maxHeartbeats 4000000
namespace Sr
open PySem PySem.Spec PyProof.Rows L2
/-! ### dicts with text keys, as pairs of a text and what stands for it -/
/-- the entries of kvs are the texts ss, in order, and what Rv says of each stands under it -/
abbrev Ent (Rv : Str → V → Prop) (kvs : List (Key × V)) (ss : List Str) : Prop := Paired (fun kv s => kv.1 = Sum.inr s ∧ Rv s kv.2) kvs ss
theorem Ent.keys {Rv : Str → V → Prop} : ∀ {kvs : List (Key × V)} {ss : List Str}, Ent Rv kvs ss → kvs.map (·.1) = ss.map Sum.inr
  | _, _, .nil => rfl
  | _, _, .cons h r => by rw [List.map_cons, List.map_cons, h.1, Ent.keys r]
theorem Ent.imp {Rv Rv' : Str → V → Prop} (f : ∀ s v, Rv s v → Rv' s v) : ∀ {kvs : List (Key × V)} {ss : List Str}, Ent Rv kvs ss → Ent Rv' kvs ss
  | _, _, .nil => .nil
  | _, _, .cons h r => .cons ⟨h.1, f _ _ h.2⟩ (Ent.imp f r)
theorem Ent.len {Rv : Str → V → Prop} {kvs : List (Key × V)} {ss : List Str} (h : Ent Rv kvs ss) : kvs.length = ss.length := Paired.length h
theorem Ent.snoc {Rv : Str → V → Prop} {s : Str} {v : V} (hv : Rv s v) : ∀ {kvs : List (Key × V)} {ss : List Str}, Ent Rv kvs ss → Ent Rv (kvs ++ [(Sum.inr s, v)]) (ss ++ [s])
  | _, _, .nil => .cons ⟨rfl, hv⟩ .nil
  | _, _, .cons h r => .cons h (Ent.snoc hv r)
theorem Ent.at_ {Rv : Str → V → Prop} {s : Str} : ∀ {kvs : List (Key × V)} {ss : List Str}, Ent Rv kvs ss → s ∈ ss → ∃ v, valV kvs (Sum.inr s) = some v ∧ Rv s v
  | _, _, .cons (a := kv) (b := x) h r, m => by
    unfold valV
    rw [List.find?_cons]
    by_cases c : x = s
    · subst c
      rw [h.1, decide_eq_true rfl]
      exact ⟨_, rfl, h.2⟩
    · have m' : s ∈ _ := (List.mem_cons.mp m).resolve_left fun q => c q.symm
      rw [h.1, decide_eq_false fun q => c (Sum.inr.inj q)]
      exact Ent.at_ r m'
theorem Ent.out {Rv : Str → V → Prop} {s : Str} : ∀ {kvs : List (Key × V)} {ss : List Str}, Ent Rv kvs ss → s ∉ ss → valV kvs (Sum.inr s) = none
  | _, _, .nil, _ => rfl
  | _, _, .cons (a := kv) (b := x) h r, m => by
    unfold valV
    rw [List.find?_cons, h.1, decide_eq_false fun q => m (by rw [Sum.inr.inj q]; exact List.mem_cons_self)]
    exact Ent.out r fun q => m (List.mem_cons_of_mem _ q)
theorem Ent.has {Rv : Str → V → Prop} {kvs : List (Key × V)} {ss : List Str} (h : Ent Rv kvs ss) (s : Str) : (valV kvs (Sum.inr s)).isSome = decide (s ∈ ss) := by
  by_cases m : s ∈ ss
  · obtain ⟨v, e, _⟩ := h.at_ m
    rw [e, decide_eq_true m]
    rfl
  · rw [h.out m, decide_eq_false m]
    rfl
theorem putK_new {kvs : List (Key × V)} {k : Key} {v : V} (h : k ∉ kvs.map (·.1)) : putK kvs k v = kvs ++ [(k, v)] := by
  unfold putK
  rw [if_neg]
  intro q
  obtain ⟨kv, m, e⟩ := List.any_eq_true.mp q
  exact h (List.mem_map.mpr ⟨kv, m, of_decide_eq_true e⟩)
theorem Ent.put {Rv : Str → V → Prop} {kvs : List (Key × V)} {ss : List Str} {s : Str} {v : V} (h : Ent Rv kvs ss) (m : s ∉ ss) (hv : Rv s v) : Ent Rv (putK kvs (Sum.inr s) v) (ss ++ [s]) := by
  rw [putK_new]
  · exact h.snoc hv
  · rw [h.keys]
    intro q
    obtain ⟨x, m', e⟩ := List.mem_map.mp q
    exact m (by rw [← Sum.inr.inj e]; exact m')
/-- a dict comprehension of one name with unlike texts for keys; nothing that stood is changed -/
theorem dc_texts {J : It} {n : Nat} {G : Hp → Prop} {Y : Nat → Hp → V → Hp → Prop} {At : Nat → V → Prop} (w : Walk J n G Y) (hy : ∀ i H x H', Y i H x H' → H' = H ∧ At i x) {tk tv : TE} {j : Nat} {σ : L2.St} {H : Hp} {D : Addr} {Qd : Hp → Prop}
    (ss : List Str) (hn : ss.length = n) (nd : ss.Nodup) (hz : n < sizeLine) (hD : H D = none) (hG : ∀ H', Same H H' → G H') (Rv : Hp → Str → V → Prop) (mono : ∀ H1 H2 s v, Same H1 H2 → Rv H1 s v → Rv H2 s v)
    (lay : ∀ H1 s v c c', H1 D = some (.dK c) → Rv H1 s v → Rv (upd H1 D (.dK c')) s v)
    (turn : ∀ (i : Nat) (x : V) (s : Str) (H1 : Hp) (R : V → V → Hp → Prop), i < n → At i x → ss[i]? = some s → Same H H1 → (∀ H2 z, Same H1 H2 → Rv H2 s z → R (.str s) z H2) → tk ((σ.set j none).set j (some x)) H1 fun y H2 => tv ((σ.set j none).set j (some x)) H2 fun z H3 => R y z H3)
    (fin : ∀ H' kvs, Same H H' → H' D = some (.dK kvs) → Ent (Rv H') kvs ss → Qd H') :
    ∃ W : Nat → Nat → Hp → Prop, (∃ m, W 0 m (upd H D (.dK []))) ∧ ∀ i m H, W i m H →
      (J.stop i H ∧ Qd H) ∨ (J.go i H ∧ ∃ Nx : Hp → Prop, (∀ H', Nx H' → ∃ m', m' < m ∧ W (i + 1) m' H') ∧ ∀ x H', J.yld i H x H' → (gName j) x (wipe σ [j]) H' fun σ2 H2 => wipe σ2 [j] = wipe σ [j] ∧ tYes σ2 H2 fun b H3 =>
        if b = true then tk σ2 H3 fun y H4 => tv σ2 H4 fun z H5 => ∃ kvs k, y = kV k ∧ H5 D = some (.dK kvs) ∧ kvs.length < sizeLine ∧ Nx (upd H5 D (.dK (putK kvs k z))) else Nx H3) := by
  have below : ∀ {H1 H2 : Hp} {o : HO}, Same H H1 → Same H1 H2 → Same H (upd H2 D o) := fun {H1 H2 o} a b c u e => by
    rw [upd_ne (ne_of_none e hD)]
    exact b _ _ (a _ _ e)
  refine ⟨fun i m H' => m = n - i ∧ i ≤ n ∧ Same H H' ∧ ∃ kvs, H' D = some (.dK kvs) ∧ Ent (Rv H') kvs (ss.take i), ⟨n, by simp, Nat.zero_le _, Same.up hD, [], upd_same, by rw [List.take_zero]; exact .nil⟩, ?_⟩
  rintro i m H1 ⟨rfl, hi, s1, kvs, hd, he⟩
  by_cases lt : i < n
  · refine .inr ⟨w.goes i H1 lt (hG _ s1), fun H' => i + 1 ≤ n ∧ Same H H' ∧ ∃ kvs, H' D = some (.dK kvs) ∧ Ent (Rv H') kvs (ss.take (i + 1)), fun H' p => ⟨n - (i + 1), by omega, rfl, p⟩, fun x H2 y => ?_⟩
    obtain ⟨rfl, hx⟩ := hy _ _ _ _ (w.yields i H1 x H2 lt (hG _ s1) y)
    refine ⟨?_, ?_⟩
    · show ((σ.set j none).set j (some x)).set j none = σ.set j none
      rw [List.set_set, List.set_set]
    · unfold tYes
      simp only [if_true]
      have hi' : i < ss.length := by omega
      refine turn i x ss[i] H2 _ lt hx (List.getElem?_eq_getElem hi') s1 fun H3 z s3 rv => ?_
      have hl := he.len
      rw [List.length_take] at hl
      have nm : ss[i] ∉ ss.take i := fun q => by
        obtain ⟨a, ha, e⟩ := List.mem_take_iff_getElem.mp q
        exact (List.pairwise_iff_getElem.mp nd) a i (by omega) hi' (by omega) e
      refine ⟨kvs, Sum.inr ss[i], rfl, s3 _ _ hd, by omega, lt, below s1 s3, _, upd_same, ?_⟩
      rw [List.take_add_one, List.getElem?_eq_getElem hi']
      have r1 : Ent (Rv (upd H3 D (.dK (putK kvs (Sum.inr ss[i]) z)))) kvs (ss.take i) := he.imp fun s v r => lay _ _ _ _ _ (s3 _ _ hd) (mono _ _ _ _ s3 r)
      exact r1.put nm (lay _ _ _ _ _ (s3 _ _ hd) rv)
  · obtain rfl : i = n := by omega
    refine .inl ⟨w.stops H1 (hG _ s1), fin H1 kvs s1 hd ?_⟩
    rwa [← hn, List.take_length] at he
end Sr

set_option Elab.async false
set_option linter.all false
set_option maxRecDepth 100000
set_option maxHeartbeats 4000000
namespace Sr
open PySem PySem.Spec PyProof.Rows L2
/-! ### rules that name the written part, for a comprehension's block -/
section
variable {X : Cx}
theorem op_in_seqK (K : PySem.W.Frag) (hK : X.K = K) : OpR X (compareOp .In) (rIn K false) := hK ▸ op_in_seq
theorem call_isiK' (K : PySem.W.Frag) (hK : X.K = K) : CallR X (.builtin "isinstance") (rIsi K) := hK ▸ call_isi
theorem call_isiTK (K : PySem.W.Frag) (hK : X.K = K) : CallR X (.builtin "isinstance") (rIsiT K) := hK ▸ call_isiT
theorem ix_listK (K : PySem.W.Frag) (hK : X.K = K) : IxR X (rIxL K) := hK ▸ ix_list
theorem ix_tupK (K : PySem.W.Frag) (hK : X.K = K) : IxR X (rIxT K) := hK ▸ ix_tup
theorem call_len_seqK (K : PySem.W.Frag) (hK : X.K = K) : CallR X (.builtin "len") (fun xs H Q => ∃ p ys, xs = [.ref p] ∧ (SqL K H p ys ∨ SqT K H p ys) ∧ Q (.int ys.length) H) := hK ▸ call_len_seq
theorem call_list_ofK (K : PySem.W.Frag) (hK : X.K = K) : CallR X (.type "list") (fun xs H Q => ∃ p ys, xs = [.ref p] ∧ (SqL K H p ys ∨ SqT K H p ys) ∧ ∀ l, H l = none → Q (.ref l) (upd H l (.lst ys))) := hK ▸ call_list_of
theorem call_tuple_ofK (K : PySem.W.Frag) (hK : X.K = K) : CallR X (.type "tuple") (fun xs H Q => ∃ p ys, xs = [.ref p] ∧ ((SqL K H p ys ∧ ∀ l, H l = none → Q (.ref l) (upd H l (.tup ys))) ∨ (SqT K H p ys ∧ Q (.ref p) H))) := hK ▸ call_tuple_of
theorem op_eqDK (K : PySem.W.Frag) (hK : X.K = K) (h : X.A.units + 64 < cLine) : OpR X (compareOp .Eq) (rEqD K) := hK ▸ op_eqD h
theorem op_neDK (K : PySem.W.Frag) (hK : X.K = K) (h : X.A.units + 64 < cLine) : OpR X (compareOp .NotEq) (rNeD K) := hK ▸ op_neD h
end
theorem Paired.at2 {α β : Type} {F : α → β → Prop} : ∀ {l : List α} {m : List β} {i : Nat} {a : α} {b : β}, Paired F l m → l[i]? = some a → m[i]? = some b → F a b
  | _, _, _, _, _, .nil, h, _ => by simp at h
  | _, _, 0, _, _, .cons h _, h1, h2 => by
    simp at h1 h2
    rw [← h1, ← h2]
    exact h
  | _, _, i + 1, a, b, .cons _ r, h1, h2 => Paired.at2 (i := i) (a := a) (b := b) r (by simpa using h1) (by simpa using h2)
end Sr

set_option Elab.async false
set_option linter.all false
set_option maxRecDepth 100000
set_option maxHeartbeats 4000000
namespace Sr
open PySem PySem.Spec PyProof.Rows L2
/-! ### what a law's own steps leave: M is settled for ever, S may change -/
def DrawsO (o : HO) : Prop := ∃ x y z : Int, o = .lst [.int x, .int y, .int z]
def DrawsAt (H : Hp) (a : Addr) : Prop := ∃ o, H a = some o ∧ DrawsO o
structure Grow (S : List Addr) (M H M' H' : Hp) : Prop where
  stp : ∀ b o, b ∉ S → H b = some o → H' b = some o
  there : ∀ b, H b ≠ none → H' b ≠ none
  up : Same M M'
  nw : ∀ b o, M' b = some o → M b = some o ∨ H b = none
  sub : Same M' H'
theorem Grow.refl {S : List Addr} {M H : Hp} (s : Same M H) : Grow S M H M H := ⟨fun _ _ _ e => e, fun _ e => e, Same.refl _, fun _ _ e => .inl e, s⟩
theorem Grow.trans {S : List Addr} {M H M1 H1 M2 H2 : Hp} (g : Grow S M H M1 H1) (g' : Grow S M1 H1 M2 H2) : Grow S M H M2 H2 where
  stp := fun b o hb e => g'.stp b o hb (g.stp b o hb e)
  there := fun b e => g'.there b (g.there b e)
  up := g.up.trans g'.up
  nw := fun b o e => by
    rcases g'.nw b o e with h | h
    · exact g.nw b o h
    · cases q : H b with
      | none => exact .inr rfl
      | some u => exact absurd h (g.there b (by rw [q]; simp))
  sub := g'.sub
theorem Grow.mono {S S' : List Addr} {M H M' H' : Hp} (g : Grow S M H M' H') (h : ∀ b ∈ S, b ∈ S') : Grow S' M H M' H' :=
  ⟨fun b o hb e => g.stp b o (fun z => hb (h b z)) e, g.there, g.up, g.nw, g.sub⟩
/-- an address that stands and is not settled stays unsettled -/
theorem Grow.out {S : List Addr} {M H M' H' : Hp} (g : Grow S M H M' H') {b : Addr} (h1 : M b = none) (h2 : H b ≠ none) : M' b = none := by
  cases q : M' b with
  | none => rfl
  | some o =>
    rcases g.nw b o q with h | h
    · rw [h1] at h; cases h
    · exact absurd h h2
/-- nothing that stood is changed, nothing is settled -/
theorem Grow.same {S : List Addr} {M H H' : Hp} (s : Same M H) (e : Same H H') : Grow S M H M H' :=
  ⟨fun b o _ h => e b o h, fun b h => by
    cases q : H b with
    | none => exact absurd q h
    | some o => rw [e b o q]; simp, Same.refl _, fun _ _ h => .inl h, s.trans e⟩
/-- a new object, settled -/
theorem Grow.lay {S : List Addr} {M H : Hp} {p : Addr} {o : HO} (s : Same M H) (hp : H p = none) : Grow S M H (upd M p o) (upd H p o) := by
  have mp : M p = none := s.free hp
  refine ⟨fun b u _ e => Same.up hp b u e, fun b h => ?_, Same.up mp, fun b u e => ?_, fun b u e => ?_⟩
  · by_cases c : b = p
    · rw [c]; exact absurd hp (c ▸ h)
    · rw [upd_ne c]; exact h
  · by_cases c : b = p
    · rw [c]; exact .inr hp
    · rw [upd_ne c] at e; exact .inl e
  · by_cases c : b = p
    · rw [c] at e ⊢; rw [upd_same] at e ⊢; exact e
    · rw [upd_ne c] at e ⊢; exact s _ _ e
/-- an object that may change is changed -/
theorem Grow.chg {S : List Addr} {M H : Hp} {p : Addr} {o : HO} (s : Same M H) (mp : M p = none) (hS : p ∈ S) : Grow S M H M (upd H p o) :=
  ⟨fun b u hb e => by rw [upd_ne fun z => hb (by rw [z]; exact hS)]; exact e, fun b h => by
    by_cases c : b = p
    · rw [c, upd_same]; simp
    · rw [upd_ne c]; exact h, Same.refl _, fun _ _ h => .inl h, fun b u e => by
    rw [upd_ne fun z => by rw [z, mp] at e; cases e]
    exact s _ _ e⟩
/-- an object of one's own, made since, is changed -/
theorem Grow.own {S : List Addr} {M0 H0 M H : Hp} {p : Addr} {o : HO} (g : Grow S M0 H0 M H) (h0 : H0 p = none) (mp : M p = none) : Grow S M0 H0 M (upd H p o) :=
  ⟨fun b u hb e => by rw [upd_ne (ne_of_none e h0)]; exact g.stp b u hb e, fun b h => by
    by_cases c : b = p
    · rw [c, upd_same]; simp
    · rw [upd_ne c]; exact g.there b h, g.up, g.nw, fun b u e => by
    rw [upd_ne fun z => by rw [z, mp] at e; cases e]
    exact g.sub _ _ e⟩
/-- what was made since is settled from now on -/
theorem Grow.settle {S : List Addr} {M0 H0 M H : Hp} {p : Addr} {o : HO} (g : Grow S M0 H0 M H) (h0 : H0 p = none) (mp : M p = none) (hp : H p = some o) : Grow S M0 H0 (upd M p o) H :=
  ⟨g.stp, g.there, g.up.trans (Same.up mp), fun b u e => by
    by_cases c : b = p
    · rw [c]; exact .inr h0
    · rw [upd_ne c] at e; exact g.nw b u e, fun b u e => by
    by_cases c : b = p
    · rw [c] at e ⊢; rw [upd_same] at e; rw [hp]; exact e
    · rw [upd_ne c] at e; exact g.sub _ _ e⟩
theorem DrawsAt.some {H : Hp} {a : Addr} (d : DrawsAt H a) : H a ≠ none := by
  obtain ⟨o, e, _⟩ := d
  rw [e]
  simp
theorem seq_upd {K : PySem.W.Frag} {H : Hp} {a l : Addr} {o : HO} {xs : List V} (hn : l ≠ a) (h : SqL K H l xs ∨ SqT K H l xs) : SqL K (upd H a o) l xs ∨ SqT K (upd H a o) l xs := by
  have e : upd H a o l = H l := upd_ne hn
  rcases h with h | h
  · left
    rcases h with h | h
    · left
      rcases h with h | ⟨u, h⟩
      · exact .inl (e.trans h)
      · exact .inr ⟨u, e.trans h⟩
    · exact .inr h
  · right
    rcases h with h | h
    · left
      rcases h with h | ⟨u, h⟩
      · exact .inl (e.trans h)
      · exact .inr ⟨u, e.trans h⟩
    · exact .inr h
theorem atI_of {α : Type} {xs : List α} {i : Int} {j : Nat} {v : α} (e : i = (j : Int)) (h : xs[j]? = some v) : atI xs i = some v := by
  have hj : j < xs.length := (List.getElem?_eq_some_iff.mp h).1
  unfold atI ixN
  rw [if_pos (by omega), if_pos (by omega)]
  show xs[i.toNat]? = _
  rw [show i.toNat = j by omega]
  exact h
theorem iteB {b : Bool} {A B : Prop} (h1 : A) (h2 : B) : if b = true then A else B := by
  cases b
  · exact iteF h2
  · exact iteT h1
end Sr

set_option Elab.async false
set_option linter.all false
set_option maxRecDepth 100000
set_option maxHeartbeats 4000000
namespace Sr
open PySem PySem.Spec PyProof.Rows L2 RZ
/-! ### data of a depth, without dicts -/
inductive Dep : Nat → Dt → Prop
  | non (n : Nat) : Dep n .non
  | bl (n : Nat) (b : Bool) : Dep n (.bl b)
  | int (n : Nat) (i : Int) : Dep n (.int i)
  | str (n : Nat) (s : Str) : Dep n (.str s)
  | lst (n : Nat) (l : List Dt) : (∀ d ∈ l, Dep n d) → Dep (n + 1) (.lst l)
  | tup (n : Nat) (l : List Dt) : (∀ d ∈ l, Dep n d) → Dep (n + 1) (.tup l)
theorem kit_more {K : PySem.W.Frag} {t c c2 : Value} {r : List Value} {a b : Bool} (h1 : PySem.W.kitOne K t c = some a) (h2 : PySem.W.kitAny K t (c2 :: r) = some b) : PySem.W.kitAny K t (c :: c2 :: r) = some (a || b) := by
  refine kitAny_cons h1 (fun e => ?_) fun e => ?_
  · rw [e, h2]; rfl
  · rw [e]; rfl
theorem kit_ints (K : PySem.W.Frag) (d : Dt) : PySem.W.kitAny K (.type (tyN d)) [.type "bool", .type "int"] = some (isInt d) := by
  rw [kit_two (kit_bool K d) (kit_int K d)]
  cases d <;> rfl
theorem kit_four (K : PySem.W.Frag) (d : Dt) : PySem.W.kitAny K (.type (tyN d)) [.type "bool", .type "int", .type "list", .type "tuple"] = some (isInt d || isSeq d) := by
  rw [kit_more (kit_bool K d) (kit_more (kit_int K d) (kit_seq K d))]
  cases d <;> rfl
theorem cls_four (a b c d : String) : Paired ClsV [V.ty a, V.ty b, V.ty c, V.ty d] [.type a, .type b, .type c, .type d] := .cons (.ty a) (.cons (.ty b) (.cons (.ty c) (.cons (.ty d) .nil)))
theorem flat_eq {n : Nat} {H : Hp} {v u : V} {d : Dt} (dp : Dep n d) (hq : isSeq d = false) (iv : Is H v d) (iu : Is H u d) : v = u ∧ scal v u = true := by
  cases dp with
  | lst => cases hq
  | tup => cases hq
  | _ => cases iv; cases iu; exact ⟨rfl, rfl⟩
theorem walk_zipT {K : PySem.W.Frag} {a b : Addr} {xs ys : List V} {n : Nat} (hn : n = min xs.length ys.length) : Walk (ItzT K a b) n (fun H => SqT K H a xs ∧ SqT K H b ys) (YPair (fun i => xs[i]?) (fun i => ys[i]?)) := by
  subst hn
  refine ⟨fun i H hi g => ?_, fun H g => ?_, fun i H v H' _ g y => ?_⟩
  · exact ⟨xs, ys, xs[i]'(by omega), ys[i]'(by omega), g.1, g.2, List.getElem?_eq_getElem _, List.getElem?_eq_getElem _⟩
  · exact ⟨xs, ys, g.1, g.2, by omega⟩
  · obtain ⟨T, p, q, y1, y2, y3, y4, y5⟩ := y
    exact ⟨T, p, q, y1, y2, y3, y4 xs g.1, y5 ys g.2⟩
/-- a comprehension of two names over pairs whose elements change nothing that stood -/
theorem lc_pairs {J : It} {n : Nat} {G : Hp → Prop} {xs ys : Nat → Option V} (w : Walk J n G (YPair xs ys)) {K : PySem.W.Frag} {te : TE} {i j : Nat} {σ : L2.St} {H : Hp} {D : Addr} {Qd : Hp → Prop} (hij : i ≠ j)
    (zs : List V) (hn : zs.length = n) (hz : n < sizeLine) (hD : H D = none) (hG : ∀ H', Same H H' → G H')
    (turn : ∀ (k : Nat) (x y z : V) (H1 : Hp) (Q : VK), k < n → xs k = some x → ys k = some y → zs[k]? = some z → Same H H1 → (∀ H2, Same H1 H2 → Q z H2) → te ((wipe σ [i, j]).set i (some x) |>.set j (some y)) H1 Q)
    (fin : ∀ H', Same H H' → H' D = some (.lst zs) → Qd H') :
    ∃ W : Nat → Nat → Hp → Prop, (∃ m, W 0 m (upd H D (.lst []))) ∧ ∀ k m H, W k m H →
      (J.stop k H ∧ Qd H) ∨ (J.go k H ∧ ∃ Nx : Hp → Prop, (∀ H', Nx H' → ∃ m', m' < m ∧ W (k + 1) m' H') ∧ ∀ x H', J.yld k H x H' → (gTup K 2 (gCons (gName i) (gCons (gName j) gNil))) x (wipe σ [i, j]) H' fun σ2 H2 => wipe σ2 [i, j] = wipe σ [i, j] ∧ tYes σ2 H2 fun b H3 =>
        if b = true then te σ2 H3 fun y H4 => ∃ acc, H4 D = some (.lst acc) ∧ acc.length < sizeLine ∧ Nx (upd H4 D (.lst (acc ++ [y]))) else Nx H3) := by
  have below : ∀ {H1 H2 : Hp} {o : HO}, Same H H1 → Same H1 H2 → Same H (upd H2 D o) := fun {H1 H2 o} p q c u e => by
    rw [upd_ne (ne_of_none e hD)]
    exact q _ _ (p _ _ e)
  refine lc_it w (fun k H' => Same H H' ∧ H' D = some (.lst (zs.take k))) ⟨Same.up hD, by rw [upd_same]; simp⟩ (fun k H' _ p => hG H' p.1) (fun k v H1 H2 hk p y => ?_) fun H' p => fin H' p.1 (by rw [p.2, ← hn, List.take_length])
  obtain ⟨T, x, y, rfl, hT, rfl, hx, hy⟩ := y
  refine ⟨T, [x, y], rfl, SqT.of upd_same, rfl, ?_⟩
  have s2 : Same H1 _ := Same.up (o := .tup [x, y]) hT
  refine ⟨x, [y], rfl, y, [], rfl, rfl, ?_, ?_⟩
  · show ((((((σ.set j none).set i none).set i (some x)).set j (some y)).set j none).set i none) = (σ.set j none).set i none
    rw [List.set_set, List.set_set, List.set_comm _ _ hij, List.set_set, List.set_set]
  · unfold tYes
    simp only [if_true]
    have hk' : k < zs.length := by omega
    refine turn k x y zs[k] _ _ hk hx hy (List.getElem?_eq_getElem hk') (p.1.trans s2) fun H3 s3 => ?_
    refine ⟨_, s3 _ _ (s2 _ _ p.2), by rw [List.length_take]; omega, below (p.1.trans s2) s3, ?_⟩
    rw [upd_same, List.take_add_one, List.getElem?_eq_getElem hk']
    rfl
end Sr

set_option Elab.async false
set_option linter.all false
set_option maxRecDepth 100000
set_option maxHeartbeats 4000000
namespace Sr
open PySem PySem.Spec PyProof.Rows L2
/-! ### sorted(d) where the keys are pairs of texts -/
def pk (p : Str × Str) : List Key := [Sum.inr p.1, Sum.inr p.2]
def encP (p : Str × Str) : PyData := .tuple [.str p.1, .str p.2]
def pSort (l : List (Str × Str)) : List (Str × Str) := l.mergeSort (PySem.W.dataLe false encP)
theorem pSort_perm (l : List (Str × Str)) : (pSort l).Perm l := List.mergeSort_perm _ _
theorem encP_alike (p q : Str × Str) : PySem.W.alike (encP p) (encP q) = true := by simp [encP, PySem.W.alike, PySem.W.alikeAll]
theorem encP_depth (p : Str × Str) : (encP p).depth ≤ 2 := by
  show PyData.depth (.tuple [.str p.1, .str p.2]) ≤ 2
  simp [PyData.depth, PyData.depthAll]
theorem reads_pair {P : Program} {w : World} {H : Hp} {h : Heap} {q : Addr} {p : Str × Str} (hok : HOk P w H h) (hq : H q = some (.tup [.str p.1, .str p.2])) : PySem.Reads h (.ref q) (encP p) [] := by
  obtain ⟨_, its, rv, o, ho, hc, n, hd⟩ := hok q _ hq
  obtain ⟨a, t1, rfl, r1, t2⟩ := (show ∃ a t, its = a :: t ∧ RelV (.str p.1) a ∧ Vals [.str p.2] t from by cases rv with | cons h1 h2 => exact ⟨_, _, rfl, h1, h2⟩)
  obtain ⟨b, t3, rfl, r2, t4⟩ := (show ∃ a t, t1 = a :: t ∧ RelV (.str p.2) a ∧ Vals [] t from by cases t2 with | cons h1 h2 => exact ⟨_, _, rfl, h1, h2⟩)
  cases t4
  obtain ⟨u1, rfl⟩ := r1
  obtain ⟨u2, rfl⟩ := r2
  exact .tuple ho hc hd (.cons (as := []) (.str _ _) (.cons (as := []) (.str _ _) .nil))
def AtP (H : Hp) (q : Addr) (p : Str × Str) : Prop := H q = some (.tup [.str p.1, .str p.2])
theorem each_paired {α β : Type} {R : α → β → Prop} : ∀ {l : List α} {m : List β}, PySem.W.EachIs R l m → Paired R l m
  | _, _, .nil => .nil
  | _, _, .cons h t => .cons h (each_paired t)
theorem each_of {H : Hp} : ∀ {kvs : List (List Key × V)} {ks : List (List Key × Addr × Value)} {bs : List (Str × Str)}, Paired (fun (p : List Key × V) (q : List Key × Addr × Value) => p.1 = q.1 ∧ H q.2.1 = some (.tup (p.1.map kV)) ∧ RelV p.2 q.2.2) kvs ks →
    kvs.map (·.1) = bs.map pk → PySem.W.EachIs (fun v b => ∃ q, v = Value.ref q ∧ AtP H q b) (ks.map fun x => Value.ref x.2.1) bs
  | _, _, [], .nil, _ => .nil
  | _, _, _ :: _, .nil, h => by cases h
  | _, _, [], .cons _ _, h => by cases h
  | _, _, b :: bs, .cons h1 h2, h => by
    rw [List.map_cons, List.map_cons] at h
    obtain ⟨e1, e2⟩ := List.cons.inj h
    refine .cons ⟨_, rfl, ?_⟩ (each_of h2 e2)
    have h3 := h1.2.1
    rw [e1] at h3
    exact h3
theorem vals_of_each {H : Hp} : ∀ {vs : List Value} {bs : List (Str × Str)}, PySem.W.EachIs (fun v b => ∃ q, v = Value.ref q ∧ AtP H q b) vs bs → ∃ qs : List Addr, vs = qs.map Value.ref ∧ Vals (qs.map V.ref) vs ∧ Paired (AtP H) qs bs
  | _, _, .nil => ⟨[], rfl, .nil, .nil⟩
  | _, _, .cons ⟨q, e, h⟩ t => by
    obtain ⟨qs, e1, e2, e3⟩ := vals_of_each t
    exact ⟨q :: qs, by rw [e, e1]; rfl, by rw [e]; exact .cons rfl e2, .cons h e3⟩
section
variable {X : Cx}
theorem call_sortedDT (hcalm : X.calm = true) (hu : X.A.units + 64 < cLine) : CallR X (.builtin "sorted") (fun xs H Q => ∃ (a : Addr) (kvs : List (List Key × V)) (bs : List (Str × Str)), xs = [.ref a] ∧ Rd H a (.dT kvs) ∧ kvs.map (·.1) = bs.map pk ∧ bs.length ≤ 1000 ∧
    ∀ qs p, Paired (AtP H) qs (pSort bs) → H p = none → Q (.ref p) (upd H p (.lst (qs.map V.ref)))) := by
  intro pins s σ H xs us Q I r q
  obtain ⟨a, kvs, bs, ex, hd, hks, hz, q⟩ := q
  subst ex
  obtain ⟨u, eu, rx⟩ := vals1 r
  subst eu
  cases rx
  obtain ⟨z, hs, ks, pr, o, es, ep, ho, hx, hdt, he, hn⟩ := (show ObjOk X.prog X.w H s.heap a (.dT kvs) from hd.ok I.hok)
  have l1 : es.size = ks.length := size_of_entries he
  have l2 : kvs.length = ks.length := Paired.length pr
  have l3 : kvs.length = bs.length := by
    have e := congrArg List.length hks
    rwa [List.length_map, List.length_map] at e
  have h16 : es.size ≤ sizeLine := by rw [l1, ← l2, l3, sizeLine_eq]; omega
  refine Calls.call_function_entry PyProof.Rows.kind_sorted PyProof.Rows.plain_sorted PyProof.Rows.entry_sorted (PyProof.Rows.args_sorted1 _) ?_
  unfold Builtin.«sorted»
  refine wpAny_bind (m := checkCount "sorted" 1 1 _) (wpAny_pure ?_)
  refine wpAny_bind (PySem.W.kdu_collect (A := X.A.in1) (kdl_raw hs hx hdt) (I.ok.hd hcalm) ho h16 fun h' tk acc hk hacc => ?_)
  have ea : acc.toList = ks.map fun x => Value.ref x.2.1 := by
    have hl : acc.toList.length = ks.length := by rw [Array.length_toList, hacc.1]; exact l1
    apply List.ext_getElem?
    intro j
    rw [List.getElem?_map]
    cases hj : acc.toList[j]? with
    | none =>
      have h1 := List.getElem?_eq_none_iff.mp hj
      rw [List.getElem?_eq_none (by omega)]
      rfl
    | some v =>
      obtain ⟨en, hen, hv⟩ := hacc.2 j v (by rw [← Array.getElem?_toList]; exact hj)
      have qe := entry_at he j
      rw [hen] at qe
      cases hb : ks[j]? with
      | none =>
        rw [hb] at qe
        exact nomatch (show some en = none from qe)
      | some b =>
        rw [hb] at qe
        have e2 : en = entryOfKey (tupleKind (mixKind X.prog X.w)) b := Option.some.inj qe
        rw [hv, e2]
        rfl
  have e0 : PySem.W.EachIs (fun v b => ∃ q, v = Value.ref q ∧ AtP H q b) acc.toList bs := by rw [ea]; exact each_of pr hks
  have I1 : Inv X pins σ H { s with heap := h', toks := tk } := I.kept hk
  have hal : acc.toList.length = bs.length := e0.length
  refine wpAny_bind (wpAny_newList ?_ (by rw [hal, sizeLine_eq]; omega))
  have hoL : (h'.push (seqObj "list" acc.toList.toArray 0)).get? h'.objs.size = some (seqObj "list" acc.toList.toArray 0) := Heap.get?_push_size _ rfl
  show wpAny _ _ _ _ _ { s with heap := h'.push (seqObj "list" acc.toList.toArray 0), toks := tk }
  have k2 : ∀ b o, h'.get? b = some o → (h'.push (seqObj "list" acc.toList.toArray 0)).get? b = some o := fun b o e => Heap.get?_push_of_some _ e
  have hok2 : HOk X.prog X.w H (h'.push (seqObj "list" acc.toList.toArray 0)) := I1.hok.kept k2
  have er : PySem.W.EachIs (fun v b => ∃ as, Reads (h'.push (seqObj "list" acc.toList.toArray 0)) v (encP b) as ∧ h'.objs.size ∉ as) acc.toList bs := e0.mono fun v b ⟨q, e, h⟩ => ⟨[], by rw [e]; exact reads_pair hok2 h, by simp⟩
  refine wpAny_bind (wpAny_holding (PySem.W.list_sort_data (s := { s with heap := h'.push (seqObj "list" acc.toList.toArray 0), toks := tk }) (enc := encP) hoL e0 er (PySem.W.AllAlike.of encP_alike) (PySem.W.Sortable.tuples fun b => ⟨_, _, rfl⟩) (by rw [sizeLine_eq]; omega) (fun b _ => ?_) fun out hlen eo => ?_))
  · have := encP_depth b
    simp only [Around.in1_units]
    omega
  obtain ⟨qs, e1, e2, e3⟩ := vals_of_each eo
  obtain ⟨e', he'⟩ := PyProof.Rows.sortedHeap_at (vs := acc.toList) (out := out.toArray) hoL
  have hlen2 : (qs.map V.ref).length ≤ sizeLine := by
    rw [e2.length, hlen, sizeLine_eq]
    omega
  refine wpAny_pure ⟨_, rfl, .ref h'.objs.size, upd H h'.objs.size (.lst (qs.map V.ref)), I1.laid (t' := tk) (fun b u e => ?_) (Nat.le_refl _)
    (show ObjOk X.prog X.w _ _ _ (.lst (qs.map V.ref)) from ⟨hlen2, out, e', e2, he'⟩), rfl, q qs _ e3 (I1.hok.fresh (Nat.le_refl _))⟩
  have hb : b < h'.objs.size := Heap.lt_size e
  rw [PyProof.Rows.sortedHeap_old (Nat.ne_of_lt hb) (by rw [size_push']; exact Nat.lt_succ_of_lt hb)]
  exact Heap.get?_push_of_some _ e
/-! ### dict(pairs) where the keys are tuples, all unlike -/
theorem tupPairs_of {pins : List (Addr × Obj)} {σ : L2.St} {H : Hp} {s : Shared} (I : Inv X pins σ H s) : ∀ {ts : List Addr} {kvs : List (List Key × V)}, Paired (fun t kv => ∃ q, SqT X.K H t [.ref q, kv.2] ∧ H q = some (.tup (kv.1.map kV))) ts kvs →
    ∃ xs : List (List Key × Addr × Value), KT H kvs xs ∧ xs.length = ts.length ∧ ∀ (j : Nat) (x : List Key × Addr × Value), xs[j]? = some x → ∃ t, ts[j]? = some t ∧ IsTup s.heap t #[.ref x.2.1, x.2.2] ∧ H x.2.1 = some (.tup (x.1.map kV))
  | _, _, .nil => ⟨[], .nil, rfl, fun j q e => by simp at e⟩
  | _, _, .cons (a := t) (b := kv) h r => by
    obtain ⟨xs, r1, hl, hp⟩ := tupPairs_of I r
    obtain ⟨q, hq, hk⟩ := h
    obtain ⟨its, rv, ht, _⟩ := I.tuple hq
    obtain ⟨u, y, ei, ru, ry⟩ := vals2 rv
    subst ei
    obtain rfl : u = Value.ref q := ru
    refine ⟨(kv.1, q, y) :: xs, .cons ⟨rfl, hk, ry⟩ r1, by rw [List.length_cons, List.length_cons, hl], fun j x e => ?_⟩
    cases j with
    | zero =>
      obtain rfl : (kv.1, q, y) = x := Option.some.inj e
      exact ⟨t, rfl, ht, hk⟩
    | succ j =>
      obtain ⟨t', e1, e2⟩ := hp j x (by simpa using e)
      exact ⟨t', by simpa using e1, e2⟩
theorem stored_snoc : ∀ (ps acc : List (List Key × Addr × Value)), ((acc ++ ps).map (·.1)).Nodup → PySem.storedAllH acc ps = acc ++ ps
  | [], acc, _ => by simp [PySem.storedAllH]
  | p :: r, acc, h => by
    have e : PySem.storedH acc p.1 p.2.1 p.2.2 = acc ++ [p] := by
      refine PySem.storedH_new ?_ _ _
      have nm : p.1 ∉ acc.map (·.1) := by
        rw [List.map_append, List.map_cons] at h
        intro m
        exact (List.nodup_append.mp h).2.2 _ m _ List.mem_cons_self rfl
      unfold PySem.atKey
      rw [List.find?_eq_none.mpr]
      · rfl
      · intro x hx e
        exact nm (List.mem_map.mpr ⟨x, hx, of_decide_eq_true e⟩)
    have h2 : ((acc ++ [p] ++ r).map (·.1)).Nodup := by simpa using h
    have e2 := stored_snoc r (acc ++ [p]) h2
    show PySem.storedAllH (PySem.storedH acc p.1 p.2.1 p.2.2) r = _
    rw [e, e2]
    simp
theorem keys_eq {H : Hp} : ∀ {kvs : List (List Key × V)} {xs : List (List Key × Addr × Value)}, KT H kvs xs → kvs.map (·.1) = xs.map (·.1)
  | _, _, .nil => rfl
  | _, _, .cons h t => by rw [List.map_cons, List.map_cons, h.1, keys_eq t]
theorem call_dictPT (hcalm : X.calm = true) (hu : X.A.units + 64 < cLine) : CallR X (.type "dict") (fun xs H Q => ∃ (a : Addr) (ts : List Addr) (kvs : List (List Key × V)), xs = [.ref a] ∧ SqL X.K H a (ts.map V.ref) ∧ Paired (fun t kv => ∃ q, SqT X.K H t [.ref q, kv.2] ∧ H q = some (.tup (kv.1.map kV))) ts kvs ∧
    (kvs.map (·.1)).Nodup ∧ ∀ p, H p = none → Q (.ref p) (upd H p (.dT kvs))) := by
  intro pins s σ H xs us Q I r q
  obtain ⟨a, ts, kvs, ex, hq, hp, nd, q⟩ := q
  subst ex
  obtain ⟨u, eu, rx⟩ := vals1 r
  subst eu
  cases rx
  obtain ⟨its, rv, pl, hz⟩ := I.list hq
  have ei := refs_at rv
  subst ei
  rw [List.length_map] at hz
  obtain ⟨ps, kt, hl, hpr⟩ := tupPairs_of I hp
  obtain ⟨o, n, ho, hc, hd, hdat⟩ := pl
  have len2 : (ps.map fun x => (Value.ref x.2.1, x.2.2)).length = ts.length := by rw [List.length_map, hl]
  have P := PairArg.list (prog := X.prog) (w := X.w) a (ts.map Value.ref).toArray (fun j => ts.getD j 0) (ps.map fun x => (Value.ref x.2.1, x.2.2))
  refine call_dict_pairsH (knd := tupleKind (mixKind X.prog X.w)) (ps := ps) P (I.ok.hd hcalm) (by show _ + 1 < cLine; simp only [Around.in1_units]; omega) ⟨⟨o, n, ho, hc, hd, hdat⟩, by simp [hl], fun j k v e => ?_⟩ ⟨by simp, fun i k v e => ?_⟩ (fun h' hk x hx => ?_) (by rw [len2]; exact hz) fun h' tk hd' hk => ?_
  · rw [List.getElem?_map] at e
    obtain ⟨x, hx, e⟩ := Option.map_eq_some_iff.mp e
    obtain ⟨t, e1, e2, e3⟩ := hpr j x hx
    cases e
    have g : ts.getD j 0 = t := by rw [List.getD_eq_getElem?_getD, e1]; rfl
    exact ⟨by simp [e1], .inl (by show IsTup s.heap (ts.getD j 0) _; rw [g]; exact e2)⟩
  · have e : (ps.map fun x => (Value.ref x.2.1, x.2.2))[i]? = some (k, v) := e
    rw [List.getElem?_map] at e
    obtain ⟨x, hx, e⟩ := Option.map_eq_some_iff.mp e
    cases e
    exact ⟨x.1, x.2.1, hx, rfl⟩
  · obtain ⟨j, hj⟩ := List.mem_iff_getElem?.mp hx
    obtain ⟨t, e1, e2, e3⟩ := hpr j x hj
    have k0 := key_of (P := X.prog) (w := X.w) I.hok e3
    obtain ⟨o', items, n', g1, g2⟩ := k0
    exact ⟨o', items, n', hk _ _ (Nat.ne_of_lt (Heap.lt_size g1)) (by simp) g1, g2⟩
  · have hm : (s.heap.objs.size == sysModules) = false := beq_eq_false_iff_ne.mpr (Nat.ne_of_gt I.big)
    have nd2 : (ps.map (·.1)).Nodup := by rw [← keys_eq kt]; exact nd
    rw [stored_snoc ps [] (by simpa using nd2)] at hd'
    obtain ⟨o', es, ep, g1, g2, g3, g4, g5, g6⟩ := hd'
    have hlen : kvs.length ≤ sizeLine := by rw [Paired.length kt, hl]; exact hz
    have keep : ∀ b o, s.heap.get? b = some o → h'.get? b = some o := fun b o e => hk b o (by simp) e
    refine ⟨.ref s.heap.objs.size, upd H s.heap.objs.size (.dT kvs), I.laid (t' := tk) keep (Nat.le_refl _) (show ObjOk X.prog X.w _ _ _ (.dT kvs) from ⟨hlen, hm, ps, kt.keeps fun b ys e => ?_, o', es, ep, g1, g2, g3, g4, g6⟩), rfl, q _ (I.hok.fresh (Nat.le_refl _))⟩
    first
      | exact e
      | (rw [upd_ne (ne_of_none e (I.hok.fresh (Nat.le_refl _)))]; exact e)
end
end Sr

set_option Elab.async false
set_option linter.all false
set_option maxRecDepth 100000
set_option maxHeartbeats 4000000
namespace Sr
open PySem PySem.Spec PyProof.Rows L2
/-! ### several except clauses, each with a name for the error -/
abbrev Su := Addr → Value → Option Addr → TS
/-- a clause: the class, the slot of the name, what the suite does -/
abbrev Clause := Value × Nat × Su
/-- the ends of a suite: the name goes -/
def gone (i : Nat) (D : Ends) : Ends where
  nx := fun σ H => D.nx (σ.set i none) H
  rt := D.rt
  bk := fun σ H => D.bk (σ.set i none) H
  ct := fun σ H => D.ct (σ.set i none) H
def wNamed (K : PySem.W.Frag) (Wout : WX) (D : Ends) : List Clause → WX
  | [] => Wout
  | k :: r => fun cls d σ H => ∃ hit, PySem.W.exmOne K cls k.1 = some hit ∧
      (if hit = true then ∀ a, H a = none → k.2.2 a cls d (gone k.2.1 D) (σ.set k.2.1 (some (.ref a))) H else wNamed K Wout D r cls d σ H)
structure ClauseOk (X : Cx) (h : ExceptHandler) (k : Clause) : Prop where
  is_ : ∃ (x n : Str) (b₀ : Stmt) (rest : List Stmt) (p q : Pos), h = .ExceptHandler (some (.Name x p)) (some n) (b₀ :: rest) q ∧ Names X x k.1 ∧ X.N[k.2.1]? = some n ∧ X.env.kindOf n = some .local ∧
    ∀ (a : Addr) (oe : Obj) (cls : Value) (d : Option Addr) (pn : List (Addr × Obj)), Zc cls d oe → (∃ vs, oe.data = .fields vs) → PSs (X.suite a ((a, oe) :: pn)) (b₀ :: rest) (k.2.2 a cls d)
/-- an error has been caught: what stood stays, the error flies no more -/
def Fell (X : Cx) (pins : List (Addr × Obj)) (σ : L2.St) (H : Hp) (B : Heap) (a : Addr) (cls : Value) (d : Option Addr) (t : Shared) : Prop :=
  ∃ sI : Shared, Inv X pins σ H sI ∧ (∀ b o, sI.heap.get? b = some o → b ∉ frs X.stack → B.get? b = some o) ∧ sI.heap.UpToSlots t.heap ∧
    HandSPX.FlyingZ B (X.env :: X.outer) a (Zc cls d) t.heap ∧ H a = none ∧ t.os = sI.os ∧ AllBare t.gens
section
variable {X : Cx} {pins : List (Addr × Obj)} {σ : L2.St} {H : Hp} {B : Heap} {a : Addr} {cls : Value} {d : Option Addr} {t : Shared}
theorem Fell.inv (f : Fell X pins σ H B a cls d t) : Inv X pins σ H t := by
  obtain ⟨sI, I, nb, up, fl, _, os, ag⟩ := f
  exact I.landed nb fl.1 up os ag
theorem Fell.again (f : Fell X pins σ H B a cls d t) {h' : Heap} (fl' : HandSPX.FlyingZ B (X.env :: X.outer) a (Zc cls d) h') (up' : t.heap.UpToSlots h') : Fell X pins σ H B a cls d { t with heap := h' } := by
  obtain ⟨sI, I, nb, up, _, na, os, ag⟩ := f
  exact ⟨sI, I, nb, up.trans up', fl', na, os, ag⟩
theorem Fell.stands (f : Fell X pins σ H B a cls d t) (hf : X.env.frame = some X.env.locals) :
    ∃ oe, t.heap.get? a = some oe ∧ Zc cls d oe ∧ (∃ vs, oe.data = .fields vs) ∧ Inv (X.suite a ((a, oe) :: (X.pn ++ pins))) [] σ H t := by
  have J := f.inv
  obtain ⟨sI, I, nb, up, fl, na, os, ag⟩ := f
  obtain ⟨oe, vs, e, z, dd⟩ := fl.there
  have out : a ∉ frs (X.env :: X.outer) := fun m => by
    obtain ⟨_, o2, e2, nf⟩ := fl.2.2.1.mem m
    rw [e] at e2
    cases e2
    exact nf vs dd
  have o1 : a ≠ X.env.locals := fun z => out (List.mem_filterMap.mpr ⟨_, List.mem_cons_self, z ▸ hf⟩)
  have o2 : a ∉ X.fs := fun m => by
    obtain ⟨v, mv, ev⟩ := List.mem_filterMap.mp m
    exact out (List.mem_filterMap.mpr ⟨v, List.mem_cons_of_mem _ mv, ev⟩)
  exact ⟨oe, e, z, ⟨vs, dd⟩, J.suite e dd na o1 o2⟩
/-- no clause fits: the error flies on -/
theorem Fell.on (f : Fell X pins σ H B a cls d t) (hs : X.stack = X.env :: X.outer) (hf : X.env.frame = some X.env.locals) {Wout : WX} {D : Ends} (tk : Takes X Wout) (w : Wout cls d σ H) :
    wpAny (model X.prog X.w) X.A (handleBy (.ref a) X.env []) (SP X pins D) X.xe t := by
  obtain ⟨sI, I, nb, up, fl, na, os, ag⟩ := f
  obtain ⟨_, _, _, oe, vs, T, oT, ts, e, z, dd, v1, _⟩ := id fl
  have leaves : wpAny (model X.prog X.w) X.A (setFlight (.ref a) X.env.frame) (fun _ u => wpAny (model X.prog X.w) X.A (throw (.ref a) : Sem Flow) (SP X pins D) X.xe u) X.xe t := by
    rw [hf]
    exact HandSPX.setFlight_upZ fl fun h' held up' => wpAny_throw (tk _ _ ⟨a, B, sI, pins, σ, H, cls, d, rfl, I, nb, up.trans up', .inr (.inr (hs ▸ held)), na, os, ag, w⟩)
  refine wpAny_handleBy_nil ?_
  unfold PySem.passOn
  refine wpAny_bind (wpAny_field e dd v1 ?_)
  have no : ¬ ((Value.ref T == Value.none) = true) := by simp
  rw [if_neg no]
  first
    | exact wpAny_bind leaves
    | exact wpAny_bind (wpAny_pure (wpAny_bind leaves))
theorem Fell.cls_ (f : Fell X pins σ H B a cls d t) (hf : X.env.frame = some X.env.locals) {x : Str} {c : Value} {np : Pos} (hc : Names X x c) {Q : Value → Shared → Prop} {E : Value → Shared → Prop} (q : Q c t) :
    wpAny (model X.prog X.w) (X.A.mark (some (.ref a))) (eval (.Name x np) X.env) Q E t := by
  obtain ⟨oe, _, _, _, S⟩ := f.stands hf
  obtain ⟨g, nd, c1 | ⟨c1, c2, c3⟩⟩ := hc
  · exact ld_glob (X := X.suite a _) S g c1 q nd
  · exact ld_blt (X := X.suite a _) S g c1 c2 q c3 nd
theorem Fell.go {Wout : WX} {D : Ends} (hs : X.stack = X.env :: X.outer) (hf : X.env.frame = some X.env.locals) (hN : X.N.Nodup) (tk : Takes X Wout) : ∀ {hds : List ExceptHandler} {l : List Clause}, Paired (ClauseOk X) hds l → ∀ {t : Shared}, Fell X pins σ H B a cls d t →
    wNamed X.K Wout D l cls d σ H → wpAny (model X.prog X.w) X.A (handleBy (.ref a) X.env hds) (SP X pins D) X.xe t
  | _, _, .nil, _, f, w => f.on hs hf tk w
  | _, _, .cons hk r, t, f, w => by
    obtain ⟨x, n, b₀, rest, p, p', rfl, hc, hi, hl, body⟩ := hk.is_
    obtain ⟨hit, e1, w⟩ := w
    obtain ⟨oe, e, z, _, _⟩ := f.stands hf
    have looks : PySem.W.Looks (model X.prog X.w) t.heap (typeOf (.ref a)) cls := fun _ _ _ _ k q => wpAny_typeOf_ref (k _ _ e) (by rw [z.1]; exact q)
    have fits := PySem.W.exm_one (M := model X.prog X.w) f.inv.kIn looks e1
    refine wpAny_handleBy_cons (codeAny_handlers_test (f.cls_ hf hc (fits.here ?_))) fun q => by cases q
    cases hit with
    | false => exact Fell.go hs hf hN tk r f w
    | true =>
      refine codeAny_handlers_suite_as (HandSPX.lands_againZ (by obtain ⟨_, _, _, _, fl, _⟩ := f; exact fl) fun h' fl' up' => ?_)
      have f' := f.again fl' up'
      obtain ⟨oe2, _, z2, dd2, S⟩ := f'.stands hf
      have na : H a = none := by obtain ⟨_, _, _, _, _, na, _⟩ := f; exact na
      refine store_ok (X := X.suite a _) (v := .ref a) S hN hi (.inl hl) rfl (fun s5 S5 => ?_) (.inr hl)
      refine wpAny_mono ((body a oe2 cls d _ z2 dd2).run [] s5 _ H (gone _ D) S5 (w a na)) (fun fl s6 sp => ?_) fun _ _ z => z.elim
      have off : ∀ {σ6 : L2.St} {H6 : Hp} {Q : Shared → Prop}, Inv (X.suite a ((a, oe2) :: (X.pn ++ pins))) [] σ6 H6 s6 → (∀ s7, Inv X pins (σ6.set _ none) H6 s7 → Q s7) →
          wpAny (model X.prog X.w) X.A (do bindName X.env n .none; unbindBehindTheSuite X.env n p') (fun _ s7 => Q s7) X.xe s6 := fun S6 hq => gone_ok (S6.unsuite f.inv.ok) hN hi hl hq
      cases fl with
      | ret u =>
        obtain ⟨v6, _, _, S6, r6, q6⟩ := sp
        exact off S6 fun _ J => ⟨v6, _, _, J, r6, q6⟩
      | next => exact sp.elim fun _ y => y.elim fun _ y => off y.1 fun _ J => ⟨_, _, J, y.2⟩
      | brk => exact sp.elim fun _ y => y.elim fun _ y => off y.1 fun _ J => ⟨_, _, J, y.2⟩
      | cont => exact sp.elim fun _ y => y.elim fun _ y => off y.1 fun _ J => ⟨_, _, J, y.2⟩
end
/-- try: body, except x as n: .. except y as m: .. -/
theorem ps_try_named {X : Cx} {body : List Stmt} {h₀ : ExceptHandler} {hds : List ExceptHandler} {l : List Clause} {pos : Pos} {tb : WX → TS} {Wout : WX} (hs : X.stack = X.env :: X.outer) (hf : X.env.frame = some X.env.locals) (hN : X.N.Nodup) (tk : Takes X Wout)
    (hb : ∀ (W : WX) (pn : List (Addr × Obj)) (xe : Value → Shared → Prop), Takes (X.tr pn xe) W → PassesOwn (model X.prog X.w) X.A X.env xe → PSs (X.tr pn xe) body (tb W)) (hk : Paired (ClauseOk X) (h₀ :: hds) l) :
    PS X (.Try body (h₀ :: hds) [] [] pos) (fun D σ H => tb (wNamed X.K Wout D l) D σ H) := by
  refine ⟨fun pins s σ H D I h => wpAny_Try_except ?_⟩
  let xt : Value → Shared → Prop := fun e s₁ => wpAny (model X.prog X.w) X.A (noteFrame e X.env) (fun _ s₂ => wpAny (model X.prog X.w) X.A (setFlight e none)
    (fun _ s₃ => wpAny (model X.prog X.w) X.A (handleBy e X.env (h₀ :: hds)) (SP X pins D) X.xe s₃) X.xe s₂) X.xe s₁
  have takes : Takes (X.tr (X.pn ++ pins) xt) (wNamed X.K Wout D l) := fun u s' y => by
    obtain ⟨a, B, sI, pins', σ', H', cls, d, rfl, J', nb, up, sky, na, os, ag, w⟩ := y
    have hfr : X.A.frames = some (X.env :: X.outer) := I.ok.frames.trans (congrArg some hs)
    exact Sky.land Zc.steady hfr hf (hs ▸ sky) fun h3 fl3 up3 => Fell.go hs hf hN tk hk ⟨sI, J'.ofTry I.ok, nb, up.trans up3, fl3, na, os, ag⟩ w
  refine wpAny_mono ((hb _ _ xt takes PassesOwn.looking).run [] s σ H D (I.toTry _) h) (fun f s1 sp => ?_) fun _ _ he => he
  cases f with
  | ret u =>
    obtain ⟨v, _, _, J, r, q⟩ := sp
    exact ⟨v, _, _, J.ofTry I.ok, r, q⟩
  | next => exact sp.elim fun _ y => y.elim fun _ y => wpAny_execs_nil ⟨_, _, y.1.ofTry I.ok, y.2⟩
  | brk => exact sp.elim fun _ y => y.elim fun _ y => ⟨_, _, y.1.ofTry I.ok, y.2⟩
  | cont => exact sp.elim fun _ y => y.elim fun _ y => ⟨_, _, y.1.ofTry I.ok, y.2⟩
end Sr

set_option Elab.async false
set_option linter.all false
set_option maxRecDepth 100000
set_option maxHeartbeats 4000000
namespace Sr
open PySem PySem.Spec PyProof.Rows L2
/-! ### own errors below ValueError, at any depth of classes, with an own __init__ -/
def errSl (sl : Array (Option Value)) : Bool := match sl.toList with
  | [_, _, _, _, some (.builtin n), _] => decide (n = "ValueError.__new__")
  | _ => false
def errCl (C : Addr) (k : ClassData) : Bool := match k.mro with
  | .ref c :: r => decide (c = C) && (PySem.HandSPX.refsVE r && (k.hasDict && !k.hasDel))
  | _ => false
def errB (K : PySem.W.Frag) (C : Addr) : Bool := match K.lookup C with
  | some ⟨.type t, _, .cls k, sl⟩ => decide (t = "type") && (errCl C k && errSl sl)
  | _ => false
theorem errSl_ok {sl : Array (Option Value)} (h : errSl sl = true) : ∃ k0 k1 k2 k3 k5, sl = #[k0, k1, k2, k3, some (.builtin "ValueError.__new__"), k5] := by
  obtain ⟨l⟩ := sl
  unfold errSl at h
  match l, h with
  | [k0, k1, k2, k3, some (.builtin n), k5], h =>
    obtain rfl : n = "ValueError.__new__" := of_decide_eq_true h
    exact ⟨k0, k1, k2, k3, k5, rfl⟩
theorem errCl_ok {C : Addr} {k : ClassData} (h : errCl C k = true) : ∃ bm, k.mro = .ref C :: bm ∧ PySem.HandSPX.refsVE bm = true ∧ k.hasDict = true ∧ k.hasDel = false := by
  unfold errCl at h
  cases e : k.mro with
  | nil => rw [e] at h; cases h
  | cons c r =>
    rw [e] at h
    cases c with
    | ref c =>
      have h' : (decide (c = C) && (PySem.HandSPX.refsVE r && (k.hasDict && !k.hasDel))) = true := h
      obtain ⟨a1, a2⟩ := Bool.and_eq_true_iff.mp h'
      obtain ⟨a2, a3⟩ := Bool.and_eq_true_iff.mp a2
      obtain ⟨a3, a4⟩ := Bool.and_eq_true_iff.mp a3
      obtain rfl : c = C := of_decide_eq_true a1
      exact ⟨r, rfl, a2, a3, by simpa using a4⟩
    | _ => cases h
theorem errB_ok {K : PySem.W.Frag} {C : Addr} (h : errB K C = true) : ∃ nm q N bs bm sn sub ab col dd k0 k1 k2 k3 k5,
    K.lookup C = some (excClassObj nm q C N bs bm true sn sub ab col dd k0 k1 k2 k3 k5 "ValueError.__new__") ∧ PySem.HandSPX.refsVE bm = true := by
  unfold errB at h
  cases e : K.lookup C with
  | none => rw [e] at h; cases h
  | some o =>
    rw [e] at h
    obtain ⟨oc, od, dt, sl⟩ := o
    cases oc with
    | type t =>
      cases dt with
      | cls k =>
        have h' : (decide (t = "type") && (errCl C k && errSl sl)) = true := h
        obtain ⟨h1, h2⟩ := Bool.and_eq_true_iff.mp h'
        obtain ⟨h4, h5⟩ := Bool.and_eq_true_iff.mp h2
        obtain ⟨bm, m1, m2, m3, m4⟩ := errCl_ok h4
        obtain rfl : t = "type" := of_decide_eq_true h1
        obtain ⟨k0, k1, k2, k3, k5, rfl⟩ := errSl_ok h5
        obtain ⟨nm, bs, mro, N, q, hd, sn, sub, ab, col, del⟩ := k
        obtain rfl : mro = .ref C :: bm := m1
        obtain rfl : hd = true := m3
        obtain rfl : del = false := m4
        exact ⟨nm, q, N, bs, bm, sn, sub, ab, col, od, k0, k1, k2, k3, k5, rfl, m2⟩
      | _ => cases h
    | _ => cases h
/-- all that an own error's class must be, as one look -/
def errAll (K : PySem.W.Frag) (C f : Addr) (at_ : Str) : Bool := errB K C && (decide (PySem.W.findIn K (.ref C) "__setattr__" = some (some (.builtin "object.__setattr__"))) && (decide (PySem.W.subIn K (.ref C) (.type "BaseException") = some true) &&
  (decide (PySem.W.typeIn K (.ref C) = some (.type "type")) && (PySem.W.keepIn K (.ref C) && (decide (PySem.W.findIn K (.ref C) "__init__" = some (some (.ref f))) && (decide (PySem.W.typeIn K (.ref f) = some (.type "function")) &&
  (decide (PySem.W.findIn K (.ref C) at_ = some none) && xfB K C)))))))
structure Err (K : PySem.W.Frag) (C f : Addr) (at_ : Str) : Prop where
  oex : OexC K C
  init : PySem.W.findIn K (.ref C) "__init__" = some (some (.ref f))
  fn : PySem.W.typeIn K (.ref f) = some (.type "function")
  no : PySem.W.findIn K (.ref C) at_ = some none
  xf : XfC K C
theorem errAll_ok {K : PySem.W.Frag} {C f : Addr} {at_ : Str} (h : errAll K C f at_ = true) : Err K C f at_ := by
  obtain ⟨h1, h⟩ := Bool.and_eq_true_iff.mp h
  obtain ⟨h2, h⟩ := Bool.and_eq_true_iff.mp h
  obtain ⟨h3, h⟩ := Bool.and_eq_true_iff.mp h
  obtain ⟨h4, h⟩ := Bool.and_eq_true_iff.mp h
  obtain ⟨h5, h⟩ := Bool.and_eq_true_iff.mp h
  obtain ⟨h6, h⟩ := Bool.and_eq_true_iff.mp h
  obtain ⟨h7, h⟩ := Bool.and_eq_true_iff.mp h
  obtain ⟨h8, h9⟩ := Bool.and_eq_true_iff.mp h
  exact ⟨⟨errB_ok h1, of_decide_eq_true h2, of_decide_eq_true h3, of_decide_eq_true h4, h5⟩, of_decide_eq_true h6, of_decide_eq_true h7, of_decide_eq_true h8, xfB_ok h9⟩
/-- __init__(self, v): self.at_ = v -/
def spErr (K : PySem.W.Frag) (C : Addr) (at_ : Str) : Sp := fun vs H Q _ => ∃ a v, vs = [.ref a, v] ∧ H a = some (exo a C none) ∧ ∀ dx, H dx = none → dx ≠ a → Q .non (upd (upd H dx (exd dx [(at_, v)])) a (exo a C (some dx)))
/-- C(v) raised: the dict of the error stands -/
theorem err_at {K : PySem.W.Frag} {C : Addr} {at_ : Str} {v : V} {H1 : Hp} {Q : XK} (q : ∀ dx, H1 dx = none → Q (.ref C) (some dx) (upd H1 dx (.xd [(at_, v)]))) : [v].length ≤ 1000 ∧ ∀ a, H1 a = none → spErr K C at_ (.ref a :: ([v] ++ [])) (upd H1 a (exo a C none))
    (fun u H2 => u = .non ∧ ∃ (d : Addr) (fs : List (Str × V)), H2 a = some (exo a C (some d)) ∧ H2 d = some (exd d fs) ∧ H1 d = none ∧ Q (.ref C) (some d) (upd (del H2 a) d (.xd fs))) (fun _ _ _ => False) := by
  refine ⟨by simp, fun a ha => ⟨a, v, rfl, upd_same, fun dx hdx nd => ?_⟩⟩
  have h1 : H1 dx = none := (upd_ne nd).symm.trans hdx
  refine ⟨rfl, dx, [(at_, v)], upd_same, (upd_ne nd).trans upd_same, h1, ?_⟩
  have e : upd (del (upd (upd (upd H1 a (exo a C none)) dx (exd dx [(at_, v)])) a (exo a C (some dx))) a) dx (.xd [(at_, v)]) = upd H1 dx (.xd [(at_, v)]) := by
    funext b
    by_cases c : b = dx
    · rw [c, upd_same, upd_same]
    · rw [upd_ne c, upd_ne c]
      by_cases c2 : b = a
      · rw [c2, del_same, ha]
      · rw [del_ne c2, upd_ne c2, upd_ne c, upd_ne c2]
  rw [e]
  exact q dx h1
theorem pmk_err {X : Cx} {k k' : Nat} {C f : Addr} {at_ x : Str} {ps : List Str} {e : Expr} {ta : TA} {p pos : Pos} (E : Err X.K C f at_) (M : CalM X.prog X.w X.K X.mg X.base CX0 k f ps (spErr X.K C at_)) (hr : Room k' X.A) (hk : k + 1 ≤ k') (hg : Gl X x) (hm : X.mg x = some (.ref C)) (ha : PA X [e] ta)
    (hdb : (x == ("__debug__" : Str)) = false := by decide) (he : starEach [e] X.env = (false, eval e X.env) :: starEach [] X.env := by rfl) (hpl : (backTo pos (starEach [] X.env)).any (·.1) = false := by rfl) :
    PMk X (.Call (.Name x p) [e] [] pos) (tMkO C (spErr X.K C at_) [] ta) := by
  obtain ⟨fd, F, _, hb⟩ := M.ex
  exact pmk_oex (CX := CX0) E.oex E.init E.fn F (hr.mono hk) hb .nil (fun _ _ _ _ _ _ _ h => h.elim) hg hm ha hdb he hpl
/-- an own error that may be raised: its class, its __init__, its name -/
structure ErrAt (P : Program) (w : World) (K : PySem.W.Frag) (mg : Str → Option Value) (base : Heap) (x at_ p : Str) : Prop where
  e : Err K (He.ga K x) (He.fAd K (x, some "__init__")) at_
  m : CalM P w K mg base CX0 1 (He.fAd K (x, some "__init__")) ["self", p] (spErr K (He.ga K x) at_)
  g : mg x = some (.ref (He.ga K x))
theorem ErrAt.mk_ {X : Cx} {k : Nat} {x at_ q : Str} {e : Expr} {ta : TA} {p pos : Pos} (R : ErrAt X.prog X.w X.K X.mg X.base x at_ q) (hr : Room k X.A) (hk : 2 ≤ k) (hg : Gl X x) (ha : PA X [e] ta)
    (hdb : (x == ("__debug__" : Str)) = false := by decide) (he : starEach [e] X.env = (false, eval e X.env) :: starEach [] X.env := by rfl) (hpl : (backTo pos (starEach [] X.env)).any (·.1) = false := by rfl) :
    PMk X (.Call (.Name x p) [e] [] pos) (tMkO (He.ga X.K x) (spErr X.K (He.ga X.K x) at_) [] ta) := pmk_err R.e R.m hr hk hg R.g ha hdb he hpl
/-- a method that errors may leave -/
theorem DfnM.calE {P : Program} {w : World} {K : PySem.W.Frag} {mg : Str → Option Value} {base : Heap} {c m qual : Str} {st : Stmt} {N ps : List Str} {k : Nat} {sp : Sp} (D : DfnM K c m qual st) (S : FnScope N ps (defScope st))
    (hb : ∀ (kV doc pm : Value) (an : Option Addr) (cdv ct : Value) (us : List Value), us.length = ps.length → bindArgs (PySem.W.fnOf m qual (defArgs st) (defBody st) (defScope st) .none kV doc pm an cdv ct) ⟨us, []⟩ = pure (ps.zip us))
    (len : ∀ vs H Q E, sp vs H Q E → vs.length = ps.length)
    (body : ∀ (cdv : Value) (A : Around) (outer : List Env) (s : Shared) (H : Hp) (vs : List V) (Q : VK) (E : XK), Room k (A.deeper (envOfC qual (defScope st) s.heap.objs.size (He.fAd K (c, some m)) cdv)) → sp vs H Q E →
      ∃ t, PSs (cxOf (L2.CX P w) P w K mg base N qual (defScope st) (He.fAd K (c, some m)) cdv A outer s H E) (defBody st) t ∧ t { nx := fun _ H' => Q .non H', rt := Q } (start N vs) H) :
    CalM P w K mg base (L2.CX P w) (k + 1) (He.fAd K (c, some m)) ps sp := by
  obtain ⟨fd, F⟩ := D.fn
  exact ⟨fd, F.ok S len body, F.kp, F.bindsN hb⟩
theorem op_notHas {X : Cx} {k k' : Nat} {C f : Addr} {ps : List Str} {sp : Sp} (M : CalM X.prog X.w X.K X.mg X.base CX0 k f ps sp) (hr : Room k' X.A) (hk : k ≤ k') (hs : Has X.K C f)
    (hm : ∀ x y H Q Q' E, (∀ v H', Q v H' → Q' v H') → sp [x, y] H Q E → sp [x, y] H Q' E) : OpR X (compareOp .NotIn) (rInOwn C sp E0 true) := by
  obtain ⟨fd, F, _, hb⟩ := M.ex
  intro pins s σ H x y v u Q I rx ry h
  obtain ⟨a, dx, fs, e, ha, hsp⟩ := h
  show wpAny _ _ (do return Value.bool (!(← contains u v))) _ _ _
  refine wpAny_bind (own_in F (hr.mono hk) hs hb pass0 (Q := fun b s' => wpAny (model X.prog X.w) X.A (pure (Value.bool (!b))) (EP X pins σ Q) X.xe s') I rx ry ⟨a, dx, fs, e, ha, hm _ _ _ _ _ _ (fun z H' hz => ?_) hsp⟩)
  obtain ⟨b, rfl, hq⟩ := hz
  exact ⟨b, rfl, fun s' I' => wpAny_pure ⟨.bl (!b), H', I', rfl, hq⟩⟩
end Sr

set_option Elab.async false
set_option linter.all false
set_option maxRecDepth 100000
set_option maxHeartbeats 4000000
namespace Sr
open PySem PySem.Spec PyProof.Rows L2
/-! ### defs that errors may leave -/
structure CalE (P : Program) (w : World) (K : PySem.W.Frag) (mg : Str → Option Value) (base : Heap) (k : Nat) (x : Str) (ps : List Str) (sp : Sp) : Prop where
  ex : ∃ (f : Addr) (fd : FuncData), FnOk P w K mg base (L2.CX P w) k f fd ps sp ∧ mg x = some (.ref f) ∧ PySem.W.keepIn K (.ref f) = true ∧ Binds K fd ps []
theorem pe_calE {X : Cx} {k k' : Nat} {x : Str} {ps : List Str} {sp : Sp} {E : XK} {p pos : Pos} {e : Expr} {es : List Expr} {t : TA} (C : CalE X.prog X.w X.K X.mg X.base k x ps sp) (hr : Room k' X.A) (hk : k ≤ k') (hg : Gl X x) (hx : Passes (L2.CX X.prog X.w) X E) (ha : PA X (e :: es) t)
    (hdb : (x == ("__debug__" : Str)) = false := by decide) (he : starEach (e :: es) X.env = (false, eval e X.env) :: starEach es X.env := by rfl) (hpl : (backTo pos (starEach es X.env)).any (·.1) = false := by rfl) :
    PE X (.Call (.Name x p) (e :: es) [] pos) (tCall sp [] E t) := by
  obtain ⟨f, fd, F, hm, hkp, hb⟩ := C.ex
  exact pe_call F (hr.mono hk) hg hm hkp hb .nil hx ha hdb he hpl
theorem Dfn.calE {P : Program} {w : World} {K : PySem.W.Frag} {mg : Str → Option Value} {base : Heap} {x : Str} {st : Stmt} {N ps : List Str} {k : Nat} {sp : Sp} (D : Dfn K mg x st) (S : FnScope N ps (defScope st))
    (hb : ∀ (kV doc pm : Value) (an : Option Addr) (cdv ct : Value) (us : List Value), us.length = ps.length → bindArgs (PySem.W.fnOf x x (defArgs st) (defBody st) (defScope st) .none kV doc pm an cdv ct) ⟨us, []⟩ = pure (ps.zip us))
    (len : ∀ vs H Q E, sp vs H Q E → vs.length = ps.length)
    (body : ∀ (cdv : Value) (A : Around) (outer : List Env) (s : Shared) (H : Hp) (vs : List V) (Q : VK) (E : XK), Room k (A.deeper (envOfC x (defScope st) s.heap.objs.size (He.ga K x) cdv)) → sp vs H Q E →
      ∃ t, PSs (cxOf (L2.CX P w) P w K mg base N x (defScope st) (He.ga K x) cdv A outer s H E) (defBody st) t ∧ t { nx := fun _ H' => Q .non H', rt := Q } (start N vs) H) :
    CalE P w K mg base (k + 1) x ps sp := by
  obtain ⟨fd, F⟩ := D.fn
  exact ⟨_, fd, F.ok S len body, D.at_, F.kp, F.bindsN hb⟩
/-- where the callee's contract lets no error out -/
theorem passes_never {X : Cx} : Passes (L2.CX X.prog X.w) X E0 := fun _ _ _ _ _ _ _ c => by
  obtain ⟨_, _, _, _, _, _, _, _, _, _, _, _, h⟩ := c
  exact h.elim
/-- within a def that errors may leave -/
theorem passes_def {X : Cx} {E : XK} {E₁ : Value → Shared → Prop} (hs : X.stack = X.env :: X.outer) (hf : X.env.frame = some X.env.locals) (hex : X.ex = [])
    (hx : X.xe = fun e s' => wpAny (model X.prog X.w) X.A (leaving X.env e) (fun _ s'' => L2.CX X.prog X.w X.outer X.H_0 X.s_0 E e s'') E₁ s') : Passes (L2.CX X.prog X.w) X E :=
  passes_call (takes_of hs hf hex hx) fun _ _ _ _ h => h
end Sr

set_option Elab.async false
set_option linter.all false
set_option maxRecDepth 100000
set_option maxHeartbeats 4000000
namespace Sr
open PySem PySem.Spec PyProof.Rows L2
open Sem (wp)
/-! ### enumerate(tuple) -/
theorem meets_enumerate_newT {v : Value} {o : Obj} {H : Heap → Prop} (B : Begins v o H) :
    Meets (Builtin.«enumerate.__new__» ⟨[.type "enumerate", v], []⟩) (fun _ R s => H s.heap ∧
      R (.ok (.ret (.ref (s.heap.push o).objs.size))) { s with heap := (s.heap.push o).push { cls := .type "enumerate", data := .fields #[.none, .bool false, .ref s.heap.objs.size, rawInt 0, .none, .none] } }) :=
  .of_wp fun prog w A R s h => by
    obtain ⟨hp, g, d, tk, os⟩ := s; obtain ⟨h1, h⟩ := h
    have hsub := sub_enumerate
    have q1 : ∀ {A' : Around} {E : Value → Shared → Prop} {Q : Value → Shared → Prop}, Q (.ref hp.objs.size) ⟨hp.push o, g, d, tk, os⟩ → wpAny (model prog w) A' (pyIter v) Q E ⟨hp, g, d, tk, os⟩ :=
      fun q => B.iter prog w _ _ ⟨hp, g, d, tk, os⟩ _ h1 q
    wp_walk using q1
    refine wpAny_stack_any fun st => wpAny_pure ?_
    split
    · rename_i c _ _ _ _ _
      cases (c == Value.type "enumerate")
      · wp_walk using q1
        exact ⟨_, rfl, h⟩
      · wp_walk using q1
        exact ⟨_, rfl, h⟩
    · wp_walk using q1
      exact ⟨_, rfl, h⟩
section
variable {prog : Program} {w : World} {A : Around} {E : Value → Shared → Prop} {s : Shared}
theorem enumT_begins {v : Value} {o : Obj} {H : Heap → Prop} {Q : Value → Shared → Prop} (B : Begins v o H) (h1 : H s.heap)
    (h : ∀ h', IsEnum h' (s.heap.objs.size + 1) s.heap.objs.size 0 .none → h'.get? s.heap.objs.size = some o → h'.objs.size = s.heap.objs.size + 2 →
      (∀ b o, s.heap.get? b = some o → h'.get? b = some o) → Q (.ref (s.heap.objs.size + 1)) { s with heap := h' }) :
    wpAny (model prog w) A (call (.type "enumerate") [v]) Q E s := by
  refine callType_new PySem.F.called_enumerate (by decide) (PySem.F.typeCall_enumerate_1 _) (PySem.F.newCall_enumerate_1 _) (fun obj => PySem.F.args_object_init_2 obj _) PySem.F.entry_enumerate_new
    (meets_enumerate_newT B) ⟨h1, ?_⟩
  have hz : (s.heap.push o).objs.size = s.heap.objs.size + 1 := Heap.size_push ..
  show _ ∧ _
  rw [hz]
  have he : IsEnum ((s.heap.push o).push { cls := .type "enumerate", data := .fields #[.none, .bool false, .ref s.heap.objs.size, rawInt 0, .none, .none] }) (s.heap.objs.size + 1) s.heap.objs.size 0 .none := by
    have := Heap.get?_push_size (s.heap.push o) (o := { cls := .type "enumerate", data := .fields #[.none, .bool false, .ref s.heap.objs.size, rawInt 0, .none, .none] }) rfl
    rw [hz] at this; exact this
  refine ⟨⟨_, he, rfl⟩, h _ he (Heap.get?_push_of_some _ (Heap.get?_push_size _ B.free)) (by rw [Heap.size_push, hz]) fun b o x => Heap.get?_push_of_some _ (Heap.get?_push_of_some _ x)⟩
end
theorem enum_endT {prog : Program} {w : World} {A : Around} {E : Value → Shared → Prop} {s : Shared} {e it t : Addr} {j : Nat} {items : Array Value} {i : Int} {old : Value} {Q : Option Value → Shared → Prop} (hh : A.in1.handled = none)
    (he : IsEnum s.heap e it i old) (hit : s.heap.IsTupleIter it t j) (ht : s.heap.IsTuple t items) (hx : items[j]? = none)
    (hQ : ∀ h', Heap.ExtBut it s.heap h' → Q none { s with heap := h' }) : wpAny (model prog w) A (pyNext (.ref e)) Q E s := by
  have hT : s.TypeIs (.ref e) "enumerate" := ⟨_, he, rfl⟩
  unfold pyNext
  refine wpAny_bind (wpAny_attempt (wpAny_callSpecial?_slot (name := Str.ofString "__next__") hT PySem.F.slot_enumerate_next
    (wpAny_call_entry PySem.F.slot_enumerate_next hT PySem.F.entry_enumerate_next ?_ (PySem.F.args_enumerate_next_1 _))))
  show wpAny _ _ (field (.ref e) 2 >>= _) _ _ _
  refine wpAny_bind (wpAny_field he rfl (x := .ref it) rfl ?_)
  refine wpAny_bind (wpAny_nextOf_tuple_end hh hit ht hx fun h' x he' hx' => ?_)
  obtain ⟨o, ho, hc⟩ := hx'
  refine wpAny_bind (wpAny_isInstance (T := "StopIteration") (b := true) ⟨o, ho, hc⟩ isSubtype_stop ?_)
  exact wpAny_pure (hQ _ he')
/-- the tuple at a, each item in a new pair -/
def Itet (K : PySem.W.Frag) (a : Addr) : It :=
  ⟨fun i H => ∃ (xs : List V) (x : V), SqT K H a xs ∧ xs[i]? = some x, fun i H v H' => ∃ T x, v = .ref T ∧ H T = none ∧ H' = upd H T (.tup [.int (i : Nat), x]) ∧ ∀ xs, SqT K H a xs → xs[i]? = some x, fun i H => ∃ xs : List V, SqT K H a xs ∧ xs.length ≤ i⟩
theorem turn_enumT {P : Program} {w : World} {K : PySem.W.Frag} {elts : List Expr} {kk : Nat} {tpos : Pos} (a e it : Addr) :
    Turn P w K (.Tuple elts kk tpos) (Itet K a) [e, it] e (fun i h => (∃ old, IsEnum h e it ((i : Nat) : Int) old) ∧ h.IsTupleIter it a i ∧ e ≠ it) where
  mem := by simp
  obj := fun i h st b hb => by
    obtain ⟨⟨old, he⟩, ⟨o, ho, hc, hd⟩, _⟩ := st
    have e' : b = e ∨ b = it := by simpa using hb
    rcases e' with z | z
    · rw [z]; exact ⟨_, he, fun v q => nomatch q⟩
    · rw [z]; exact ⟨o, ho, fun v q => by rw [hd] at q; cases q⟩
  keep := fun i h h' st k => let ⟨⟨old, he⟩, hi, hne⟩ := st; ⟨⟨old, k e (by simp) _ he⟩, hi.at fun o q => k it (by simp) o q, hne⟩
  item := by
    intro X hP hw hK hc i pins s σ H E I hf st hg
    subst hP hw hK
    obtain ⟨⟨old, he⟩, hit, hne⟩ := st
    obtain ⟨xs, x, hq, hx⟩ := hg
    obtain ⟨its, rv, p, hz⟩ := I.tuple hq
    obtain ⟨u, hu, ru⟩ := rv.get hx
    have hel : e < s.heap.objs.size := Heap.lt_size he
    have hil : it < s.heap.objs.size := by obtain ⟨_, q, _⟩ := hit; exact Heap.lt_size q
    have hai : a ≠ it := fun z => by
      obtain ⟨o1, g1, g2, _⟩ := p
      obtain ⟨o2, g3, g4, _⟩ := hit
      rw [z, g3] at g1
      cases g1
      rw [g2] at g4
      injection g4 with g4
      exact absurd g4 (by decide)
    have hea : e ≠ a := fun z => by
      obtain ⟨o1, g1, g2, _⟩ := p
      have he2 : s.heap.get? a = _ := z ▸ he
      rw [he2] at g1
      cases g1
      injection g2 with g2
      exact absurd g2 (by decide)
    have D := Draws.tuple (prog := X.prog) (w := X.w) (A := X.A.in1) (I.ok.hd hc) it a hai its.toArray
    have hlt : i < its.toArray.size := by
      have := (List.getElem?_eq_some_iff.mp hu).1
      simpa using this
    refine wpAny_pyNext_enum_itemC D he ⟨hit, p⟩ hlt hne (by simp [hne, hea]) fun y h' tk hP ho hst' hT hsz hk => ?_
    have ey : y = u := by
      have hP : its.toArray[i]? = some y := hP
      rw [List.getElem?_toArray, hu] at hP
      exact (Option.some.inj hP).symm
    subst ey
    refine ⟨_, rfl, wpAny_letOwnedTupleGo_enum (s := { s with heap := h', toks := tk + 1 }) ho fun h'' he' sb => ?_⟩
    have hT2 : h''.get? s.heap.objs.size = some { cls := .type "tuple", data := .seq #[.int i tk, y] } := (sb.2 _ (Nat.ne_of_gt hel)).trans hT
    have new : ObjOk X.prog X.w (upd H s.heap.objs.size (.tup [.int (i : Nat), x])) h'' s.heap.objs.size (.tup [.int (i : Nat), x]) :=
      ⟨by show 2 ≤ sizeLine; decide, [.int i tk, y], .cons ⟨_, rfl⟩ (.cons ru .nil), ⟨_, hT2, rfl, _, rfl⟩⟩
    have I1 : L2.Inv X pins σ (upd H s.heap.objs.size (.tup [.int (i : Nat), x])) { s with heap := h'', toks := tk + 1 } :=
      I.turnedNew (ch := [e, it]) (fun b ob hb q => (sb.2 b (fun z => hb (by simp [z]))).trans (hk b ob (fun z => hb (by simp [z])) (fun z => hb (by simp [z])) q)) hf (Nat.le_refl _) new
    refine ⟨.ref s.heap.objs.size, _, I1, rfl, ⟨_, x, rfl, I.hok.fresh (Nat.le_refl _), rfl, fun ys hy => by rw [I.tuple_inj hy hq]; exact hx⟩, ⟨⟨y, ?_⟩, hst'.1.at fun o q => (sb.2 it (Ne.symm hne)).trans q, hne⟩, fun b hb => ?_⟩
    · have e1 : ((i + 1 : Nat) : Int) = (i : Int) + 1 := by omega
      rw [e1]; exact he'
    · have hb' : b < s.heap.objs.size := by
        have e' : b = e ∨ b = it := by simpa using hb
        rcases e' with z | z
        · rw [z]; exact hel
        · rw [z]; exact hil
      rw [upd_ne (Nat.ne_of_lt hb')]
      exact (hf b hb).1
  done := by
    intro X hP hw hK hc i pins s σ H E I hf st hg
    subst hP hw hK
    obtain ⟨⟨old, he⟩, hit, hne⟩ := st
    obtain ⟨xs, hq, hx⟩ := hg
    obtain ⟨its, rv, p, hz⟩ := I.tuple hq
    obtain ⟨f0, f1, f2, f3, f4, f5⟩ := hf it (by simp)
    have hl := rv.length
    refine enum_endT (I.ok.hd hc) he hit (show s.heap.IsTuple a its.toArray from p) (by simp; omega) fun h' eb => ⟨rfl, I.turned (t' := s.toks) (fun b o hb q => eb b o hb q) f0 f1 f3 f4 f5⟩
  self := fun A i s Q E st h => let ⟨⟨_, he⟩, _⟩ := st; wpAny_pyIter_enum he h
def iEnumT (K : PySem.W.Frag) (ta : TA) : TI := fun σ H R => ta σ H fun vs H1 => ∃ a xs, vs = [.ref a] ∧ SqT K H1 a xs ∧ R (Itet K a) H1
theorem pi_enumT {X : Cx} {e : Expr} {ta : TA} {p pos tpos : Pos} {elts : List Expr} {kk : Nat} (hg : Gl X "enumerate") (hm : X.mg "enumerate" = none) (ha : PA X [e] ta) (hs : starEach [e] X.env = [(false, eval e X.env)] := by rfl) :
    PI X (.Tuple elts kk tpos) (.Call (.Name "enumerate" p) [e] [] pos) (iEnumT X.K ta) := by
  refine ⟨fun pins s σ H R I h => ?_⟩
  refine Call_ (ld_blt I hg hm boot_enumerate (PyProof.Rows.callWith_type1 (thn (ha.run pos pins s σ H _ I h) fun us s1 ⟨vs, H1, I1, r1, q1⟩ => ?_) hs rfl))
  obtain ⟨a, xs, ex, hq, q⟩ := q1
  subst ex
  cases r1 with
  | cons r rr =>
    cases rr
    cases r
    obtain ⟨its, rv, p', hz⟩ := I1.tuple hq
    refine enumT_begins (begins_tuple a its.toArray) (show s1.heap.IsTuple a its.toArray from p') fun h' he hit hsz hk => wpAny_pyIter_enum he ?_
    have I2 : L2.Inv X pins σ H1 { s1 with heap := h' } := I1.kept (t' := s1.toks) hk
    refine ⟨s1.heap.objs.size + 1, [s1.heap.objs.size + 1, s1.heap.objs.size], _, _, H1, rfl, I2, turn_enumT a (s1.heap.objs.size + 1) s1.heap.objs.size, ⟨⟨.none, he⟩, ⟨_, hit, rfl, rfl⟩, Nat.succ_ne_self _⟩, fun b hb => ?_, q⟩
    have e' : b = s1.heap.objs.size + 1 ∨ b = s1.heap.objs.size := by simpa using hb
    have hle : s1.heap.objs.size ≤ b := by
      rcases e' with z | z
      · rw [z]; exact Nat.le_add_right _ _
      · rw [z]; exact Nat.le_refl _
    exact I1.fpOk hle (I1.hok.fresh hle)
theorem walk_enumT {K : PySem.W.Frag} {a : Addr} {xs : List V} : Walk (Itet K a) xs.length (fun H => SqT K H a xs) (YPair (fun i => some (.int (i : Nat))) (fun i => xs[i]?)) := by
  refine ⟨fun i _ hi q => ⟨xs, xs[i], q, by simp [hi]⟩, fun _ q => ⟨xs, q, Nat.le_refl _⟩, fun i H v H' _ q y => ?_⟩
  obtain ⟨T, x, h1, h2, h3, h4⟩ := y
  exact ⟨T, .int (i : Nat), x, h1, h2, h3, rfl, h4 xs q⟩
end Sr

set_option Elab.async false
set_option linter.all false
set_option maxRecDepth 100000
set_option maxHeartbeats 4000000
namespace Sr
open PySem PySem.Spec PyProof.Rows L2 LamX
/-! ### a def that calls what it got within a try, and tells what is told or refused -/
/-- try: return (s1, a()) / except CS as e: return (s2, e.at_) -/
def TTried (CS : Addr) (at_ : Str) (s1 s2 : Str) : (XK → Hp → VK → Prop) → Hp → VK → Prop := fun tl H Q =>
  tl (fun cls d H' => cls = .ref CS ∧ ∃ e v, d = some e ∧ H' e = some (.xd [(at_, v)]) ∧ ∀ p, H' p = none → Q (.ref p) (upd H' p (.tup [.str s2, v]))) H
    (fun v H' => [V.str s1, v].length ≤ sizeLine ∧ ∀ p, H' p = none → Q (.ref p) (upd H' p (.tup [.str s1, v])))
theorem lineN {n : Nat} (h : n ≤ 1000 := by decide) : n ≤ sizeLine := Nat.le_of_lt (sz h)
theorem three_line : (3 : Nat) ≤ sizeLine := by rw [sizeLine_eq]; decide
theorem rd_mono {H H' : Hp} {a : Addr} {o : HO} (e : Same H H') (h : Rd H a o) : Rd H' a o := h.elim (fun h => .inl (e _ _ h)) fun ⟨u, h⟩ => .inr ⟨u, e _ _ h⟩
theorem sql_mono {K : PySem.W.Frag} {H H' : Hp} {a : Addr} {xs : List V} (e : Same H H') (h : SqL K H a xs) : SqL K H' a xs := h.elim (fun h => .inl (rd_mono e h)) .inr
theorem sqt_mono {K : PySem.W.Frag} {H H' : Hp} {a : Addr} {xs : List V} (e : Same H H') (h : SqT K H a xs) : SqT K H' a xs := h.elim (fun h => .inl (rd_mono e h)) .inr
theorem sq_mono {K : PySem.W.Frag} {H H' : Hp} {a : Addr} {xs : List V} (e : Same H H') (h : SqL K H a xs ∨ SqT K H a xs) : SqL K H' a xs ∨ SqT K H' a xs := h.elim (fun h => .inl (sql_mono e h)) fun h => .inr (sqt_mono e h)
/-- a body whose slots are as many as its names -/
theorem pss_len {X : Cx} {sts : List Stmt} {t : TS} {n : Nat} (h : PSs X sts t) (hn : X.N.length = n := by rfl) : PSs X sts (fun D σ H => σ.length = n → t D σ H) :=
  ⟨fun pins s σ H D I q => h.run pins s σ H D I (q (I.len.trans hn))⟩
/-! ### a def called with a lambda -/
theorem pe_lam {X : Cx} (qn : Str) {x a : Str} {st : Stmt} {Ng : List Str} {TT : (XK → Hp → VK → Prop) → Hp → VK → Prop} {k : Nat} {params : Arguments} {body : Expr} {scope : Scope} {t : XK → TE} {c P : Addr} {p lpos pos : Pos} (D : Dfn X.K X.mg x st) (Sg : FnScope Ng [a] (defScope st))
    (hb : ∀ (kV doc pm : Value) (an : Option Addr) (cdv ct : Value) (us : List Value), us.length = [a].length → bindArgs (PySem.W.fnOf x x (defArgs st) (defBody st) (defScope st) .none kV doc pm an cdv ct) ⟨us, []⟩ = pure ([a].zip us))
    (hG : ∀ cdv : Value, GivesTo X Ng x (defScope st) (He.ga X.K x) cdv (defBody st) a (X.env.qual ++ "<lambda>") TT) (TB : TabB X.base X.mg c P) (hcode : X.env.code = .ref c) (hr : Room (k + 2) X.A)
    (hbody : ∀ (A : Around) (outer : List Env) (s : Shared) (H : Hp) (E : XK) (f c' : Addr), Room k (A.deeper (lamEnv X scope s.heap.objs.size f c')) → PE (lamCx X A outer s H E scope f c') body (t E))
    (hg : Gl X x) (L : LamS X.env.scope scope) (hbind : ∀ (q : Str) (cl : List (Str × Addr)) (pm cv ctv : Value), bindArgs (PySem.W.kla_fn "<lambda>" q params body scope cl pm cv ctv) ⟨[], []⟩ = pure [])
    (hqn : X.env.qual = qn := by rfl) (hdef : defaultsOf params X.env = ([], []) := by rfl) (hNg : Ng[0]? = some a := by rfl) (hva : Vis (defScope st) a := by first | exact Or.inl rfl | exact Or.inr (Or.inl rfl))
    (hdb : (x == ("__debug__" : Str)) = false := by decide) (hd : (a == ("__debug__" : Str)) = false := by decide) (hcd : (a == ("__classdict__" : Str)) = false := by decide) :
    PE X (.Call (.Name x p) [.Lambda params body scope lpos] [] pos) (tLam [(P, qn ++ "<lambda>")] TT t) := by
  subst hqn
  obtain ⟨fd, F⟩ := D.fn
  have hB := F.bindsN hb
  obtain ⟨oc, od, dV, kV, doc, pm, an, cdv, ct, osl, rfl, lk, hcg, _, _⟩ := F.ex
  exact pe_lamcall hg D.at_ F.kp lk hcg hB Sg hNg hva (hG cdv) TB hcode List.mem_cons_self (fun p hp _ => by rw [List.mem_singleton.mp hp]) hr L hdef hbind hbody hdb hd hcd
/-- a def of the top, with its code object known -/
theorem fun_ok {P : Program} {w : World} {K : PySem.W.Frag} {mg : Str → Option Value} {base : Heap} {CX : CXT} {x : Str} {st : Stmt} {N ps : List Str} {k : Nat} {sp : Sp} {fd : FuncData} (F : FunD K x x (defArgs st) (defBody st) (defScope st) [] [] (He.ga K x) fd) (S : FnScope N ps (defScope st)) (len : ∀ vs H Q E, sp vs H Q E → vs.length = ps.length)
    (hbody : ∀ (A : Around) (outer : List Env) (s : Shared) (H : Hp) (vs : List V) (Q : VK) (E : XK), Room k (A.deeper (envOfC x (defScope st) s.heap.objs.size (He.ga K x) (.ref (He.codeOf K (x, none))))) → sp vs H Q E →
      ∃ t, PSs (cxOf CX P w K mg base N x (defScope st) (He.ga K x) (.ref (He.codeOf K (x, none))) A outer s H E) (defBody st) t ∧ t { nx := fun _ H' => Q .non H', rt := Q } (L2.start N vs) H) : FnOk P w K mg base CX (k + 1) (He.ga K x) fd ps sp := by
  obtain ⟨oc, od, dV, kV, doc, pm, an, cdv, ct, osl, rfl, lk, hcd, _, _⟩ := F.ex
  obtain ⟨c, rfl⟩ := He.codeIn_ref hcd
  have e : He.codeOf K (x, none) = c := He.codeOf_eq (p := (x, none)) lk rfl
  rw [e] at hbody
  exact fn_of lk hcd S len hbody
end Sr

set_option Elab.async false
set_option linter.all false
set_option maxRecDepth 100000
set_option maxHeartbeats 4000000
namespace Sr
open PySem PySem.Spec PyProof.Rows L2
/-! ### a list or a tuple, whichever it is -/
def SqAny (K : PySem.W.Frag) (H : Hp) (a : Addr) (xs : List V) : Prop := SqL K H a xs ∨ SqT K H a xs
theorem PG.or {X : Cx} {e : Expr} {t u : TG} (h : PG X e t) (k : PG X e u) : PG X e (fun v σ H Q => t v σ H Q ∨ u v σ H Q) :=
  ⟨fun pins s σ H v w Q I r q => q.elim (h.run pins s σ H v w Q I r) (k.run pins s σ H v w Q I r)⟩
def gSeq (K : PySem.W.Frag) (n : Nat) (t : TGs) : TG := fun v σ H Q => ∃ a xs, v = .ref a ∧ SqAny K H a xs ∧ xs.length = n ∧ t xs σ H Q
theorem pg_seq {X : Cx} {pos : Pos} {es : List Expr} {k : Nat} {t : TGs} {n : Nat} (hc : X.calm = true) (h : PGs X es t)
    (hn : (assignEach es X.env).length = n := by rfl) (hst : (assignEach es X.env).findIdx? (·.1) = none := by rfl) : PG X (.Tuple es k pos) (gSeq X.K n t) := by
  refine ⟨fun pins s σ H v u Q I r hw => ?_⟩
  obtain ⟨a, xs, e1, hq, hl, hw⟩ := hw
  rcases hq with hq | hq
  · exact (pg_unl (pos := pos) (k := k) hc h hn hst).run pins s σ H v u Q I r ⟨a, xs, e1, hq, hl, hw⟩
  · exact (pg_tup (pos := pos) (k := k) hc h hn hst).run pins s σ H v u Q I r ⟨a, xs, e1, hq, hl, hw⟩
def SeqIt (K : PySem.W.Frag) (H1 : Hp) (a : Addr) (R : It → Hp → Prop) : Prop := ((∃ xs, SqL K H1 a xs) ∧ R (Itl K a) H1) ∨ ((∃ xs, SqT K H1 a xs) ∧ R (Itt K a) H1)
def SeqItE (K : PySem.W.Frag) (H1 : Hp) (a : Addr) (R : It → Hp → Prop) : Prop := ((∃ xs, SqL K H1 a xs) ∧ R (Ite K a) H1) ∨ ((∃ xs, SqT K H1 a xs) ∧ R (Itet K a) H1)
def iSeq (K : PySem.W.Frag) (tl : TE) : TI := fun σ H R => tl σ H fun x H1 => ∃ a, x = .ref a ∧ SeqIt K H1 a R
/-- an iterator just laid down, at the next place, stands for its walk -/
theorem pie_new {X : Cx} {pins : List (Addr × Obj)} {σ : L2.St} {tg : Expr} {R : It → Hp → Prop} {s : Shared} {H : Hp} {J : It} {tn : Nat → Heap → Prop} {o : Obj} {n : Addr} (I : L2.Inv X pins σ H s) (hn : n = s.heap.objs.size) (T : Turn X.prog X.w X.K tg J [n] n tn)
    (h0 : tn 0 (s.heap.push o)) (q : R J H) : PIE X pins σ tg R (.ref n) { s with heap := s.heap.push o } := by
  have keep : L2.Inv X pins σ H { s with heap := s.heap.push o } := I.kept (t' := s.toks) fun _ _ e => Heap.get?_push_of_some _ e
  have fresh : FpOk X pins H n := I.fpOk (Nat.le_of_eq hn.symm) (I.hok.fresh (Nat.le_of_eq hn.symm))
  exact ⟨n, [n], tn, J, H, rfl, keep, T, h0, fun b hb => (List.mem_singleton.mp hb) ▸ fresh, q⟩
theorem pi_seq {X : Cx} {tg l : Expr} {tl : TE} (hl : PE X l tl) : PI X tg l (iSeq X.K tl) := by
  refine ⟨fun pins s σ H R I h => thn (hl.run pins s σ H _ I h) ?_⟩
  rintro v s1 ⟨_, H1, I1, r1, a, rfl, q | q⟩ <;> cases r1 <;> obtain ⟨⟨xs, hq⟩, q⟩ := q
  · obtain ⟨its, _, p, _⟩ := I1.list hq
    exact wpAny_pyIter_list p.isList (pie_new I1 rfl (turn_list a _) ⟨_, Heap.get?_push_size _ rfl, rfl, rfl⟩ q)
  · obtain ⟨its, _, p, _⟩ := I1.tuple hq
    exact wpAny_pyIter_tuple (items := its.toArray) p (pie_new I1 rfl (turn_tuple a _) ⟨_, Heap.get?_push_size _ rfl, rfl, rfl⟩ q)
def iEnumS (K : PySem.W.Frag) (ta : TA) : TI := fun σ H R => ta σ H fun vs H1 => ∃ a, vs = [.ref a] ∧ SeqItE K H1 a R
/-- the same, of two things laid down, the upper one of which is asked -/
theorem pie_two {X : Cx} {pins : List (Addr × Obj)} {σ : L2.St} {tg : Expr} {R : It → Hp → Prop} {s : Shared} {h' : Heap} {H : Hp} {J : It} {tn : Nat → Heap → Prop} {n : Nat} (I : L2.Inv X pins σ H s) (hn : n = s.heap.objs.size) (hk : ∀ b o, s.heap.get? b = some o → h'.get? b = some o)
    (T : Turn X.prog X.w X.K tg J [n + 1, n] (n + 1) tn) (h0 : tn 0 h') (q : R J H) : PIE X pins σ tg R (.ref (n + 1)) { s with heap := h' } := by
  have fresh : ∀ b, n ≤ b → FpOk X pins H b := fun b hb => I.fpOk (hn ▸ hb) (I.hok.fresh (hn ▸ hb))
  refine ⟨n + 1, [n + 1, n], tn, J, H, rfl, I.kept (t' := s.toks) hk, T, h0, ?_, q⟩
  simp only [List.forall_mem_cons, List.not_mem_nil, false_implies, implies_true, and_true]
  exact ⟨fresh _ (Nat.le_succ _), fresh _ (Nat.le_refl _)⟩
theorem pi_enumS {X : Cx} {e : Expr} {ta : TA} {p pos tpos : Pos} {elts : List Expr} {kk : Nat} (hg : Gl X "enumerate") (hm : X.mg "enumerate" = none) (ha : PA X [e] ta) (hs : starEach [e] X.env = [(false, eval e X.env)] := by rfl) :
    PI X (.Tuple elts kk tpos) (.Call (.Name "enumerate" p) [e] [] pos) (iEnumS X.K ta) := by
  refine ⟨fun pins s σ H R I h => Call_ (ld_blt I hg hm boot_enumerate (PyProof.Rows.callWith_type1 (thn (ha.run pos pins s σ H _ I h) ?_) hs rfl))⟩
  rintro us s1 ⟨_, H1, I1, r1, a, rfl, q⟩
  cases r1 with
  | cons r rr =>
    cases rr
    cases r
    rcases q with ⟨⟨xs, hq⟩, q⟩ | ⟨⟨xs, hq⟩, q⟩
    · obtain ⟨its, _, p', _⟩ := I1.list hq
      exact call_enumerate_list p'.isList fun h' he hit _ hk => wpAny_pyIter_enum he (pie_two I1 rfl hk (turn_enum a _ _) ⟨⟨.none, he⟩, hit, Nat.succ_ne_self _⟩ q)
    · obtain ⟨its, _, p', _⟩ := I1.tuple hq
      exact enumT_begins (begins_tuple a its.toArray) p' fun h' he hit _ hk => wpAny_pyIter_enum he (pie_two I1 rfl hk (turn_enumT a _ _) ⟨⟨.none, he⟩, ⟨_, hit, rfl, rfl⟩, Nat.succ_ne_self _⟩ q)
/-- the object of a list or a tuple -/
def seqO (xs : List V) (o : HO) : Prop := o = .lst xs ∨ o = .tup xs
theorem seqO.any {K : PySem.W.Frag} {H : Hp} {a : Addr} {xs : List V} {o : HO} (h : seqO xs o) (e : H a = some o) : SqAny K H a xs := by
  rcases h with rfl | rfl
  · exact .inl (SqL.of e)
  · exact .inr (SqT.of e)
/-- a walk over it, as one walk -/
theorem seq_walk {K : PySem.W.Frag} {a : Addr} {xs : List V} {o : HO} (h : seqO xs o) : ∃ J, Walk J xs.length (fun H => H a = some o) (YAt xs) ∧
    ∀ (H : Hp) (R : It → Hp → Prop), H a = some o → R J H → SeqIt K H a R := by
  rcases h with rfl | rfl
  · exact ⟨Itl K a, walk_list.mono (fun H e => SqL.of e) fun _ _ _ _ _ _ y => y, fun H R e r => .inl ⟨⟨_, SqL.of e⟩, r⟩⟩
  · exact ⟨Itt K a, walk_tup.mono (fun H e => SqT.of e) fun _ _ _ _ _ _ y => y, fun H R e r => .inr ⟨⟨_, SqT.of e⟩, r⟩⟩
theorem seq_walkE {K : PySem.W.Frag} {a : Addr} {xs : List V} {o : HO} (h : seqO xs o) : ∃ J, Walk J xs.length (fun H => H a = some o) (YPair (fun i => some (.int (i : Nat))) (fun i => xs[i]?)) ∧
    ∀ (H : Hp) (R : It → Hp → Prop), H a = some o → R J H → SeqItE K H a R := by
  rcases h with rfl | rfl
  · exact ⟨Ite K a, walk_enum.mono (fun H e => SqL.of e) fun _ _ _ _ _ _ y => y, fun H R e r => .inl ⟨⟨_, SqL.of e⟩, r⟩⟩
  · exact ⟨Itet K a, walk_enumT.mono (fun H e => SqT.of e) fun _ _ _ _ _ _ y => y, fun H R e r => .inr ⟨⟨_, SqT.of e⟩, r⟩⟩
/-- what stands for a list or a tuple -/
def seqOfD : Dt → Option (List Dt)
  | .lst l => some l
  | .tup l => some l
  | _ => none
theorem Is.seq {H : Hp} {v : V} {d : Dt} {l : List Dt} (h : Is H v d) (e : seqOfD d = some l) : ∃ a xs o, v = .ref a ∧ H a = some o ∧ seqO xs o ∧ IsA H xs l ∧ xs.length ≤ 60 := by
  cases h with
  | lst h r z => cases e; exact ⟨_, _, _, rfl, h, .inl rfl, r, z⟩
  | tup h r z => cases e; exact ⟨_, _, _, rfl, h, .inr rfl, r, z⟩
  | _ => cases e
end Sr

set_option Elab.async false
set_option linter.all false
set_option maxRecDepth 100000
set_option maxHeartbeats 4000000
namespace Sr
open PySem PySem.Spec PyProof.Rows L2
/-! ### data as plain data, for == -/
mutual
def toP : Dt → PyData
  | .non => .none
  | .bl b => .bool b
  | .int i => .int i
  | .str s => .str s
  | .lst l => .list (toPs l)
  | .tup l => .tuple (toPs l)
  | .dic => .none
def toPs : List Dt → List PyData
  | [] => []
  | d :: r => toP d :: toPs r
end
mutual
/-- without dicts -/
def plainD : Dt → Bool
  | .lst l => plainDs l
  | .tup l => plainDs l
  | .dic => false
  | _ => true
def plainDs : List Dt → Bool
  | [] => true
  | d :: r => plainD d && plainDs r
end
theorem toPs_map : ∀ l : List Dt, toPs l = l.map toP
  | [] => rfl
  | d :: r => by
    show toP d :: toPs r = toP d :: r.map toP
    rw [toPs_map r]
theorem plainDs_all : ∀ {l : List Dt}, (∀ d ∈ l, plainD d = true) → plainDs l = true
  | [], _ => rfl
  | d :: r, h => by
    unfold plainDs
    rw [h d List.mem_cons_self, plainDs_all fun x m => h x (List.mem_cons_of_mem _ m)]
    rfl
mutual
theorem dp_of {K : PySem.W.Frag} {H : Hp} : ∀ {v : V} {d : Dt}, Is H v d → plainD d = true → Dp K H v (toP d)
  | _, _, .non, _ => .non
  | _, _, .bl b, _ => .bl b
  | _, _, .int i, _ => .int i
  | _, _, .str s h, _ => .str s
  | _, _, .lst h r z, p => .lst (SqL.of h) (dp_ofs r p)
  | _, _, .tup h r z, p => .tup (SqT.of h) (dp_ofs r p)
  | _, _, .dic h, p => by cases p
theorem dp_ofs {K : PySem.W.Frag} {H : Hp} : ∀ {vs : List V} {ds : List Dt}, IsA H vs ds → plainDs ds = true → DpAll K H vs (toPs ds)
  | _, _, .nil, _ => .nil
  | _, _, .cons h r, p => .cons (dp_of h (Bool.and_eq_true_iff.mp p).1) (dp_ofs r (Bool.and_eq_true_iff.mp p).2)
end
/-- a last thing that is otherwise -/
theorem eqvAll_last {x y : PyData} (h : PyData.eqv x y = false) : ∀ l : List PyData, PyData.eqvAll (l ++ [x]) (l ++ [y]) = false
  | [] => by
    show (PyData.eqv x y && true) = false
    rw [h]
    rfl
  | d :: r => by
    show (PyData.eqv d d && PyData.eqvAll (r ++ [x]) (r ++ [y])) = false
    rw [eqvAll_last h r, Bool.and_false]
theorem eqvAll_more {x : PyData} : ∀ l : List PyData, PyData.eqvAll (l ++ [x]) l = false
  | [] => rfl
  | d :: r => by
    show (PyData.eqv d d && PyData.eqvAll (r ++ [x]) r) = false
    rw [eqvAll_more r, Bool.and_false]
/-- data that may be compared, n deep -/
structure Lay (n : Nat) (d : Dt) : Prop where
  pl : plainD d = true
  cl : PyData.canLay0 (toP d) = true
  dp : PyData.depth (toP d) ≤ n
theorem lays {n : Nat} : ∀ {l : List Dt}, (∀ d ∈ l, Lay n d) → plainDs l = true ∧ PyData.canLayAll0 (toPs l) = true ∧ PyData.depthAll (toPs l) ≤ n
  | [], _ => ⟨rfl, rfl, Nat.zero_le _⟩
  | d :: r, h => by
    have h1 := h d List.mem_cons_self
    obtain ⟨a, b, c⟩ := lays fun x m => h x (List.mem_cons_of_mem _ m)
    refine ⟨?_, ?_, ?_⟩
    · show (plainD d && plainDs r) = true
      rw [h1.pl, a]
      rfl
    · show (PyData.canLay0 (toP d) && PyData.canLayAll0 (toPs r)) = true
      rw [h1.cl, b]
      rfl
    · show max (PyData.depth (toP d)) (PyData.depthAll (toPs r)) ≤ n
      have := h1.dp
      omega
theorem Lay.tup {n : Nat} {l : List Dt} (h : ∀ d ∈ l, Lay n d) : Lay (n + 1) (.tup l) := by
  obtain ⟨a, b, c⟩ := lays h
  exact ⟨a, b, Nat.succ_le_succ c⟩
theorem Lay.lst {n : Nat} {l : List Dt} (h : ∀ d ∈ l, Lay n d) : Lay (n + 1) (.lst l) := by
  obtain ⟨a, b, c⟩ := lays h
  exact ⟨a, b, Nat.succ_le_succ c⟩
theorem Lay.int {n : Nat} {i : Int} : Lay n (.int i) := ⟨rfl, rfl, Nat.zero_le _⟩
theorem Lay.str {n : Nat} {s : Str} (h : PyData.canLay0 (.str s) = true) : Lay n (.str s) := ⟨rfl, h, Nat.zero_le _⟩
theorem lay_shaped {n : Nat} {l : List Dt} (h : ∀ d ∈ l, Lay n d) (hn : n + 1 ≤ 64) : plainDs l = true ∧ SeqAt.shaped (.list (toPs l)) = true := by
  obtain ⟨a, b, c⟩ := lays h
  refine ⟨a, ?_⟩
  show (PyData.canLayAll0 (toPs l) && decide (PyData.depthAll (toPs l) + 1 ≤ 64)) = true
  rw [b, decide_eq_true (by omega)]
  rfl
end Sr

set_option Elab.async false
set_option linter.all false
set_option maxRecDepth 100000
set_option maxHeartbeats 4000000
namespace Sr
open PySem PySem.Spec PyProof.Rows L2
/-! ### x in a tuple, by what they stand for; two rules for one operation -/
def rInDT (K : PySem.W.Frag) : R2 := fun x y H Q => ∃ d ds, Dp K H x d ∧ Dp K H y (.tuple ds) ∧ SeqAt.shaped d = true ∧ PyData.canLayAll0 ds = true ∧ Q (.bl (ds.any fun z => PyData.eqv z d)) H
theorem op_inDT {X : Cx} (hu : X.A.units + 65 < cLine) : OpR X (compareOp .In) (rInDT X.K) := by
  intro pins s σ H x y v u Q I rx ry h
  obtain ⟨d, ds, hd, he, sd, se, q⟩ := h
  obtain ⟨as, r1⟩ := Dp.reads I d x v hd rx
  obtain ⟨bs, r2⟩ := Dp.reads I (.tuple ds) y u he ry
  exact SeqAt.in_tuple_reads r2 r1 se (SeqAt.canLay_of_shaped sd) (room_in_shaped sd hu) ⟨.bl _, H, I, rfl, q⟩
theorem op_or {X : Cx} {op : Value → Value → Sem Value} {r r' : R2} (h : OpR X op r) (h' : OpR X op r') : OpR X op (fun x y H Q => r x y H Q ∨ r' x y H Q) := by
  intro pins s σ H x y v u Q I rx ry z
  rcases z with z | z
  · exact h pins s σ H x y v u Q I rx ry z
  · exact h' pins s σ H x y v u Q I rx ry z
theorem u65 {k : Nat} {A : Around} (r : Room k A) : A.units + 65 < cLine := by have := r.un; omega
end Sr

set_option Elab.async false
set_option linter.all false
set_option maxRecDepth 100000
set_option maxHeartbeats 4000000
namespace K00
open PySem PySem.Spec PyProof.Rows L2 Sr
def top (i : Nat) : Stmt := PySem.Challenge.pw_seatroads_k00_offices_made.main.body.getD i (.Pass ⟨0, 0, 0, 0⟩)
def signs : Str := "abcdefghijklmnopqrstuvwxyz0123456789"
/-- what the top leaves besides defs -/
structure Txt (K : PySem.W.Frag) (mg : Str → Option Value) : Prop where
  len : mg "len" = none
  isinstance : mg "isinstance" = none
  all : mg "all" = none
  range : mg "range" = none
  sorted : mg "sorted" = none
  list : mg "list" = none
  tuple : mg "tuple" = none
  min : mg "min" = none
  int : mg "int" = none
  str : mg "str" = none
  bool : mg "bool" = none
  dict : mg "dict" = none
  zip : mg "zip" = none
  enumerate : mg "enumerate" = none
  gSigns : ∃ t, mg "SIGNS" = some (.str signs t)
  gLongest : ∃ t, mg "LONGEST" = some (.int 8 t)
  max : mg "max" = none
  sum : mg "sum" = none
  set : mg "set" = none
  any : mg "any" = none
theorem Txt.e_SIGNS {X : Cx} {p : Pos} (T : Txt X.K X.mg) (h : Gl X "SIGNS" := by rfl) : PE X (.Name "SIGNS" p) (tC (.str signs)) := by
  obtain ⟨t, e⟩ := T.gSigns
  exact pe_glob h e ⟨t, rfl⟩
theorem Txt.e_LONGEST {X : Cx} {p : Pos} (T : Txt X.K X.mg) (h : Gl X "LONGEST" := by rfl) : PE X (.Name "LONGEST" p) (tC (.int 8)) := by
  obtain ⟨t, e⟩ := T.gLongest
  exact pe_glob h e ⟨t, rfl⟩
/-! ### what the defs tell -/
def nameOk : Dt → Bool
  | .str s => (decide (1 ≤ s.length) && decide (s.length ≤ 8)) && s.cps.toList.all fun c => decide (c ∈ signs.cps.toList)
  | _ => false
def flatD (d : Dt) : Prop := isSeq d = false ∧ d ≠ .dic
def valD : Dt → V
  | .bl b => .bl b
  | .int i => .int i
  | .str s => .str s
  | _ => .non
theorem flat_val {H : Hp} {v : V} {d : Dt} (h : Is H v d) (f : flatD d) : v = valD d ∧ flatV (valD d) = true := by
  cases h with
  | lst => cases f.1
  | tup => cases f.1
  | dic => exact absurd rfl f.2
  | _ => exact ⟨rfl, rfl⟩
def seqOf : Dt → Option (List Dt)
  | .lst l => some l
  | .tup l => some l
  | _ => none
/-- of one datum: told a Bool, what stood stays -/
def spB (f : Dt → Bool) : Sp := fun vs H Q _ => ∃ v d, vs = [v] ∧ Is H v d ∧ ∀ H', Same H H' → Q (.bl (f d)) H'
theorem spB_len {f : Dt → Bool} (vs : List V) (H : Hp) (Q : VK) (E : XK) (h : spB f vs H Q E) : vs.length = 1 := by
  obtain ⟨v, d, rfl, _⟩ := h
  rfl
/-- the same, of a datum with a property -/
def spBP (p : Dt → Prop) (f : Dt → Bool) : Sp := fun vs H Q _ => ∃ v d, vs = [v] ∧ Is H v d ∧ p d ∧ ∀ H', Same H H' → Q (.bl (f d)) H'
theorem spBP_len {p : Dt → Prop} {f : Dt → Bool} (vs : List V) (H : Hp) (Q : VK) (E : XK) (h : spBP p f vs H Q E) : vs.length = 1 := by
  obtain ⟨v, d, rfl, _⟩ := h
  rfl
abbrev one {α : Type} {l : List α} (h : l.length = 1) : ∃ x, l = [x] := List.length_eq_one_iff.mp h
section
variable {P : Program} {w : World} {K : PySem.W.Frag} {mg : Str → Option Value} {base : Heap}
abbrev s_is_list : Stmt := top 3
theorem sc_is_list : FnScope ["thing"] ["thing"] (defScope s_is_list) := ⟨rfl, rfl, rfl, by decide +kernel, rfl, by decide +kernel, by decide +kernel⟩
theorem c_is_list (T : Txt K mg) (D : Dfn K mg "is_list" s_is_list) : Cal P w K mg base 1 "is_list" ["thing"] (spB isSeq) := by
  refine D.cal sc_is_list (fun _ _ _ _ _ _ us hl => match us, hl with | [_], _ => rfl) spB_len fun cdv A outer s H vs Q E hr h => ?_
  obtain ⟨v, d, rfl, hv, q⟩ := h
  refine ⟨_, (pss_one (ps_ret (pe_callB (id := "isinstance") call_isiT (by rfl) T.isinstance (by decide +kernel) (pa_cons (pv 0) (pa_cons (pe_tup (pa_cons (pe_tyv (n := "list") (by rfl) T.list (by decide +kernel)) (pa_cons (pe_tyv (n := "tuple") (by rfl) T.tuple (by decide +kernel)) pa_nil))) pa_nil))))), ?_⟩
  refine ⟨_, rfl, two_line, fun p hp => ⟨v, p, [.ty "list", .ty "tuple"], .type (tyN d), [.type "list", .type "tuple"], _, rfl, upd_same, cls_two _ _, (hv.mono (Same.up hp)).ty, kit_seq K d, q _ (Same.up hp)⟩⟩
abbrev s_is_name : Stmt := top 4
theorem sc_is_name : FnScope ["thing", "sign"] ["thing"] (defScope s_is_name) := ⟨rfl, rfl, rfl, by decide +kernel, rfl, by decide +kernel, by decide +kernel⟩
theorem c_is_name (T : Txt K mg) (D : Dfn K mg "is_name" s_is_name) : Cal P w K mg base 1 "is_name" ["thing"] (spB nameOk) := by
  refine D.cal sc_is_name (fun _ _ _ _ _ _ us hl => match us, hl with | [_], _ => rfl) spB_len fun cdv A outer s H vs Q E hr h => ?_
  obtain ⟨v, d, rfl, hv, q⟩ := h
  refine ⟨_, (pss_cons (ps_if (PW.pt (pw_or (pt_not (pt_val (pe_callB (id := "isinstance") call_isi (by rfl) T.isinstance (by decide +kernel) (pa_cons (pv 0) (pa_cons (pe_tyv (n := "str") (by rfl) T.str (by decide +kernel)) pa_nil))))) (pw_or1 (pt_not (pt_chain op_le op_le pe_int (pe_callB (id := "len") call_len_str (by rfl) T.len (by decide +kernel) (pa_cons (pv 0) pa_nil)) (T.e_LONGEST (by rfl))))))) (pss_one (ps_ret pe_bl)) pss_nil)
      (pss_one (ps_ret (pe_callB (id := "all") (cr_all rfl) (by rfl) T.all (by decide +kernel) (pa_cons (pe_lc (own := [("sign", 1)]) (g := gName 1) (tt := tYes) rfl sc_is_name.nd (pi_str (pv 0)) (blkOk_by (N := ["thing", "sign"]) (sc := defScope s_is_name) (by decide +kernel)) (fun _ _ _ _ _ => (pg_name (i := 1) sc_is_name.nd rfl (by first | exact Or.inl rfl | exact Or.inr rfl))) (fun _ _ _ _ _ => pts_nil) (fun _ _ _ _ _ => (pe_cmpR op_in_sign (pv 1) (T.e_SIGNS (by rfl)) (by rfl)))) pa_nil))))), ?_⟩
  refine ⟨_, rfl, v, _, _, _, _, rfl, .ty _, hv.ty, kit_str K d, _, rfl, ?_⟩
  cases hv with
  | str z hz =>
    refine iteF ?_
    refine ⟨_, rfl, z, rfl, Nat.le_of_lt (sz hz), _, _, rfl, rfl, _, rfl, ?_⟩
    have hS : z.cps.toList.length = z.cps.size := Array.length_toList
    have key : ∀ b : Bool, nameOk (.str z) = b → ∀ H', Same H H' → Q (.bl b) H' := fun b e => e ▸ q
    by_cases h1 : (1 : Int) ≤ (z.length : Int)
    · rw [decide_eq_true h1]
      refine iteT ⟨_, _, rfl, rfl, _, rfl, ?_⟩
      by_cases h2 : (z.length : Int) ≤ 8
      · rw [decide_eq_true h2]
        refine iteF ?_
        refine ⟨_, rfl, z, rfl, fun D hD => lc_pure walk_str (At := fun i x => ∃ c, z.cps[i]? = some c ∧ x = .str ⟨#[c]⟩) (fun _ _ _ _ y => y) ((z.cps.toList.map fun c => decide (c ∈ signs.cps.toList)).map V.bl)
          (by rw [List.length_map, List.length_map, hS]) (sz (m := 1000) hz) hD (fun _ _ => trivial) (fun i x y H1 Q hi hx hy s1 k => ?_) (fun H' s' h' => all_of h' ?_)⟩
        · obtain ⟨c, hc, rfl⟩ := hx
          refine ⟨_, rfl, c, signs, rfl, rfl, ?_⟩
          rw [List.getElem?_map, List.getElem?_map, Array.getElem?_toList, hc] at hy
          obtain rfl : V.bl (decide (c ∈ signs.cps.toList)) = y := Option.some.inj hy
          exact k _ (Same.refl _)
        · refine key _ ?_ H' s'
          show ((decide (1 ≤ z.length) && decide (z.length ≤ 8)) && _) = _
          rw [decide_eq_true (by omega), decide_eq_true (by omega), List.all_map]
          rfl
      · rw [decide_eq_false h2]
        refine iteT (key _ ?_ _ (Same.refl H))
        show ((decide (1 ≤ z.length) && decide (z.length ≤ 8)) && _) = _
        rw [decide_eq_false (show ¬ z.length ≤ 8 by omega), Bool.and_false, Bool.false_and]
    · rw [decide_eq_false h1]
      refine iteF ⟨_, rfl, iteT (key _ ?_ _ (Same.refl H))⟩
      show ((decide (1 ≤ z.length) && decide (z.length ≤ 8)) && _) = _
      rw [decide_eq_false (show ¬ 1 ≤ z.length by omega), Bool.false_and, Bool.false_and]
  | _ => exact iteT (q _ (Same.refl H))
end
end K00

set_option Elab.async false
set_option linter.all false
set_option maxRecDepth 100000
set_option maxHeartbeats 4000000
namespace K00
open PySem PySem.Spec PyProof.Rows L2 Sr RZ
theorem _root_.Sr.DrawsAt.up {H H' : Hp} {a : Addr} (d : DrawsAt H a) (e : Same H H') : DrawsAt H' a := by
  obtain ⟨o, h, x⟩ := d
  exact ⟨o, e _ _ h, x⟩
theorem draw_step {M H M' H' : Hp} {a : Addr} {o : HO} (g : Grow [a] M H M' H') (Ma' : M' a = none) (ho : DrawsO o) : Grow [a] M H M' (upd H' a o) ∧ DrawsAt (upd H' a o) a :=
  ⟨g.trans (Grow.chg g.sub Ma' (by simp)), ⟨o, upd_same, ho⟩⟩
def spSource (K : PySem.W.Frag) : Sp := fun vs H Q _ => ∃ (s : Addr) (t : Int) (ns : List Int), vs = [.ref s, .int t] ∧ SqL K H s (ns.map V.int) ∧ 0 ≤ t ∧ ∀ p o, H p = none → DrawsO o → Q (.ref p) (upd H p o)
def spDraw : Sp := fun vs H Q _ => ∃ (a : Addr) (m : Int), vs = [.ref a, .int m] ∧ DrawsAt H a ∧ 1 ≤ m ∧ m < 1073741824 ∧ ∀ r o, 0 ≤ r → r < m → DrawsO o → Q (.int r) (upd H a o)
def spPick (K : PySem.W.Frag) : Sp := fun vs H Q _ => ∃ (a l : Addr) (xs : List V), vs = [.ref a, .ref l] ∧ DrawsAt H a ∧ l ≠ a ∧ (SqL K H l xs ∨ SqT K H l xs) ∧ 1 ≤ xs.length ∧ xs.length < 1073741824 ∧ ∀ (i : Nat) v o, xs[i]? = some v → DrawsO o → Q v (upd H a o)
/-- two that stand for one datum are the same -/
def spDeep (n : Nat) : Sp := fun vs H Q _ => ∃ (v u : V) (d : Dt), vs = [v, u] ∧ Is H v d ∧ Is H u d ∧ Dep n d ∧ ∀ H', Same H H' → Q (.bl true) H'
section
variable {P : Program} {w : World} {K : PySem.W.Frag} {mg : Str → Option Value} {base : Heap}
abbrev s__law_source : Stmt := top 14
theorem sc__law_source : FnScope ["script", "place", "cell"] ["script", "place"] (defScope s__law_source) := ⟨rfl, rfl, rfl, by decide +kernel, rfl, by decide +kernel, by decide +kernel⟩
theorem c__law_source (T : Txt K mg) (D : Dfn K mg "_law_source" s__law_source) : Cal P w K mg base 1 "_law_source" ["script", "place"] (spSource K) := by
  refine D.cal sc__law_source (fun _ _ _ _ _ _ us hl => match us, hl with | [_, _], _ => rfl) (fun vs H Q E h => ?_) fun cdv A outer s H vs Q E hr h => ?_
  · obtain ⟨s, t, ns, rfl, _⟩ := h
    rfl
  obtain ⟨sc, t, ns, rfl, hS, h0, q⟩ := h
  refine ⟨_, (pss_cons (ps_set (i := 2) sc__law_source.nd rfl (by first | exact Or.inl rfl | exact Or.inr rfl) (pe_ifExp (pt_cmpR op_lt (pv 1) (pe_callB (id := "len") call_len_seq (by rfl) T.len (by decide +kernel) (pa_cons (pv 0) pa_nil)) (nomark _)) (pe_ix ix_list (pv 0) (pv 1) (fun _ _ => rfl)) (pe_op op_add (pe_op op_mul pe_int (pv 1)) pe_int)))
      (pss_one (ps_ret (pe_lst (pa_cons (pe_ifExp (pt_cmpR op_ge (pv 2) (pe_op op_pow pe_int pe_int) (nomark _)) (pv 2) pe_int) (pa_cons (pe_op op_mod (pe_callTy (T := "int") call_int1 (by rfl) T.int (by decide +kernel) (pa_cons (pv 2) pa_nil)) pe_int) (pa_cons pe_int pa_nil))))))), ?_⟩
  refine ⟨_, rfl, _, rfl, sc, _, rfl, .inl hS, _, _, rfl, rfl, _, rfl, ?_⟩
  by_cases h : t < ((ns.map V.int).length : Int)
  · rw [decide_eq_true h]
    have hlt : t.toNat < ns.length := by rw [List.length_map] at h; omega
    refine iteT ⟨_, rfl, _, rfl, sc, _, _, .int ns[t.toNat], rfl, rfl, hS, atI_of (j := t.toNat) (by omega) (by rw [List.getElem?_map, List.getElem?_eq_getElem hlt]; rfl), ?_⟩
    refine ⟨_, rfl, _, _, rfl, rfl, ⟨by decide, by decide, by decide⟩, _, _, rfl, rfl, _, rfl, ?_⟩
    refine iteB ?_ ?_
    · exact ⟨_, rfl, _, rfl, .inl ⟨_, rfl, _, _, rfl, rfl, (by show (0 : Int) < 2147483629; decide), three_line, fun p hp => q p _ hp ⟨_, _, _, rfl⟩⟩⟩
    · exact ⟨_, rfl, .inl ⟨_, rfl, _, _, rfl, rfl, (by show (0 : Int) < 2147483629; decide), three_line, fun p hp => q p _ hp ⟨_, _, _, rfl⟩⟩⟩
  · rw [decide_eq_false h]
    refine iteF ⟨_, rfl, _, _, rfl, rfl, .inl ⟨by decide, by decide⟩, _, _, rfl, rfl, ?_⟩
    refine ⟨_, rfl, _, _, rfl, rfl, ⟨by decide, by decide, by decide⟩, _, _, rfl, rfl, _, rfl, ?_⟩
    refine iteB ?_ ?_
    · exact ⟨_, rfl, _, rfl, .inl ⟨_, rfl, _, _, rfl, rfl, (by show (0 : Int) < 2147483629; decide), three_line, fun p hp => q p _ hp ⟨_, _, _, rfl⟩⟩⟩
    · exact ⟨_, rfl, .inl ⟨_, rfl, _, _, rfl, rfl, (by show (0 : Int) < 2147483629; decide), three_line, fun p hp => q p _ hp ⟨_, _, _, rfl⟩⟩⟩
abbrev s__law_draw : Stmt := top 15
theorem sc__law_draw : FnScope ["draws", "many", "found"] ["draws", "many"] (defScope s__law_draw) := ⟨rfl, rfl, rfl, by decide +kernel, rfl, by decide +kernel, by decide +kernel⟩
theorem c__law_draw (T : Txt K mg) (D : Dfn K mg "_law_draw" s__law_draw) : Cal P w K mg base 1 "_law_draw" ["draws", "many"] spDraw := by
  refine D.cal sc__law_draw (fun _ _ _ _ _ _ us hl => match us, hl with | [_, _], _ => rfl) (fun vs H Q E h => ?_) fun cdv A outer s H vs Q E hr h => ?_
  · obtain ⟨a, m, rfl, _⟩ := h
    rfl
  obtain ⟨a, m, rfl, ⟨o, ho, x, y, z, rfl⟩, h1, h2, q⟩ := h
  refine ⟨_, (pss_cons (ps_if (pt_cmpR op_gt (pe_ix ix_list (pv 0) pe_int (fun _ _ => rfl)) pe_int (nomark _)) (pss_cons (ps_set (i := 2) sc__law_draw.nd rfl (by first | exact Or.inl rfl | exact Or.inr rfl) (pe_op op_mod (pe_callTy (T := "int") call_int1 (by rfl) T.int (by decide +kernel) (pa_cons (pe_ix ix_list (pv 0) pe_int (fun _ _ => rfl)) pa_nil)) (pv 1)))
      (pss_cons (ps_asg (pe_op op_fdiv (pe_ix ix_list (pv 0) pe_int (fun _ _ => rfl)) (pv 1)) (pg_sub (pv 0) pe_int set_list))
      (pss_one (ps_ret (pv 2))))) pss_nil)
      (pss_cons (ps_asg (pe_op op_add (pe_ix ix_list (pv 0) pe_int (fun _ _ => rfl)) pe_int) (pg_sub (pv 0) pe_int set_list))
      (pss_cons (ps_asg (pe_op op_mod (pe_callTy (T := "int") call_int1 (by rfl) T.int (by decide +kernel) (pa_cons (pe_op op_add (pe_op op_add (pe_op op_mul (pe_ix ix_list (pv 0) pe_int (fun _ _ => rfl)) pe_int) (pe_op op_mul (pe_ix ix_list (pv 0) pe_int (fun _ _ => rfl)) pe_int)) pe_int) pa_nil)) pe_int) (pg_sub (pv 0) pe_int set_list))
      (pss_one (ps_ret (pe_op op_mod (pe_callTy (T := "int") call_int1 (by rfl) T.int (by decide +kernel) (pa_cons (pe_op op_add (pe_op op_fdiv (pe_ix ix_list (pv 0) pe_int (fun _ _ => rfl)) pe_int) (pe_ix ix_list (pv 0) pe_int (fun _ _ => rfl))) pa_nil)) (pv 1))))))), ?_⟩
  have c : ∀ (X Y Z : Int), (V.int X :: V.int Y :: V.int Z :: []).length = 3 := fun _ _ _ => rfl
  refine ⟨_, rfl, a, _, _, _, rfl, rfl, SqL.of ho, rfl, _, _, rfl, rfl, _, rfl, ?_⟩
  refine iteB ?_ ?_
  rotate_left
  · refine ⟨_, rfl, a, _, _, _, rfl, rfl, SqL.of ho, rfl, _, _, rfl, rfl, _, rfl, a, _, _, 2, rfl, rfl, ho, rfl, ?_⟩
    refine ⟨_, rfl, a, _, _, _, rfl, rfl, SqL.of upd_same, rfl, _, _, rfl, rfl, .inr ⟨by decide, by decide⟩, ?_⟩
    refine ⟨_, rfl, a, _, _, _, rfl, rfl, SqL.of upd_same, rfl, _, _, rfl, rfl, .inr ⟨by decide, by decide⟩, _, _, rfl, rfl, _, _, rfl, rfl, .inl ⟨_, rfl, _, _, rfl, rfl, (by show (0 : Int) < 2147483629; decide), ?_⟩⟩
    refine ⟨_, rfl, a, _, _, 1, rfl, rfl, upd_same, rfl, ?_⟩
    rw [upd_upd]
    refine ⟨_, rfl, a, _, _, _, rfl, rfl, SqL.of upd_same, rfl, _, _, rfl, rfl, ⟨by decide, by decide⟩, _, rfl, a, _, _, _, rfl, rfl, SqL.of upd_same, rfl, _, _, rfl, rfl, .inl ⟨_, rfl, _, rfl, _, _, rfl, rfl, (show (0 : Int) < m by omega), ?_⟩⟩
    exact q _ _ (Int.emod_nonneg _ (by omega)) (Int.emod_lt_of_pos _ (by omega)) ⟨_, _, _, rfl⟩
  · refine ⟨_, rfl, a, _, _, _, rfl, rfl, SqL.of ho, rfl, .inl ⟨_, rfl, _, rfl, _, _, rfl, rfl, (show (0 : Int) < m by omega), ?_⟩⟩
    refine ⟨_, rfl, a, _, _, _, rfl, rfl, SqL.of ho, rfl, _, rfl, _, _, rfl, rfl, ⟨by omega, h2⟩, _, rfl, a, _, _, 0, rfl, rfl, ho, rfl, _, rfl, ?_⟩
    exact q _ _ (Int.emod_nonneg _ (by omega)) (Int.emod_lt_of_pos _ (by omega)) ⟨_, _, _, rfl⟩
abbrev s__law_pick : Stmt := top 16
theorem sc__law_pick : FnScope ["draws", "xs"] ["draws", "xs"] (defScope s__law_pick) := ⟨rfl, rfl, rfl, by decide +kernel, rfl, by decide +kernel, by decide +kernel⟩
theorem c__law_pick (T : Txt K mg) (D : Dfn K mg "_law_pick" s__law_pick) (C_law_draw : Cal P w K mg base 1 "_law_draw" ["draws", "many"] spDraw) : Cal P w K mg base 2 "_law_pick" ["draws", "xs"] (spPick K) := by
  refine D.cal sc__law_pick (fun _ _ _ _ _ _ us hl => match us, hl with | [_, _], _ => rfl) (fun vs H Q E h => ?_) fun cdv A outer s H vs Q E hr h => ?_
  · obtain ⟨a, l, xs, rfl, _⟩ := h
    rfl
  obtain ⟨a, l, xs, rfl, hd, hn, hx, l1, l2, q⟩ := h
  refine ⟨_, (pss_one (ps_ret (pe_ix ix_seq (pv 1) (pe_cal C_law_draw hr (by first | decide | omega) (by rfl) (pa_cons (pv 0) (pa_cons (pe_callB (id := "len") call_len_seq (by rfl) T.len (by decide +kernel) (pa_cons (pv 1) pa_nil)) pa_nil))) (fun _ _ => rfl)))), ?_⟩
  refine ⟨_, rfl, _, rfl, _, rfl, l, xs, rfl, hx, a, _, rfl, hd, by omega, by omega, fun r o r0 r1 ho => ?_⟩
  have hlt : r.toNat < xs.length := by omega
  have e : atI xs r = some xs[r.toNat] := atI_of (j := r.toNat) (by omega) (List.getElem?_eq_getElem hlt)
  rcases seq_upd (o := o) hn hx with h | h
  · exact .inl ⟨l, xs, r, _, rfl, rfl, h, e, q r.toNat _ o (List.getElem?_eq_getElem hlt) ho⟩
  · exact .inr (.inl ⟨l, xs, r, _, rfl, rfl, h, e, q r.toNat _ o (List.getElem?_eq_getElem hlt) ho⟩)
abbrev s__law_same : Stmt := top 17
theorem sc__law_same : FnScope ["found", "due", "left", "right"] ["found", "due"] (defScope s__law_same) := ⟨rfl, rfl, rfl, by decide +kernel, rfl, by decide +kernel, by decide +kernel⟩
theorem c__law_same_deep (T : Txt K mg) (D : Dfn K mg "_law_same" s__law_same) : ∀ n : Nat, Cal P w K mg base (n + 1) "_law_same" ["found", "due"] (spDeep n) := by
  intro n
  induction n with
  | zero =>
    refine D.cal sc__law_same (fun _ _ _ _ _ _ us hl => match us, hl with | [_, _], _ => rfl) (fun vs H Q E h => ?_) fun cdv A outer s H vs Q E hr h => ?_
    · obtain ⟨v, u, d, rfl, _⟩ := h
      rfl
    obtain ⟨v, u, d, rfl, iv, iu, dp, q⟩ := h
    have hq : isSeq d = false := by cases dp <;> rfl
    refine ⟨_, (pss_cons (ps_if (pt_val (pe_callB (id := "isinstance") call_isiT (by rfl) T.isinstance (by decide +kernel) (pa_cons (pv 1) (pa_cons (pe_tup (pa_cons (pe_tyv (n := "list") (by rfl) T.list (by decide +kernel)) (pa_cons (pe_tyv (n := "tuple") (by rfl) T.tuple (by decide +kernel)) pa_nil))) pa_nil)))) pss_never pss_nil)
      (pss_cons (ps_if (pt_val (pe_callB (id := "isinstance") call_isiT (by rfl) T.isinstance (by decide +kernel) (pa_cons (pv 1) (pa_cons (pe_tup (pa_cons (pe_tyv (n := "bool") (by rfl) T.bool (by decide +kernel)) (pa_cons (pe_tyv (n := "int") (by rfl) T.int (by decide +kernel)) pa_nil))) pa_nil)))) (pss_one (ps_ret (pe_and (pe_callB (id := "isinstance") call_isi (by rfl) T.isinstance (by decide +kernel) (pa_cons (pv 0) (pa_cons (pe_tyv (n := "int") (by rfl) T.int (by decide +kernel)) pa_nil))) (pe_and (pe_cmpR op_eq (pe_callB (id := "isinstance") call_isi (by rfl) T.isinstance (by decide +kernel) (pa_cons (pv 0) (pa_cons (pe_tyv (n := "bool") (by rfl) T.bool (by decide +kernel)) pa_nil))) (pe_callB (id := "isinstance") call_isi (by rfl) T.isinstance (by decide +kernel) (pa_cons (pv 1) (pa_cons (pe_tyv (n := "bool") (by rfl) T.bool (by decide +kernel)) pa_nil))) (nomark _)) (pe_one (pe_cmpR op_eq (pv 0) (pv 1) (nomark _))))))) pss_nil)
      (pss_one (ps_ret (pe_and (pe_not (pe_callB (id := "isinstance") call_isiT (by rfl) T.isinstance (by decide +kernel) (pa_cons (pv 0) (pa_cons (pe_tup (pa_cons (pe_tyv (n := "bool") (by rfl) T.bool (by decide +kernel)) (pa_cons (pe_tyv (n := "int") (by rfl) T.int (by decide +kernel)) (pa_cons (pe_tyv (n := "list") (by rfl) T.list (by decide +kernel)) (pa_cons (pe_tyv (n := "tuple") (by rfl) T.tuple (by decide +kernel)) pa_nil))))) pa_nil)))) (pe_one (pe_cmpR op_eq (pv 0) (pv 1) (nomark _)))))))), ?_⟩
    refine ⟨_, rfl, two_line, fun p hp => ⟨_, p, [.ty "list", .ty "tuple"], _, _, _, rfl, upd_same, cls_two _ _, (iu.mono (Same.up hp)).ty, kit_seq K d, _, rfl, ?_⟩⟩
    rw [hq]
    have s1 : Same H _ := Same.up (o := .tup [.ty "list", .ty "tuple"]) hp
    refine iteF ⟨_, rfl, two_line, fun p2 hp2 => ⟨_, p2, [.ty "bool", .ty "int"], _, _, _, rfl, upd_same, cls_two _ _, ((iu.mono s1).mono (Same.up hp2)).ty, kit_ints K d, _, rfl, ?_⟩⟩
    have s2 := s1.trans (Same.up (o := .tup [.ty "bool", .ty "int"]) hp2)
    have iv2 := iv.mono s2
    have iu2 := iu.mono s2
    cases hi : isInt d with
    | true =>
      refine iteT ⟨_, rfl, _, _, _, _, _, rfl, .ty _, iv2.ty, kit_int K d, _, rfl, ?_⟩
      rw [hi]
      refine iteT ⟨_, rfl, _, _, _, _, _, rfl, .ty _, iv2.ty, kit_bool K d, _, rfl, _, _, _, _, _, rfl, .ty _, iu2.ty, kit_bool K d, rfl, _, rfl, ?_⟩
      rw [decide_eq_true rfl]
      refine iteT ⟨_, rfl, _, rfl, ?_⟩
      obtain ⟨rfl, sc⟩ := flat_eq dp hq iv iu
      refine ⟨sc, ?_⟩
      rw [decide_eq_true rfl]
      exact q _ s2
    | false =>
      refine iteF ⟨_, rfl, lineN, fun p3 hp3 => ⟨_, p3, [.ty "bool", .ty "int", .ty "list", .ty "tuple"], _, _, _, rfl, upd_same, cls_four _ _ _ _, (iv2.mono (Same.up hp3)).ty, kit_four K d, _, rfl, ?_⟩⟩
      have s3 := s2.trans (Same.up (o := .tup [.ty "bool", .ty "int", .ty "list", .ty "tuple"]) hp3)
      rw [hi, hq]
      refine ⟨_, rfl, iteT ⟨_, rfl, _, rfl, ?_⟩⟩
      obtain ⟨rfl, sc⟩ := flat_eq dp hq iv iu
      refine ⟨sc, ?_⟩
      rw [decide_eq_true rfl]
      exact q _ s3
  | succ n ih =>
    refine D.cal sc__law_same (fun _ _ _ _ _ _ us hl => match us, hl with | [_, _], _ => rfl) (fun vs H Q E h => ?_) fun cdv A outer s H vs Q E hr h => ?_
    · obtain ⟨v, u, d, rfl, _⟩ := h
      rfl
    obtain ⟨v, u, d, rfl, iv, iu, dp, q⟩ := h
    cases hq : isSeq d with
    | false =>
      refine ⟨_, (pss_cons (ps_if (pt_val (pe_callB (id := "isinstance") call_isiT (by rfl) T.isinstance (by decide +kernel) (pa_cons (pv 1) (pa_cons (pe_tup (pa_cons (pe_tyv (n := "list") (by rfl) T.list (by decide +kernel)) (pa_cons (pe_tyv (n := "tuple") (by rfl) T.tuple (by decide +kernel)) pa_nil))) pa_nil)))) pss_never pss_nil)
      (pss_cons (ps_if (pt_val (pe_callB (id := "isinstance") call_isiT (by rfl) T.isinstance (by decide +kernel) (pa_cons (pv 1) (pa_cons (pe_tup (pa_cons (pe_tyv (n := "bool") (by rfl) T.bool (by decide +kernel)) (pa_cons (pe_tyv (n := "int") (by rfl) T.int (by decide +kernel)) pa_nil))) pa_nil)))) (pss_one (ps_ret (pe_and (pe_callB (id := "isinstance") call_isi (by rfl) T.isinstance (by decide +kernel) (pa_cons (pv 0) (pa_cons (pe_tyv (n := "int") (by rfl) T.int (by decide +kernel)) pa_nil))) (pe_and (pe_cmpR op_eq (pe_callB (id := "isinstance") call_isi (by rfl) T.isinstance (by decide +kernel) (pa_cons (pv 0) (pa_cons (pe_tyv (n := "bool") (by rfl) T.bool (by decide +kernel)) pa_nil))) (pe_callB (id := "isinstance") call_isi (by rfl) T.isinstance (by decide +kernel) (pa_cons (pv 1) (pa_cons (pe_tyv (n := "bool") (by rfl) T.bool (by decide +kernel)) pa_nil))) (nomark _)) (pe_one (pe_cmpR op_eq (pv 0) (pv 1) (nomark _))))))) pss_nil)
      (pss_one (ps_ret (pe_and (pe_not (pe_callB (id := "isinstance") call_isiT (by rfl) T.isinstance (by decide +kernel) (pa_cons (pv 0) (pa_cons (pe_tup (pa_cons (pe_tyv (n := "bool") (by rfl) T.bool (by decide +kernel)) (pa_cons (pe_tyv (n := "int") (by rfl) T.int (by decide +kernel)) (pa_cons (pe_tyv (n := "list") (by rfl) T.list (by decide +kernel)) (pa_cons (pe_tyv (n := "tuple") (by rfl) T.tuple (by decide +kernel)) pa_nil))))) pa_nil)))) (pe_one (pe_cmpR op_eq (pv 0) (pv 1) (nomark _)))))))), ?_⟩
      refine ⟨_, rfl, two_line, fun p hp => ⟨_, p, [.ty "list", .ty "tuple"], _, _, _, rfl, upd_same, cls_two _ _, (iu.mono (Same.up hp)).ty, kit_seq K d, _, rfl, ?_⟩⟩
      rw [hq]
      have s1 : Same H _ := Same.up (o := .tup [.ty "list", .ty "tuple"]) hp
      refine iteF ⟨_, rfl, two_line, fun p2 hp2 => ⟨_, p2, [.ty "bool", .ty "int"], _, _, _, rfl, upd_same, cls_two _ _, ((iu.mono s1).mono (Same.up hp2)).ty, kit_ints K d, _, rfl, ?_⟩⟩
      have s2 := s1.trans (Same.up (o := .tup [.ty "bool", .ty "int"]) hp2)
      have iv2 := iv.mono s2
      have iu2 := iu.mono s2
      cases hi : isInt d with
      | true =>
        refine iteT ⟨_, rfl, _, _, _, _, _, rfl, .ty _, iv2.ty, kit_int K d, _, rfl, ?_⟩
        rw [hi]
        refine iteT ⟨_, rfl, _, _, _, _, _, rfl, .ty _, iv2.ty, kit_bool K d, _, rfl, _, _, _, _, _, rfl, .ty _, iu2.ty, kit_bool K d, rfl, _, rfl, ?_⟩
        rw [decide_eq_true rfl]
        refine iteT ⟨_, rfl, _, rfl, ?_⟩
        obtain ⟨rfl, sc⟩ := flat_eq dp hq iv iu
        refine ⟨sc, ?_⟩
        rw [decide_eq_true rfl]
        exact q _ s2
      | false =>
        refine iteF ⟨_, rfl, lineN, fun p3 hp3 => ⟨_, p3, [.ty "bool", .ty "int", .ty "list", .ty "tuple"], _, _, _, rfl, upd_same, cls_four _ _ _ _, (iv2.mono (Same.up hp3)).ty, kit_four K d, _, rfl, ?_⟩⟩
        have s3 := s2.trans (Same.up (o := .tup [.ty "bool", .ty "int", .ty "list", .ty "tuple"]) hp3)
        rw [hi, hq]
        refine ⟨_, rfl, iteT ⟨_, rfl, _, rfl, ?_⟩⟩
        obtain ⟨rfl, sc⟩ := flat_eq dp hq iv iu
        refine ⟨sc, ?_⟩
        rw [decide_eq_true rfl]
        exact q _ s3
    | true =>
      have C_law_same := ih
      refine ⟨_, (pss_cons (ps_if (pt_val (pe_callB (id := "isinstance") call_isiT (by rfl) T.isinstance (by decide +kernel) (pa_cons (pv 1) (pa_cons (pe_tup (pa_cons (pe_tyv (n := "list") (by rfl) T.list (by decide +kernel)) (pa_cons (pe_tyv (n := "tuple") (by rfl) T.tuple (by decide +kernel)) pa_nil))) pa_nil)))) (pss_cons (ps_if (PW.pt (pw_or (pt_cmpR op_ne (pe_callB (id := "isinstance") call_isi (by rfl) T.isinstance (by decide +kernel) (pa_cons (pv 0) (pa_cons (pe_tyv (n := "list") (by rfl) T.list (by decide +kernel)) pa_nil))) (pe_callB (id := "isinstance") call_isi (by rfl) T.isinstance (by decide +kernel) (pa_cons (pv 1) (pa_cons (pe_tyv (n := "list") (by rfl) T.list (by decide +kernel)) pa_nil))) (nomark _)) (pw_or1 (pt_cmpR op_ne (pe_callB (id := "isinstance") call_isi (by rfl) T.isinstance (by decide +kernel) (pa_cons (pv 0) (pa_cons (pe_tyv (n := "tuple") (by rfl) T.tuple (by decide +kernel)) pa_nil))) (pe_callB (id := "isinstance") call_isi (by rfl) T.isinstance (by decide +kernel) (pa_cons (pv 1) (pa_cons (pe_tyv (n := "tuple") (by rfl) T.tuple (by decide +kernel)) pa_nil))) (nomark _))))) (pss_one (ps_ret pe_bl)) pss_nil)
      (pss_one (ps_ret (pe_and (pe_cmpR op_eq (pe_callB (id := "len") call_len_seq (by rfl) T.len (by decide +kernel) (pa_cons (pv 0) pa_nil)) (pe_callB (id := "len") call_len_seq (by rfl) T.len (by decide +kernel) (pa_cons (pv 1) pa_nil)) (nomark _)) (pe_one (pe_callB (id := "all") (cr_all rfl) (by rfl) T.all (by decide +kernel) (pa_cons (pe_lc (own := [("left", 2), ("right", 3)]) (g := gTup K 2 (gCons (gName 2) (gCons (gName 3) gNil))) (tt := tYes) rfl sc__law_same.nd (pi_zipA (by rfl) T.zip (pa_cons (pv 0) (pa_cons (pv 1) pa_nil))) (blkOk_by (N := ["found", "due", "left", "right"]) (sc := defScope s__law_same) (by decide +kernel)) (fun _ _ _ _ _ => (pg_tup rfl (pgs_cons (pg_name (i := 2) sc__law_same.nd rfl (by first | exact Or.inl rfl | exact Or.inr rfl)) (pgs_cons (pg_name (i := 3) sc__law_same.nd rfl (by first | exact Or.inl rfl | exact Or.inr rfl)) pgs_nil)))) (fun _ _ _ _ _ => pts_nil) (fun _ _ _ _ _ => (pe_cal C_law_same hr (by first | decide | omega) (by rfl) (pa_cons (pv 2) (pa_cons (pv 3) pa_nil))))) pa_nil))))))) pss_nil)
      (pss_cons (ps_if (pt_val (pe_callB (id := "isinstance") call_isiT (by rfl) T.isinstance (by decide +kernel) (pa_cons (pv 1) (pa_cons (pe_tup (pa_cons (pe_tyv (n := "bool") (by rfl) T.bool (by decide +kernel)) (pa_cons (pe_tyv (n := "int") (by rfl) T.int (by decide +kernel)) pa_nil))) pa_nil)))) (pss_one (ps_ret (pe_and (pe_callB (id := "isinstance") call_isi (by rfl) T.isinstance (by decide +kernel) (pa_cons (pv 0) (pa_cons (pe_tyv (n := "int") (by rfl) T.int (by decide +kernel)) pa_nil))) (pe_and (pe_cmpR op_eq (pe_callB (id := "isinstance") call_isi (by rfl) T.isinstance (by decide +kernel) (pa_cons (pv 0) (pa_cons (pe_tyv (n := "bool") (by rfl) T.bool (by decide +kernel)) pa_nil))) (pe_callB (id := "isinstance") call_isi (by rfl) T.isinstance (by decide +kernel) (pa_cons (pv 1) (pa_cons (pe_tyv (n := "bool") (by rfl) T.bool (by decide +kernel)) pa_nil))) (nomark _)) (pe_one (pe_cmpR op_eq (pv 0) (pv 1) (nomark _))))))) pss_nil)
      pss_never)), ?_⟩
      cases iv with
      | lst hv rv zv =>
        cases iu with
        | lst hu ru zu =>
        rename_i a xs l b ys
        refine ⟨_, rfl, two_line, fun p hp => ⟨_, p, [.ty "list", .ty "tuple"], _, _, _, rfl, upd_same, cls_two _ _, ((Is.lst hu ru zu).mono (Same.up hp)).ty, kit_seq K _, _, rfl, iteT ?_⟩⟩
        have s1 : Same H _ := Same.up (o := .tup [.ty "list", .ty "tuple"]) hp
        have iv1 := (Is.lst hv rv zv).mono s1
        have iu1 := (Is.lst hu ru zu).mono s1
        refine ⟨_, rfl, _, _, _, _, _, rfl, .ty _, iv1.ty, kit_list K _, _, rfl, _, _, _, _, _, rfl, .ty _, iu1.ty, kit_list K _, rfl, _, rfl, ?_⟩
        rw [decide_eq_true rfl]
        refine iteF ⟨_, rfl, _, _, _, _, _, rfl, .ty _, iv1.ty, kit_tuple K _, _, rfl, _, _, _, _, _, rfl, .ty _, iu1.ty, kit_tuple K _, rfl, _, rfl, ?_⟩
        rw [decide_eq_true rfl]
        refine iteF ⟨_, rfl, a, xs, rfl, .inl (SqL.of (s1 _ _ hv)), _, rfl, b, ys, rfl, .inl (SqL.of (s1 _ _ hu)), rfl, _, rfl, ?_⟩
        have el : xs.length = ys.length := rv.len.trans ru.len.symm
        rw [el, decide_eq_true rfl]
        refine iteT ⟨_, rfl, _, rfl, a, b, xs, ys, rfl, .inl ⟨SqL.of (s1 _ _ hv), SqL.of (s1 _ _ hu), fun D hD =>
          lc_pairs (walk_zip (n := xs.length) (by omega)) (by decide) ((l.map fun _ => true).map V.bl) (by rw [List.length_map, List.length_map, rv.len]) (sz zv) hD (fun H2 s2 => ⟨SqL.of (s2 _ _ (s1 _ _ hv)), SqL.of (s2 _ _ (s1 _ _ hu))⟩)
            (fun k x y z H2 R hk hx hy hz s2 kk => ?_) (fun H2 s2 h2 => ⟨D, l.map fun _ => true, rfl, SqL.of h2, ?_⟩)⟩⟩
        · obtain ⟨d1, e1, i1⟩ := rv.get hx
          obtain ⟨d2, e2, i2⟩ := ru.get hy
          rw [e1] at e2
          cases e2
          rw [List.getElem?_map, List.getElem?_map, e1] at hz
          obtain rfl : V.bl true = z := Option.some.inj hz
          have dd : Dep n d1 := by
            cases dp with
            | lst _ _ h => exact h _ (List.mem_of_getElem? e1)
          exact ⟨_, rfl, _, rfl, x, y, d1, rfl, i1.mono (s1.trans s2), i2.mono (s1.trans s2), dd, kk⟩
        · rw [show (l.map fun _ => true).all id = true from by rw [List.all_map]; exact List.all_eq_true.mpr fun _ _ => rfl]
          exact q _ (s1.trans s2)
      | tup hv rv zv =>
        cases iu with
        | tup hu ru zu =>
        rename_i a xs l b ys
        refine ⟨_, rfl, two_line, fun p hp => ⟨_, p, [.ty "list", .ty "tuple"], _, _, _, rfl, upd_same, cls_two _ _, ((Is.tup hu ru zu).mono (Same.up hp)).ty, kit_seq K _, _, rfl, iteT ?_⟩⟩
        have s1 : Same H _ := Same.up (o := .tup [.ty "list", .ty "tuple"]) hp
        have iv1 := (Is.tup hv rv zv).mono s1
        have iu1 := (Is.tup hu ru zu).mono s1
        refine ⟨_, rfl, _, _, _, _, _, rfl, .ty _, iv1.ty, kit_list K _, _, rfl, _, _, _, _, _, rfl, .ty _, iu1.ty, kit_list K _, rfl, _, rfl, ?_⟩
        rw [decide_eq_true rfl]
        refine iteF ⟨_, rfl, _, _, _, _, _, rfl, .ty _, iv1.ty, kit_tuple K _, _, rfl, _, _, _, _, _, rfl, .ty _, iu1.ty, kit_tuple K _, rfl, _, rfl, ?_⟩
        rw [decide_eq_true rfl]
        refine iteF ⟨_, rfl, a, xs, rfl, .inr (SqT.of (s1 _ _ hv)), _, rfl, b, ys, rfl, .inr (SqT.of (s1 _ _ hu)), rfl, _, rfl, ?_⟩
        have el : xs.length = ys.length := rv.len.trans ru.len.symm
        rw [el, decide_eq_true rfl]
        refine iteT ⟨_, rfl, _, rfl, a, b, xs, ys, rfl, .inr ⟨SqT.of (s1 _ _ hv), SqT.of (s1 _ _ hu), fun D hD =>
          lc_pairs (walk_zipT (n := xs.length) (by omega)) (by decide) ((l.map fun _ => true).map V.bl) (by rw [List.length_map, List.length_map, rv.len]) (sz zv) hD (fun H2 s2 => ⟨SqT.of (s2 _ _ (s1 _ _ hv)), SqT.of (s2 _ _ (s1 _ _ hu))⟩)
            (fun k x y z H2 R hk hx hy hz s2 kk => ?_) (fun H2 s2 h2 => ⟨D, l.map fun _ => true, rfl, SqL.of h2, ?_⟩)⟩⟩
        · obtain ⟨d1, e1, i1⟩ := rv.get hx
          obtain ⟨d2, e2, i2⟩ := ru.get hy
          rw [e1] at e2
          cases e2
          rw [List.getElem?_map, List.getElem?_map, e1] at hz
          obtain rfl : V.bl true = z := Option.some.inj hz
          have dd : Dep n d1 := by
            cases dp with
            | tup _ _ h => exact h _ (List.mem_of_getElem? e1)
          exact ⟨_, rfl, _, rfl, x, y, d1, rfl, i1.mono (s1.trans s2), i2.mono (s1.trans s2), dd, kk⟩
        · rw [show (l.map fun _ => true).all id = true from by rw [List.all_map]; exact List.all_eq_true.mpr fun _ _ => rfl]
          exact q _ (s1.trans s2)
      | _ => cases hq
end
end K00

set_option Elab.async false
set_option linter.all false
set_option maxRecDepth 100000
set_option maxHeartbeats 4000000
namespace Sr
open PySem PySem.Spec PyProof.Rows L2
/-! ### dicts with keys of all kinds: texts, numbers, None and tuples in one -/
structure EntsOf (w : World) (h : Heap) (ks : List NestedKey) (es : Array DictEntry) : Prop where
  size : es.size = ks.length
  ent : ∀ (j : Nat) (e : DictEntry), es[j]? = some e → ∃ k, ks[j]? = some k ∧ NestedIs h k e.key ∧ e.hash = k.hash w ∧ k.depth ≤ 8
  nd : ks.Nodup
theorem places_mem {n : Nat} {f : Nat → Option Int} {h : Int} {j : Nat} : j ∈ placesWithHash n f h ↔ j < n ∧ f j = some h := by
  unfold placesWithHash
  rw [List.mem_filter, List.mem_range, beq_iff_eq]
theorem places_nodup (n : Nat) (f : Nat → Option Int) (h : Int) : (placesWithHash n f h).Nodup := List.nodup_range.filter _
theorem same_place {ks : List NestedKey} (nd : ks.Nodup) {i j : Nat} {k : NestedKey} (hi : ks[i]? = some k) (hj : ks[j]? = some k) : i = j :=
  (List.getElem?_inj (List.getElem?_eq_some_iff.mp hi).1 nd).mp (hi.trans hj.symm)
section
variable {prog : Program} {w : World} {A : Around} {E : Value → Shared → Prop} {s : Shared}
theorem mayTell {v : Value} {k : NestedKey} {stored : List Value} {Q : Bool → Shared → Prop} (hk : NestedIs s.heap k v) (kd : k.depth ≤ 8) (all : ∀ u ∈ stored, ∃ k', NestedIs s.heap k' u ∧ k'.depth ≤ 8) (q : Q false s) : wpAny (model prog w) A (tableMayTell v stored) Q E s := by
  unfold tableMayTell
  cases stored with
  | nil => exact wpAny_pure q
  | cons u r =>
    rw [if_neg (show ¬ (List.isEmpty (u :: r)) = true by simp)]
    refine wpAny_bind (quiet_key k v 8 s hk kd _ _ _ ?_)
    rw [if_neg (show ¬ (!true) = true by simp)]
    refine wpAny_bind (wpAny_forIn_list _ (fun left st s' => (s' = s ∧ st = (none, ())) ∧ ∀ u ∈ left, ∃ k', NestedIs s.heap k' u ∧ k'.depth ≤ 8) _ (fun y left st s' ⟨⟨e1, e2⟩, al⟩ => ?_) (fun st s' ⟨⟨e1, e2⟩, _⟩ => ?_) _ _ ⟨⟨rfl, rfl⟩, all⟩)
    · subst e1
      subst e2
      obtain ⟨k', h1, h2⟩ := al y List.mem_cons_self
      refine wpAny_bind (quiet_key k' y 8 s' h1 h2 _ _ _ ?_)
      rw [if_neg (show ¬ (!true) = true by simp)]
      exact wpAny_pure ⟨⟨rfl, rfl⟩, fun z m => al z (List.mem_cons_of_mem _ m)⟩
    · subst e1
      subst e2
      exact wpAny_pure q
theorem walk_places {β : Type} (P : Prop) {ks : List NestedKey} {k : NestedKey} (nd : ks.Nodup) (f : Nat → β → Sem (ForInStep β)) (b0 : β) (bh dn : Nat → β) {Q : β → Shared → Prop} (places : List Nat) (np : places.Nodup) (hp : ∀ i ∈ places, ∃ k', ks[i]? = some k')
    (turn0 : ∀ (i : Nat) (k' : NestedKey) (b : β) (R : ForInStep β → Shared → Prop), i ∈ places → ks[i]? = some k' → (b = b0 ∨ P ∧ ∃ j, b = bh j) → k' ≠ k → R (.yield b) s → wpAny (model prog w) A (f i b) R E s)
    (turn1 : ∀ (i : Nat) (R : ForInStep β → Shared → Prop), i ∈ places → ks[i]? = some k → R (.done (dn i)) s → (P → R (.yield (bh i)) s) → wpAny (model prog w) A (f i b0) R E s)
    (q0 : (∀ i ∈ places, ks[i]? ≠ some k) → Q b0 s) (qh : P → ∀ i : Nat, ks[i]? = some k → Q (bh i) s) (qd : ∀ i : Nat, ks[i]? = some k → Q (dn i) s) : wpAny (model prog w) A (forIn places b0 f) Q E s := by
  refine wpAny_forIn_list f (fun rest b s' => s' = s ∧ ∃ seen, seen ++ rest = places ∧ ((b = b0 ∧ ∀ i ∈ seen, ks[i]? ≠ some k) ∨ P ∧ ∃ j ∈ seen, b = bh j ∧ ks[j]? = some k)) Q (fun i rest b s' ⟨e, seen, es, h⟩ => ?_) (fun b s' ⟨e, seen, es, h⟩ => ?_) places b0 ⟨rfl, [], rfl, .inl ⟨rfl, fun i m => nomatch m⟩⟩
  · subst e
    have mi : i ∈ places := by rw [← es]; simp
    have ni : i ∉ seen := fun m => by
      rw [← es] at np
      exact (List.nodup_append.mp np).2.2 i m i List.mem_cons_self rfl
    have es2 : (seen ++ [i]) ++ rest = places := by rw [← es]; simp
    obtain ⟨k', hk'⟩ := hp i mi
    by_cases c : k' = k
    · subst c
      rcases h with ⟨rfl, no⟩ | ⟨p, j, mj, rfl, hj⟩
      · exact turn1 i _ mi hk' (qd i hk') fun p => ⟨rfl, seen ++ [i], es2, .inr ⟨p, i, by simp, rfl, hk'⟩⟩
      · exact absurd (same_place nd hj hk' ▸ mj) ni
    · refine turn0 i k' b _ mi hk' (h.imp And.left fun ⟨p, j, _, e, _⟩ => ⟨p, j, e⟩) c ⟨rfl, seen ++ [i], es2, ?_⟩
      rcases h with ⟨rfl, no⟩ | ⟨p, j, mj, rfl, hj⟩
      · refine .inl ⟨rfl, fun j m => ?_⟩
        rcases List.mem_append.mp m with m | m
        · exact no j m
        · rw [List.mem_singleton.mp m, hk']
          exact fun z => c (Option.some.inj z)
      · exact .inr ⟨p, j, by simp [mj], rfl, hj⟩
  · subst e
    rw [List.append_nil] at es
    subst es
    rcases h with ⟨rfl, no⟩ | ⟨p, j, mj, rfl, hj⟩
    · exact q0 no
    · exact qh p j hj
theorem find_any {d : Addr} {o : Obj} {es : Array DictEntry} {ep : Nat} {ks : List NestedKey} {k : NestedKey} {v : Value} {Q : Option Nat → Shared → Prop} (room : A.units + 8 < cLine) (hk : NestedIs s.heap k v) (kd : k.depth ≤ 8) (ho : s.heap.get? d = some o) (hdat : o.data = .dict es ep)
    (x : EntsOf w s.heap ks es) (hnone : (∀ j : Nat, ks[j]? ≠ some k) → Q none s) (hsome : ∀ j : Nat, ks[j]? = some k → Q (some j) s) : wpAny (model prog w) A (dictFind d v (k.hash w)) Q E s := by
  have at_ : ∀ (j : Nat) (k' : NestedKey), ks[j]? = some k' → ∃ e, es[j]? = some e ∧ NestedIs s.heap k' e.key ∧ e.hash = k'.hash w ∧ k'.depth ≤ 8 := fun j k' h => by
    have lt := (List.getElem?_eq_some_iff.mp h).1
    have lt2 : j < es.size := by rw [x.size]; exact lt
    obtain ⟨k2, h2, r⟩ := x.ent j es[j] (Array.getElem?_eq_getElem lt2)
    rw [h] at h2
    cases h2
    exact ⟨es[j], Array.getElem?_eq_getElem lt2, r⟩
  generalize hpl : placesWithHash es.size (fun i => es[i]?.map (·.hash)) (k.hash w) = places
  have np : places.Nodup := by rw [← hpl]; exact places_nodup _ _ _
  have inp : ∀ i, i ∈ places → ∃ e, es[i]? = some e ∧ e.hash = k.hash w := fun i m => by
    rw [← hpl] at m
    obtain ⟨_, e1⟩ := places_mem.mp m
    obtain ⟨e, h1, h2⟩ := Option.map_eq_some_iff.mp e1
    exact ⟨e, h1, h2⟩
  have hp : ∀ i ∈ places, ∃ k', ks[i]? = some k' := fun i m => by
    obtain ⟨e, h1, _⟩ := inp i m
    obtain ⟨k', h2, _⟩ := x.ent i e h1
    exact ⟨k', h2⟩
  have all : (∀ i ∈ places, ks[i]? ≠ some k) → Q none s := fun no => hnone fun j hj => by
    obtain ⟨e, h1, _, h3, _⟩ := at_ j k hj
    refine no j ?_ hj
    rw [← hpl]
    refine places_mem.mpr ⟨(Array.getElem?_eq_some_iff.mp h1).1, ?_⟩
    rw [h1]
    exact congrArg some h3
  have sto : ∀ u ∈ places.filterMap (fun i => es[i]?.map (·.key)), ∃ k', NestedIs s.heap k' u ∧ k'.depth ≤ 8 := fun u m => by
    obtain ⟨i, _, h⟩ := List.mem_filterMap.mp m
    obtain ⟨e, h1, rfl⟩ := Option.map_eq_some_iff.mp h
    obtain ⟨k', _, h3, _, h4⟩ := x.ent i e h1
    exact ⟨k', h3, h4⟩
  have ask : ∀ (k' : NestedKey) (u : Value) (R : Bool → Shared → Prop), NestedIs s.heap k' u → R (decide (k' = k)) s → wpAny (model prog w) A (eqBool u v) R E s := fun k' u R h q =>
    eqAt_key k' k A s u v h hk (by omega) _ _ _ _ (by rw [← NestedKey.decide_eq]; exact q)
  have plain : wpAny (model prog w) A (dictWalkPlain d v (k.hash w) es places) Q E s := by
    refine wpAny_bind (walk_places False (ks := ks) (k := k) x.nd _ _ (fun i => (some (some i), ())) (fun i => (some (some i), ())) places np hp (fun i k' b R mi hi hb c q => ?_) (fun i R mi hi q1 _ => ?_) (fun no => wpAny_pure (all no)) (fun z => z.elim) (fun i hi => wpAny_pure (hsome i hi)))
    · obtain rfl : b = (none, ()) := hb.elim id fun z => z.1.elim
      obtain ⟨e, h1, h2⟩ := inp i mi
      obtain ⟨k2, h3, h4, _⟩ := x.ent i e h1
      rw [hi] at h3
      cases h3
      dsimp only
      rw [h1]
      dsimp only
      rw [if_pos (by rw [h2]; simp)]
      refine wpAny_bind (wpAny_dictEpoch ho hdat (wpAny_bind (ask k' e.key _ h4 (wpAny_bind (wpAny_dictEpoch ho hdat ?_)))))
      rw [if_neg (show ¬ (ep != ep) = true by simp), decide_eq_false c]
      exact wpAny_bind (wpAny_rule (wpAny_pure q))
    · obtain ⟨e, h1, h2⟩ := inp i mi
      obtain ⟨k2, h3, h4, _⟩ := x.ent i e h1
      rw [hi] at h3
      cases h3
      dsimp only
      rw [h1]
      dsimp only
      rw [if_pos (by rw [h2]; simp)]
      refine wpAny_bind (wpAny_dictEpoch ho hdat (wpAny_bind (ask k e.key _ h4 (wpAny_bind (wpAny_dictEpoch ho hdat ?_)))))
      rw [if_neg (show ¬ (ep != ep) = true by simp), decide_eq_true rfl]
      exact wpAny_bind (wpAny_rule (wpAny_pure q1))
  have notref : ∀ a, v = .ref a → ¬ (es.any fun e => e.key == v && e.hash != k.hash w) = true := fun a e h => by
    obtain ⟨i, lt, h⟩ := Array.any_eq_true.mp h
    obtain ⟨k', h1, h2, h3, _⟩ := x.ent i es[i] (Array.getElem?_eq_getElem lt)
    simp only [Bool.and_eq_true, beq_iff_eq, bne_iff_ne, ne_eq] at h
    rw [h.1] at h2
    exact h.2 (by rw [h3, h2.inj k' k v hk])
  have str1 : ∀ (z : Str) (t : Tok), v = .str z t → (es.all fun e => isExactStrKey e.key) = true → wpAny (model prog w) A (foundByValue d v es z) Q E s := fun z t e h => by
    subst e
    obtain rfl : k = .text z := by cases hk; rfl
    unfold foundByValue
    cases hf : es.findIdx? (fun e => e.key.isStr z) with
    | none =>
      refine wpAny_pure (hnone fun j hj => ?_)
      obtain ⟨e, h1, h2, _⟩ := at_ j _ hj
      have n := Array.findIdx?_eq_none_iff.mp hf e (Array.mem_of_getElem? h1)
      generalize e.key = u at h2 n
      cases h2
      simp [Value.isStr] at n
    | some i =>
      obtain ⟨lt, hi, _⟩ := Array.findIdx?_eq_some_iff_getElem.mp hf
      obtain ⟨k', h1, h2, _⟩ := x.ent i es[i] (Array.getElem?_eq_getElem lt)
      have ek : k' = .text z := by
        generalize es[i].key = u at h2 hi
        cases h2 <;> simp [Value.isStr] at hi
        rw [hi]
      subst ek
      dsimp only
      rw [Array.getElem?_eq_getElem lt]
      dsimp only
      refine wpAny_bind (wpAny_dictEpoch ho hdat (wpAny_bind (ask _ _ _ h2 (wpAny_bind (wpAny_dictEpoch ho hdat ?_)))))
      rw [if_neg (show ¬ (ep != ep) = true by simp), decide_eq_true rfl]
      exact wpAny_bind (wpAny_rule (wpAny_pure (hsome i h1)))
  unfold dictFind
  try with_reducible refine wpAny_holding ?_
  refine wpAny_bind (wpAny_dictEntries ho hdat ?_)
  dsimp only
  rw [hpl]
  have ite2 : ∀ {c : Prop} [Decidable c] {a b : Sem (Option Nat)}, (c → wpAny (model prog w) A a Q E s) → (¬ c → wpAny (model prog w) A b Q E s) → wpAny (model prog w) A (if c then a else b) Q E s := fun {c} _ {a b} h1 h2 => by
    split
    · exact h1 ‹_›
    · exact h2 ‹_›
  have tail : ∀ (C : Bool → Sem (Option Nat)), wpAny (model prog w) A (C false) Q E s → wpAny (model prog w) A (if (places.filterMap (fun i => es[i]?.map (·.key)) == [v]) = true then (pure false >>= C) else (tableMayTell v (places.filterMap (fun i => es[i]?.map (·.key))) >>= C)) Q E s := fun C h => by
    split
    · exact wpAny_bind (wpAny_pure h)
    · exact wpAny_bind (mayTell hk kd sto h)
  by_cases hall : ((v :: places.filterMap (fun i => es[i]?.map (·.key))).all carriedByValue) = true
  · rw [if_pos hall]
    cases v
    all_goals dsimp only
    all_goals first
      | exact plain
      | (by_cases hs : (es.all fun e => isExactStrKey e.key) = true
         · rw [if_pos hs]
           exact str1 _ _ rfl hs
         · rw [if_neg hs]
           exact plain)
  · rw [if_neg hall]
    clear hall plain
    have hk' := hk
    cases v
    all_goals dsimp only
    all_goals first
      | refine tail _ ?_
      | (rw [if_neg (notref _ rfl)]
         refine tail _ ?_)
      | refine ite2 (fun hs => str1 _ _ rfl hs) fun _ => tail _ ?_
    all_goals clear tail notref str1 ite2
    all_goals rw [if_neg (show ¬ (false && _) = true by simp)]
    all_goals refine wpAny_bind (walk_places True (ks := ks) (k := k) x.nd _ _ (fun i => (none, some i)) (fun i => (some (some i), none)) places np hp (fun i k' b R mi hi hb c q => ?_) (fun i R mi hi q1 q2 => ?_) (fun no => ?_) (fun _ i hi => ?_) (fun i hi => ?_))
    all_goals first
      | exact wpAny_pure (all no)
      | exact wpAny_pure (hsome _ hi)
      | (obtain ⟨hit, rfl⟩ : ∃ hit, b = (none, hit) := hb.elim (fun z => ⟨none, z⟩) fun ⟨_, j, z⟩ => ⟨some j, z⟩
         obtain ⟨e, h1, h2⟩ := inp i mi
         obtain ⟨k2, h3, h4, _⟩ := x.ent i e h1
         rw [hi] at h3
         cases h3
         rw [h1]
         dsimp only
         rw [if_pos (by rw [h2]; simp)]
         refine wpAny_bind (wpAny_dictEpoch ho hdat (wpAny_bind (ask k' e.key _ h4 (wpAny_bind (wpAny_dictEpoch ho hdat ?_)))))
         rw [if_neg (show ¬ (ep != ep) = true by simp), decide_eq_false c, if_neg (show ¬ false = true by simp)]
         refine wpAny_bind (wpAny_rule ?_)
         rw [if_neg (show ¬ (false && _) = true by simp)]
         exact wpAny_pure q)
      | (obtain ⟨e, h1, h2⟩ := inp i mi
         obtain ⟨k2, h3, h4, _⟩ := x.ent i e h1
         rw [hi] at h3
         cases h3
         rw [h1]
         dsimp only
         rw [if_pos (by rw [h2]; simp)]
         refine wpAny_bind (wpAny_dictEpoch ho hdat (wpAny_bind (ask k e.key _ h4 (wpAny_bind (wpAny_dictEpoch ho hdat ?_)))))
         rw [if_neg (show ¬ (ep != ep) = true by simp), decide_eq_true rfl, if_pos rfl, if_neg (show ¬ Option.isSome none = true by simp)]
         refine wpAny_bind (wpAny_rule ?_)
         split
         · exact wpAny_pure q1
         · exact wpAny_pure (q2 True.intro))
end
end Sr

set_option Elab.async false
set_option linter.all false
set_option maxRecDepth 100000
set_option maxHeartbeats 4000000
namespace Sr
open PySem PySem.Spec PyProof.Rows L2
/-- tuples stay -/
def SeqsStay (h h' : Heap) : Prop := ∀ a o vs n, h.get? a = some o → o.data = .seq vs n → h'.get? a = some o
theorem EntsOf.keep {w : World} {h h' : Heap} {ks : List NestedKey} {es : Array DictEntry} (x : EntsOf w h ks es) (k : SeqsStay h h') : EntsOf w h' ks es :=
  ⟨x.size, fun j e he => by
    obtain ⟨k', h1, h2, h3⟩ := x.ent j e he
    exact ⟨k', h1, h2.at k k' e.key, h3⟩, x.nd⟩
/-- a key, what it stands for, and the value of an entry -/
abbrev KE3 := NestedKey × Value × Value
def entA (w : World) (p : KE3) : DictEntry := ⟨p.1.hash w, p.2.1, p.2.2⟩
def entsA (w : World) (l : List KE3) : Array DictEntry := (l.map (entA w)).toArray
theorem entsA_at {w : World} {l : List KE3} {j : Nat} : (entsA w l)[j]? = (l[j]?).map (entA w) := by
  unfold entsA
  rw [List.getElem?_toArray, List.getElem?_map]
def AllAt (h : Heap) (l : List KE3) : Prop := ∀ p ∈ l, NestedIs h p.1 p.2.1 ∧ p.1.depth ≤ 8
theorem AllAt.keep {h h' : Heap} {l : List KE3} (x : AllAt h l) (k : SeqsStay h h') : AllAt h' l := fun p m => ⟨(x p m).1.at k p.1 p.2.1, (x p m).2⟩
theorem ents_of {w : World} {h : Heap} {l : List KE3} (x : AllAt h l) (nd : (l.map (·.1)).Nodup) : EntsOf w h (l.map (·.1)) (entsA w l) := by
  refine ⟨by simp [entsA], fun j e he => ?_, nd⟩
  rw [entsA_at] at he
  obtain ⟨p, hp, rfl⟩ := Option.map_eq_some_iff.mp he
  have m := x p (List.mem_of_getElem? hp)
  exact ⟨p.1, by rw [List.getElem?_map, hp]; rfl, m.1, rfl, m.2⟩
theorem fresh_key {l : List KE3} {i : Nat} {p : KE3} (nd : (l.map (·.1)).Nodup) (hp : l[i]? = some p) (j : Nat) : ((l.take i).map (·.1))[j]? ≠ some p.1 := fun h => by
  have h1 : (l.map (·.1))[i]? = some p.1 := by rw [List.getElem?_map, hp]; rfl
  have lt : j < i := by
    have := (List.getElem?_eq_some_iff.mp h).1
    rw [List.length_map, List.length_take] at this
    omega
  have h2 : (l.map (·.1))[j]? = some p.1 := by
    rw [List.getElem?_map, List.getElem?_take_of_lt lt] at h
    rw [List.getElem?_map]
    exact h
  have := same_place nd h1 h2
  omega
section
variable {prog : Program} {w : World} {A : Around} {E : Value → Shared → Prop} {s : Shared}
theorem get_any {d : Addr} {o : Obj} {es : Array DictEntry} {ep : Nat} {ks : List NestedKey} {k : NestedKey} {v : Value} {j : Nat} {e : DictEntry} {Q : Option Value → Shared → Prop} (room : A.units + 8 < cLine) (hk : NestedIs s.heap k v) (kd : k.depth ≤ 8) (ho : s.heap.get? d = some o) (hdat : o.data = .dict es ep)
    (x : EntsOf w s.heap ks es) (hj : ks[j]? = some k) (he : es[j]? = some e) (q : ∀ tk, Q (some e.val) { s with toks := tk }) : wpAny (model prog w) A (dictGet d v) Q E s := by
  unfold dictGet
  try with_reducible refine wpAny_holding ?_
  refine wpAny_bind (pyHash_key k v A s _ hk (by omega) (wpAny_bind (find_any (s := { s with toks := s.toks + k.draws }) room hk kd ho hdat x (fun no => absurd hj (no j)) fun i hi => ?_)))
  obtain rfl := same_place x.nd hi hj
  refine wpAny_bind (wpAny_dictEntries (s := { s with toks := s.toks + k.draws }) ho hdat ?_)
  rw [he]
  exact wpAny_pure (q _)
theorem set_any {d : Addr} {es : Array DictEntry} {ep : Nat} {ks : List NestedKey} {k : NestedKey} {v u : Value} {Q : Unit → Shared → Prop} (room : A.units + 8 < cLine) (hk : NestedIs s.heap k v) (kd : k.depth ≤ 8) (hm : s.heap.DictRaw d es ep)
    (x : EntsOf w s.heap ks es) (new : ∀ j : Nat, ks[j]? ≠ some k) (hz : ks.length ≤ sizeLine) (q : ∀ h' ep' tk, h'.DictRaw d (es.push ⟨k.hash w, v, u⟩) ep' → Heap.SameBut d s.heap h' → Q () { s with heap := h', toks := tk }) : wpAny (model prog w) A (dictSet d v u) Q E s := by
  obtain ⟨o, ho, hc, hdat⟩ := hm
  unfold dictSet
  try with_reducible refine wpAny_holding ?_
  refine wpAny_bind (pyHash_key k v A s _ hk (by omega) ?_)
  unfold dictSetHashed
  try with_reducible refine wpAny_holding ?_
  refine wpAny_bind (find_any (s := { s with toks := s.toks + k.draws }) room hk kd ho hdat x (fun _ => ?_) fun i hi => absurd hi (new i))
  exact wpAny_bind (wpAny_rule (wpAny_updateDictKeys (hz := by rw [x.size]; exact hz) (s := { s with toks := s.toks + k.draws }) ho hdat (q _ (ep + 1) _ ⟨_, Heap.get?_update_self _ ho (Obj.isFreed_of_dict (Obj.data_mapDictKeys hdat _)), hc.mapDictKeys _, Obj.data_mapDictKeys hdat _⟩ (Heap.SameBut.update ..))))
/-- dict(xs), the keys of any kind, each but once -/
theorem dict_any {T : String} {a : Addr} {fp : List Addr} {n : Nat} {Rel : Nat → Value → Value → Prop} {OK : Heap → Prop} {ps : List KE3} {Q : Value → Shared → Prop} (P : PairArg prog w T a fp [] n Rel OK) (hh : A.handled = none) (room : A.units + 16 < cLine) (ok : OK s.heap) (hl : ps.length = n)
    (hc : ∀ i key v, Rel i key v → ∃ k, ps[i]? = some (k, key, v)) (al : AllAt s.heap ps) (nd : (ps.map (·.1)).Nodup) (hz : n ≤ sizeLine)
    (q : ∀ h' ep tk, h'.DictRaw s.heap.objs.size (entsA w ps) ep → (∀ b o, s.heap.get? b = some o → h'.get? b = some o) → Q (.ref s.heap.objs.size) { s with heap := h', toks := tk }) : wpAny (model prog w) A (call (.type "dict") [.ref a]) Q E s := by
  refine call_dict_arg P ok fun s1 e1 hdf ok1 => ?_
  subst e1
  have room1 : A.in1.in1.units + 8 < cLine := by simp only [Around.in1_units]; omega
  have ss : ∀ h', (∀ b o, b ≠ s.heap.objs.size → s.heap.get? b = some o → h'.get? b = some o) → SeqsStay s.heap h' := fun h' k b o vs n hb _ => k b o (Nat.ne_of_lt (Heap.lt_size hb)) hb
  refine updateFrom_arg (A := A.in1) (Tab := fun i h => (∃ ep, h.DictRaw s.heap.objs.size (entsA w (ps.take i)) ep) ∧ ∀ b o, b ≠ s.heap.objs.size → s.heap.get? b = some o → h.get? b = some o) P .none hh ok1 hdf ⟨⟨_, _, Heap.get?_push_size _ rfl, ⟨rfl, rfl, rfl⟩, rfl⟩, fun b o _ e => Heap.get?_push_of_some _ e⟩ (fun i h tb => ?_) (fun i h h' wr' hd hw tb hk => ?_) (fun i k v s' Q' E' hi hr tb _ hQ => ?_) (fun h' tk tb hk => ?_)
  · obtain ⟨⟨ep, o, ho, _⟩, _⟩ := tb
    exact Heap.lt_size ho
  · obtain ⟨⟨ep, hm⟩, hb⟩ := tb
    refine ⟨⟨ep, hm.at fun o e => hk _ o hd e⟩, fun b o ne e => hk b o (fun hm' => ?_) (hb b o ne e)⟩
    rcases hw b hm' with z | z
    · cases z
    · rw [Heap.get?_push_of_some _ e] at z
      cases z
  · obtain ⟨⟨ep, hm⟩, hb⟩ := tb
    obtain ⟨k', hk'⟩ := hc i k v hr
    have al' := al.keep (ss s'.heap hb)
    have me := al' _ (List.mem_of_getElem? hk')
    have nt : ((ps.take i).map (·.1)).Nodup := by rw [List.map_take]; exact nd.sublist (List.take_sublist _ _)
    refine set_any room1 me.1 me.2 hm (ents_of (fun p m => al' p (List.mem_of_mem_take m)) nt) (fresh_key nd hk') (by rw [List.length_map, List.length_take]; omega) fun h' ep' tk hm' hs => ?_
    refine hQ h' tk ⟨⟨ep', ?_⟩, fun b o ne e => hs.extBut b o ne (hb b o ne e)⟩ hs
    have e : entsA w (ps.take (i + 1)) = (entsA w (ps.take i)).push ⟨k'.hash w, k, v⟩ := by
      unfold entsA
      rw [List.take_add_one, hk', List.map_append]
      simp [entA]
    rw [e]
    exact hm'
  · obtain ⟨⟨ep, hm⟩, hb⟩ := tb
    rw [List.take_of_length_le (Nat.le_of_eq hl)] at hm
    exact ⟨rfl, q h' ep tk hm fun b o e => hb b o (Nat.ne_of_lt (Heap.lt_size e)) e⟩
end
end Sr

set_option Elab.async false
set_option linter.all false
set_option maxRecDepth 100000
set_option maxHeartbeats 4000000
namespace Sr
open PySem PySem.Spec PyProof.Rows L2
/-! ### the dict with keys of all kinds as a thing of the hand layer -/
inductive KeyIs (H : Hp) : NestedKey → V → Prop
  | non : KeyIs H .none .non
  | bl (b : Bool) : KeyIs H (.num (if b = true then 1 else 0)) (.bl b)
  | int (i : Int) : KeyIs H (.num i) (.int i)
  | str (s : Str) : KeyIs H (.text s) (.str s)
  | tup {q : Addr} {ss : List Str} : H q = some (.tup (ss.map V.str)) → KeyIs H (.tup (ss.map NestedKey.text)) (.ref q)
theorem KeyIs.mono {H H' : Hp} {k : NestedKey} {v : V} (e : Same H H') (x : KeyIs H k v) : KeyIs H' k v := by
  cases x with
  | non => exact .non
  | bl b => exact .bl b
  | int i => exact .int i
  | str s => exact .str s
  | tup h => exact .tup (e _ _ h)
theorem nested_texts {h : Heap} : ∀ {ss : List Str} {us : List Value}, Vals (ss.map V.str) us → NestedAll h (ss.map NestedKey.text) us
  | [], _, r => by cases r; exact .nil
  | s :: t, us, r => by
    cases us with
    | nil => cases r
    | cons u us =>
      cases r with
      | cons r1 r2 =>
        obtain ⟨tk, rfl⟩ := r1
        exact .cons (.text s tk) (nested_texts r2)
theorem depth_texts : ∀ ss : List Str, NestedKey.depthAll (ss.map NestedKey.text) = 0
  | [] => rfl
  | s :: t => by
    rw [List.map_cons, NestedKey.depthAll, depth_texts t]
    rfl
theorem KeyIs.deep {H : Hp} {k : NestedKey} {v : V} (x : KeyIs H k v) : k.depth ≤ 8 := by
  cases x with
  | tup h =>
    rw [NestedKey.depth, depth_texts]
    decide
  | _ => exact Nat.zero_le _
theorem KeyIs.nested {P : Program} {w : World} {H : Hp} {h : Heap} {k : NestedKey} {v : V} {u : Value} (ok : HOk P w H h) (x : KeyIs H k v) (r : RelV v u) : NestedIs h k u := by
  cases x with
  | non => subst r; exact .none
  | bl b => subst r; exact .bool rfl
  | int i =>
    obtain ⟨t, rfl⟩ := r
    exact .int i t
  | str s =>
    obtain ⟨t, rfl⟩ := r
    exact .text s t
  | tup hq =>
    subst r
    obtain ⟨_, its, rv, o, e, c, n, d⟩ := ok _ _ hq
    exact .tup e c d (by simpa using nested_texts rv)
/-- what the dict at d is -/
def MixO (d : Addr) (es : Array DictEntry) (ep : Nat) : HO := .ext fun h => h.DictRaw d es ep ∧ (d == sysModules) = false
abbrev KV3 := NestedKey × V × V
def MixE (w : World) (kvs : List KV3) (H : Hp) (es : Array DictEntry) : Prop := es.size = kvs.length ∧ (kvs.map (·.1)).Nodup ∧
  ∀ (j : Nat) (p : KV3), kvs[j]? = some p → ∃ e, es[j]? = some e ∧ KeyIs H p.1 p.2.1 ∧ RelV p.2.1 e.key ∧ RelV p.2.2 e.val ∧ e.hash = p.1.hash w
theorem MixE.mono {w : World} {H H' : Hp} {kvs : List KV3} {es : Array DictEntry} (e : Same H H') (x : MixE w kvs H es) : MixE w kvs H' es := by
  obtain ⟨h2, h3, h4⟩ := x
  refine ⟨h2, h3, fun j p hp => ?_⟩
  obtain ⟨en, g1, g2, g3⟩ := h4 j p hp
  exact ⟨en, g1, g2.mono e, g3⟩
def IsMix (w : World) (d : Addr) (kvs : List KV3) (H : Hp) (o : HO) : Prop := ∃ (es : Array DictEntry) (ep : Nat), o = MixO d es ep ∧ MixE w kvs H es
def MixAt (w : World) (H : Hp) (d : Addr) (kvs : List KV3) : Prop := ∃ o, H d = some o ∧ IsMix w d kvs H o
theorem IsMix.mono {w : World} {H H' : Hp} {d : Addr} {kvs : List KV3} {o : HO} (e : Same H H') (x : IsMix w d kvs H o) : IsMix w d kvs H' o := by
  obtain ⟨es, ep, h1, h2⟩ := x
  exact ⟨es, ep, h1, h2.mono e⟩
theorem MixAt.mono {w : World} {H H' : Hp} {d : Addr} {kvs : List KV3} (e : Same H H') (x : MixAt w H d kvs) : MixAt w H' d kvs :=
  let ⟨o, h, x⟩ := x
  ⟨o, e _ _ h, x.mono e⟩
section
variable {X : Cx} {pins : List (Addr × Obj)} {σ : L2.St} {H : Hp} {s : Shared}
theorem IsMix.ents {w : World} {kvs : List KV3} {P : Program} {h : Heap} {es : Array DictEntry} (ok : HOk P w H h) (h2 : es.size = kvs.length) (h3 : (kvs.map (·.1)).Nodup)
    (h4 : ∀ (j : Nat) (p : KV3), kvs[j]? = some p → ∃ e, es[j]? = some e ∧ KeyIs H p.1 p.2.1 ∧ RelV p.2.1 e.key ∧ RelV p.2.2 e.val ∧ e.hash = p.1.hash w) : EntsOf w h (kvs.map (·.1)) es := by
  refine ⟨by rw [h2, List.length_map], fun j e he => ?_, h3⟩
  have lt : j < kvs.length := by rw [← h2]; exact (Array.getElem?_eq_some_iff.mp he).1
  obtain ⟨e', g1, g2, g3, g4, g5⟩ := h4 j kvs[j] (List.getElem?_eq_getElem lt)
  rw [he] at g1
  cases g1
  exact ⟨kvs[j].1, by rw [List.getElem?_map, List.getElem?_eq_getElem lt]; rfl, g2.nested ok g3, g5, g2.deep⟩
theorem MixAt.open (I : Inv X pins σ H s) {d : Addr} {kvs : List KV3} (m : MixAt X.w H d kvs) : ∃ es ep, H d = some (MixO d es ep) ∧ s.heap.DictRaw d es ep ∧ (d == sysModules) = false ∧ EntsOf X.w s.heap (kvs.map (·.1)) es ∧ es.size = kvs.length ∧
    ∀ (j : Nat) (p : KV3), kvs[j]? = some p → ∃ e, es[j]? = some e ∧ KeyIs H p.1 p.2.1 ∧ RelV p.2.1 e.key ∧ RelV p.2.2 e.val := by
  obtain ⟨o, h, es, ep, rfl, h2, h3, h4⟩ := m
  obtain ⟨⟨g1, g2⟩, _⟩ := I.hok d _ h
  exact ⟨es, ep, h, g1, g2, IsMix.ents I.hok h2 h3 h4, h2, fun j p hp => by
    obtain ⟨e, a1, a2, a3, a4, _⟩ := h4 j p hp
    exact ⟨e, a1, a2, a3, a4⟩⟩
theorem mixPairs_of (I : Inv X pins σ H s) : ∀ {ts : List Addr} {kvs : List KV3}, Paired (fun t (p : KV3) => SqT X.K H t [p.2.1, p.2.2] ∧ KeyIs H p.1 p.2.1) ts kvs →
    ∃ ps : List KE3, ps.length = ts.length ∧ kvs.length = ts.length ∧ ∀ (j : Nat) (p : KV3), kvs[j]? = some p → ∃ t q, ts[j]? = some t ∧ ps[j]? = some q ∧ p.1 = q.1 ∧ KeyIs H p.1 p.2.1 ∧ RelV p.2.1 q.2.1 ∧ RelV p.2.2 q.2.2 ∧ IsTup s.heap t #[q.2.1, q.2.2] ∧ NestedIs s.heap q.1 q.2.1
  | _, _, .nil => ⟨[], rfl, rfl, fun j q e => by simp at e⟩
  | _, _, .cons (a := t) (b := kv) h r => by
    obtain ⟨xs, hl, hl2, hp⟩ := mixPairs_of I r
    obtain ⟨hq, hk⟩ := h
    obtain ⟨its, rv, ht, _⟩ := I.tuple hq
    obtain ⟨u, y, ei, ru, ry⟩ := vals2 rv
    subst ei
    refine ⟨(kv.1, u, y) :: xs, by rw [List.length_cons, List.length_cons, hl], by rw [List.length_cons, List.length_cons, hl2], fun j p e => ?_⟩
    cases j with
    | zero =>
      obtain rfl : kv = p := Option.some.inj e
      exact ⟨t, _, rfl, rfl, rfl, hk, ru, ry, ht, hk.nested I.hok ru⟩
    | succ j =>
      obtain ⟨t', q', e1, e2⟩ := hp j p (by simpa using e)
      exact ⟨t', q', by simpa using e1, by simpa using e2⟩
theorem keys_same {ps : List KE3} {kvs : List KV3} {n : Nat} (h1 : ps.length = n) (h2 : kvs.length = n) (h : ∀ (j : Nat) (p : KV3), kvs[j]? = some p → ∃ q, ps[j]? = some q ∧ p.1 = q.1) : ps.map (·.1) = kvs.map (·.1) := by
  refine List.ext_getElem? fun j => ?_
  rw [List.getElem?_map, List.getElem?_map]
  by_cases lt : j < kvs.length
  · obtain ⟨q, e1, e2⟩ := h j kvs[j] (List.getElem?_eq_getElem lt)
    rw [e1, List.getElem?_eq_getElem lt]
    exact congrArg some e2.symm
  · rw [List.getElem?_eq_none (by omega), List.getElem?_eq_none (by omega)]
    rfl
end
section
variable {X : Cx}
theorem call_dictM (hcalm : X.calm = true) (hu : X.A.units + 64 < cLine) : CallR X (.type "dict") (fun xs H Q => ∃ (a : Addr) (ts : List Addr) (kvs : List KV3), xs = [.ref a] ∧ SqL X.K H a (ts.map V.ref) ∧ Paired (fun t (p : KV3) => SqT X.K H t [p.2.1, p.2.2] ∧ KeyIs H p.1 p.2.1) ts kvs ∧
    (kvs.map (·.1)).Nodup ∧ ∀ p o, H p = none → IsMix X.w p kvs H o → Q (.ref p) (upd H p o)) := by
  intro pins s σ H xs us Q I r q
  obtain ⟨a, ts, kvs, ex, hq, hp, nd, q⟩ := q
  subst ex
  obtain ⟨u, eu, rx⟩ := vals1 r
  subst eu
  cases rx
  obtain ⟨its, rv, pl, hz⟩ := I.list hq
  have ei := refs_at rv
  subst ei
  rw [List.length_map] at hz
  obtain ⟨ps, hl, hl2, hpr⟩ := mixPairs_of I hp
  have ek : ps.map (·.1) = kvs.map (·.1) := keys_same hl hl2 fun j p e => by
    obtain ⟨t, q', _, e1, e2, _⟩ := hpr j p e
    exact ⟨q', e1, e2⟩
  have back : ∀ (j : Nat) (x : KE3), ps[j]? = some x → ∃ p : KV3, kvs[j]? = some p ∧ ∃ t, ts[j]? = some t ∧ p.1 = x.1 ∧ KeyIs H p.1 p.2.1 ∧ RelV p.2.1 x.2.1 ∧ RelV p.2.2 x.2.2 ∧ IsTup s.heap t #[x.2.1, x.2.2] ∧ NestedIs s.heap x.1 x.2.1 := fun j x e => by
    have lt : j < kvs.length := by
      have := (List.getElem?_eq_some_iff.mp e).1
      omega
    obtain ⟨t, q', e1, e2, r⟩ := hpr j kvs[j] (List.getElem?_eq_getElem lt)
    rw [e] at e2
    cases e2
    exact ⟨kvs[j], List.getElem?_eq_getElem lt, t, e1, r⟩
  obtain ⟨o, n, ho, hc, hd, hdat⟩ := pl
  have P := PairArg.list (prog := X.prog) (w := X.w) a (ts.map Value.ref).toArray (fun j => ts.getD j 0) (ps.map fun x => (x.2.1, x.2.2))
  refine dict_any (ps := ps) P (I.ok.hd hcalm) (by omega) ⟨⟨o, n, ho, hc, hd, hdat⟩, by simp [hl], fun j k v e => ?_⟩ (by simp) (fun i k v e => ?_) (fun x hx => ?_) (by rw [ek]; exact nd) (by rw [List.length_map, hl]; exact hz) fun h' ep tk hm keep => ?_
  · rw [List.getElem?_map] at e
    obtain ⟨x, hx, e⟩ := Option.map_eq_some_iff.mp e
    obtain ⟨p, _, t, e1, e2, e3, e4, e5, e6, e7⟩ := back j x hx
    cases e
    have g : ts.getD j 0 = t := by rw [List.getD_eq_getElem?_getD, e1]; rfl
    exact ⟨by simp [e1], .inl (by show IsTup s.heap (ts.getD j 0) _; rw [g]; exact e6)⟩
  · have e : (ps.map fun x => (x.2.1, x.2.2))[i]? = some (k, v) := e
    rw [List.getElem?_map] at e
    obtain ⟨x, hx, e⟩ := Option.map_eq_some_iff.mp e
    cases e
    exact ⟨x.1, hx⟩
  · obtain ⟨j, hj⟩ := List.mem_iff_getElem?.mp hx
    obtain ⟨p, _, t, e1, e2, e3, e4, e5, e6, e7⟩ := back j x hj
    exact ⟨e7, by rw [← e2]; exact e3.deep⟩
  · have hsm : (s.heap.objs.size == sysModules) = false := beq_eq_false_iff_ne.mpr (Nat.ne_of_gt I.big)
    refine ⟨.ref s.heap.objs.size, upd H s.heap.objs.size (MixO s.heap.objs.size (entsA X.w ps) ep), I.laid (t' := tk) keep (Nat.le_refl _) ⟨⟨hm, hsm⟩, ?_, fun h1 h2 ⟨φ1, φ2⟩ k => ⟨φ1.at k, φ2⟩⟩, rfl, q _ _ (I.hok.fresh (Nat.le_refl _)) ⟨_, _, rfl, ?_, nd, fun j p e => ?_⟩⟩
    · obtain ⟨o', g, _⟩ := hm
      exact ⟨o', g⟩
    · rw [entsA, List.size_toArray, List.length_map, hl, hl2]
    · obtain ⟨t, x, e1, e2, e3, e4, e5, e6, _⟩ := hpr j p e
      refine ⟨entA X.w x, by rw [entsA_at, e2]; rfl, e4, e5, e6, ?_⟩
      rw [e3]
      rfl
theorem call_isiM : CallR X (.builtin "isinstance") (fun xs H Q => ∃ d kvs, xs = [.ref d, .ty "dict"] ∧ MixAt X.w H d kvs ∧ Q (.bl true) H) := by
  intro pins s σ H xs us Q I r h
  obtain ⟨d, kvs, rfl, m, q⟩ := h
  obtain ⟨u1, u2, rfl, r1, r2⟩ := vals2 r
  cases r1
  cases r2
  obtain ⟨es, ep, _, ⟨o, h1, h2, _⟩, _⟩ := m.open I
  exact PySem.W.kia_one PySem.W.kitx_dict I.kIn ⟨o, h1, h2.1⟩ (kit_ty (show kitB "dict" "dict" = some true by decide +kernel)) (fun z => nomatch z) fun tk => ⟨.bl true, H, I.tok tk, rfl, q⟩
theorem ix_mix (hu : X.A.units + 64 < cLine) : IxR X (fun x y H Q => ∃ (d : Addr) (kvs : List KV3) (z : Str) (j : Nat) (p : KV3), x = .ref d ∧ y = .str z ∧ MixAt X.w H d kvs ∧ kvs[j]? = some p ∧ p.1 = .text z ∧ Q p.2.2 H) := by
  intro value slice pins s σ H x y v u Q I rx ry h hs
  obtain ⟨d, kvs, z, j, p, rfl, rfl, m, hj, hp, q⟩ := h
  cases rx
  obtain ⟨t, rfl⟩ := ry
  obtain ⟨es, ep, _, hm, hsm, en, sz, ents⟩ := m.open I
  obtain ⟨e, he, _, _, rv⟩ := ents j p hj
  obtain ⟨o, ho, hc, hdat⟩ := id hm
  refine tail_any hm.typeIs slot_dict_getitem.lookup ?_ hs
  unfold getItem
  try with_reducible refine wpAny_holding ?_
  refine wpAny_bind (wpAny_sequenceKey hm.typeIs (by decide) ?_)
  refine wpAny_bind (wpAny_callSpecial?_slot (name := Str.ofString "__getitem__") hm.typeIs slot_dict_getitem (wpAny_call_entry slot_dict_getitem hm.typeIs entry_dict_getitem ?_ (args_dict_getitem _ _)))
  show wpAny _ _ (dictGet d (.str z t) >>= _) _ _ s
  refine wpAny_bind (get_any (by simp only [Around.in1_units]; omega) (.text z t) (Nat.zero_le _) ho hdat en (by rw [List.getElem?_map, hj]; exact congrArg some hp) he fun tk => ?_)
  exact wpAny_pure ⟨e.val, rfl, wpAny_pure ⟨p.2.2, H, I.tok tk, rv, q⟩⟩
/-- for k in such a dict -/
def ItM (w : World) (d : Addr) (kvs : List KV3) (es : Array DictEntry) (ep : Nat) : It :=
  ⟨fun i H => (H d = some (MixO d es ep) ∧ MixE w kvs H es) ∧ i < kvs.length, fun i H x H' => H' = H ∧ ∃ p, kvs[i]? = some p ∧ x = p.2.1, fun i H => (H d = some (MixO d es ep) ∧ MixE w kvs H es) ∧ kvs.length ≤ i⟩
theorem walk_mix {w : World} {d : Addr} {kvs : List KV3} {es : Array DictEntry} {ep : Nat} : Walk (ItM w d kvs es ep) kvs.length (fun H => H d = some (MixO d es ep) ∧ MixE w kvs H es) (YAt (kvs.map (·.2.1))) := by
  refine ⟨fun i H hi m => ⟨m, hi⟩, fun H m => ⟨m, Nat.le_refl _⟩, fun i H x H' hi m y => ?_⟩
  obtain ⟨e, p, hp, rfl⟩ := y
  exact ⟨e, by rw [List.getElem?_map, hp]; rfl⟩
end
theorem turn_mix {P : Program} {w : World} {K : PySem.W.Frag} {tg : Expr} {d it : Addr} {es : Array DictEntry} {ep : Nat} {kvs : List KV3} :
    Turn P w K tg (ItM w d kvs es ep) [it] it (fun i h => h.IsKeyIter it d i es.size ep) where
  mem := List.mem_singleton.mpr rfl
  obj i h st b hb := by
    obtain rfl := List.mem_singleton.mp hb
    obtain ⟨oi, e, c, dd⟩ := st
    exact ⟨oi, e, fun v z => by rw [dd] at z; cases z⟩
  keep i h h' st k := st.at (k it (List.mem_singleton.mpr rfl))
  item := by
    rintro X rfl rfl rfl hc i pins s σ H E I hf st ⟨⟨hd, hsz, nd, hx⟩, hi⟩
    obtain ⟨f0, f1, f2, f3, f4, f5⟩ := hf it (List.mem_singleton.mpr rfl)
    obtain ⟨⟨hm, _⟩, _⟩ := I.hok d _ hd
    obtain ⟨e, he, hk, rk, rv, _⟩ := hx i kvs[i] (List.getElem?_eq_getElem hi)
    have lt : i < es.size := by omega
    refine wpAny_pyNext_keys_item_raw st hm lt fun h' st' sb => ?_
    have I1 : Inv X pins σ H { s with heap := h' } := I.turned (t' := s.toks) (fun b ob hb e => (sb.2 b hb).trans e) f0 f1 f3 f4 f5
    obtain ⟨oi, a1, a2, a3⟩ := id st'
    rw [Array.getElem?_eq_getElem lt] at he
    cases he
    exact ⟨_, rfl, go_of (s := { s with heap := h' }) a1 a2 a3 (by decide) ⟨_, H, I1, rk, ⟨rfl, kvs[i], List.getElem?_eq_getElem hi, rfl⟩, st', fun b hb => (hf b hb).1⟩⟩
  done := by
    rintro X rfl rfl rfl hc i pins s σ H E I hf st ⟨⟨hd, hsz, nd, hx⟩, hi⟩
    obtain ⟨f0, f1, f2, f3, f4, f5⟩ := hf it (List.mem_singleton.mpr rfl)
    obtain ⟨⟨hm, _⟩, _⟩ := I.hok d _ hd
    exact wpAny_pyNext_keys_end_raw (I.ok.hd hc) st hm (by omega) fun h' eb => ⟨rfl, I.turned (t' := s.toks) (fun b ob hb e => eb b ob hb e) f0 f1 f3 f4 f5⟩
  self A i s Q E st h := wpAny_pyIter_keyiter st h
def iMix (w : World) (td : TE) : TI := fun σ H R => td σ H fun x H1 => ∃ (d : Addr) (kvs : List KV3), x = .ref d ∧ MixAt w H1 d kvs ∧ ∀ es ep, H1 d = some (MixO d es ep) → MixE w kvs H1 es → R (ItM w d kvs es ep) H1
theorem pi_mix {X : Cx} {tg e : Expr} {td : TE} (he : PE X e td) : PI X tg e (iMix X.w td) := by
  refine ⟨fun pins s σ H R I h => ?_⟩
  refine thn (he.run pins s σ H _ I h) fun u s1 ⟨x, H1, I1, rx, d, kvs, ex, m, q⟩ => ?_
  subst ex
  cases rx
  obtain ⟨o, h0, es, ep, rfl, me⟩ := m
  obtain ⟨⟨hm, hsm⟩, _⟩ := I1.hok d _ h0
  refine wpAny_pyIter_dict_raw hsm hm (pi_one (tk := s1.toks) I1 _ turn_mix ⟨_, Heap.get?_push_size _ rfl, rfl, rfl⟩ (q es ep h0 me))
end Sr

set_option Elab.async false
set_option linter.all false
set_option maxRecDepth 100000
set_option maxHeartbeats 4000000
namespace K00
open PySem PySem.Spec PyProof.Rows L2 Sr
def words : List Str := ["points", "few", "home", "early", "late"]
def wordD : Dt → Bool
  | .str s => decide (s ∈ words)
  | _ => false
/-- unlike words in a list or a tuple -/
def wordsOk (ds : List Dt) : Bool := ds.all wordD && decide ((met (strsOf ds) (strsOf ds).length).length = (strsOf ds).length)
def rankOk (d : Dt) : Bool := match seqOf d with
  | some l => wordsOk l
  | none => false
/-- what may stand in a list: what is flat, or plain data -/
def elP (d : Dt) : Prop := flatD d ∨ (isSeq d = true ∧ plainD d = true ∧ SeqAt.shaped (toP d) = true)
def rkP (d : Dt) : Prop := ∀ l, seqOf d = some l → ∀ x ∈ l, elP x
structure Wds (K : PySem.W.Frag) (mg : Str → Option Value) : Prop where
  at_ : mg "WORDS" = some (.ref (He.ga K "WORDS"))
  is_ : ∀ H : Hp, SqT K H (He.ga K "WORDS") (words.map V.str)
theorem Wds.pe {X : Cx} {p : Pos} {K : PySem.W.Frag} {mg : Str → Option Value} (W : Wds K mg) (h : Gl X "WORDS") (hm : X.mg = mg := by rfl) : PE X (.Name "WORDS" p) (tC (.ref (He.ga K "WORDS"))) := pe_glob h (hm ▸ W.at_) rfl
theorem word_str {ds : List Dt} (h : ds.all wordD = true) : ds.all isStr = true := by
  rw [List.all_eq_true] at h ⊢
  intro d hd
  have := h d hd
  cases d <;> first | rfl | cases this
theorem inV_strs (s : Str) : ∀ ws : List Str, inV (.str s) (ws.map V.str) = decide (s ∈ ws)
  | [] => rfl
  | x :: r => by
    have ih := inV_strs s r
    unfold inV at ih ⊢
    rw [List.map_cons, List.any_cons, ih]
    by_cases c : x = s
    · subst c
      simp [eqV]
    · have c' : ¬ s = x := fun z => c z.symm
      simp [eqV, c, c']
theorem word_flat {d : Dt} (f : flatD d) : inV (valD d) (words.map V.str) = wordD d := by
  cases d with
  | str s =>
    exact inV_strs s words
  | non => rfl
  | bl b => cases b <;> rfl
  | int i => rfl
  | lst l => cases f.1
  | tup l => cases f.1
  | dic => exact absurd rfl f.2
def wordsP : List PyData := words.map PyData.str
theorem words_p (K : PySem.W.Frag) (H : Hp) : ∀ ws : List Str, DpAll K H (ws.map V.str) (ws.map PyData.str)
  | [] => .nil
  | s :: r => .cons (.str s) (words_p K H r)
theorem no_word {d : Dt} (h : isSeq d = true) : (wordsP.any fun z => PyData.eqv z (toP d)) = false := by
  cases d with
  | lst l => rfl
  | tup l => rfl
  | _ => cases h
theorem op_inDTK {X : Cx} (K : PySem.W.Frag) (hK : X.K = K) (hu : X.A.units + 65 < cLine) : OpR X (compareOp .In) (rInDT K) := hK ▸ op_inDT hu
section
variable {P : Program} {w : World} {K : PySem.W.Frag} {mg : Str → Option Value} {base : Heap}
abbrev s_is_rank : Stmt := top 12
theorem sc_is_rank : FnScope ["thing", "word"] ["thing"] (defScope s_is_rank) := ⟨rfl, rfl, rfl, by decide +kernel, rfl, by decide +kernel, by decide +kernel⟩
theorem c_is_rank (T : Txt K mg) (W : Wds K mg) (D : Dfn K mg "is_rank" s_is_rank) (C_is_list : Cal P w K mg base 1 "is_list" ["thing"] (spB isSeq)) : Cal P w K mg base 2 "is_rank" ["thing"] (spBP rkP rankOk) := by
  refine D.cal sc_is_rank (fun _ _ _ _ _ _ us hl => match us, hl with | [_], _ => rfl) spBP_len fun cdv A outer s H vs Q E hr h => ?_
  obtain ⟨v, d, rfl, hv, hf, q⟩ := h
  have turn : ∀ (xs : List V) (ds : List Dt) (H1 : Hp), IsA H1 xs ds → (∀ x ∈ ds, elP x) → ∀ (i : Nat) (u y : V) (H2 : Hp) (R : VK), xs[i]? = some u → ((ds.map wordD).map V.bl)[i]? = some y → Same H1 H2 → (∀ H3, Same H2 H3 → R y H3) →
      (rIn K false u (.ref (He.ga K "WORDS")) H2 R ∨ rInDT K u (.ref (He.ga K "WORDS")) H2 R) := fun xs ds H1 hA hP i u y H2 R hu hy s2 k => by
    obtain ⟨e, he, hI⟩ := hA.get hu
    rw [List.getElem?_map, List.getElem?_map, he] at hy
    obtain rfl : V.bl (wordD e) = y := Option.some.inj hy
    rcases hP e (List.mem_of_getElem? he) with f | ⟨f1, f2, f3⟩
    · obtain ⟨rfl, fv⟩ := flat_val hI f
      refine .inl ⟨He.ga K "WORDS", words.map V.str, rfl, .inr (W.is_ _), fv, by decide +kernel, ?_⟩
      show R (.bl (inV (valD e) (words.map V.str))) H2
      rw [word_flat f]
      exact k _ (Same.refl _)
    · refine .inr ⟨toP e, wordsP, dp_of (hI.mono s2) f2, .tup (W.is_ _) (words_p K _ words), f3, by decide +kernel, ?_⟩
      rw [no_word f1]
      have : wordD e = false := by cases e <;> first | rfl | cases f1
      rw [this] at k
      exact k _ (Same.refl _)
  have fin : ∀ (xs : List V) (ds : List Dt) (H1 : Hp), Same H H1 → IsA H xs ds → rankOk d = wordsOk ds → ds.all wordD = true →
      xs = (strsOf ds).map V.str ∧ ∀ H', Same H1 H' → Q (.bl (decide (V.int ((met (strsOf ds) (strsOf ds).length).length : Nat) = V.int (xs.length : Nat)))) H' := fun xs ds H1 s1 hA e1 e2 => by
    have ex := hA.strs (word_str e2)
    refine ⟨ex, fun H' s' => ?_⟩
    have el : xs.length = (strsOf ds).length := by
      have := congrArg List.length ex
      rwa [List.length_map] at this
    have e : decide (V.int ((met (strsOf ds) (strsOf ds).length).length : Nat) = V.int (xs.length : Nat)) = rankOk d := by
      rw [e1, wordsOk, e2, Bool.true_and, el]
      by_cases c : (met (strsOf ds) (strsOf ds).length).length = (strsOf ds).length
      · rw [decide_eq_true c, decide_eq_true (by rw [c])]
      · rw [decide_eq_false c, decide_eq_false fun z => c (by injection z with z; exact Int.ofNat.inj z)]
    rw [e]
    exact q H' (s1.trans s')
  have bad : ∀ (ds : List Dt), rankOk d = wordsOk ds → ds.all wordD = false → rankOk d = false := fun ds e1 e2 => by rw [e1, wordsOk, e2]; rfl
  have hv0 := hv
  cases hv with
  | lst h r z =>
    rename_i a xs ds
    refine ⟨_, (pss_cons (ps_if (PW.pt (pw_or (pt_not (pt_val (pe_cal C_is_list hr (by first | decide | omega) (by rfl) (pa_cons (pv 0) pa_nil)))) (pw_or1 (pt_not (pt_val (pe_callB (id := "all") (cr_all rfl) (by rfl) T.all (by decide +kernel) (pa_cons (pe_lc (own := [("word", 1)]) (g := gName 1) (tt := tYes) rfl sc_is_rank.nd (pi_list (pv 0)) (blkOk_by (N := ["thing", "word"]) (sc := defScope s_is_rank) (by decide +kernel)) (fun _ _ _ _ _ => (pg_name (i := 1) sc_is_rank.nd rfl (by first | exact Or.inl rfl | exact Or.inr rfl))) (fun _ _ _ _ _ => pts_nil) (fun _ _ _ _ _ => (pe_cmpR (op_or (op_in_seqK K rfl) (op_inDTK K rfl (u65 hr))) (pv 1) (W.pe (by rfl)) (by rfl)))) pa_nil))))))) (pss_one (ps_ret pe_bl)) pss_nil)
      (pss_one (ps_ret (pe_cmpR op_eq (pe_lenSetT rfl (by rfl) T.len (by rfl) T.set (pv 0)) (pe_callB (id := "len") call_len_seq (by rfl) T.len (by decide +kernel) (pa_cons (pv 0) pa_nil)) (nomark _))))), ?_⟩
    refine ⟨_, rfl, _, _, rfl, .lst h r z, fun H1 s1 => ⟨_, rfl, iteF ⟨_, rfl, a, rfl, ⟨_, SqL.of (s1 _ _ h)⟩, fun D hD => lc_pure walk_list walk_at ((ds.map wordD).map V.bl) (by rw [List.length_map, List.length_map, r.len]) (sz z) hD (fun H2 s2 => SqL.of (s2 _ _ (s1 _ _ h)))
      (fun i u y H2 R hi hu hy s2 k => ⟨_, rfl, turn xs ds H1 (r.mono s1) (hf ds rfl) i u y H2 R hu hy s2 k⟩) (fun H2 s2 h2 => ⟨D, ds.map wordD, rfl, SqL.of h2, ?_⟩)⟩⟩⟩
    refine ⟨_, rfl, ?_⟩
    rw [List.all_map]
    cases c : ds.all wordD with
    | true =>
      obtain ⟨ex, q2⟩ := fin xs ds H1 s1 r rfl c
      rw [show ds.all (id ∘ wordD) = true from c]
      refine iteF ⟨_, rfl, a, strsOf ds, rfl, .inl (by rw [← ex]; exact SqL.of (s2 _ _ (s1 _ _ h))), by have := congrArg List.length ex; rw [List.length_map] at this; omega, _, rfl, a, xs, rfl, .inl (SqL.of (s2 _ _ (s1 _ _ h))), rfl, q2 _ s2⟩
    | false =>
      rw [show ds.all (id ∘ wordD) = false from c]
      rw [bad ds rfl c] at q
      exact iteT (q H2 (s1.trans s2))
  | tup h r z =>
    rename_i a xs ds
    refine ⟨_, (pss_cons (ps_if (PW.pt (pw_or (pt_not (pt_val (pe_cal C_is_list hr (by first | decide | omega) (by rfl) (pa_cons (pv 0) pa_nil)))) (pw_or1 (pt_not (pt_val (pe_callB (id := "all") (cr_all rfl) (by rfl) T.all (by decide +kernel) (pa_cons (pe_lc (own := [("word", 1)]) (g := gName 1) (tt := tYes) rfl sc_is_rank.nd (pi_tup (pv 0)) (blkOk_by (N := ["thing", "word"]) (sc := defScope s_is_rank) (by decide +kernel)) (fun _ _ _ _ _ => (pg_name (i := 1) sc_is_rank.nd rfl (by first | exact Or.inl rfl | exact Or.inr rfl))) (fun _ _ _ _ _ => pts_nil) (fun _ _ _ _ _ => (pe_cmpR (op_or (op_in_seqK K rfl) (op_inDTK K rfl (u65 hr))) (pv 1) (W.pe (by rfl)) (by rfl)))) pa_nil))))))) (pss_one (ps_ret pe_bl)) pss_nil)
      (pss_one (ps_ret (pe_cmpR op_eq (pe_lenSetT rfl (by rfl) T.len (by rfl) T.set (pv 0)) (pe_callB (id := "len") call_len_seq (by rfl) T.len (by decide +kernel) (pa_cons (pv 0) pa_nil)) (nomark _))))), ?_⟩
    refine ⟨_, rfl, _, _, rfl, .tup h r z, fun H1 s1 => ⟨_, rfl, iteF ⟨_, rfl, a, rfl, ⟨_, SqT.of (s1 _ _ h)⟩, fun D hD => lc_pure walk_tup walk_at ((ds.map wordD).map V.bl) (by rw [List.length_map, List.length_map, r.len]) (sz z) hD (fun H2 s2 => SqT.of (s2 _ _ (s1 _ _ h)))
      (fun i u y H2 R hi hu hy s2 k => ⟨_, rfl, turn xs ds H1 (r.mono s1) (hf ds rfl) i u y H2 R hu hy s2 k⟩) (fun H2 s2 h2 => ⟨D, ds.map wordD, rfl, SqL.of h2, ?_⟩)⟩⟩⟩
    refine ⟨_, rfl, ?_⟩
    rw [List.all_map]
    cases c : ds.all wordD with
    | true =>
      obtain ⟨ex, q2⟩ := fin xs ds H1 s1 r rfl c
      rw [show ds.all (id ∘ wordD) = true from c]
      refine iteF ⟨_, rfl, a, strsOf ds, rfl, .inr (by rw [← ex]; exact SqT.of (s2 _ _ (s1 _ _ h))), by have := congrArg List.length ex; rw [List.length_map] at this; omega, _, rfl, a, xs, rfl, .inr (SqT.of (s2 _ _ (s1 _ _ h))), rfl, q2 _ s2⟩
    | false =>
      rw [show ds.all (id ∘ wordD) = false from c]
      rw [bad ds rfl c] at q
      exact iteT (q H2 (s1.trans s2))
  | _ =>
    refine ⟨_, (pss_cons (ps_if (PW.pt (pw_or (pt_not (pt_val (pe_cal C_is_list hr (by first | decide | omega) (by rfl) (pa_cons (pv 0) pa_nil)))) (pw_or1 (pt_not (pt_val (pe_callB (id := "all") (cr_all rfl) (by rfl) T.all (by decide +kernel) (pa_cons (pe_lc (own := [("word", 1)]) (g := gName 1) (tt := tYes) rfl sc_is_rank.nd (pi_tup (pv 0)) (blkOk_by (N := ["thing", "word"]) (sc := defScope s_is_rank) (by decide +kernel)) (fun _ _ _ _ _ => (pg_name (i := 1) sc_is_rank.nd rfl (by first | exact Or.inl rfl | exact Or.inr rfl))) (fun _ _ _ _ _ => pts_nil) (fun _ _ _ _ _ => (pe_cmpR (op_or (op_in_seqK K rfl) (op_inDTK K rfl (u65 hr))) (pv 1) (W.pe (by rfl)) (by rfl)))) pa_nil))))))) (pss_one (ps_ret pe_bl)) pss_nil)
      (pss_one (ps_ret (pe_cmpR op_eq (pe_lenSetT rfl (by rfl) T.len (by rfl) T.set (pv 0)) (pe_callB (id := "len") call_len_seq (by rfl) T.len (by decide +kernel) (pa_cons (pv 0) pa_nil)) (nomark _))))), ?_⟩
    exact ⟨_, rfl, _, _, rfl, hv0, fun H1 s1 => ⟨_, rfl, iteT (q H1 s1)⟩⟩
end
end K00

set_option Elab.async false
set_option linter.all false
set_option maxRecDepth 100000
set_option maxHeartbeats 4000000
namespace K00
open PySem PySem.Spec PyProof.Rows L2 Sr
/-! ### ranks as data -/
abbrev Rk := Str × List Str
def EntR (Rv : V → List Str → Prop) (kvs : List (Key × V)) (rs : List Rk) : Prop := Paired (fun kv (p : Rk) => kv.1 = Sum.inr p.1 ∧ Rv kv.2 p.2) kvs rs
def TupV (H : Hp) (v : V) (ws : List Str) : Prop := ∃ t, v = .ref t ∧ H t = some (.tup (ws.map V.str))
def SeqV (H : Hp) (v : V) (ws : List Str) : Prop := ∃ t, v = .ref t ∧ (H t = some (.lst (ws.map V.str)) ∨ H t = some (.tup (ws.map V.str)))
theorem TupV.mono {H H' : Hp} (e : Same H H') {v : V} {ws : List Str} (h : TupV H v ws) : TupV H' v ws :=
  let ⟨t, e1, e2⟩ := h
  ⟨t, e1, e _ _ e2⟩
theorem SeqV.mono {H H' : Hp} (e : Same H H') {v : V} {ws : List Str} (h : SeqV H v ws) : SeqV H' v ws :=
  let ⟨t, e1, e2⟩ := h
  ⟨t, e1, e2.imp (e _ _) (e _ _)⟩
theorem TupV.seq {H : Hp} {v : V} {ws : List Str} (h : TupV H v ws) : SeqV H v ws :=
  let ⟨t, e1, e2⟩ := h
  ⟨t, e1, .inr e2⟩
theorem EntR.imp {Rv Rv' : V → List Str → Prop} (f : ∀ v ws, Rv v ws → Rv' v ws) : ∀ {kvs : List (Key × V)} {rs : List Rk}, EntR Rv kvs rs → EntR Rv' kvs rs
  | _, _, .nil => .nil
  | _, _, .cons h r => .cons ⟨h.1, f _ _ h.2⟩ (EntR.imp f r)
/-- the words of a kind -/
def wd (rs : List Rk) (s : Str) : List Str := (rs.lookup s).getD []
theorem wd_at {rs : List Rk} {p : Rk} (nd : (rs.map (·.1)).Nodup) (m : p ∈ rs) : wd rs p.1 = p.2 := by
  induction rs with
  | nil => cases m
  | cons q r ih =>
    rw [List.map_cons, List.nodup_cons] at nd
    unfold wd at ih ⊢
    rw [List.lookup_cons]
    rcases List.mem_cons.mp m with e | m'
    · subst e
      rw [beq_self_eq_true]
      rfl
    · have ne : (p.1 == q.1) = false := beq_eq_false_iff_ne.mpr fun e => nd.1 (e ▸ List.mem_map.mpr ⟨p, m', rfl⟩)
      rw [ne]
      exact ih nd.2 m'
theorem EntR.ent {Rv : V → List Str → Prop} {kvs : List (Key × V)} {rs : List Rk} (nd : (rs.map (·.1)).Nodup) (h : EntR Rv kvs rs) : Ent (fun s v => Rv v (wd rs s)) kvs (rs.map (·.1)) := by
  have go : ∀ {k : List (Key × V)} {r : List Rk}, (∀ p ∈ r, p ∈ rs) → EntR Rv k r → Ent (fun s v => Rv v (wd rs s)) k (r.map (·.1)) := by
    intro k r sub e
    induction e with
    | nil => exact .nil
    | cons hd tl ih => exact .cons ⟨hd.1, by show Rv _ (wd rs _); rw [wd_at nd (sub _ List.mem_cons_self)]; exact hd.2⟩ (ih fun p m => sub p (List.mem_cons_of_mem _ m))
  exact go (fun _ m => m) h
def byName (rs : List Rk) (ys : List Str) : List Rk := ys.map fun s => (s, wd rs s)
theorem names_by {rs : List Rk} (ys : List Str) : (byName rs ys).map (·.1) = ys := by
  unfold byName
  rw [List.map_map]
  exact List.map_id _
theorem entR_of {Rv : V → List Str → Prop} {rs : List Rk} : ∀ {kvs : List (Key × V)} {ys : List Str}, Ent (fun s v => Rv v (wd rs s)) kvs ys → EntR Rv kvs (byName rs ys)
  | _, _, .nil => .nil
  | _, _, .cons h r => .cons h (entR_of r)
def rankG (ws : List Str) : Prop := (∀ x ∈ ws, x ∈ words) ∧ (met ws ws.length).length = ws.length ∧ ws.length ≤ 60
def goodR (rs : List Rk) : Prop := (∀ p ∈ rs, nameOk (.str p.1) = true ∧ rankG p.2) ∧ (rs.map (·.1)).Nodup ∧ rs.length ≤ 60
theorem words_small : ∀ s ∈ words, s.length ≤ 1000 := by decide +kernel
theorem strs_map : ∀ ws : List Str, strsOf (ws.map Dt.str) = ws
  | [] => rfl
  | s :: r => congrArg (s :: ·) (strs_map r)
theorem isA_strs {H : Hp} : ∀ {ws : List Str}, (∀ s ∈ ws, s.length ≤ 1000) → IsA H (ws.map V.str) (ws.map Dt.str)
  | [], _ => .nil
  | s :: r, h => .cons (.str s (h s List.mem_cons_self)) (isA_strs fun x m => h x (List.mem_cons_of_mem _ m))
theorem rankG.ok {ws : List Str} (g : rankG ws) : wordsOk (ws.map Dt.str) = true := by
  unfold wordsOk
  rw [strs_map, g.2.1, decide_eq_true rfl, Bool.and_true, List.all_map]
  exact List.all_eq_true.mpr fun x m => decide_eq_true (g.1 x m)
theorem strs_flat {ws : List Str} : ∀ x ∈ ws.map Dt.str, elP x := fun x m => by
  obtain ⟨s, _, rfl⟩ := List.mem_map.mp m
  exact .inl ⟨rfl, fun z => by cases z⟩
/-- a rank is a datum that is right -/
theorem SeqV.is {H : Hp} {v : V} {ws : List Str} (h : SeqV H v ws) (g : rankG ws) : ∃ d, Is H v d ∧ rkP d ∧ rankOk d = true := by
  obtain ⟨t, rfl, h | h⟩ := h
  · exact ⟨.lst (ws.map Dt.str), .lst h (isA_strs fun s m => words_small s (g.1 s m)) (by rw [List.length_map]; exact g.2.2), fun l e => by cases e; exact strs_flat, g.ok⟩
  · exact ⟨.tup (ws.map Dt.str), .tup h (isA_strs fun s m => words_small s (g.1 s m)) (by rw [List.length_map]; exact g.2.2), fun l e => by cases e; exact strs_flat, g.ok⟩
theorem name_len {s : Str} (h : nameOk (.str s) = true) : s.length ≤ 1000 := by
  have := (Bool.and_eq_true_iff.mp (Bool.and_eq_true_iff.mp h).1).2
  have := of_decide_eq_true this
  omega
/-- an office of the ranks rs, as it keeps them -/
def OffR (K : PySem.W.Frag) (H : Hp) (x : Addr) (rs : List Rk) : Prop := ∃ dx d kvs, H x = some (.ins (He.ga K "Office") dx [("_ranks", .ref d)]) ∧ H d = some (.dK kvs) ∧ EntR (TupV H) kvs rs ∧ (rs.map (·.1)).Nodup
theorem OffR.mono {K : PySem.W.Frag} {H H' : Hp} {x : Addr} {rs : List Rk} (e : Same H H') (o : OffR K H x rs) : OffR K H' x rs := by
  obtain ⟨dx, d, kvs, h1, h2, h3, h4⟩ := o
  exact ⟨dx, d, kvs, e _ _ h1, e _ _ h2, h3.imp fun v ws t => t.mono e, h4⟩
/-- what the head tells of the class -/
structure Off (K : PySem.W.Frag) (mg : Str → Option Value) : Prop where
  cl : Cls K (He.ga K "Office")
  nR : NoAttr K (He.ga K "Office") "_ranks"
  has : Has K (He.ga K "Office") (He.fAd K ("Office", some "__contains__"))
/-- an entry of what is no rank: its key and value as data -/
def entD (H : Hp) (p : KV3) (k d : Dt) : Prop := Is H p.2.1 k ∧ Is H p.2.2 d ∧ rkP d
theorem entD.mono {H H' : Hp} (e : Same H H') {p : KV3} {k d : Dt} (h : entD H p k d) : entD H' p k d := ⟨h.1.mono e, h.2.1.mono e, h.2.2⟩
theorem KeyIs.text {H : Hp} {k : NestedKey} {s : Str} (h : KeyIs H k (.str s)) : k = .text s := by cases h; rfl
def spInit (K : PySem.W.Frag) (w : World) : Sp := fun vs H Q E => ∃ x v H0 dx, vs = [.ref x, v] ∧ Same H0 H ∧ H0 x = none ∧ H x = some (.ins (He.ga K "Office") dx []) ∧
  ((∃ r kvs rs, v = .ref r ∧ H r = some (.dK kvs) ∧ EntR (SeqV H) kvs rs ∧ goodR rs ∧ ∀ H' ys, Same H0 H' → ys.Perm (rs.map (·.1)) → PyProof.Rows.sortedS ys = true → OffR K H' x (byName rs ys) → Q .non H') ∨
   (∃ d kvs j p, v = .ref d ∧ MixAt w H d kvs ∧ kvs[j]? = some p ∧ (∀ (i : Nat) (q : KV3), i < j → kvs[i]? = some q → ∃ k u, entD H q k u ∧ nameOk k = true ∧ rankOk u = true) ∧ (∃ k u, entD H p k u ∧ (nameOk k && rankOk u) = false) ∧
      ∀ H' e, Same H0 H' → Same H H' → H' e = none → E (.ref (He.ga K "BadRank")) (some e) (upd H' e (.xd [("kind", p.2.1)]))) ∨
   (∃ d, Is H v d ∧ d ≠ .dic ∧ ∀ H' e, Same H0 H' → Same H H' → H' e = none → E (.ref (He.ga K "BadRank")) (some e) (upd H' e (.xd [("kind", v)]))))
section
variable {P : Program} {w : World} {K : PySem.W.Frag} {mg : Str → Option Value} {base : Heap}
abbrev s_BadRank___init__ : Stmt := inClass (top 7) 0
theorem sc_BadRank___init__ : FnScope ["self", "kind"] ["self", "kind"] (defScope s_BadRank___init__) := ⟨rfl, rfl, rfl, by decide +kernel, rfl, by decide +kernel, by decide +kernel⟩
theorem m_BadRank (E : Err K (He.ga K "BadRank") (He.fAd K ("BadRank", some "__init__")) "kind") (D : DfnM K "BadRank" "__init__" "BadRank.__init__" s_BadRank___init__) :
    CalM P w K mg base CX0 1 (He.fAd K ("BadRank", some "__init__")) ["self", "kind"] (spErr K (He.ga K "BadRank") "kind") := by
  refine D.cal sc_BadRank___init__ (fun _ _ _ _ _ _ us hl => match us, hl with | [_, _], _ => rfl) (fun vs H Q E' h => ?_) fun cdv A outer s H vs Q E' hr h => ?_
  · obtain ⟨a, v, rfl, _⟩ := h
    rfl
  obtain ⟨a, v, rfl, ha, q⟩ := h
  refine ⟨_, (pss_one (ps_ost (pv 0) (pv 1))), ?_⟩
  exact ⟨_, rfl, _, rfl, a, _, rfl, E.oex, E.no, .inl ⟨ha, q⟩⟩
abbrev s_BadKind___init__ : Stmt := inClass (top 8) 0
theorem sc_BadKind___init__ : FnScope ["self", "kind"] ["self", "kind"] (defScope s_BadKind___init__) := ⟨rfl, rfl, rfl, by decide +kernel, rfl, by decide +kernel, by decide +kernel⟩
theorem m_BadKind (E : Err K (He.ga K "BadKind") (He.fAd K ("BadKind", some "__init__")) "kind") (D : DfnM K "BadKind" "__init__" "BadKind.__init__" s_BadKind___init__) :
    CalM P w K mg base CX0 1 (He.fAd K ("BadKind", some "__init__")) ["self", "kind"] (spErr K (He.ga K "BadKind") "kind") := by
  refine D.cal sc_BadKind___init__ (fun _ _ _ _ _ _ us hl => match us, hl with | [_, _], _ => rfl) (fun vs H Q E' h => ?_) fun cdv A outer s H vs Q E' hr h => ?_
  · obtain ⟨a, v, rfl, _⟩ := h
    rfl
  obtain ⟨a, v, rfl, ha, q⟩ := h
  refine ⟨_, (pss_one (ps_ost (pv 0) (pv 1))), ?_⟩
  exact ⟨_, rfl, _, rfl, a, _, rfl, E.oex, E.no, .inl ⟨ha, q⟩⟩
end
end K00

set_option Elab.async false
set_option linter.all false
set_option maxRecDepth 100000
set_option maxHeartbeats 4000000
namespace K00
open PySem PySem.Spec PyProof.Rows L2 Sr
section
variable {P : Program} {w : World} {K : PySem.W.Frag} {mg : Str → Option Value} {base : Heap}
abbrev s_Office___init__ : Stmt := inClass (top 11) 0
theorem sc_Office___init__ : FnScope ["self", "ranks", "kind"] ["self", "ranks"] (defScope s_Office___init__) := ⟨rfl, rfl, rfl, by decide +kernel, rfl, by decide +kernel, by decide +kernel⟩
theorem m_init (T : Txt K mg) (O : Off K mg) (R : ErrAt P w K mg base "BadRank" "kind" "kind") (D : DfnM K "Office" "__init__" "Office.__init__" s_Office___init__) (C_is_name : Cal P w K mg base 1 "is_name" ["thing"] (spB nameOk)) (C_is_rank : Cal P w K mg base 2 "is_rank" ["thing"] (spBP rkP rankOk)) :
    CalM P w K mg base (L2.CX P w) 3 (He.fAd K ("Office", some "__init__")) ["self", "ranks"] (spInit K w) := by
  refine D.calE sc_Office___init__ (fun _ _ _ _ _ _ us hl => match us, hl with | [_, _], _ => rfl) (fun vs H Q E h => ?_) fun cdv A outer s H vs Q E hr h => ?_
  · obtain ⟨x, v, H0, dx, rfl, _⟩ := h
    rfl
  obtain ⟨x, v, H0, dx, rfl, s0, x0, hx, h⟩ := h
  rcases h with ⟨r, kvs, rs, rfl, hd, he, ⟨gd, nd, hz⟩, q⟩ | ⟨d, kvs, j, p, rfl, mx, hj, before, ⟨kd, ud, ⟨ik, iu, up⟩, bad⟩, q⟩ | ⟨d, hv, nd, q⟩
  · have nrx : x ≠ r := ne_of hx hd (by intro z; cases z)
    have hn := he.ent nd
    refine ⟨_, (pss_cons (ps_if (pt_not (pt_val (pe_callB (id := "isinstance") call_isi (by rfl) T.isinstance (by decide +kernel) (pa_cons (pv 1) (pa_cons (pe_tyv (n := "dict") (by rfl) T.dict (by decide +kernel)) pa_nil))))) (pss_one (ps_raise rfl (takes_of rfl rfl rfl rfl) (R.mk_ hr (by decide) (by rfl) (pa_cons (pv 1) pa_nil)))) pss_nil)
      (pss_cons (ps_lock (ps_for (L2.passes_of rfl) rfl (pi_keys (pv 1)) (pg_name (i := 2) sc_Office___init__.nd rfl (by first | exact Or.inl rfl | exact Or.inr rfl))
      (pss_one (ps_if (PW.pt (pw_or (pt_not (pt_val (pe_cal C_is_name hr (by first | decide | omega) (by rfl) (pa_cons (pv 2) pa_nil)))) (pw_or1 (pt_not (pt_val (pe_cal C_is_rank hr (by first | decide | omega) (by rfl) (pa_cons (pe_dget (hu_of hr) (pv 1) (pv 2) (fun _ _ => rfl)) pa_nil))))))) (pss_one (ps_raise rfl (takes_of rfl rfl rfl rfl) (R.mk_ hr (by decide) (by rfl) (pa_cons (pv 2) pa_nil)))) pss_nil))))
      (pss_one (ps_fld (pv 0) (pe_dc (own := [("kind", 2)]) (g := gName 2) (tt := tYes) rfl sc_Office___init__.nd (pi_list (pe_callB (id := "sorted") (call_sortedD rfl) (by rfl) T.sorted (by decide +kernel) (pa_cons (pv 1) pa_nil))) (blkOk_by (N := ["self", "ranks", "kind"]) (sc := defScope s_Office___init__) (by decide +kernel)) (fun _ _ _ _ _ => (pg_name (i := 2) sc_Office___init__.nd rfl (by first | exact Or.inl rfl | exact Or.inr rfl))) (fun _ _ _ _ _ => pts_nil) (fun _ _ _ _ _ => (pv 2)) (fun _ _ _ _ _ => (pe_callTy (T := "tuple") (call_tuple_ofK K rfl) (by rfl) T.tuple (by decide +kernel) (pa_cons (pe_dget (hu_of hr) (pv 1) (pv 2) (fun _ _ => rfl)) pa_nil)))) rfl)))), ?_⟩
    refine ⟨_, rfl, _, _, _, _, _, rfl, .ty _, .base (.dK hd), kit_ty (show kitB "dict" "dict" = some true by decide +kernel), _, rfl, iteF ?_⟩
    have fz : ∀ od, ∀ b o, b ≠ r → H b = some o → (upd H r (.frz od (.dK kvs))) b = some o := fun od b o hb e => by rw [upd_ne hb]; exact e
    have seq_up : ∀ {H1 : Hp} (od : Obj) {v : V} {ws : List Str}, Same (upd H r (.frz od (.dK kvs))) H1 → SeqV H v ws → SeqV H1 v ws := fun {H1} od {v ws} s1 h => by
      obtain ⟨t, rfl, h⟩ := h
      refine ⟨t, rfl, h.imp (fun e => s1 _ _ (fz od t _ (ne_of e hd (by intro z; cases z)) e)) fun e => s1 _ _ (fz od t _ (ne_of e hd (by intro z; cases z)) e)⟩
    refine ⟨r, _, hd, trivial, fun od => ⟨_, rfl, r, od, rfl, .inl ⟨kvs, upd_same, for_it walk_keys (fun i σ H' => (∃ v, σ = [some (.ref x), some (.ref r), v]) ∧ Same (upd H r (.frz od (.dK kvs))) H') ⟨⟨_, rfl⟩, Same.refl _⟩ (fun i σ H' hi p => p.2 _ _ upd_same) ?_ ?_⟩⟩⟩
    · rintro i u σ H1 H2 hi ⟨⟨v, rfl⟩, s1⟩ ⟨rfl, k, v, hk, rfl⟩
      have hl := hn.len
      obtain ⟨y, hy⟩ : ∃ y, (rs.map (·.1))[i]? = some y := ⟨(rs.map (·.1))[i]'(by omega), List.getElem?_eq_getElem (by omega)⟩
      have ek : k = Sum.inr y := (Paired.at2 hn hk hy).1
      subst ek
      have my := List.mem_of_getElem? hy
      obtain ⟨p, mp, ep⟩ := List.mem_map.mp my
      obtain ⟨v', ev, rv⟩ := hn.at_ my
      obtain ⟨nm, rk⟩ := gd p mp
      have ew : wd rs y = p.2 := by rw [← ep]; exact wd_at nd mp
      rw [ew] at rv
      rw [ep] at nm
      refine ⟨_, rfl, .str y, .str y, rfl, .str y (name_len nm), fun H2 s2 => ⟨_, rfl, ?_⟩⟩
      rw [nm]
      obtain ⟨d, id, rp, ro⟩ := (seq_up od (s1.trans s2) rv).is rk
      refine iteF ⟨_, rfl, _, rfl, r, v', rfl, .inl ⟨kvs, Sum.inr y, .inr ⟨od, s2 _ _ (s1 _ _ upd_same)⟩, rfl, ev.symm⟩, v', d, rfl, id, rp, fun H3 s3 => ⟨_, rfl, ?_⟩⟩
      rw [ro]
      exact iteF ⟨⟨_, rfl⟩, s1.trans (s2.trans s3)⟩
    · rintro σ H1 ⟨⟨v, rfl⟩, s1⟩
      refine ⟨s1 _ _ upd_same, ?_⟩
      have sH : Same H (upd H1 r (.dK kvs)) := fun b o e => by
        by_cases hb : b = r
        · rw [hb] at e ⊢
          rw [hd] at e
          cases e
          exact upd_same
        · rw [upd_ne hb]
          exact s1 _ _ (fz od b o hb e)
      have dr : (upd H1 r (.dK kvs)) r = some (.dK kvs) := upd_same
      refine ⟨_, rfl, r, kvs, rs.map (·.1), rfl, .inl dr, hn.keys, by rw [List.length_map]; omega, fun ys p perm srt hp => ⟨p, rfl, ⟨_, SqL.of upd_same⟩, fun D hD =>
        dc_texts walk_list walk_at ys (by rw [List.length_map]) (perm.nodup_iff.mpr nd) (sz (m := 60) (by rw [List.length_map, perm.length_eq, List.length_map]; omega)) hD (fun H' s' => SqL.of (s' _ _ upd_same)) (fun H' s v => TupV H' v (wd rs s)) (fun _ _ _ _ e h => h.mono e) (fun _ _ _ _ _ e h => ?_)
          (fun i u y H2 R hi hu hy s2 k => ?_) (fun H2 kvs2 s2 h2 e2 => ?_)⟩⟩
      · obtain ⟨t, rfl, h⟩ := h
        exact ⟨t, rfl, by rw [upd_ne (ne_of h e (by intro z; cases z))]; exact h⟩
      · rw [List.getElem?_map, hy] at hu
        obtain rfl : V.str y = u := Option.some.inj hu
        have my : y ∈ rs.map (·.1) := perm.mem_iff.mp (List.mem_of_getElem? hy)
        obtain ⟨v', ev, t, rfl, ht⟩ := hn.at_ my
        have s3 : Same H H2 := (sH.trans (Same.up hp)).trans s2
        refine ⟨_, rfl, _, rfl, _, rfl, r, .ref t, rfl, .inl ⟨kvs, Sum.inr y, .inl (s3 _ _ hd), rfl, ev.symm⟩, t, (wd rs y).map V.str, rfl, ?_⟩
        rcases ht with ht | ht
        · exact .inl ⟨SqL.of (s3 _ _ ht), fun l hl => k _ _ (Same.up hl) ⟨l, rfl, upd_same⟩⟩
        · exact .inr ⟨SqT.of (s3 _ _ ht), k H2 _ (Same.refl _) ⟨t, rfl, s3 _ _ ht⟩⟩
      · have s3 : Same H H2 := (sH.trans (Same.up hp)).trans s2
        have nDx : D ≠ x := ne_of h2 (s3 _ _ hx) (by intro z; cases z)
        refine ⟨_, rfl, x, _, dx, [], rfl, s3 _ _ hx, O.cl, O.nR, by decide, q _ ys (fun b o e => ?_) perm srt ⟨dx, D, kvs2, upd_same, by rw [upd_ne nDx]; exact h2, ?_, by rw [names_by]; exact perm.nodup_iff.mpr nd⟩⟩
        · rw [upd_ne fun z => by rw [z, x0] at e; cases e]
          exact s3 _ _ (s0 _ _ e)
        · refine (entR_of e2).imp fun v ws h => ?_
          obtain ⟨t, rfl, h⟩ := h
          exact ⟨t, rfl, by rw [upd_ne (ne_of h (s3 _ _ hx) (by intro z; cases z))]; exact h⟩
  · refine ⟨_, (pss_cons (ps_if (pt_not (pt_val (pe_callB (id := "isinstance") call_isiM (by rfl) T.isinstance (by decide +kernel) (pa_cons (pv 1) (pa_cons (pe_tyv (n := "dict") (by rfl) T.dict (by decide +kernel)) pa_nil))))) (pss_one (ps_raise rfl (takes_of rfl rfl rfl rfl) (R.mk_ hr (by decide) (by rfl) (pa_cons (pv 1) pa_nil)))) pss_nil)
      (pss_cons (ps_for (L2.passes_of rfl) rfl (pi_mix (pv 1)) (pg_name (i := 2) sc_Office___init__.nd rfl (by first | exact Or.inl rfl | exact Or.inr rfl))
      (pss_one (ps_if (PW.pt (pw_or (pt_not (pt_val (pe_cal C_is_name hr (by first | decide | omega) (by rfl) (pa_cons (pv 2) pa_nil)))) (pw_or1 (pt_not (pt_val (pe_cal C_is_rank hr (by first | decide | omega) (by rfl) (pa_cons (pe_ix (ix_mix hr.units) (pv 1) (pv 2) (fun _ _ => rfl)) pa_nil))))))) (pss_one (ps_raise rfl (takes_of rfl rfl rfl rfl) (R.mk_ hr (by decide) (by rfl) (pa_cons (pv 2) pa_nil)))) pss_nil)))
      (pss_one (ps_fld (pv 0) (pe_dc (own := [("kind", 2)]) (g := gName 2) (tt := tYes) rfl sc_Office___init__.nd (pi_list (pe_callB (id := "sorted") (call_sortedD rfl) (by rfl) T.sorted (by decide +kernel) (pa_cons (pv 1) pa_nil))) (blkOk_by (N := ["self", "ranks", "kind"]) (sc := defScope s_Office___init__) (by decide +kernel)) (fun _ _ _ _ _ => (pg_name (i := 2) sc_Office___init__.nd rfl (by first | exact Or.inl rfl | exact Or.inr rfl))) (fun _ _ _ _ _ => pts_nil) (fun _ _ _ _ _ => (pv 2)) (fun _ _ _ _ _ => (pe_callTy (T := "tuple") (call_tuple_ofK K rfl) (by rfl) T.tuple (by decide +kernel) (pa_cons (pe_dget (hu_of hr) (pv 1) (pv 2) (fun _ _ => rfl)) pa_nil)))) rfl)))), ?_⟩
    have lt := (List.getElem?_eq_some_iff.mp hj).1
    refine ⟨_, rfl, d, kvs, rfl, mx, _, rfl, iteF ⟨_, rfl, d, kvs, rfl, mx, fun es ep hd me => ?_⟩⟩
    refine for_it walk_mix (fun i σ H' => (∃ v, σ = [some (.ref x), some (.ref d), v]) ∧ Same H H' ∧ i ≤ j) ⟨⟨_, rfl⟩, Same.refl _, Nat.zero_le _⟩ (fun i σ H' hi p => ⟨p.2.1 _ _ hd, me.mono p.2.1⟩) ?_ ?_
    · rintro i u σ H1 H2 hi ⟨⟨v, rfl⟩, s1, ij⟩ ⟨rfl, hu⟩
      obtain ⟨g, hg⟩ : ∃ g, kvs[i]? = some g := ⟨kvs[i], List.getElem?_eq_getElem hi⟩
      rw [List.getElem?_map, hg] at hu
      obtain rfl : g.2.1 = u := Option.some.inj hu
      have look : ∀ {k ud : Dt} {H2 : Hp}, Is H g.2.1 k → nameOk k = true → ∃ z, g.2.1 = .str z ∧ g.1 = .text z := fun {k ud H2} ik nk => by
        obtain ⟨_, _, hk, _⟩ := me.2.2 i g hg
        cases k with
        | str z =>
          cases e : g.2.1 with
          | str y =>
            rw [e] at ik hk
            exact ⟨y, rfl, KeyIs.text hk⟩
          | _ => rw [e] at ik; cases ik
        | _ => cases nk
      by_cases c : i = j
      · subst c
        rw [hj] at hg
        cases hg
        refine ⟨_, rfl, _, kd, rfl, ik.mono s1, fun H2 s2 => ⟨_, rfl, ?_⟩⟩
        cases nk : nameOk kd with
        | false => exact iteT ⟨_, rfl, err_at fun e he => q _ e (s0.trans (s1.trans s2)) (s1.trans s2) he⟩
        | true =>
          obtain ⟨z, ez, et⟩ := look (ud := ud) (H2 := H) ik nk
          have rb : rankOk ud = false := by rw [nk, Bool.true_and] at bad; exact bad
          refine iteF ⟨_, rfl, _, rfl, d, kvs, z, i, _, rfl, ez, mx.mono (s1.trans s2), hj, et, _, ud, rfl, iu.mono (s1.trans s2), up, fun H3 s3 => ⟨_, rfl, ?_⟩⟩
          rw [rb]
          exact iteT ⟨_, rfl, err_at fun e he => q _ e (s0.trans (s1.trans (s2.trans s3))) (s1.trans (s2.trans s3)) he⟩
      · obtain ⟨k, ud', ⟨ik', iu', up'⟩, nk, ro⟩ := before i g (by omega) hg
        obtain ⟨z, ez, et⟩ := look (ud := ud') (H2 := H) ik' nk
        refine ⟨_, rfl, _, k, rfl, ik'.mono s1, fun H2 s2 => ⟨_, rfl, ?_⟩⟩
        rw [nk]
        refine iteF ⟨_, rfl, _, rfl, d, kvs, z, i, _, rfl, ez, mx.mono (s1.trans s2), hg, et, _, ud', rfl, iu'.mono (s1.trans s2), up', fun H3 s3 => ⟨_, rfl, ?_⟩⟩
        rw [ro]
        exact iteF ⟨⟨_, rfl⟩, s1.trans (s2.trans s3), by omega⟩
    · rintro σ H1 ⟨_, _, le⟩
      omega
  · refine ⟨_, (pss_cons (ps_if (pt_not (pt_val (pe_callB (id := "isinstance") call_isi (by rfl) T.isinstance (by decide +kernel) (pa_cons (pv 1) (pa_cons (pe_tyv (n := "dict") (by rfl) T.dict (by decide +kernel)) pa_nil))))) (pss_one (ps_raise rfl (takes_of rfl rfl rfl rfl) (R.mk_ hr (by decide) (by rfl) (pa_cons (pv 1) pa_nil)))) pss_nil)
      (pss_cons (ps_lock (ps_for (L2.passes_of rfl) rfl (pi_keys (pv 1)) (pg_name (i := 2) sc_Office___init__.nd rfl (by first | exact Or.inl rfl | exact Or.inr rfl))
      (pss_one (ps_if (PW.pt (pw_or (pt_not (pt_val (pe_cal C_is_name hr (by first | decide | omega) (by rfl) (pa_cons (pv 2) pa_nil)))) (pw_or1 (pt_not (pt_val (pe_cal C_is_rank hr (by first | decide | omega) (by rfl) (pa_cons (pe_dget (hu_of hr) (pv 1) (pv 2) (fun _ _ => rfl)) pa_nil))))))) (pss_one (ps_raise rfl (takes_of rfl rfl rfl rfl) (R.mk_ hr (by decide) (by rfl) (pa_cons (pv 2) pa_nil)))) pss_nil))))
      (pss_one (ps_fld (pv 0) (pe_dc (own := [("kind", 2)]) (g := gName 2) (tt := tYes) rfl sc_Office___init__.nd (pi_list (pe_callB (id := "sorted") (call_sortedD rfl) (by rfl) T.sorted (by decide +kernel) (pa_cons (pv 1) pa_nil))) (blkOk_by (N := ["self", "ranks", "kind"]) (sc := defScope s_Office___init__) (by decide +kernel)) (fun _ _ _ _ _ => (pg_name (i := 2) sc_Office___init__.nd rfl (by first | exact Or.inl rfl | exact Or.inr rfl))) (fun _ _ _ _ _ => pts_nil) (fun _ _ _ _ _ => (pv 2)) (fun _ _ _ _ _ => (pe_callTy (T := "tuple") (call_tuple_ofK K rfl) (by rfl) T.tuple (by decide +kernel) (pa_cons (pe_dget (hu_of hr) (pv 1) (pv 2) (fun _ _ => rfl)) pa_nil)))) rfl)))), ?_⟩
    have kd : PySem.W.kitOne K (.type (tyN d)) (.type "dict") = some false := by
      cases d with
      | non => exact kit_ty (show kitB "NoneType" "dict" = some false by decide +kernel)
      | bl b => exact kit_ty (show kitB "bool" "dict" = some false by decide +kernel)
      | int i => exact kit_ty (show kitB "int" "dict" = some false by decide +kernel)
      | str s => exact kit_ty (show kitB "str" "dict" = some false by decide +kernel)
      | lst l => exact kit_ty (show kitB "list" "dict" = some false by decide +kernel)
      | tup l => exact kit_ty (show kitB "tuple" "dict" = some false by decide +kernel)
      | dic => exact absurd rfl nd
    exact ⟨_, rfl, v, _, _, _, _, rfl, .ty _, hv.ty, kd, _, rfl, iteT ⟨_, rfl, err_at fun e he => q H e s0 (Same.refl H) he⟩⟩
end
end K00

set_option Elab.async false
set_option linter.all false
set_option maxRecDepth 100000
set_option maxHeartbeats 4000000
namespace K00
open PySem PySem.Spec PyProof.Rows L2 Sr
/-! ### == of two dicts of ranks -/
def sameR (rs rs' : List Rk) : Bool := rs.length == rs'.length && rs.all fun p => decide (p.1 ∈ rs'.map (·.1)) && decide (wd rs p.1 = wd rs' p.1)
def rEqRk : R2 := fun x y H Q => ∃ a b ks ls rs rs', x = .ref a ∧ y = .ref b ∧ H a = some (.dK ks) ∧ H b = some (.dK ls) ∧ EntR (TupV H) ks rs ∧ EntR (TupV H) ls rs' ∧ (rs.map (·.1)).Nodup ∧ (rs'.map (·.1)).Nodup ∧ Q (.bl (sameR rs rs')) H
theorem TupV.key {H : Hp} {v : V} {ws : List Str} (h : TupV H v ws) : KeyIs H (.tup (ws.map NestedKey.text)) v := by
  obtain ⟨t, rfl, h⟩ := h
  exact .tup h
theorem text_inj : ∀ {a b : List Str}, a.map NestedKey.text = b.map NestedKey.text → a = b
  | [], [], _ => rfl
  | [], _ :: _, h => by cases h
  | _ :: _, [], h => by cases h
  | x :: a, y :: b, h => by
    rw [List.map_cons, List.map_cons] at h
    injection h with h1 h2
    injection h1 with h1
    rw [h1, text_inj h2]
theorem all_keys {κ : Type} (g : κ → Bool) {α : Type} : ∀ l : List (κ × α), l.all (fun p => g p.1) = (l.map (·.1)).all g
  | [] => rfl
  | p :: r => by rw [List.all_cons, List.map_cons, List.all_cons, all_keys g r]
theorem op_eqRk {X : Cx} (hu : X.A.units + 64 < cLine) : OpR X (compareOp .Eq) rEqRk := by
  intro pins s σ H x y v u Q I rx ry h
  obtain ⟨a, b, ks, ls, rs, rs', rfl, rfl, ea, eb, ra, rb, na, nb, q⟩ := h
  cases rx
  cases ry
  obtain ⟨_, ya, va, ka, da⟩ := (show ObjOk X.prog X.w H s.heap a (.dK ks) from I.hok a _ ea)
  obtain ⟨_, yb, vb, kb, db⟩ := (show ObjOk X.prog X.w H s.heap b (.dK ls) from I.hok b _ eb)
  have ta := ra.ent na
  have tb := rb.ent nb
  have ek : va.map (·.1) = rs.map fun p => (Sum.inr p.1 : Key) := by rw [← ka.keys, ta.keys, List.map_map]; rfl
  let e : Key → Bool := fun k => match k with
    | .inr z => decide (wd rs z = wd rs' z)
    | .inl _ => false
  refine PySem.W.eq_dictsT (knd := mixKind X.prog X.w) (e := e) (n := 8) ya yb da db (fun k v y hm hv => ?_) (by omega) (fin_bl I q ?_)
  · have mk : k ∈ va.map (·.1) := List.mem_map.mpr ⟨_, hm, rfl⟩
    rw [ek] at mk
    obtain ⟨p, mp, rfl⟩ := List.mem_map.mp mk
    have ms : p.1 ∈ rs.map (·.1) := List.mem_map.mpr ⟨p, mp, rfl⟩
    obtain ⟨w1, e1, t1⟩ := ta.at_ ms
    have ndk : (va.map (·.1)).Nodup := by rw [← ka.keys, ta.keys]; exact List.pairwise_map.mpr (na.imp fun h z => h (Sum.inr.inj z))
    have hvv : valueAt va (Sum.inr p.1) = some v := valueAt_of_mem ndk hm
    have r1 := ka.val (Sum.inr p.1)
    rw [e1, hvv] at r1
    have r2 := kb.val (Sum.inr p.1)
    rw [hv] at r2
    have ms' : p.1 ∈ rs'.map (·.1) := by
      by_cases c : p.1 ∈ rs'.map (·.1)
      · exact c
      · rw [tb.out c] at r2; exact r2.elim
    obtain ⟨w2, e2, t2⟩ := tb.at_ ms'
    rw [e2] at r2
    have n1 := (TupV.key t1).nested I.hok r1
    have n2 := (TupV.key t2).nested I.hok r2
    have d1 := (TupV.key t1).deep
    have eb : e (Sum.inr p.1) = NestedKey.beq (.tup ((wd rs p.1).map NestedKey.text)) (.tup ((wd rs' p.1).map NestedKey.text)) := by
      rw [← NestedKey.decide_eq]
      show decide (wd rs p.1 = wd rs' p.1) = _
      by_cases c : wd rs p.1 = wd rs' p.1
      · rw [decide_eq_true c, c, decide_eq_true rfl]
      · rw [decide_eq_false c, decide_eq_false fun z => c (text_inj (NestedKey.tup.inj z))]
    show PySem.W.EqTree X.prog X.w s 8 v y (e (Sum.inr p.1))
    rw [eb]
    exact .leaf fun A hA => eqAt_key _ _ A s v y n1 n2 (by omega)
  · have l1 : va.length = rs.length := by rw [← ka.length, ta.len, List.length_map]
    have l2 : vb.length = rs'.length := by rw [← kb.length, tb.len, List.length_map]
    unfold sameR
    rw [l1, l2]
    congr 1
    rw [all_keys (fun k : Key => (valueAt vb k).isSome && e k), ek, List.all_map]
    refine List.all_congr rfl fun p => ?_
    show _ = ((valueAt vb (Sum.inr p.1)).isSome && decide (wd rs p.1 = wd rs' p.1))
    rw [← (kb.val (Sum.inr p.1)).isSome_eq, tb.has]
end K00

set_option Elab.async false
set_option linter.all false
set_option maxRecDepth 100000
set_option maxHeartbeats 4000000
namespace Sr
open PySem PySem.Spec PyProof.Rows L2
/-! ### == and != by an own __eq__, whatever it says -/
/-- what the right side may be: an instance, or a list -/
def EqRt (K : PySem.W.Frag) (C : Addr) (H : Hp) (y : V) : Prop := (∃ b C' dy gs, y = .ref b ∧ H b = some (.ins C' dy gs) ∧ PySem.W.notFirst K C (.ref C') = true) ∨ ∃ b ys, y = .ref b ∧ H b = some (.lst ys)
def rEqIns (K : PySem.W.Frag) (C : Addr) (sp : Sp) (E : XK) : R2 := fun x y H Q => ∃ a dx fs, x = .ref a ∧ H a = some (.ins C dx fs) ∧ EqRt K C H y ∧ sp [x, y] H Q E
theorem first_list {K : PySem.W.Frag} {C : Addr} : PySem.W.notFirst K C (.type "list") = true := by
  have e : fastBuiltinMro "list" = some [.type "list", .type "object"] := by decide +kernel
  have s : PySem.W.subIn K (.type "list") (.ref C) = some false := by
    show (fastBuiltinMro "list").map (·.contains (.ref C)) = some false
    rw [e]
    first
      | rfl
      | simp
  unfold PySem.W.notFirst
  rw [s]
  simp
theorem first_self {K : PySem.W.Frag} {C : Addr} : PySem.W.notFirst K C (.ref C) = true := by
  unfold PySem.W.notFirst
  simp
section
variable {X : Cx} {pins : List (Addr × Obj)} {σ : L2.St} {H : Hp} {s : Shared}
/-- the type of the right side -/
theorem EqRt.ty {C : Addr} {y : V} {u : Value} (I : L2.Inv X pins σ H s) (ry : L2.RelV y u) (h : EqRt X.K C H y) : ∃ tb, PySem.W.notFirst X.K C tb = true ∧ PySem.W.Looks (model X.prog X.w) s.heap (typeOf u) tb := by
  rcases h with ⟨b, C', dy, gs, rfl, hb, hn⟩ | ⟨b, ys, rfl, hb⟩
  · cases ry
    obtain ⟨mA, J, _⟩ := ins_get I.hok hb
    obtain ⟨od, J, _⟩ := J.look
    exact ⟨_, hn, J.type⟩
  · cases ry
    obtain ⟨_, its, n, _, hq⟩ := (show ObjOk X.prog X.w H s.heap b (.lst ys) from I.hok b _ hb)
    exact ⟨_, first_list, (PySem.W.Looks.ld (part := none) hq).andThen .now⟩
variable {CX : CXT} {k : Nat} {C f : Addr} {fd : FuncData} {ps : List Str} {sp : Sp} {E : XK}
theorem op_eqIns (F : FnOk X.prog X.w X.K X.mg X.base CX k f fd ps sp) (hr : Room k X.A) (hb : Binds X.K fd ps []) (hx : Passes CX X E) (hs : PySem.W.findIn X.K (.ref C) "__eq__" = some (some (.ref f))) (hf : PySem.W.isFn X.K (.ref f) = true) :
    OpR X (compareOp .Eq) (rEqIns X.K C sp E) := by
  intro pins s σ H x y v u Q I rx ry h
  obtain ⟨a, dx, fs, rfl, ha, hy, q⟩ := h
  cases rx
  obtain ⟨mA, J, _⟩ := ins_get I.hok ha
  obtain ⟨od, J, _⟩ := J.look
  obtain ⟨m, hF⟩ := I.fr
  obtain ⟨tb, hn, ht⟩ := hy.ty I ry
  show wpAny _ _ (richCompare .Eq (.ref a) u) _ _ _
  refine PySem.W.cmp_K (op := .Eq) (tb := tb) hr.units0 hF I.ok.mod.kin J ht hn hs hf ?_
  refine thn (run_fn (us := [.ref a, u]) (vs := [.ref a, y]) (dvs := []) (ds := []) F hr hb .nil hx I (.cons rfl (.cons ry .nil)) q) fun w s' z => ?_
  obtain ⟨z', H', I', rz, qz⟩ := z
  exact SlX.cmpback rz ⟨z', H', I', rz, qz⟩
/-- object.__ne__ asks the own __eq__ -/
theorem ne_entry {A : Around} {Em : Value → Shared → Prop} {x : Addr} {ox : Obj} {od : Option Obj} {y : Value} {Q : Fin → Shared → Prop} (hu : A.units < cLine) (Xk : X.K.In s.heap) (J : PySem.W.InstAt s.heap x ox C od)
    (hs : PySem.W.findIn X.K (.ref C) "__eq__" = some (some (.ref f))) (hf : PySem.W.isFn X.K (.ref f) = true)
    (h : wpAny (model X.prog X.w) A (call (.ref f) [.ref x, y]) (fun v s' => ∃ b, v = .bool b ∧ Q (.done (.ret (.bool (!b)))) s') Em s) : wpAny (model X.prog X.w) A (Builtin.«object.__ne__» ⟨[.ref x, y], []⟩) Q Em s := by
  have eq_ : wpAny (model X.prog X.w) A (callSpecialIfBound? (.ref x) (Str.ofString "__eq__") [y]) (fun r s' => ∃ b, r = some (.bool b) ∧ Q (.done (.ret (.bool (!b)))) s') Em s :=
    PySem.W.ifBound_K Xk J hs hf (thn h fun v s' ⟨b, e, q⟩ => ⟨b, by rw [e], q⟩)
  unfold Builtin.«object.__ne__»
  repeat (first
    | with_reducible refine wpAny_cRoomFor hu ?_
    | (refine wpAny_bind (m := callSpecialIfBound? (.ref x) (Str.ofString "__eq__") [y]) (thn eq_ fun r s' z => ?_)
       obtain ⟨b, rfl, q⟩ := z
       repeat (first | exact q | exact wpAny_pure q | exact wpAny_truthy_bool q | (refine wpAny_bind (m := truthy (.bool _)) (wpAny_truthy_bool ?_)) | wp_step))
    | wp_step)
/-- a special method that is a built-in of object, asked of an instance -/
theorem bound_ne {M : Model} {A : Around} {Em : Value → Shared → Prop} {x : Addr} {ox : Obj} {od : Option Obj} {args : List Value} {Q : Option Value → Shared → Prop} (Xk : X.K.In s.heap) (J : PySem.W.InstAt s.heap x ox C od)
    (hs : PySem.W.findIn X.K (.ref C) "__ne__" = some (some (.builtin "object.__ne__"))) (h : wpAny M A (call (.builtin "object.__ne__") (.ref x :: args)) (fun v => Q (some v)) Em s) : wpAny M A (callSpecialIfBound? (.ref x) "__ne__" args) Q Em s := by
  have out : wpAny M A (call (.builtin "object.__ne__") ([.ref x] ++ args) >>= fun v => pure (some v)) Q Em s := wpAny_bind (thn h fun v s' q => wpAny_pure q)
  have look := PySem.W.looks_findIn (M := M) Xk hs
  simp only [callSpecialIfBound?, bindSpecialIfBound?]
  refine wpAny_holding (wpAny_bind (wpAny_bind (wpAny_bind (J.type.here (look.here (wpAny_bind (wpAny_askSetting (wpAny_ite ?_))))))))
  split
  · exact wpAny_bind (wpAny_of_eq (PySem.F.cmp_object.ne.bind _) (wpAny_pure (by exact out)))
  · exact wpAny_tryCatch (wpAny_bind (wpAny_of_eq (PySem.F.cmp_object.ne.bind _) (wpAny_pure (by exact out))))
/-- the callee runs below a built-in -/
theorem run_in1 {Q : VK} {us : List Value} {vs : List V} (F : FnOk X.prog X.w X.K X.mg X.base CX k f fd ps sp) (hr : Room k X.A.in1) (hb : Binds X.K fd ps []) (hx : Passes CX X E) (I : L2.Inv X pins σ H s) (r : Vals vs us) (h : sp vs H Q E) :
    wpAny (model X.prog X.w) X.A.in1 (call (.ref f) us) (EP X pins σ Q) X.xe s := by
  have hl : us.length = ps.length := by rw [← r.length]; exact F.len _ _ _ _ h
  have bd : BindsTo s fd ⟨us, []⟩ (ps.zip us) := by
    have z := hb s us I.kIn (by simpa using hl)
    simpa using z
  refine wpAny_call (codeAny_mono (F.run X.A.in1 X.stack s H ⟨us, []⟩ us vs Q E hr I.env0.in1 bd r h) ?_)
  rintro (e | fl) s' hq
  · exact hx pins σ H s e s' I hq
  · cases fl with
    | ret w => exact I.after hq
    | _ => exact False.elim hq
/-- x != y -/
def rNeIns (K : PySem.W.Frag) (C : Addr) (sp : Sp) (E : XK) : R2 := fun x y H Q => ∃ a dx fs, x = .ref a ∧ H a = some (.ins C dx fs) ∧ EqRt K C H y ∧ sp [x, y] H (fun v H' => ∃ b, v = .bl b ∧ Q (.bl (!b)) H') E
theorem op_neIns (F : FnOk X.prog X.w X.K X.mg X.base CX k f fd ps sp) (hr : Room (k + 1) X.A) (hb : Binds X.K fd ps []) (hx : Passes CX X E) (hs : PySem.W.findIn X.K (.ref C) "__eq__" = some (some (.ref f))) (hf : PySem.W.isFn X.K (.ref f) = true)
    (hne : PySem.W.findIn X.K (.ref C) "__ne__" = some (some (.builtin "object.__ne__"))) (hm : PySem.W.mroIn X.K C (.type "object") = some true) :
    OpR X (compareOp .NotEq) (rNeIns X.K C sp E) := by
  intro pins s σ H x y v u Q I rx ry h
  obtain ⟨a, dx, fs, rfl, ha, hy, q⟩ := h
  cases rx
  obtain ⟨mA, J, _⟩ := ins_get I.hok ha
  obtain ⟨od, J, _⟩ := J.look
  obtain ⟨tb, hn, ht⟩ := hy.ty I ry
  have Xk := I.kIn
  show wpAny _ _ (richCompare .NotEq (.ref a) u) _ _ _
  have one : wpAny (model X.prog X.w) X.A (tryCompare (.ref a) (Str.ofString "__ne__") u) (fun r s' => ∃ v, r = some v ∧ EP X pins σ Q v s') X.xe s := by
    have own : wpAny (model X.prog X.w) X.A.in1 (call (.ref f) [.ref a, u]) (fun v s' => ∃ b, v = .bool b ∧ EP X pins σ Q (.bool (!b)) s') X.xe s := by
      refine thn (run_in1 (us := [.ref a, u]) (vs := [.ref a, y]) F hr.in1 hb hx I (.cons rfl (.cons ry .nil)) q) fun w s' z => ?_
      obtain ⟨z', H', I', rz, b, rfl, qz⟩ := z
      exact ⟨b, rz, .bl (!b), H', I', rfl, qz⟩
    unfold tryCompare
    refine wpAny_bind (bound_ne Xk J hne (wpAny_call (codeAny_call_builtin PySem.F.cmp_object.ne.plain PySem.F.cmpEntry_ne (PySem.W.check_slot PySem.F.cmpKind_ne PySem.F.cmpSplit_ne (J.type.andThen (PySem.W.looks_mroIn Xk hm)) (PySem.F.cmpArgs_ne _ _)
      (ne_entry hr.in1.units0 Xk J hs hf (thn own fun v s' z => ?_))))))
    obtain ⟨b, rfl, z⟩ := z
    exact ⟨b, rfl, wpAny_pure ⟨_, rfl, z⟩⟩
  unfold richCompare
  simp only [oneThing_ref]
  refine wpAny_holding (wpAny_bind (wpAny_cRoomFor hr.units0 ?_))
  refine wpAny_bind (J.type.here (wpAny_bind (ht.here ?_)))
  have sub : (Value.ref C != tb) = true → PySem.W.subIn X.K tb (.ref C) = some false := fun z => by
    rcases Bool.or_eq_true_iff.mp hn with e | e
    · rw [beq_iff_eq.mp e] at z; simp at z
    · exact beq_iff_eq.mp e
  split
  · next z =>
    refine wpAny_bind ((PySem.W.looks_subIn Xk (sub z)).here ?_)
    simp only [Bool.false_eq_true, if_false]
    refine wpAny_bind (thn one fun r s' z => ?_)
    obtain ⟨v, rfl, hq⟩ := z
    exact wpAny_pure hq
  · refine wpAny_bind (wpAny_pure ?_)
    simp only [Bool.false_eq_true, if_false]
    refine wpAny_bind (thn one fun r s' z => ?_)
    obtain ⟨v, rfl, hq⟩ := z
    exact wpAny_pure hq
/-- len(x) by an own __len__ -/
def rLenIns (C : Addr) (sp : Sp) (E : XK) : List V → Hp → VK → Prop := fun xs H Q => ∃ a dx fs, xs = [.ref a] ∧ H a = some (.ins C dx fs) ∧ sp [.ref a] H (fun v H' => ∃ n : Nat, v = .int (n : Nat) ∧ n ≤ 1000 ∧ Q (.int (n : Nat)) H') E
theorem call_lenIns (F : FnOk X.prog X.w X.K X.mg X.base CX k f fd ps sp) (hr : Room (k + 1) X.A) (hb : Binds X.K fd ps []) (hx : Passes CX X E) (hs : PySem.W.findIn X.K (.ref C) "__len__" = some (some (.ref f))) (hf : PySem.W.typeIn X.K (.ref f) = some (.type "function")) :
    CallR X (.builtin "len") (rLenIns C sp E) := by
  intro pins s σ H xs us Q I r h
  obtain ⟨a, dx, fs, rfl, ha, q⟩ := h
  obtain ⟨u, rfl, ru⟩ := r.one
  cases (show u = Value.ref a from ru)
  obtain ⟨mA, J, _⟩ := ins_get I.hok ha
  obtain ⟨od, J, _⟩ := J.look
  have own := run_in1 (us := [.ref a]) (vs := [.ref a]) F hr.in1 hb hx I (.cons rfl .nil) q
  refine Calls.call_function_entry kind_len plain_len entry_len (args_len1 _) ?_
  unfold Builtin.«len»
  refine wpAny_bind (m := oneArg "len" _) (wpAny_pure (wpAny_bind (m := callSpecial? (.ref a) (Str.ofString "__len__")) ?_))
  unfold callSpecial? specialOf
  refine wpAny_bind (wpAny_bind (J.type.here ((PySem.W.looks_findIn I.kIn hs).here ?_)))
  refine wpAny_holding (wpAny_bind ((PySem.W.bind_fn I.kIn (.ref a) hf).here (wpAny_bind (thn own fun w s' z => wpAny_pure ?_))))
  obtain ⟨z', H', I', rz, n, rfl, hn, qz⟩ := z
  obtain ⟨t, rfl⟩ := (show ∃ t, w = Value.int (n : Nat) t from rz)
  refine wpAny_bind (wpAny_holding (wpAny_pure (wpAny_bind (wpAny_letGo ?_))))
  show wpAny _ _ (if ((n : Nat) : Int) < 0 then _ else _) _ _ _
  rw [if_neg (by omega)]
  show wpAny _ _ (if ((n : Nat) : Int) ≥ 2 ^ 63 then _ else _) _ _ _
  rw [if_neg (by omega)]
  exact wpAny_bind (wpAny_mkInt (wpAny_pure ⟨_, rfl, .int (n : Nat), H', I'.tok _, ⟨_, rfl⟩, qz⟩))
end
end Sr

set_option Elab.async false
set_option linter.all false
set_option maxRecDepth 100000
set_option maxHeartbeats 4000000
namespace Sr
open PySem PySem.Spec PyProof.Rows L2
/-! ### == by an own __eq__, the right side of any common kind -/
theorem first_ty {K : PySem.W.Frag} {C : Addr} {n : String} {l : List Value} (e : fastBuiltinMro n = some l) (h : l.contains (.ref C) = false) : PySem.W.notFirst K C (.type n) = true := by
  have s : PySem.W.subIn K (.type n) (.ref C) = some false := by
    show (fastBuiltinMro n).map (·.contains (.ref C)) = some false
    rw [e, Option.map_some, h]
  unfold PySem.W.notFirst
  rw [s]
  simp
def EqRt2 (K : PySem.W.Frag) (C : Addr) (H : Hp) (y : V) : Prop := EqRt K C H y ∨ y = .non ∨ (∃ z, y = .str z) ∨ ∃ b kvs, y = .ref b ∧ H b = some (.dK kvs)
def rEqIns2 (K : PySem.W.Frag) (C : Addr) (sp : Sp) (E : XK) : R2 := fun x y H Q => ∃ a dx fs, x = .ref a ∧ H a = some (.ins C dx fs) ∧ EqRt2 K C H y ∧ sp [x, y] H Q E
section
variable {X : Cx} {pins : List (Addr × Obj)} {σ : L2.St} {H : Hp} {s : Shared}
theorem EqRt2.ty {C : Addr} {y : V} {u : Value} (I : L2.Inv X pins σ H s) (ry : L2.RelV y u) (h : EqRt2 X.K C H y) : ∃ tb, PySem.W.notFirst X.K C tb = true ∧ PySem.W.Looks (model X.prog X.w) s.heap (typeOf u) tb := by
  rcases h with h | rfl | ⟨z, rfl⟩ | ⟨b, kvs, rfl, hb⟩
  · exact h.ty I ry
  · cases ry
    exact ⟨.type "NoneType", first_ty (l := [.type "NoneType", .type "object"]) (by decide +kernel) (by first | rfl | simp), .now⟩
  · obtain ⟨t, rfl⟩ := ry
    exact ⟨.type "str", first_ty (l := [.type "str", .type "object"]) (by decide +kernel) (by first | rfl | simp), .now⟩
  · cases ry
    obtain ⟨_, _, vs, _, o, es, ep, hq, hc, _⟩ := (show ObjOk X.prog X.w H s.heap b (.dK kvs) from I.hok b _ hb)
    refine ⟨.type "dict", first_ty (l := [.type "dict", .type "object"]) (by decide +kernel) (by first | rfl | simp), ?_⟩
    rw [← hc.1]
    exact (PySem.W.Looks.ld (part := none) hq).andThen .now
variable {CX : CXT} {k : Nat} {C f : Addr} {fd : FuncData} {ps : List Str} {sp : Sp} {E : XK}
theorem op_eqIns2 (F : FnOk X.prog X.w X.K X.mg X.base CX k f fd ps sp) (hr : Room k X.A) (hb : Binds X.K fd ps []) (hx : Passes CX X E) (hs : PySem.W.findIn X.K (.ref C) "__eq__" = some (some (.ref f))) (hf : PySem.W.isFn X.K (.ref f) = true) :
    OpR X (compareOp .Eq) (rEqIns2 X.K C sp E) := by
  intro pins s σ H x y v u Q I rx ry h
  obtain ⟨a, dx, fs, rfl, ha, hy, q⟩ := h
  cases rx
  obtain ⟨mA, J, _⟩ := ins_get I.hok ha
  obtain ⟨od, J, _⟩ := J.look
  obtain ⟨m, hF⟩ := I.fr
  obtain ⟨tb, hn, ht⟩ := hy.ty I ry
  show wpAny _ _ (richCompare .Eq (.ref a) u) _ _ _
  refine PySem.W.cmp_K (op := .Eq) (tb := tb) hr.units0 hF I.ok.mod.kin J ht hn hs hf ?_
  refine thn (run_fn (us := [.ref a, u]) (vs := [.ref a, y]) (dvs := []) (ds := []) F hr hb .nil hx I (.cons rfl (.cons ry .nil)) q) fun w s' z => ?_
  obtain ⟨z', H', I', rz, qz⟩ := z
  exact SlX.cmpback rz ⟨z', H', I', rz, qz⟩
end
end Sr

set_option Elab.async false
set_option linter.all false
set_option maxRecDepth 100000
set_option maxHeartbeats 4000000
namespace K00
open PySem PySem.Spec PyProof.Rows L2 Sr
structure OfN (K : PySem.W.Frag) (mg : Str → Option Value) : Prop where
  nm : mg "Office" = some (.ref (He.ga K "Office"))
  ca : PySem.W.findIn K (.ref (He.ga K "Office")) "__class__" = some (some (.builtin "object.__class__"))
  cn : PySem.W.specialIn K (.builtin "object.__class__") "__get__" = some (some (.builtin "getset_descriptor.__get__"))
  ct : PySem.W.takesIn K (.builtin "object.__class__") = some true
  cm : PySem.W.mroIn K (He.ga K "Office") (.type "object") = some true
  yes : PySem.W.kitOne K (.ref (He.ga K "Office")) (.ref (He.ga K "Office")) = some true
  noN : PySem.W.kitOne K (.type "NoneType") (.ref (He.ga K "Office")) = some false
  noD : PySem.W.kitOne K (.type "dict") (.ref (He.ga K "Office")) = some false
  noL : PySem.W.kitOne K (.type "list") (.ref (He.ga K "Office")) = some false
  noS : PySem.W.kitOne K (.type "str") (.ref (He.ga K "Office")) = some false
theorem OfN.e {X : Cx} {p : Pos} (N : OfN X.K X.mg) (h : Gl X "Office" := by rfl) : PE X (.Name "Office" p) (tC (.ref (He.ga X.K "Office"))) := pe_glob h N.nm rfl
def kindD (rs : List Rk) : Dt → Bool
  | .str z => decide (z ∈ rs.map (·.1))
  | _ => false
/-- what is no office -/
def Odd (H : Hp) (y : V) : Prop := y = .non ∨ (∃ z, y = .str z) ∨ (∃ b kvs, y = .ref b ∧ H b = some (.dK kvs)) ∨ ∃ b ys, y = .ref b ∧ H b = some (.lst ys)
theorem Odd.mono {H H' : Hp} (e : Same H H') {y : V} (h : Odd H y) : Odd H' y := by
  rcases h with h | h | ⟨b, kvs, rfl, h⟩ | ⟨b, kvs, rfl, h⟩
  · exact .inl h
  · exact .inr (.inl h)
  · exact .inr (.inr (.inl ⟨b, kvs, rfl, e _ _ h⟩))
  · exact .inr (.inr (.inr ⟨b, kvs, rfl, e _ _ h⟩))
theorem Odd.no {K : PySem.W.Frag} {mg : Str → Option Value} (N : OfN K mg) {H : Hp} {y : V} (h : Odd H y) : ∃ t, TyX K H y t ∧ PySem.W.kitOne K t (.ref (He.ga K "Office")) = some false := by
  rcases h with rfl | ⟨z, rfl⟩ | ⟨b, kvs, rfl, h⟩ | ⟨b, kvs, rfl, h⟩
  · exact ⟨_, .base .non, N.noN⟩
  · exact ⟨_, .base (.str z), N.noS⟩
  · exact ⟨_, .base (.dK h), N.noD⟩
  · exact ⟨_, .base (.lst h), N.noL⟩
theorem Odd.rt {K : PySem.W.Frag} {C : Addr} {H : Hp} {y : V} (h : Odd H y) : EqRt2 K C H y := by
  rcases h with rfl | h | h | ⟨b, kvs, rfl, h⟩
  · exact .inr (.inl rfl)
  · exact .inr (.inr (.inl h))
  · exact .inr (.inr (.inr h))
  · exact .inl (.inr ⟨b, kvs, rfl, h⟩)
theorem OffR.rt {K : PySem.W.Frag} {H : Hp} {x : Addr} {rs : List Rk} (o : OffR K H x rs) : EqRt2 K (He.ga K "Office") H (.ref x) := by
  obtain ⟨dx, d, kvs, h1, _⟩ := o
  exact .inl (.inl ⟨x, _, dx, _, rfl, h1, first_self⟩)
def spHas (K : PySem.W.Frag) : Sp := fun vs H Q _ => ∃ x v rs d, vs = [.ref x, v] ∧ OffR K H x rs ∧ Is H v d ∧ ∀ H', Same H H' → Q (.bl (kindD rs d)) H'
theorem spHas_mono (K : PySem.W.Frag) (x y : V) (H : Hp) (Q Q' : VK) (E : XK) (h : ∀ v H', Q v H' → Q' v H') (p : spHas K [x, y] H Q E) : spHas K [x, y] H Q' E := by
  obtain ⟨a, v, ks, d, e, o, hv, q⟩ := p
  exact ⟨a, v, ks, d, e, o, hv, fun H' s' => h _ _ (q H' s')⟩
def spKinds (K : PySem.W.Frag) : Sp := fun vs H Q _ => ∃ x rs, vs = [.ref x] ∧ OffR K H x rs ∧ ∀ p, H p = none → Q (.ref p) (upd H p (.lst ((rs.map (·.1)).map V.str)))
def spLen (K : PySem.W.Frag) : Sp := fun vs H Q _ => ∃ x rs, vs = [.ref x] ∧ OffR K H x rs ∧ Q (.int (rs.length : Nat)) H
def spEq (K : PySem.W.Frag) : Sp := fun vs H Q _ => ∃ x y rs, vs = [.ref x, y] ∧ OffR K H x rs ∧ ((Odd H y ∧ Q (.bl false) H) ∨ ∃ b rs', y = .ref b ∧ OffR K H b rs' ∧ Q (.bl (sameR rs rs')) H)
def spRankOf (K : PySem.W.Frag) : Sp := fun vs H Q E => ∃ x v rs d, vs = [.ref x, v] ∧ OffR K H x rs ∧ Is H v d ∧
  ((∃ z, d = .str z ∧ z ∈ rs.map (·.1) ∧ ∀ t H', Same H H' → H' t = some (.tup ((wd rs z).map V.str)) → Q (.ref t) H') ∨
   (kindD rs d = false ∧ ∀ H' e, Same H H' → H' e = none → E (.ref (He.ga K "BadKind")) (some e) (upd H' e (.xd [("kind", v)]))))
section
variable {P : Program} {w : World} {K : PySem.W.Frag} {mg : Str → Option Value} {base : Heap}
abbrev s_Office_kinds : Stmt := inClass (top 11) 1
theorem sc_Office_kinds : FnScope ["self"] ["self"] (defScope s_Office_kinds) := ⟨rfl, rfl, rfl, by decide +kernel, rfl, by decide +kernel, by decide +kernel⟩
theorem m_kinds (T : Txt K mg) (O : Off K mg) (D : DfnM K "Office" "kinds" "Office.kinds" s_Office_kinds) : CalM P w K mg base CX0 1 (He.fAd K ("Office", some "kinds")) ["self"] (spKinds K) := by
  refine D.cal sc_Office_kinds (fun _ _ _ _ _ _ us hl => match us, hl with | [_], _ => rfl) (fun vs H Q E h => ?_) fun cdv A outer s H vs Q E hr h => ?_
  · obtain ⟨x, rs, rfl, _⟩ := h
    rfl
  obtain ⟨x, rs, rfl, ⟨dx, d, kvs, h1, h2, h3, nd⟩, q⟩ := h
  refine ⟨_, (pss_one (ps_ret (pe_callTy (T := "list") (call_list_dK rfl) (by rfl) T.list (by decide +kernel) (pa_cons (pe_fld (pv 0) rfl) pa_nil)))), ?_⟩
  have e : kvs.map (fun p => kV p.1) = (rs.map (·.1)).map V.str := by
    have := congrArg (List.map kV) (h3.ent nd).keys
    rw [List.map_map, List.map_map] at this
    exact this
  exact ⟨_, rfl, x, _, dx, _, _, rfl, h1, O.cl, O.nR, rfl, d, kvs, rfl, h2, fun p hp => by rw [e]; exact q p hp⟩
abbrev s_Office___len__ : Stmt := inClass (top 11) 4
theorem sc_Office___len__ : FnScope ["self"] ["self"] (defScope s_Office___len__) := ⟨rfl, rfl, rfl, by decide +kernel, rfl, by decide +kernel, by decide +kernel⟩
theorem m_len (T : Txt K mg) (O : Off K mg) (D : DfnM K "Office" "__len__" "Office.__len__" s_Office___len__) : CalM P w K mg base CX0 1 (He.fAd K ("Office", some "__len__")) ["self"] (spLen K) := by
  refine D.cal sc_Office___len__ (fun _ _ _ _ _ _ us hl => match us, hl with | [_], _ => rfl) (fun vs H Q E h => ?_) fun cdv A outer s H vs Q E hr h => ?_
  · obtain ⟨x, rs, rfl, _⟩ := h
    rfl
  obtain ⟨x, rs, rfl, ⟨dx, d, kvs, h1, h2, h3, nd⟩, q⟩ := h
  have el : kvs.length = rs.length := by rw [(h3.ent nd).len, List.length_map]
  refine ⟨_, (pss_one (ps_ret (pe_callB (id := "len") call_lenD (by rfl) T.len (by decide +kernel) (pa_cons (pe_fld (pv 0) rfl) pa_nil)))), ?_⟩
  exact ⟨_, rfl, x, _, dx, _, _, rfl, h1, O.cl, O.nR, rfl, d, kvs, rfl, h2, by rw [el]; exact q⟩
abbrev s_Office___contains__ : Stmt := inClass (top 11) 5
theorem sc_Office___contains__ : FnScope ["self", "thing"] ["self", "thing"] (defScope s_Office___contains__) := ⟨rfl, rfl, rfl, by decide +kernel, rfl, by decide +kernel, by decide +kernel⟩
theorem m_contains (T : Txt K mg) (O : Off K mg) (D : DfnM K "Office" "__contains__" "Office.__contains__" s_Office___contains__) : CalM P w K mg base CX0 1 (He.fAd K ("Office", some "__contains__")) ["self", "thing"] (spHas K) := by
  refine D.cal sc_Office___contains__ (fun _ _ _ _ _ _ us hl => match us, hl with | [_, _], _ => rfl) (fun vs H Q E h => ?_) fun cdv A outer s H vs Q E hr h => ?_
  · obtain ⟨x, v, ks, d, rfl, _⟩ := h
    rfl
  obtain ⟨x, v, rs, d, rfl, o, hv, q⟩ := h
  refine ⟨_, (pss_one (ps_ret (pe_and (pe_callB (id := "isinstance") call_isi (by rfl) T.isinstance (by decide +kernel) (pa_cons (pv 1) (pa_cons (pe_tyv (n := "str") (by rfl) T.str (by decide +kernel)) pa_nil))) (pe_one (pe_cmp (pc_din (hu_of hr) (pv 1) (pe_fld (pv 0) rfl)) rfl))))), ?_⟩
  refine ⟨_, rfl, v, _, _, _, _, rfl, .ty _, hv.ty, kit_str K d, _, rfl, ?_⟩
  cases hv with
  | str z hz =>
    obtain ⟨dx, d, kvs, h1, h2, h3, nd⟩ := o
    refine iteT ⟨_, rfl, _, rfl, x, _, dx, _, _, rfl, h1, O.cl, O.nR, rfl, d, _, rfl, DGet.k (k := Sum.inr z) h2, ?_⟩
    rw [(h3.ent nd).has z]
    exact q H (Same.refl H)
  | _ => exact iteF (q H (Same.refl H))
abbrev s_Office_rank : Stmt := inClass (top 11) 2
theorem sc_Office_rank : FnScope ["self", "kind"] ["self", "kind"] (defScope s_Office_rank) := ⟨rfl, rfl, rfl, by decide +kernel, rfl, by decide +kernel, by decide +kernel⟩
theorem m_rank (O : Off K mg) (M : CalM P w K mg base CX0 1 (He.fAd K ("Office", some "__contains__")) ["self", "thing"] (spHas K)) (R : ErrAt P w K mg base "BadKind" "kind" "kind") (D : DfnM K "Office" "rank" "Office.rank" s_Office_rank) :
    CalM P w K mg base (L2.CX P w) 3 (He.fAd K ("Office", some "rank")) ["self", "kind"] (spRankOf K) := by
  refine D.calE sc_Office_rank (fun _ _ _ _ _ _ us hl => match us, hl with | [_, _], _ => rfl) (fun vs H Q E h => ?_) fun cdv A outer s H vs Q E hr h => ?_
  · obtain ⟨x, v, rs, d, rfl, _⟩ := h
    rfl
  obtain ⟨x, v, rs, d, rfl, o, hv, h⟩ := h
  obtain ⟨dx, dd, kvs, h1, h2, h3, nd⟩ := id o
  refine ⟨_, (pss_cons (ps_if (pt_cmpR (op_notHas M hr (by decide) O.has (spHas_mono K)) (pv 1) (pv 0) (by rfl)) (pss_one (ps_raise rfl (takes_of rfl rfl rfl rfl) (R.mk_ hr (by decide) (by rfl) (pa_cons (pv 1) pa_nil)))) pss_nil)
      (pss_one (ps_ret (pe_dget (hu_of hr) (pe_fld (pv 0) rfl) (pv 1) (fun _ _ => rfl))))), ?_⟩
  refine ⟨_, rfl, _, rfl, x, dx, _, rfl, h1, x, v, rs, d, rfl, o, hv, fun H1 s1 => ⟨_, rfl, _, rfl, ?_⟩⟩
  rcases h with ⟨z, rfl, mz, q⟩ | ⟨no, q⟩
  · have t : kindD rs (.str z) = true := decide_eq_true mz
    rw [t]
    obtain ⟨u, eu, tt, rfl, ht⟩ := (h3.ent nd).at_ mz
    cases hv
    exact iteF ⟨_, rfl, x, _, dx, _, _, rfl, s1 _ _ h1, O.cl, O.nR, rfl, _, rfl, dd, _, rfl, DGet.k (k := Sum.inr z) (s1 _ _ h2) |> fun g => eu ▸ g, q tt _ s1 (s1 _ _ ht)⟩
  · rw [no]
    exact iteT ⟨_, rfl, err_at fun e he => q _ e s1 he⟩
abbrev s_Office___eq__ : Stmt := inClass (top 11) 3
theorem sc_Office___eq__ : FnScope ["self", "other"] ["self", "other"] (defScope s_Office___eq__) := ⟨rfl, rfl, rfl, by decide +kernel, rfl, by decide +kernel, by decide +kernel⟩
theorem m_eq (T : Txt K mg) (O : Off K mg) (N : OfN K mg) (D : DfnM K "Office" "__eq__" "Office.__eq__" s_Office___eq__) : CalM P w K mg base CX0 1 (He.fAd K ("Office", some "__eq__")) ["self", "other"] (spEq K) := by
  refine D.cal sc_Office___eq__ (fun _ _ _ _ _ _ us hl => match us, hl with | [_, _], _ => rfl) (fun vs H Q E h => ?_) fun cdv A outer s H vs Q E hr h => ?_
  · obtain ⟨x, y, rs, rfl, _⟩ := h
    rfl
  obtain ⟨x, y, rs, rfl, ⟨dx, d, kvs, h1, h2, h3, nd⟩, h⟩ := h
  refine ⟨_, (pss_one (ps_ret (pe_and (pe_callB (id := "isinstance") call_isi (by rfl) T.isinstance (by decide +kernel) (pa_cons (pv 1) (pa_cons (N.e (by rfl)) pa_nil))) (pe_one (pe_cmpR (op_eqRk hr.units) (pe_fld (pv 0) rfl) (pe_fld (pv 1) rfl) (nomark _)))))), ?_⟩
  rcases h with ⟨odd, q⟩ | ⟨b, rs', rfl, ⟨dx', d', kvs', g1, g2, g3, nd'⟩, q⟩
  · obtain ⟨t, ty, no⟩ := odd.no N
    exact ⟨_, rfl, _, _, _, _, _, rfl, .own _, ty, no, _, rfl, iteF q⟩
  · refine ⟨_, rfl, _, _, _, _, _, rfl, .own _, .base (.ins g1 O.cl N.ca N.cn N.ct N.cm), N.yes, _, rfl, iteT ?_⟩
    exact ⟨_, rfl, x, _, dx, _, _, rfl, h1, O.cl, O.nR, rfl, _, rfl, b, _, dx', _, _, rfl, g1, O.cl, O.nR, rfl, d, d', kvs, kvs', rs, rs', rfl, rfl, h2, g2, h3, g3, nd, nd', q⟩
end
end K00

set_option Elab.async false
set_option linter.all false
set_option maxRecDepth 100000
set_option maxHeartbeats 4000000
namespace Sr
open PySem PySem.Spec PyProof.Rows L2
theorem Paired.snoc {α β : Type} {F : α → β → Prop} {a : α} {b : β} (h : F a b) : ∀ {l : List α} {m : List β}, Paired F l m → Paired F (l ++ [a]) (m ++ [b])
  | _, _, .nil => .cons h .nil
  | _, _, .cons h1 t => .cons h1 (Paired.snoc h t)
theorem Paired.imp' {α β : Type} {F G : α → β → Prop} (f : ∀ a b, F a b → G a b) : ∀ {l : List α} {m : List β}, Paired F l m → Paired G l m
  | _, _, .nil => .nil
  | _, _, .cons h t => .cons (f _ _ h) (Paired.imp' f t)
/-- a comprehension over items, some of which are kept, each kept one a new thing; nothing that stood is changed -/
theorem lc_genD {α : Type} {J : It} {n : Nat} {G : Hp → Prop} {Y : Nat → Hp → V → Hp → Prop} {At : Nat → Hp → V → Prop} (w : Walk J n G Y) (hy : ∀ i H x H', Y i H x H' → H' = H ∧ At i H x) {g : TG} {tt : TT} {te : TE} {vs : List Nat} {σ : L2.St} {H : Hp} {D : Addr} {Qd : Hp → Prop}
    (items : List α) (keep : α → Bool) (hn : items.length = n) (hz : n < sizeLine) (hD : H D = none) (hG : ∀ H', Same H H' → G H') (Rel : Hp → α → V → Prop) (mono : ∀ H1 H2 a y, Same H1 H2 → Rel H1 a y → Rel H2 a y) (lay : ∀ H1 a y c c', H1 D = some (.lst c) → Rel H1 a y → Rel (upd H1 D (.lst c')) a y)
    (turn : ∀ (i : Nat) (x : V) (a : α) (H1 : Hp) (A : V → Hp → Prop) (B : Hp → Prop), i < n → At i H1 x → items[i]? = some a → H1 D ≠ none → Same H H1 → (keep a = true → ∀ y H2, Same H1 H2 → Rel H2 a y → A y H2) → (keep a = false → ∀ H2, Same H1 H2 → B H2) →
      g x (wipe σ vs) H1 fun σ2 H2 => wipe σ2 vs = wipe σ vs ∧ tt σ2 H2 fun b H3 => if b = true then te σ2 H3 A else B H3)
    (fin : ∀ H' acc, Same H H' → H' D = some (.lst acc) → Paired (fun y a => Rel H' a y) acc (items.filter keep) → Qd H') :
    ∃ W : Nat → Nat → Hp → Prop, (∃ m, W 0 m (upd H D (.lst []))) ∧ ∀ i m H, W i m H →
      (J.stop i H ∧ Qd H) ∨ (J.go i H ∧ ∃ Nx : Hp → Prop, (∀ H', Nx H' → ∃ m', m' < m ∧ W (i + 1) m' H') ∧ ∀ x H', J.yld i H x H' → g x (wipe σ vs) H' fun σ2 H2 => wipe σ2 vs = wipe σ vs ∧ tt σ2 H2 fun b H3 =>
        if b = true then te σ2 H3 fun y H4 => ∃ acc, H4 D = some (.lst acc) ∧ acc.length < sizeLine ∧ Nx (upd H4 D (.lst (acc ++ [y]))) else Nx H3) := by
  have below : ∀ {H1 H2 : Hp} {o : HO}, Same H H1 → Same H1 H2 → Same H (upd H2 D o) := fun {H1 H2 o} a b c u e => by
    rw [upd_ne (ne_of_none e hD)]
    exact b _ _ (a _ _ e)
  refine lc_it w (fun i H' => Same H H' ∧ ∃ acc, H' D = some (.lst acc) ∧ Paired (fun y a => Rel H' a y) acc ((items.take i).filter keep)) ⟨Same.up hD, [], upd_same, by simp; exact .nil⟩ (fun i H' _ p => hG H' p.1) (fun i x H1 H2 hi p y => ?_) fun H' p => ?_
  · obtain ⟨rfl, hx⟩ := hy _ _ _ _ y
    obtain ⟨s1, acc, hd, pr⟩ := p
    have hi' : i < items.length := by omega
    have tk : items.take (i + 1) = items.take i ++ [items[i]] := by rw [List.take_add_one, List.getElem?_eq_getElem hi']; rfl
    have hl : acc.length < sizeLine := by
      have h1 := Paired.length pr
      have h2 := List.length_filter_le keep (items.take i)
      rw [List.length_take] at h2
      omega
    refine turn i x items[i] H2 _ _ hi hx (List.getElem?_eq_getElem hi') (by rw [hd]; simp) s1 (fun hk y H3 s3 r => ?_) fun hk H3 s3 => ?_
    · refine ⟨acc, s3 _ _ hd, hl, below s1 s3, _, upd_same, ?_⟩
      rw [tk, List.filter_append, List.filter_cons, if_pos hk]
      have r1 : Rel (upd H3 D (.lst (acc ++ [y]))) items[i] y := lay _ _ _ _ _ (s3 _ _ hd) r
      have pr1 : Paired (fun z a => Rel (upd H3 D (.lst (acc ++ [y]))) a z) acc ((items.take i).filter keep) := Paired.imp' (fun y a h => lay _ a y _ _ (s3 _ _ hd) (mono _ _ a y s3 h)) pr
      exact Paired.snoc (F := fun z a => Rel (upd H3 D (.lst (acc ++ [y]))) a z) r1 pr1
    · refine ⟨s1.trans s3, acc, s3 _ _ hd, ?_⟩
      rw [tk, List.filter_append, List.filter_cons, if_neg (by rw [hk]; simp)]
      simp only [List.filter_nil, List.append_nil]
      exact Paired.imp' (fun y a h => mono _ _ _ _ s3 h) pr
  · obtain ⟨s1, acc, hd, pr⟩ := p
    rw [← hn, List.take_length] at pr
    exact fin H' acc s1 hd pr
/-- a comprehension over items, some of which are kept, each kept one a new thing; nothing that stood is changed -/
theorem lc_gen {α : Type} {J : It} {n : Nat} {G : Hp → Prop} {Y : Nat → Hp → V → Hp → Prop} {At : Nat → Hp → V → Prop} (w : Walk J n G Y) (hy : ∀ i H x H', Y i H x H' → H' = H ∧ At i H x) {g : TG} {tt : TT} {te : TE} {vs : List Nat} {σ : L2.St} {H : Hp} {D : Addr} {Qd : Hp → Prop}
    (items : List α) (keep : α → Bool) (hn : items.length = n) (hz : n < sizeLine) (hD : H D = none) (hG : ∀ H', Same H H' → G H') (Rel : Hp → α → V → Prop) (mono : ∀ H1 H2 a y, Same H1 H2 → Rel H1 a y → Rel H2 a y) (lay : ∀ H1 a y c c', H1 D = some (.lst c) → Rel H1 a y → Rel (upd H1 D (.lst c')) a y)
    (turn : ∀ (i : Nat) (x : V) (a : α) (H1 : Hp) (A : V → Hp → Prop) (B : Hp → Prop), i < n → At i H1 x → items[i]? = some a → Same H H1 → (keep a = true → ∀ y H2, Same H1 H2 → Rel H2 a y → A y H2) → (keep a = false → ∀ H2, Same H1 H2 → B H2) →
      g x (wipe σ vs) H1 fun σ2 H2 => wipe σ2 vs = wipe σ vs ∧ tt σ2 H2 fun b H3 => if b = true then te σ2 H3 A else B H3)
    (fin : ∀ H' acc, Same H H' → H' D = some (.lst acc) → Paired (fun y a => Rel H' a y) acc (items.filter keep) → Qd H') :
    ∃ W : Nat → Nat → Hp → Prop, (∃ m, W 0 m (upd H D (.lst []))) ∧ ∀ i m H, W i m H →
      (J.stop i H ∧ Qd H) ∨ (J.go i H ∧ ∃ Nx : Hp → Prop, (∀ H', Nx H' → ∃ m', m' < m ∧ W (i + 1) m' H') ∧ ∀ x H', J.yld i H x H' → g x (wipe σ vs) H' fun σ2 H2 => wipe σ2 vs = wipe σ vs ∧ tt σ2 H2 fun b H3 =>
        if b = true then te σ2 H3 fun y H4 => ∃ acc, H4 D = some (.lst acc) ∧ acc.length < sizeLine ∧ Nx (upd H4 D (.lst (acc ++ [y]))) else Nx H3) :=
  lc_genD w hy items keep hn hz hD hG Rel mono lay (fun i x a H1 A B hi hx ha _ s1 => turn i x a H1 A B hi hx ha s1) fin
end Sr

set_option Elab.async false
set_option linter.all false
set_option maxRecDepth 100000
set_option maxHeartbeats 4000000
namespace Sr
open PySem PySem.Spec PyProof.Rows L2
/-! ### dicts of sums -/
def intOf : Option V → Int
  | some (.int i) => i
  | _ => 0
section
variable {κ : Type} [DecidableEq κ]
def bump (kvs : List (κ × V)) (k : κ) (n : Int) : List (κ × V) := putK kvs k (.int (intOf (valV kvs k) + n))
structure Ints (P : κ → Prop) (kvs : List (κ × V)) : Prop where
  ent : ∀ e ∈ kvs, P e.1 ∧ ∃ n, e.2 = .int n
  nd : (kvs.map (·.1)).Nodup
theorem Ints.nil {P : κ → Prop} : Ints P ([] : List (κ × V)) := ⟨fun _ m => absurd m (by simp), List.nodup_nil⟩
theorem Ints.bump {P : κ → Prop} {kvs : List (κ × V)} {k : κ} {n : Int} (h : Ints P kvs) (hk : P k) : Ints P (Sr.bump kvs k n) := by
  unfold Sr.bump putK
  split
  · refine ⟨fun e m => ?_, ?_⟩
    · obtain ⟨e0, m0, rfl⟩ := List.mem_map.mp m
      split
      · exact ⟨(h.ent _ m0).1, _, rfl⟩
      · exact h.ent _ m0
    · rw [List.map_map]
      have e : (kvs.map ((fun x : κ × V => x.1) ∘ fun kv => if kv.1 = k then (kv.1, V.int (intOf (valV kvs k) + n)) else kv)) = kvs.map (·.1) := by
        refine List.map_congr_left fun kv _ => ?_
        show (if kv.1 = k then (kv.1, V.int (intOf (valV kvs k) + n)) else kv).1 = kv.1
        split <;> rfl
      rw [e]
      exact h.nd
  · rename_i no
    refine ⟨fun e m => ?_, ?_⟩
    · rcases List.mem_append.mp m with m | m
      · exact h.ent _ m
      · rw [List.mem_singleton.mp m]
        exact ⟨hk, _, rfl⟩
    · rw [List.map_append]
      refine List.nodup_append.mpr ⟨h.nd, by simp, fun a ha b hb e => no ?_⟩
      have hb' : b = k := by simpa using hb
      obtain ⟨kv, m, e2⟩ := List.mem_map.mp ha
      exact List.any_eq_true.mpr ⟨kv, m, decide_eq_true (e2.trans (e.trans hb'))⟩
theorem bump_len {kvs : List (κ × V)} {k : κ} {n : Int} : (Sr.bump kvs k n).length ≤ kvs.length + 1 := length_putK _ _ _
theorem val_of {kvs : List (κ × V)} : (kvs.map (·.1)).Nodup → ∀ {e : κ × V}, e ∈ kvs → valV kvs e.1 = some e.2 := by
  induction kvs with
  | nil => intro _ e m; cases m
  | cons p r ih =>
    intro nd e m
    rw [List.map_cons] at nd
    obtain ⟨n1, n2⟩ := List.nodup_cons.mp nd
    rcases List.mem_cons.mp m with rfl | m
    · exact valV_pos rfl
    · rw [valV_neg (fun z => n1 (by rw [z]; exact List.mem_map.mpr ⟨e, m, rfl⟩))]
      exact ih n2 m
theorem val_mem {kvs : List (κ × V)} {k : κ} {v : V} (h : valV kvs k = some v) : (k, v) ∈ kvs := by
  unfold valV at h
  obtain ⟨e, h1, h2⟩ := Option.map_eq_some_iff.mp h
  have h3 := List.find?_some h1
  have h4 : e.1 = k := of_decide_eq_true h3
  have m := List.mem_of_find?_eq_some h1
  rw [← h4, ← h2]
  exact m
/-- d.get(k, 0) -/
theorem Ints.get {P : κ → Prop} {kvs : List (κ × V)} (h : Ints P kvs) (k : κ) : (valV kvs k).getD (.int 0) = .int (intOf (valV kvs k)) := by
  cases e : valV kvs k with
  | none => rfl
  | some v =>
    obtain ⟨_, n, en⟩ := h.ent _ (val_mem e)
    have en : v = .int n := en
    subst en
    rfl
theorem Ints.at_ {P : κ → Prop} {kvs : List (κ × V)} (h : Ints P kvs) {k : κ} (m : k ∈ kvs.map (·.1)) : valV kvs k = some (.int (intOf (valV kvs k))) := by
  obtain ⟨e, m2, rfl⟩ := List.mem_map.mp m
  obtain ⟨_, n, en⟩ := h.ent _ m2
  rw [val_of h.nd m2, en]
  rfl
/-- sums of rows, each at its key -/
def sums {α : Type} (key : α → κ) (am : α → Int) (rows : List α) : List (κ × V) := rows.foldl (fun kvs r => bump kvs (key r) (am r)) []
theorem sums_snoc {α : Type} (key : α → κ) (am : α → Int) (rows : List α) (r : α) : sums key am (rows ++ [r]) = bump (sums key am rows) (key r) (am r) := by
  unfold sums
  rw [List.foldl_append]
  rfl
theorem sums_len {α : Type} (key : α → κ) (am : α → Int) : ∀ (rows : List α) (kvs : List (κ × V)), (rows.foldl (fun kvs r => bump kvs (key r) (am r)) kvs).length ≤ kvs.length + rows.length
  | [], _ => Nat.le_refl _
  | r :: t, kvs => by
    have h1 := sums_len key am t (bump kvs (key r) (am r))
    have h2 := bump_len (kvs := kvs) (k := key r) (n := am r)
    simp only [List.foldl_cons, List.length_cons]
    omega
theorem sums_ints {α : Type} {P : κ → Prop} (key : α → κ) (am : α → Int) : ∀ (rows : List α) (kvs : List (κ × V)), Ints P kvs → (∀ r ∈ rows, P (key r)) → Ints P (rows.foldl (fun kvs r => bump kvs (key r) (am r)) kvs)
  | [], _, h, _ => h
  | r :: t, kvs, h, hp => sums_ints key am t _ (h.bump (hp r List.mem_cons_self)) fun x m => hp x (List.mem_cons_of_mem _ m)
end
/-! ### what is told of sums with pairs of texts for keys -/
def small (p : Str × Str) : Prop := p.1.length ≤ 1000 ∧ p.2.length ≤ 1000
def isPk (k : List Key) : Prop := ∃ p, k = pk p ∧ small p
def unpk : List Key → Str × Str
  | [.inr a, .inr b] => (a, b)
  | _ => ("", "")
theorem unpk_pk (p : Str × Str) : unpk (pk p) = p := rfl
theorem pk_inj {p q : Str × Str} (h : pk p = pk q) : p = q := by rw [← unpk_pk p, ← unpk_pk q, h]
def keysOf (kvs : List (List Key × V)) : List (Str × Str) := kvs.map fun e => unpk e.1
theorem keysOf_eq {kvs : List (List Key × V)} (h : Ints isPk kvs) : kvs.map (·.1) = (keysOf kvs).map pk := by
  unfold keysOf
  rw [List.map_map]
  refine List.map_congr_left fun e m => ?_
  obtain ⟨⟨p, e1, _⟩, _⟩ := h.ent e m
  show e.1 = pk (unpk e.1)
  rw [e1, unpk_pk]
theorem keysOf_small {kvs : List (List Key × V)} (h : Ints isPk kvs) : ∀ p ∈ keysOf kvs, small p := fun p m => by
  obtain ⟨e, m2, rfl⟩ := List.mem_map.mp m
  obtain ⟨⟨q, e1, sm⟩, _⟩ := h.ent e m2
  rw [e1]
  exact sm
theorem keysOf_nodup {kvs : List (List Key × V)} (h : Ints isPk kvs) : (keysOf kvs).Nodup := by
  have nd := h.nd
  rw [keysOf_eq h] at nd
  exact List.Pairwise.imp (fun {a b} ne e => ne (by rw [e])) (List.pairwise_map.mp nd)
def amt (kvs : List (List Key × V)) (p : Str × Str) : Int := intOf (valV kvs (pk p))
def kept (kvs : List (List Key × V)) : List (Str × Str) := (pSort (keysOf kvs)).filter fun p => decide (amt kvs p ≠ 0)
def rowTd (p : Str × Str) (n : Int) : Dt := .tup [.str p.1, .str p.2, .int n]
def toldOf (kvs : List (List Key × V)) : List Dt := (kept kvs).map fun p => rowTd p (amt kvs p)
/-- what is told stands in the heap -/
theorem isA_told {H : Hp} {f : Str × Str → Int} : ∀ {acc : List V} {ks : List (Str × Str)}, Paired (fun y k => ∃ q, y = V.ref q ∧ H q = some (.tup [.str k.1, .str k.2, .int (f k)])) acc ks → (∀ k ∈ ks, small k) → IsA H acc (ks.map fun p => rowTd p (f p))
  | _, _, .nil, _ => .nil
  | _, _, .cons (b := k) ⟨q, e, h⟩ t, sm => by
    rw [e]
    have h1 := sm k List.mem_cons_self
    exact .cons (.tup h (.cons (.str _ h1.1) (.cons (.str _ h1.2) (.cons (.int _) .nil))) (show (3 : Nat) ≤ 60 by decide)) (isA_told t fun x m => sm x (List.mem_cons_of_mem _ m))
theorem kept_mem {kvs : List (List Key × V)} {p : Str × Str} (m : p ∈ kept kvs) : p ∈ keysOf kvs := (pSort_perm _).mem_iff.mp (List.mem_filter.mp m).1
theorem kept_nodup {kvs : List (List Key × V)} (h : Ints isPk kvs) : (kept kvs).Nodup := ((pSort_perm _).nodup_iff.mpr (keysOf_nodup h)).filter _
theorem kept_len {kvs : List (List Key × V)} : (kept kvs).length ≤ kvs.length := by
  refine Nat.le_trans (List.length_filter_le _ _) ?_
  rw [(pSort_perm _).length_eq]
  unfold keysOf
  rw [List.length_map]
  exact Nat.le_refl _
end Sr

set_option Elab.async false
set_option linter.all false
set_option maxRecDepth 100000
set_option maxHeartbeats 4000000
namespace Sr
open PySem PySem.Spec PyProof.Rows L2 LamX
/-! ### all but the draws' list -/
def rm (H : Hp) (a : Addr) : Hp := fun b => if b = a then none else H b
theorem cut_if {S REST : TS} {D : Ends} {σ : L2.St} {H : Hp} (G : L2.St → Hp → Prop) (hr : ∀ σ2 H2, G σ2 H2 → REST D σ2 H2) (h : (∀ σ2 H2, G σ2 H2 → REST D σ2 H2) → tSeq S REST D σ H) : tSeq S REST D σ H := h hr
theorem rm_same {H : Hp} {a : Addr} : Same (rm H a) H := fun b o e => by
  unfold rm at e
  split at e
  · cases e
  · exact e
theorem rm_at {H : Hp} {a : Addr} : rm H a a = none := by unfold rm; rw [if_pos rfl]
theorem rm_ne {H : Hp} {a b : Addr} (h : b ≠ a) : rm H a b = H b := by unfold rm; rw [if_neg h]
theorem rm_new {H : Hp} {a : Addr} {o : HO} (h : H a = none) : Same H (rm (upd H a o) a) := fun b x e => by
  have n := ne_of_none e h
  rw [rm_ne n, upd_ne n]
  exact e
theorem rm_upd {H : Hp} {a : Addr} {o : HO} : rm (upd H a o) a = rm H a := by
  funext b
  by_cases c : b = a
  · rw [c, rm_at, rm_at]
  · rw [rm_ne c, rm_ne c, upd_ne c]
theorem Same.rm {H H' : Hp} {a : Addr} (s : Same H H') : Same (Sr.rm H a) (Sr.rm H' a) := fun b o e => by
  by_cases c : b = a
  · rw [c, rm_at] at e; cases e
  · rw [rm_ne c] at e ⊢; exact s _ _ e
theorem rm_free {H : Hp} {a p : Addr} (h : H p = none) : rm H a p = none := by
  by_cases c : p = a
  · rw [c, rm_at]
  · rw [rm_ne c, h]
/-- an object of one's own changes: what stood ahead of it stays -/
theorem Same.set {M H : Hp} {p : Addr} {o : HO} (s : Same M H) (h : M p = none) : Same M (upd H p o) := fun b u e => by
  rw [upd_ne (ne_of_none e h)]
  exact s _ _ e
mutual
theorem Is.ext {H H' : Hp} (e : ExtN H H') : ∀ {v : V} {d : Dt}, Is H v d → Is H' v d
  | _, _, .non => .non
  | _, _, .bl b => .bl b
  | _, _, .int i => .int i
  | _, _, .str s h => .str s h
  | _, _, .lst h r z => .lst (e _ _ h (fun _ q => by cases q)) (IsA.ext e r) z
  | _, _, .tup h r z => .tup (e _ _ h (fun _ q => by cases q)) (IsA.ext e r) z
  | _, _, .dic h => .dic (e _ _ h (fun _ q => by cases q))
theorem IsA.ext {H H' : Hp} (e : ExtN H H') : ∀ {vs : List V} {ds : List Dt}, IsA H vs ds → IsA H' vs ds
  | _, _, .nil => .nil
  | _, _, .cons h r => .cons (Is.ext e h) (IsA.ext e r)
end
/-- what data consist of -/
def dataO : HO → Prop
  | .lst _ => True
  | .tup _ => True
  | .dK _ => True
  | _ => False
mutual
theorem Is.keep {H H' : Hp} (e : ∀ b o, H b = some o → dataO o → H' b = some o) : ∀ {v : V} {d : Dt}, Is H v d → Is H' v d
  | _, _, .non => .non
  | _, _, .bl b => .bl b
  | _, _, .int i => .int i
  | _, _, .str s h => .str s h
  | _, _, .lst h r z => .lst (e _ _ h trivial) (IsA.keep e r) z
  | _, _, .tup h r z => .tup (e _ _ h trivial) (IsA.keep e r) z
  | _, _, .dic h => .dic (e _ _ h trivial)
theorem IsA.keep {H H' : Hp} (e : ∀ b o, H b = some o → dataO o → H' b = some o) : ∀ {vs : List V} {ds : List Dt}, IsA H vs ds → IsA H' vs ds
  | _, _, .nil => .nil
  | _, _, .cons h r => .cons (Is.keep e h) (IsA.keep e r)
end
/-- a frozen thing let go -/
theorem thaw {H : Hp} {p : Addr} {od : Obj} {u o : HO} (h : H p = some (.frz od u)) : ∀ b x, H b = some x → dataO x → (upd H p o) b = some x := fun b x e d => by
  rw [upd_ne fun z => ?_]
  · exact e
  · rw [z, h] at e
    cases e
    exact d.elim
/-- no list of three ints within -/
def three : List Dt → Bool
  | [.int _, .int _, .int _] => true
  | _ => false
mutual
def noD : Dt → Bool
  | .lst l => !three l && noDs l
  | .tup l => noDs l
  | _ => true
def noDs : List Dt → Bool
  | [] => true
  | d :: r => noD d && noDs r
end
theorem noDs_all : ∀ {l : List Dt}, (∀ d ∈ l, noD d = true) → noDs l = true
  | [], _ => rfl
  | d :: r, h => by
    unfold noDs
    rw [h d List.mem_cons_self, noDs_all fun x m => h x (List.mem_cons_of_mem _ m)]
    rfl
theorem ints_three {H : Hp} {x y z : Int} {ds : List Dt} (h : IsA H [.int x, .int y, .int z] ds) : three ds = true := by
  cases h with
  | cons h1 t => cases t with
    | cons h2 t => cases t with
      | cons h3 t => cases t with
        | nil => cases h1 with
          | int i => cases h2 with
            | int j => cases h3 with
              | int k => rfl
mutual
theorem Is.off {H : Hp} {a : Addr} (hd : DrawsAt H a) : ∀ {v : V} {d : Dt}, Is H v d → noD d = true → Is (rm H a) v d
  | _, _, .non, _ => .non
  | _, _, .bl b, _ => .bl b
  | _, _, .int i, _ => .int i
  | _, _, .str s h, _ => .str s h
  | _, _, .lst (a := b) (xs := xs) (ds := ds) h r z, n => by
    unfold noD at n
    obtain ⟨n1, n2⟩ := Bool.and_eq_true_iff.mp n
    have ne : b ≠ a := fun e => by
      obtain ⟨o, ho, x, y, w, rfl⟩ := hd
      rw [← e, h] at ho
      have e2 : xs = [.int x, .int y, .int w] := by injection ho with ho; injection ho
      rw [e2] at r
      rw [ints_three r] at n1
      cases n1
    exact .lst (by rw [rm_ne ne]; exact h) (IsA.off hd r n2) z
  | _, _, .tup (a := b) h r z, n => by
    unfold noD at n
    have ne : b ≠ a := fun e => by
      obtain ⟨o, ho, x, y, w, rfl⟩ := hd
      rw [← e, h] at ho
      injection ho with ho
      cases ho
    exact .tup (by rw [rm_ne ne]; exact h) (IsA.off hd r n) z
  | _, _, .dic (a := b) h, _ => by
    have ne : b ≠ a := fun e => by
      obtain ⟨o, ho, x, y, w, rfl⟩ := hd
      rw [← e, h] at ho
      injection ho with ho
      cases ho
    exact .dic (by rw [rm_ne ne]; exact h)
theorem IsA.off {H : Hp} {a : Addr} (hd : DrawsAt H a) : ∀ {vs : List V} {ds : List Dt}, IsA H vs ds → noDs ds = true → IsA (rm H a) vs ds
  | _, _, .nil, _ => .nil
  | _, _, .cons h r, n => by
    unfold noDs at n
    obtain ⟨n1, n2⟩ := Bool.and_eq_true_iff.mp n
    exact .cons (Is.off hd h n1) (IsA.off hd r n2)
end
theorem Tabs.off {T : List (Addr × Str)} {H : Hp} {a : Addr} (t : Tabs T H) (hd : DrawsAt H a) : Tabs T (rm H a) := fun p hp => by
  obtain ⟨o, ho, x, y, w, rfl⟩ := hd
  obtain ⟨ps, h1, h2, h3⟩ := t p hp
  have n1 : p.1 ≠ a := fun e => by rw [e, ho] at h1; injection h1 with h1; cases h1
  refine ⟨ps, by rw [rm_ne n1]; exact h1, h2, fun pos cv hc => ?_⟩
  obtain ⟨c, e1, e2⟩ := h3 pos cv hc
  have n2 : c ≠ a := fun e => by
    rw [e, ho] at e2
    injection e2 with e2
    unfold CodeO at e2
    cases e2
  exact ⟨c, e1, by rw [rm_ne n2]; exact e2⟩
theorem ExtN.set {M H : Hp} {p : Addr} {o : HO} (e : ExtN M H) (h : M p = none) : ExtN M (upd H p o) := fun b u q n => by
  rw [upd_ne (ne_of_none q h)]
  exact e _ _ q n
theorem ExtN.none {H H' : Hp} {p : Addr} (e : ExtN H H') (h : H' p = Option.none) (n : ∀ ps, H p ≠ some (.tbl ps)) : H p = Option.none := by
  cases q : H p with
  | none => rfl
  | some o =>
    have := e _ _ q (fun ps z => n ps (by rw [q, z]))
    rw [this] at h
    cases h
theorem sql_ext {K : PySem.W.Frag} {H H' : Hp} {a : Addr} {xs : List V} (e : ExtN H H') (h : SqL K H a xs) : SqL K H' a xs := by
  rcases h with (h | ⟨u, h⟩) | h
  · exact .inl (.inl (e _ _ h fun _ q => by cases q))
  · exact .inl (.inr ⟨u, e _ _ h fun _ q => by cases q⟩)
  · exact .inr h
/-- a list changes: the tables stay -/
theorem Tabs.set {T : List (Addr × Str)} {H : Hp} {f : Addr} {xs ys : List V} (t : Tabs T H) (hf : H f = some (.lst xs)) : Tabs T (upd H f (.lst ys)) := fun p hp => by
  obtain ⟨ps, h1, h2, h3⟩ := t p hp
  have n1 : p.1 ≠ f := fun e => by rw [e, hf] at h1; injection h1 with h1; cases h1
  refine ⟨ps, by rw [upd_ne n1]; exact h1, h2, fun pos cv hc => ?_⟩
  obtain ⟨c, e1, e2⟩ := h3 pos cv hc
  have n2 : c ≠ f := fun e => by
    rw [e, hf] at e2
    injection e2 with e2
    unfold CodeO at e2
    cases e2
  exact ⟨c, e1, by rw [upd_ne n2]; exact e2⟩
theorem cut_to (xs : List V) {k : Nat} (h : k ≤ xs.length) : cutV xs none (some (k : Int)) = xs.take k := by
  unfold cutV
  rw [HT.sIx_none, HT.sIx_nat, Nat.min_eq_left h, Nat.sub_zero, List.drop_zero]
theorem cut_from (xs : List V) {k : Nat} (h : k ≤ xs.length) : cutV xs (some (k : Int)) none = xs.drop k := by
  unfold cutV
  rw [HT.sIx_none, HT.sIx_nat, Nat.min_eq_left h, List.take_of_length_le (by rw [List.length_drop]; exact Nat.le_refl _)]
/-! ### what is settled, beside the draws' list at a -/
structure Dr (a : Addr) (M H : Hp) : Prop where
  d : DrawsAt H a
  s : Same M (rm H a)
section
variable {a p : Addr} {M H H' : Hp} {o : HO}
theorem Dr.ne (D : Dr a M H) {b : Addr} {x : HO} (e : M b = some x) : b ≠ a := fun z => by
  have h := D.s _ _ e
  rw [z, rm_at] at h
  cases h
theorem Dr.get (D : Dr a M H) {b : Addr} {x : HO} (e : M b = some x) : H b = some x := rm_same _ _ (D.s _ _ e)
theorem Dr.up (D : Dr a M H) : Same M H := fun _ _ e => D.get e
theorem Dr.free (D : Dr a M H) {b : Addr} (h : H b = none) : M b = none := by
  cases q : M b with
  | none => rfl
  | some x => rw [D.get q] at h; cases h
theorem Dr.grow (D : Dr a M H) (s : Same H H') : Dr a M H' := ⟨by
  obtain ⟨o, e, x⟩ := D.d
  exact ⟨o, s _ _ e, x⟩, D.s.trans (Same.rm s)⟩
theorem Dr.lay (D : Dr a M H) (hp : H p = none) : Dr a (upd M p o) (upd H p o) ∧ Same M (upd M p o) := by
  have np : p ≠ a := fun z => D.d.some (by rw [← z]; exact hp)
  refine ⟨⟨(D.grow (Same.up hp)).d, fun b x e => ?_⟩, Same.up (D.free hp)⟩
  by_cases c : b = p
  · rw [c, upd_same] at e
    rw [c, rm_ne np, upd_same]
    exact e
  · rw [upd_ne c] at e
    have h := D.s _ _ e
    have nb : b ≠ a := D.ne e
    rw [rm_ne nb] at h ⊢
    rw [upd_ne c]
    exact h
theorem Dr.pick (D : Dr a M H) (ho : DrawsO o) : Dr a M (upd H a o) := ⟨⟨o, upd_same, ho⟩, by rw [rm_upd]; exact D.s⟩
end
end Sr

set_option Elab.async false
set_option linter.all false
set_option maxRecDepth 100000
set_option maxHeartbeats 4000000
namespace K00
open PySem PySem.Spec PyProof.Rows L2 Sr
def menuW : List (List Str) := [[], ["points"], ["home"], ["few", "late"], ["home", "points"], ["late"], ["early"]]
def RkV (H : Hp) (_ : Str) (v : V) : Prop := ∃ t ws, v = .ref t ∧ H t = some (.tup (ws.map V.str)) ∧ ws ∈ menuW
theorem RkV.mono {H H' : Hp} (e : Same H H') {s : Str} {v : V} (h : RkV H s v) : RkV H' s v := by
  obtain ⟨t, ws, rfl, h1, h2⟩ := h
  exact ⟨t, ws, rfl, e _ _ h1, h2⟩
theorem RkV.lay {H : Hp} {D : Addr} {c : List (Key × V)} {o : HO} (hD : H D = some (.dK c)) {s : Str} {v : V} (h : RkV H s v) : RkV (upd H D o) s v := by
  obtain ⟨t, ws, rfl, h1, h2⟩ := h
  exact ⟨t, ws, rfl, by rw [upd_ne (ne_of h1 hD (by intro z; cases z))]; exact h1, h2⟩
def names4 : List Str := ["red", "blue", "k9", "a"]
theorem names4_ok : ∀ s ∈ names4, nameOk (.str s) = true ∧ s.length ≤ 1000 := by decide +kernel
theorem names4_str : ∀ s ∈ names4, PyData.canLay0 (.str s) = true := by decide +kernel
/-- ranks that are right: the kinds ss -/
def RanksAt (H : Hp) (r : Addr) (ss : List Str) : Prop := (∃ kvs, H r = some (.dK kvs) ∧ Ent (RkV H) kvs ss) ∧ ss.Nodup ∧ ss.length ≤ 4 ∧ (∀ s ∈ ss, s ∈ names4) ∧ ss ≠ []
theorem RanksAt.mono {H H' : Hp} (e : Same H H') {r : Addr} {ss : List Str} (h : RanksAt H r ss) : RanksAt H' r ss := by
  obtain ⟨⟨kvs, h1, h2⟩, h3⟩ := h
  exact ⟨⟨kvs, e _ _ h1, h2.imp fun s v z => z.mono e⟩, h3⟩
def RkInv (a l f pw : Addr) (W : List V) (M H M8 : Hp) (i : Nat) (σ : L2.St) (H' : Hp) : Prop :=
  (∃ kk, σ = [some (.ref a), some (.int 4), some (.ref pw), kk, some (.ref l), some (.ref f)]) ∧ Grow [a] M H M8 H' ∧ DrawsAt H' a ∧ H' pw = some (.lst W) ∧
  ∃ (ml ss : List Str) (kvs : List (Key × V)), H' l = some (.lst (ml.map V.str)) ∧ H' f = some (.dK kvs) ∧ Ent (RkV M8) kvs ss ∧ (ss ++ ml).Nodup ∧ (∀ s ∈ ss ++ ml, s ∈ names4) ∧ ml.length + i = 4 ∧ ss.length = i
theorem rk_of {M : Hp} {t0 t1 t2 t3 t4 t5 t6 : Addr} (u0 : RkV M "" (.ref t0)) (u1 : RkV M "" (.ref t1)) (u2 : RkV M "" (.ref t2)) (u3 : RkV M "" (.ref t3)) (u4 : RkV M "" (.ref t4)) (u5 : RkV M "" (.ref t5)) (u6 : RkV M "" (.ref t6))
    {v : V} (hv : v ∈ ([.ref t0, .ref t1, .ref t2, .ref t3, .ref t4, .ref t5, .ref t6] : List V)) : RkV M "" v := by
  simp only [List.mem_cons, List.not_mem_nil, or_false] at hv
  rcases hv with rfl | rfl | rfl | rfl | rfl | rfl | rfl <;> assumption
theorem erase_map {α β : Type} (f : α → β) : ∀ (l : List α) (i : Nat), (l.map f).eraseIdx i = (l.eraseIdx i).map f
  | [], _ => rfl
  | _ :: _, 0 => rfl
  | x :: r, i + 1 => congrArg (f x :: ·) (erase_map f r i)
theorem erase_perm {α : Type} : ∀ {l : List α} {i : Nat} {x : α}, l[i]? = some x → l.Perm (x :: l.eraseIdx i)
  | [], _, _, h => by simp at h
  | y :: r, 0, x, h => by
    obtain rfl : y = x := by simpa using h
    exact List.Perm.refl _
  | y :: r, i + 1, x, h => by
    have p := erase_perm (l := r) (i := i) (x := x) (by simpa using h)
    exact (p.cons y).trans (List.Perm.swap x y _)
/-- new ranks -/
def spSomeRanks : Sp := fun vs H Q _ => ∃ (a : Addr) (M : Hp), vs = [.ref a, .int 4] ∧ DrawsAt H a ∧ Same M H ∧ M a = none ∧ ∀ r M' H' ss, Grow [a] M H M' H' → DrawsAt H' a → RanksAt M' r ss → Q (.ref r) H'
section
variable {P : Program} {w : World} {K : PySem.W.Frag} {mg : Str → Option Value} {base : Heap}
abbrev s__law_some_ranks : Stmt := top 18
theorem sc__law_some_ranks : FnScope ["draws", "most", "words", "k", "menu", "found"] ["draws", "most"] (defScope s__law_some_ranks) := ⟨rfl, rfl, rfl, by decide +kernel, rfl, by decide +kernel, by decide +kernel⟩
theorem c__law_some_ranks (T : Txt K mg) (D : Dfn K mg "_law_some_ranks" s__law_some_ranks) (C_law_draw : Cal P w K mg base 1 "_law_draw" ["draws", "many"] spDraw) (C_law_pick : Cal P w K mg base 2 "_law_pick" ["draws", "xs"] (spPick K)) :
    Cal P w K mg base 3 "_law_some_ranks" ["draws", "most"] spSomeRanks := by
  refine D.cal sc__law_some_ranks (fun _ _ _ _ _ _ us hl => match us, hl with | [_, _], _ => rfl) (fun vs H Q E h => ?_) fun cdv A outer s H vs Q E hr h => ?_
  · obtain ⟨a, M, rfl, _⟩ := h
    rfl
  obtain ⟨a, M, rfl, hd, sM, Ma, q⟩ := h
  refine ⟨_, (pss_cons (ps_par (i := 4) (j := 5) (by rfl) sc__law_some_ranks.nd rfl rfl (by decide) rfl rfl (pa_cons (pe_lst (pa_cons pe_str (pa_cons pe_str (pa_cons pe_str (pa_cons pe_str pa_nil))))) (pa_cons pe_dnewK pa_nil)) (by rfl))
      (pss_cons (ps_set (i := 2) sc__law_some_ranks.nd rfl (by first | exact Or.inl rfl | exact Or.inr rfl) (pe_lst (pa_cons (pe_tup pa_nil) (pa_cons (pe_tup (pa_cons pe_str pa_nil)) (pa_cons (pe_tup (pa_cons pe_str pa_nil)) (pa_cons (pe_tup (pa_cons pe_str (pa_cons pe_str pa_nil))) (pa_cons (pe_tup (pa_cons pe_str (pa_cons pe_str pa_nil))) (pa_cons (pe_tup (pa_cons pe_str pa_nil)) (pa_cons (pe_tup (pa_cons pe_str pa_nil)) pa_nil)))))))))
      (pss_cons (ps_for PassesOwn.never rfl (pi_range1 (by rfl) T.range (pa_cons (pe_op op_add pe_int (pe_cal C_law_draw hr (by first | decide | omega) (by rfl) (pa_cons (pv 0) (pa_cons (pv 1) pa_nil)))) pa_nil)) (pg_name (i := 3) sc__law_some_ranks.nd rfl (by first | exact Or.inl rfl | exact Or.inr rfl))
      (pss_one (ps_dput (hu_of hr) (pv 5) (pe_bm PySem.F.plainAttrs_list PySem.F.slot_list_pop PySem.F.type_list_pop mt_popAt (pv 4) (pa_cons (pe_cal C_law_draw hr (by first | decide | omega) (by rfl) (pa_cons (pv 0) (pa_cons (pe_callB (id := "len") call_len_seq (by rfl) T.len (by decide +kernel) (pa_cons (pv 4) pa_nil)) pa_nil))) pa_nil)) (pe_cal C_law_pick hr (by first | decide | omega) (by rfl) (pa_cons (pv 0) (pa_cons (pv 2) pa_nil))) rfl)))
      (pss_one (ps_ret (pv 5)))))), ?_⟩
  refine ⟨lineN, fun l hl f hf => ⟨_, _, rfl, ?_⟩⟩
  have gH : Grow [a] M H M _ := Grow.same sM ((Same.up (o := .lst [.str "red", .str "blue", .str "k9", .str "a"]) hl).trans (Same.up (o := .dK []) hf))
  have g0 := Grow.refl (S := [a]) gH.sub
  have nlf : f ≠ l := fun z => by rw [z, upd_same] at hf; cases hf
  have Hl0 : (upd (upd H l (.lst [.str "red", .str "blue", .str "k9", .str "a"])) f (.dK [])) l = some (.lst [.str "red", .str "blue", .str "k9", .str "a"]) := by rw [upd_ne nlf.symm, upd_same]
  have Hf0 : (upd (upd H l (.lst [.str "red", .str "blue", .str "k9", .str "a"])) f (.dK [])) f = some (.dK []) := upd_same
  refine ⟨lineN, fun t0 h0 => ?_⟩
  have e0 := Grow.lay (S := [a]) (o := .tup (([] : List Str).map V.str)) g0.sub h0
  have g1 := g0.trans e0
  refine ⟨lineN, fun t1 h1 => ?_⟩
  have e1 := Grow.lay (S := [a]) (o := .tup ((["points"] : List Str).map V.str)) g1.sub h1
  have g2 := g1.trans e1
  refine ⟨lineN, fun t2 h2 => ?_⟩
  have e2 := Grow.lay (S := [a]) (o := .tup ((["home"] : List Str).map V.str)) g2.sub h2
  have g3 := g2.trans e2
  refine ⟨lineN, fun t3 h3 => ?_⟩
  have e3 := Grow.lay (S := [a]) (o := .tup ((["few", "late"] : List Str).map V.str)) g3.sub h3
  have g4 := g3.trans e3
  refine ⟨lineN, fun t4 h4 => ?_⟩
  have e4 := Grow.lay (S := [a]) (o := .tup ((["home", "points"] : List Str).map V.str)) g4.sub h4
  have g5 := g4.trans e4
  refine ⟨lineN, fun t5 h5 => ?_⟩
  have e5 := Grow.lay (S := [a]) (o := .tup ((["late"] : List Str).map V.str)) g5.sub h5
  have g6 := g5.trans e5
  refine ⟨lineN, fun t6 h6 => ?_⟩
  have e6 := Grow.lay (S := [a]) (o := .tup ((["early"] : List Str).map V.str)) g6.sub h6
  have g7 := g6.trans e6
  refine ⟨lineN (n := 7), fun pw hpw => ?_⟩
  have e7 := Grow.same (S := [a]) g7.sub (Same.up (o := .lst [.ref t0, .ref t1, .ref t2, .ref t3, .ref t4, .ref t5, .ref t6]) hpw)
  have g8 := g7.trans e7
  have u0 : RkV _ "" (.ref t0) := ⟨t0, [], rfl, (e1.up.trans (e2.up.trans (e3.up.trans (e4.up.trans (e5.up.trans (e6.up.trans (e7.up))))))) _ _ upd_same, by decide⟩
  have u1 : RkV _ "" (.ref t1) := ⟨t1, ["points"], rfl, (e2.up.trans (e3.up.trans (e4.up.trans (e5.up.trans (e6.up.trans (e7.up)))))) _ _ upd_same, by decide⟩
  have u2 : RkV _ "" (.ref t2) := ⟨t2, ["home"], rfl, (e3.up.trans (e4.up.trans (e5.up.trans (e6.up.trans (e7.up))))) _ _ upd_same, by decide⟩
  have u3 : RkV _ "" (.ref t3) := ⟨t3, ["few", "late"], rfl, (e4.up.trans (e5.up.trans (e6.up.trans (e7.up)))) _ _ upd_same, by decide⟩
  have u4 : RkV _ "" (.ref t4) := ⟨t4, ["home", "points"], rfl, (e5.up.trans (e6.up.trans (e7.up))) _ _ upd_same, by decide⟩
  have u5 : RkV _ "" (.ref t5) := ⟨t5, ["late"], rfl, (e6.up.trans (e7.up)) _ _ upd_same, by decide⟩
  have u6 : RkV _ "" (.ref t6) := ⟨t6, ["early"], rfl, (e7.up) _ _ upd_same, by decide⟩
  have sF : Same (upd (upd H l (.lst [.str "red", .str "blue", .str "k9", .str "a"])) f (.dK [])) _ := ((((((((Same.up (o := .tup (([] : List Str).map V.str)) h0).trans (Same.up (o := .tup ((["points"] : List Str).map V.str)) h1)).trans (Same.up (o := .tup ((["home"] : List Str).map V.str)) h2)).trans (Same.up (o := .tup ((["few", "late"] : List Str).map V.str)) h3)).trans (Same.up (o := .tup ((["home", "points"] : List Str).map V.str)) h4)).trans (Same.up (o := .tup ((["late"] : List Str).map V.str)) h5)).trans (Same.up (o := .tup ((["early"] : List Str).map V.str)) h6)).trans (Same.up (o := .lst [.ref t0, .ref t1, .ref t2, .ref t3, .ref t4, .ref t5, .ref t6]) hpw))
  have nl0 : l ≠ a := fun z => hd.some (by rw [← z]; exact hl)
  have hf' := hf
  rw [upd_ne nlf] at hf
  have nf0 : f ≠ a := fun z => hd.some (by rw [← z]; exact hf)
  have s8 : Same H _ := ((Same.up (o := .lst [.str "red", .str "blue", .str "k9", .str "a"]) hl).trans (Same.up (o := .dK []) hf')).trans sF
  have np0 : pw ≠ a := fun z => by
    obtain ⟨o, e, _, _, _, rfl⟩ := hd.up s8
    rw [← z, upd_same] at e
    cases e
  have gg := gH.trans g8
  have Ma8 := gg.out Ma hd.some
  have Ml8 := g8.out (sM.free hl) (by rw [Hl0]; simp)
  have Mf8 := g8.out (sM.free hf) (by rw [Hf0]; simp)
  refine ⟨_, rfl, _, rfl, a, _, rfl, hd.up s8, by omega, by omega, fun r o r0 r1 ho => ⟨_, _, rfl, rfl, _, rfl, by omega, by omega, ?_⟩⟩
  obtain ⟨g9, d9⟩ := draw_step gg Ma8 ho
  refine for_range (RkInv a l f pw [.ref t0, .ref t1, .ref t2, .ref t3, .ref t4, .ref t5, .ref t6] M H _) ⟨⟨_, rfl⟩, g9, d9, (upd_ne np0).trans upd_same, names4, [], [], (upd_ne nl0).trans (sF _ _ Hl0), (upd_ne nf0).trans (sF _ _ Hf0), .nil, by decide, fun _ h => h, rfl, rfl⟩ ?_ ?_
  · rintro i σ H1 hi ⟨⟨kk, rfl⟩, g, d, hpw1, ml, ss, kvs, hl1, hf1, he, nd, sub, e1, e2⟩
    refine ⟨_, rfl, _, rfl, a, pw, _, rfl, d, np0, .inl (SqL.of hpw1), (by simp), (by simp), fun j v o1 hv ho1 => ?_⟩
    have rk := rk_of u0 u1 u2 u3 u4 u5 u6 (List.mem_of_getElem? hv)
    obtain ⟨g1, d1⟩ := draw_step g Ma8 ho1
    have hl2 : (upd H1 a o1) l = _ := (upd_ne nl0).trans hl1
    have hf2 : (upd H1 a o1) f = _ := (upd_ne nf0).trans hf1
    have c4 : ml.length ≤ 4 := by omega
    refine ⟨_, rfl, _, rfl, .inl ⟨rfl, _, SqL.of hl2⟩, _, rfl, _, rfl, l, _, rfl, .inl (SqL.of hl2), a, _, rfl, d1, (by rw [List.length_map]; omega), (by rw [List.length_map]; omega), fun r2 o2 q0 q1 ho2 => ?_⟩
    rw [List.length_map] at q1
    obtain ⟨g2, d2⟩ := draw_step g1 Ma8 ho2
    have hl3 : (upd (upd H1 a o1) a o2) l = _ := (upd_ne nl0).trans hl2
    have hf3 : (upd (upd H1 a o1) a o2) f = _ := (upd_ne nf0).trans hf2
    have hp3 : (upd (upd H1 a o1) a o2) pw = _ := (upd_ne np0).trans ((upd_ne np0).trans hpw1)
    have lt : r2.toNat < ml.length := by omega
    obtain ⟨y, hy⟩ : ∃ y, ml[r2.toNat]? = some y := ⟨_, List.getElem?_eq_getElem lt⟩
    have pm := erase_perm hy
    have npl : pw ≠ l := ne_of hp3 hl3 (by intro z; cases ml <;> cases z)
    have npf : pw ≠ f := ne_of hp3 hf3 (by intro z; cases z)
    refine ⟨l, _, r2, r2.toNat, .str y, rfl, rfl, hl3, by omega, by omega, PySem.StrLaws.seqIndex_nonneg q0 (by rw [List.length_map]; omega), (by rw [List.getElem?_map, hy]; rfl), f, _, rfl, DPut.k (k := Sum.inr y) ((upd_ne nlf).trans hf3) (sz (m := 4) (by rw [he.len]; omega)), ?_⟩
    have nd2 : (ss ++ y :: ml.eraseIdx r2.toNat).Nodup := ((List.Perm.append_left ss pm).nodup_iff).mp nd
    have nd3 : (ss ++ [y] ++ ml.eraseIdx r2.toNat).Nodup := by rw [List.append_assoc]; exact nd2
    refine ⟨⟨_, rfl⟩, (g2.own hl Ml8).own hf Mf8, ⟨o2, (upd_ne nf0.symm).trans ((upd_ne nl0.symm).trans upd_same), ho2⟩, (upd_ne npf).trans ((upd_ne npl).trans hp3), ml.eraseIdx r2.toNat, ss ++ [y], _, (upd_ne nlf.symm).trans (upd_same.trans (by rw [erase_map])), upd_same, he.put (fun m => ?_) rk, nd3, fun s m => ?_, ?_, ?_⟩
    · exact (List.nodup_append.mp nd2).2.2 y m y List.mem_cons_self rfl
    · refine sub s ((List.Perm.append_left ss pm).mem_iff.mpr ?_)
      rw [List.append_assoc] at m
      exact m
    · rw [List.length_eraseIdx_of_lt lt]
      omega
    · rw [List.length_append, e2]
      rfl
  · rintro σ H1 ⟨⟨kk, rfl⟩, g, d, hpw1, ml, ss, kvs, hl1, hf1, he, nd, sub, e1, e2⟩
    refine ⟨_, rfl, q f _ H1 ss (g.settle hf Mf8 hf1) d ⟨⟨kvs, upd_same, he.imp fun s v h => h.mono (Same.up Mf8)⟩, (List.nodup_append.mp nd).1, by omega, fun s m => sub s (List.mem_append_left _ m), ?_⟩⟩
    intro z
    rw [z] at e2
    have e3 : (0 : Nat) = (1 + r).toNat := e2
    omega
end
end K00

set_option Elab.async false
set_option linter.all false
set_option maxRecDepth 100000
set_option maxHeartbeats 4000000
namespace K00
open PySem PySem.Spec PyProof.Rows L2 Sr
/-! ### drawn ranks as data -/
def drawnR (rs : List Rk) : Prop := (rs.map (·.1)).Nodup ∧ rs.length ≤ 4 ∧ rs ≠ [] ∧ ∀ p ∈ rs, p.1 ∈ names4 ∧ p.2 ∈ menuW
def RanksR (H : Hp) (r : Addr) (rs : List Rk) : Prop := ∃ kvs, H r = some (.dK kvs) ∧ EntR (TupV H) kvs rs
theorem RanksR.mono {H H' : Hp} (e : Same H H') {r : Addr} {rs : List Rk} (h : RanksR H r rs) : RanksR H' r rs := by
  obtain ⟨kvs, h1, h2⟩ := h
  exact ⟨kvs, e _ _ h1, h2.imp fun v ws t => t.mono e⟩
theorem rows_of {H : Hp} : ∀ {kvs : List (Key × V)} {ss : List Str}, Ent (RkV H) kvs ss → ∃ rs : List Rk, rs.map (·.1) = ss ∧ EntR (TupV H) kvs rs ∧ ∀ p ∈ rs, p.2 ∈ menuW
  | _, _, .nil => ⟨[], rfl, .nil, fun p m => by cases m⟩
  | _, _, .cons (a := kv) (b := s) h r => by
    obtain ⟨rs, e1, e2, e3⟩ := rows_of r
    obtain ⟨t, ws, h1, h2, h3⟩ := h.2
    refine ⟨(s, ws) :: rs, by rw [List.map_cons, e1], .cons ⟨h.1, t, h1, h2⟩ e2, fun p m => ?_⟩
    rcases List.mem_cons.mp m with rfl | m
    · exact h3
    · exact e3 p m
theorem ranksR_of {H : Hp} {r : Addr} {ss : List Str} (h : RanksAt H r ss) : ∃ rs, RanksR H r rs ∧ drawnR rs := by
  obtain ⟨⟨kvs, h1, h2⟩, nd, le, sub, ne⟩ := h
  obtain ⟨rs, e1, e2, e3⟩ := rows_of h2
  refine ⟨rs, ⟨kvs, h1, e2⟩, by rw [e1]; exact nd, by rw [← List.length_map (f := (·.1)), e1]; exact le, fun z => ne (by rw [← e1, z]; rfl), fun p m => ⟨sub _ (by rw [← e1]; exact List.mem_map.mpr ⟨p, m, rfl⟩), e3 p m⟩⟩
theorem menu_good : ∀ ws ∈ menuW, (∀ x ∈ ws, x ∈ words) ∧ (met ws ws.length).length = ws.length ∧ ws.length ≤ 60 := by decide +kernel
theorem drawnR.good {rs : List Rk} (h : drawnR rs) : goodR rs := ⟨fun p m => ⟨(names4_ok _ (h.2.2.2 p m).1).1, menu_good _ (h.2.2.2 p m).2⟩, h.1, by have := h.2.1; omega⟩
/-- beside the draws' list all stays, and the ranks are there -/
theorem some_ranks {a : Addr} {H : Hp} {Q : VK} {E : XK} (hd : DrawsAt H a) (q : ∀ r H' rs, DrawsAt H' a → Same (rm H a) (rm H' a) → RanksR (rm H' a) r rs → drawnR rs → Q (.ref r) H') : spSomeRanks [.ref a, .int 4] H Q E := by
  refine ⟨a, rm H a, rfl, hd, rm_same, rm_at, fun r M' H' ss g d h => ?_⟩
  have ma : M' a = none := g.out rm_at hd.some
  have sm : Same M' (rm H' a) := fun b o e => by
    rw [rm_ne fun z => by rw [z, ma] at e; cases e]
    exact g.sub _ _ e
  obtain ⟨rs, h1, h2⟩ := ranksR_of h
  exact q r H' rs d (g.up.trans sm) (h1.mono sm) h2
theorem shp_names {K : PySem.W.Frag} {H : Hp} : ∀ {ws : List Str}, (∀ s ∈ ws, s ∈ names4) → DpAll K H (ws.map V.str) (ws.map PyData.str) ∧ PyData.canLayAll0 (ws.map PyData.str) = true ∧ PyData.depthAll (ws.map PyData.str) ≤ 1
  | [], _ => ⟨.nil, rfl, by simp [PyData.depthAll]⟩
  | s :: r, h => by
    obtain ⟨h1, h2, h3⟩ := shp_names (K := K) (H := H) (ws := r) fun x m => h x (List.mem_cons_of_mem _ m)
    refine ⟨.cons (.str s) h1, ?_, ?_⟩
    · show (PyData.canLay0 (.str s) && PyData.canLayAll0 (r.map PyData.str)) = true
      rw [names4_str s (h s List.mem_cons_self), h2]
      rfl
    · simp only [List.map_cons, PyData.depthAll, PyData.depth]
      omega
theorem shaped_names {ws : List Str} (h : ∀ s ∈ ws, s ∈ names4) : SeqAt.shaped (.list (ws.map PyData.str)) = true := by
  obtain ⟨_, h2, h3⟩ := shp_names (K := []) (H := fun _ => none) h
  unfold SeqAt.shaped
  rw [Bool.and_eq_true]
  refine ⟨by simpa [PyData.canLay0] using h2, decide_eq_true ?_⟩
  simp only [PyData.depth]
  omega
theorem eqv_ne {s : Str} {ws : List Str} : PyData.eqv (.list ((s :: ws).map PyData.str)) (.list []) = false := by simp [PyData.eqv, PyData.eqvAll]
def spMixed : Sp := fun vs H Q _ => ∃ (a r : Addr) (kvs : List (Key × V)) (ss : List Str), vs = [.ref a, .ref r] ∧ DrawsAt H a ∧ H r = some (.dK kvs) ∧ kvs.map (·.1) = ss.map Sum.inr ∧ ss.length ≤ 4 ∧ (∀ s ∈ ss, s ∈ names4) ∧
  ∀ (l : Addr) (H' : Hp) (ys : List Str), DrawsAt H' a → Same (rm H a) (rm H' a) → (rm H a) l = none → (rm H' a) l = some (.lst (ys.map V.str)) → ys.Perm ss → Q (.ref l) H'
section
variable {P : Program} {w : World} {K : PySem.W.Frag} {mg : Str → Option Value} {base : Heap}
abbrev s__law_mixed : Stmt := top 19
theorem sc__law_mixed : FnScope ["draws", "things", "left", "found"] ["draws", "things"] (defScope s__law_mixed) := ⟨rfl, rfl, rfl, by decide +kernel, rfl, by decide +kernel, by decide +kernel⟩
theorem c__law_mixed (T : Txt K mg) (D : Dfn K mg "_law_mixed" s__law_mixed) (C_law_draw : Cal P w K mg base 1 "_law_draw" ["draws", "many"] spDraw) : Cal P w K mg base 2 "_law_mixed" ["draws", "things"] spMixed := by
  refine D.cal sc__law_mixed (fun _ _ _ _ _ _ us hl => match us, hl with | [_, _], _ => rfl) (fun vs H Q E h => ?_) fun cdv A outer s H vs Q E hr h => ?_
  · obtain ⟨a, r, kvs, ss, rfl, _⟩ := h
    rfl
  obtain ⟨a, r, kvs, ss, rfl, hd, hk, ek, le, sub, q⟩ := h
  refine ⟨_, (pss_cons (ps_par (i := 2) (j := 3) (by rfl) sc__law_mixed.nd rfl rfl (by decide) rfl rfl (pa_cons (pe_callTy (T := "list") (call_list_dK rfl) (by rfl) T.list (by decide +kernel) (pa_cons (pv 1) pa_nil)) (pa_cons (pe_lst pa_nil) pa_nil)) (by rfl))
      (pss_cons (ps_while PassesOwn.never (pt_cmpR (op_neD hr.units) (pv 2) (pe_lst pa_nil) (nomark _)) (pss_one (ps_expr (pe_bm PySem.F.plainAttrs_list PySem.F.slot_list_append PySem.F.type_list_append mt_append (pv 3) (pa_cons (pe_bm PySem.F.plainAttrs_list PySem.F.slot_list_pop PySem.F.type_list_pop mt_popAt (pv 2) (pa_cons (pe_cal C_law_draw hr (by first | decide | omega) (by rfl) (pa_cons (pv 0) (pa_cons (pe_callB (id := "len") call_len_seq (by rfl) T.len (by decide +kernel) (pa_cons (pv 2) pa_nil)) pa_nil))) pa_nil)) pa_nil)))))
      (pss_one (ps_ret (pv 3))))), ?_⟩
  have ex : kvs.map (fun p => kV p.1) = ss.map V.str := by
    have := congrArg (List.map kV) ek
    rw [List.map_map, List.map_map] at this
    exact this
  refine ⟨_, rfl, r, kvs, rfl, hk, fun l hl => ⟨lineN (n := 0), fun f hf => ⟨_, _, rfl, ?_⟩⟩⟩
  rw [ex]
  rw [ex] at hf
  have nla : l ≠ a := fun z => hd.some (by rw [← z]; exact hl)
  have nlf : f ≠ l := fun z => by rw [z, upd_same] at hf; cases hf
  have hf0 : H f = none := by rw [upd_ne nlf] at hf; exact hf
  have nfa : f ≠ a := fun z => hd.some (by rw [← z]; exact hf0)
  have ml : rm H a l = none := rm_free hl
  have mf : rm H a f = none := rm_free hf0
  refine ⟨fun m σ H' => ∃ ml fs : List Str, m = ml.length ∧ σ = [some (.ref a), some (.ref r), some (.ref l), some (.ref f)] ∧ DrawsAt H' a ∧ Same (rm H a) (rm H' a) ∧ H' l = some (.lst (ml.map V.str)) ∧ H' f = some (.lst (fs.map V.str)) ∧ (fs ++ ml).Perm ss, ⟨_, ss, [], rfl, rfl, (hd.up ((Same.up hl).trans (Same.up hf))), Same.rm ((Same.up hl).trans (Same.up hf)), by rw [upd_ne nlf.symm, upd_same], upd_same, List.Perm.refl _⟩, ?_⟩
  rintro m σ H1 ⟨ml1, fs, rfl, rfl, d1, s1, hl1, hf1, pm⟩
  have sub1 : ∀ s ∈ ml1, s ∈ names4 := fun s m => sub s (pm.mem_iff.mp (List.mem_append_right _ m))
  have len1 : fs.length + ml1.length = ss.length := by rw [← pm.length_eq, List.length_append]
  refine ⟨_, rfl, lineN (n := 0), fun e0 he0 => ?_⟩
  have sE := Same.up (H := H1) (o := .lst []) he0
  refine ⟨.list (ml1.map PyData.str), .list [], .lst (SqL.of (sE _ _ hl1)) (shp_names sub1).1, .lst (SqL.of upd_same) .nil, shaped_names sub1, by decide +kernel, ?_⟩
  have nea : e0 ≠ a := fun z => d1.some (by rw [← z]; exact he0)
  cases ml1 with
  | nil =>
    refine ⟨false, rfl, iteF ⟨_, rfl, ?_⟩⟩
    have nf : e0 ≠ f := fun z => by rw [z, hf1] at he0; cases he0
    rw [List.append_nil] at pm
    exact q f _ fs (d1.up sE) (s1.trans (Same.rm sE)) mf (by rw [rm_ne nfa]; exact sE _ _ hf1) pm
  | cons y0 r0 =>
    have ne : PyData.eqv (.list ((y0 :: r0).map PyData.str)) (.list []) = false := eqv_ne
    generalize hml : y0 :: r0 = ml1 at *
    have pos : 1 ≤ ml1.length := by rw [← hml]; simp
    clear hml
    rw [ne]
    refine ⟨true, rfl, iteT ⟨fun σ' H' => ∃ m', m' < ml1.length ∧ ∃ ml fs : List Str, m' = ml.length ∧ σ' = [some (.ref a), some (.ref r), some (.ref l), some (.ref f)] ∧ DrawsAt H' a ∧ Same (rm H a) (rm H' a) ∧ H' l = some (.lst (ml.map V.str)) ∧ H' f = some (.lst (fs.map V.str)) ∧ (fs ++ ml).Perm ss, fun σ' H' h => h, ?_⟩⟩
    have nel : e0 ≠ l := fun z => by rw [z, hl1] at he0; cases he0
    have nef : e0 ≠ f := fun z => by rw [z, hf1] at he0; cases he0
    have hl2 := sE _ _ hl1
    have hf2 := sE _ _ hf1
    have d2 := d1.up sE
    have s2 := s1.trans (Same.rm sE)
    have le1 : ml1.length ≤ 4 := by omega
    refine ⟨_, rfl, .inl ⟨rfl, _, SqL.of hf2⟩, _, rfl, .inl ⟨rfl, _, SqL.of hl2⟩, _, rfl, _, rfl, l, _, rfl, .inl (SqL.of hl2), a, _, rfl, d2, (by rw [List.length_map]; omega), (by rw [List.length_map]; omega), fun k o q0 q1 ho => ?_⟩
    rw [List.length_map] at q1
    have hl3 : (upd (upd H1 e0 (.lst [])) a o) l = _ := (upd_ne nla).trans hl2
    have hf3 : (upd (upd H1 e0 (.lst [])) a o) f = _ := (upd_ne nfa).trans hf2
    have lt : k.toNat < ml1.length := by omega
    obtain ⟨y, hy⟩ : ∃ y, ml1[k.toNat]? = some y := ⟨_, List.getElem?_eq_getElem lt⟩
    have pm1 := erase_perm hy
    refine ⟨l, _, k, k.toNat, .str y, rfl, rfl, hl3, by omega, by omega, PySem.StrLaws.seqIndex_nonneg q0 (by rw [List.length_map]; omega), (by rw [List.getElem?_map, hy]; rfl), f, fs.map V.str, _, rfl, rfl, (upd_ne nlf).trans hf3, sz (m := 60) (by rw [List.length_map]; omega), ?_⟩
    refine ⟨(ml1.eraseIdx k.toNat).length, by rw [List.length_eraseIdx_of_lt lt]; omega, ml1.eraseIdx k.toNat, fs ++ [y], rfl, rfl, ?_, ?_, (upd_ne nlf.symm).trans (upd_same.trans (by rw [erase_map])), by rw [upd_same, List.map_append]; rfl, ?_⟩
    · exact ⟨o, (upd_ne nfa.symm).trans ((upd_ne nla.symm).trans upd_same), ho⟩
    · intro b x e
      have nb : b ≠ a := fun z => by rw [z, rm_at] at e; cases e
      rw [rm_ne nb, upd_ne (ne_of_none e mf), upd_ne (ne_of_none e ml), upd_ne nb]
      have := s2 _ _ e
      rwa [rm_ne nb] at this
    · rw [List.append_assoc]
      exact (List.Perm.append_left fs pm1.symm).trans pm
end
end K00

set_option Elab.async false
set_option linter.all false
set_option maxRecDepth 100000
set_option maxHeartbeats 4000000
namespace K00
open PySem PySem.Spec PyProof.Rows L2 Sr
/-! ### ranks that are unlike, as data -/
theorem merge_nodup : ∀ {more acc : List (Key × V)}, ((acc ++ more).map (·.1)).Nodup → mergeK acc more = acc ++ more
  | [], acc, _ => by rw [List.append_nil]; rfl
  | p :: r, acc, h => by
    have nm : p.1 ∉ acc.map (·.1) := fun m => by
      rw [List.map_append, List.map_cons] at h
      exact (List.nodup_append.mp h).2.2 _ m _ List.mem_cons_self rfl
    have h2 : ((acc ++ [p] ++ r).map (·.1)).Nodup := by simpa using h
    have ih := merge_nodup h2
    show mergeK (L2.putK acc p.1 p.2) r = _
    rw [Sr.putK_new nm]
    rw [ih, List.append_assoc]
    rfl
theorem wd_by {rs : List Rk} {y : Str} : ∀ {ys : List Str}, y ∈ ys → wd (byName rs ys) y = wd rs y
  | s :: r, m => by
    show ((List.lookup y ((s, wd rs s) :: byName rs r)).getD []) = _
    rw [List.lookup_cons]
    by_cases c : y = s
    · subst c
      rw [beq_self_eq_true]
      rfl
    · have ne : (y == s) = false := beq_eq_false_iff_ne.mpr c
      rw [ne]
      exact wd_by ((List.mem_cons.mp m).resolve_left c)
/-- offices of these are never the same, whatever the order in which they keep them -/
def differs (rs rs' : List Rk) : Prop := ∀ ys ys' : List Str, ys.Perm (rs.map (·.1)) → ys'.Perm (rs'.map (·.1)) → sameR (byName rs' ys') (byName rs ys) = false
theorem by_len {rs : List Rk} {ys : List Str} : (byName rs ys).length = ys.length := by unfold byName; rw [List.length_map]
theorem differs_len {rs rs' : List Rk} (h : rs.length ≠ rs'.length) : differs rs rs' := fun ys ys' p p' => by
  unfold sameR
  rw [by_len, by_len, p.length_eq, p'.length_eq, List.length_map, List.length_map]
  have e : (rs'.length == rs.length) = false := beq_eq_false_iff_ne.mpr fun z => h z.symm
  rw [e]
  rfl
theorem differs_word {rs rs' : List Rk} {y : Str} (m : y ∈ rs.map (·.1)) (m' : y ∈ rs'.map (·.1)) (h : wd rs' y ≠ wd rs y) : differs rs rs' := fun ys ys' p p' => by
  have i := p.mem_iff.mpr m
  have i' := p'.mem_iff.mpr m'
  unfold sameR
  rw [Bool.and_eq_false_iff]
  refine .inr (List.all_eq_false.mpr ⟨(y, wd rs' y), List.mem_map.mpr ⟨y, i', rfl⟩, ?_⟩)
  show ¬ (decide (y ∈ (byName rs ys).map (·.1)) && decide (wd (byName rs' ys') y = wd (byName rs ys) y)) = true
  rw [wd_by i, wd_by i', decide_eq_false h, Bool.and_false]
  decide
/-- the same ranks are the same -/
theorem same_self {rs rs' : List Rk} {ys : List Str} (n : (rs.map (·.1)).Nodup) (e : ∀ y ∈ ys, wd rs' y = wd rs y) : sameR (byName rs' ys) (byName rs ys) = true := by
  unfold sameR
  rw [by_len, by_len, beq_self_eq_true, Bool.true_and]
  refine List.all_eq_true.mpr fun p m => ?_
  obtain ⟨y, my, rfl⟩ := List.mem_map.mp m
  show (decide (y ∈ (byName rs ys).map (·.1)) && decide (wd (byName rs' ys) y = wd (byName rs ys) y)) = true
  rw [names_by, decide_eq_true my, wd_by my, wd_by my, e y my, decide_eq_true rfl]
  rfl
/-- a kind's words otherwise -/
def otherW (ws : List Str) : List Str := if 1 < ws.length then ws.reverse else ws ++ ([Str.ofString "few"] : List Str)
theorem menu_other : ∀ ws ∈ menuW, ((∀ x ∈ otherW ws, x ∈ words) ∧ (met (otherW ws) (otherW ws).length).length = (otherW ws).length ∧ (otherW ws).length ≤ 60) ∧ otherW ws ≠ ws := by decide +kernel
def setW (rs : List Rk) (y : Str) (ws : List Str) : List Rk := rs.map fun p => if p.1 = y then (p.1, ws) else p
theorem setW_names {rs : List Rk} {y : Str} {ws : List Str} : (setW rs y ws).map (·.1) = rs.map (·.1) := by
  unfold setW
  rw [List.map_map]
  refine List.map_congr_left fun p _ => ?_
  show (if p.1 = y then (p.1, ws) else p).1 = p.1
  split <;> rfl
theorem setW_wd {rs : List Rk} {y : Str} {ws : List Str} (nd : (rs.map (·.1)).Nodup) (m : y ∈ rs.map (·.1)) : wd (setW rs y ws) y = ws := by
  obtain ⟨p, mp, e⟩ := List.mem_map.mp m
  have e' : y = p.1 := e.symm
  subst e'
  have q : (p.1, ws) ∈ setW rs p.1 ws := List.mem_map.mpr ⟨p, mp, by rw [if_pos rfl]⟩
  exact wd_at (p := (p.1, ws)) (by rw [setW_names]; exact nd) q
theorem setW_good {rs : List Rk} {y : Str} {ws : List Str} (g : goodR rs) (h : rankG ws) : goodR (setW rs y ws) := by
  refine ⟨fun p m => ?_, by rw [setW_names]; exact g.2.1, by unfold setW; rw [List.length_map]; exact g.2.2⟩
  obtain ⟨q, mq, rfl⟩ := List.mem_map.mp m
  have := g.1 q mq
  by_cases c : q.1 = y
  · rw [if_pos c]
    exact ⟨this.1, h⟩
  · rw [if_neg c]
    exact this
theorem setW_ent {Rv Rv' : V → List Str → Prop} {y : Str} {ws : List Str} {v : V} (imp : ∀ u w, Rv u w → Rv' u w) (hv : Rv' v ws) : ∀ {kvs : List (Key × V)} {rs : List Rk}, EntR Rv kvs rs →
    EntR Rv' (kvs.map fun kv => if kv.1 = Sum.inr y then (kv.1, v) else kv) (setW rs y ws)
  | _, _, .nil => .nil
  | _, _, .cons (a := kv) (b := p) h r => by
    refine .cons ?_ (setW_ent imp hv r)
    dsimp only
    by_cases c : p.1 = y
    · rw [if_pos c, if_pos (by rw [h.1, c])]
      exact ⟨h.1, hv⟩
    · rw [if_neg c, if_neg (by rw [h.1]; exact fun z => c (Sum.inr.inj z))]
      exact ⟨h.1, imp _ _ h.2⟩
theorem put_there {kvs : List (Key × V)} {k : Key} {v : V} (h : k ∈ kvs.map (·.1)) : L2.putK kvs k v = kvs.map fun kv => if kv.1 = k then (kv.1, v) else kv := by
  obtain ⟨p, m, e⟩ := List.mem_map.mp h
  unfold L2.putK
  rw [if_pos (List.any_eq_true.mpr ⟨p, m, decide_eq_true e⟩)]
/-- pairs that were laid -/
theorem pairs_ent {K : PySem.W.Frag} {H : Hp} {Rv : V → List Str → Prop} {kvs : List (Key × V)} {rs : List Rk} {ts : List Addr} (hp : Paired (fun (t : Addr) (q : Key × V) => H t = some (.tup [kV q.1, q.2])) ts kvs) : Paired (fun p kv => SqT K H p [kV kv.1, kv.2]) ts kvs := L2.Paired.mapP hp fun t q h => SqT.of h
theorem EntR.app {Rv : V → List Str → Prop} : ∀ {k k' : List (Key × V)} {r r' : List Rk}, EntR Rv k r → EntR Rv k' r' → EntR Rv (k ++ k') (r ++ r')
  | _, _, _, _, .nil, h => h
  | _, _, _, _, .cons a b, h => .cons a (EntR.app b h)
theorem EntR.keysN {Rv : V → List Str → Prop} : ∀ {k : List (Key × V)} {r : List Rk}, EntR Rv k r → k.map (·.1) = r.map fun p => (Sum.inr p.1 : Key)
  | _, _, .nil => rfl
  | _, _, .cons a b => by rw [List.map_cons, List.map_cons, a.1, EntR.keysN b]
theorem keys_nodup {Rv : V → List Str → Prop} {k : List (Key × V)} {r : List Rk} (h : EntR Rv k r) (nd : (r.map (·.1)).Nodup) : (k.map (·.1)).Nodup := by
  rw [h.keysN, show (r.map fun p => (Sum.inr p.1 : Key)) = (r.map (·.1)).map Sum.inr by rw [List.map_map]; rfl]
  exact List.pairwise_map.mpr (nd.imp fun h z => h (Sum.inr.inj z))
theorem merge_ent {Rv : V → List Str → Prop} {k : List (Key × V)} {r : List Rk} (h : EntR Rv k r) (nd : (r.map (·.1)).Nodup) : mergeK [] k = k := by
  rw [merge_nodup (by rw [List.nil_append]; exact keys_nodup h nd)]
  rfl
theorem good_more {rs : List Rk} (h : drawnR rs) : goodR (rs ++ ([(Str.ofString "zz", [])] : List Rk)) := by
  have g := h.good
  refine ⟨fun p m => ?_, ?_, by rw [List.length_append]; have := h.2.1; show rs.length + 1 ≤ 60; omega⟩
  · rcases List.mem_append.mp m with m | m
    · exact g.1 p m
    · rw [List.mem_singleton.mp m]
      refine ⟨by decide +kernel, ?_⟩
      show rankG []
      exact ⟨fun x m => (by cases m), by decide, by decide⟩
  · rw [List.map_append]
    refine List.nodup_append.mpr ⟨h.1, by simp, fun a ma b mb e => ?_⟩
    have eb : b = "zz" := by simpa using mb
    obtain ⟨p, mp, ep⟩ := List.mem_map.mp ma
    have n4 := (h.2.2.2 p mp).1
    rw [ep, e, eb] at n4
    exact absurd n4 (by decide +kernel)
theorem good_by {rs : List Rk} {ys : List Str} (g : goodR rs) (sub : ∀ y ∈ ys, y ∈ rs.map (·.1)) (nd : ys.Nodup) (le : ys.length ≤ 60) : goodR (byName rs ys) := by
  refine ⟨fun p m => ?_, by rw [names_by]; exact nd, by rw [by_len]; exact le⟩
  obtain ⟨y, my, rfl⟩ := List.mem_map.mp m
  obtain ⟨q, mq, e⟩ := List.mem_map.mp (sub y my)
  have e' : y = q.1 := e.symm
  subst e'
  have := g.1 q mq
  refine ⟨this.1, ?_⟩
  show rankG (wd rs q.1)
  rw [wd_at g.2.1 mq]
  exact this.2
end K00

set_option Elab.async false
set_option linter.all false
set_option maxRecDepth 100000
set_option maxHeartbeats 4000000
namespace Sr
open PySem PySem.Spec PyProof.Rows L2
/-! ### t[::-1] of a tuple -/
theorem places_back (n : Nat) : Builtin.Slice.slicePlaces ((n : Int) - 1) (-1) (-1) = n := by
  unfold Builtin.Slice.slicePlaces
  by_cases h : n = 0
  · subst h
    simp
  · rw [if_neg (by decide), if_pos (by omega), show (- (-1) : Int) = 1 by decide, Int.ediv_one]
    omega
theorem fm_congr {α β : Type} {f g : α → Option β} : ∀ {l : List α}, (∀ x ∈ l, f x = g x) → l.filterMap f = l.filterMap g
  | [], _ => rfl
  | x :: r, h => by
    rw [List.filterMap_cons, List.filterMap_cons, h x List.mem_cons_self, fm_congr fun y m => h y (List.mem_cons_of_mem _ m)]
theorem pick_back (xs : Array Value) : ((List.range xs.size).filterMap fun (m : Nat) => xs[(((xs.size : Nat) : Int) - 1 + (m : Int) * (-1)).toNat]?).toArray = xs.toList.reverse.toArray := by
  have e : ∀ m ∈ List.range xs.size, xs[(((xs.size : Nat) : Int) - 1 + (m : Int) * (-1)).toNat]? = ((fun i => xs[i]?) ∘ fun m => xs.size - 1 - m) m := fun m hm => by
    have := List.mem_range.mp hm
    have z : (((xs.size : Nat) : Int) - 1 + (m : Int) * (-1)).toNat = xs.size - 1 - m := by omega
    rw [z]
    rfl
  rw [fm_congr e, ← List.filterMap_map, PySem.W.krv_range, List.filterMap_reverse, PySem.W.krv_all]
section
variable {prog : Program} {w : World} {A : Around} {E : Value → Shared → Prop} {s : Shared}
theorem applied_back {sl : Addr} {vs : Value} {n : Nat} {Q : Int × Int × Nat → Shared → Prop} (hs : s.heap.IsSliceOf sl .none .none vs) (ps : IsPart vs (some (-1)))
    (h : Q ((n : Int) - 1, -1, n) s) : wpAny (model prog w) A (Builtin.Slice.sliceApplied (.ref sl) (pure (n : Int))) Q E s := by
  obtain ⟨os, hos, hcs, hds⟩ := id hs
  unfold Builtin.Slice.sliceApplied Builtin.Slice.sliceFields
  refine wpAny_bind (wpAny_bind (wpAny_field hos hds (x := .none) rfl (wpAny_bind (wpAny_field hos hds (x := .none) rfl (wpAny_bind (wpAny_field hos hds (x := vs) rfl (wpAny_pure ?_)))))))
  refine wpAny_bind (HT.slicePart_ ps ?_)
  show wpAny _ _ (if ((-1 : Int) == 0) = true then _ else _) _ _ s
  rw [if_neg (by decide)]
  refine wpAny_bind (HT.slicePart_ .none (wpAny_bind (HT.slicePart_ .none (wpAny_bind (wpAny_pure ?_)))))
  show wpAny _ _ (pure ((n : Int) - 1, (-1 : Int), Builtin.Slice.slicePlaces ((n : Int) - 1) (-1) (-1))) _ _ s
  rw [places_back]
  exact wpAny_pure h
theorem getItem_back {t sl : Addr} {items : Array Value} {vs : Value} {Q : Value → Shared → Prop} (ht : IsTup s.heap t items) (hs : s.heap.IsSliceOf sl .none .none vs) (ps : IsPart vs (some (-1)))
    (h : Q (.ref s.heap.objs.size) { s with heap := s.heap.push { cls := .type "tuple", data := .seq items.toList.reverse.toArray } }) (hsz : items.size ≤ sizeLine) : wpAny (model prog w) A (getItem (.ref t) (.ref sl)) Q E s := by
  have ok : sizeOk (.seq items.toList.reverse.toArray) := by
    show items.toList.reverse.toArray.size ≤ sizeLine
    rw [List.size_toArray, List.length_reverse, Array.length_toList]
    exact hsz
  obtain ⟨os, hos, hcs, hds⟩ := id hs
  have ty : s.TypeIs (.ref sl) "slice" := ⟨os, hos, hcs⟩
  unfold getItem
  try with_reducible refine wpAny_holding ?_
  refine wpAny_bind (wpAny_sequenceKey ht.typeIs (by decide) ?_)
  refine wpAny_bind (wpAny_callSpecial?_slot (name := Str.ofString "__getitem__") ht.typeIs PyProof.Rows.slot_tuple_getitem (wpAny_call_entry PyProof.Rows.slot_tuple_getitem ht.typeIs entry_tuple_getitem ?_ (args_tuple_getitem _ _)))
  show wpAny _ _ (Builtin.Tuple.tupleItemsOf (.ref t) >>= _) _ _ s
  refine wpAny_bind (tupleItemsOf_ ht (wpAny_bind (wpAny_typeOf ty ?_)))
  rw [if_pos (by decide)]
  refine wpAny_bind (applied_back hs ps ?_)
  have no : ¬ (((((items.size : Nat) : Int) - 1) == 0 && (-1 : Int) == 1 && items.size == items.size) = true) := by simp
  show wpAny _ _ (if ((((items.size : Nat) : Int) - 1) == 0 && (-1 : Int) == 1 && items.size == items.size) = true then _ else _) _ _ s
  rw [if_neg no, pick_back]
  first
    | exact wpAny_bind (m := Builtin.Tuple.tupleExact _) (wpAny_newObj_type (wpAny_pure ⟨_, rfl, wpAny_pure h⟩) ok)
    | exact wpAny_bind (wpAny_bind (m := Builtin.Tuple.tupleExact _) (wpAny_newObj_type (wpAny_pure ⟨_, rfl, wpAny_pure h⟩) ok))
    | exact wpAny_bind (wpAny_bind (m := Builtin.Tuple.tupleExact _) (wpAny_newObj_type (wpAny_pure (wpAny_pure ⟨_, rfl, wpAny_pure h⟩)) ok))
    | exact wpAny_bind (m := Builtin.Tuple.tupleExact _) (wpAny_newObj_type (wpAny_bind (wpAny_pure (wpAny_pure ⟨_, rfl, wpAny_pure h⟩))) ok)
end
def tRevT (K : PySem.W.Frag) (te : TE) : TE := fun σ H Q => te σ H fun x H1 => ∃ a xs, x = .ref a ∧ SqT K H1 a xs ∧ ∀ p, H1 p = none → Q (.ref p) (upd H1 p (.tup xs.reverse))
theorem pe_revT {X : Cx} {e : Expr} {te : TE} {k : Nat} {p1 p2 p3 pos : Pos} (he : PE X e te) : PE X (.Subscript e (.Slice none none (some (.UnaryOp .USub (.Constant (.int 1) k p1) p2)) p3) pos) (tRevT X.K te) := by
  refine ⟨fun pins s σ H Q I h => ?_⟩
  refine Subscript_ (thn (he.run pins s σ H _ I h) fun v s1 ⟨x, H1, I1, r1, a, xs, ex, hx, q⟩ => ?_)
  subst ex
  cases r1
  have st : PO X (some (.UnaryOp .USub (.Constant (.int 1) k p1) p2)) (tPart (tUn (rU fun i => .int (-i)) (tC (.int 1)))) := po_some (pe_un un_neg pe_int)
  refine wpAny_Slice (thn (po_none.run pins s1 σ H1 (fun o G => o = none ∧ G = H1) I1 ⟨rfl, rfl⟩) fun vl s2 ⟨l, H2, I2, pl, el, e2⟩ => ?_)
  subst el e2
  refine thn (po_none.run pins s2 σ H2 (fun o G => o = none ∧ G = H2) I2 ⟨rfl, rfl⟩) fun vu s3 ⟨u, H3, I3, pu, eu, e3⟩ => ?_
  subst eu e3
  refine thn (st.run pins s3 σ H3 (fun o G => o = some (-1) ∧ G = H3) I3 ⟨1, rfl, -1, rfl, rfl, rfl⟩) fun vs s4 ⟨o, H4, I4, ps, eo, e4⟩ => ?_
  subst eo e4
  cases pl
  cases pu
  have I5 : Inv X pins σ H4 { s4 with heap := s4.heap.push { cls := .type "slice", data := .fields #[.none, .none, vs] } } := I4.kept (t' := s4.toks) fun b ob q => Heap.get?_push_of_some _ q
  obtain ⟨its, r, ht, hz⟩ := I5.tuple hx
  have hlen := r.length
  show wpAny (model X.prog X.w) X.A (subscriptTail e (.Slice none none (some (.UnaryOp .USub (.Constant (.int 1) k p1) p2)) p3) (.ref a) (.ref s4.heap.objs.size)) (EP X pins σ Q) X.xe { s4 with heap := s4.heap.push { cls := .type "slice", data := .fields #[.none, .none, vs] } }
  refine tail_any (ops := [.ref a, .ref s4.heap.objs.size]) ht.typeIs (PyProof.Rows.slot_tuple_getitem.lookup) ?_ (by with_unfolding_all rfl)
  refine getItem_back ht (Heap.IsSliceOf.new _ .none .none vs) ps ?_ (by rw [List.size_toArray]; omega)
  exact ⟨.ref _, _, I5.laid (t' := s4.toks) (o := .tup xs.reverse) (fun b ob q => Heap.get?_push_of_some _ q) (Nat.le_refl _) ⟨by rw [List.length_reverse]; exact hz, _, r.reverse, IsTup.new _ _⟩, rfl, q _ (I5.hok.fresh (Nat.le_refl _))⟩
end Sr

set_option Elab.async false
set_option linter.all false
set_option maxRecDepth 100000
set_option maxHeartbeats 4000000
namespace K00
open PySem PySem.Spec PyProof.Rows L2 Sr
def OthAt (H : Hp) (rs : List Rk) (ds : List Addr) : Prop := ∀ d ∈ ds, ∃ rs', RanksR H d rs' ∧ goodR rs' ∧ differs rs rs'
theorem OthAt.mono {H H' : Hp} (e : Same H H') {rs : List Rk} {ds : List Addr} (h : OthAt H rs ds) : OthAt H' rs ds := fun d m =>
  let ⟨r, a, b⟩ := h d m
  ⟨r, a.mono e, b⟩
theorem OthAt.snoc {H : Hp} {rs : List Rk} {ds : List Addr} {d : Addr} {rs' : List Rk} (h : OthAt H rs ds) (a : RanksR H d rs') (b : goodR rs') (c : differs rs rs') : OthAt H rs (ds ++ [d]) := fun x m => by
  rcases List.mem_append.mp m with m | m
  · exact h x m
  · rw [List.mem_singleton.mp m]
    exact ⟨rs', a, b, c⟩
/-- pairs of a name and its words, as they are laid one by one -/
def PairV (rs : List Rk) (H : Hp) (y : Str) (v : V) : Prop := ∃ t u, v = .ref t ∧ H t = some (.tup [.str y, u]) ∧ TupV H u (wd rs y)
theorem PairV.mono {rs : List Rk} {H H' : Hp} (e : Same H H') {y : Str} {v : V} (h : PairV rs H y v) : PairV rs H' y v := by
  obtain ⟨t, u, h1, h2, h3⟩ := h
  exact ⟨t, u, h1, e _ _ h2, h3.mono e⟩
theorem PairV.lay {rs : List Rk} {H : Hp} {D : Addr} {c c' : List V} (hD : H D = some (.lst c)) {y : Str} {v : V} (h : PairV rs H y v) : PairV rs (upd H D (.lst c')) y v := by
  obtain ⟨t, u, h1, h2, t2, h3, h4⟩ := h
  exact ⟨t, u, h1, by rw [upd_ne (ne_of h2 hD (by intro z; cases z))]; exact h2, t2, h3, by rw [upd_ne (ne_of h4 hD (by intro z; cases z))]; exact h4⟩
theorem pairs_of {K : PySem.W.Frag} {rs : List Rk} {H : Hp} : ∀ {acc : List V} {ys : List Str}, Paired (fun v y => PairV rs H y v) acc ys →
    ∃ (ts : List Addr) (kvs : List (Key × V)), acc = ts.map V.ref ∧ Paired (fun p kv => SqT K H p [kV kv.1, kv.2]) ts kvs ∧ EntR (TupV H) kvs (byName rs ys) ∧ ts.length = ys.length
  | _, _, .nil => ⟨[], [], rfl, .nil, .nil, rfl⟩
  | _, _, .cons (b := y) h r => by
    obtain ⟨ts, kvs, e, p, en, l⟩ := pairs_of (K := K) r
    obtain ⟨t, u, h1, h2, h3⟩ := h
    exact ⟨t :: ts, (Sum.inr y, u) :: kvs, by rw [h1, e]; rfl, .cons (SqT.of h2) p, .cons ⟨rfl, h3⟩ en, by rw [List.length_cons, List.length_cons, l]⟩
def spOthers : Sp := fun vs H Q _ => ∃ r rs, vs = [.ref r] ∧ RanksR H r rs ∧ drawnR rs ∧
  ∀ (l : Addr) (ds : List Addr) (H' : Hp), Same H H' → H' l = some (.lst (ds.map V.ref)) → ds.length ≤ 6 → OthAt H' rs ds → Q (.ref l) H'
section
variable {P : Program} {w : World} {K : PySem.W.Frag} {mg : Str → Option Value} {base : Heap}
abbrev s__law_others : Stmt := top 21
theorem sc__law_others : FnScope ["ranks", "kind", "kinds", "found", "other"] ["ranks"] (defScope s__law_others) := ⟨rfl, rfl, rfl, by decide +kernel, rfl, by decide +kernel, by decide +kernel⟩
theorem c__law_others (T : Txt K mg) (D : Dfn K mg "_law_others" s__law_others) : Cal P w K mg base 1 "_law_others" ["ranks"] spOthers := by
  refine D.cal sc__law_others (fun _ _ _ _ _ _ us hl => match us, hl with | [_], _ => rfl) (fun vs H Q E h => ?_) fun cdv A outer s H vs Q E hr h => ?_
  · obtain ⟨r, rs, rfl, _⟩ := h
    rfl
  obtain ⟨r, rs, rfl, ⟨kvs, hd, he⟩, dr, q⟩ := h
  have hn := he.ent dr.1
  have gd := dr.good
  have l4 := dr.2.1
  refine ⟨_, (pss_cons (ps_par (i := 2) (j := 3) (by rfl) sc__law_others.nd rfl rfl (by decide) rfl rfl (pa_cons (pe_callB (id := "sorted") (call_sortedD rfl) (by rfl) T.sorted (by decide +kernel) (pa_cons (pv 0) pa_nil)) (pa_cons (pe_lst (pa_cons (pe_callTy (T := "dict") (call_dictP rfl) (by rfl) T.dict (by decide +kernel) (pa_cons (pe_op op_cat (LiI.pe_listItems rfl (pv 0) (by rfl) T.list (by decide +kernel)) (pe_lst (pa_cons (pe_tup (pa_cons pe_str (pa_cons (pe_tup pa_nil) pa_nil))) pa_nil))) pa_nil)) pa_nil)) pa_nil)) (by rfl))
      (pss_cons (ps_expr (pe_bm PySem.F.plainAttrs_list PySem.F.slot_list_append PySem.F.type_list_append mt_append (pv 3) (pa_cons (pe_callTy (T := "dict") (call_dictP rfl) (by rfl) T.dict (by decide +kernel) (pa_cons (pe_lc (own := [("kind", 1)]) (g := gName 1) (tt := tYes) rfl sc__law_others.nd (pi_list (pe_slice sl_list (pv 2) (po_some pe_int) po_none)) (blkOk_by (N := ["ranks", "kind", "kinds", "found", "other"]) (sc := defScope s__law_others) (by decide +kernel)) (fun _ _ _ _ _ => (pg_name (i := 1) sc__law_others.nd rfl (by first | exact Or.inl rfl | exact Or.inr rfl))) (fun _ _ _ _ _ => pts_nil) (fun _ _ _ _ _ => (pe_tup (pa_cons (pv 1) (pa_cons (pe_dget (hu_of hr) (pv 0) (pv 1) (fun _ _ => rfl)) pa_nil))))) pa_nil)) pa_nil)))
      (pss_cons (ps_for PassesOwn.never rfl (pi_list (pv 2)) (pg_name (i := 1) sc__law_others.nd rfl (by first | exact Or.inl rfl | exact Or.inr rfl))
      (pss_cons (ps_set (i := 4) sc__law_others.nd rfl (by first | exact Or.inl rfl | exact Or.inr rfl) (pe_callTy (T := "dict") call_dictD (by rfl) T.dict (by decide +kernel) (pa_cons (pv 0) pa_nil)))
      (pss_cons (ps_dput (hu_of hr) (pv 4) (pv 1) (pe_ifExp (pt_cmpR op_gt (pe_callB (id := "len") call_len_seq (by rfl) T.len (by decide +kernel) (pa_cons (pe_dget (hu_of hr) (pv 0) (pv 1) (fun _ _ => rfl)) pa_nil)) pe_int (nomark _)) (pe_revT (pe_dget (hu_of hr) (pv 0) (pv 1) (fun _ _ => rfl))) (pe_op op_catA (pe_dget (hu_of hr) (pv 0) (pv 1) (fun _ _ => rfl)) (pe_tup (pa_cons pe_str pa_nil)))) rfl)
      (pss_one (ps_expr (pe_bm PySem.F.plainAttrs_list PySem.F.slot_list_append PySem.F.type_list_append mt_append (pv 3) (pa_cons (pv 4) pa_nil)))))))
      (pss_one (ps_ret (pv 3)))))), ?_⟩
  dsimp only
  refine cut_if (fun σ H' => ∃ (yl l d0 : Addr) (ys : List Str), σ = [some (.ref r), none, some (.ref yl), some (.ref l), none] ∧ Same H (rm H' l) ∧ H l = none ∧ (rm H' l) yl = some (.lst (ys.map V.str)) ∧ ys.Perm (rs.map (·.1)) ∧ H' l = some (.lst [.ref d0]) ∧ OthAt (rm H' l) rs [d0]) ?_ fun rest => ?_
  rotate_left
  · refine ⟨_, rfl, r, kvs, rs.map (·.1), rfl, .inl hd, hn.keys, by rw [List.length_map]; omega, fun ys yl perm srt hyl => ?_⟩
    have sy := Same.up (H := H) (o := .lst (ys.map V.str)) hyl
    refine ⟨_, rfl, r, kvs, rfl, sy _ _ hd, fun H1 p ts s1 np nt pn hp1 pr => ?_⟩
    have s1 : Same _ H1 := s1
    refine ⟨lineN (n := 0), fun t0 h0 => ⟨lineN (n := 2), fun t1 h1 => ⟨lineN (n := 1), fun p1 h2 => ?_⟩⟩⟩
    have s2 := Same.up (H := H1) (o := .tup []) h0
    have s3 := Same.up (o := .tup [.str "zz", .ref t0]) h1
    have s4 := Same.up (o := .lst [.ref t1]) h2
    have lt : ts.length = rs.length := by rw [Paired.length pr, hn.len, List.length_map]
    refine ⟨p, p1, ts.map V.ref, [.ref t1], rfl, rfl, s4 _ _ (s3 _ _ (s2 _ _ hp1)), upd_same, lineN (by rw [List.length_map]; show ts.length + 1 ≤ 1000; omega), fun c hc => ?_⟩
    have s5 := Same.up (o := .lst (ts.map V.ref ++ [.ref t1])) hc
    have ez : TupV _ (.ref t0) [] := ⟨t0, rfl, (s3.trans (s4.trans s5)) _ _ upd_same⟩
    have e0 : EntR (TupV _) (kvs ++ [(Sum.inr (Str.ofString "zz"), V.ref t0)]) (rs ++ ([(Str.ofString "zz", [])] : List Rk)) := EntR.app (he.imp fun v ws h => h.mono (sy.trans (s1.trans (s2.trans (s3.trans (s4.trans s5)))))) (show EntR (TupV _) [(Sum.inr (Str.ofString "zz"), V.ref t0)] [(Str.ofString "zz", [])] from .cons ⟨rfl, ez⟩ .nil)
    have nd := (good_more dr).2.1
    refine ⟨c, ts ++ [t1], kvs ++ [(Sum.inr (Str.ofString "zz"), V.ref t0)], rfl, SqL.of (by rw [List.map_append]; exact upd_same), ?_, fun d0 h3 => ?_⟩
    · refine Paired.snoc ((L2.Paired.mapP pr fun t q h => SqT.of ((s2.trans (s3.trans (s4.trans s5))) _ _ h))) (SqT.of ((s4.trans s5) _ _ upd_same))
    rw [merge_ent e0 nd] at *
    have s6 := Same.up (o := .dK (kvs ++ [(Sum.inr (Str.ofString "zz"), V.ref t0)])) h3
    refine ⟨lineN (n := 1), fun l hl => ⟨_, _, rfl, ?_⟩⟩
    have sA := sy.trans (s1.trans (s2.trans (s3.trans (s4.trans (s5.trans s6)))))
    have e2 := rm_new (o := .lst [.ref d0]) hl
    refine rest _ _ ⟨yl, l, d0, ys, rfl, sA.trans e2, sA.free hl, e2 _ _ ((s1.trans (s2.trans (s3.trans (s4.trans (s5.trans s6))))) _ _ upd_same), perm, upd_same, fun d m => ?_⟩
    rw [List.mem_singleton.mp m]
    exact ⟨_, ⟨_, e2 _ _ upd_same, (e0.imp fun v ws h => h.mono (s6.trans e2))⟩, good_more dr, differs_len (by rw [List.length_append]; show rs.length ≠ rs.length + 1; omega)⟩
  rintro σ H1 ⟨yl, l, d0, ys, rfl, s1, nl, hy, perm, hl, oth⟩
  try dsimp only
  have ylen : ys.length = rs.length := by rw [perm.length_eq, List.length_map]
  have pos : 1 ≤ rs.length := by
    have := dr.2.2.1
    cases rs with
    | nil => exact absurd rfl this
    | cons => simp
  refine cut_if (fun σ H' => ∃ (d0 d1 : Addr), σ = [some (.ref r), none, some (.ref yl), some (.ref l), none] ∧ Same H (rm H' l) ∧ (rm H' l) yl = some (.lst (ys.map V.str)) ∧ H' l = some (.lst [.ref d0, .ref d1]) ∧ OthAt (rm H' l) rs [d0, d1]) ?_ fun rest => ?_
  rotate_left
  · have hy1 := rm_same _ _ hy
    have hdm : (rm H1 l) r = some (.dK kvs) := s1 _ _ hd
    have hd1 : H1 r = some (.dK kvs) := rm_same _ _ hdm
    have tup1 : ∀ {v : V} {ws : List Str}, TupV H v ws → TupV (rm H1 l) v ws := fun h => h.mono s1
    refine ⟨_, rfl, .inl ⟨rfl, _, SqL.of hl⟩, _, rfl, 1, rfl, yl, _, rfl, SqL.of hy1, fun p hp => ?_⟩
    have ec : cutV (ys.map V.str) (some 1) none = (ys.drop 1).map V.str := (cut_from (ys.map V.str) (k := 1) (by rw [List.length_map]; omega)).trans (by rw [List.map_drop])
    rw [ec]
    have dl : (ys.drop 1).length ≤ 60 := by rw [List.length_drop]; omega
    have sp := Same.up (H := H1) (o := .lst ((ys.drop 1).map V.str)) hp
    refine ⟨p, rfl, ⟨_, SqL.of upd_same⟩, fun D hD => lc_gen walk_list walk_at (ys.drop 1) (fun _ => true) (by rw [List.length_map]) (sz (m := 60) (by rw [List.length_map]; exact dl)) hD (fun H' s' => SqL.of (s' _ _ upd_same)) (fun H' y v => PairV rs H' y v)
      (fun _ _ _ _ e h => h.mono e) (fun _ _ _ _ _ e h => h.lay e) (fun i x y H2 A B hi hx hy2 s2 kA kB => ?_) (fun H2 acc s2 h2 pr => ?_)⟩
    · obtain rfl : x = .str y := by
        rw [List.getElem?_map, hy2] at hx
        exact (Option.some.inj hx).symm
      have my : y ∈ rs.map (·.1) := perm.mem_iff.mp (List.mem_of_mem_drop (List.mem_of_getElem? hy2))
      obtain ⟨u, eu, tu⟩ := hn.at_ my
      refine ⟨rfl, _, rfl, _, rfl, _, rfl, r, u, rfl, .inl ⟨kvs, Sum.inr y, .inl ((sp.trans s2) _ _ hd1), rfl, eu.symm⟩, lineN (n := 2), fun t ht => kA rfl _ _ (Same.up ht) ⟨t, u, rfl, upd_same, tu.mono (s1.trans (rm_same.trans (sp.trans (s2.trans (Same.up ht)))))⟩⟩
    · rw [List.filter_eq_self.mpr fun _ _ => rfl] at pr
      obtain ⟨ts, kv2, eacc, pp, en, tl⟩ := pairs_of (K := K) pr
      subst eacc
      have ynd : ys.Nodup := perm.nodup_iff.mpr dr.1
      have dnd : (ys.drop 1).Nodup := ynd.sublist (List.drop_sublist 1 ys)
      have nd2 : ((byName rs (ys.drop 1)).map (·.1)).Nodup := by rw [names_by]; exact dnd
      refine ⟨D, ts, kv2, rfl, SqL.of h2, pp, fun d1 h3 => ?_⟩
      rw [merge_ent en nd2]
      have s3 := Same.up (H := H2) (o := .dK kv2) h3
      have sA := sp.trans (s2.trans s3)
      refine ⟨l, [.ref d0], _, rfl, rfl, sA _ _ hl, sz (m := 60) (by show 1 ≤ 60; decide), ?_⟩
      have e1 : rm (upd (upd H2 d1 (.dK kv2)) l (.lst ([.ref d0] ++ [.ref d1]))) l = rm (upd H2 d1 (.dK kv2)) l := rm_upd
      have n1 : d1 ≠ l := fun z => by
        have := (sp.trans s2) _ _ hl
        rw [← z, h3] at this
        cases this
      refine rest _ _ ⟨d0, d1, rfl, ?_, ?_, upd_same, ?_⟩
      · rw [e1]
        exact s1.trans (Same.rm sA)
      · rw [e1]
        exact (Same.rm sA) _ _ hy
      · rw [e1]
        have hd1' : rm (upd H2 d1 (.dK kv2)) l d1 = some (.dK kv2) := by rw [rm_ne n1, upd_same]
        refine OthAt.snoc (ds := [d0]) (oth.mono (Same.rm sA)) ⟨kv2, hd1', en.imp fun v ws h => ?_⟩ (good_by gd (fun y m => perm.mem_iff.mp (List.mem_of_mem_drop m)) dnd dl) (differs_len (by rw [by_len, List.length_drop]; omega))
        obtain ⟨t, e, ht⟩ := h
        refine ⟨t, e, ?_⟩
        rw [rm_ne fun z => by rw [z, (sp.trans s2) _ _ hl] at ht; cases ht]
        exact s3 _ _ ht
  rintro σ H2 ⟨d0, d1, rfl, s1, hy, hl, oth⟩
  try dsimp only
  refine ⟨_, rfl, yl, rfl, ⟨_, SqL.of (rm_same _ _ hy)⟩, for_it walk_list (fun i σ H' => (∃ v1 v4, σ = [some (.ref r), v1, some (.ref yl), some (.ref l), v4]) ∧ Same H (rm H' l) ∧ (rm H' l) yl = some (.lst (ys.map V.str)) ∧ ∃ ds : List Addr, H' l = some (.lst (ds.map V.ref)) ∧ ds.length = i + 2 ∧ OthAt (rm H' l) rs ds)
    ⟨⟨_, _, rfl⟩, s1, hy, [d0, d1], hl, rfl, oth⟩ (fun i σ H' hi p => SqL.of (rm_same _ _ p.2.2.1)) ?_ ?_⟩
  · rintro i x σ H3 H4 hi ⟨⟨v1, v4, rfl⟩, s1, hy, ds, hl, dl, oth⟩ ⟨rfl, hx⟩
    obtain ⟨y, hy2, rfl⟩ : ∃ y, ys[i]? = some y ∧ x = .str y := by
      rw [List.getElem?_map] at hx
      obtain ⟨y, e1, e2⟩ := Option.map_eq_some_iff.mp hx
      exact ⟨y, e1, e2.symm⟩
    have my : y ∈ rs.map (·.1) := perm.mem_iff.mp (List.mem_of_getElem? hy2)
    obtain ⟨u, eu, t, rfl, ht⟩ := hn.at_ my
    have hdm := s1 _ _ hd
    have hd1 := rm_same _ _ hdm
    refine ⟨_, rfl, r, kvs, rfl, .inl hd1, fun d2 h2 => ?_⟩
    have hi' : i < ys.length := by rw [List.length_map] at hi; exact hi
    have s2 := Same.up (H := H4) (o := .dK kvs) h2
    have ht2 := s2 _ _ (rm_same _ _ (s1 _ _ ht))
    obtain ⟨p, mp, ep⟩ := List.mem_map.mp my
    have mw : wd rs y ∈ menuW := by
      have := (dr.2.2.2 p mp).2
      rw [← wd_at dr.1 mp, ep] at this
      exact this
    obtain ⟨og, one⟩ := menu_other _ mw
    have nlm : (rm H4 l) d2 = none := rm_free h2
    have nd2l : d2 ≠ l := fun z => by rw [z, hl] at h2; cases h2
    have after : ∀ (G : Hp) (t' : Addr), Same (upd H4 d2 (.dK kvs)) G → G t' = some (.tup ((otherW (wd rs y)).map V.str)) → G d2 = some (.dK kvs) ∧ (upd G d2 (.dK (L2.putK kvs (Sum.inr y) (.ref t')))) l = some (.lst (ds.map V.ref)) ∧
        Same H (rm (upd (upd G d2 (.dK (L2.putK kvs (Sum.inr y) (.ref t')))) l (.lst (ds.map V.ref ++ [.ref d2]))) l) ∧ (rm (upd (upd G d2 (.dK (L2.putK kvs (Sum.inr y) (.ref t')))) l (.lst (ds.map V.ref ++ [.ref d2]))) l) yl = some (.lst (ys.map V.str)) ∧
        OthAt (rm (upd (upd G d2 (.dK (L2.putK kvs (Sum.inr y) (.ref t')))) l (.lst (ds.map V.ref ++ [.ref d2]))) l) rs (ds ++ [d2]) := fun G t' sg ht' => by
      have sG : Same H4 (upd G d2 (.dK (L2.putK kvs (Sum.inr y) (.ref t')))) := fun b o e => by
        rw [upd_ne (ne_of_none e h2)]
        exact sg _ _ (s2 _ _ e)
      have sM := Same.rm (a := l) sG
      rw [rm_upd]
      refine ⟨sg _ _ upd_same, sG _ _ hl, s1.trans sM, sM _ _ hy, OthAt.snoc (oth.mono sM) (rs' := setW rs y (otherW (wd rs y))) ⟨_, (rm_ne nd2l).trans upd_same, ?_⟩ (setW_good gd og) (differs_word my (by rw [setW_names]; exact my) (by rw [setW_wd dr.1 my]; exact one))⟩
      have ek : L2.putK kvs (Sum.inr y) (V.ref t') = _ := put_there (by rw [hn.keys]; exact List.mem_map.mpr ⟨y, my, rfl⟩)
      have nt' : t' ≠ d2 := ne_of ht' (sg _ _ upd_same) (by intro z; cases z)
      have ntl : t' ≠ l := fun z => by
        rw [z, (s2.trans sg) _ _ hl] at ht'
        cases ht'
      have := setW_ent (y := y) (v := .ref t') (ws := otherW (wd rs y)) (Rv' := TupV (rm (upd G d2 (.dK (L2.putK kvs (Sum.inr y) (.ref t')))) l)) (fun u w h => TupV.mono (s1.trans sM) h) ⟨t', rfl, by rw [rm_ne ntl, upd_ne nt']; exact ht'⟩ he
      rwa [← ek] at this
    refine ⟨_, rfl, _, rfl, r, .ref t, rfl, .inl ⟨kvs, Sum.inr y, .inl (s2 _ _ hd1), rfl, eu.symm⟩, t, (wd rs y).map V.str, rfl, .inr (SqT.of ht2), _, _, rfl, rfl, _, rfl, ?_⟩
    by_cases c : 1 < (wd rs y).length
    · have eo : otherW (wd rs y) = (wd rs y).reverse := by unfold otherW; rw [if_pos c]
      rw [List.length_map, decide_eq_true (by omega)]
      refine iteT ⟨_, rfl, _, rfl, r, .ref t, rfl, .inl ⟨kvs, Sum.inr y, .inl (s2 _ _ hd1), rfl, eu.symm⟩, t, _, rfl, SqT.of ht2, fun t' ht' => ?_⟩
      obtain ⟨a1, a2, a3, a4, a5⟩ := after _ t' (Same.up ht') (by rw [upd_same, eo, List.map_reverse])
      exact ⟨_, rfl, _, rfl, d2, _, rfl, DPut.k (k := Sum.inr y) a1 (sz (m := 60) (by rw [hn.len, List.length_map]; omega)), _, rfl, .inl ⟨rfl, _, SqL.of a2⟩, _, rfl, l, ds.map V.ref, _, rfl, rfl, a2, sz (m := 60) (by rw [List.length_map]; omega), ⟨_, _, rfl⟩, a3, a4, ds ++ [d2], by rw [upd_same, List.map_append]; rfl, by rw [List.length_append]; show ds.length + 1 = _; omega, a5⟩
    · have eo : otherW (wd rs y) = wd rs y ++ ([Str.ofString "few"] : List Str) := by unfold otherW; rw [if_neg c]
      rw [List.length_map, decide_eq_false (by omega)]
      refine iteF ⟨_, rfl, _, rfl, r, .ref t, rfl, .inl ⟨kvs, Sum.inr y, .inl (s2 _ _ hd1), rfl, eu.symm⟩, lineN (n := 1), fun tf hf => ⟨t, tf, _, _, rfl, rfl, SqT.of ((Same.up hf) _ _ ht2), SqT.of upd_same, lineN (n := 60) |> fun _ => lineN (by rw [List.length_map]; show (wd rs y).length + 1 ≤ 1000; omega), fun e0 => ?_, fun _ e1 => (by cases e1), fun _ _ t' ht' => ?_⟩⟩
      · have ew : wd rs y = [] := List.map_eq_nil_iff.mp e0
        obtain ⟨a1, a2, a3, a4, a5⟩ := after _ tf (Same.up hf) (by rw [upd_same, eo, ew])
        exact ⟨_, rfl, _, rfl, d2, _, rfl, DPut.k (k := Sum.inr y) a1 (sz (m := 60) (by rw [hn.len, List.length_map]; omega)), _, rfl, .inl ⟨rfl, _, SqL.of a2⟩, _, rfl, l, ds.map V.ref, _, rfl, rfl, a2, sz (m := 60) (by rw [List.length_map]; omega), ⟨_, _, rfl⟩, a3, a4, ds ++ [d2], by rw [upd_same, List.map_append]; rfl, by rw [List.length_append]; show ds.length + 1 = _; omega, a5⟩
      · obtain ⟨a1, a2, a3, a4, a5⟩ := after _ t' ((Same.up hf).trans (Same.up ht')) (by rw [upd_same, eo, List.map_append])
        exact ⟨_, rfl, _, rfl, d2, _, rfl, DPut.k (k := Sum.inr y) a1 (sz (m := 60) (by rw [hn.len, List.length_map]; omega)), _, rfl, .inl ⟨rfl, _, SqL.of a2⟩, _, rfl, l, ds.map V.ref, _, rfl, rfl, a2, sz (m := 60) (by rw [List.length_map]; omega), ⟨_, _, rfl⟩, a3, a4, ds ++ [d2], by rw [upd_same, List.map_append]; rfl, by rw [List.length_append]; show ds.length + 1 = _; omega, a5⟩
  · rintro σ H3 ⟨⟨v1, v4, rfl⟩, s1, hy, ds, hl, dl, oth⟩
    rw [List.length_map] at dl
    exact ⟨_, rfl, q l ds H3 (s1.trans rm_same) hl (by omega) (oth.mono rm_same)⟩
end
end K00

set_option Elab.async false
set_option linter.all false
set_option maxRecDepth 100000
set_option maxHeartbeats 4000000
namespace Sr
open PySem PySem.Spec PyProof.Rows L2 LamX
/-- a lambda handed to a def, several tables about -/
theorem pe_lamT {X : Cx} (T : List (Addr × Str)) (qn : Str) {x a : Str} {st : Stmt} {Ng : List Str} {TT : (XK → Hp → VK → Prop) → Hp → VK → Prop} {k : Nat} {params : Arguments} {body : Expr} {scope : Scope} {t : XK → TE} {c P : Addr} {p lpos pos : Pos} (D : Dfn X.K X.mg x st) (Sg : FnScope Ng [a] (defScope st))
    (hb : ∀ (kV doc pm : Value) (an : Option Addr) (cdv ct : Value) (us : List Value), us.length = [a].length → bindArgs (PySem.W.fnOf x x (defArgs st) (defBody st) (defScope st) .none kV doc pm an cdv ct) ⟨us, []⟩ = pure ([a].zip us))
    (hmT : (P, qn ++ "<lambda>") ∈ T) (hu : ∀ p ∈ T, p.1 = P → p.2 = qn ++ "<lambda>")
    (hG : ∀ cdv : Value, GivesTo X Ng x (defScope st) (He.ga X.K x) cdv (defBody st) a (X.env.qual ++ "<lambda>") TT) (TB : TabB X.base X.mg c P) (hcode : X.env.code = .ref c) (hr : Room (k + 2) X.A)
    (hbody : ∀ (A : Around) (outer : List Env) (s : Shared) (H : Hp) (E : XK) (f c' : Addr), Room k (A.deeper (lamEnv X scope s.heap.objs.size f c')) → PE (lamCx X A outer s H E scope f c') body (t E))
    (hg : Gl X x) (L : LamS X.env.scope scope) (hbind : ∀ (q : Str) (cl : List (Str × Addr)) (pm cv ctv : Value), bindArgs (PySem.W.kla_fn "<lambda>" q params body scope cl pm cv ctv) ⟨[], []⟩ = pure [])
    (hqn : X.env.qual = qn := by rfl) (hdef : defaultsOf params X.env = ([], []) := by rfl) (hNg : Ng[0]? = some a := by rfl) (hva : Vis (defScope st) a := by first | exact Or.inl rfl | exact Or.inr (Or.inl rfl))
    (hdb : (x == ("__debug__" : Str)) = false := by decide) (hd : (a == ("__debug__" : Str)) = false := by decide) (hcd : (a == ("__classdict__" : Str)) = false := by decide) :
    PE X (.Call (.Name x p) [.Lambda params body scope lpos] [] pos) (tLam T TT t) := by
  subst hqn
  obtain ⟨fd, F⟩ := D.fn
  have hB := F.bindsN hb
  obtain ⟨oc, od, dV, kV, doc, pm, an, cdv, ct, osl, rfl, lk, hcg, _, _⟩ := F.ex
  exact pe_lamcall hg D.at_ F.kp lk hcg hB Sg hNg hva (hG cdv) TB hcode hmT hu hr L hdef hbind hbody hdb hd hcd
end Sr

set_option Elab.async false
set_option linter.all false
set_option maxRecDepth 100000
set_option maxHeartbeats 4000000
namespace K00
open PySem PySem.Spec PyProof.Rows L2 Sr LamX
abbrev s__law_refused : Stmt := top 20
theorem sc__law_refused : FnScope ["ask", "e"] ["ask"] (defScope s__law_refused) := ⟨rfl, rfl, rfl, by decide +kernel, rfl, by decide +kernel, by decide +kernel⟩
/-- what was refused: nothing, or the word of the error with what it holds -/
def TRf (CR CK : Addr) : (XK → Hp → VK → Prop) → Hp → VK → Prop := fun tl H Q =>
  tl (fun cls d H' => ∃ (C : Addr) (w : Str) (e : Addr) (v : V), ((C = CR ∧ w = "rank") ∨ (C = CK ∧ w = "kind")) ∧ cls = .ref C ∧ d = some e ∧ H' e = some (.xd [("kind", v)]) ∧ ∀ p, H' p = none → Q (.ref p) (upd H' p (.tup [.str w, v]))) H
    fun v H' => Q .non H'
theorem g_refused {X : Cx} {CR CK fR fK g : Addr} (hR : X.mg "BadRank" = some (.ref CR)) (hK : X.mg "BadKind" = some (.ref CK)) (ER : Err X.K CR fR "kind") (EK : Err X.K CK fK "kind")
    (x11 : PySem.W.exmOne X.K (.ref CR) (.ref CR) = some true) (x22 : PySem.W.exmOne X.K (.ref CK) (.ref CK) = some true) (x21 : PySem.W.exmOne X.K (.ref CK) (.ref CR) = some false) (cdg : Value) (q : Str) :
    GivesTo X ["ask", "e"] "_law_refused" (defScope s__law_refused) g cdg (defBody s__law_refused) "ask" q (TRf CR CK) := by
  intro f c' s H Q tl act hc h
  refine ⟨_, pss_cons (ps_try_named (X := (cxOf C8.CX0 X.prog X.w X.K X.mg X.base ["ask", "e"] "_law_refused" (defScope s__law_refused) g cdg X.A X.stack s H C8.E0).nox)
      (tb := fun W D σ H => ∃ Ech : XK, (∀ cls d σ' H', Ech cls d H' → W cls d σ' H') ∧ σ[0]? = some (some (.ref f)) ∧ H c' = some (CodeO c' q) ∧ tl Ech H (fun v H' => D.nx σ H'))
      (l := [(.ref CR, 1, fun a cls d D σ H => σ.length = 2 → tRet (tTup (tCons (tC (.str "rank")) (tCons (tXf a cls d CR "kind" (tVar 1)) tNil))) D σ H),
        (.ref CK, 1, fun a cls d D σ H => σ.length = 2 → tRet (tTup (tCons (tC (.str "kind")) (tCons (tXf a cls d CK "kind" (tVar 1)) tNil))) D σ H)]) rfl rfl sc__law_refused.nd takes0 (fun W pn xe tk _ => ?_) (.cons ⟨?_⟩ (.cons ⟨?_⟩ .nil))) (pss_one (ps_ret pe_non)), ?_⟩
  · refine ⟨fun pins s' σ H' D I h' => ?_⟩
    obtain ⟨Ech, hW, h1, h2, h3⟩ := h'
    have hp := act W pn xe Ech ⟨88, 8, 88, 11⟩ ⟨88, 8, 88, 13⟩ tk hW
    exact (pss_one (ps_expr hp)).run pins s' σ H' D I ⟨h1, h2, h3⟩
  · refine ⟨_, _, _, _, _, _, rfl, ⟨rfl, by decide, .inl hR⟩, rfl, rfl, fun a oe cls d pn hz hf => ?_⟩
    exact pss_len (pss_one (ps_ret (pe_tup (pa_cons pe_str (pa_cons (pe_xf ER.xf ER.no hz hf (pv 1)) pa_nil)))))
  · refine ⟨_, _, _, _, _, _, rfl, ⟨rfl, by decide, .inl hK⟩, rfl, rfl, fun a oe cls d pn hz hf => ?_⟩
    exact pss_len (pss_one (ps_ret (pe_tup (pa_cons pe_str (pa_cons (pe_xf EK.xf EK.no hz hf (pv 1)) pa_nil)))))
  · refine ⟨_, fun cls d σ' H' hE => ?_, rfl, hc, h⟩
    obtain ⟨C, w, e, v, hC, rfl, rfl, he, hq⟩ := hE
    have h1 : ∀ {a : Addr}, (σ'.set 1 (some (V.ref a))).length = 2 → (σ'.set 1 (some (V.ref a)))[1]? = some (some (.ref a)) := fun {a} hl => by
      rw [List.length_set] at hl
      rw [List.getElem?_set_self (by omega)]
    rcases hC with ⟨rfl, rfl⟩ | ⟨rfl, rfl⟩
    · exact ⟨true, x11, iteT fun a ha hl => ⟨_, h1 hl, rfl, rfl, e, _, v, rfl, he, rfl, two_line, fun p hp => hq p hp⟩⟩
    · exact ⟨false, x21, iteF ⟨true, x22, iteT fun a ha hl => ⟨_, h1 hl, rfl, rfl, e, _, v, rfl, he, rfl, two_line, fun p hp => hq p hp⟩⟩⟩
end K00

set_option Elab.async false
set_option linter.all false
set_option maxRecDepth 100000
set_option maxHeartbeats 4000000
namespace K00
open PySem PySem.Spec PyProof.Rows L2 Sr LamX
/-! ### what stays when a def with a lambda is called -/
theorem TupV.ext {H H' : Hp} (e : ExtN H H') {v : V} {ws : List Str} (h : TupV H v ws) : TupV H' v ws :=
  let ⟨t, e1, e2⟩ := h
  ⟨t, e1, e _ _ e2 (fun _ z => by cases z)⟩
theorem RanksR.ext {H H' : Hp} (e : ExtN H H') {r : Addr} {rs : List Rk} (h : RanksR H r rs) : RanksR H' r rs := by
  obtain ⟨kvs, h1, h2⟩ := h
  exact ⟨kvs, e _ _ h1 (fun _ z => by cases z), h2.imp fun v ws t => t.ext e⟩
theorem OffR.ext {K : PySem.W.Frag} {H H' : Hp} {x : Addr} {rs : List Rk} (e : ExtN H H') (o : OffR K H x rs) : OffR K H' x rs := by
  obtain ⟨dx, d, kvs, h1, h2, h3, h4⟩ := o
  exact ⟨dx, d, kvs, e _ _ h1 (fun _ z => by cases z), e _ _ h2 (fun _ z => by cases z), h3.imp fun v ws t => t.ext e, h4⟩
theorem OthAt.ext {H H' : Hp} (e : ExtN H H') {rs : List Rk} {ds : List Addr} (h : OthAt H rs ds) : OthAt H' rs ds := fun d m =>
  let ⟨r, a, b⟩ := h d m
  ⟨r, a.ext e, b⟩
theorem _root_.Sr.KeyIs.ext {H H' : Hp} {k : NestedKey} {v : V} (e : ExtN H H') (x : KeyIs H k v) : KeyIs H' k v := by
  cases x with
  | non => exact .non
  | bl b => exact .bl b
  | int i => exact .int i
  | str s => exact .str s
  | tup h => exact .tup (e _ _ h (fun _ z => by cases z))
theorem _root_.Sr.MixAt.ext {w : World} {H H' : Hp} {d : Addr} {kvs : List KV3} (e : ExtN H H') (x : MixAt w H d kvs) : MixAt w H' d kvs := by
  obtain ⟨o, h, es, ep, rfl, h2, h3, h4⟩ := x
  refine ⟨_, e _ _ h (fun _ z => by cases z), es, ep, rfl, h2, h3, fun j p hp => ?_⟩
  obtain ⟨en, g1, g2, g3⟩ := h4 j p hp
  exact ⟨en, g1, g2.ext e, g3⟩
theorem entD.ext {H H' : Hp} (e : ExtN H H') {p : KV3} {k d : Dt} (h : entD H p k d) : entD H' p k d := ⟨h.1.ext e, h.2.1.ext e, h.2.2⟩
/-! ### calls of the class and of its methods -/
structure MkO (P : Program) (w : World) (K : PySem.W.Frag) (mg : Str → Option Value) (base : Heap) : Prop where
  ex : CalM P w K mg base (L2.CX P w) 3 (He.fAd K ("Office", some "__init__")) ["self", "ranks"] (spInit K w)
  mk_ : Mk K (He.ga K "Office") (He.fAd K ("Office", some "__init__"))
  nm : mg "Office" = some (.ref (He.ga K "Office"))
theorem MkO.pe {X : Cx} {K : PySem.W.Frag} {w : World} {j : Nat} {E : XK} {p pos : Pos} {e : Expr} {es : List Expr} {t : TA} (c : MkO X.prog w K X.mg X.base) (hK : X.K = K) (hw : X.w = w) (hr : Room j X.A) (hk : 4 ≤ j) (hg : Gl X "Office") (hx : Passes (L2.CX X.prog X.w) X E) (ha : PA X (e :: es) t)
    (he : starEach (e :: es) X.env = (false, eval e X.env) :: starEach es X.env := by rfl) (hpl : (backTo pos (starEach es X.env)).any (·.1) = false := by rfl) :
    PE X (.Call (.Name "Office" p) (e :: es) [] pos) (tMake (He.ga K "Office") (spInit K w) [] E t) := by
  subst hK
  subst hw
  obtain ⟨fd, F, kp, hb⟩ := c.ex.ex
  exact pe_make c.mk_ F (hr.mono hk) hg c.nm hb .nil hx ha (by decide) he hpl
section
variable {K : PySem.W.Frag} {w : World} {H : Hp} {Q : Addr → Hp → Prop} {E : XK}
/-- Office(ranks), the ranks right -/
theorem ok_office {r : Addr} {kvs : List (Key × V)} {rs : List Rk} (hr : H r = some (.dK kvs)) (he : EntR (SeqV H) kvs rs) (g : goodR rs)
    (q : ∀ x H' ys, H x = none → Same H H' → ys.Perm (rs.map (·.1)) → PyProof.Rows.sortedS ys = true → OffR K H' x (byName rs ys) → Q x H') :
    ∀ x dx, H x = none → H dx = none → dx ≠ x → spInit K w (.ref x :: ([.ref r] ++ [])) (upd (upd H dx (.own x)) x (.ins (He.ga K "Office") dx [])) (fun v H2 => v = .non ∧ Q x H2) E := by
  intro x dx hx hdx ne
  have s0 : Same H (upd (upd H dx (.own x)) x (.ins (He.ga K "Office") dx [])) := (Same.up hdx).trans (Same.up (by rw [upd_ne fun z => ne z.symm]; exact hx))
  refine ⟨x, .ref r, H, dx, rfl, s0, hx, upd_same, .inl ⟨r, kvs, rs, rfl, s0 _ _ hr, he.imp fun v ws h => h.mono s0, g, fun H' ys s p srt o => ⟨rfl, q x H' ys hx s p srt o⟩⟩⟩
/-- Office(x), x no dict -/
theorem ok_odd {v : V} {d : Dt} (hv : Is H v d) (nd : d ≠ .dic) (q : ∀ H' e, Same H H' → H' e = none → E (.ref (He.ga K "BadRank")) (some e) (upd H' e (.xd [("kind", v)]))) :
    ∀ x dx, H x = none → H dx = none → dx ≠ x → spInit K w (.ref x :: ([v] ++ [])) (upd (upd H dx (.own x)) x (.ins (He.ga K "Office") dx [])) (fun v H2 => v = .non ∧ Q x H2) E := by
  intro x dx hx hdx ne
  have s0 : Same H (upd (upd H dx (.own x)) x (.ins (He.ga K "Office") dx [])) := (Same.up hdx).trans (Same.up (by rw [upd_ne fun z => ne z.symm]; exact hx))
  exact ⟨x, v, H, dx, rfl, s0, hx, upd_same, .inr (.inr ⟨d, hv.mono s0, nd, fun H' e s1 s2 he => q H' e s1 he⟩)⟩
/-- Office(d), d with an entry that is wrong -/
theorem ok_mixed {d : Addr} {kvs : List KV3} {j : Nat} {p : KV3} (m : MixAt w H d kvs) (hj : kvs[j]? = some p) (bf : ∀ (i : Nat) (q : KV3), i < j → kvs[i]? = some q → ∃ k u, entD H q k u ∧ nameOk k = true ∧ rankOk u = true)
    (bad : ∃ k u, entD H p k u ∧ (nameOk k && rankOk u) = false) (q : ∀ H' e, Same H H' → H' e = none → E (.ref (He.ga K "BadRank")) (some e) (upd H' e (.xd [("kind", p.2.1)]))) :
    ∀ x dx, H x = none → H dx = none → dx ≠ x → spInit K w (.ref x :: ([.ref d] ++ [])) (upd (upd H dx (.own x)) x (.ins (He.ga K "Office") dx [])) (fun v H2 => v = .non ∧ Q x H2) E := by
  intro x dx hx hdx ne
  have s0 : Same H (upd (upd H dx (.own x)) x (.ins (He.ga K "Office") dx [])) := (Same.up hdx).trans (Same.up (by rw [upd_ne fun z => ne z.symm]; exact hx))
  refine ⟨x, .ref d, H, dx, rfl, s0, hx, upd_same, .inr (.inl ⟨d, kvs, j, p, rfl, m.mono s0, hj, fun i q' lt hq => ?_, ?_, fun H' e s1 s2 he => q H' e s1 he⟩)⟩
  · obtain ⟨k, u, h, r⟩ := bf i q' lt hq
    exact ⟨k, u, h.mono s0, r⟩
  · obtain ⟨k, u, h, r⟩ := bad
    exact ⟨k, u, h.mono s0, r⟩
end
theorem m0_ {X : Cx} {k j : Nat} {C f : Addr} {ps : List Str} {sp : Sp} {m : Str} {o : Expr} {ta : TE} {p apos : Pos} {pl : Sem Bool} (M : CalM X.prog X.w X.K X.mg X.base CX0 k f ps sp) (hr : Room j X.A) (hk : k ≤ j) (c : Cls X.K C) (hm : Meth X.K C m f) (he : PE X o ta)
    (ht : eval (.Call (.Attribute o m apos) [] [] p) X.env = (do
      let ov ← eval o X.env
      standAt apos.atName
      let (f, first) ← holding [ov] (getMethod ov m pl)
      callWith p f first (backTo p (starEach [] X.env)) (backToKw p (keywordEach [] X.env))) := by rfl) : PE X (.Call (.Attribute o m apos) [] [] p) (tMeth C m sp [] E0 ta tNil) := by
  obtain ⟨fd, F, kp, hb⟩ := M.ex
  exact pe_meth0 he c hm F (hr.mono hk) hb .nil pass0 ht
theorem mE_ {X : Cx} {K : PySem.W.Frag} {k j : Nat} {C f : Addr} {ps : List Str} {sp : Sp} {m : Str} {o e : Expr} {es : List Expr} {ta : TE} {t : TA} {p apos : Pos} {pl : Sem Bool} {E : XK} (M : CalM X.prog X.w K X.mg X.base (L2.CX X.prog X.w) k f ps sp) (hK : X.K = K) (hr : Room j X.A) (hk : k ≤ j) (c : Cls K C) (hm : Meth K C m f) (hx : Passes (L2.CX X.prog X.w) X E) (he : PE X o ta) (ha : PA X (e :: es) t)
    (hst : starEach (e :: es) X.env = (false, eval e X.env) :: starEach es X.env := by rfl) (hpl : (backTo p (starEach es X.env)).any (·.1) = false := by rfl)
    (ht : eval (.Call (.Attribute o m apos) (e :: es) [] p) X.env = (do
      let ov ← eval o X.env
      standAt apos.atName
      let (f, first) ← holding [ov] (getMethod ov m pl)
      callWith p f first (backTo p (starEach (e :: es) X.env)) (backToKw p (keywordEach [] X.env))) := by rfl) : PE X (.Call (.Attribute o m apos) (e :: es) [] p) (tMeth C m sp [] E ta t) := by
  subst hK
  obtain ⟨fd, F, kp, hb⟩ := M.ex
  exact pe_meth he c hm F (hr.mono hk) hb .nil hx ha hst hpl ht
theorem len_ {X : Cx} {k j : Nat} {C f : Addr} {ps : List Str} {sp : Sp} (M : CalM X.prog X.w X.K X.mg X.base CX0 k f ps sp) (hr : Room j X.A) (hk : k + 1 ≤ j) (hs : PySem.W.findIn X.K (.ref C) "__len__" = some (some (.ref f))) (hf : PySem.W.typeIn X.K (.ref f) = some (.type "function")) : CallR X (.builtin "len") (rLenIns C sp E0) := by
  obtain ⟨fd, F, kp, hb⟩ := M.ex
  exact call_lenIns F (hr.mono hk) hb pass0 hs hf
theorem eq_ {X : Cx} {K : PySem.W.Frag} {k j : Nat} {C f : Addr} {ps : List Str} {sp : Sp} (M : CalM X.prog X.w K X.mg X.base CX0 k f ps sp) (hK : X.K = K) (hr : Room j X.A) (hk : k ≤ j) (hs : PySem.W.findIn K (.ref C) "__eq__" = some (some (.ref f))) (hf : PySem.W.isFn K (.ref f) = true) :
    OpR X (compareOp .Eq) (rEqIns2 K C sp E0) := by
  subst hK
  obtain ⟨fd, F, kp, hb⟩ := M.ex
  exact op_eqIns2 F (hr.mono hk) hb pass0 hs hf
theorem ne_ {X : Cx} {k j : Nat} {C f : Addr} {ps : List Str} {sp : Sp} (M : CalM X.prog X.w X.K X.mg X.base CX0 k f ps sp) (hr : Room j X.A) (hk : k + 1 ≤ j) (hs : PySem.W.findIn X.K (.ref C) "__eq__" = some (some (.ref f))) (hf : PySem.W.isFn X.K (.ref f) = true)
    (hne : PySem.W.findIn X.K (.ref C) "__ne__" = some (some (.builtin "object.__ne__"))) (hm : PySem.W.mroIn X.K C (.type "object") = some true) : OpR X (compareOp .NotEq) (rNeIns X.K C sp E0) := by
  obtain ⟨fd, F, kp, hb⟩ := M.ex
  exact op_neIns F (hr.mono hk) hb pass0 hs hf hne hm
/-- more that the head tells of the class -/
structure OfM (K : PySem.W.Frag) : Prop where
  kinds : Meth K (He.ga K "Office") "kinds" (He.fAd K ("Office", some "kinds"))
  rank : Meth K (He.ga K "Office") "rank" (He.fAd K ("Office", some "rank"))
  len : PySem.W.findIn K (.ref (He.ga K "Office")) "__len__" = some (some (.ref (He.fAd K ("Office", some "__len__"))))
  lenF : PySem.W.typeIn K (.ref (He.fAd K ("Office", some "__len__"))) = some (.type "function")
  eq : PySem.W.findIn K (.ref (He.ga K "Office")) "__eq__" = some (some (.ref (He.fAd K ("Office", some "__eq__"))))
  fn : PySem.W.isFn K (.ref (He.fAd K ("Office", some "__eq__"))) = true
  ne : PySem.W.findIn K (.ref (He.ga K "Office")) "__ne__" = some (some (.builtin "object.__ne__"))
end K00

set_option Elab.async false
set_option linter.all false
set_option maxRecDepth 100000
set_option maxHeartbeats 4000000
namespace K00
open PySem PySem.Spec PyProof.Rows L2 Sr RZ
/-- two readings of one expression: either may be taken -/
def tAlt (t1 t2 : TE) : TE := fun σ H Q => t1 σ H Q ∨ t2 σ H Q
theorem pe_alt {X : Cx} {e : Expr} {t1 t2 : TE} (h1 : PE X e t1) (h2 : PE X e t2) : PE X e (tAlt t1 t2) :=
  ⟨fun pins s σ H Q I h => h.elim (h1.run pins s σ H Q I) (h2.run pins s σ H Q I)⟩
/-- an empty dict is itself -/
def spZ0 : Sp := fun vs H Q _ => ∃ a, vs = [.ref a, .ref a] ∧ H a = some (.dK []) ∧ ∀ H', Same H H' → Q (.bl true) H'
/-- a word and an empty dict -/
def spZ1 : Sp := fun vs H Q _ => ∃ (t1 t2 a : Addr) (s : Str), vs = [.ref t1, .ref t2] ∧ s.length ≤ 1000 ∧ H t1 = some (.tup [.str s, .ref a]) ∧ H t2 = some (.tup [.str s, .ref a]) ∧ H a = some (.dK []) ∧ ∀ H', Same H H' → Q (.bl true) H'
section
variable {P : Program} {w : World} {K : PySem.W.Frag} {mg : Str → Option Value} {base : Heap}
theorem c_same_dic (T : Txt K mg) (D : Dfn K mg "_law_same" s__law_same) : Cal P w K mg base 1 "_law_same" ["found", "due"] spZ0 := by
  refine D.cal sc__law_same (fun _ _ _ _ _ _ us hl => match us, hl with | [_, _], _ => rfl) (fun vs H Q E h => ?_) fun cdv A outer s H vs Q E hr h => ?_
  · obtain ⟨a, rfl, _⟩ := h
    rfl
  obtain ⟨a, rfl, ha, q⟩ := h
  have ia : Is H (.ref a) .dic := .dic ha
  refine ⟨_, (pss_cons (ps_if (pt_val (pe_callB (id := "isinstance") call_isiT (by rfl) T.isinstance (by decide +kernel) (pa_cons (pv 1) (pa_cons (pe_tup (pa_cons (pe_tyv (n := "list") (by rfl) T.list (by decide +kernel)) (pa_cons (pe_tyv (n := "tuple") (by rfl) T.tuple (by decide +kernel)) pa_nil))) pa_nil)))) pss_never pss_nil)
      (pss_cons (ps_if (pt_val (pe_callB (id := "isinstance") call_isiT (by rfl) T.isinstance (by decide +kernel) (pa_cons (pv 1) (pa_cons (pe_tup (pa_cons (pe_tyv (n := "bool") (by rfl) T.bool (by decide +kernel)) (pa_cons (pe_tyv (n := "int") (by rfl) T.int (by decide +kernel)) pa_nil))) pa_nil)))) (pss_one (ps_ret (pe_and (pe_callB (id := "isinstance") call_isi (by rfl) T.isinstance (by decide +kernel) (pa_cons (pv 0) (pa_cons (pe_tyv (n := "int") (by rfl) T.int (by decide +kernel)) pa_nil))) (pe_and (pe_cmpR op_eq (pe_callB (id := "isinstance") call_isi (by rfl) T.isinstance (by decide +kernel) (pa_cons (pv 0) (pa_cons (pe_tyv (n := "bool") (by rfl) T.bool (by decide +kernel)) pa_nil))) (pe_callB (id := "isinstance") call_isi (by rfl) T.isinstance (by decide +kernel) (pa_cons (pv 1) (pa_cons (pe_tyv (n := "bool") (by rfl) T.bool (by decide +kernel)) pa_nil))) (nomark _)) (pe_one (pe_cmpR op_eq (pv 0) (pv 1) (nomark _))))))) pss_nil)
      (pss_one (ps_ret (pe_and (pe_not (pe_callB (id := "isinstance") call_isiT (by rfl) T.isinstance (by decide +kernel) (pa_cons (pv 0) (pa_cons (pe_tup (pa_cons (pe_tyv (n := "bool") (by rfl) T.bool (by decide +kernel)) (pa_cons (pe_tyv (n := "int") (by rfl) T.int (by decide +kernel)) (pa_cons (pe_tyv (n := "list") (by rfl) T.list (by decide +kernel)) (pa_cons (pe_tyv (n := "tuple") (by rfl) T.tuple (by decide +kernel)) pa_nil))))) pa_nil)))) (pe_one (pe_cmpR (op_eq_dictA hr.units0) (pv 0) (pv 1) (nomark _)))))))), ?_⟩
  refine ⟨_, rfl, two_line, fun p hp => ⟨_, p, [.ty "list", .ty "tuple"], _, _, _, rfl, upd_same, cls_two _ _, (ia.mono (Same.up hp)).ty, kit_seq K .dic, _, rfl, iteF ?_⟩⟩
  have s1 : Same H _ := Same.up (o := .tup [.ty "list", .ty "tuple"]) hp
  refine ⟨_, rfl, two_line, fun p2 hp2 => ⟨_, p2, [.ty "bool", .ty "int"], _, _, _, rfl, upd_same, cls_two _ _, ((ia.mono s1).mono (Same.up hp2)).ty, kit_ints K .dic, _, rfl, iteF ?_⟩⟩
  have s2 := s1.trans (Same.up (o := .tup [.ty "bool", .ty "int"]) hp2)
  refine ⟨_, rfl, lineN, fun p3 hp3 => ⟨_, p3, [.ty "bool", .ty "int", .ty "list", .ty "tuple"], _, _, _, rfl, upd_same, cls_four _ _ _ _, ((ia.mono s2).mono (Same.up hp3)).ty, kit_four K .dic, _, rfl, ?_⟩⟩
  have s3 := s2.trans (Same.up (o := .tup [.ty "bool", .ty "int", .ty "list", .ty "tuple"]) hp3)
  exact ⟨_, rfl, iteT ⟨_, rfl, _, rfl, a, a, [], [], rfl, rfl, s3 _ _ ha, s3 _ _ ha, rfl, (fun p m => by cases m), q _ s3⟩⟩
theorem c_same_kind (T : Txt K mg) (D : Dfn K mg "_law_same" s__law_same) (C_law_same : Cal P w K mg base 1 "_law_same" ["found", "due"] (spDeep 0)) (C_dic : Cal P w K mg base 1 "_law_same" ["found", "due"] spZ0) : Cal P w K mg base 2 "_law_same" ["found", "due"] spZ1 := by
  refine D.cal sc__law_same (fun _ _ _ _ _ _ us hl => match us, hl with | [_, _], _ => rfl) (fun vs H Q E h => ?_) fun cdv A outer s H vs Q E hr h => ?_
  · obtain ⟨t1, t2, a, z, rfl, _⟩ := h
    rfl
  obtain ⟨t1, t2, a, z, rfl, hz, h1, h2, ha, q⟩ := h
  have i1 : Is H (.ref t1) (.tup [.str z, .dic]) := .tup h1 (.cons (.str z hz) (.cons (.dic ha) .nil)) (by show 2 ≤ 60; decide)
  have i2 : Is H (.ref t2) (.tup [.str z, .dic]) := .tup h2 (.cons (.str z hz) (.cons (.dic ha) .nil)) (by show 2 ≤ 60; decide)
  refine ⟨_, (pss_cons (ps_if (pt_val (pe_callB (id := "isinstance") call_isiT (by rfl) T.isinstance (by decide +kernel) (pa_cons (pv 1) (pa_cons (pe_tup (pa_cons (pe_tyv (n := "list") (by rfl) T.list (by decide +kernel)) (pa_cons (pe_tyv (n := "tuple") (by rfl) T.tuple (by decide +kernel)) pa_nil))) pa_nil)))) (pss_cons (ps_if (PW.pt (pw_or (pt_cmpR op_ne (pe_callB (id := "isinstance") call_isi (by rfl) T.isinstance (by decide +kernel) (pa_cons (pv 0) (pa_cons (pe_tyv (n := "list") (by rfl) T.list (by decide +kernel)) pa_nil))) (pe_callB (id := "isinstance") call_isi (by rfl) T.isinstance (by decide +kernel) (pa_cons (pv 1) (pa_cons (pe_tyv (n := "list") (by rfl) T.list (by decide +kernel)) pa_nil))) (nomark _)) (pw_or1 (pt_cmpR op_ne (pe_callB (id := "isinstance") call_isi (by rfl) T.isinstance (by decide +kernel) (pa_cons (pv 0) (pa_cons (pe_tyv (n := "tuple") (by rfl) T.tuple (by decide +kernel)) pa_nil))) (pe_callB (id := "isinstance") call_isi (by rfl) T.isinstance (by decide +kernel) (pa_cons (pv 1) (pa_cons (pe_tyv (n := "tuple") (by rfl) T.tuple (by decide +kernel)) pa_nil))) (nomark _))))) (pss_one (ps_ret pe_bl)) pss_nil)
      (pss_one (ps_ret (pe_and (pe_cmpR op_eq (pe_callB (id := "len") call_len_seq (by rfl) T.len (by decide +kernel) (pa_cons (pv 0) pa_nil)) (pe_callB (id := "len") call_len_seq (by rfl) T.len (by decide +kernel) (pa_cons (pv 1) pa_nil)) (nomark _)) (pe_one (pe_callB (id := "all") (cr_all rfl) (by rfl) T.all (by decide +kernel) (pa_cons (pe_lc (own := [("left", 2), ("right", 3)]) (g := gTup K 2 (gCons (gName 2) (gCons (gName 3) gNil))) (tt := tYes) rfl sc__law_same.nd (pi_zipA (by rfl) T.zip (pa_cons (pv 0) (pa_cons (pv 1) pa_nil))) (blkOk_by (N := ["found", "due", "left", "right"]) (sc := defScope s__law_same) (by decide +kernel)) (fun _ _ _ _ _ => (pg_tup rfl (pgs_cons (pg_name (i := 2) sc__law_same.nd rfl (by first | exact Or.inl rfl | exact Or.inr rfl)) (pgs_cons (pg_name (i := 3) sc__law_same.nd rfl (by first | exact Or.inl rfl | exact Or.inr rfl)) pgs_nil)))) (fun _ _ _ _ _ => pts_nil) (fun _ _ _ _ _ => (pe_alt (pe_cal C_law_same hr (by first | decide | omega) (by rfl) (pa_cons (pv 2) (pa_cons (pv 3) pa_nil))) (pe_cal C_dic hr (by first | decide | omega) (by rfl) (pa_cons (pv 2) (pa_cons (pv 3) pa_nil)))))) pa_nil))))))) pss_nil)
      (pss_cons (ps_if (pt_val (pe_callB (id := "isinstance") call_isiT (by rfl) T.isinstance (by decide +kernel) (pa_cons (pv 1) (pa_cons (pe_tup (pa_cons (pe_tyv (n := "bool") (by rfl) T.bool (by decide +kernel)) (pa_cons (pe_tyv (n := "int") (by rfl) T.int (by decide +kernel)) pa_nil))) pa_nil)))) (pss_one (ps_ret (pe_and (pe_callB (id := "isinstance") call_isi (by rfl) T.isinstance (by decide +kernel) (pa_cons (pv 0) (pa_cons (pe_tyv (n := "int") (by rfl) T.int (by decide +kernel)) pa_nil))) (pe_and (pe_cmpR op_eq (pe_callB (id := "isinstance") call_isi (by rfl) T.isinstance (by decide +kernel) (pa_cons (pv 0) (pa_cons (pe_tyv (n := "bool") (by rfl) T.bool (by decide +kernel)) pa_nil))) (pe_callB (id := "isinstance") call_isi (by rfl) T.isinstance (by decide +kernel) (pa_cons (pv 1) (pa_cons (pe_tyv (n := "bool") (by rfl) T.bool (by decide +kernel)) pa_nil))) (nomark _)) (pe_one (pe_cmpR op_eq (pv 0) (pv 1) (nomark _))))))) pss_nil)
      pss_never)), ?_⟩
  refine ⟨_, rfl, two_line, fun p hp => ⟨_, p, [.ty "list", .ty "tuple"], _, _, _, rfl, upd_same, cls_two _ _, (i2.mono (Same.up hp)).ty, kit_seq K _, _, rfl, iteT ?_⟩⟩
  have s1 : Same H _ := Same.up (o := .tup [.ty "list", .ty "tuple"]) hp
  have iv1 := i1.mono s1
  have iu1 := i2.mono s1
  refine ⟨_, rfl, _, _, _, _, _, rfl, .ty _, iv1.ty, kit_list K _, _, rfl, _, _, _, _, _, rfl, .ty _, iu1.ty, kit_list K _, rfl, _, rfl, ?_⟩
  rw [decide_eq_true rfl]
  refine iteF ⟨_, rfl, _, _, _, _, _, rfl, .ty _, iv1.ty, kit_tuple K _, _, rfl, _, _, _, _, _, rfl, .ty _, iu1.ty, kit_tuple K _, rfl, _, rfl, ?_⟩
  rw [decide_eq_true rfl]
  refine iteF ⟨_, rfl, t1, _, rfl, .inr (SqT.of (s1 _ _ h1)), _, rfl, t2, _, rfl, .inr (SqT.of (s1 _ _ h2)), rfl, _, rfl, ?_⟩
  refine iteT ⟨_, rfl, _, rfl, t1, t2, [.str z, .ref a], [.str z, .ref a], rfl, .inr ⟨SqT.of (s1 _ _ h1), SqT.of (s1 _ _ h2), fun D hD =>
    lc_pairs (walk_zipT (n := 2) rfl) (by decide) [.bl true, .bl true] rfl (sz (m := 60) (by decide)) hD (fun H2 s2 => ⟨SqT.of (s2 _ _ (s1 _ _ h1)), SqT.of (s2 _ _ (s1 _ _ h2))⟩)
      (fun k x y v H2 R hk hx hy hv s2 kk => ?_) (fun H2 s2 h2 => ⟨D, [true, true], rfl, SqL.of h2, q _ (s1.trans s2)⟩)⟩⟩
  match k, hk with
  | 0, _ =>
    obtain rfl : V.str z = x := Option.some.inj hx
    obtain rfl : V.str z = y := Option.some.inj hy
    obtain rfl : V.bl true = v := Option.some.inj hv
    exact .inl ⟨_, rfl, _, rfl, .str z, .str z, .str z, rfl, .str z hz, .str z hz, .str 0 z, kk⟩
  | 1, _ =>
    obtain rfl : V.ref a = x := Option.some.inj hx
    obtain rfl : V.ref a = y := Option.some.inj hy
    obtain rfl : V.bl true = v := Option.some.inj hv
    exact .inr ⟨_, rfl, _, rfl, a, rfl, s2 _ _ (s1 _ _ ha), kk⟩
end
end K00

set_option Elab.async false
set_option linter.all false
set_option maxRecDepth 100000
set_option maxHeartbeats 4000000
namespace K00
open PySem PySem.Spec PyProof.Rows L2 Sr LamX
theorem pr_take {α β : Type} {F : α → β → Prop} : ∀ {l : List α} {m : List β} (n : Nat), Paired F l m → Paired F (l.take n) (m.take n)
  | _, _, 0, _ => by rw [List.take_zero, List.take_zero]; exact .nil
  | _, _, _ + 1, .nil => .nil
  | _, _, n + 1, .cons h r => .cons h (pr_take n r)
theorem pr_drop {α β : Type} {F : α → β → Prop} : ∀ {l : List α} {m : List β} (n : Nat), Paired F l m → Paired F (l.drop n) (m.drop n)
  | _, _, 0, r => r
  | _, _, _ + 1, .nil => .nil
  | _, _, n + 1, .cons h r => pr_drop n r
theorem pr_app {α β : Type} {F : α → β → Prop} : ∀ {l l' : List α} {m m' : List β}, Paired F l m → Paired F l' m' → Paired F (l ++ l') (m ++ m')
  | _, _, _, _, .nil, h => h
  | _, _, _, _, .cons a b, h => .cons a (pr_app b h)
/-- the entries of right ranks, each with its key -/
def m3 (kvs : List (Key × V)) : List KV3 := kvs.map fun q => (match q.1 with
  | .inl i => (.num i, .int i, q.2)
  | .inr s => (.text s, .str s, q.2))
theorem m3_len {kvs : List (Key × V)} : (m3 kvs).length = kvs.length := by unfold m3; rw [List.length_map]
theorem m3_pairs {K : PySem.W.Frag} {H : Hp} : ∀ {ts : List Addr} {kvs : List (Key × V)}, Paired (fun (t : Addr) (q : Key × V) => H t = some (.tup [kV q.1, q.2])) ts kvs → Paired (fun t (p : KV3) => SqT K H t [p.2.1, p.2.2] ∧ KeyIs H p.1 p.2.1) ts (m3 kvs)
  | _, _, .nil => .nil
  | _, _, .cons (b := q) h r => by
    refine .cons ?_ (m3_pairs r)
    obtain ⟨k, v⟩ := q
    cases k with
    | inl i => exact ⟨SqT.of h, .int i⟩
    | inr s => exact ⟨SqT.of h, .str s⟩
theorem m3_keys {Rv : V → List Str → Prop} : ∀ {kvs : List (Key × V)} {rs : List Rk}, EntR Rv kvs rs → (m3 kvs).map (·.1) = rs.map fun p => NestedKey.text p.1
  | _, _, .nil => rfl
  | _, _, .cons (a := q) h r => by
    obtain ⟨k, v⟩ := q
    have h1 : k = Sum.inr _ := h.1
    subst h1
    show NestedKey.text _ :: (m3 _).map (·.1) = _
    rw [m3_keys r]
    rfl
/-- a right entry as data -/
theorem m3_good {H : Hp} {kvs : List (Key × V)} {rs : List Rk} (he : EntR (TupV H) kvs rs) (g : goodR rs) {i : Nat} {p : KV3} (h : (m3 kvs)[i]? = some p) : ∃ k u, entD H p k u ∧ nameOk k = true ∧ rankOk u = true := by
  have go : ∀ {kvs : List (Key × V)} {rs : List Rk} {i : Nat}, EntR (TupV H) kvs rs → (∀ p ∈ rs, nameOk (.str p.1) = true ∧ rankG p.2) → (m3 kvs)[i]? = some p → ∃ k u, entD H p k u ∧ nameOk k = true ∧ rankOk u = true := by
    intro kvs rs i he
    induction he generalizing i with
    | nil => intro _ h; simp [m3] at h
    | @cons q r qs rs' hd tl ih =>
      intro g h
      obtain ⟨k, v⟩ := q
      have h1 : k = Sum.inr _ := hd.1
      subst h1
      cases i with
      | zero =>
        obtain rfl : (NestedKey.text r.1, V.str r.1, v) = p := Option.some.inj h
        obtain ⟨n, rk⟩ := g r List.mem_cons_self
        obtain ⟨d, id, rp, ro⟩ := (TupV.seq hd.2).is rk
        exact ⟨.str r.1, d, ⟨.str _ (name_len n), id, rp⟩, n, ro⟩
      | succ i => exact ih (fun p m => g p (List.mem_cons_of_mem _ m)) (by simpa [m3] using h)
  exact go he g.1 h
/-- an entry that is wrong, and unlike the others -/
def BadEnt (H : Hp) (v u : V) : Prop := ∃ (k : NestedKey) (d e : Dt), KeyIs H k v ∧ Is H v d ∧ Is H u e ∧ rkP e ∧ (nameOk d && rankOk e) = false ∧ Dep 1 d ∧ (∀ s ∈ names4, k ≠ .text s) ∧ k ≠ .text "worse"
theorem BadEnt.mono {H H' : Hp} (e : Same H H') {v u : V} (h : BadEnt H v u) : BadEnt H' v u := by
  obtain ⟨k, d, x, h1, h2, h3, h4⟩ := h
  exact ⟨k, d, x, h1.mono e, h2.mono e, h3.mono e, h4⟩
theorem BadEnt.ext {H H' : Hp} (e : ExtN H H') {v u : V} (h : BadEnt H v u) : BadEnt H' v u := by
  obtain ⟨k, d, x, h1, h2, h3, h4⟩ := h
  exact ⟨k, d, x, h1.ext e, h2.ext e, h3.ext e, h4⟩
/-- right entries, laid as pairs in a list -/
def GoodL (H : Hp) (gl : Addr) (rs : List Rk) : Prop := ∃ (ts : List Addr) (kvs : List (Key × V)), H gl = some (.lst (ts.map V.ref)) ∧ Paired (fun (t : Addr) (q : Key × V) => H t = some (.tup [kV q.1, q.2])) ts kvs ∧ EntR (TupV H) kvs rs
theorem GoodL.mono {H H' : Hp} (e : Same H H') {gl : Addr} {rs : List Rk} (h : GoodL H gl rs) : GoodL H' gl rs := by
  obtain ⟨ts, kvs, h1, h2, h3⟩ := h
  exact ⟨ts, kvs, e _ _ h1, L2.Paired.mapP h2 fun _ _ h => e _ _ h, h3.imp fun _ _ t => t.mono e⟩
theorem GoodL.ext {H H' : Hp} (e : ExtN H H') {gl : Addr} {rs : List Rk} (h : GoodL H gl rs) : GoodL H' gl rs := by
  obtain ⟨ts, kvs, h1, h2, h3⟩ := h
  exact ⟨ts, kvs, e _ _ h1 (fun _ z => by cases z), L2.Paired.mapP h2 fun _ _ h => e _ _ h (fun _ z => by cases z), h3.imp fun _ _ t => t.ext e⟩
/-- what is handed: right entries, the wrong one amid them, a last one -/
def handR (kvs : List (Key × V)) (n : Nat) (k : NestedKey) (v u : V) : List KV3 := m3 (kvs.take n) ++ [(k, v, u)] ++ m3 (kvs.drop n) ++ ([(.text "worse", .str "worse", .non)] : List KV3)
theorem handR_nodup {Rv : V → List Str → Prop} {kvs : List (Key × V)} {rs : List Rk} {n : Nat} {k : NestedKey} {v u : V} (he : EntR Rv kvs rs) (dr : drawnR rs) (nk : ∀ s ∈ names4, k ≠ .text s) (nw : k ≠ .text "worse") : ((handR kvs n k v u).map (·.1)).Nodup := by
  have e : (handR kvs n k v u).map (·.1) = (rs.map fun p => NestedKey.text p.1).take n ++ [k] ++ (rs.map fun p => NestedKey.text p.1).drop n ++ ([.text "worse"] : List NestedKey) := by
    unfold handR
    rw [List.map_append, List.map_append, List.map_append, m3_keys (pr_take n he), m3_keys (pr_drop n he), List.map_take, List.map_drop]
    rfl
  rw [e]
  have nd : (rs.map fun p => NestedKey.text p.1).Nodup := by
    rw [show (rs.map fun p => NestedKey.text p.1) = (rs.map (·.1)).map NestedKey.text by rw [List.map_map]; rfl]
    exact List.pairwise_map.mpr (dr.1.imp fun h z => h (NestedKey.text.inj z))
  have kn : ∀ x ∈ rs.map (fun p => NestedKey.text p.1), x ≠ k ∧ x ≠ .text "worse" := fun x m => by
    obtain ⟨p, mp, rfl⟩ := List.mem_map.mp m
    have n4 := (dr.2.2.2 p mp).1
    refine ⟨fun z => nk _ n4 z.symm, fun z => ?_⟩
    rw [NestedKey.text.inj z] at n4
    exact absurd n4 (by decide +kernel)
  generalize (rs.map fun p => NestedKey.text p.1) = L at *
  have p1 : (L.take n ++ [k] ++ L.drop n ++ ([.text "worse"] : List NestedKey)).Perm (.text "worse" :: k :: L) := by
    have a1 : (L.take n ++ [k] ++ L.drop n).Perm (k :: L) := by
      rw [List.append_assoc]
      refine (List.perm_append_comm_assoc _ _ _).trans ?_
      show (k :: (L.take n ++ L.drop n)).Perm (k :: L)
      rw [List.take_append_drop]
    exact (List.perm_append_comm).trans (List.Perm.cons _ a1)
  rw [p1.nodup_iff, List.nodup_cons, List.nodup_cons]
  refine ⟨fun m => ?_, fun m => (kn _ m).1 rfl, nd⟩
  rcases List.mem_cons.mp m with e | m
  · exact nw e.symm
  · exact (kn _ m).2 rfl
theorem handR_at {kvs : List (Key × V)} {n : Nat} {k : NestedKey} {v u : V} (h : n ≤ kvs.length) : (handR kvs n k v u)[n]? = some (k, v, u) := by
  have l : (m3 (kvs.take n)).length = n := by rw [m3_len, List.length_take]; omega
  unfold handR
  rw [List.append_assoc, List.append_assoc, List.getElem?_append_right (by omega), l, Nat.sub_self]
  rfl
theorem handR_before {kvs : List (Key × V)} {n i : Nat} {k : NestedKey} {v u : V} {p : KV3} (lt : i < n) (le : n ≤ kvs.length) (h : (handR kvs n k v u)[i]? = some p) : (m3 kvs)[i]? = some p := by
  have l : (m3 (kvs.take n)).length = n := by rw [m3_len, List.length_take]; omega
  unfold handR at h
  rw [List.append_assoc, List.append_assoc, List.getElem?_append_left (by omega)] at h
  unfold m3 at h ⊢
  rw [List.getElem?_map, List.getElem?_take_of_lt lt] at h
  rw [List.getElem?_map]
  exact h
/-- keys that are none -/
def BadKey (H : Hp) (v : V) : Prop := ∃ (k : NestedKey) (d : Dt), KeyIs H k v ∧ Is H v d ∧ nameOk d = false ∧ Dep 1 d ∧ (∀ s ∈ names4, k ≠ .text s) ∧ k ≠ .text "worse"
def BadRow (H : Hp) (u : V) : Prop := ∃ e, Is H u e ∧ rkP e ∧ rankOk e = false
theorem BadKey.mono {H H' : Hp} (e : Same H H') {v : V} (h : BadKey H v) : BadKey H' v := by
  obtain ⟨k, d, h1, h2, h3⟩ := h
  exact ⟨k, d, h1.mono e, h2.mono e, h3⟩
theorem BadRow.mono {H H' : Hp} (e : Same H H') {v : V} (h : BadRow H v) : BadRow H' v := by
  obtain ⟨d, h1, h3⟩ := h
  exact ⟨d, h1.mono e, h3⟩
theorem str_key (s : Str) (h : s ∉ names4) (hw : s ≠ "worse") (hn : nameOk (.str s) = false) (hl : s.length ≤ 1000) (H : Hp) : BadKey H (.str s) :=
  ⟨.text s, .str s, .str s, .str s hl, hn, .str 1 s, fun x m z => h (NestedKey.text.inj z ▸ m), fun z => hw (NestedKey.text.inj z)⟩
end K00

set_option Elab.async false
set_option linter.all false
set_option maxRecDepth 100000
set_option maxHeartbeats 4000000
namespace K00
open PySem PySem.Spec PyProof.Rows L2 Sr LamX
abbrev Tb (P1 P2 : Addr) : List (Addr × Str) := [(P1, "_law_ranks_refused" ++ ".<locals>." ++ "<lambda>"), (P2, "law" ++ ".<locals>." ++ "<lambda>")]
/-- a def with lambdas as a Cal: its code object is known -/
theorem calT {P : Program} {w : World} {K : PySem.W.Frag} {mg : Str → Option Value} {base : Heap} {x : Str} {st : Stmt} {N ps : List Str} {k : Nat} {sp : Sp} (D : Dfn K mg x st) (S : FnScope N ps (defScope st))
    (hb : ∀ (kV doc pm : Value) (an : Option Addr) (cdv ct : Value) (us : List Value), us.length = ps.length → bindArgs (PySem.W.fnOf x x (defArgs st) (defBody st) (defScope st) .none kV doc pm an cdv ct) ⟨us, []⟩ = pure (ps.zip us))
    (len : ∀ vs H Q E, sp vs H Q E → vs.length = ps.length)
    (hbody : ∀ (A : Around) (outer : List Env) (s : Shared) (H : Hp) (vs : List V) (Q : VK) (E : XK), Room k (A.deeper (envOfC x (defScope st) s.heap.objs.size (He.ga K x) (.ref (He.codeOf K (x, none))))) → sp vs H Q E →
      ∃ t, PSs (cxOf CX0 P w K mg base N x (defScope st) (He.ga K x) (.ref (He.codeOf K (x, none))) A outer s H E) (defBody st) t ∧ t { nx := fun _ H' => Q .non H', rt := Q } (L2.start N vs) H) : Cal P w K mg base (k + 1) x ps sp := by
  obtain ⟨fd, F⟩ := D.fn
  exact ⟨He.ga K x, fd, fun_ok F S len hbody, D.at_, F.kp, F.bindsN hb⟩
theorem at_nat {xs : List V} {i : Nat} {u : V} (h : xs[i]? = some u) : atI xs (i : Int) = some u := by
  have hl := (List.getElem?_eq_some_iff.mp h).1
  unfold atI ixN
  simp [hl]
  exact (List.getElem?_eq_some_iff.mp h).2
theorem dep_le : ∀ {n m : Nat} {d : Dt}, Dep n d → n ≤ m → Dep m d
  | _, _, _, .non _, _ => .non _
  | _, _, _, .bl _ b, _ => .bl _ b
  | _, _, _, .int _ i, _ => .int _ i
  | _, _, _, .str _ s, _ => .str _ s
  | _, 0, _, .lst n l h, z => by omega
  | _, 0, _, .tup n l h, z => by omega
  | _, m + 1, _, .lst n l h, z => .lst m l fun d hd => dep_le (h d hd) (by omega)
  | _, m + 1, _, .tup n l h, z => .tup m l fun d hd => dep_le (h d hd) (by omega)
/-- what is no dict -/
def OddV (M : Hp) (v : V) : Prop := ∃ d, Is M v d ∧ d ≠ .dic ∧ Dep 3 d
theorem OddV.ext {H H' : Hp} (e : ExtN H H') {v : V} (h : OddV H v) : OddV H' v := by
  obtain ⟨d, h1, h2⟩ := h
  exact ⟨d, h1.ext e, h2⟩
/-- the wrong entries, laid as pairs in a list -/
def BadsL (M : Hp) (bl : Addr) (bs : List Addr) : Prop := M bl = some (.lst (bs.map V.ref)) ∧ ∀ t ∈ bs, ∃ v u, M t = some (.tup [v, u]) ∧ BadEnt M v u
theorem BadsL.ext {H H' : Hp} (e : ExtN H H') {bl : Addr} {bs : List Addr} (h : BadsL H bl bs) : BadsL H' bl bs := by
  obtain ⟨h1, h3⟩ := h
  refine ⟨e _ _ h1 (fun _ z => by cases z), fun t m => ?_⟩
  obtain ⟨v, u, a, b⟩ := h3 t m
  exact ⟨v, u, e _ _ a (fun _ z => by cases z), b.ext e⟩
theorem ext_rm {H H' : Hp} {a : Addr} (e : ExtN H H') : ExtN (rm H a) (rm H' a) := fun b o h n => by
  by_cases c : b = a
  · rw [c, rm_at] at h
    cases h
  · rw [rm_ne c] at h ⊢
    exact e b o h n
theorem draws_ext {H H' : Hp} {a : Addr} (e : ExtN H H') (d : DrawsAt H a) : DrawsAt H' a := by
  obtain ⟨o, h, x⟩ := d
  refine ⟨o, e _ _ h (fun ps z => ?_), x⟩
  obtain ⟨_, _, _, rfl⟩ := x
  cases z
/-- a dict that is no ranks, for the key v -/
def Handed (w : World) (H : Hp) (d : Addr) (v : V) : Prop := ∃ (kvs : List KV3) (j : Nat) (p : KV3), MixAt w H d kvs ∧ kvs[j]? = some p ∧ p.2.1 = v ∧ (∀ (i : Nat) (q : KV3), i < j → kvs[i]? = some q → ∃ k u, entD H q k u ∧ nameOk k = true ∧ rankOk u = true) ∧ ∃ k u, entD H p k u ∧ (nameOk k && rankOk u) = false
theorem Handed.ext {w : World} {H H' : Hp} {d : Addr} {v : V} (e : ExtN H H') (h : Handed w H d v) : Handed w H' d v := by
  obtain ⟨kvs, j, p, m, hj, ev, bf, k, u, hb, hf⟩ := h
  refine ⟨kvs, j, p, m.ext e, hj, ev, fun i q lt hq => ?_, k, u, hb.ext e, hf⟩
  obtain ⟨k', u', h1, h2⟩ := bf i q lt hq
  exact ⟨k', u', h1.ext e, h2⟩
def spRR (P1 P2 : Addr) : Sp := fun vs H Q _ => ∃ (a r : Addr) (rs : List Rk), vs = [.ref a, .ref r] ∧ DrawsAt H a ∧ RanksR (rm H a) r rs ∧ drawnR rs ∧ Tabs (Tb P1 P2) H ∧ ∀ H', DrawsAt H' a → ExtN (rm H a) (rm H' a) → Tabs (Tb P1 P2) H' → Q (.bl true) H'
section
variable {P : Program} {w : World} {K : PySem.W.Frag} {mg : Str → Option Value} {base : Heap}
abbrev s__law_ranks_refused : Stmt := top 22
theorem sc__law_ranks_refused : FnScope ["draws", "ranks", "keys", "rows", "bad", "odd", "good", "spot", "handed"] ["draws", "ranks"] (defScope s__law_ranks_refused) := ⟨rfl, rfl, rfl, by decide +kernel, rfl, by decide +kernel, by decide +kernel⟩
theorem c__law_ranks_refused {P1 P2 CR CK fR fK : Addr} (T : Txt K mg) (D : Dfn K mg "_law_ranks_refused" s__law_ranks_refused) (TB : TabB base mg (He.codeOf K ("_law_ranks_refused", none)) P1) (nP : P1 ≠ P2) (D_law_refused : Dfn K mg "_law_refused" s__law_refused)
    (hR : mg "BadRank" = some (.ref CR)) (hK : mg "BadKind" = some (.ref CK)) (ER : Err K CR fR "kind") (EK : Err K CK fK "kind") (eR : CR = He.ga K "BadRank") (eK : CK = He.ga K "BadKind")
    (x11 : PySem.W.exmOne K (.ref CR) (.ref CR) = some true) (x22 : PySem.W.exmOne K (.ref CK) (.ref CK) = some true) (x21 : PySem.W.exmOne K (.ref CK) (.ref CR) = some false)
    (C_law_draw : Cal P w K mg base 1 "_law_draw" ["draws", "many"] spDraw) (C_law_pick : Cal P w K mg base 2 "_law_pick" ["draws", "xs"] (spPick K)) (C_law_same : Cal P w K mg base 6 "_law_same" ["found", "due"] (spDeep 5)) (Mk0 : MkO P w K mg base) :
    Cal P w K mg base 10 "_law_ranks_refused" ["draws", "ranks"] (spRR P1 P2) := by
  refine calT D sc__law_ranks_refused (fun _ _ _ _ _ _ us hl => match us, hl with | [_, _], _ => rfl) (fun vs H Q E h => ?_) fun A outer s H vs Q E hr h => ?_
  · obtain ⟨a, r, rs, rfl, _⟩ := h
    rfl
  obtain ⟨a, r, rs, rfl, hd, hk, dr, tab, q⟩ := h
  refine ⟨_, PSs.nox (pss_cons (ps_par (i := 6) (j := 7) (by rfl) sc__law_ranks_refused.nd rfl rfl (by decide) rfl rfl (pa_cons (LiI.pe_listItems rfl (pv 1) (by rfl) T.list (by decide +kernel)) (pa_cons (pe_cal C_law_draw hr (by first | decide | omega) (by rfl) (pa_cons (pv 0) (pa_cons (pe_op op_add (pe_callB (id := "len") call_lenD (by rfl) T.len (by decide +kernel) (pa_cons (pv 1) pa_nil)) pe_int) pa_nil))) pa_nil)) (by rfl))
      (pss_cons (ps_set (i := 2) sc__law_ranks_refused.nd rfl (by first | exact Or.inl rfl | exact Or.inr rfl) (pe_lst (pa_cons pe_non (pa_cons pe_int (pa_cons pe_str (pa_cons pe_str (pa_cons pe_str (pa_cons pe_str (pa_cons pe_bl (pa_cons (pe_tup (pa_cons pe_str pa_nil)) pa_nil))))))))))
      (pss_cons (ps_set (i := 3) sc__law_ranks_refused.nd rfl (by first | exact Or.inl rfl | exact Or.inr rfl) (pe_lst (pa_cons pe_non (pa_cons pe_int (pa_cons pe_str (pa_cons (pe_lst (pa_cons pe_str pa_nil)) (pa_cons (pe_lst (pa_cons pe_str (pa_cons pe_str pa_nil))) (pa_cons (pe_lst (pa_cons pe_non pa_nil)) (pa_cons (pe_lst (pa_cons pe_bl pa_nil)) (pa_cons pe_dnewK (pa_cons (pe_lst (pa_cons pe_str (pa_cons pe_str (pa_cons pe_str pa_nil)))) (pa_cons (pe_lst (pa_cons (pe_lst (pa_cons pe_str pa_nil)) pa_nil)) pa_nil))))))))))))
      (pss_cons (ps_for PassesOwn.never rfl (pi_list (pe_lst (pa_cons (pe_tup (pa_cons (pe_cal C_law_pick hr (by first | decide | omega) (by rfl) (pa_cons (pv 0) (pa_cons (pv 2) pa_nil))) (pa_cons (pe_lst (pa_cons pe_str pa_nil)) pa_nil))) (pa_cons (pe_tup (pa_cons pe_str (pa_cons (pe_cal C_law_pick hr (by first | decide | omega) (by rfl) (pa_cons (pv 0) (pa_cons (pv 3) pa_nil))) pa_nil))) pa_nil)))) (pg_name (i := 4) sc__law_ranks_refused.nd rfl (by first | exact Or.inl rfl | exact Or.inr rfl))
      (pss_cons (ps_set (i := 8) sc__law_ranks_refused.nd rfl (by first | exact Or.inl rfl | exact Or.inr rfl) (pe_callTy (T := "dict") (call_dictM rfl hr.units) (by rfl) T.dict (by decide +kernel) (pa_cons (pe_op op_cat (pe_op op_cat (pe_op op_cat (pe_slice sl_list (pv 6) po_none (po_some (pv 7))) (pe_lst (pa_cons (pv 4) pa_nil))) (pe_slice sl_list (pv 6) (po_some (pv 7)) po_none)) (pe_lst (pa_cons (pe_tup (pa_cons pe_str (pa_cons pe_non pa_nil))) pa_nil))) pa_nil)))
      (pss_one (ps_if (pt_not (pt_val (pe_cal C_law_same hr (by first | decide | omega) (by rfl) (pa_cons (pe_lamT (Tb P1 P2) ("_law_ranks_refused" ++ ".<locals>.") D_law_refused sc__law_refused (fun _ _ _ _ _ _ us hl => match us, hl with | [_], _ => rfl) (.head _) (fun p hp e => by simp only [List.mem_cons, List.not_mem_nil, or_false] at hp; rcases hp with rfl | rfl; exact rfl; exact absurd e.symm nP) (fun cdv => g_refused hR hK ER EK x11 x22 x21 cdv _) TB rfl hr (fun A outer s H E f c' hr => (MkO.pe (K := K) (w := w) Mk0 rfl rfl hr (by decide) (by rfl) (passes_def rfl rfl rfl rfl) (pa_cons (pv 8) pa_nil))) (by rfl) (lamS_by (by show lamSB (defScope s__law_ranks_refused) _ = true; decide +kernel)) (fun _ _ _ _ _ => rfl)) (pa_cons (pe_tup (pa_cons pe_str (pa_cons (pe_ix ix_tup (pv 4) pe_int (fun _ _ => rfl)) pa_nil))) pa_nil))))) (pss_one (ps_ret pe_bl)) pss_nil))))
      (pss_cons (ps_for PassesOwn.never rfl (pi_list (pe_lst (pa_cons pe_non (pa_cons pe_int (pa_cons (pe_lst pa_nil) (pa_cons pe_str (pa_cons (pe_lst (pa_cons (pe_tup (pa_cons pe_str (pa_cons (pe_lst pa_nil) pa_nil))) pa_nil)) (pa_cons pe_bl pa_nil)))))))) (pg_name (i := 5) sc__law_ranks_refused.nd rfl (by first | exact Or.inl rfl | exact Or.inr rfl))
      (pss_one (ps_if (pt_not (pt_val (pe_cal C_law_same hr (by first | decide | omega) (by rfl) (pa_cons (pe_lamT (Tb P1 P2) ("_law_ranks_refused" ++ ".<locals>.") D_law_refused sc__law_refused (fun _ _ _ _ _ _ us hl => match us, hl with | [_], _ => rfl) (.head _) (fun p hp e => by simp only [List.mem_cons, List.not_mem_nil, or_false] at hp; rcases hp with rfl | rfl; exact rfl; exact absurd e.symm nP) (fun cdv => g_refused hR hK ER EK x11 x22 x21 cdv _) TB rfl hr (fun A outer s H E f c' hr => (MkO.pe (K := K) (w := w) Mk0 rfl rfl hr (by decide) (by rfl) (passes_def rfl rfl rfl rfl) (pa_cons (pv 5) pa_nil))) (by rfl) (lamS_by (by show lamSB (defScope s__law_ranks_refused) _ = true; decide +kernel)) (fun _ _ _ _ _ => rfl)) (pa_cons (pe_tup (pa_cons pe_str (pa_cons (pv 5) pa_nil))) pa_nil))))) (pss_one (ps_ret pe_bl)) pss_nil)))
      (pss_one (ps_ret pe_bl))))))), ?_⟩
  refine cut_if (fun σ H' => ∃ (gl : Addr) (n : Nat), σ = [some (.ref a), some (.ref r), none, none, none, none, some (.ref gl), some (.int (n : Nat)), none] ∧ DrawsAt H' a ∧ Same (rm H a) (rm H' a) ∧ n ≤ rs.length ∧ GoodL (rm H' a) gl rs) ?_ fun rest => ?_
  rotate_left
  · obtain ⟨kvs, hkr, he⟩ := hk
    refine ⟨_, rfl, r, kvs, rfl, rm_same _ _ hkr, fun H1 p ts s1 np nt pn hp1 pr => ?_⟩
    have s1 : Same H H1 := s1
    have lk : kvs.length = rs.length := Paired.length he
    have d1 := hd.up s1
    refine ⟨_, rfl, _, rfl, r, kvs, rfl, s1 _ _ (rm_same _ _ hkr), _, _, rfl, rfl, a, _, rfl, d1, by omega, by have := dr.2.1; omega, fun k o k0 k1 ho => ⟨_, _, rfl, ?_⟩⟩
    have sr := Same.rm (a := a) s1
    have npa : p ≠ a := fun z => hd.some (by rw [← z]; exact np)
    obtain ⟨n, rfl⟩ := Int.eq_ofNat_of_zero_le k0
    refine rest _ _ ⟨p, n, rfl, ⟨o, upd_same, ho⟩, by rw [rm_upd]; exact sr, by omega, ts, kvs, by rw [rm_upd, rm_ne npa]; exact hp1, ?_, by rw [rm_upd]; exact he.imp fun v ws h => h.mono sr⟩
    rw [rm_upd]
    refine L2.Paired.mapP pr fun t q h => ?_
    rw [rm_ne fun z => by
      obtain ⟨o, e, _, _, _, rfl⟩ := d1
      rw [← z, h] at e
      cases e]
    exact h
  rintro σ H1 ⟨gl, n, rfl, hd1, s1, le, hg⟩
  try dsimp only
  refine cut_if (fun σ H' => ∃ (kl : Addr), σ = [some (.ref a), some (.ref r), some (.ref kl), none, none, none, some (.ref gl), some (.int (n : Nat)), none] ∧ Same H1 H' ∧ ∃ ks, H' kl = some (.lst ks) ∧ ks.length = 8 ∧ ∀ v ∈ ks, BadKey (rm H' a) v) ?_ fun rest => ?_
  rotate_left
  · refine ⟨lineN (n := 1), fun t ht => ⟨lineN (n := 8), fun kl hkl => ?_⟩⟩
    have st := Same.up (H := H1) (o := .tup [.str "red"]) ht
    have sk := Same.up (o := .lst [.non, .int 5, .str "", .str "Red", .str "ninesigns", .str "a b", .bl true, .ref t]) hkl
    refine rest _ _ ⟨kl, rfl, st.trans sk, _, upd_same, rfl, fun v m => ?_⟩
    simp only [List.mem_cons, List.not_mem_nil, or_false] at m
    rcases m with rfl | rfl | rfl | rfl | rfl | rfl | rfl | rfl
    · exact ⟨_, _, .non, .non, rfl, .non 1, fun s _ z => (by cases z), fun z => (by cases z)⟩
    · exact ⟨_, _, .int 5, .int 5, rfl, .int 1 5, fun s _ z => (by cases z), fun z => (by cases z)⟩
    · exact str_key _ (by decide +kernel) (by decide +kernel) (by decide +kernel) (by decide +kernel) _
    · exact str_key _ (by decide +kernel) (by decide +kernel) (by decide +kernel) (by decide +kernel) _
    · exact str_key _ (by decide +kernel) (by decide +kernel) (by decide +kernel) (by decide +kernel) _
    · exact str_key _ (by decide +kernel) (by decide +kernel) (by decide +kernel) (by decide +kernel) _
    · exact ⟨_, _, .bl true, .bl true, rfl, .bl 1 true, fun s _ z => (by cases z), fun z => (by cases z)⟩
    · have nta : t ≠ a := fun z => hd1.some (by rw [← z]; exact ht)
      have h1 := (Same.rm (a := a) sk) t (.tup [.str "red"]) (by rw [rm_ne nta, upd_same])
      exact ⟨_, .tup [.str "red"], .tup (ss := ["red"]) h1, .tup h1 (.cons (.str _ (by decide +kernel)) .nil) (by show 1 ≤ 60; decide), rfl, .tup 0 _ (fun d m => by rw [List.mem_singleton.mp m]; exact .str 0 _), fun s _ z => (by cases z), fun z => (by cases z)⟩
  rintro σ H2 ⟨kl, rfl, s2, ks, hkl, kn, hks⟩
  try dsimp only
  refine cut_if (fun σ H' => ∃ (rl : Addr), σ = [some (.ref a), some (.ref r), some (.ref kl), some (.ref rl), none, none, some (.ref gl), some (.int (n : Nat)), none] ∧ Same H2 H' ∧ ∃ us, H' rl = some (.lst us) ∧ us.length = 10 ∧ ∀ u ∈ us, BadRow (rm H' a) u) ?_ fun rest => ?_
  rotate_left
  · refine ⟨lineN (n := 1), fun l1 h1 => ⟨lineN (n := 2), fun l2 h2 => ⟨lineN (n := 1), fun l3 h3 => ⟨lineN (n := 1), fun l4 h4 => fun l5 h5 => ⟨lineN (n := 3), fun l6 h6 => ⟨lineN (n := 1), fun l7 h7 => ⟨lineN (n := 1), fun l8 h8 => ⟨lineN (n := 10), fun rl hrl => ?_⟩⟩⟩⟩⟩⟩⟩⟩
    have s0 := s2
    have s1 := Same.up (H := H2) (o := .lst [.str "point"]) h1
    have s2 := Same.up (o := .lst [.str "few", .str "few"]) h2
    have s3 := Same.up (o := .lst [.non]) h3
    have s4 := Same.up (o := .lst [.bl true]) h4
    have s5 := Same.up (o := .dK []) h5
    have s6 := Same.up (o := .lst [.str "early", .str "late", .str "early"]) h6
    have s7 := Same.up (o := .lst [.str "few"]) h7
    have s8 := Same.up (o := .lst [.ref l7]) h8
    have s9 := Same.up (o := .lst [.non, .int 5, .str "points", .ref l1, .ref l2, .ref l3, .ref l4, .ref l5, .ref l6, .ref l8]) hrl
    have sA := s1.trans (s2.trans (s3.trans (s4.trans (s5.trans (s6.trans (s7.trans (s8.trans s9)))))))
    refine rest _ _ ⟨rl, rfl, sA, _, upd_same, rfl, fun v m => ?_⟩
    have dn : ∀ {G : Hp} {l : Addr}, DrawsAt G a → G l = none → l ≠ a := fun d h z => d.some (by rw [← z]; exact h)
    have d0 := hd1.up s0
    have d1 := d0.up s1
    have d2 := d1.up s2
    have d3 := d2.up s3
    have d4 := d3.up s4
    have d5 := d4.up s5
    have d6 := d5.up s6
    have d7 := d6.up s7
    have off : ∀ {G G' : Hp} {l : Addr} {o : HO}, DrawsAt G a → G l = none → Same (upd G l o) G' → rm G' a l = some o := fun d h s => by
      rw [rm_ne (dn d h)]
      exact s _ _ upd_same
    have sm : ∀ s ∈ ([Str.ofString "point", Str.ofString "few", Str.ofString "early", Str.ofString "late", Str.ofString "points"] : List Str), s.length ≤ 1000 := by decide +kernel
    have fl : ∀ {e : Dt} {l : List Dt}, seqOf e = some l → (∀ x ∈ l, flatD x) → rkP e := fun {e l} h f l' h' x mx => by
      rw [h] at h'
      cases h'
      exact .inl (f x mx)
    simp only [List.mem_cons, List.not_mem_nil, or_false] at m
    rcases m with rfl | rfl | rfl | rfl | rfl | rfl | rfl | rfl | rfl | rfl
    · exact ⟨.non, .non, fun l e => (by cases e), rfl⟩
    · exact ⟨.int 5, .int 5, fun l e => (by cases e), rfl⟩
    · exact ⟨.str "points", .str _ (sm _ (by simp)), fun l e => (by cases e), rfl⟩
    · exact ⟨.lst [.str "point"], .lst (off d0 h1 (s2.trans (s3.trans (s4.trans (s5.trans (s6.trans (s7.trans (s8.trans s9)))))))) (.cons (.str _ (sm _ (by simp))) .nil) (by show 1 ≤ 60; decide), fl rfl (fun x m => by rw [List.mem_singleton.mp m]; exact ⟨rfl, fun z => by cases z⟩), by decide +kernel⟩
    · exact ⟨.lst [.str "few", .str "few"], .lst (off d1 h2 (s3.trans (s4.trans (s5.trans (s6.trans (s7.trans (s8.trans s9))))))) (.cons (.str _ (sm _ (by simp))) (.cons (.str _ (sm _ (by simp))) .nil)) (by show 2 ≤ 60; decide), fl rfl (fun x m => by simp only [List.mem_cons, List.not_mem_nil, or_false] at m; rcases m with rfl | rfl <;> exact ⟨rfl, fun z => by cases z⟩), by decide +kernel⟩
    · exact ⟨.lst [.non], .lst (off d2 h3 (s4.trans (s5.trans (s6.trans (s7.trans (s8.trans s9)))))) (.cons .non .nil) (by show 1 ≤ 60; decide), fl rfl (fun x m => by rw [List.mem_singleton.mp m]; exact ⟨rfl, fun z => by cases z⟩), by decide +kernel⟩
    · exact ⟨.lst [.bl true], .lst (off d3 h4 (s5.trans (s6.trans (s7.trans (s8.trans s9))))) (.cons (.bl true) .nil) (by show 1 ≤ 60; decide), fl rfl (fun x m => by rw [List.mem_singleton.mp m]; exact ⟨rfl, fun z => by cases z⟩), by decide +kernel⟩
    · exact ⟨.dic, .dic (off d4 h5 (s6.trans (s7.trans (s8.trans s9)))), fun l e => (by cases e), rfl⟩
    · exact ⟨.lst [.str "early", .str "late", .str "early"], .lst (off d5 h6 (s7.trans (s8.trans s9))) (.cons (.str _ (sm _ (by simp))) (.cons (.str _ (sm _ (by simp))) (.cons (.str _ (sm _ (by simp))) .nil))) (by show 3 ≤ 60; decide), fl rfl (fun x m => by simp only [List.mem_cons, List.not_mem_nil, or_false] at m; rcases m with rfl | rfl | rfl <;> exact ⟨rfl, fun z => by cases z⟩), by decide +kernel⟩
    · refine ⟨.lst [.lst [.str "few"]], .lst (off d7 h8 s9) (.cons (.lst (off d6 h7 (s8.trans s9)) (.cons (.str _ (sm _ (by simp))) .nil) (by show 1 ≤ 60; decide)) .nil) (by show 1 ≤ 60; decide), fun l e x m => ?_, by decide +kernel⟩
      cases e
      rw [List.mem_singleton.mp m]
      exact .inr ⟨rfl, rfl, by decide +kernel⟩
  rintro σ H3 ⟨rl, rfl, s3, us, hrl, un, hus⟩
  try dsimp only
  have sA := s2.trans s3
  have dA := hd1.up sA
  have sr1 := s1.trans (Same.rm sA)
  have hkl3 := s3 _ _ hkl
  have nka : kl ≠ a := fun z => by
    obtain ⟨o, e, _, _, _, rfl⟩ := dA
    rw [← z, hkl3] at e
    cases e
    simp at kn
  have nra : rl ≠ a := fun z => by
    obtain ⟨o, e, _, _, _, rfl⟩ := dA
    rw [← z, hrl] at e
    cases e
    simp at un
  refine ⟨_, rfl, _, rfl, a, kl, ks, rfl, dA, nka, .inl (SqL.of hkl3), by omega, by omega, fun j1 v1 o1 hv1 ho1 => ⟨lineN (n := 1), fun pl hpl => ⟨lineN (n := 2), fun t1 ht1 => ?_⟩⟩⟩
  have dB : DrawsAt (upd H3 a o1) a := ⟨o1, upd_same, ho1⟩
  have sB1 := Same.up (H := upd H3 a o1) (o := .lst [.str "points"]) hpl
  have sB2 := Same.up (o := .tup [v1, .ref pl]) ht1
  have hrl2 := (sB1.trans sB2) _ _ ((upd_ne nra).trans hrl)
  refine ⟨_, rfl, _, rfl, a, rl, us, rfl, dB.up (sB1.trans sB2), nra, .inl (SqL.of hrl2), by omega, by omega, fun j2 u2 o2 hu2 ho2 => ⟨lineN (n := 2), fun t2 ht2 => ⟨lineN (n := 2), fun bl hbl => ?_⟩⟩⟩
  have sB := sB1.trans sB2
  have dC : DrawsAt (upd (upd (upd (upd H3 a o1) pl (.lst [.str "points"])) t1 (.tup [v1, .ref pl])) a o2) a := ⟨o2, upd_same, ho2⟩
  have sC1 := Same.up (H := upd (upd (upd (upd H3 a o1) pl (.lst [.str "points"])) t1 (.tup [v1, .ref pl])) a o2) (o := .tup [.str "bad", u2]) ht2
  have sC2 := Same.up (o := .lst [.ref t1, .ref t2]) hbl
  have sC := sC1.trans sC2
  have dD := dC.up sC
  have rB : Same (rm H3 a) _ := (show Same (rm H3 a) (rm (upd H3 a o1) a) by rw [rm_upd]; exact Same.refl _).trans (Same.rm (a := a) sB)
  have rC : Same _ _ := (show Same _ (rm (upd (upd (upd (upd H3 a o1) pl (.lst [.str "points"])) t1 (.tup [v1, .ref pl])) a o2) a) by rw [rm_upd]; exact Same.refl _).trans (Same.rm (a := a) sC)
  have dn : ∀ {G : Hp} {l : Addr}, DrawsAt G a → G l = none → l ≠ a := fun d h z => d.some (by rw [← z]; exact h)
  have off : ∀ {G G' : Hp} {l : Addr} {o : HO}, DrawsAt G a → G l = none → Same (upd G l o) G' → rm G' a l = some o := fun d h s => by
    rw [rm_ne (dn d h)]
    exact s _ _ upd_same
  have hpl2 := rC _ _ (off dB hpl sB2)
  have ht12 := rC _ _ (off (o := .tup [v1, .ref pl]) (dB.up sB1) ht1 (Same.refl _))
  have ht22 := off dC ht2 sC2
  have hbl2 := off (o := .lst [.ref t1, .ref t2]) (dC.up sC1) hbl (Same.refl _)
  obtain ⟨k1, e1, ki1, is1, no1, dp1, nn1, nw1⟩ := ((hks v1 (List.mem_of_getElem? hv1)).mono ((Same.rm s3).trans (rB.trans rC)))
  obtain ⟨e2, is2, rp2, no2⟩ := ((hus u2 (List.mem_of_getElem? hu2)).mono (rB.trans rC))
  have wpt : (Str.ofString "points").length ≤ 1000 := by decide +kernel
  have wbd : (Str.ofString "bad").length ≤ 1000 := by decide +kernel
  have bads : BadsL _ bl [t1, t2] := ⟨hbl2, fun t m => by
    simp only [List.mem_cons, List.not_mem_nil, or_false] at m
    rcases m with rfl | rfl
    · exact ⟨v1, .ref pl, ht12, k1, e1, .lst [.str "points"], ki1, is1, .lst hpl2 (.cons (.str _ wpt) .nil) (by show 1 ≤ 60; decide), fun l h x mx => (by cases h; rw [List.mem_singleton.mp mx]; exact .inl ⟨rfl, fun z => by cases z⟩), by rw [no1]; rfl, dp1, nn1, nw1⟩
    · exact ⟨.str "bad", u2, ht22, .text "bad", .str "bad", e2, .str _, .str _ wbd, is2, rp2, by rw [no2, Bool.and_false], .str 1 _, fun s ms z => absurd (NestedKey.text.inj z ▸ ms) (by decide +kernel), fun z => absurd (NestedKey.text.inj z) (by decide +kernel)⟩⟩
  have sAll := sr1.trans (rB.trans rC)
  have tabA : Tabs (Tb P1 P2) _ := Tabs.ext (Tabs.ext (Tabs.off tab hd) sAll) (rm_same (a := a))
  have good := hg.mono ((Same.rm sA).trans (rB.trans rC))
  refine ⟨bl, rfl, ⟨_, SqL.of upd_same⟩, ?_⟩
  refine for_it walk_list (fun i σ H' => (∃ vb v8, σ = [some (.ref a), some (.ref r), some (.ref kl), some (.ref rl), vb, none, some (.ref gl), some (.int (n : Nat)), v8]) ∧ DrawsAt H' a ∧ ExtN (rm H a) (rm H' a) ∧ Tabs (Tb P1 P2) H' ∧ GoodL (rm H' a) gl rs ∧ BadsL (rm H' a) bl [t1, t2]) ⟨⟨_, _, rfl⟩, dD, ExtN.of sAll, tabA, good, bads⟩ (fun i σ H' hi p => SqL.of (rm_same _ _ p.2.2.2.2.2.1)) ?_ ?_
  · rintro i x σ G0 G hi ⟨⟨vb, v8, rfl⟩, dG, eG, tG, gG, bG⟩ ⟨rfl, hx⟩
    obtain ⟨t, mt, rfl⟩ : ∃ t, t ∈ [t1, t2] ∧ x = .ref t := by
      obtain ⟨t, mt, e⟩ := List.mem_map.mp (List.mem_of_getElem? hx)
      exact ⟨t, mt, e.symm⟩
    obtain ⟨v, u, ht, be⟩ := bG.2 t mt
    change tSeq _ _ _ _ _
    refine cut_if (fun σ H' => ∃ d, σ = [some (.ref a), some (.ref r), some (.ref kl), some (.ref rl), some (.ref t), none, some (.ref gl), some (.int (n : Nat)), some (.ref d)] ∧ Same G H' ∧ Handed w H' d v) ?_ fun rest => ?_
    rotate_left
    · obtain ⟨ts, kvs, hgl, pr, he⟩ := gG
      have hgl0 := rm_same _ _ hgl
      have lk : kvs.length = rs.length := Paired.length he
      have lt : ts.length = rs.length := by rw [Paired.length pr, lk]
      refine ⟨_, rfl, _, rfl, _, rfl, gl, _, rfl, SqL.of hgl0, fun p1 h1 => ?_⟩
      have ec1 : cutV (ts.map V.ref) none (some (n : Int)) = (ts.take n).map V.ref := (cut_to (ts.map V.ref) (k := n) (by rw [List.length_map]; omega)).trans (by rw [List.map_take])
      rw [ec1]
      have s1 := Same.up (H := G) (o := .lst ((ts.take n).map V.ref)) h1
      refine ⟨_, rfl, lineN (n := 1), fun p2 h2 => ?_⟩
      have s2 := Same.up (o := .lst [.ref t]) h2
      have l1 : (ts.take n).length ≤ 4 := by rw [List.length_take]; have := dr.2.1; omega
      have l2 : (ts.drop n).length ≤ 4 := by rw [List.length_drop]; have := dr.2.1; omega
      refine ⟨p1, p2, (ts.take n).map V.ref, [.ref t], rfl, rfl, s2 _ _ upd_same, upd_same, lineN (by rw [List.length_map]; show (ts.take n).length + 1 ≤ 1000; omega), fun p3 h3 => ?_⟩
      have s3 := Same.up (o := .lst ((ts.take n).map V.ref ++ [.ref t])) h3
      refine ⟨_, rfl, _, rfl, _, rfl, gl, _, rfl, SqL.of ((s1.trans (s2.trans s3)) _ _ hgl0), fun p4 h4 => ?_⟩
      have ec2 : cutV (ts.map V.ref) (some (n : Int)) none = (ts.drop n).map V.ref := (cut_from (ts.map V.ref) (k := n) (by rw [List.length_map]; omega)).trans (by rw [List.map_drop])
      rw [ec2]
      have s4 := Same.up (o := .lst ((ts.drop n).map V.ref)) h4
      refine ⟨p3, p4, _, (ts.drop n).map V.ref, rfl, rfl, s4 _ _ upd_same, upd_same, lineN (by rw [List.length_append, List.length_map, List.length_map]; show (ts.take n).length + 1 + (ts.drop n).length ≤ 1000; omega), fun p5 h5 => ?_⟩
      have s5 := Same.up (o := .lst ((ts.take n).map V.ref ++ [.ref t] ++ (ts.drop n).map V.ref)) h5
      refine ⟨lineN (n := 2), fun t9 h9 => ⟨lineN (n := 1), fun p6 h6 => ?_⟩⟩
      have s9 := Same.up (o := .tup [.str "worse", .non]) h9
      have s6 := Same.up (o := .lst [.ref t9]) h6
      refine ⟨p5, p6, _, [.ref t9], rfl, rfl, (s9.trans s6) _ _ upd_same, upd_same, lineN (by rw [List.length_append, List.length_append, List.length_map, List.length_map]; show (ts.take n).length + 1 + (ts.drop n).length + 1 ≤ 1000; omega), fun p7 h7 => ?_⟩
      have s7 := Same.up (o := .lst ((ts.take n).map V.ref ++ [.ref t] ++ (ts.drop n).map V.ref ++ [.ref t9])) h7
      have sG := s1.trans (s2.trans (s3.trans (s4.trans (s5.trans (s9.trans (s6.trans s7))))))
      have sM : Same (rm G a) _ := rm_same.trans sG
      obtain ⟨k, dk, e, ki, ik, iu, rp, no, dp, nn, nw⟩ := be.mono sM
      have pr2 := m3_pairs (K := K) (L2.Paired.mapP pr fun _ _ h => sM _ _ h)
      have he2 := he.imp fun v ws h => TupV.mono sM h
      have h72 := upd_same (a := p7) (H := upd (upd (upd (upd (upd (upd (upd G p1 (.lst ((ts.take n).map V.ref))) p2 (.lst [.ref t])) p3 (.lst ((ts.take n).map V.ref ++ [.ref t]))) p4 (.lst ((ts.drop n).map V.ref))) p5 (.lst ((ts.take n).map V.ref ++ [.ref t] ++ (ts.drop n).map V.ref))) t9 (.tup [.str "worse", .non])) p6 (.lst [.ref t9])) (o := .lst ((ts.take n).map V.ref ++ [.ref t] ++ (ts.drop n).map V.ref ++ [.ref t9]))
      refine ⟨p7, ts.take n ++ [t] ++ ts.drop n ++ [t9], handR kvs n k v u, rfl, SqL.of (by rw [List.map_append, List.map_append, List.map_append]; exact h72), ?_, handR_nodup he dr nn nw, fun d o hd ho => rest _ _ ⟨d, rfl, sG.trans (Same.up hd), handR kvs n k v u, n, (k, v, u), ⟨o, upd_same, ho.mono (Same.up hd)⟩, handR_at (by omega), rfl, fun i q lti hq => ?_, dk, e, ⟨ik.mono (Same.up hd), iu.mono (Same.up hd), rp⟩, no⟩⟩
      · refine pr_app (pr_app (pr_app ?_ (.cons ⟨SqT.of (sM _ _ ht), ki⟩ .nil)) ?_) (.cons ⟨SqT.of ((s6.trans s7) _ _ upd_same), .str _⟩ .nil)
        · have := pr_take n pr2
          rwa [show (m3 kvs).take n = m3 (kvs.take n) by unfold m3; rw [List.map_take]] at this
        · have := pr_drop n pr2
          rwa [show (m3 kvs).drop n = m3 (kvs.drop n) by unfold m3; rw [List.map_drop]] at this
      · obtain ⟨k', u', h1, h2⟩ := m3_good he2 dr.good (handR_before lti (by omega) hq)
        exact ⟨k', u', h1.mono (Same.up hd), h2⟩
    rintro σ G1 ⟨d, rfl, sG, hG⟩
    try dsimp only
    refine ⟨Tabs.ext tG sG, fun G2 e2 tab2 => ?_⟩
    have e02 : ExtN G G2 := (ExtN.of sG).trans e2
    obtain ⟨kvs, j, p, mx, hj, ev, bf, bad⟩ := hG.ext e2
    refine ⟨_, rfl, ?_⟩
    delta tNil
    dsimp only
    refine ok_mixed (K := K) (w := w) mx hj bf bad fun G3 e s3 he => ⟨CR, "rank", e, p.2.1, .inl ⟨rfl, rfl⟩, by rw [eR], rfl, upd_same, fun q1 hq1 => ?_⟩
    have s4 := Same.up (o := .xd [("kind", p.2.1)]) he
    have s5 := Same.up (o := .tup [.str "rank", p.2.1]) hq1
    rw [ev] at *
    have e05 : ExtN G _ := e02.trans (ExtN.of (s3.trans (s4.trans s5)))
    have ht5 := e05 _ _ (rm_same _ _ ht) (fun _ z => by cases z)
    refine ⟨_, rfl, t, _, _, _, rfl, rfl, SqT.of ht5, at_nat (i := 0) rfl, lineN (n := 2), fun q2 hq2 => ?_⟩
    have s6 := Same.up (o := .tup [.str "rank", v]) hq2
    have e06 := e05.trans (ExtN.of s6)
    obtain ⟨k, dk, e1, ki, ik, iu, rp, no, dp, nn, nw⟩ := be.ext ((ExtN.of rm_same).trans e06)
    have wr : (Str.ofString "rank").length ≤ 1000 := by decide +kernel
    have i1 : Is _ (.ref q1) (.tup [.str "rank", dk]) := .tup (s6 _ _ upd_same) (.cons (.str _ wr) (.cons ik .nil)) (by show 2 ≤ 60; decide)
    have i2 : Is _ (.ref q2) (.tup [.str "rank", dk]) := .tup upd_same (.cons (.str _ wr) (.cons ik .nil)) (by show 2 ≤ 60; decide)
    refine ⟨_, _, _, rfl, i1, i2, .tup 4 _ (fun x m => ?_), fun G4 s7 => ⟨_, rfl, iteF ?_⟩⟩
    · simp only [List.mem_cons, List.not_mem_nil, or_false] at m
      rcases m with rfl | rfl
      · exact .str 4 _
      · exact dep_le dp (by decide)
    have e07 := e06.trans (ExtN.of s7)
    refine ⟨⟨_, _, rfl⟩, draws_ext e07 dG, eG.trans (ext_rm e07), ?_, gG.ext (ext_rm e07), bG.ext (ext_rm e07)⟩
    exact Tabs.ext (Tabs.ext tab2 (s3.trans (s4.trans (s5.trans s6)))) s7
  · rintro σ G ⟨⟨vb, v8, rfl⟩, dG, eG, tG, gG, bG⟩
    refine ⟨lineN (n := 0), fun l1 h1 => ⟨lineN (n := 0), fun l2 h2 => ⟨lineN (n := 2), fun t h3 => ⟨lineN (n := 1), fun l3 h4 => ⟨lineN (n := 6), fun ol h5 => ?_⟩⟩⟩⟩⟩
    have s1 := Same.up (H := G) (o := .lst []) h1
    have s2 := Same.up (o := .lst []) h2
    have s3 := Same.up (o := .tup [.str "red", .ref l2]) h3
    have s4 := Same.up (o := .lst [.ref t]) h4
    have s5 := Same.up (o := .lst [.non, .int 5, .ref l1, .str "red", .ref l3, .bl true]) h5
    have sG := s1.trans (s2.trans (s3.trans (s4.trans s5)))
    have hol := off (o := .lst [.non, .int 5, .ref l1, .str "red", .ref l3, .bl true]) ((((dG.up s1).up s2).up s3).up s4) h5 (Same.refl _)
    have odds : ∀ v ∈ ([.non, .int 5, .ref l1, .str "red", .ref l3, .bl true] : List V), OddV (rm (upd (upd (upd (upd (upd G l1 (.lst [])) l2 (.lst [])) t (.tup [.str "red", .ref l2])) l3 (.lst [.ref t])) ol (.lst [.non, .int 5, .ref l1, .str "red", .ref l3, .bl true])) a) v := fun v m => by
      have wr : (Str.ofString "red").length ≤ 1000 := by decide +kernel
      simp only [List.mem_cons, List.not_mem_nil, or_false] at m
      rcases m with rfl | rfl | rfl | rfl | rfl | rfl
      · exact ⟨.non, .non, fun z => (by cases z), .non 3⟩
      · exact ⟨.int 5, .int 5, fun z => (by cases z), .int 3 5⟩
      · exact ⟨.lst [], .lst (off dG h1 (s2.trans (s3.trans (s4.trans s5)))) .nil (Nat.zero_le _), fun z => (by cases z), .lst 2 _ (fun d m => by cases m)⟩
      · exact ⟨.str "red", .str _ wr, fun z => (by cases z), .str 3 _⟩
      · have i2 : Is (rm (upd (upd (upd (upd (upd G l1 (.lst [])) l2 (.lst [])) t (.tup [.str "red", .ref l2])) l3 (.lst [.ref t])) ol (.lst [.non, .int 5, .ref l1, .str "red", .ref l3, .bl true])) a) (.ref l2) (.lst []) := .lst (off (dG.up s1) h2 (s3.trans (s4.trans s5))) .nil (Nat.zero_le _)
        have i3 : Is (rm (upd (upd (upd (upd (upd G l1 (.lst [])) l2 (.lst [])) t (.tup [.str "red", .ref l2])) l3 (.lst [.ref t])) ol (.lst [.non, .int 5, .ref l1, .str "red", .ref l3, .bl true])) a) (.ref t) (.tup [.str "red", .lst []]) := .tup (off ((dG.up s1).up s2) h3 (s4.trans s5)) (.cons (.str _ wr) (.cons i2 .nil)) (by show 2 ≤ 60; decide)
        refine ⟨.lst [.tup [.str "red", .lst []]], .lst (off (((dG.up s1).up s2).up s3) h4 s5) (.cons i3 .nil) (by show 1 ≤ 60; decide), fun z => (by cases z), .lst 2 _ fun d m => ?_⟩
        rw [List.mem_singleton.mp m]
        refine .tup 1 _ fun d m => ?_
        simp only [List.mem_cons, List.not_mem_nil, or_false] at m
        rcases m with rfl | rfl
        · exact .str 1 _
        · exact .lst 0 _ (fun d m => by cases m)
      · exact ⟨.bl true, .bl true, fun z => (by cases z), .bl 3 true⟩
    refine ⟨ol, rfl, ⟨_, SqL.of upd_same⟩, ?_⟩
    refine for_it walk_list (fun i σ H' => (∃ v5, σ = [some (.ref a), some (.ref r), some (.ref kl), some (.ref rl), vb, v5, some (.ref gl), some (.int (n : Nat)), v8]) ∧ DrawsAt H' a ∧ ExtN (rm H a) (rm H' a) ∧ Tabs (Tb P1 P2) H' ∧ (rm H' a) ol = some (.lst [.non, .int 5, .ref l1, .str "red", .ref l3, .bl true]) ∧ ∀ v ∈ ([.non, .int 5, .ref l1, .str "red", .ref l3, .bl true] : List V), OddV (rm H' a) v)
      ⟨⟨_, rfl⟩, dG.up sG, eG.trans (ExtN.of (Same.rm sG)), Tabs.ext tG sG, hol, odds⟩ (fun i σ H' hi p => SqL.of (rm_same _ _ p.2.2.2.2.1)) ?_ ?_
    · rintro i x σ G0 G5 hi ⟨⟨v5, rfl⟩, dG, eG, tG, hol, odds⟩ ⟨rfl, hx⟩
      have mx := List.mem_of_getElem? hx
      refine ⟨tG, fun G2 e2 tab2 => ?_⟩
      obtain ⟨d, id, nd, dp⟩ := (odds x mx).ext ((ExtN.of rm_same).trans e2)
      refine ⟨_, rfl, ?_⟩
      delta tNil
      dsimp only
      refine ok_odd (K := K) (w := w) id nd fun G3 e s3 he => ⟨CR, "rank", e, x, .inl ⟨rfl, rfl⟩, by rw [eR], rfl, upd_same, fun q1 hq1 => ?_⟩
      have s4 := Same.up (o := .xd [("kind", x)]) he
      have s5 := Same.up (o := .tup [.str "rank", x]) hq1
      refine ⟨_, rfl, lineN (n := 2), fun q2 hq2 => ?_⟩
      have s6 := Same.up (o := .tup [.str "rank", x]) hq2
      have sE := s3.trans (s4.trans (s5.trans s6))
      have wr : (Str.ofString "rank").length ≤ 1000 := by decide +kernel
      have i1 : Is _ (.ref q1) (.tup [.str "rank", d]) := .tup (s6 _ _ upd_same) (.cons (.str _ wr) (.cons (id.mono sE) .nil)) (by show 2 ≤ 60; decide)
      have i2 : Is _ (.ref q2) (.tup [.str "rank", d]) := .tup upd_same (.cons (.str _ wr) (.cons (id.mono sE) .nil)) (by show 2 ≤ 60; decide)
      refine ⟨_, _, _, rfl, i1, i2, .tup 4 _ (fun y m => ?_), fun G4 s7 => ⟨_, rfl, iteF ?_⟩⟩
      · simp only [List.mem_cons, List.not_mem_nil, or_false] at m
        rcases m with rfl | rfl
        · exact .str 4 _
        · exact dep_le dp (by decide)
      have e07 := e2.trans (ExtN.of (sE.trans s7))
      exact ⟨⟨_, rfl⟩, draws_ext e07 dG, eG.trans (ext_rm e07), Tabs.ext tab2 (sE.trans s7), ext_rm e07 _ _ hol (fun _ z => by cases z), fun v m => (odds v m).ext (ext_rm e07)⟩
    · rintro σ G9 ⟨⟨v5, rfl⟩, dG, eG, tG, hol, odds⟩
      exact q _ dG eG tG
end
end K00

set_option Elab.async false
set_option linter.all false
set_option maxRecDepth 100000
set_option maxHeartbeats 4000000
namespace K00
open PySem PySem.Spec PyProof.Rows L2 Sr LamX
/-! ### what stands while the law goes a turn -/
structure Sx (K : PySem.W.Frag) (l a r x : Addr) (T : List (Addr × Str)) (ns : List Int) (rs : List Rk) (ys : List Str) (H : Hp) : Prop where
  d : DrawsAt H a
  sql : SqL K (rm H a) l (ns.map V.int)
  tab : Tabs T H
  rk : RanksR (rm H a) r rs
  off : OffR K (rm H a) x (byName rs ys)
section
variable {K : PySem.W.Frag} {l a r x : Addr} {T : List (Addr × Str)} {ns : List Int} {rs : List Rk} {ys : List Str} {H H' : Hp}
theorem Sx.ext (X : Sx K l a r x T ns rs ys H) (e : ExtN (rm H a) (rm H' a)) (d : DrawsAt H' a) (t : Tabs T H') : Sx K l a r x T ns rs ys H' := ⟨d, sql_ext e X.sql, t, X.rk.ext e, X.off.ext e⟩
theorem Sx.draw (X : Sx K l a r x T ns rs ys H) (d : DrawsAt H' a) (s : Same (rm H a) (rm H' a)) : Sx K l a r x T ns rs ys H' :=
  ⟨d, sql_mono s X.sql, Tabs.ext (Tabs.off X.tab X.d) (s.trans rm_same), X.rk.mono s, X.off.mono s⟩
theorem Sx.grow (X : Sx K l a r x T ns rs ys H) (s : Same H H') : Sx K l a r x T ns rs ys H' := X.draw (X.d.up s) (Same.rm s)
theorem Sx.extN (X : Sx K l a r x T ns rs ys H) (e : ExtN H H') (t : Tabs T H') : Sx K l a r x T ns rs ys H' := X.ext (ext_rm e) (draws_ext e X.d) t
theorem Sx.rkH (X : Sx K l a r x T ns rs ys H) : RanksR H r rs := X.rk.mono rm_same
theorem Sx.offH (X : Sx K l a r x T ns rs ys H) : OffR K H x (byName rs ys) := X.off.mono rm_same
end
theorem by_by {rs : List Rk} {ys zs : List Str} (h : ∀ z ∈ zs, z ∈ ys) : byName (byName rs ys) zs = byName rs zs := by
  unfold byName
  refine List.map_congr_left fun z m => ?_
  have := wd_by (rs := rs) (h z m)
  unfold byName at this
  rw [this]
/-- what the law hands, its lists still to be changed -/
def ListV (M H : Hp) (v : V) (ws : List Str) : Prop := ∃ t, v = .ref t ∧ H t = some (.lst (ws.map V.str)) ∧ M t = none
theorem ListV.seq {M H : Hp} {v : V} {ws : List Str} (h : ListV M H v ws) : SeqV H v ws :=
  let ⟨t, e1, e2, _⟩ := h
  ⟨t, e1, .inl e2⟩
theorem ListV.mono {M H H' : Hp} (e : Same H H') {v : V} {ws : List Str} (h : ListV M H v ws) : ListV M H' v ws :=
  let ⟨t, e1, e2, e3⟩ := h
  ⟨t, e1, e _ _ e2, e3⟩
def PairL (M : Hp) (rs : List Rk) (D : Addr) (H : Hp) (y : Str) (v : V) : Prop := ∃ t u, v = .ref t ∧ H t = some (.tup [.str y, .ref u]) ∧ H u = some (.lst ((wd rs y).map V.str)) ∧ M u = none ∧ u ≠ D
theorem PairL.mono {M : Hp} {rs : List Rk} {D : Addr} {H H' : Hp} (e : Same H H') {y : Str} {v : V} (h : PairL M rs D H y v) : PairL M rs D H' y v := by
  obtain ⟨t, u, h1, h2, h3, h4⟩ := h
  exact ⟨t, u, h1, e _ _ h2, e _ _ h3, h4⟩
theorem PairL.lay {M : Hp} {rs : List Rk} {H : Hp} {D : Addr} {c c' : List V} (hD : H D = some (.lst c)) {y : Str} {v : V} (h : PairL M rs D H y v) : PairL M rs D (upd H D (.lst c')) y v := by
  obtain ⟨t, u, h1, h2, h3, h4, h5⟩ := h
  exact ⟨t, u, h1, by rw [upd_ne (ne_of h2 hD (by intro z; cases z))]; exact h2, by rw [upd_ne h5]; exact h3, h4, h5⟩
theorem pairsL_of {K : PySem.W.Frag} {M : Hp} {rs : List Rk} {D : Addr} {H : Hp} : ∀ {acc : List V} {ys : List Str}, Paired (fun v y => PairL M rs D H y v) acc ys →
    ∃ (ts : List Addr) (kvs : List (Key × V)), acc = ts.map V.ref ∧ Paired (fun p kv => SqT K H p [kV kv.1, kv.2]) ts kvs ∧ EntR (ListV M H) kvs (byName rs ys) ∧ ts.length = ys.length
  | _, _, .nil => ⟨[], [], rfl, .nil, .nil, rfl⟩
  | _, _, .cons (b := y) h r => by
    obtain ⟨ts, kvs, e, p, en, l⟩ := pairsL_of (K := K) r
    obtain ⟨t, u, h1, h2, h3, h4, _⟩ := h
    exact ⟨t :: ts, (Sum.inr y, .ref u) :: kvs, by rw [h1, e]; rfl, .cons (SqT.of h2) p, .cons ⟨rfl, u, rfl, h3, h4⟩ en, by rw [List.length_cons, List.length_cons, l]⟩
/-- some things left out -/
def rms (H : Hp) (Z : List Addr) : Hp := fun b => if b ∈ Z then none else H b
theorem rms_at {H : Hp} {Z : List Addr} {b : Addr} (h : b ∈ Z) : rms H Z b = none := by unfold rms; rw [if_pos h]
theorem rms_ne {H : Hp} {Z : List Addr} {b : Addr} (h : b ∉ Z) : rms H Z b = H b := by unfold rms; rw [if_neg h]
theorem rms_same {H : Hp} {Z : List Addr} : Same (rms H Z) H := fun b o e => by
  by_cases c : b ∈ Z
  · rw [rms_at c] at e
    cases e
  · rw [rms_ne c] at e
    exact e
/-- the lists of what is handed -/
def lsOf (kvs : List (Key × V)) : List Addr := kvs.filterMap fun q => match q.2 with
  | .ref t => some t
  | _ => none
theorem ls_mem {M H : Hp} {kvs : List (Key × V)} {rs : List Rk} (h : EntR (ListV M H) kvs rs) : ∀ t ∈ lsOf kvs, (∃ xs, H t = some (.lst xs)) ∧ M t = none := by
  induction h with
  | nil => intro t m; cases m
  | @cons q p qs rs' hd tl ih =>
    intro t m
    obtain ⟨u, e1, e2, e3⟩ := hd.2
    unfold lsOf at m
    rw [List.filterMap_cons, e1] at m
    rcases List.mem_cons.mp m with rfl | m
    · exact ⟨⟨_, e2⟩, e3⟩
    · exact ih t m
theorem ls_in {M H : Hp} {kvs : List (Key × V)} {rs : List Rk} (h : EntR (ListV M H) kvs rs) {k : Key} {t : Addr} (m : (k, V.ref t) ∈ kvs) : t ∈ lsOf kvs := List.mem_filterMap.mpr ⟨_, m, rfl⟩
/-- the office holds none of them -/
theorem off_rms {K : PySem.W.Frag} {M H : Hp} {x hd : Addr} {kvs : List (Key × V)} {rs rs0 : List Rk} (o : OffR K H x rs) (ne : rs ≠ []) (hk : H hd = some (.dK kvs)) (he : EntR (ListV M H) kvs rs0) : OffR K (rms H (hd :: lsOf kvs)) x rs := by
  obtain ⟨dx, d, kvs', h1, h2, h3, h4⟩ := o
  have nl : ∀ {b : Addr} {o : HO}, H b = some o → (∀ xs, o ≠ .lst xs) → b ≠ hd → b ∉ hd :: lsOf kvs := fun {b o} e n nh m => by
    rcases List.mem_cons.mp m with rfl | m
    · exact nh rfl
    · obtain ⟨⟨xs, e2⟩, _⟩ := ls_mem he b m
      rw [e] at e2
      exact n xs (Option.some.inj e2)
  have nd : d ≠ hd := fun z => by
    rw [z, hk] at h2
    cases h2
    cases h3 with
    | nil => exact ne rfl
    | cons a _ =>
      cases he with
      | cons b _ =>
        obtain ⟨t, e1, e2⟩ := a.2
        obtain ⟨t', f1, f2, _⟩ := b.2
        rw [e1] at f1
        cases f1
        rw [e2] at f2
        cases f2
  have nx : x ≠ hd := ne_of h1 hk (by intro z; cases z)
  refine ⟨dx, d, kvs', by rw [rms_ne (nl h1 (fun _ z => by cases z) nx)]; exact h1, by rw [rms_ne (nl h2 (fun _ z => by cases z) nd)]; exact h2, h3.imp fun v ws h => ?_, h4⟩
  obtain ⟨t, e1, e2⟩ := h
  have nt : t ≠ hd := ne_of e2 hk (by intro z; cases z)
  exact ⟨t, e1, by rw [rms_ne (nl e2 (fun _ z => by cases z) nt)]; exact e2⟩
/-- two orders of the same names, both ascending -/
def leS (a b : Str) : Prop := a.cps.toList ≤ b.cps.toList
theorem leS_of {a b : Str} (h : (!ltCps b.cps.toList a.cps.toList) = true) : leS a b := by
  rw [ltCps_eq] at h
  exact List.not_lt.mp (of_decide_eq_false (by simpa using h))
theorem rising_pw : ∀ {r : List Str} {p : Str}, PyProof.Rows.risingS p r = true → (p :: r).Pairwise leS
  | [], p, _ => List.pairwise_singleton _ _
  | x :: r, p, h => by
    obtain ⟨h1, h2⟩ := Bool.and_eq_true_iff.mp h
    have ih := rising_pw h2
    have px := leS_of h1
    refine List.pairwise_cons.mpr ⟨fun y m => ?_, ih⟩
    rcases List.mem_cons.mp m with rfl | m
    · exact px
    · exact List.le_trans px ((List.pairwise_cons.mp ih).1 y m)
theorem sorted_pw {ys : List Str} (h : PyProof.Rows.sortedS ys = true) : ys.Pairwise leS := by
  cases ys with
  | nil => exact List.Pairwise.nil
  | cons y r => exact rising_pw h
theorem sorted_one {xs ys zs : List Str} (hx : xs.Perm zs) (hy : ys.Perm zs) (sx : PyProof.Rows.sortedS xs = true) (sy : PyProof.Rows.sortedS ys = true) : xs = ys := by
  refine List.Perm.eq_of_pairwise (le := leS) (fun a b _ _ h1 h2 => ?_) (sorted_pw sx) (sorted_pw sy) (hx.trans hy.symm)
  have e : a.cps.toList = b.cps.toList := List.le_antisymm h1 h2
  obtain ⟨⟨ca⟩⟩ := a
  obtain ⟨⟨cb⟩⟩ := b
  simp only at e
  rw [e]
theorem at_off {H : Hp} {a b : Addr} {o : HO} (d : DrawsAt H a) (h : H b = some o) (n : ¬ DrawsO o) : rm H a b = some o := by
  rw [rm_ne fun z => ?_]
  · exact h
  · obtain ⟨o', e, x⟩ := d
    rw [← z, h] at e
    cases e
    exact n x
theorem no_draws {o : HO} (h : ∀ xs, o ≠ .lst xs) : ¬ DrawsO o := fun ⟨_, _, _, e⟩ => h _ e
theorem OffR.out {K : PySem.W.Frag} {H : Hp} {a x : Addr} {rs : List Rk} (d : DrawsAt H a) (o : OffR K H x rs) : OffR K (rm H a) x rs := by
  obtain ⟨dx, dd, kvs, h1, h2, h3, h4⟩ := o
  refine ⟨dx, dd, kvs, at_off d h1 (no_draws fun _ z => by cases z), at_off d h2 (no_draws fun _ z => by cases z), h3.imp fun v ws h => ?_, h4⟩
  obtain ⟨t, e1, e2⟩ := h
  exact ⟨t, e1, at_off d e2 (no_draws fun _ z => by cases z)⟩
theorem ListV.out {M H : Hp} {a : Addr} {v : V} {ws : List Str} (d : DrawsAt H a) (h : ListV M H v ws) : ListV M (rm H a) v ws := by
  obtain ⟨t, e1, e2, e3⟩ := h
  refine ⟨t, e1, at_off d e2 fun ⟨x, y, z, e⟩ => ?_, e3⟩
  injection e with e
  cases ws with
  | nil => cases e
  | cons w r =>
    rw [List.map_cons] at e
    injection e with e _
    cases e
theorem ent_mem {Rv : V → List Str → Prop} {kvs : List (Key × V)} {rs : List Rk} (h : EntR Rv kvs rs) : ∀ q ∈ kvs, ∃ ws, Rv q.2 ws ∧ ws ∈ rs.map (·.2) := by
  induction h with
  | nil => intro q m; cases m
  | @cons q p qs rs' hd tl ih =>
    intro y m
    rcases List.mem_cons.mp m with rfl | m
    · exact ⟨p.2, hd.2, List.mem_cons_self⟩
    · obtain ⟨ws, a, b⟩ := ih y m
      exact ⟨ws, a, List.mem_cons_of_mem _ b⟩
theorem same_set {M H : Hp} {a t : Addr} {o : HO} (s : Same M (rm H a)) (n : M t = none) : Same M (rm (upd H t o) a) := fun b x e => by
  have nt : b ≠ t := ne_of_none e n
  have h := s _ _ e
  have na : b ≠ a := fun z => by rw [z, rm_at] at h; cases h
  rw [rm_ne na] at h ⊢
  rw [upd_ne nt]
  exact h
/-- what is no kind -/
def OddK (rs : List Rk) (M : Hp) (v : V) : Prop := (∃ d, Is M v d ∧ kindD rs d = false ∧ Dep 3 d) ∨ ∃ e, v = .ref e ∧ M e = some (.dK [])
theorem OddK.ext {rs : List Rk} {H H' : Hp} (e : ExtN H H') {v : V} (h : OddK rs H v) : OddK rs H' v := by
  rcases h with ⟨d, h1, h2⟩ | ⟨b, h1, h2⟩
  · exact .inl ⟨d, h1.ext e, h2⟩
  · exact .inr ⟨b, h1, e _ _ h2 (fun _ z => by cases z)⟩
theorem OddK.at_ {rs : List Rk} {H : Hp} {v : V} (h : OddK rs H v) : ∃ d, Is H v d ∧ kindD rs d = false := by
  rcases h with ⟨d, h1, h2, _⟩ | ⟨b, rfl, h2⟩
  · exact ⟨d, h1, h2⟩
  · exact ⟨.dic, .dic h2, rfl⟩
theorem more_x : ∀ s ∈ names4, s ++ (Str.ofString "x") ∉ names4 ∧ (s ++ (Str.ofString "x")).length ≤ 1000 := by decide +kernel
theorem no_kind {rs : List Rk} {z : Str} (h : ∀ y ∈ rs.map (·.1), y ∈ names4) (n : z ∉ names4) : kindD rs (.str z) = false := decide_eq_false fun m => n (h z m)
def wideR : List Rk := [(Str.ofString "eightone", [Str.ofString "points"]), (Str.ofString "34678025", []), (Str.ofString "hjkpqvwy", [])]
def wideN : List Str := [Str.ofString "34678025", Str.ofString "eightone", Str.ofString "hjkpqvwy"]
theorem wide_good : goodR wideR := by
  have h : (∀ p ∈ wideR, nameOk (.str p.1) = true ∧ ((∀ x ∈ p.2, x ∈ words) ∧ (met p.2 p.2.length).length = p.2.length ∧ p.2.length ≤ 60)) ∧ (wideR.map (·.1)).Nodup ∧ wideR.length ≤ 60 := by decide +kernel
  exact h
theorem wide_names {ys : List Str} (p : ys.Perm (wideR.map (·.1))) (s : PyProof.Rows.sortedS ys = true) : ys = wideN := sorted_one p (by decide +kernel) s (by decide +kernel)
theorem wide_wd : wd (byName wideR wideN) (Str.ofString "eightone") = [Str.ofString "points"] := by decide +kernel
theorem nil_good : goodR [] := ⟨fun p m => (by cases m), List.nodup_nil, Nat.zero_le _⟩
end K00

set_option Elab.async false
set_option linter.all false
set_option maxRecDepth 100000
set_option maxHeartbeats 4000000
namespace K00
open PySem PySem.Spec PyProof.Rows L2 Sr LamX
def spLaw (K : PySem.W.Frag) (P1 P2 : Addr) : Sp := fun vs H Q _ => ∃ (l : Addr) (ns : List Int), vs = [.ref l] ∧ SqL K H l (ns.map V.int) ∧ H P1 = some (.tbl #[]) ∧ H P2 = some (.tbl #[]) ∧ ∀ H', Q (.bl true) H'
def LawInv (K : PySem.W.Frag) (l P1 P2 : Addr) (ns : List Int) (i : Nat) (σ : L2.St) (H' : Hp) : Prop :=
  (∃ v1 v2 v3 v4 v5 v6 v7 v8 v9 v10 v11 v12, σ = [some (.ref l), v1, v2, v3, v4, v5, v6, v7, v8, v9, v10, v11, v12]) ∧ SqL K H' l (ns.map V.int) ∧ Tabs (Tb P1 P2) H'
section
variable {P : Program} {w : World} {K : PySem.W.Frag} {mg : Str → Option Value} {base : Heap}
abbrev s_law : Stmt := top 23
theorem sc_law : FnScope ["script", "turn", "wide", "draws", "ranks", "handed", "office", "kind", "kinds", "odd", "same", "thing", "other"] ["script"] (defScope s_law) := ⟨rfl, rfl, rfl, by decide +kernel, rfl, by decide +kernel, by decide +kernel⟩
theorem c_law {fd : FuncData} {P1 P2 CR CK fR fK : Addr} (T : Txt K mg) (O : Off K mg) (N : OfN K mg) (OM : OfM K) (DL : FunD K "law" "law" (defArgs s_law) (defBody s_law) (defScope s_law) [] [] (He.ga K "law") fd) (TB : TabB base mg (He.codeOf K ("law", none)) P2) (nP : P1 ≠ P2) (D_law_refused : Dfn K mg "_law_refused" s__law_refused)
    (hR : mg "BadRank" = some (.ref CR)) (hK : mg "BadKind" = some (.ref CK)) (ER : Err K CR fR "kind") (EK : Err K CK fK "kind") (eR : CR = He.ga K "BadRank") (eK : CK = He.ga K "BadKind")
    (x11 : PySem.W.exmOne K (.ref CR) (.ref CR) = some true) (x22 : PySem.W.exmOne K (.ref CK) (.ref CK) = some true) (x21 : PySem.W.exmOne K (.ref CK) (.ref CR) = some false)
    (C_law_source : Cal P w K mg base 1 "_law_source" ["script", "place"] (spSource K)) (C_law_some_ranks : Cal P w K mg base 3 "_law_some_ranks" ["draws", "most"] spSomeRanks) (C_law_mixed : Cal P w K mg base 2 "_law_mixed" ["draws", "things"] spMixed)
    (C_law_same : Cal P w K mg base 6 "_law_same" ["found", "due"] (spDeep 5)) (C_kind : Cal P w K mg base 2 "_law_same" ["found", "due"] spZ1) (C_law_others : Cal P w K mg base 1 "_law_others" ["ranks"] spOthers) (C_law_ranks_refused : Cal P w K mg base 10 "_law_ranks_refused" ["draws", "ranks"] (spRR P1 P2)) (Mk0 : MkO P w K mg base)
    (MK : CalM P w K mg base CX0 1 (He.fAd K ("Office", some "kinds")) ["self"] (spKinds K)) (ML : CalM P w K mg base CX0 1 (He.fAd K ("Office", some "__len__")) ["self"] (spLen K)) (MH : CalM P w K mg base CX0 1 (He.fAd K ("Office", some "__contains__")) ["self", "thing"] (spHas K))
    (MR : CalM P w K mg base (L2.CX P w) 3 (He.fAd K ("Office", some "rank")) ["self", "kind"] (spRankOf K)) (ME : CalM P w K mg base CX0 1 (He.fAd K ("Office", some "__eq__")) ["self", "other"] (spEq K)) :
    FnOk P w K mg base CX0 12 (He.ga K "law") fd ["script"] (spLaw K P1 P2) := by
  refine fun_ok DL sc_law (fun vs H Q E h => ?_) fun A outer s H vs Q E hr h => ?_
  · obtain ⟨l, ns, rfl, _⟩ := h
    rfl
  obtain ⟨l, ns, rfl, hs, h1, h2, q⟩ := h
  refine ⟨_, PSs.nox (pss_cons (ps_for PassesOwn.never rfl (pi_range1 (by rfl) T.range (pa_cons (pe_op op_add pe_int (pe_callB (id := "min") (call_min2 rfl) (by rfl) T.min (by decide +kernel) (pa_cons (pe_callB (id := "len") call_len_seq (by rfl) T.len (by decide +kernel) (pa_cons (pv 0) pa_nil)) (pa_cons pe_int pa_nil)))) pa_nil)) (pg_name (i := 1) sc_law.nd rfl (by first | exact Or.inl rfl | exact Or.inr rfl))
      (pss_cons (ps_set (i := 3) sc_law.nd rfl (by first | exact Or.inl rfl | exact Or.inr rfl) (pe_cal C_law_source hr (by first | decide | omega) (by rfl) (pa_cons (pv 0) (pa_cons (pv 1) pa_nil))))
      (pss_cons (ps_set (i := 4) sc_law.nd rfl (by first | exact Or.inl rfl | exact Or.inr rfl) (pe_cal C_law_some_ranks hr (by first | decide | omega) (by rfl) (pa_cons (pv 3) (pa_cons pe_int pa_nil))))
      (pss_cons (ps_set (i := 5) sc_law.nd rfl (by first | exact Or.inl rfl | exact Or.inr rfl) (pe_callTy (T := "dict") (call_dictP rfl) (by rfl) T.dict (by decide +kernel) (pa_cons (pe_lc (own := [("kind", 7)]) (g := gName 7) (tt := tYes) rfl sc_law.nd (pi_list (pe_cal C_law_mixed hr (by first | decide | omega) (by rfl) (pa_cons (pv 3) (pa_cons (pv 4) pa_nil)))) (blkOk_by (N := ["script", "turn", "wide", "draws", "ranks", "handed", "office", "kind", "kinds", "odd", "same", "thing", "other"]) (sc := defScope s_law) (by decide +kernel)) (fun _ _ _ _ _ => (pg_name (i := 7) sc_law.nd rfl (by first | exact Or.inl rfl | exact Or.inr rfl))) (fun _ _ _ _ _ => pts_nil) (fun _ _ _ _ _ => (pe_tup (pa_cons (pv 7) (pa_cons (pe_callTy (T := "list") (call_list_ofK K rfl) (by rfl) T.list (by decide +kernel) (pa_cons (pe_dget (hu_of hr) (pv 4) (pv 7) (fun _ _ => rfl)) pa_nil)) pa_nil))))) pa_nil)))
      (pss_cons (ps_set (i := 6) sc_law.nd rfl (by first | exact Or.inl rfl | exact Or.inr rfl) (MkO.pe (K := K) (w := w) Mk0 rfl rfl hr (by decide) (by rfl) passes_never (pa_cons (pv 5) pa_nil)))
      (pss_cons (ps_for PassesOwn.never rfl (pi_list (pe_callTy (T := "list") (call_list_dK rfl) (by rfl) T.list (by decide +kernel) (pa_cons (pv 5) pa_nil))) (pg_name (i := 7) sc_law.nd rfl (by first | exact Or.inl rfl | exact Or.inr rfl))
      (pss_one (ps_expr (pe_bm PySem.F.plainAttrs_list PySem.F.slot_list_append PySem.F.type_list_append mt_append (pe_dget (hu_of hr) (pv 5) (pv 7) (fun _ _ => rfl)) (pa_cons pe_str pa_nil)))))
      (pss_cons (ps_expr (pe_dclear (pv 5)))
      (pss_cons (ps_set (i := 8) sc_law.nd rfl (by first | exact Or.inl rfl | exact Or.inr rfl) (pe_callB (id := "sorted") (call_sortedD rfl) (by rfl) T.sorted (by decide +kernel) (pa_cons (pv 4) pa_nil)))
      (pss_cons (ps_expr (pe_bm PySem.F.plainAttrs_list PySem.F.slot_list_append PySem.F.type_list_append mt_append (m0_ MK hr (by decide) O.cl OM.kinds (pv 6)) (pa_cons pe_str pa_nil)))
      (pss_cons (ps_if (pt_not (pt_val (pe_alt (pe_cal C_law_same hr (by first | decide | omega) (by rfl) (pa_cons (pe_lst (pa_cons (m0_ MK hr (by decide) O.cl OM.kinds (pv 6)) (pa_cons (pe_callB (id := "len") (len_ ML hr (by decide) OM.len OM.lenF) (by rfl) T.len (by decide +kernel) (pa_cons (pv 6) pa_nil)) pa_nil))) (pa_cons (pe_lst (pa_cons (pv 8) (pa_cons (pe_callB (id := "len") call_len_seq (by rfl) T.len (by decide +kernel) (pa_cons (pv 8) pa_nil)) pa_nil))) pa_nil))) (pe_cal C_kind hr (by first | decide | omega) (by rfl) (pa_cons (pe_lst (pa_cons (m0_ MK hr (by decide) O.cl OM.kinds (pv 6)) (pa_cons (pe_callB (id := "len") (len_ ML hr (by decide) OM.len OM.lenF) (by rfl) T.len (by decide +kernel) (pa_cons (pv 6) pa_nil)) pa_nil))) (pa_cons (pe_lst (pa_cons (pv 8) (pa_cons (pe_callB (id := "len") call_len_seq (by rfl) T.len (by decide +kernel) (pa_cons (pv 8) pa_nil)) pa_nil))) pa_nil)))))) (pss_one (ps_ret pe_bl)) pss_nil)
      (pss_cons (ps_if (pt_not (pt_val (pe_callB (id := "all") (cr_all rfl) (by rfl) T.all (by decide +kernel) (pa_cons (pe_lc (own := [("kind", 7)]) (g := gName 7) (tt := tYes) rfl sc_law.nd (pi_list (pv 8)) (blkOk_by (N := ["script", "turn", "wide", "draws", "ranks", "handed", "office", "kind", "kinds", "odd", "same", "thing", "other"]) (sc := defScope s_law) (by decide +kernel)) (fun _ _ _ _ _ => (pg_name (i := 7) sc_law.nd rfl (by first | exact Or.inl rfl | exact Or.inr rfl))) (fun _ _ _ _ _ => pts_nil) (fun _ _ _ _ _ => (pe_and (pe_alt (pe_cal C_law_same hr (by first | decide | omega) (by rfl) (pa_cons (mE_ (K := K) MR rfl hr (by decide) O.cl OM.rank passes_never (pv 6) (pa_cons (pv 7) pa_nil)) (pa_cons (pe_dget (hu_of hr) (pv 4) (pv 7) (fun _ _ => rfl)) pa_nil))) (pe_cal C_kind hr (by first | decide | omega) (by rfl) (pa_cons (mE_ (K := K) MR rfl hr (by decide) O.cl OM.rank passes_never (pv 6) (pa_cons (pv 7) pa_nil)) (pa_cons (pe_dget (hu_of hr) (pv 4) (pv 7) (fun _ _ => rfl)) pa_nil)))) (pe_one (pe_cmpR (op_has MH hr (by decide) O.has (spHas_mono K)) (pv 7) (pv 6) (by rfl)))))) pa_nil)))) (pss_one (ps_ret pe_bl)) pss_nil)
      (pss_cons (ps_for PassesOwn.never rfl (pi_list (pe_lst (pa_cons pe_non (pa_cons pe_int (pa_cons pe_str (pa_cons pe_str (pa_cons pe_bl (pa_cons (pe_tup (pa_cons pe_str pa_nil)) (pa_cons (pe_lst (pa_cons pe_str pa_nil)) (pa_cons pe_dnewK (pa_cons (pe_op op_add_str (pe_ix ix_list (pv 8) pe_int (fun _ _ => rfl)) pe_str) (pa_cons pe_int pa_nil)))))))))))) (pg_name (i := 9) sc_law.nd rfl (by first | exact Or.inl rfl | exact Or.inr rfl))
      (pss_one (ps_if (PW.pt (pw_or (pt_cmpR (op_has MH hr (by decide) O.has (spHas_mono K)) (pv 9) (pv 6) (by rfl)) (pw_or1 (pt_not (pt_val (pe_alt (pe_cal C_law_same hr (by first | decide | omega) (by rfl) (pa_cons (pe_lamT (Tb P1 P2) ("law" ++ ".<locals>.") D_law_refused sc__law_refused (fun _ _ _ _ _ _ us hl => match us, hl with | [_], _ => rfl) (.tail _ (.head _)) (fun p hp e => by simp only [List.mem_cons, List.not_mem_nil, or_false] at hp; rcases hp with rfl | rfl; exact absurd e nP; exact rfl) (fun cdv => g_refused hR hK ER EK x11 x22 x21 cdv _) TB rfl hr (fun A outer s H E f c' hr => (mE_ (K := K) MR rfl hr (by decide) O.cl OM.rank (passes_def rfl rfl rfl rfl) (pv 6) (pa_cons (pv 9) pa_nil))) (by rfl) (lamS_by (by show lamSB (defScope s_law) _ = true; decide +kernel)) (fun _ _ _ _ _ => rfl)) (pa_cons (pe_tup (pa_cons pe_str (pa_cons (pv 9) pa_nil))) pa_nil))) (pe_cal C_kind hr (by first | decide | omega) (by rfl) (pa_cons (pe_lamT (Tb P1 P2) ("law" ++ ".<locals>.") D_law_refused sc__law_refused (fun _ _ _ _ _ _ us hl => match us, hl with | [_], _ => rfl) (.tail _ (.head _)) (fun p hp e => by simp only [List.mem_cons, List.not_mem_nil, or_false] at hp; rcases hp with rfl | rfl; exact absurd e nP; exact rfl) (fun cdv => g_refused hR hK ER EK x11 x22 x21 cdv _) TB rfl hr (fun A outer s H E f c' hr => (mE_ (K := K) MR rfl hr (by decide) O.cl OM.rank (passes_def rfl rfl rfl rfl) (pv 6) (pa_cons (pv 9) pa_nil))) (by rfl) (lamS_by (by show lamSB (defScope s_law) _ = true; decide +kernel)) (fun _ _ _ _ _ => rfl)) (pa_cons (pe_tup (pa_cons pe_str (pa_cons (pv 9) pa_nil))) pa_nil))))))))) (pss_one (ps_ret pe_bl)) pss_nil)))
      (pss_cons (ps_set (i := 10) sc_law.nd rfl (by first | exact Or.inl rfl | exact Or.inr rfl) (MkO.pe (K := K) (w := w) Mk0 rfl rfl hr (by decide) (by rfl) passes_never (pa_cons (pe_callTy (T := "dict") (call_dictP rfl) (by rfl) T.dict (by decide +kernel) (pa_cons (pe_lc (own := [("kind", 7)]) (g := gName 7) (tt := tYes) rfl sc_law.nd (pi_list (pv 8)) (blkOk_by (N := ["script", "turn", "wide", "draws", "ranks", "handed", "office", "kind", "kinds", "odd", "same", "thing", "other"]) (sc := defScope s_law) (by decide +kernel)) (fun _ _ _ _ _ => (pg_name (i := 7) sc_law.nd rfl (by first | exact Or.inl rfl | exact Or.inr rfl))) (fun _ _ _ _ _ => pts_nil) (fun _ _ _ _ _ => (pe_tup (pa_cons (pv 7) (pa_cons (pe_dget (hu_of hr) (pv 4) (pv 7) (fun _ _ => rfl)) pa_nil))))) pa_nil)) pa_nil)))
      (pss_cons (ps_if (PW.pt (pw_or (pt_not (pt_cmpR (eq_ (K := K) ME rfl hr (by decide) OM.eq OM.fn) (pv 10) (pv 6) (nomark _))) (pw_or (pt_cmpR (ne_ ME hr (by decide) OM.eq OM.fn OM.ne N.cm) (pv 10) (pv 6) (nomark _)) (pw_or1 (pt_val (pe_callB (id := "any") (cr_any rfl) (by rfl) T.any (by decide +kernel) (pa_cons (pe_lc (own := [("thing", 11)]) (g := gName 11) (tt := tYes) rfl sc_law.nd (pi_tup (pe_tup (pa_cons pe_non (pa_cons (pv 4) (pa_cons (pv 8) (pa_cons pe_str pa_nil)))))) (blkOk_by (N := ["script", "turn", "wide", "draws", "ranks", "handed", "office", "kind", "kinds", "odd", "same", "thing", "other"]) (sc := defScope s_law) (by decide +kernel)) (fun _ _ _ _ _ => (pg_name (i := 11) sc_law.nd rfl (by first | exact Or.inl rfl | exact Or.inr rfl))) (fun _ _ _ _ _ => pts_nil) (fun _ _ _ _ _ => (pe_cmpR (eq_ (K := K) ME rfl hr (by decide) OM.eq OM.fn) (pv 6) (pv 11) (nomark _)))) pa_nil))))))) (pss_one (ps_ret pe_bl)) pss_nil)
      (pss_one (ps_if (PW.pt (pw_or (pt_val (pe_callB (id := "any") (cr_any rfl) (by rfl) T.any (by decide +kernel) (pa_cons (pe_lc (own := [("other", 12)]) (g := gName 12) (tt := tYes) rfl sc_law.nd (pi_list (pe_cal C_law_others hr (by first | decide | omega) (by rfl) (pa_cons (pv 4) pa_nil))) (blkOk_by (N := ["script", "turn", "wide", "draws", "ranks", "handed", "office", "kind", "kinds", "odd", "same", "thing", "other"]) (sc := defScope s_law) (by decide +kernel)) (fun _ _ _ _ _ => (pg_name (i := 12) sc_law.nd rfl (by first | exact Or.inl rfl | exact Or.inr rfl))) (fun _ _ _ _ _ => pts_nil) (fun _ _ _ _ _ => (pe_cmpR (eq_ (K := K) ME rfl hr (by decide) OM.eq OM.fn) (MkO.pe (K := K) (w := w) Mk0 rfl rfl hr (by decide) (by rfl) passes_never (pa_cons (pv 12) pa_nil)) (pv 6) (nomark _)))) pa_nil))) (pw_or1 (pt_not (pt_val (pe_cal C_law_ranks_refused hr (by first | decide | omega) (by rfl) (pa_cons (pv 3) (pa_cons (pv 4) pa_nil)))))))) (pss_one (ps_ret pe_bl)) pss_nil))))))))))))))))
      (pss_cons (ps_set (i := 2) sc_law.nd rfl (by first | exact Or.inl rfl | exact Or.inr rfl) (MkO.pe (K := K) (w := w) Mk0 rfl rfl hr (by decide) (by rfl) passes_never (pa_cons (pe_disp (pps_cons pe_str (pe_lst (pa_cons pe_str pa_nil)) (pps_cons pe_str (pe_tup pa_nil) (pps_cons pe_str (pe_lst pa_nil) pps_nil))) (by rfl) (by rfl) (fun z => by cases z) (by decide)) pa_nil)))
      (pss_cons (ps_if (PW.pt (pw_or (pt_cmpR (op_neD hr.units) (m0_ MK hr (by decide) O.cl OM.kinds (pv 2)) (pe_lst (pa_cons pe_str (pa_cons pe_str (pa_cons pe_str pa_nil)))) (nomark _)) (pw_or1 (pt_cmpR (op_neD hr.units) (mE_ (K := K) MR rfl hr (by decide) O.cl OM.rank passes_never (pv 2) (pa_cons pe_str pa_nil)) (pe_tup (pa_cons pe_str pa_nil)) (nomark _))))) (pss_one (ps_ret pe_bl)) pss_nil)
      (pss_one (ps_ret (pe_and (pe_cmpR op_eq (pe_callB (id := "len") (len_ ML hr (by decide) OM.len OM.lenF) (by rfl) T.len (by decide +kernel) (pa_cons (MkO.pe (K := K) (w := w) Mk0 rfl rfl hr (by decide) (by rfl) passes_never (pa_cons pe_dnewK pa_nil)) pa_nil)) pe_int (nomark _)) (pe_one (pe_cmpR (op_eqD hr.units) (m0_ MK hr (by decide) O.cl OM.kinds (MkO.pe (K := K) (w := w) Mk0 rfl rfl hr (by decide) (by rfl) passes_never (pa_cons pe_dnewK pa_nil))) (pe_lst pa_nil) (nomark _))))))))), ?_⟩
  have tab0 : Tabs (Tb P1 P2) H := fun p hp => by
    rcases List.mem_cons.mp hp with rfl | hp
    · exact TabS.nil h1
    · rw [List.mem_singleton.mp hp]
      exact TabS.nil h2
  refine ⟨_, rfl, l, _, rfl, .inl hs, _, _, rfl, _, _, rfl, rfl, _, rfl, ?_, ?_, ?_⟩
  · split <;> omega
  · split <;> omega
  refine for_range (LawInv K l P1 P2 ns) ⟨⟨_, _, _, _, _, _, _, _, _, _, _, _, rfl⟩, hs, tab0⟩ ?_ ?_
  rotate_left
  · rintro σ H1 ⟨⟨v1, v2, v3, v4, v5, v6, v7, v8, v9, v10, v11, v12, rfl⟩, _, _⟩
    try dsimp only
    refine cut_if (fun σ H' => ∃ (wx : Addr), σ = [some (.ref l), v1, some (.ref wx), v3, v4, v5, v6, v7, v8, v9, v10, v11, v12] ∧ OffR K H' wx (byName wideR wideN)) ?_ fun rest => ?_
    rotate_left
    · refine fun p hp => ⟨lineN (n := 1), fun l1 h1 => ⟨lineN (n := 0), fun t2 h2 => ⟨lineN (n := 0), fun l3 h3 => ?_⟩⟩⟩
      have s1 := Same.up (o := .lst [.str "points"]) h1
      have s2 := Same.up (o := .tup []) h2
      have s3 := Same.up (o := .lst []) h3
      refine ⟨(s1.trans (s2.trans s3)) _ _ upd_same, [(Sum.inr (Str.ofString "eightone"), .ref l1), (Sum.inr (Str.ofString "34678025"), .ref t2), (Sum.inr (Str.ofString "hjkpqvwy"), .ref l3)], rfl, (show 3 ≤ 15 by decide), ?_⟩
      have hpG := (s1.trans (s2.trans s3)) _ _ (upd_same (H := H1) (a := p) (o := .dK []))
      have m1 := (s2.trans s3) _ _ (upd_same (a := l1) (o := .lst [.str "points"]) (H := upd H1 p (.dK [])))
      have m2 := s3 _ _ (upd_same (a := t2) (o := .tup []) (H := upd (upd H1 p (.dK [])) l1 (.lst [.str "points"])))
      have m3 := upd_same (a := l3) (o := .lst []) (H := upd (upd (upd H1 p (.dK [])) l1 (.lst [.str "points"])) t2 (.tup []))
      have en : ∀ o, EntR (SeqV (upd (upd (upd (upd (upd H1 p (.dK [])) l1 (.lst [.str "points"])) t2 (.tup [])) l3 (.lst [])) p (.dK o))) [(Sum.inr (Str.ofString "eightone"), .ref l1), (Sum.inr (Str.ofString "34678025"), .ref t2), (Sum.inr (Str.ofString "hjkpqvwy"), .ref l3)] wideR := fun o =>
        .cons ⟨rfl, l1, rfl, .inl ((upd_ne (ne_of m1 hpG (by intro z; cases z))).trans m1)⟩ (.cons ⟨rfl, t2, rfl, .inr ((upd_ne (ne_of m2 hpG (by intro z; cases z))).trans m2)⟩ (.cons ⟨rfl, l3, rfl, .inl ((upd_ne (ne_of m3 hpG (by intro z; cases z))).trans m3)⟩ .nil))
      rw [merge_ent (en []) wide_good.2.1]
      refine ok_office upd_same (en _) wide_good fun wx H' ys hx s pm srt o => ?_
      rw [wide_names pm srt] at o
      exact rest _ _ ⟨wx, rfl, o⟩
    rintro σ H2 ⟨wx, rfl, ow⟩
    try dsimp only
    refine cut_if (fun σ H' => σ = [some (.ref l), v1, some (.ref wx), v3, v4, v5, v6, v7, v8, v9, v10, v11, v12]) ?_ fun rest => ?_
    rotate_left
    · obtain ⟨dx, dd, kvx, g1, g2, g3, g4⟩ := id ow
      refine ⟨_, rfl, wx, dx, _, rfl, g1, rfl, wx, _, rfl, ow, fun p hp => ⟨lineN (n := 3), fun l2 h2 => ?_⟩⟩
      have s1 := Same.up (o := .lst (((byName wideR wideN).map (·.1)).map V.str)) hp
      have s2 := Same.up (o := .lst [.str "34678025", .str "eightone", .str "hjkpqvwy"]) h2
      have hp2 := s2 _ _ (upd_same (H := H2) (a := p) (o := .lst (((byName wideR wideN).map (·.1)).map V.str)))
      have sh : SeqAt.shaped (.list [.str "34678025", .str "eightone", .str "hjkpqvwy"]) = true := by decide +kernel
      refine ⟨.list [.str "34678025", .str "eightone", .str "hjkpqvwy"], .list [.str "34678025", .str "eightone", .str "hjkpqvwy"], .lst (SqL.of hp2) (.cons (.str _) (.cons (.str _) (.cons (.str _) .nil))), .lst (SqL.of upd_same) (.cons (.str _) (.cons (.str _) (.cons (.str _) .nil))), sh, sh, ?_⟩
      have e1 : PyData.eqv (.list [.str "34678025", .str "eightone", .str "hjkpqvwy"]) (.list [.str "34678025", .str "eightone", .str "hjkpqvwy"]) = true := by decide +kernel
      rw [e1]
      have s12 := s1.trans s2
      have wl : (Str.ofString "eightone").length ≤ 1000 := by decide +kernel
      refine ⟨false, rfl, iteF ⟨_, rfl, wx, dx, _, rfl, s12 _ _ g1, rfl, wx, .str "eightone", byName wideR wideN, .str "eightone", rfl, ow.mono s12, .str _ wl, .inl ⟨Str.ofString "eightone", rfl, by decide +kernel, fun t H3 s3 ht => ⟨lineN (n := 1), fun t5 h5 => ?_⟩⟩⟩⟩
      rw [wide_wd] at ht
      have s5 := Same.up (o := .tup [.str "points"]) h5
      have sh2 : SeqAt.shaped (.tuple [.str "points"]) = true := by decide +kernel
      refine ⟨.tuple [.str "points"], .tuple [.str "points"], .tup (SqT.of (s5 _ _ ht)) (.cons (.str _) .nil), .tup (SqT.of upd_same) (.cons (.str _) .nil), sh2, sh2, ?_⟩
      have e2 : PyData.eqv (.tuple [.str "points"]) (.tuple [.str "points"]) = true := by decide +kernel
      rw [e2]
      exact ⟨false, rfl, iteF (rest _ _ rfl)⟩
    rintro σ H3 rfl
    try dsimp only
    have nilN : ∀ {ys : List Str}, ys.Perm (([] : List Rk).map (·.1)) → byName [] ys = [] := fun p => by
      rw [List.perm_nil.mp p]
      rfl
    refine fun d1 h1 => ?_
    refine ok_office (kvs := []) (rs := []) upd_same .nil nil_good fun x1 H4 ys1 hx1 s1 p1 srt1 o1 => ?_
    rw [nilN p1] at o1
    obtain ⟨dx, dd, kvx, g1, g2, g3, g4⟩ := id o1
    refine ⟨x1, dx, _, rfl, g1, x1, [], rfl, o1, 0, rfl, by decide, rfl, ?_⟩
    refine ⟨true, rfl, iteT fun d2 h2 => ?_⟩
    refine ok_office (kvs := []) (rs := []) upd_same .nil nil_good fun x2 H5 ys2 hx2 s2 p2 srt2 o2 => ?_
    rw [nilN p2] at o2
    obtain ⟨ex, ed, kve, f1, f2, f3, f4⟩ := id o2
    refine ⟨x2, ex, _, rfl, f1, rfl, x2, [], rfl, o2, fun p hp => ⟨lineN (n := 0), fun l9 h9 => ?_⟩⟩
    have s9 := Same.up (o := .lst []) h9
    refine ⟨.list [], .list [], .lst (SqL.of (s9 _ _ upd_same)) .nil, .lst (SqL.of upd_same) .nil, by decide +kernel, by decide +kernel, ?_⟩
    exact q _
  rintro i σ H1 hi ⟨⟨v1, v2, v3, v4, v5, v6, v7, v8, v9, v10, v11, v12, rfl⟩, sql1, tab1⟩
  refine ⟨_, rfl, _, rfl, l, _, ns, rfl, sql1, by omega, fun a o ha ho => ?_⟩
  have sN := rm_new (o := o) ha
  have dA : DrawsAt (upd H1 a o) a := ⟨o, upd_same, ho⟩
  try dsimp only
  refine cut_if (fun σ H' => ∃ (r : Addr) (rs : List Rk), σ = [some (.ref l), some (.int (0 + (i : Nat))), v2, some (.ref a), some (.ref r), v5, v6, v7, v8, v9, v10, v11, v12] ∧ DrawsAt H' a ∧ Same (rm (upd H1 a o) a) (rm H' a) ∧ RanksR (rm H' a) r rs ∧ drawnR rs) ?_ fun rest => ?_
  rotate_left
  · refine ⟨_, rfl, ?_⟩
    delta tCons
    delta tNil
    delta tC
    dsimp only
    show spSomeRanks [.ref a, .int 4] _ _ _
    exact some_ranks dA fun r H2 rs d2 s2 hrk dr => rest _ _ ⟨r, rs, rfl, d2, s2, hrk, dr⟩
  rintro σ H2 ⟨r, rs, rfl, d2, s2, hrk, dr⟩
  have sql2 : SqL K (rm H2 a) l (ns.map V.int) := sql_mono (sN.trans s2) sql1
  have tab2 : Tabs (Tb P1 P2) H2 := Tabs.ext (Tabs.ext tab1 (sN.trans s2)) rm_same
  have gd := dr.good
  have l4 := dr.2.1
  obtain ⟨kvs0, hr0, he0⟩ := id hrk
  have hn0 := he0.ent dr.1
  try dsimp only
  refine cut_if (fun σ H' => ∃ (hd : Addr) (kvs : List (Key × V)) (ys0 : List Str), σ = [some (.ref l), some (.int (0 + (i : Nat))), v2, some (.ref a), some (.ref r), some (.ref hd), v6, v7, v8, v9, v10, v11, v12] ∧ DrawsAt H' a ∧ Same (rm H2 a) (rm H' a) ∧ (rm H2 a) hd = none ∧ H' hd = some (.dK kvs) ∧ EntR (ListV (rm H2 a) H') kvs (byName rs ys0) ∧ ys0.Perm (rs.map (·.1))) ?_ fun rest => ?_
  rotate_left
  · refine ⟨_, rfl, _, rfl, a, r, kvs0, rs.map (·.1), rfl, d2, rm_same _ _ hr0, hn0.keys, by rw [List.length_map]; exact l4, fun s m => ?_, fun ml H3 ys0 d3 s3 nml hml perm => ?_⟩
    · obtain ⟨p, mp, rfl⟩ := List.mem_map.mp m
      exact (dr.2.2.2 p mp).1
    have hml1 := rm_same _ _ hml
    have yl : ys0.length ≤ 4 := by rw [perm.length_eq, List.length_map]; exact l4
    have hr3 := rm_same _ _ (s3 _ _ hr0)
    refine ⟨ml, rfl, ⟨_, SqL.of hml1⟩, fun D hD => lc_genD walk_list walk_at ys0 (fun _ => true) (by rw [List.length_map]) (sz (m := 60) (by rw [List.length_map]; omega)) hD (fun H' s' => SqL.of (s' _ _ hml1)) (fun H' y v => PairL (rm H2 a) rs D H' y v)
      (fun _ _ _ _ e h => h.mono e) (fun _ _ _ _ _ e h => h.lay e) (fun j x y H4 A B hj hx hy hD4 s4 kA kB => ?_) (fun H4 acc s4 h4 pr => ?_)⟩
    · obtain rfl : x = .str y := by
        rw [List.getElem?_map, hy] at hx
        exact (Option.some.inj hx).symm
      have my : y ∈ rs.map (·.1) := perm.mem_iff.mp (List.mem_of_getElem? hy)
      obtain ⟨u, eu, t0, rfl, ht0⟩ := hn0.at_ my
      have ht4 := s4 _ _ (rm_same _ _ (s3 _ _ ht0))
      refine ⟨rfl, _, rfl, _, rfl, _, rfl, r, .ref t0, rfl, .inl ⟨kvs0, Sum.inr y, .inl (s4 _ _ hr3), rfl, eu.symm⟩, t0, _, rfl, .inr (SqT.of ht4), fun u1 hu1 => ⟨lineN (n := 2), fun t hts => ?_⟩⟩
      refine kA rfl _ _ ((Same.up hu1).trans (Same.up hts)) ⟨t, u1, rfl, upd_same, (Same.up hts) _ _ upd_same, ?_, fun z => hD4 (by rw [← z]; exact hu1)⟩
      cases q : rm H2 a u1 with
      | none => rfl
      | some o =>
        have := s4 _ _ (rm_same _ _ (s3 _ _ q))
        rw [hu1] at this
        cases this
    · rw [List.filter_eq_self.mpr fun _ _ => rfl] at pr
      obtain ⟨ts, kvs, eacc, pp, en, tl⟩ := pairsL_of (K := K) pr
      subst eacc
      have nd2 : ((byName rs ys0).map (·.1)).Nodup := by rw [names_by]; exact perm.nodup_iff.mpr dr.1
      refine ⟨D, ts, kvs, rfl, SqL.of h4, pp, fun hd h5 => ?_⟩
      rw [merge_ent en nd2]
      have s5 := Same.up (o := .dK kvs) h5
      have nhd : rm H2 a hd = none := by
        cases q : rm H2 a hd with
        | none => rfl
        | some o =>
          have := s4 _ _ (rm_same _ _ (s3 _ _ q))
          rw [h5] at this
          cases this
      exact rest _ _ ⟨hd, kvs, ys0, rfl, d3.up (s4.trans s5), s3.trans (Same.rm (s4.trans s5)), nhd, upd_same, en.imp fun v ws h => h.mono s5, perm⟩
  rintro σ H3 ⟨hd, kvs, ys0, rfl, d3, s3, nhd, hhd, he3, perm0⟩
  try dsimp only
  have g0 : goodR (byName rs ys0) := good_by gd (fun y m => perm0.mem_iff.mp m) (perm0.nodup_iff.mpr dr.1) (by rw [perm0.length_eq, List.length_map]; omega)
  refine cut_if (fun σ H' => ∃ (x : Addr) (ys : List Str), σ = [some (.ref l), some (.int (0 + (i : Nat))), v2, some (.ref a), some (.ref r), some (.ref hd), some (.ref x), v7, v8, v9, v10, v11, v12] ∧ Same H3 H' ∧ ys.Perm (rs.map (·.1)) ∧ PyProof.Rows.sortedS ys = true ∧ OffR K H' x (byName rs ys)) ?_ fun rest => ?_
  rotate_left
  · refine ⟨_, rfl, ?_⟩
    delta tNil
    dsimp only
    refine ok_office hhd (he3.imp fun v ws h => h.seq) g0 fun x H' ys hx s p srt o => ?_
    rw [names_by] at p
    rw [by_by fun z m => p.mem_iff.mp m] at o
    exact rest _ _ ⟨x, ys, rfl, s, p.trans perm0, srt, o⟩
  rintro σ H4 ⟨x, ys, rfl, s4, perm, srt, off4⟩
  try dsimp only
  have he4 := he3.imp fun v ws h => ListV.mono s4 h
  have d4 := d3.up s4
  have hhd4 := s4 _ _ hhd
  have kl : kvs.length = rs.length := by rw [Paired.length he3, by_len, perm0.length_eq, List.length_map]
  have nk := keys_nodup he3 (by rw [names_by]; exact perm0.nodup_iff.mpr dr.1)
  have neR : byName rs ys ≠ [] := fun z => by
    have e := congrArg List.length z
    rw [by_len, perm.length_eq, List.length_map] at e
    exact dr.2.2.1 (List.length_eq_zero_iff.mp e)
  have offM : OffR K (rms (rm H4 a) (hd :: lsOf kvs)) x (byName rs ys) := off_rms (off4.out d4) neR (at_off d4 hhd4 (no_draws fun _ z => by cases z)) (he4.imp fun v ws h => ListV.out d4 h)
  have lsN : ∀ t ∈ lsOf kvs, rm H2 a t = none := fun t m => (ls_mem he4 t m).2
  have sM2 : Same (rm H2 a) (rms (rm H4 a) (hd :: lsOf kvs)) := fun b o e => by
    rw [rms_ne fun m => ?_]
    · exact (s3.trans (Same.rm s4)) _ _ e
    · rcases List.mem_cons.mp m with rfl | m
      · rw [nhd] at e; cases e
      · rw [lsN b m] at e; cases e
  refine cut_if (fun σ H' => ∃ v7', σ = [some (.ref l), some (.int (0 + (i : Nat))), v2, some (.ref a), some (.ref r), some (.ref hd), some (.ref x), v7', v8, v9, v10, v11, v12] ∧ DrawsAt H' a ∧ Same (rms (rm H4 a) (hd :: lsOf kvs)) (rm H' a) ∧ H' hd = some (.dK kvs)) ?_ fun rest => ?_
  rotate_left
  · refine ⟨_, rfl, hd, kvs, rfl, hhd4, fun nl hnl => ⟨nl, rfl, ⟨_, SqL.of upd_same⟩, ?_⟩⟩
    have nla : nl ≠ a := fun z => d4.some (by rw [← z]; exact hnl)
    have nlh : nl ≠ hd := fun z => by rw [z, hhd4] at hnl; cases hnl
    have nll : nl ∉ lsOf kvs := fun m => by
      obtain ⟨⟨xs, e⟩, _⟩ := ls_mem he4 nl m
      rw [e] at hnl
      cases hnl
    have sN := Same.up (H := H4) (o := .lst (kvs.map fun kv => kV kv.1)) hnl
    refine for_it walk_list (fun j σ H' => (∃ v7', σ = [some (.ref l), some (.int (0 + (i : Nat))), v2, some (.ref a), some (.ref r), some (.ref hd), some (.ref x), v7', v8, v9, v10, v11, v12]) ∧ DrawsAt H' a ∧ Same (rms (rm H4 a) (hd :: lsOf kvs)) (rm H' a) ∧ H' hd = some (.dK kvs) ∧ H' nl = some (.lst (kvs.map fun kv => kV kv.1)) ∧ ∀ t ∈ lsOf kvs, ∃ xs, H' t = some (.lst xs) ∧ xs.length ≤ 60 + j)
      ⟨⟨_, rfl⟩, d4.up sN, rms_same.trans (Same.rm sN), sN _ _ hhd4, upd_same, fun t m => ?_⟩ (fun j σ H' hj p => SqL.of p.2.2.2.2.1) ?_ ?_
    · obtain ⟨q, mq, eq⟩ := List.mem_filterMap.mp m
      obtain ⟨ws, ⟨t', e1, e2, _⟩, mw⟩ := ent_mem he4 q mq
      rw [e1] at eq
      obtain rfl : t' = t := Option.some.inj eq
      obtain ⟨p, mp, ep⟩ := List.mem_map.mp mw
      have := (g0.1 p mp).2.2.2
      rw [ep] at this
      exact ⟨_, sN _ _ e2, by rw [List.length_map]; exact this⟩
    · rintro j u σ Ha Hb hj ⟨⟨v7', rfl⟩, d5, s5, h5, hn5, lens⟩ ⟨rfl, hu⟩
      rw [List.getElem?_map] at hu
      obtain ⟨qq, hq, rfl⟩ := Option.map_eq_some_iff.mp hu
      have mq := List.mem_of_getElem? hq
      obtain ⟨ws, ⟨t, e1, _, _⟩, _⟩ := ent_mem he4 qq mq
      have mt : t ∈ lsOf kvs := ls_in he4 (k := qq.1) (by rw [← e1]; exact mq)
      obtain ⟨xs, hx, lx⟩ := lens t mt
      have ev := val_nodup nk qq mq
      rw [e1] at ev
      have hj' : j < kvs.length := by rw [List.length_map] at hj; exact hj
      have nta : t ≠ a := fun z => by
        have := lsN t mt
        obtain ⟨⟨ys', e⟩, _⟩ := ls_mem he4 t mt
        obtain ⟨o', e', x', y', z', rfl⟩ := d4
        obtain ⟨ws2, w2, _⟩ := ent_mem he4 qq mq
        obtain ⟨t2, f1, f2, _⟩ := ListV.out ⟨_, e', x', y', z', rfl⟩ w2
        rw [e1] at f1
        cases f1
        rw [z, rm_at] at f2
        cases f2
      refine ⟨_, rfl, _, rfl, hd, .ref t, rfl, .inl ⟨kvs, qq.1, .inl h5, rfl, ev.symm⟩, .inl ⟨rfl, _, SqL.of hx⟩, t, xs, _, rfl, rfl, hx, sz (m := 100) (by omega), ⟨⟨_, rfl⟩, ?_, same_set s5 (rms_at (List.mem_cons_of_mem _ mt)), ?_, ?_, fun b mb => ?_⟩⟩
      · obtain ⟨o', e, xo⟩ := d5
        exact ⟨o', by rw [upd_ne nta.symm]; exact e, xo⟩
      · rw [upd_ne (ne_of h5 hx (by intro z; cases z))]
        exact h5
      · rw [upd_ne fun z => nll (by rw [z]; exact mt)]
        exact hn5
      · by_cases c : b = t
        · subst c
          exact ⟨_, upd_same, by rw [List.length_append]; show xs.length + 1 ≤ _; omega⟩
        · rw [upd_ne c]
          obtain ⟨ys', a1, a2⟩ := lens b mb
          exact ⟨ys', a1, by omega⟩
    · rintro σ H5 ⟨⟨v7', rfl⟩, d5, s5, h5, _, _⟩
      exact rest _ _ ⟨v7', rfl, d5, s5, h5⟩
  rintro σ H5 ⟨v7', rfl, d5, s5, hhd5⟩
  try dsimp only
  have nah : a ≠ hd := fun z => by
    obtain ⟨o', e, x', y', z', rfl⟩ := d5
    rw [z, hhd5] at e
    cases e
  have s6 : Same (rms (rm H4 a) (hd :: lsOf kvs)) (rm (upd H5 hd (.dK [])) a) := same_set s5 (rms_at List.mem_cons_self)
  have d6 : DrawsAt (upd H5 hd (.dK [])) a := by
    obtain ⟨o', e, xo⟩ := d5
    exact ⟨o', by rw [upd_ne nah]; exact e, xo⟩
  have X6 : Sx K l a r x (Tb P1 P2) ns rs ys (upd H5 hd (.dK [])) := ⟨d6, sql_mono (sM2.trans s6) sql2, Tabs.ext (Tabs.ext (Tabs.off tab2 d2) (sM2.trans s6)) rm_same, hrk.mono (sM2.trans s6), offM.mono s6⟩
  refine cut_if (fun σ H' => σ = [some (.ref l), some (.int (0 + (i : Nat))), v2, some (.ref a), some (.ref r), some (.ref hd), some (.ref x), v7', v8, v9, v10, v11, v12] ∧ Sx K l a r x (Tb P1 P2) ns rs ys H') ?_ fun rest => ?_
  rotate_left
  · exact ⟨_, rfl, .inr (.inr (.inl ⟨rfl, .inl ⟨_, hhd5⟩⟩)), hd, kvs, rfl, rfl, hhd5, rest _ _ ⟨rfl, X6⟩⟩
  rintro σ H6 ⟨rfl, X6⟩
  try dsimp only
  refine cut_if (fun σ H' => ∃ kl : Addr, σ = [some (.ref l), some (.int (0 + (i : Nat))), v2, some (.ref a), some (.ref r), some (.ref hd), some (.ref x), v7', some (.ref kl), v9, v10, v11, v12] ∧ Sx K l a r x (Tb P1 P2) ns rs ys H' ∧ (rm H' a) kl = some (.lst (ys.map V.str))) ?_ fun rest => ?_
  rotate_left
  · obtain ⟨kv6, hr6, he6⟩ := X6.rkH
    have hn6 := he6.ent dr.1
    refine ⟨_, rfl, r, kv6, rs.map (·.1), rfl, .inl hr6, hn6.keys, by rw [List.length_map]; omega, fun ys2 kl perm2 srt2 hkl => ?_⟩
    obtain rfl := sorted_one perm2 perm srt2 srt
    have nka : kl ≠ a := fun z => X6.d.some (by rw [← z]; exact hkl)
    exact rest _ _ ⟨kl, rfl, X6.grow (Same.up hkl), by rw [rm_ne nka, upd_same]⟩
  rintro σ H7 ⟨kl, rfl, X7, hkl7⟩
  try dsimp only
  refine cut_if (fun σ H' => σ = [some (.ref l), some (.int (0 + (i : Nat))), v2, some (.ref a), some (.ref r), some (.ref hd), some (.ref x), v7', some (.ref kl), v9, v10, v11, v12] ∧ Sx K l a r x (Tb P1 P2) ns rs ys H' ∧ (rm H' a) kl = some (.lst (ys.map V.str))) ?_ fun rest => ?_
  rotate_left
  · obtain ⟨dx, dd, kvx, g1, g2, g3, g4⟩ := X7.offH
    refine ⟨_, rfl, x, dx, _, rfl, g1, rfl, x, byName rs ys, rfl, X7.offH, fun p hp => ⟨.inl ⟨rfl, _, SqL.of upd_same⟩, p, _, _, rfl, rfl, upd_same, sz (m := 60) (by rw [List.length_map, List.length_map, by_len, perm.length_eq, List.length_map]; omega), rest _ _ ⟨rfl, ?_, ?_⟩⟩⟩
    · rw [upd_upd]
      exact X7.grow (Same.up hp)
    · rw [upd_upd]
      exact (Same.rm (Same.up hp)) _ _ hkl7
  rintro σ H8 ⟨rfl, X8, hkl8⟩
  try dsimp only
  have ylen : ys.length = rs.length := by rw [perm.length_eq, List.length_map]
  have ysm : ∀ s ∈ ys, s.length ≤ 1000 := fun s m => by
    obtain ⟨p, mp, e⟩ := List.mem_map.mp (perm.mem_iff.mp m)
    rw [← e]
    exact (names4_ok _ (dr.2.2.2 p mp).1).2
  have blen : (byName rs ys).length = ys.length := by_len
  refine cut_if (fun σ H' => σ = [some (.ref l), some (.int (0 + (i : Nat))), v2, some (.ref a), some (.ref r), some (.ref hd), some (.ref x), v7', some (.ref kl), v9, v10, v11, v12] ∧ Sx K l a r x (Tb P1 P2) ns rs ys H' ∧ (rm H' a) kl = some (.lst (ys.map V.str))) ?_ fun rest => ?_
  rotate_left
  · obtain ⟨dx, dd, kvx, g1, g2, g3, g4⟩ := X8.offH
    refine .inl ⟨_, rfl, x, dx, _, rfl, g1, rfl, x, byName rs ys, rfl, X8.offH, fun p hp => ?_⟩
    have s1 := Same.up (o := .lst (((byName rs ys).map (·.1)).map V.str)) hp
    refine ⟨_, rfl, x, dx, _, rfl, s1 _ _ g1, x, byName rs ys, rfl, X8.offH.mono s1, _, rfl, by omega, lineN (n := 2), fun L1 hL1 => ?_⟩
    have s2 := Same.up (o := .lst [.ref p, .int ((byName rs ys).length : Nat)]) hL1
    refine ⟨_, rfl, _, rfl, kl, _, rfl, .inl (SqL.of ((s1.trans s2) _ _ (rm_same _ _ hkl8))), lineN (n := 2), fun L2 hL2 => ?_⟩
    have s3 := Same.up (o := .lst [.ref kl, .int ((ys.map V.str).length : Nat)]) hL2
    have iN : ∀ {G : Hp} {p : Addr}, G p = some (.lst (ys.map V.str)) → Is G (.ref p) (.lst (ys.map Dt.str)) := fun h => .lst h (isA_strs ysm) (by rw [List.length_map]; omega)
    have ep : ((byName rs ys).map (·.1)).map V.str = ys.map V.str := by rw [names_by]
    have en : ((byName rs ys).length : Nat) = (ys.map V.str).length := by rw [blen, List.length_map]
    have hp3 := ((s2.trans s3) _ _ (upd_same (H := H8) (a := p) (o := .lst (((byName rs ys).map (·.1)).map V.str)))).trans (congrArg (fun l => some (HO.lst l)) ep)
    have hk3 := (s1.trans (s2.trans s3)) _ _ (rm_same _ _ hkl8)
    have i1 : Is _ (.ref L1) (.lst [.lst (ys.map Dt.str), .int ((ys.map V.str).length : Nat)]) := .lst (s3 _ _ upd_same) (.cons (iN hp3) (.cons (by rw [en]; exact .int _) .nil)) (by show 2 ≤ 60; decide)
    have i2 : Is _ (.ref L2) (.lst [.lst (ys.map Dt.str), .int ((ys.map V.str).length : Nat)]) := .lst upd_same (.cons (iN hk3) (.cons (.int _) .nil)) (by show 2 ≤ 60; decide)
    refine ⟨_, _, _, rfl, i1, i2, .lst 4 _ (fun d m => ?_), fun H' s' => ⟨_, rfl, iteF (rest _ _ ⟨rfl, X8.grow (s1.trans (s2.trans (s3.trans s'))), (Same.rm (s1.trans (s2.trans (s3.trans s')))) _ _ hkl8⟩)⟩⟩
    simp only [List.mem_cons, List.not_mem_nil, or_false] at m
    rcases m with rfl | rfl
    · refine .lst 3 _ fun d m => ?_
      obtain ⟨s, _, rfl⟩ := List.mem_map.mp m
      exact .str 3 s
    · exact .int 4 _
  rintro σ H9 ⟨rfl, X9, hkl9⟩
  try dsimp only
  refine cut_if (fun σ H' => ∃ v7'', σ = [some (.ref l), some (.int (0 + (i : Nat))), v2, some (.ref a), some (.ref r), some (.ref hd), some (.ref x), v7'', some (.ref kl), v9, v10, v11, v12] ∧ Sx K l a r x (Tb P1 P2) ns rs ys H' ∧ (rm H' a) kl = some (.lst (ys.map V.str))) ?_ fun rest => ?_
  rotate_left
  · obtain ⟨dx, dd, kvx, g1, g2, g3, g4⟩ := X9.offH
    obtain ⟨kvr, q1, q2⟩ := X9.rkH
    have hn9 := q2.ent dr.1
    have hk9 := rm_same _ _ hkl9
    refine ⟨_, rfl, kl, rfl, ⟨_, SqL.of hk9⟩, fun D hD => lc_pure walk_list walk_at ((ys.map fun _ => true).map V.bl) (by simp) (sz (m := 60) (by rw [List.length_map]; omega)) hD (fun H' s' => SqL.of (s' _ _ hk9)) (fun j u y H2 R hj hu hy s2 k => ?_) (fun H2 s2 h2 => ⟨D, ys.map fun _ => true, rfl, SqL.of h2, ?_⟩)⟩
    · rw [List.getElem?_map] at hu
      obtain ⟨z, hz, rfl⟩ := Option.map_eq_some_iff.mp hu
      rw [List.getElem?_map, List.getElem?_map, hz] at hy
      obtain rfl : V.bl true = y := Option.some.inj hy
      have mz := List.mem_of_getElem? hz
      have mr := perm.mem_iff.mp mz
      obtain ⟨u, eu, t0, rfl, ht0⟩ := hn9.at_ mr
      obtain ⟨pr, mp, epr⟩ := List.mem_map.mp mr
      have rg : rankG (wd rs z) := by
        rw [← epr, wd_at dr.1 mp]
        exact (gd.1 pr mp).2
      have eo := OffR.mono s2 X9.offH
      refine .inl ⟨_, rfl, x, dx, _, rfl, s2 _ _ g1, rfl, _, rfl, x, .str z, byName rs ys, .str z, rfl, eo, .str z (ysm z mz), .inl ⟨z, rfl, by rw [names_by]; exact mz, fun t H3 s3 ht3 => ?_⟩⟩
      rw [wd_by mz] at ht3
      have s9 := s2.trans s3
      have i1 : ∀ {G : Hp} {b : Addr}, G b = some (.tup ((wd rs z).map V.str)) → Is G (.ref b) (.tup ((wd rs z).map Dt.str)) := fun h => .tup h (isA_strs fun s m => words_small s (rg.1 s m)) (by rw [List.length_map]; exact rg.2.2)
      refine ⟨_, rfl, _, rfl, r, .ref t0, rfl, .inl ⟨kvr, Sum.inr z, .inl (s9 _ _ q1), rfl, eu.symm⟩, .ref t, .ref t0, _, rfl, i1 ht3, i1 (s9 _ _ ht0), .tup 4 _ (fun d m => ?_), fun H4 s4 => ⟨_, rfl, iteT ⟨_, rfl, _, rfl, x, dx, _, rfl, (s9.trans s4) _ _ g1, x, .str z, byName rs ys, .str z, rfl, X9.offH.mono (s9.trans s4), .str z (ysm z mz), fun H5 s5 => ⟨_, rfl, ?_⟩⟩⟩⟩
      · obtain ⟨s, _, rfl⟩ := List.mem_map.mp m
        exact .str 4 s
      · have e : kindD (byName rs ys) (.str z) = true := decide_eq_true (by rw [names_by]; exact mz)
        rw [e]
        exact k _ (s3.trans (s4.trans s5))
    · rw [show (ys.map fun _ => true).all id = true from by rw [List.all_map]; exact List.all_eq_true.mpr fun _ _ => rfl]
      exact ⟨_, rfl, iteF (rest _ _ ⟨_, rfl, X9.grow s2, (Same.rm s2) _ _ hkl9⟩)⟩
  rintro σ H10 ⟨v7'', rfl, X10, hkl10⟩
  try dsimp only
  have nm4 : ∀ y ∈ (byName rs ys).map (·.1), y ∈ names4 := fun y m => by
    rw [names_by] at m
    obtain ⟨p, mp, e⟩ := List.mem_map.mp (perm.mem_iff.mp m)
    rw [← e]
    exact (dr.2.2.2 p mp).1
  obtain ⟨y0, yr, ey⟩ : ∃ y0 yr, ys = y0 :: yr := by
    cases ys with
    | nil => exact absurd (List.length_eq_zero_iff.mp ylen.symm) dr.2.2.1
    | cons y0 yr => exact ⟨y0, yr, rfl⟩
  have y04 : y0 ∈ names4 := nm4 y0 (by rw [names_by, ey]; exact List.mem_cons_self)
  refine cut_if (fun σ H' => ∃ v9', σ = [some (.ref l), some (.int (0 + (i : Nat))), v2, some (.ref a), some (.ref r), some (.ref hd), some (.ref x), v7'', some (.ref kl), v9', v10, v11, v12] ∧ Sx K l a r x (Tb P1 P2) ns rs ys H' ∧ (rm H' a) kl = some (.lst (ys.map V.str))) ?_ fun rest => ?_
  rotate_left
  · refine ⟨lineN (n := 1), fun t1 ht1 => ⟨lineN (n := 1), fun t2 ht2 => fun t3 ht3 => ?_⟩⟩
    have s1 := Same.up (H := H10) (o := .tup [.str "red"]) ht1
    have s2 := Same.up (o := .lst [.str "red"]) ht2
    have s3 := Same.up (o := .dK []) ht3
    have hk3 := (s1.trans (s2.trans s3)) _ _ (rm_same _ _ hkl10)
    refine ⟨_, rfl, kl, _, _, _, rfl, rfl, SqL.of hk3, at_nat (i := 0) (u := .str y0) (by rw [ey]; rfl), _, _, rfl, rfl, ?_, lineN (n := 10), fun ol hol => ?_⟩
    · have a1 := (names4_ok _ y04).2
      have a2 : (Str.ofString "x").length ≤ 1000 := by decide +kernel
      exact Nat.le_trans (Nat.add_le_add a1 a2) (by rw [sizeLine_eq]; decide)
    have s4 := Same.up (o := .lst [.non, .int 5, .str "zz", .str "", .bl true, .ref t1, .ref t2, .ref t3, .str (y0 ++ (Str.ofString "x")), .int 0]) hol
    have sA := s1.trans (s2.trans (s3.trans s4))
    have d10 := X10.d
    have dn : ∀ {G : Hp} {b : Addr}, DrawsAt G a → G b = none → b ≠ a := fun d h z => d.some (by rw [← z]; exact h)
    have off : ∀ {G G' : Hp} {b : Addr} {o : HO}, DrawsAt G a → G b = none → Same (upd G b o) G' → rm G' a b = some o := fun d h s => by
      rw [rm_ne (dn d h)]
      exact s _ _ upd_same
    have hol4 := off (o := .lst [.non, .int 5, .str "zz", .str "", .bl true, .ref t1, .ref t2, .ref t3, .str (y0 ++ (Str.ofString "x")), .int 0]) (((d10.up s1).up s2).up s3) hol (Same.refl _)
    have odds : ∀ v ∈ ([.non, .int 5, .str "zz", .str "", .bl true, .ref t1, .ref t2, .ref t3, .str (y0 ++ (Str.ofString "x")), .int 0] : List V), OddK (byName rs ys) (rm (upd (upd (upd (upd H10 t1 (.tup [.str "red"])) t2 (.lst [.str "red"])) t3 (.dK [])) ol (.lst [.non, .int 5, .str "zz", .str "", .bl true, .ref t1, .ref t2, .ref t3, .str (y0 ++ (Str.ofString "x")), .int 0])) a) v := fun v m => by
      have wr : (Str.ofString "red").length ≤ 1000 := by decide +kernel
      simp only [List.mem_cons, List.not_mem_nil, or_false] at m
      rcases m with rfl | rfl | rfl | rfl | rfl | rfl | rfl | rfl | rfl | rfl
      · exact .inl ⟨.non, .non, rfl, .non 3⟩
      · exact .inl ⟨.int 5, .int 5, rfl, .int 3 5⟩
      · exact .inl ⟨.str "zz", .str _ (by decide +kernel), no_kind nm4 (by decide +kernel), .str 3 _⟩
      · exact .inl ⟨.str "", .str _ (by decide +kernel), no_kind nm4 (by decide +kernel), .str 3 _⟩
      · exact .inl ⟨.bl true, .bl true, rfl, .bl 3 true⟩
      · exact .inl ⟨.tup [.str "red"], .tup (off d10 ht1 (s2.trans (s3.trans s4))) (.cons (.str _ wr) .nil) (by show 1 ≤ 60; decide), rfl, .tup 2 _ (fun d m => by rw [List.mem_singleton.mp m]; exact .str 2 _)⟩
      · exact .inl ⟨.lst [.str "red"], .lst (off (d10.up s1) ht2 (s3.trans s4)) (.cons (.str _ wr) .nil) (by show 1 ≤ 60; decide), rfl, .lst 2 _ (fun d m => by rw [List.mem_singleton.mp m]; exact .str 2 _)⟩
      · exact .inr ⟨t3, rfl, off ((d10.up s1).up s2) ht3 s4⟩
      · exact .inl ⟨.str (y0 ++ (Str.ofString "x")), .str _ (more_x _ y04).2, no_kind nm4 (more_x _ y04).1, .str 3 _⟩
      · exact .inl ⟨.int 0, .int 0, rfl, .int 3 0⟩
    refine ⟨ol, rfl, ⟨_, SqL.of upd_same⟩, ?_⟩
    refine for_it walk_list (fun j σ H' => (∃ v9', σ = [some (.ref l), some (.int (0 + (i : Nat))), v2, some (.ref a), some (.ref r), some (.ref hd), some (.ref x), v7'', some (.ref kl), v9', v10, v11, v12]) ∧ Sx K l a r x (Tb P1 P2) ns rs ys H' ∧ (rm H' a) kl = some (.lst (ys.map V.str)) ∧ (rm H' a) ol = some (.lst [.non, .int 5, .str "zz", .str "", .bl true, .ref t1, .ref t2, .ref t3, .str (y0 ++ (Str.ofString "x")), .int 0]) ∧ ∀ v ∈ ([.non, .int 5, .str "zz", .str "", .bl true, .ref t1, .ref t2, .ref t3, .str (y0 ++ (Str.ofString "x")), .int 0] : List V), OddK (byName rs ys) (rm H' a) v)
      ⟨⟨_, rfl⟩, X10.grow sA, (Same.rm sA) _ _ hkl10, hol4, odds⟩ (fun j σ H' hj p => SqL.of (rm_same _ _ p.2.2.2.1)) ?_ ?_
    · rintro j v σ G0 G hj ⟨⟨v9', rfl⟩, XG, hkG, hoG, oG⟩ ⟨rfl, hv⟩
      have mv := List.mem_of_getElem? hv
      have od := oG v mv
      obtain ⟨d, id, kf⟩ := (od.ext (ExtN.of rm_same)).at_
      obtain ⟨dx, dd, kvx, g1, g2, g3, g4⟩ := XG.offH
      refine ⟨_, rfl, _, rfl, x, dx, _, rfl, g1, x, v, byName rs ys, d, rfl, XG.offH, id, fun H3 s3 => ⟨_, rfl, ?_⟩⟩
      rw [kf]
      have wk : (Str.ofString "kind").length ≤ 1000 := by decide +kernel
      have fin : ∀ {G' : Hp}, ExtN G G' → Tabs (Tb P1 P2) G' → Sx K l a r x (Tb P1 P2) ns rs ys G' ∧ (rm G' a) kl = some (.lst (ys.map V.str)) ∧ (rm G' a) ol = some (.lst [.non, .int 5, .str "zz", .str "", .bl true, .ref t1, .ref t2, .ref t3, .str (y0 ++ (Str.ofString "x")), .int 0]) ∧ ∀ v ∈ ([.non, .int 5, .str "zz", .str "", .bl true, .ref t1, .ref t2, .ref t3, .str (y0 ++ (Str.ofString "x")), .int 0] : List V), OddK (byName rs ys) (rm G' a) v := fun {G'} e tb =>
        ⟨XG.extN e tb, ext_rm e _ _ hkG (fun _ z => by cases z), ext_rm e _ _ hoG (fun _ z => by cases z), fun v m => (oG v m).ext (ext_rm e)⟩
      rcases od with ⟨d', id', kf', dp⟩ | ⟨e0, rfl, he0⟩
      · refine ⟨false, rfl, iteF ?_⟩
        refine .inl ⟨Tabs.ext XG.tab s3, fun G2 e2 tab2 => ?_⟩
        have e02 : ExtN G G2 := (ExtN.of s3).trans e2
        have id2 := id'.ext ((ExtN.of rm_same).trans e02)
        have of2 := XG.offH.ext e02
        have g12 := e02 _ _ g1 (fun _ z => by cases z)
        refine ⟨_, rfl, x, dx, _, rfl, g12, rfl, _, rfl, x, v, byName rs ys, d', rfl, of2, id2, .inr ⟨kf', fun G3 e s4 he => ⟨CK, "kind", e, v, .inr ⟨rfl, rfl⟩, by rw [eK], rfl, upd_same, fun q1 hq1 => ?_⟩⟩⟩
        have s5 := Same.up (o := .xd [("kind", v)]) he
        have s6 := Same.up (o := .tup [.str "kind", v]) hq1
        refine ⟨_, rfl, lineN (n := 2), fun q2 hq2 => ?_⟩
        have s7 := Same.up (o := .tup [.str "kind", v]) hq2
        have sE := s4.trans (s5.trans (s6.trans s7))
        have i1 : Is _ (.ref q1) (.tup [.str "kind", d']) := .tup (s7 _ _ upd_same) (.cons (.str _ wk) (.cons (id2.mono sE) .nil)) (by show 2 ≤ 60; decide)
        have i2 : Is _ (.ref q2) (.tup [.str "kind", d']) := .tup upd_same (.cons (.str _ wk) (.cons (id2.mono sE) .nil)) (by show 2 ≤ 60; decide)
        refine ⟨_, _, _, rfl, i1, i2, .tup 4 _ (fun y m => ?_), fun G4 s8 => ⟨_, rfl, iteF ⟨⟨_, rfl⟩, fin (e02.trans (ExtN.of (sE.trans s8))) (Tabs.ext tab2 (sE.trans s8))⟩⟩⟩
        simp only [List.mem_cons, List.not_mem_nil, or_false] at m
        rcases m with rfl | rfl
        · exact .str 4 _
        · exact dep_le dp (by decide)
      · refine ⟨false, rfl, iteF ?_⟩
        refine .inr ⟨Tabs.ext XG.tab s3, fun G2 e2 tab2 => ?_⟩
        have e02 : ExtN G G2 := (ExtN.of s3).trans e2
        have he2 := e02 _ _ (rm_same _ _ he0) (fun _ z => by cases z)
        have of2 := XG.offH.ext e02
        have g12 := e02 _ _ g1 (fun _ z => by cases z)
        refine ⟨_, rfl, x, dx, _, rfl, g12, rfl, _, rfl, x, .ref e0, byName rs ys, .dic, rfl, of2, .dic he2, .inr ⟨rfl, fun G3 e s4 he => ⟨CK, "kind", e, .ref e0, .inr ⟨rfl, rfl⟩, by rw [eK], rfl, upd_same, fun q1 hq1 => ?_⟩⟩⟩
        have s5 := Same.up (o := .xd [("kind", .ref e0)]) he
        have s6 := Same.up (o := .tup [.str "kind", .ref e0]) hq1
        refine ⟨_, rfl, lineN (n := 2), fun q2 hq2 => ?_⟩
        have s7 := Same.up (o := .tup [.str "kind", .ref e0]) hq2
        have sE := s4.trans (s5.trans (s6.trans s7))
        exact ⟨q1, q2, e0, "kind", rfl, wk, s7 _ _ upd_same, upd_same, sE _ _ he2, fun G4 s8 => ⟨_, rfl, iteF ⟨⟨_, rfl⟩, fin (e02.trans (ExtN.of (sE.trans s8))) (Tabs.ext tab2 (sE.trans s8))⟩⟩⟩
    · rintro σ G ⟨⟨v9', rfl⟩, XG, hkG, _, _⟩
      exact rest _ _ ⟨v9', rfl, XG, hkG⟩
  rintro σ H11 ⟨v9', rfl, X11, hkl11⟩
  try dsimp only
  refine cut_if (fun σ H' => ∃ (sx : Addr) (w7 : Option V), σ = [some (.ref l), some (.int (0 + (i : Nat))), v2, some (.ref a), some (.ref r), some (.ref hd), some (.ref x), w7, some (.ref kl), v9', some (.ref sx), v11, v12] ∧ Sx K l a r x (Tb P1 P2) ns rs ys H' ∧ (rm H' a) kl = some (.lst (ys.map V.str)) ∧ OffR K (rm H' a) sx (byName rs ys)) ?_ fun rest => ?_
  rotate_left
  · obtain ⟨kvr, q1, q2⟩ := X11.rkH
    have hn9 := q2.ent dr.1
    have hk9 := rm_same _ _ hkl11
    refine ⟨_, rfl, kl, rfl, ⟨_, SqL.of hk9⟩, fun D hD => lc_gen walk_list walk_at ys (fun _ => true) (by rw [List.length_map]) (sz (m := 60) (by rw [List.length_map]; omega)) hD (fun H' s' => SqL.of (s' _ _ hk9)) (fun H' y v => PairV rs H' y v)
      (fun _ _ _ _ e h => h.mono e) (fun _ _ _ _ _ e h => h.lay e) (fun j u y H2 A B hj hu hy s2 kA kB => ?_) (fun H2 acc s2 h2 pr => ?_)⟩
    · obtain rfl : u = .str y := by
        rw [List.getElem?_map, hy] at hu
        exact (Option.some.inj hu).symm
      have my := perm.mem_iff.mp (List.mem_of_getElem? hy)
      obtain ⟨u, eu, tu⟩ := hn9.at_ my
      exact ⟨rfl, _, rfl, _, rfl, _, rfl, r, u, rfl, .inl ⟨kvr, Sum.inr y, .inl (s2 _ _ q1), rfl, eu.symm⟩, lineN (n := 2), fun t ht => kA rfl _ _ (Same.up ht) ⟨t, u, rfl, upd_same, tu.mono (s2.trans (Same.up ht))⟩⟩
    · rw [List.filter_eq_self.mpr fun _ _ => rfl] at pr
      obtain ⟨ts, kv2, eacc, pp, en, tl⟩ := pairs_of (K := K) pr
      subst eacc
      have ynd : ys.Nodup := perm.nodup_iff.mpr dr.1
      have nd2 : ((byName rs ys).map (·.1)).Nodup := by rw [names_by]; exact ynd
      refine ⟨D, ts, kv2, rfl, SqL.of h2, pp, fun d1 h3 => ?_⟩
      rw [merge_ent en nd2]
      have s3 := Same.up (H := H2) (o := .dK kv2) h3
      have s23 := s2.trans s3
      refine ok_office upd_same (en.imp fun v ws h => TupV.seq (h.mono s3)) (good_by gd (fun y m => perm.mem_iff.mp m) ynd (by omega)) fun sx H' ys' hx s4 p4 srt4 o4 => ?_
      rw [names_by] at p4
      rw [by_by fun z m => p4.mem_iff.mp m] at o4
      obtain rfl := sorted_one (p4.trans perm) perm srt4 srt
      have s24 := s23.trans s4
      have XX := X11.grow s24
      exact rest _ _ ⟨sx, _, rfl, XX, (Same.rm s24) _ _ hkl11, o4.out XX.d⟩
  rintro σ H12 ⟨sx, w7, rfl, X12, hkl12, os12⟩
  try dsimp only
  refine cut_if (fun σ H' => ∃ (w11 : Option V), σ = [some (.ref l), some (.int (0 + (i : Nat))), v2, some (.ref a), some (.ref r), some (.ref hd), some (.ref x), w7, some (.ref kl), v9', some (.ref sx), w11, v12] ∧ Sx K l a r x (Tb P1 P2) ns rs ys H' ∧ (rm H' a) kl = some (.lst (ys.map V.str))) ?_ fun rest => ?_
  rotate_left
  · obtain ⟨dx, dd, kvx, g1, g2, g3, g4⟩ := X12.offH
    have osH := os12.mono rm_same
    obtain ⟨ex, ed, kve, f1, f2, f3, f4⟩ := id osH
    obtain ⟨kvr, q1, q2⟩ := X12.rkH
    have hk12 := rm_same _ _ hkl12
    have yes : sameR (byName rs ys) (byName rs ys) = true := same_self dr.1 fun _ _ => rfl
    refine ⟨_, rfl, _, rfl, sx, ex, _, rfl, f1, X12.offH.rt, sx, .ref x, byName rs ys, rfl, osH, .inr ⟨x, byName rs ys, rfl, X12.offH, ?_⟩⟩
    rw [yes]
    refine ⟨_, rfl, iteF ⟨_, rfl, _, rfl, sx, ex, _, rfl, f1, .inl ⟨x, _, dx, _, rfl, g1, first_self⟩, sx, .ref x, byName rs ys, rfl, osH, .inr ⟨x, byName rs ys, rfl, X12.offH, ?_⟩⟩⟩
    rw [yes]
    refine ⟨_, rfl, ⟨_, rfl, iteF ?_⟩⟩
    refine ⟨_, rfl, _, rfl, lineN (n := 4), fun tp htp => ?_⟩
    have s1 := Same.up (o := .tup [.non, .ref r, .ref kl, .str "red"]) htp
    refine ⟨tp, rfl, ⟨_, SqT.of upd_same⟩, fun D hD => lc_pure (walk_tup (xs := [.non, .ref r, .ref kl, .str "red"])) walk_at (([false, false, false, false]).map V.bl) rfl (sz (m := 60) (by show 4 ≤ 60; decide)) hD (fun H' s' => SqT.of (s' _ _ upd_same)) (fun j u y H2 R hj hu hy s2 k => ?_) (fun H2 s2 h2 => ⟨D, [false, false, false, false], rfl, SqL.of h2, ?_⟩)⟩
    · have s02 := s1.trans s2
      have mu := List.mem_of_getElem? hu
      have my := List.mem_of_getElem? hy
      have ey : y = V.bl false := by
        simp only [List.map_cons, List.map_nil, List.mem_cons, List.not_mem_nil, or_false, or_self] at my
        exact my
      subst ey
      have odd : Odd H2 u := by
        simp only [List.mem_cons, List.not_mem_nil, or_false] at mu
        rcases mu with rfl | rfl | rfl | rfl
        · exact .inl rfl
        · exact .inr (.inr (.inl ⟨r, kvr, rfl, s02 _ _ q1⟩))
        · exact .inr (.inr (.inr ⟨kl, _, rfl, s02 _ _ hk12⟩))
        · exact .inr (.inl ⟨_, rfl⟩)
      exact ⟨_, rfl, _, rfl, x, dx, _, rfl, s02 _ _ g1, odd.rt, x, u, byName rs ys, rfl, X12.offH.mono s02, .inl ⟨odd, k _ (Same.refl _)⟩⟩
    · exact ⟨_, rfl, iteF (rest _ _ ⟨_, rfl, X12.grow (s1.trans s2), (Same.rm (s1.trans s2)) _ _ hkl12⟩)⟩
  rintro σ H13 ⟨w11, rfl, X13, hkl13⟩
  try dsimp only
  obtain ⟨dx, dd, kvx, g1, g2, g3, g4⟩ := X13.offH
  refine ⟨_, rfl, r, rs, rfl, X13.rkH, dr, fun ol ds H14 s1 hol dl oth => ⟨ol, rfl, ⟨_, SqL.of hol⟩, fun D hD => lc_pure (walk_list (xs := ds.map V.ref)) walk_at ((ds.map fun _ => false).map V.bl) (by simp) (sz (m := 60) (by rw [List.length_map]; omega)) hD (fun H' s' => SqL.of (s' _ _ hol)) (fun j u y H2 R hj hu hy s2 k => ?_) (fun H2 s2 h2 => ⟨D, ds.map fun _ => false, rfl, SqL.of h2, ?_⟩)⟩⟩
  · rw [List.getElem?_map] at hu
    obtain ⟨d, hd', rfl⟩ := Option.map_eq_some_iff.mp hu
    rw [List.getElem?_map, List.getElem?_map, hd'] at hy
    obtain rfl : V.bl false = y := Option.some.inj hy
    obtain ⟨rs', ⟨kvd, b1, b2⟩, g', df⟩ := oth d (List.mem_of_getElem? hd')
    refine ⟨_, rfl, ?_⟩
    delta tNil
    dsimp only
    refine ok_office (s2 _ _ b1) (b2.imp fun v ws h => TupV.seq (h.mono s2)) g' fun nx H' ys' hx s3 p3 srt3 o3 => ?_
    have s03 := s1.trans (s2.trans s3)
    obtain ⟨ex, ed, kve, f1, f2, f3, f4⟩ := id o3
    refine ⟨_, rfl, nx, ex, _, rfl, f1, (X13.offH.mono s03).rt, nx, .ref x, byName rs' ys', rfl, o3, .inr ⟨x, byName rs ys, rfl, X13.offH.mono s03, ?_⟩⟩
    rw [df ys ys' perm p3]
    exact k _ s3
  · rw [show (ds.map fun _ => false).any id = false from by rw [List.any_map]; exact List.any_eq_false.mpr fun _ _ => by simp]
    have X14 := X13.grow (s1.trans s2)
    refine ⟨false, rfl, iteF ⟨_, rfl, _, rfl, a, r, rs, rfl, X14.d, X14.rk, dr, X14.tab, fun H' d' e' t' => ⟨_, rfl, iteF ⟨⟨_, _, _, _, _, _, _, _, _, _, _, _, rfl⟩, sql_mono rm_same (sql_ext e' X14.sql), t'⟩⟩⟩⟩
end
end K00

set_option Elab.async false
set_option linter.all false
set_option maxRecDepth 100000
set_option maxHeartbeats 0
namespace K00
open PySem PySem.Spec PyProof.Rows L2 Sr
/-! ### the head -/
def dd (x : Str) (i : Nat) : He.DefD := ⟨(x, none), x, x, defArgs (top i), defBody (top i), defScope (top i), [], []⟩
def dm (c m qual : Str) (st : Stmt) : He.DefD := ⟨(c, some m), m, qual, defArgs st, defBody st, defScope st, [], []⟩
def fn : List He.DefD := [dd "is_list" 3, dd "is_name" 4, dd "is_rank" 12, dd "_law_source" 14, dd "_law_draw" 15, dd "_law_pick" 16, dd "_law_same" 17, dd "_law_some_ranks" 18, dd "_law_mixed" 19, dd "_law_refused" 20, dd "_law_others" 21, dd "_law_ranks_refused" 22, dd "law" 23, dm "BadRank" "__init__" "BadRank.__init__" s_BadRank___init__, dm "BadKind" "__init__" "BadKind.__init__" s_BadKind___init__, dm "Office" "kinds" "Office.kinds" s_Office_kinds, dm "Office" "rank" "Office.rank" s_Office_rank, dm "Office" "__eq__" "Office.__eq__" s_Office___eq__, dm "Office" "__len__" "Office.__len__" s_Office___len__, dm "Office" "__contains__" "Office.__contains__" s_Office___contains__, dm "Office" "__init__" "Office.__init__" s_Office___init__]
def fa : List He.Fa := [.glo "is_list", .glo "is_name", .glo "is_rank", .glo "_law_source", .glo "_law_draw", .glo "_law_pick", .glo "_law_same", .glo "_law_some_ranks", .glo "_law_mixed", .glo "_law_refused", .glo "_law_others", .glo "_law_ranks_refused", .glo "law", .free "len", .free "isinstance", .free "all", .free "range", .free "sorted", .free "list", .free "tuple", .free "min", .free "int", .free "str", .free "bool", .free "dict", .free "zip", .free "enumerate", .free "max", .free "sum", .free "set", .free "any", .str "SIGNS" signs, .int "LONGEST" 8, .glo "BadRank", .glo "BadKind", .glo "Office", .glo "WORDS", .cls "Office", .noat "Office" "_ranks", .mkr "Office", .meth "Office" "kinds", .meth "Office" "rank"]
def ts : List He.Tab := []
def tf : List He.Defn := [("_law_ranks_refused", none), ("law", none)]
def ex (K : PySem.W.Frag) : Bool := errAll K (He.ga K "BadRank") (He.fAd K ("BadRank", some "__init__")) "kind" && (errAll K (He.ga K "BadKind") (He.fAd K ("BadKind", some "__init__")) "kind" && (decide (PySem.W.exmOne K (.ref (He.ga K "BadRank")) (.ref (He.ga K "BadRank")) = some true) && (decide (PySem.W.exmOne K (.ref (He.ga K "BadKind")) (.ref (He.ga K "BadKind")) = some true) && (decide (PySem.W.exmOne K (.ref (He.ga K "BadKind")) (.ref (He.ga K "BadRank")) = some false) && (decide ((He.cT K ("_law_ranks_refused", none)).2 ≠ (He.cT K ("law", none)).2) && (decide (PySem.W.findIn K (.ref (He.ga K "Office")) "__class__" = some (some (.builtin "object.__class__"))) && (decide (PySem.W.specialIn K (.builtin "object.__class__") "__get__" = some (some (.builtin "getset_descriptor.__get__"))) && (decide (PySem.W.takesIn K (.builtin "object.__class__") = some true) && (decide (PySem.W.mroIn K (He.ga K "Office") (.type "object") = some true) && (decide (PySem.W.kitOne K (.ref (He.ga K "Office")) (.ref (He.ga K "Office")) = some true) && (decide (PySem.W.kitOne K (.type "NoneType") (.ref (He.ga K "Office")) = some false) && (decide (PySem.W.kitOne K (.type "dict") (.ref (He.ga K "Office")) = some false) && (decide (PySem.W.kitOne K (.type "list") (.ref (He.ga K "Office")) = some false) && (decide (PySem.W.kitOne K (.type "str") (.ref (He.ga K "Office")) = some false) && (decide (PySem.W.findIn K (.ref (He.ga K "Office")) "__len__" = some (some (.ref (He.fAd K ("Office", some "__len__"))))) && (decide (PySem.W.typeIn K (.ref (He.fAd K ("Office", some "__len__"))) = some (.type "function")) && (decide (PySem.W.findIn K (.ref (He.ga K "Office")) "__eq__" = some (some (.ref (He.fAd K ("Office", some "__eq__"))))) && (PySem.W.isFn K (.ref (He.fAd K ("Office", some "__eq__"))) && (decide (PySem.W.findIn K (.ref (He.ga K "Office")) "__ne__" = some (some (.builtin "object.__ne__"))) && (decide (PySem.W.findIn K (.ref (He.ga K "Office")) "__contains__" = some (some (.ref (He.fAd K ("Office", some "__contains__"))))) && (decide (PySem.W.typeIn K (.ref (He.fAd K ("Office", some "__contains__"))) = some (.type "function")) && (He.tupB K "WORDS" (words.map He.Dv.str)))))))))))))))))))))))
abbrev R : PySem.W.OpenRow := PySem.W.OpenLaw.row PySem.Challenge.rw_seatroads_k00_offices_made
abbrev hk : PySem.W.Hook := He.hookX 6 fa fn ts tf ex
def ob (s : PySem.W.SharedT) : He.AlX := He.obsX 6 fa fn ts tf ex (HandSHeadRun.getT s)
theorem ob_eq (s : PySem.W.SharedT) : ob s = hk.obs s.abs := He.obsX_eq (HandSHeadRun.getT_eq s)
def looseA : List Str := ["is_list", "is_name", "is_rank", "_law_source", "_law_draw", "_law_pick", "_law_same", "_law_some_ranks", "_law_mixed"]
def looseB : List Str := ["_law_refused", "_law_others", "_law_ranks_refused", "SIGNS", "LONGEST", "OfficeError", "Office", "WORDS", "BadRank", "BadKind"]
def loose : List Str := looseA ++ looseB
theorem run (w : World) : HandSHeadRun.RunEq R (PySem.W.view R.prog [23]) hk ob 60000 loose w := by
  intro os
  kernel_rfl
end K00

set_option Elab.async false
set_option linter.all false
set_option maxRecDepth 100000
set_option maxHeartbeats 4000000
namespace K00
open PySem PySem.Spec PyProof.Rows L2 Sr LamX
theorem facts {l : PySem.W.OpenLaw} {w : World} {K : PySem.W.Frag} {h : Heap} {mg : Str → Option Value} {f : Addr} (X : K.In h) (G : h.Ns mainGlobals mg) (hfa : mg ("law" : Str) = some (.ref f)) (c : He.SaysX fa fn ts tf ex w h K) : LawAtS l w K CX0 12 63 "script" mg f h := by
  have cd : He.SaysD fa fn K := c.t.d
  have e := hfa.symm.trans (He.glo_ok X G (cd.fact 12 (f := .glo "law") rfl))
  cases e
  have D_is_list : Dfn K mg "is_list" s_is_list := ⟨cd.def_ 0 (d := dd "is_list" 3) rfl, He.glo_ok X G (cd.fact 0 (f := .glo "is_list") rfl)⟩
  have D_is_name : Dfn K mg "is_name" s_is_name := ⟨cd.def_ 1 (d := dd "is_name" 4) rfl, He.glo_ok X G (cd.fact 1 (f := .glo "is_name") rfl)⟩
  have D_is_rank : Dfn K mg "is_rank" s_is_rank := ⟨cd.def_ 2 (d := dd "is_rank" 12) rfl, He.glo_ok X G (cd.fact 2 (f := .glo "is_rank") rfl)⟩
  have D__law_source : Dfn K mg "_law_source" s__law_source := ⟨cd.def_ 3 (d := dd "_law_source" 14) rfl, He.glo_ok X G (cd.fact 3 (f := .glo "_law_source") rfl)⟩
  have D__law_draw : Dfn K mg "_law_draw" s__law_draw := ⟨cd.def_ 4 (d := dd "_law_draw" 15) rfl, He.glo_ok X G (cd.fact 4 (f := .glo "_law_draw") rfl)⟩
  have D__law_pick : Dfn K mg "_law_pick" s__law_pick := ⟨cd.def_ 5 (d := dd "_law_pick" 16) rfl, He.glo_ok X G (cd.fact 5 (f := .glo "_law_pick") rfl)⟩
  have D__law_same : Dfn K mg "_law_same" s__law_same := ⟨cd.def_ 6 (d := dd "_law_same" 17) rfl, He.glo_ok X G (cd.fact 6 (f := .glo "_law_same") rfl)⟩
  have D__law_some_ranks : Dfn K mg "_law_some_ranks" s__law_some_ranks := ⟨cd.def_ 7 (d := dd "_law_some_ranks" 18) rfl, He.glo_ok X G (cd.fact 7 (f := .glo "_law_some_ranks") rfl)⟩
  have D__law_mixed : Dfn K mg "_law_mixed" s__law_mixed := ⟨cd.def_ 8 (d := dd "_law_mixed" 19) rfl, He.glo_ok X G (cd.fact 8 (f := .glo "_law_mixed") rfl)⟩
  have D__law_refused : Dfn K mg "_law_refused" s__law_refused := ⟨cd.def_ 9 (d := dd "_law_refused" 20) rfl, He.glo_ok X G (cd.fact 9 (f := .glo "_law_refused") rfl)⟩
  have D__law_others : Dfn K mg "_law_others" s__law_others := ⟨cd.def_ 10 (d := dd "_law_others" 21) rfl, He.glo_ok X G (cd.fact 10 (f := .glo "_law_others") rfl)⟩
  have D__law_ranks_refused : Dfn K mg "_law_ranks_refused" s__law_ranks_refused := ⟨cd.def_ 11 (d := dd "_law_ranks_refused" 22) rfl, He.glo_ok X G (cd.fact 11 (f := .glo "_law_ranks_refused") rfl)⟩
  obtain ⟨fd, DL⟩ := cd.def_ 12 (d := dd "law" 23) rfl
  have DE_BadRank : DfnM K "BadRank" "__init__" "BadRank.__init__" s_BadRank___init__ := ⟨cd.def_ 13 (d := dm "BadRank" "__init__" "BadRank.__init__" s_BadRank___init__) rfl⟩
  have DE_BadKind : DfnM K "BadKind" "__init__" "BadKind.__init__" s_BadKind___init__ := ⟨cd.def_ 14 (d := dm "BadKind" "__init__" "BadKind.__init__" s_BadKind___init__) rfl⟩
  have DM_kinds : DfnM K "Office" "kinds" "Office.kinds" s_Office_kinds := ⟨cd.def_ 15 (d := dm "Office" "kinds" "Office.kinds" s_Office_kinds) rfl⟩
  have DM_rank : DfnM K "Office" "rank" "Office.rank" s_Office_rank := ⟨cd.def_ 16 (d := dm "Office" "rank" "Office.rank" s_Office_rank) rfl⟩
  have DM___eq__ : DfnM K "Office" "__eq__" "Office.__eq__" s_Office___eq__ := ⟨cd.def_ 17 (d := dm "Office" "__eq__" "Office.__eq__" s_Office___eq__) rfl⟩
  have DM___len__ : DfnM K "Office" "__len__" "Office.__len__" s_Office___len__ := ⟨cd.def_ 18 (d := dm "Office" "__len__" "Office.__len__" s_Office___len__) rfl⟩
  have DM___contains__ : DfnM K "Office" "__contains__" "Office.__contains__" s_Office___contains__ := ⟨cd.def_ 19 (d := dm "Office" "__contains__" "Office.__contains__" s_Office___contains__) rfl⟩
  have DM___init__ : DfnM K "Office" "__init__" "Office.__init__" s_Office___init__ := ⟨cd.def_ 20 (d := dm "Office" "__init__" "Office.__init__" s_Office___init__) rfl⟩
  have T : Txt K mg := ⟨He.free_ok X G (cd.fact 13 (f := .free "len") rfl), He.free_ok X G (cd.fact 14 (f := .free "isinstance") rfl), He.free_ok X G (cd.fact 15 (f := .free "all") rfl), He.free_ok X G (cd.fact 16 (f := .free "range") rfl), He.free_ok X G (cd.fact 17 (f := .free "sorted") rfl), He.free_ok X G (cd.fact 18 (f := .free "list") rfl), He.free_ok X G (cd.fact 19 (f := .free "tuple") rfl), He.free_ok X G (cd.fact 20 (f := .free "min") rfl), He.free_ok X G (cd.fact 21 (f := .free "int") rfl), He.free_ok X G (cd.fact 22 (f := .free "str") rfl), He.free_ok X G (cd.fact 23 (f := .free "bool") rfl), He.free_ok X G (cd.fact 24 (f := .free "dict") rfl), He.free_ok X G (cd.fact 25 (f := .free "zip") rfl), He.free_ok X G (cd.fact 26 (f := .free "enumerate") rfl), He.str_ok X G (cd.fact 31 (f := .str "SIGNS" signs) rfl), He.int_ok X G (cd.fact 32 (f := .int "LONGEST" 8) rfl), He.free_ok X G (cd.fact 27 (f := .free "max") rfl), He.free_ok X G (cd.fact 28 (f := .free "sum") rfl), He.free_ok X G (cd.fact 29 (f := .free "set") rfl), He.free_ok X G (cd.fact 30 (f := .free "any") rfl)⟩
  have N_BadRank := He.glo_ok X G (cd.fact 33 (f := .glo "BadRank") rfl)
  have N_BadKind := He.glo_ok X G (cd.fact 34 (f := .glo "BadKind") rfl)
  have N_Office := He.glo_ok X G (cd.fact 35 (f := .glo "Office") rfl)
  have hW := He.glo_ok X G (cd.fact 36 (f := .glo "WORDS") rfl)
  obtain ⟨x0, y1⟩ := He.ba c.more
  obtain ⟨x1, y2⟩ := He.ba y1
  obtain ⟨x2, y3⟩ := He.ba y2
  obtain ⟨x3, y4⟩ := He.ba y3
  obtain ⟨x4, y5⟩ := He.ba y4
  obtain ⟨x5, y6⟩ := He.ba y5
  obtain ⟨x6, y7⟩ := He.ba y6
  obtain ⟨x7, y8⟩ := He.ba y7
  obtain ⟨x8, y9⟩ := He.ba y8
  obtain ⟨x9, y10⟩ := He.ba y9
  obtain ⟨x10, y11⟩ := He.ba y10
  obtain ⟨x11, y12⟩ := He.ba y11
  obtain ⟨x12, y13⟩ := He.ba y12
  obtain ⟨x13, y14⟩ := He.ba y13
  obtain ⟨x14, y15⟩ := He.ba y14
  obtain ⟨x15, y16⟩ := He.ba y15
  obtain ⟨x16, y17⟩ := He.ba y16
  obtain ⟨x17, y18⟩ := He.ba y17
  obtain ⟨x18, y19⟩ := He.ba y18
  obtain ⟨x19, y20⟩ := He.ba y19
  obtain ⟨x20, y21⟩ := He.ba y20
  obtain ⟨x21, y22⟩ := He.ba y21
  have E_BadRank := errAll_ok x0
  have E_BadKind := errAll_ok x1
  have ex11 := of_decide_eq_true x2
  have ex22 := of_decide_eq_true x3
  have ex21 := of_decide_eq_true x4
  have enP := of_decide_eq_true x5
  have N : OfN K mg := ⟨N_Office, of_decide_eq_true x6, of_decide_eq_true x7, of_decide_eq_true x8, of_decide_eq_true x9, of_decide_eq_true x10, of_decide_eq_true x11, of_decide_eq_true x12, of_decide_eq_true x13, of_decide_eq_true x14⟩
  have M_kinds : Meth K (He.ga K "Office") "kinds" (He.fAd K ("Office", some "kinds")) := He.meth_ok (cd.fact 40 (f := .meth "Office" "kinds") rfl)
  have M_rank : Meth K (He.ga K "Office") "rank" (He.fAd K ("Office", some "rank")) := He.meth_ok (cd.fact 41 (f := .meth "Office" "rank") rfl)
  have OM : OfM K := ⟨M_kinds, M_rank, of_decide_eq_true x15, of_decide_eq_true x16, of_decide_eq_true x17, x18, of_decide_eq_true x19⟩
  have O : Off K mg := ⟨He.cls_ok (cd.fact 37 (f := .cls "Office") rfl), He.noat_ok (cd.fact 38 (f := .noat "Office" "_ranks") rfl), ⟨of_decide_eq_true x20, of_decide_eq_true x21⟩⟩
  have W : Wds K mg := ⟨hW, fun H => He.tupB_ok y22 H⟩
  have Mo : Mk K (He.ga K "Office") (He.fAd K ("Office", some "__init__")) := He.mkr_ok (cd.fact 39 (f := .mkr "Office") rfl)
  have b := FunD.bindsA (ps := ["script"]) DL fun _ _ _ _ _ _ us hl => match us, hl with | [_], _ => rfl
  refine ⟨fd, [He.cT K ("_law_ranks_refused", none), He.cT K ("law", none)], spLaw K (He.cT K ("_law_ranks_refused", none)).2 (He.cT K ("law", none)).2, ?_, ?_, ?_, fun s v => b s [v] rfl, fun H a ns hl _ hT hS => ⟨a, ns, rfl, hS, hT _ List.mem_cons_self, hT _ (List.mem_cons_of_mem _ List.mem_cons_self), fun _ => rfl⟩, fun base _ _ TB => ?_⟩
  · intro p hp
    rcases List.mem_cons.mp hp with rfl | hp
    · exact c.empty _ List.mem_cons_self
    · rw [List.mem_singleton.mp hp]
      exact c.empty _ (List.mem_cons_of_mem _ List.mem_cons_self)
  · intro p hp
    rcases List.mem_cons.mp hp with rfl | hp
    · exact c.out _ List.mem_cons_self
    · rw [List.mem_singleton.mp hp]
      exact c.out _ (List.mem_cons_of_mem _ List.mem_cons_self)
  · intro p hp
    rcases List.mem_cons.mp hp with rfl | hp
    · exact PySem.W.codeHd_of_K X (c.hd _ List.mem_cons_self)
    · rw [List.mem_singleton.mp hp]
      exact PySem.W.codeHd_of_K X (c.hd _ (List.mem_cons_of_mem _ List.mem_cons_self))
  have TB1 := TB _ List.mem_cons_self
  have TB2 := TB _ (List.mem_cons_of_mem _ List.mem_cons_self)
  have C_is_list := c_is_list (P := l.prog) (w := w) (base := base) T D_is_list
  have C_is_name := c_is_name (P := l.prog) (w := w) (base := base) T D_is_name
  have C_is_rank := c_is_rank T W D_is_rank C_is_list
  have R_BadRank : ErrAt l.prog w K mg base "BadRank" "kind" "kind" := ⟨E_BadRank, m_BadRank E_BadRank DE_BadRank, N_BadRank⟩
  have R_BadKind : ErrAt l.prog w K mg base "BadKind" "kind" "kind" := ⟨E_BadKind, m_BadKind E_BadKind DE_BadKind, N_BadKind⟩
  have Mk0 : MkO l.prog w K mg base := ⟨m_init T O R_BadRank DM___init__ C_is_name C_is_rank, Mo, N_Office⟩
  have MK := m_kinds (P := l.prog) (w := w) (base := base) T O DM_kinds
  have ML := m_len (P := l.prog) (w := w) (base := base) T O DM___len__
  have MH := m_contains (P := l.prog) (w := w) (base := base) T O DM___contains__
  have MR := m_rank O MH R_BadKind DM_rank
  have ME := m_eq (P := l.prog) (w := w) (base := base) T O N DM___eq__
  have C_src := c__law_source (P := l.prog) (w := w) (base := base) T D__law_source
  have C_draw := c__law_draw (P := l.prog) (w := w) (base := base) T D__law_draw
  have C_pick := c__law_pick T D__law_pick C_draw
  have C_same := c__law_same_deep (P := l.prog) (w := w) (base := base) T D__law_same 5
  have C_same0 := c__law_same_deep (P := l.prog) (w := w) (base := base) T D__law_same 0
  have C_dic := c_same_dic (P := l.prog) (w := w) (base := base) T D__law_same
  have C_kind := c_same_kind T D__law_same C_same0 C_dic
  have C_some := c__law_some_ranks T D__law_some_ranks C_draw C_pick
  have C_mix := c__law_mixed T D__law_mixed C_draw
  have C_oth := c__law_others (P := l.prog) (w := w) (base := base) T D__law_others
  have C_rr := c__law_ranks_refused T D__law_ranks_refused TB1 enP D__law_refused N_BadRank N_BadKind E_BadRank E_BadKind rfl rfl ex11 ex22 ex21 C_draw C_pick C_same Mk0
  exact c_law T O N OM DL TB2 enP D__law_refused N_BadRank N_BadKind E_BadRank E_BadKind rfl rfl ex11 ex22 ex21 C_src C_some C_mix C_same C_kind C_oth C_rr Mk0 MK ML MH MR ME
end K00
open PySem PySem.W PySem.Calls PyProof.Rows
theorem PySem.Challenge.cw_seatroads_k00_offices_made_holds : PySem.Challenge.rw_seatroads_k00_offices_made.Holds := by
  w_on; o_law
  refine HandSHeadRun.head_any (r := OpenLaw.row PySem.Challenge.rw_seatroads_k00_offices_made) (q := view (OpenLaw.row PySem.Challenge.rw_seatroads_k00_offices_made).prog [23]) (H := K00.hk) (ob := K00.ob) (M := 60000) (loose := K00.loose) (d := HandSHeadRun.topDef (OpenLaw.row PySem.Challenge.rw_seatroads_k00_offices_made).prog 23) (kwd := []) K00.ob_eq
    (by kernel_rfl) (fun s => by kernel_rfl) K00.run (by kernel_rfl) (by kernel_rfl) (by kernel_rfl) (by rfl) (by first | assumption | decide +kernel) (by decide +kernel) ⟨rfl, rfl, rfl, rfl, rfl, by decide +kernel⟩ ?hw ?hc
  case hw => w_witness2
  case hc =>
    refine LamX.walk_ofTsE (l := PySem.Challenge.rw_seatroads_k00_offices_made) (n := 63) (k := 12) (x := "script") (CX := fun _ => L2.CX0) rfl (by decide) (by kernel_rfl) ⟨rfl, by decide, by decide⟩ ?F (fun _ _ _ _ _ z => z)
    intro w mg fa h Y G hmg0
    obtain ⟨K, KX, c⟩ := Y
    have hmg : mg ("law" : PySem.Str) = some (.ref fa) := by
      have e : (HandSHeadRun.topDef (OpenLaw.row PySem.Challenge.rw_seatroads_k00_offices_made).prog 23).name = ("law" : PySem.Str) := by kernel_rfl
      rw [← e]
      exact hmg0
    exact ⟨K, KX, K00.facts KX G hmg c⟩
