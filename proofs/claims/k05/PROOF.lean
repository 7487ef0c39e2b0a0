import PyProof.Rows.All
import Wide.All
import OpenK.AllK
import Wide.FinOn
import PyProof.EqAt
import PyProof.EqKinds
import PyProof.TupleCall
import PyProof.FString
import KE.KExcSuper
import HandS.Base
import HandS.Call
import HandS.List
import HandS.Ends
import HandS.Exc
import HandS.ExcField
import HandS.ExcIs
import HandS.ForMost
import HandS.FStr
import HandS.IsInst
import HandS.TupAny
import HandS.Style
import HandS.StrMore
import HandS.Strs
import Open.Row
import HandS.ForExc
import HandS.ExcOwn
import HandS.TryOnly
import HandS.RaiseMore
import HandS.TryMany
import KE.KExcIs
import HandS.Iter
import KE.GoesEnumKw
import PyProof.Rows.CallKwBuiltin
import HandS.Conv
import PySem.Challenge.RW_dawkline_k05_any_bytes_as_a_record
import HandS.Wide
import HandS.Defaults
import HandS.WordsExc
set_option Elab.async false
set_option linter.all false
set_option maxRecDepth 100000
set_option autoImplicit false
set_option Elab.async false
set_option linter.all false
set_option maxRecDepth 100000
set_option maxHeartbeats 4000000
set_option autoImplicit false
/-! An own error with a field: its __init__ says super().__init__(f'..{place}..') and self.place = place. -/
namespace PySem
namespace ErX
open PySem.W PySem.Calls PyProof.Rows PySem.HandSPX
def iA (p1 p2 : Pos) : Arguments := { posonlyargs := [], args := [{ arg := "self", annotation := none, pos := p1 }, { arg := "place", annotation := none, pos := p2 }], vararg := none, kwonlyargs := [], kw_defaults := [], kwarg := none, defaults := [] }
def iB (vals : List Expr) (p1 p2 p3 p4 p5 p6 q1 q2 q3 q4 : Pos) : List Stmt :=
  [.Expr (.Call (.Attribute (.Call (.Name "super" p1) [] [] p2) "__init__" p3) [.JoinedStr vals p4] [] p5) p6,
   .Assign [.Attribute (.Name "self" q1) "place" q2] (.Name "place" q3) q4]
def iS : Scope := { kind := .function, names := [(PySem.Str.ofString "self", .local), (PySem.Str.ofString "place", .local), (PySem.Str.ofString "__class__", .free), (PySem.Str.ofString "super", .globalImplicit)], isGenerator := false, isCoroutine := false, more := [] }
/-- a piece of the text: a written text of at most 1000 signs, or the place -/
def IsPart : Expr → Prop
  | .Constant (.str x) _ _ => x.length ≤ 1000
  | .FormattedValue (.Name n _) c sp _ => n = "place" ∧ c = -1 ∧ sp = none
  | _ => False
def partB : Expr → Bool
  | .Constant (.str x) _ _ => decide (x.length ≤ 1000)
  | .FormattedValue (.Name n _) c sp _ => decide (n = "place") && (decide (c = -1) && sp.isNone)
  | _ => false
theorem parts_of {l : List Expr} (h : l.all partB = true) : ∀ e ∈ l, IsPart e := fun e he => by
  have q := List.all_eq_true.mp h e he
  unfold partB at q
  unfold IsPart
  split at q
  · exact of_decide_eq_true q
  · obtain ⟨a, b⟩ := Bool.and_eq_true_iff.mp q
    obtain ⟨b, c⟩ := Bool.and_eq_true_iff.mp b
    exact ⟨of_decide_eq_true a, of_decide_eq_true b, Option.isNone_iff_eq_none.mp c⟩
  · cases q
section
variable {prog : Program} {w : World} {A : Around} {E : Value → Shared → Prop}
theorem parts_eval {env : Env} {m : Str → Option Value} {i : Int} {ti : Tok} (hi : i.natAbs < 10 ^ 100) (hm : m "place" = some (.int i ti)) (hk : env.scope.kind = .function) (hl : env.kindOf "place" = some .local) :
    ∀ (vals : List Expr) (acc : Str) (s : Shared) (Q : Str → Shared → Prop), (∀ e ∈ vals, IsPart e) → acc.length + 1000 * vals.length ≤ sizeLine → s.heap.Ns env.locals m →
    (∀ out tk, out.length ≤ sizeLine → Q out { s with toks := tk }) → Joins (model prog w) A E (evalEach vals env) acc Q s := by
  intro vals
  induction vals with
  | nil =>
    intro acc s Q _ hz _ k
    have e0 : evalEach [] env = [] := by first | rfl | simp [evalEach]
    rw [e0]
    exact k acc s.toks (by simpa using hz)
  | cons e r ih =>
    intro acc s Q hp hz hn k
    have e0 : evalEach (e :: r) env = eval e env :: evalEach r env := by first | rfl | simp [evalEach]
    rw [e0]
    have hlen : acc.length + 1000 + 1000 * r.length ≤ sizeLine := by
      rw [List.length_cons] at hz; omega
    have he : IsPart e := hp e (List.mem_cons_self)
    have hr : ∀ e ∈ r, IsPart e := fun u hu => hp u (List.mem_cons_of_mem _ hu)
    have go : ∀ (y : Str) (t : Tok) (tk : Tok), y.length ≤ 1000 → ∃ y' t', (Value.str y t) = .str y' t' ∧ (acc ++ y').length ≤ sizeLine ∧ Joins (model prog w) A E (evalEach r env) (acc ++ y') Q { s with toks := tk } := fun y t tk hy =>
      ⟨y, t, rfl, by rw [strLen_append]; omega, ih (acc ++ y) { s with toks := tk } Q hr (by rw [strLen_append]; omega) hn (fun out tk' ho => k out tk' ho)⟩
    unfold IsPart at he
    split at he
    · exact wpAny_Constant_str (go _ _ _ he)
    · obtain ⟨rfl, rfl, rfl⟩ := he
      refine wpAny_FormattedValue_plain (wpAny_Name (wpAny_loadName_local hk hl hn hm ?_) (by decide))
      have hb : i.natAbs.log2 < 1920 := by
        by_cases h0 : i.natAbs = 0
        · rw [h0]; decide
        · exact (Nat.log2_lt h0).mpr (Nat.lt_of_lt_of_le hi (by decide +kernel))
      refine formatField_int_small hb (go _ _ _ ?_)
      have e := int_text_length_le10 (a := i) (k := 100) (by decide) hi
      rw [ofString_length]; omega
    · exact he.elim
end
/-- what the written part says of the class nm, at C, and of its __init__, at fI -/
structure ErTxt (P : Program) (K : Frag) (mg : Str → Option Value) (nm qI : Str) (vals : List Expr) (C fI : Addr) : Prop where
  gC : mg nm = some (.ref C)
  cls : ∃ nm q N bs bm sn sub ab col dd k0 k1 k2 k3 k5, K.lookup C = some (excClassObj nm q C N bs bm true sn sub ab col dd k0 k1 k2 k3 k5 "ValueError.__new__") ∧ refsVE bm = true
  xi : excInitIn K C [.type "ValueError", .type "Exception", .type "BaseException", .type "object"] "ValueError.__new__" = true
  sa : findIn K (.ref C) "__setattr__" = some (some (.builtin "object.__setattr__"))
  ga : findIn K (.ref C) "__getattribute__" = some (some (.builtin "BaseException.__getattribute__"))
  gg : findIn K (.ref C) "__getattr__" = some none
  noN : findIn K (.ref C) "place" = some none
  iC : findIn K (.ref C) "__init__" = some (some (.ref fI))
  tC : typeIn K (.ref fI) = some (.type "function")
  kC : keepIn K (.ref C) = true
  exC : subIn K (.ref C) (.type "BaseException") = some true
  veC : subIn K (.ref C) (.type "ValueError") = some true
  meC : mroIn K C (.ref C) = some true
  tyC : typeIn K (.ref C) = some (.type "type")
  hdC : hasDictIn K C = true
  te : exmOne K (.ref C) (.ref C) = some true
  up : ks_superIn K C C "__init__" = some (some (.builtin "ValueError.__init__"))
  opq : nsIn K cStatics "thirdparty.any" = some none
  noS : mg "super" = none
  top : (P.main.scope.names.lookup ("super" : Str)).isSome = false
  pv : ∀ e ∈ vals, IsPart e
  pn : ∃ a b r, vals = a :: b :: r ∧ r.length ≤ 10
  fn : ∃ (oc : Value) (od : Option Addr) (doc pm : Value) (an : Option Addr) (cda cc : Addr) (ct : Value) (osl : Array (Option Value)) (p1 p2 p3 p4 p5 p6 q1 q2 q3 q4 a1 a2 : Pos)
      (ccl cl : Value) (cdd cld : Option Addr) (ccs csl : Array (Option Value)) (vs : Array Value) (file : Str) (tf : Tok),
    K.lookup fI = some ⟨oc, od, .func (ksFn "__init__" qI (iA a1 a2) (iB vals p1 p2 p3 p4 p5 p6 q1 q2 q3 q4) iS .none .none doc pm an (.ref cda) ct cc), osl⟩ ∧ codeIn K (.ref cda) qI = true ∧
    K.lookup cda = some ⟨ccl, cdd, .fields vs, ccs⟩ ∧ vs[2]? = some (.str file tf) ∧ ((P.main.file : Str) == file) = true ∧ (p3.endLine == p5.line) = true ∧
    K.lookup cc = some ⟨cl, cld, .cell (some (.ref C)), csl⟩
/-- from the written part, at the end: each fact by k_is -/
theorem er_mk {P : Program} {K : Frag} {h : Heap} {mg : Str → Option Value} {nm qI : Str} {vals : List Expr} {C fI cda cc N : Addr} {nm' q : Str} {bs bm : List Value} {sn : List Str} {sub : List Value} {ab : Bool} {col : Option Bool} {dd : Option Addr} {k0 k1 k2 k3 k5 : Option Value}
    {oc : Value} {od : Option Addr} {doc pm : Value} {an : Option Addr} {ct : Value} {osl : Array (Option Value)} {p1 p2 p3 p4 p5 p6 q1 q2 q3 q4 a1 a2 : Pos} {ccl cl : Value} {cdd cld : Option Addr} {ccs csl : Array (Option Value)} {vs : Array Value} {file : Str} {tf : Tok}
    (X : K.In h) (G : h.Ns mainGlobals mg) (aC : nsIn K mainGlobals nm = some (some (.ref C)))
    (xL : K.lookup C = some (excClassObj nm' q C N bs bm true sn sub ab col dd k0 k1 k2 k3 k5 "ValueError.__new__")) (hbm : refsVE bm = true)
    (xi : excInitIn K C [.type "ValueError", .type "Exception", .type "BaseException", .type "object"] "ValueError.__new__" = true)
    (sa : findIn K (.ref C) "__setattr__" = some (some (.builtin "object.__setattr__"))) (ga : findIn K (.ref C) "__getattribute__" = some (some (.builtin "BaseException.__getattribute__"))) (gg : findIn K (.ref C) "__getattr__" = some none)
    (nb : findIn K (.ref C) "place" = some none) (ii : findIn K (.ref C) "__init__" = some (some (.ref fI))) (tC : typeIn K (.ref fI) = some (.type "function")) (kC : keepIn K (.ref C) = true)
    (eC : subIn K (.ref C) (.type "BaseException") = some true) (vC : subIn K (.ref C) (.type "ValueError") = some true) (mC : mroIn K C (.ref C) = some true) (yC : typeIn K (.ref C) = some (.type "type")) (hC : hasDictIn K C = true)
    (te : exmOne K (.ref C) (.ref C) = some true) (up : ks_superIn K C C "__init__" = some (some (.builtin "ValueError.__init__"))) (opq : nsIn K cStatics "thirdparty.any" = some none) (noS : nsIn K mainGlobals "super" = some none)
    (fl : K.lookup fI = some ⟨oc, od, .func (ksFn "__init__" qI (iA a1 a2) (iB vals p1 p2 p3 p4 p5 p6 q1 q2 q3 q4) iS .none .none doc pm an (.ref cda) ct cc), osl⟩) (fc : codeIn K (.ref cda) qI = true)
    (lc : K.lookup cda = some ⟨ccl, cdd, .fields vs, ccs⟩) (lx : K.lookup cc = some ⟨cl, cld, .cell (some (.ref C)), csl⟩)
    (cv : vs[2]? = some (.str file tf)) (cf : ((P.main.file : Str) == file) = true) (cp : (p3.endLine == p5.line) = true) (top : (P.main.scope.names.lookup ("super" : Str)).isSome = false)
    (pv : ∀ e ∈ vals, IsPart e) (pn : ∃ a b r, vals = a :: b :: r ∧ r.length ≤ 10) : ErTxt P K mg nm qI vals C fI :=
  { gC := mg_of X G aC, cls := ⟨nm', q, N, bs, bm, sn, sub, ab, col, dd, k0, k1, k2, k3, k5, xL, hbm⟩, xi := xi, sa := sa, ga := ga, gg := gg, noN := nb, iC := ii, tC := tC, kC := kC, exC := eC, veC := vC, meC := mC, tyC := yC, hdC := hC, te := te, up := up, opq := opq, noS := mg_none_of X G noS,
    top := top, pv := pv, pn := pn, fn := ⟨oc, od, doc, pm, an, cda, cc, ct, osl, p1, p2, p3, p4, p5, p6, q1, q2, q3, q4, a1, a2, ccl, cl, cdd, cld, ccs, csl, vs, file, tf, fl, fc, lc, cv, cf, cp, lx⟩ }
/-- what __init__ leaves of a fresh exception at x -/
structure InitEnd (h h' : Heap) (x C dx t1 : Addr) (v : Value) : Prop where
  keep : ∀ b o, b ≠ x → h.get? b = some o → h'.get? b = some o
  obj : h'.get? x = some { cls := .ref C, dict := some dx, data := .fields #[.ref t1, .none, .none, .none, .bool false, .none] }
  dbig : h.objs.size ≤ dx
  dne : dx ≠ x
  ns : h'.Ns1 dx (fun y => if y = "place" then some v else none)
/-- a made error -/
structure OwnMade (h h' : Heap) (e C d : Addr) (v : Value) : Prop where
  keep : ∀ b o, h.get? b = some o → h'.get? b = some o
  new : h.objs.size ≤ e
  obj : ∃ oe vs, h'.get? e = some oe ∧ oe.cls = .ref C ∧ oe.dict = some d ∧ oe.data = .fields vs ∧ vs[1]? = some .none
  dbig : h.objs.size ≤ d
  dne : d ≠ e
  ns : h'.Ns1 d (fun y => if y = "place" then some v else none)
section
variable {P : Program} {w : World} {A : Around} {R : Result → Shared → Prop} {s : Shared} {K : Frag} {mg : Str → Option Value} {nm qI : Str} {vals : List Expr} {C fI : Addr}
theorem super_he {va vb : Expr} {vr : List Expr} {p1 p2 p3 p4 p5 : Pos} {env : Env} (hp : (p3.endLine == p5.line) = true) :
    eval (.Call (.Attribute (.Call (.Name "super" p1) [] [] p2) "__init__" p3) [.JoinedStr (va :: vb :: vr) p4] [] p5) env = (do
      let ov ← attributeBase (.Call (.Name "super" p1) [] [] p2) "__init__" env (eval (.Call (.Name "super" p1) [] [] p2) env)
      standAt p3.atName
      let (f, first) ← holding [ov] (getMethod ov "__init__" (do return (← importBound (.Call (.Name "super" p1) [] [] p2) env).getD true))
      callWith p5 f first (backTo p5 (starEach [.JoinedStr (va :: vb :: vr) p4] env)) []) := by
  have e1 : methodCallPos true (.Call (.Name "super" p1) [] [] p2) env p3 p5 = pure p5 := by
    unfold methodCallPos
    simp only [Bool.not_true, Bool.false_or, hp, if_true]
  have e2 : methodCallForm ([Expr.JoinedStr (va :: vb :: vr) p4].length + ([] : List Keyword).length) (backTo p5 (starEach [.JoinedStr (va :: vb :: vr) p4] env)) (backToKw p5 (keywordEach [] env)) = true := by rfl
  have e3 : backToKw p5 (keywordEach [] env) = [] := by rfl
  rw [arm_eval_Call]
  unfold methodCall calleeOf
  rw [e2, e1, e3]
  rfl
theorem one_sz (v : Value) : [v].length ≤ sizeLine := by
  rw [sizeLine_eq]
  exact (by decide : 1 ≤ 16777216)
theorem er_init (T : ErTxt P K mg nm qI vals C fI) {x t0 : Addr} {i : Int} {ti : Tok} (X : K.In s.heap) (G : s.heap.Ns mainGlobals mg) (B : ∃ mb, s.heap.Ns builtinsNs mb ∧ ∀ x : Str, x ≠ "__name__" → mb x = bootBuiltins x)
    (hlim : s.heap.NoLimit) (hx : s.heap.get? x = some (excO C t0)) (hnx : K.lookup x = none) (hroom : A.depth < recursionLimit) (hi : i.natAbs < 10 ^ 100)
    (hq : ∀ h' tk dx t1, InitEnd s.heap h' x C dx t1 (.int i ti) → R (.ok (.ret .none)) { s with heap := h', toks := tk }) :
    codeAny (model P w) A (.call (.ref fI) ⟨[.ref x, .int i ti], []⟩) R s := by
  obtain ⟨oc, od, doc, pm, an, cda, cc, ct, osl, p1, p2, p3, p4, p5, p6, q1, q2, q3, q4, a1, a2, ccl, cl, cdd, cld, ccs, csl, vs, file, tf, ho, hcd, hcode, hvs, hfile, hpos, hcell⟩ := T.fn
  obtain ⟨nm', q, N, bs, bm, sn, sub, ab, col, dd, k0, k1, k2, k3, k5, hC, hbm⟩ := T.cls
  obtain ⟨va, vb, vr, rfl, hvr⟩ := T.pn
  have hcl : clsIn K C = some { name := nm', bases := bs, mro := .ref C :: bm, ns := N, qualname := q, hasDict := true, slotNames := sn, subclasses := sub, abstract := ab, collection := col, hasDel := false } := by unfold clsIn; rw [hC] <;> rfl
  obtain ⟨mb, hB, hboot⟩ := B
  have hc0 : ∀ x ∈ iS.names, x.2 ≠ .cell := by decide
  have hl0 : ∀ y ∈ ([("self", Value.ref x), ("place", .int i ti)] : List (Str × Value)), iS.names.lookup y.1 = some .local := by
    intro y hy
    rcases List.mem_cons.mp hy with rfl | hy
    · rfl
    · rcases List.mem_cons.mp hy with rfl | hy
      · rfl
      · cases hy
  refine ks_codeAny_call_defAt (args := ⟨[.ref x, .int i ti], []⟩) (fd := ksFn "__init__" qI (iA a1 a2) (iB (va :: vb :: vr) p1 p2 p3 p4 p5 p6 q1 q2 q3 q4) iS .none .none doc pm an (.ref cda) ct cc) (body := iB (va :: vb :: vr) p1 p2 p3 p4 p5 p6 q1 q2 q3 q4)
    (binds := [("self", .ref x), ("place", .int i ti)]) hroom (X _ _ ho) rfl hlim (codeRec_of X hcd) rfl (BindsTo.of_eq (by first | rfl | with_unfolding_all rfl)) hc0 hl0 (fun h₁ hns hk₁ => ?_)
  have X₁ : K.In h₁ := X.keeps hk₁
  have hx₁ := hk₁ _ _ hx
  have hxL : s.heap.objs.size ≠ x := Nat.ne_of_gt (Heap.lt_size hx)
  have hLlt : s.heap.objs.size < h₁.objs.size := hns.lt
  obtain ⟨hp, g, d, tk0, os⟩ := s
  dsimp only at hns hk₁ hxL hLlt hx G hB hlim X hq
  show _root_.PySem.wpAt _ _ _ (execs (iB (va :: vb :: vr) p1 p2 p3 p4 p5 p6 q1 q2 q3 q4) (ksEnv qI iS hp.objs.size fI (.ref cda) cc)) _ _ _
  unfold iB
  refine ks_wpAt_execs_cons (ks_wpAt_Expr_any (ks_wpAt_MethodCall ?_ (super_he hpos)))
  refine ks_wpAt_super_base (env := ksEnv qI iS hp.objs.size fI (.ref cda) cc) rfl rfl (by decide) rfl (X₁ _ _ ho) rfl (by first | rfl | with_unfolding_all rfl) rfl (X₁ _ _ hcode) rfl hvs hfile T.top ?_
  refine ks_loadName_global rfl rfl (loadGlobal_builtin (env := ksEnv qI iS hp.objs.size fI (.ref cda) cc) (G.keeps hk₁) T.noS (hB.keeps hk₁) ((hboot _ (by decide +kernel)).trans (by first | rfl | kernel_rfl | decide +kernel)) ⟨rfl, ?_⟩)
  refine wpAny_loadName_free rfl rfl rfl ⟨_, X₁ _ _ hcell, rfl⟩ ?_
  refine wpAny_loadName_local rfl rfl hns rfl ?_
  refine ks_wpAny_isType_cls (X₁ _ _ hC) rfl ⟨rfl, ?_⟩
  refine ks_wpAny_call_super (X₁ _ _ hC) rfl hx₁ rfl (fun c e => by cases e) (looks_mroIn X₁ T.meC) (fun h₂ e₂ k₂ => ?_)
  have X₂ : K.In h₂ := X₁.keeps k₂
  have hx₂ := k₂ _ _ hx₁
  have I₂ : PySem.W.InstAt h₂ x (excO C t0) C none := ⟨hx₂, rfl, rfl, trivial⟩
  have hup := T.up
  unfold ks_superIn at hup
  rw [hcl] at hup
  refine kxs_getMethod kxs_ValueError e₂ (looks_opaque X₂ T.opq) (l₀ := .ref C :: bm) (fun A Q E s k q => wpAny_bind ((looks_clsIn X₂ hcl) A _ E s k (wpAny_pure q))) rfl X₂ hup (I₂.type.andThen (looks_subIn X₂ T.veC)) (ks_ne X₂ I₂ hcl) (by decide) ?_
  have hmw : (h₂.push (kxs_mw "ValueError.__init__" x)).get? h₂.objs.size = some (kxs_mw "ValueError.__init__" x) := Heap.get?_push_at rfl rfl
  have k₃ : ∀ b o, h₂.get? b = some o → (h₂.push (kxs_mw "ValueError.__init__" x)).get? b = some o := fun b o e => Heap.get?_push_of_some _ e
  have n₃ := (hns.keeps k₂).keeps k₃
  refine kxs_callWith (i := "ValueError.__init__") (x := x) (by rfl) (evalArgs_plain ?_)
  refine spliced_cons (wpAny_JoinedStr (pos := p4) (parts_eval (m := fun y => List.lookup y ([(("self" : Str), Value.ref x), (("place" : Str), .int i ti)].reverse)) hi rfl rfl rfl _ _ _ _ T.pv ?_ n₃ fun out tk ho => ⟨ho, ?_⟩))
  · have e0 : Str.empty.length = 0 := rfl
    rw [e0, sizeLine_eq, List.length_cons, List.length_cons]
    omega
  refine spliced_nil ⟨hmw, ?_⟩
  have hu : hp.objs.size < h₂.objs.size := (hns.keeps k₂).lt
  have ux : h₂.objs.size ≠ x := Nat.ne_of_gt (Heap.lt_size hx₂)
  have F₃ : Fr (hideAll hp [x]) hp.objs.size (h₂.push (kxs_mw "ValueError.__init__" x)) (fun y => List.lookup y ([(("self" : Str), Value.ref x), (("place" : Str), .int i ti)].reverse)) :=
    ⟨n₃, fun b o e => k₃ b o (k₂ b o (hk₁ b o (of_hideAll _ e))), Nat.le_of_eq (hideAll_size _ _)⟩
  have X₀ : K.In (hideAll hp [x]) := fun b o e => hideAll_get [x] (X b o e) fun m => by
    rw [List.mem_singleton.mp m, hnx] at e
    cases e
  have N₃ : News (hideAll hp [x]) hp.objs.size (h₂.push (kxs_mw "ValueError.__init__" x)) [(h₂.objs.size, kxs_mw "ValueError.__init__" x), (x, excO C t0)] := fun p hp' => by
    rcases List.mem_cons.mp hp' with rfl | hp'
    · refine ⟨hmw, Nat.ne_of_gt hu, ?_⟩
      cases z : (hideAll hp [x]).get? h₂.objs.size with
      | none => rfl
      | some o => exact absurd (Nat.lt_trans hu (Heap.lt_size (of_hideAll _ z))) (Nat.lt_irrefl _)
    · obtain rfl := List.mem_singleton.mp hp'
      exact ⟨k₃ _ _ hx₂, Ne.symm hxL, hideAll_none [x] List.mem_cons_self⟩
  refine kxs_call (t := t0) (dv := none) (c2 := .none) F₃ X₀ N₃ F.excBase_ValueError T.xi List.mem_cons_self (.tail ux (.head fun p h => nomatch h)) (one_sz _) (fun t1 h₄ F₄ N₄ _ => ?_)
  have hx₄ := (N₄ (x, excO C t1) (.tail _ (.tail _ (.head _)))).1
  have n₄ := F₄.ns
  have k₄ : ∀ b o, b ≠ x → hp.get? b = some o → h₄.get? b = some o := fun b o hb e => F₄.keep b o (hideAll_get [x] e fun m => hb (List.mem_singleton.mp m))
  refine wpAt_of_wpAny ?_
  have X₄ : K.In h₄ := X₀.keeps F₄.keep
  show wpAny _ _ (execs _ _) _ _ _
  refine wpAny_execs_cons (plainObj_wpAny_Assign_Attribute ?_)
  refine wpAny_Name (wpAny_loadName_local rfl rfl n₄ rfl ?_) (by decide)
  refine wpAny_Name (wpAny_loadName_local rfl rfl n₄ rfl ?_) (by decide)
  refine set_plain X₄ (ox := excO C t1) (od := none) ⟨hx₄, rfl, rfl, trivial⟩ T.sa ?_
  refine exc_osa X₄ hx₄ hcl (show refsVE (.ref C :: bm) = true from hbm) rfl T.noN (fun h₅ tk₅ dx k₅ dn dne hx₅ hn₅ => ?_)
  show wpAny _ _ (execs _ _) _ _ _
  refine wpAny_execs_nil (hq h₅ _ dx t1 ⟨fun b o hb e => k₅ b o hb (k₄ b o hb e), hx₅, ?_, dne, hn₅⟩)
  exact Nat.le_of_lt (Nat.lt_of_lt_of_le n₄.lt dn)
theorem er_made (T : ErTxt P K mg nm qI vals C fI) {i : Int} {ti : Tok} (X : K.In s.heap) (G : s.heap.Ns mainGlobals mg) (B : ∃ mb, s.heap.Ns builtinsNs mb ∧ ∀ x : Str, x ≠ "__name__" → mb x = bootBuiltins x)
    (hlim : s.heap.NoLimit) (hroom : A.depth + 1 < recursionLimit) (hi : i.natAbs < 10 ^ 100)
    (hq : ∀ h' tk e d, OwnMade s.heap h' e C d (.int i ti) → R (.ok (.ret (.ref e))) { s with heap := h', toks := tk }) :
    codeAny (model P w) A (.call (.ref C) ⟨[.int i ti], []⟩) R s := by
  obtain ⟨nm, q, N, bs, bm, sn, sub, ab, col, dd, k0, k1, k2, k3, k5, hC, hbm⟩ := T.cls
  obtain ⟨hp, g, dr, tk, os⟩ := s
  have k : ∀ b o, hp.get? b = some o → ((hp.push (kdv_tup [.int i ti])).push (excO C hp.objs.size)).get? b = some o := fun b o e => Heap.get?_push_of_some _ (Heap.get?_push_of_some _ e)
  have hget : ((hp.push (kdv_tup [.int i ti])).push (excO C hp.objs.size)).get? (hp.objs.size + 1) = some (excO C hp.objs.size) := by heap_get
  have hnx : K.lookup (hp.objs.size + 1) = none := by
    cases e : K.lookup (hp.objs.size + 1) with
    | none => rfl
    | some o =>
      have z : hp.get? (hp.objs.size + 1) = some o := X _ _ e
      exact absurd (Nat.lt_of_succ_lt (Heap.lt_size z)) (Nat.lt_irrefl _)
  refine call_own F.excBase_ValueError (fun X => refsVE_contains X bm hbm) (X _ _ hC) (looks_findIn X T.iC) (fun self => bind_fn X self T.tC) (one_sz _) ?_
  obtain ⟨mb, hB, hboot⟩ := B
  refine er_init (s := ⟨(hp.push (kdv_tup [.int i ti])).push (excO C hp.objs.size), g, dr, tk, os⟩) T (X.keeps k) (G.keeps k) ⟨mb, hB.keeps k, hboot⟩ (hlim.keeps k) hget hnx ?_ hi fun h' tk' dx t1 ⟨k', hx, dn, dne, hns⟩ => ?_
  · show A.depth + 1 < recursionLimit
    exact hroom
  · have old : ∀ b o, hp.get? b = some o → h'.get? b = some o := fun b o e => k' b o (Nat.ne_of_lt (Nat.lt_succ_of_lt (Heap.lt_size e))) (k b o e)
    have z : hp.objs.size + 1 + 1 ≤ dx := by
      first
        | (simpa only [Heap.size_push] using dn)
        | exact dn
        | (have q := dn; rw [Heap.size_push, Heap.size_push] at q; exact q)
    exact ⟨rfl, hq h' tk' (hp.objs.size + 1) dx ⟨old, Nat.le_succ _, ⟨_, _, hx, rfl, rfl, rfl, rfl⟩, Nat.le_trans (Nat.le_trans (Nat.le_succ _) (Nat.le_succ _)) z, dne, hns⟩⟩
end
end ErX
end PySem
namespace L2
open PySem PySem.Spec PyProof.Rows
theorem relO_er {v : V} {v' : Value} (r : RelV v v') (f : Str) : RelO (List.lookup f [(("place" : Str), v)]) (if f = "place" then some v' else none) := by
  by_cases hw : f = "place"
  · subst hw
    rw [if_pos rfl]
    have q : List.lookup ("place" : Str) [(("place" : Str), v)] = some v := by simp [List.lookup]
    rw [q]
    exact r
  · rw [if_neg hw]
    have qw : (f == ("place" : Str)) = false := by simpa using hw
    have q2 : List.lookup f [(("place" : Str), v)] = none := by simp [List.lookup, qw]
    rw [q2]
    trivial
section
variable {X : Cx} {C fI : Addr} {nm qI : Str} {vals : List Expr}
/-- E(e), e an int -/
def tMkEr (C : Addr) (ta : TA) : St → Hp → XK → Prop := fun σ H Q => ta σ H fun vs H1 => ∃ i : Int, vs = [.int i] ∧ i.natAbs < 10 ^ 100 ∧ ∀ d, H1 d = none → Q (.ref C) (some d) (upd H1 d (.xd [(("place" : Str), .int i)]))
theorem pmk_er {a : Expr} {ta : TA} {p pos : Pos} {k : Nat} (T : PySem.ErX.ErTxt X.prog X.K X.mg nm qI vals C fI) (hr : Room k X.A) (hk : 1 ≤ k) (ha : PA X [a] ta) (hg : Gl X nm := by rfl) (hd : (nm == ("__debug__" : Str)) = false := by decide)
    (he : starEach (a :: []) X.env = (false, eval a X.env) :: starEach [] X.env := by rfl) (hpl : (backTo pos (starEach [] X.env)).any (·.1) = false := by rfl) :
    PMk X (.Call (.Name nm p) [a] [] pos) (tMkEr C ta) := by
  intro pins s σ H Q I h
  refine wpAny_Call_Name_kw (ld_glob I hg T.gC ?_ hd)
  refine PySem.W.callWith_K (h₀ := X.base) I.ok.mod.kin T.kC (thn (ha.run pos pins s σ H _ I h) fun us s1 hh => ?_) he hpl
  obtain ⟨vs, H1, I1, r1, i, ev, hi, q1⟩ := hh
  subst ev
  refine ⟨I1.kIn, ?_⟩
  cases r1 with
  | cons rv rn =>
    rename_i v' us'
    cases rn
    obtain ⟨ti, rfl⟩ := rv
    show wpAny _ _ (call (.ref C) [.int i ti]) _ _ _
    have hlim := I1.nolimit
    have hG := I1.mod.glob.keeps I1.bk
    obtain ⟨mb, hB, hboot⟩ := I1.mod.blt
    have hB' := hB.keeps I1.bk
    obtain ⟨hp, g, dr, tk, os⟩ := s1
    refine wpAny_call (PySem.ErX.er_made T I1.kIn hG ⟨mb, hB', hboot⟩ hlim (by have := hr.dp; omega) hi fun h' tk' e d M => ?_)
    show MkP X pins σ Q (.ref e) ⟨h', g, dr, tk', os⟩
    obtain ⟨oe, fv, hoe, hc, hd, hdat, h1⟩ := M.obj
    have hns := M.ns
    obtain ⟨G', g1, g2⟩ := restrict h' fun b => decide (b ≠ e)
    have gk : ∀ b, b ≠ e → G'.get? b = h'.get? b := fun b hb => g1 b (decide_eq_true hb)
    have ge : G'.get? e = none := g2 e (by simp)
    have old : ∀ b o, hp.get? b = some o → G'.get? b = some o := fun b o q => (gk b (Nat.ne_of_lt (Nat.lt_of_lt_of_le (Heap.lt_size q) M.new))).trans (M.keep b o q)
    have ob : ObjOk X.prog X.w (upd H1 d (.xd [(("place" : Str), .int i)])) G' d (.xd [(("place" : Str), .int i)]) :=
      ⟨_, hns.at (fun o q => (gk d M.dne).trans q), fun f => relO_er (v := .int i) (v' := .int i ti) ⟨ti, rfl⟩ f⟩
    have J : Inv X pins σ (upd H1 d (.xd [(("place" : Str), .int i)])) ⟨G', g, dr, tk', os⟩ := I1.laid (t' := tk') old M.dbig ob
    refine ⟨e, oe, fv, ⟨G', g, dr, tk', os⟩, _, .ref C, some d, rfl, J, fun b o q => ?_, ge, hoe, ⟨hc, hd⟩, hdat, h1, ?_, rfl, I1.bare, raises_own T.exC T.tyC, q1 d (I1.hok.fresh M.dbig)⟩
    · by_cases hb : b = e
      · have q' : G'.get? b = some o := q
        rw [hb, ge] at q'; cases q'
      · exact (gk b hb).symm.trans q
    · rw [upd_ne (Ne.symm M.dne)]
      exact I1.hok.fresh M.new
/-- raise E(e) -/
def tRaiseEr (C : Addr) (W : WX) (ta : TA) : TS := fun _ σ H => tMkEr C ta σ H fun cls d H' => W cls d σ H'
theorem ps_raiseEr {a : Expr} {ta : TA} {W : WX} {p pos pos2 : Pos} {k : Nat} (hc : X.calm = true) (T : PySem.ErX.ErTxt X.prog X.K X.mg nm qI vals C fI) (hr : Room k X.A) (hk : 1 ≤ k) (tk : Takes X W) (ha : PA X [a] ta) (hg : Gl X nm := by rfl)
    (hd : (nm == ("__debug__" : Str)) = false := by decide) (he : starEach (a :: []) X.env = (false, eval a X.env) :: starEach [] X.env := by rfl) (hpl : (backTo pos (starEach [] X.env)).any (·.1) = false := by rfl) :
    PS X (.Raise (some (.Call (.Name nm p) [a] [] pos)) none pos2) (tRaiseEr C W ta) := ps_raise hc tk (pmk_er T hr hk ha hg hd he hpl)
/-- what the suite's reading of the field wants -/
theorem xfc_er (T : PySem.ErX.ErTxt X.prog X.K X.mg nm qI vals C fI) : XfC X.K C := ⟨T.ga, T.gg, T.exC, T.hdC⟩
end
end L2
namespace Dw
open PySem PySem.Spec PyProof.Rows L2 TL
/-! ### the state of the heap between two draws -/
def Keep (st : Addr) (H H' : Hp) : Prop := ∀ a o, a ≠ st → H a = some o → H' a = some o
def Stt (H : Hp) (st : Addr) : Prop := ∃ k v : Int, H st = some (.lst [.int k, .int v])
def Dr (st : Addr) (H H' : Hp) : Prop := Keep st H H' ∧ Stt H' st
def Wd (K : PySem.W.Frag) (st sc : Addr) (ns : List Int) (H : Hp) : Prop :=
  Stt H st ∧ ∀ H', Keep st H H' → SqL K H' sc (ns.map V.int)
section
variable {K : PySem.W.Frag} {st sc p D : Addr} {ns : List Int} {H H1 H2 H3 : Hp} {o : HO}
theorem Keep.refl (st : Addr) (H : Hp) : Keep st H H := fun _ _ _ h => h
theorem Keep.trans (a : Keep st H H1) (b : Keep st H1 H2) : Keep st H H2 := fun x o n h => b x o n (a x o n h)
theorem Keep.of (a : Same H H1) : Keep st H H1 := fun x o _ h => a x o h
theorem Wd.next (w : Wd K st sc ns H) (d : Dr st H H1) : Wd K st sc ns H1 := ⟨d.2, fun H' k => w.2 H' (d.1.trans k)⟩
theorem Wd.list (w : Wd K st sc ns H) : SqL K H sc (ns.map V.int) := w.2 H (Keep.refl st H)
theorem Wd.dr (w : Wd K st sc ns H) : Dr st H H := ⟨Keep.refl st H, w.1⟩
theorem Dr.trans (a : Dr st H H1) (b : Dr st H1 H2) : Dr st H H2 := ⟨a.1.trans b.1, b.2⟩
theorem Stt.ne (s : Stt H st) (h : H p = none) : p ≠ st := fun e => by
  obtain ⟨k, v, q⟩ := s
  rw [e, q] at h
  cases h
theorem Stt.upd (s : Stt H st) (h : p ≠ st) : Stt (upd H p o) st := by
  obtain ⟨k, v, q⟩ := s
  exact ⟨k, v, by rw [upd_ne h.symm]; exact q⟩
theorem same_new (h : H p = none) : Same H (upd H p o) := fun b x e => by
  rw [upd_ne (ne_of_none e h)]
  exact e
theorem Dr.same (w : Stt H st) (a : Same H H1) : Dr st H H1 := ⟨Keep.of a, by
  obtain ⟨k, v, q⟩ := w
  exact ⟨k, v, a _ _ q⟩⟩
theorem Dr.new (d : Dr st H H1) (h : H1 p = none) : Dr st H (upd H1 p o) := d.trans (Dr.same d.2 (same_new h))
theorem Dr.put (w : Stt H st) (d : Dr st H H1) (h : H p = none) : Dr st H (upd H1 p o) :=
  ⟨fun a x n e => by
    rw [upd_ne (ne_of_none e h)]
    exact d.1 a x n e, d.2.upd (w.ne h)⟩
theorem Wd.new (w : Wd K st sc ns H) (h : H p = none) : Wd K st sc ns (upd H p o) := w.next (Dr.same w.1 (same_new h))
theorem Wd.same (w : Wd K st sc ns H) (h : Same H H1) : Wd K st sc ns H1 := w.next (Dr.same w.1 h)
theorem Dr.at (d : Dr st H H1) (n : p ≠ st) (h : H p = some o) : H1 p = some o := d.1 p o n h
end
/-! ### tuples whose object has no dict -/
def Tk (H : Hp) (p : Addr) (xs : List V) : Prop := ∃ o : Obj, o.dict = Option.none ∧ H p = some (.frz o (.tup xs))
section
variable {K : PySem.W.Frag} {st sc p : Addr} {H H1 : Hp} {xs : List V}
theorem Tk.seq (h : Tk H p xs) : SqT K H p xs := let ⟨o, _, e⟩ := h; .inl (.inr ⟨o, e⟩)
theorem Tk.ne (h : Tk H p xs) (s : Stt H st) : p ≠ st := fun e => by
  obtain ⟨o, _, q⟩ := h
  obtain ⟨k, v, r⟩ := s
  rw [e, r] at q
  cases q
theorem Tk.next (h : Tk H p xs) (s : Stt H st) (d : Dr st H H1) : Tk H1 p xs := by
  have n := h.ne s
  obtain ⟨o, a, e⟩ := h
  exact ⟨o, a, d.1 _ _ n e⟩
theorem Tk.same (h : Tk H p xs) (d : Same H H1) : Tk H1 p xs := let ⟨o, a, e⟩ := h; ⟨o, a, d _ _ e⟩
theorem Tk.mk {o : Obj} (h : o.dict = Option.none) : Tk (upd H p (.frz o (.tup xs))) p xs := ⟨o, h, upd_same⟩
end
section
variable {X : Cx}
def zTup (K : PySem.W.Frag) : List V → Hp → VK → Prop := fun xs H Q => ∃ p ys, xs = [V.ref p] ∧ SqL K H p ys ∧
  ∀ (l : Addr) (o : Obj), H l = none → o.dict = Option.none → Q (.ref l) (upd H l (.frz o (.tup ys)))
theorem y_tup : CallR X (.type "tuple") (zTup X.K) := by
  intro pins s σ H xs us Q I r h
  obtain ⟨p, ys, rfl, hq, q⟩ := h
  obtain ⟨u, rfl, rx⟩ := vals1 r
  cases rx
  obtain ⟨its, r', pl, hz⟩ := I.list hq
  have hlen := r'.length
  refine call_tuple_list pl.isList (fun h' kp => ?_) (by simp only [List.size_toArray] <;> omega)
  have I1 : Inv X pins σ H { s with heap := h' } := I.kept (t' := s.toks) kp
  refine ⟨.ref h'.objs.size, _, I1.laid (t' := s.toks) (o := .frz { cls := .type "tuple", data := .seq its.toArray } (.tup ys)) (fun b o e => Heap.get?_push_of_some _ e) (Nat.le_refl _) ?_, rfl, q _ _ (I1.hok.fresh (Nat.le_refl _)) rfl⟩
  exact ⟨Heap.get?_push_size _ rfl, hz, its, r', IsTup.new _ _⟩
def zTT (t : TA) : TE := fun σ H Q => t σ H fun xs H1 => xs.length ≤ sizeLine ∧ ∀ (p : Addr) (o : Obj), H1 p = none → o.dict = Option.none → Q (.ref p) (upd H1 p (.frz o (.tup xs)))
theorem y_tt {es : List Expr} {t : TA} {pos : Pos} {x1} (h : PA X es t) : PE X (.Tuple es x1 pos) (zTT t) := by
  refine ⟨fun pins s σ H Q I hq => ?_⟩
  refine wpAny_Tuple_spliced (thn (h.run pos pins s σ H _ I hq) fun us s1 ⟨xs, H1, I1, r, z, q⟩ => ⟨by rw [← r.length]; exact z, ?_⟩)
  refine ⟨.ref s1.heap.objs.size, _, I1.laid (t' := s1.toks) (o := .frz { cls := .type "tuple", data := .seq us.toArray } (.tup xs)) (fun b u e => Heap.get?_push_of_some _ e) (Nat.le_refl _) ?_, rfl, q _ _ (I1.hok.fresh (Nat.le_refl _)) rfl⟩
  exact ⟨Heap.get?_push_size _ rfl, z, us, r, IsTup.new _ _⟩
def zCat : R2 := fun x y H Q => ∃ a b xs ys, x = .ref a ∧ y = .ref b ∧ Tk H a xs ∧ Tk H b ys ∧ xs ≠ [] ∧ xs.length + ys.length ≤ sizeLine ∧
  ∀ (p : Addr) (H' : Hp), Same H H' → Tk H' p (xs ++ ys) → Q (.ref p) H'
theorem y_cat : OpR X (binaryOp .Add) zCat := by
  intro pins s σ H x y v u Q I rx ry h
  obtain ⟨a, b, xs, ys, rfl, rfl, ha, hb, hx, hz, q⟩ := h
  cases rx
  cases ry
  have ha' : SqT X.K H a xs := ha.seq
  have hb' : SqT X.K H b ys := hb.seq
  obtain ⟨its, r1, p1, _⟩ := I.tuple ha'
  obtain ⟨its2, r2, p2, _⟩ := I.tuple hb'
  refine HT.cat_tup p1 p2 (fun z => hx (r1.nil_iff.mp z)) (fun z => ?_) (fun z => ?_) (by rw [← r1.length, ← r2.length]; exact hz)
  · have e := r2.nil_iff.mp z
    subst e
    exact ⟨.ref a, H, I, rfl, q a H (Same.refl H) (by rw [List.append_nil]; exact ha)⟩
  · refine ⟨.ref s.heap.objs.size, _, I.laid (t' := s.toks) (o := .frz { cls := .type "tuple", data := .seq (its ++ its2).toArray } (.tup (xs ++ ys))) (fun b ob q => Heap.get?_push_of_some _ q) (Nat.le_refl _) ?_, rfl, q _ _ (same_new (I.hok.fresh (Nat.le_refl _))) (Tk.mk rfl)⟩
    exact ⟨Heap.get?_push_size _ rfl, by rw [List.length_append]; exact hz, _, r1.append r2, IsTup.new _ _⟩
/-- t.index(z), z in t -/
def zTIx (to te : TE) : TE := fun σ H Q => to σ H fun x H1 => ∃ (p : Addr) (ys : List Str), x = .ref p ∧ Tk H1 p (ys.map V.str) ∧ te σ H1 fun y H2 => ∃ (z : Str) (j : Nat), y = .str z ∧ Tk H2 p (ys.map V.str) ∧
  ys[j]? = some z ∧ (∀ m, m < j → ys[m]? ≠ some z) ∧ Q (.int (j : Nat)) H2
theorem y_tix {o e : Expr} {to te : TE} {apos cpos : Pos} (ho : PE X o to) (he : PE X e te)
    (hbase : attributeBase o "index" X.env (eval o X.env) = eval o X.env := by rfl)
    (hfew : ((backTo cpos (starEach [e] X.env)).all (fun x => !x.1) && (backToKw cpos (keywordEach [] X.env)).all (fun x => x.1.isSome)
      && decide ([e].length + ([] : List Keyword).length + (if ([] : List Keyword).isEmpty then 0 else 1) < 30)) = true := by rfl)
    (hline : (apos.endLine == cpos.line) = true := by rfl) (hs : starEach [e] X.env = (false, eval e X.env) :: starEach [] X.env := by rfl) (hplain : (backTo cpos (starEach [] X.env)).any (·.1) = false := by rfl) :
    PE X (.Call (.Attribute o "index" apos) [e] [] cpos) (zTIx to te) := by
  refine ⟨fun pins s σ H Q I h => ?_⟩
  refine wpAny_Call_method_late hbase hfew hline rfl (thn (ho.run pins s σ H _ I h) fun v s1 ⟨x, H1, I1, r1, q1⟩ => ?_)
  obtain ⟨p, ys, rfl, tk, q1⟩ := q1
  cases r1
  obtain ⟨o, od, oe⟩ := tk
  obtain ⟨e1, z1, its1, r1', o2, e2, c2, n2, d2⟩ := I1.hok p _ oe
  have hA := (pa_cons he (pa_nil (X := X)) hs).run cpos pins s1 σ H1 (fun vs H2 => match vs with
    | [y] => ∃ (z : Str) (j : Nat), y = .str z ∧ Tk H2 p (ys.map V.str) ∧ ys[j]? = some z ∧ (∀ m, m < j → ys[m]? ≠ some z) ∧ Q (.int (j : Nat)) H2
    | _ => False) I1 q1
  rw [hs] at hA ⊢
  refine ⟨"tuple", "tuple.index", PySem.F.plainAttrs_tuple, PySem.F.slot_tuple_index, PySem.F.type_tuple_index, ⟨o2, e2, c2⟩, fun a ea => ?_, ?_⟩
  · cases ea
    exact ⟨o, e1, od⟩
  refine Calls.callWith_builtin (by show (false || (backTo cpos (starEach [] X.env)).any (·.1)) = false; rw [hplain] <;> rfl) (Calls.evalArgs_plain ?_)
  refine thn hA fun us s2 ⟨vs, H2, I2, r2, q2⟩ => ?_
  match vs, q2, r2 with
  | [y], q2, r2 =>
  obtain ⟨z, j, rfl, tk2, hj, hm, q⟩ := q2
  exact mt_tup_index pins s2 σ H2 (.ref p) [.str z] _ us Q I2 rfl r2 ⟨p, ys, z, j, rfl, rfl, tk2.seq, hj, hm, q⟩
end

/-! ### readings, one step at a time -/
def wBl (x : V) (H : Hp) (Q : Bool → Hp → Prop) : Prop := ∃ k, x = .bl k ∧ Q k H
def wPart (x : V) (H : Hp) (Q : Option Int → Hp → Prop) : Prop := ∃ i, x = V.int i ∧ Q (some i) H
def wM (x : V) (P : Prop) : Prop := (∃ a, x = V.str a) ∧ P
def zLenS : List V → Hp → VK → Prop := fun xs H Q => ∃ z, xs = [V.str z] ∧ z.length ≤ sizeLine ∧ Q (.int z.length) H
def zLenQ (K : PySem.W.Frag) : List V → Hp → VK → Prop := fun xs H Q => ∃ p ys, xs = [V.ref p] ∧ (SqL K H p ys ∨ SqT K H p ys) ∧ Q (.int ys.length) H
def zInt : List V → Hp → VK → Prop := fun xs H Q => (∃ i, xs = [V.int i] ∧ Q (.int i) H) ∨ ∃ k, xs = [V.bl k] ∧ Q (.int (if k then 1 else 0)) H
def zJoin (K : PySem.W.Frag) : V → List V → Hp → VK → Prop := fun x xs H Q => ∃ a p, ∃ ys : List Str, x = .str a ∧ xs = [V.ref p] ∧ (SqL K H p (ys.map V.str) ∨ SqT K H p (ys.map V.str)) ∧
    (ys.map (·.length)).sum + ys.length * a.length ≤ 16777216 ∧ Q (.str (Txt.join a ys)) H
def zStarts : V → List V → Hp → VK → Prop := fun x xs H Q => ∃ a b, x = .str a ∧ xs = [V.str b] ∧ Q (.bl (Txt.startswith a b)) H
def zEnds : V → List V → Hp → VK → Prop := fun x xs H Q => ∃ a b, x = .str a ∧ xs = [V.str b] ∧ Q (.bl (Txt.endswith a b)) H
def zRstrip : V → List V → Hp → VK → Prop := fun x xs H Q => ∃ a b, x = .str a ∧ xs = [V.str b] ∧ a.length ≤ sizeLine ∧ Q (.str (Txt.rstripChars a b)) H
def zSplit : V → List V → Hp → VK → Prop := fun x xs H Q => ∃ a b, x = .str a ∧ xs = [V.str b] ∧ (b.length == 0) = false ∧ a.length + 2 ≤ sizeLine ∧ rNewStrs (Txt.split a b) H Q
def zPartition : V → List V → Hp → VK → Prop := fun x xs H Q => ∃ a b, x = .str a ∧ xs = [V.str b] ∧ (b.length == 0) = false ∧ a.length ≤ sizeLine ∧
    ∀ p, H p = none → Q (.ref p) (upd H p (.tup [.str (Txt.partition a b).1, .str (Txt.partition a b).2.1, .str (Txt.partition a b).2.2]))
def zAdS : R2 := fun x y H Q => ∃ i j, x = .str i ∧ y = .str j ∧ i.length + j.length ≤ sizeLine ∧ Q (.str (i ++ j)) H
def zIn1 : R2 := fun x y H Q => ∃ (c : Nat) (z : Str), x = .str ⟨#[c]⟩ ∧ y = .str z ∧ Q (.bl (decide (c ∈ z.cps.toList))) H
def zInS (neg : Bool) : R2 := fun x y H Q => ∃ i j, x = .str i ∧ y = .str j ∧ Q (.bl (if neg then !(!(Builtin.Str.occurrences j i 0 j.length 1).isEmpty) else !(Builtin.Str.occurrences j i 0 j.length 1).isEmpty)) H
def zIsN (neg : Bool) : R2 := fun x y H Q => y = .non ∧ Q (.bl (if neg then !decide (x = .non) else decide (x = .non))) H
def zRepS : R2 := fun x y H Q => ∃ (z : Str) (k : Int), x = .str z ∧ y = .int k ∧ 0 ≤ k ∧ z.length * k.toNat ≤ sizeLine ∧ Q (.str ⟨((List.replicate k.toNat (tl z)).flatten).toArray⟩) H
def zTruth (K : PySem.W.Frag) (ta : TE) : TT := fun σ H Q => ta σ H fun x H' => ∃ k, TruV K x H' k ∧ Q k H'
def zJs (ts : List TE) : TE := fun σ H Q => tJs ts Str.empty σ H fun out H1 => Q (.str out) H1
def wJs (ts : List TE) (acc : Str) (σ : L2.St) (Q : Str → Hp → Prop) (x : V) (H : Hp) : Prop := ∃ y : Str, x = .str y ∧ (acc ++ y).length ≤ sizeLine ∧ tJs ts (acc ++ y) σ H Q
def wFmt (x : V) (H : Hp) (Q : VK) : Prop := (∃ y : Str, x = .str y ∧ y.length ≤ sizeLine ∧ Q (.str y) H) ∨ ∃ i : Int, x = .int i ∧ i.natAbs.log2 < 1920 ∧ Q (.str (toString i)) H
def wFmtR (x : V) (H : Hp) (Q : VK) : Prop := (∃ y : Str, x = .str y ∧ (reprText y).length ≤ sizeLine ∧ Q (.str (reprText y)) H) ∨ ∃ i : Int, x = .int i ∧ i.natAbs.log2 < 1920 ∧ Q (.str (toString i)) H
def wCh (r' : R2) (tc : TE) (σ : L2.St) (Q : VK) (y z : V) (H : Hp) : Prop := ∃ k, z = .bl k ∧ if k = true then tc σ H fun w H1 => r' y w H1 Q else Q (.bl false) H
section
variable {X : Cx}
theorem y_lenS : CallR X (.builtin "len") zLenS := call_len_str
theorem y_lenQ : CallR X (.builtin "len") (zLenQ X.K) := call_len_seq
theorem y_int : CallR X (.type "int") zInt := call_int1
theorem y_join : MtR X "str.join" (zJoin X.K) := mt_join
theorem y_starts : MtR X "str.startswith" zStarts := mt_startswith
theorem y_ends : MtR X "str.endswith" zEnds := mt_endswith
theorem y_rstrip : MtR X "str.rstrip" zRstrip := mt_rstripChars
theorem y_split : MtR X "str.split" zSplit := mt_split
theorem y_partition : MtR X "str.partition" zPartition := mt_partition
theorem y_adS : OpR X (binaryOp .Add) zAdS := op_add_str
theorem y_in1 : OpR X (compareOp .In) zIn1 := op_in_sign
theorem y_inS : OpR X (compareOp .In) (zInS false) := op_in_str
theorem y_ninS : OpR X (compareOp .NotIn) (zInS true) := op_notIn_str
theorem y_isN : OpR X (compareOp .Is) (zIsN false) := op_isN
theorem y_notN : OpR X (compareOp .IsNot) (zIsN true) := op_notN
theorem y_truth {a : Expr} {ta : TE} (ha : PE X a ta) (he : ∀ whole, isTrue a X.env whole = (do let v ← whole; standAt a.pos; holding [v] (truthy v))) : PT X a (zTruth X.K ta) := pt_truth ha he
theorem y_joined {v1 v2 : Expr} {rest : List Expr} {ts : List TE} {pos : Pos} (h : PJ X (v1 :: v2 :: rest) ts) : PE X (.JoinedStr (v1 :: v2 :: rest) pos) (zJs ts) := pe_joined h
end
section
variable {σ : L2.St} {H : Hp} {Q : VK} {QB : Bool → Hp → Prop} {QA : List V → Hp → Prop} {QO : Option Int → Hp → Prop} {QS : Str → Hp → Prop} {QG : L2.St → Hp → Prop}
  {nx bk ct : L2.St → Hp → Prop} {rt : VK} {t u : TS} {ta tb tc : TE} {tA tB' : TT} {as : TA} {g : TG} {v : V} {i j : Int} {x y : Str} {b : Bool} {r r' : R2} {P : Prop} {E : XK} {K : PySem.W.Frag}
theorem rd_seq (h : t ⟨u ⟨nx, rt, bk, ct⟩, rt, bk, ct⟩ σ H) : tSeq t u ⟨nx, rt, bk, ct⟩ σ H := h
theorem rd_next (h : nx σ H) : tNext ⟨nx, rt, bk, ct⟩ σ H := h
theorem rd_asg (h : ta σ H fun x H1 => g x σ H1 nx) : tAsg ta g ⟨nx, rt, bk, ct⟩ σ H := h
theorem rd_ifS (h : tA σ H fun b H1 => if b = true then t ⟨nx, rt, bk, ct⟩ σ H1 else u ⟨nx, rt, bk, ct⟩ σ H1) : tIfS tA t u ⟨nx, rt, bk, ct⟩ σ H := h
theorem rd_ret (h : ta σ H rt) : tRet ta ⟨nx, rt, bk, ct⟩ σ H := h
theorem rd_retN (h : rt .non H) : tRetN ⟨nx, rt, bk, ct⟩ σ H := h
theorem rd_drop (h : ta σ H fun _ H1 => nx σ H1) : tDrop ta ⟨nx, rt, bk, ct⟩ σ H := h
theorem rd_n0 {a} {l : L2.St} (h : QG (some v :: l) H) : gName 0 v (a :: l) H QG := h
theorem rd_n1 {a a1} {l : L2.St} (h : QG (a :: some v :: l) H) : gName 1 v (a :: a1 :: l) H QG := h
theorem rd_n2 {a a1 a2} {l : L2.St} (h : QG (a :: a1 :: some v :: l) H) : gName 2 v (a :: a1 :: a2 :: l) H QG := h
theorem rd_n3 {a a1 a2 a3} {l : L2.St} (h : QG (a :: a1 :: a2 :: some v :: l) H) : gName 3 v (a :: a1 :: a2 :: a3 :: l) H QG := h
theorem rd_n4 {a a1 a2 a3 a4} {l : L2.St} (h : QG (a :: a1 :: a2 :: a3 :: some v :: l) H) : gName 4 v (a :: a1 :: a2 :: a3 :: a4 :: l) H QG := h
theorem rd_n5 {a a1 a2 a3 a4 a5} {l : L2.St} (h : QG (a :: a1 :: a2 :: a3 :: a4 :: some v :: l) H) : gName 5 v (a :: a1 :: a2 :: a3 :: a4 :: a5 :: l) H QG := h
theorem rd_n6 {a a1 a2 a3 a4 a5 a6} {l : L2.St} (h : QG (a :: a1 :: a2 :: a3 :: a4 :: a5 :: some v :: l) H) : gName 6 v (a :: a1 :: a2 :: a3 :: a4 :: a5 :: a6 :: l) H QG := h
theorem rd_n7 {a a1 a2 a3 a4 a5 a6 a7} {l : L2.St} (h : QG (a :: a1 :: a2 :: a3 :: a4 :: a5 :: a6 :: some v :: l) H) : gName 7 v (a :: a1 :: a2 :: a3 :: a4 :: a5 :: a6 :: a7 :: l) H QG := h
theorem rd_n8 {a a1 a2 a3 a4 a5 a6 a7 a8} {l : L2.St} (h : QG (a :: a1 :: a2 :: a3 :: a4 :: a5 :: a6 :: a7 :: some v :: l) H) : gName 8 v (a :: a1 :: a2 :: a3 :: a4 :: a5 :: a6 :: a7 :: a8 :: l) H QG := h
theorem rd_n9 {a a1 a2 a3 a4 a5 a6 a7 a8 a9} {l : L2.St} (h : QG (a :: a1 :: a2 :: a3 :: a4 :: a5 :: a6 :: a7 :: a8 :: some v :: l) H) : gName 9 v (a :: a1 :: a2 :: a3 :: a4 :: a5 :: a6 :: a7 :: a8 :: a9 :: l) H QG := h
theorem rd_n10 {a a1 a2 a3 a4 a5 a6 a7 a8 a9 b0} {l : L2.St} (h : QG (a :: a1 :: a2 :: a3 :: a4 :: a5 :: a6 :: a7 :: a8 :: a9 :: some v :: l) H) : gName 10 v (a :: a1 :: a2 :: a3 :: a4 :: a5 :: a6 :: a7 :: a8 :: a9 :: b0 :: l) H QG := h
theorem rd_n11 {a a1 a2 a3 a4 a5 a6 a7 a8 a9 b0 b1} {l : L2.St} (h : QG (a :: a1 :: a2 :: a3 :: a4 :: a5 :: a6 :: a7 :: a8 :: a9 :: b0 :: some v :: l) H) : gName 11 v (a :: a1 :: a2 :: a3 :: a4 :: a5 :: a6 :: a7 :: a8 :: a9 :: b0 :: b1 :: l) H QG := h
theorem rd_v0 {l : L2.St} (h : Q v H) : tVar 0 (some v :: l) H Q := ⟨v, rfl, h⟩
theorem rd_v1 {a} {l : L2.St} (h : Q v H) : tVar 1 (a :: some v :: l) H Q := ⟨v, rfl, h⟩
theorem rd_v2 {a a1} {l : L2.St} (h : Q v H) : tVar 2 (a :: a1 :: some v :: l) H Q := ⟨v, rfl, h⟩
theorem rd_v3 {a a1 a2} {l : L2.St} (h : Q v H) : tVar 3 (a :: a1 :: a2 :: some v :: l) H Q := ⟨v, rfl, h⟩
theorem rd_v4 {a a1 a2 a3} {l : L2.St} (h : Q v H) : tVar 4 (a :: a1 :: a2 :: a3 :: some v :: l) H Q := ⟨v, rfl, h⟩
theorem rd_v5 {a a1 a2 a3 a4} {l : L2.St} (h : Q v H) : tVar 5 (a :: a1 :: a2 :: a3 :: a4 :: some v :: l) H Q := ⟨v, rfl, h⟩
theorem rd_v6 {a a1 a2 a3 a4 a5} {l : L2.St} (h : Q v H) : tVar 6 (a :: a1 :: a2 :: a3 :: a4 :: a5 :: some v :: l) H Q := ⟨v, rfl, h⟩
theorem rd_v7 {a a1 a2 a3 a4 a5 a6} {l : L2.St} (h : Q v H) : tVar 7 (a :: a1 :: a2 :: a3 :: a4 :: a5 :: a6 :: some v :: l) H Q := ⟨v, rfl, h⟩
theorem rd_v8 {a a1 a2 a3 a4 a5 a6 a7} {l : L2.St} (h : Q v H) : tVar 8 (a :: a1 :: a2 :: a3 :: a4 :: a5 :: a6 :: a7 :: some v :: l) H Q := ⟨v, rfl, h⟩
theorem rd_v9 {a a1 a2 a3 a4 a5 a6 a7 a8} {l : L2.St} (h : Q v H) : tVar 9 (a :: a1 :: a2 :: a3 :: a4 :: a5 :: a6 :: a7 :: a8 :: some v :: l) H Q := ⟨v, rfl, h⟩
theorem rd_v10 {a a1 a2 a3 a4 a5 a6 a7 a8 a9} {l : L2.St} (h : Q v H) : tVar 10 (a :: a1 :: a2 :: a3 :: a4 :: a5 :: a6 :: a7 :: a8 :: a9 :: some v :: l) H Q := ⟨v, rfl, h⟩
theorem rd_v11 {a a1 a2 a3 a4 a5 a6 a7 a8 a9 b0} {l : L2.St} (h : Q v H) : tVar 11 (a :: a1 :: a2 :: a3 :: a4 :: a5 :: a6 :: a7 :: a8 :: a9 :: b0 :: some v :: l) H Q := ⟨v, rfl, h⟩
theorem rd_c (h : Q v H) : tC v σ H Q := h
theorem rd_op (h : ta σ H fun x H1 => tb σ H1 fun y H2 => r x y H2 Q) : tOp r ta tb σ H Q := h
theorem rd_i0 {f : Int → Int → V} (h : Q (f i j) H) : rI0 f (.int i) (.int j) H Q := ⟨i, j, rfl, rfl, h⟩
theorem rd_iC {f : Int → Int → V} {C : Int → Int → Prop} (h : Q (f i j) H) (c : C i j) : rI C f (.int i) (.int j) H Q := ⟨i, j, rfl, rfl, c, h⟩
theorem rd_un {f : V → Hp → VK → Prop} (h : ta σ H fun x H1 => f x H1 Q) : tUn f ta σ H Q := h
theorem rd_u {f : Int → V} (h : Q (f i) H) : rU f (.int i) H Q := ⟨i, rfl, h⟩
theorem rd_eqI (h : Q (.bl (decide (i = j))) H) : rEq (.int i) (.int j) H Q := ⟨rfl, by
  rw [show decide (V.int i = V.int j) = decide (i = j) by simp only [V.int.injEq]]
  exact h⟩
theorem rd_neI (h : Q (.bl (!decide (i = j))) H) : rNe (.int i) (.int j) H Q := ⟨rfl, by
  rw [show decide (V.int i = V.int j) = decide (i = j) by simp only [V.int.injEq]]
  exact h⟩
theorem rd_eqS (h : Q (.bl (decide (x = y))) H) : rEq (.str x) (.str y) H Q := ⟨rfl, by
  rw [show decide (V.str x = V.str y) = decide (x = y) by simp only [V.str.injEq]]
  exact h⟩
theorem rd_neS (h : Q (.bl (!decide (x = y))) H) : rNe (.str x) (.str y) H Q := ⟨rfl, by
  rw [show decide (V.str x = V.str y) = decide (x = y) by simp only [V.str.injEq]]
  exact h⟩
theorem rd_test (h : ta σ H fun x H1 => wBl x H1 QB) : tTest ta σ H QB := h
theorem rd_tB (h : ta σ H fun x H1 => wBl x H1 QB) : tB ta σ H QB := h
theorem rd_wBl (h : QB b H) : wBl (.bl b) H QB := ⟨b, rfl, h⟩
theorem rd_and (h : tA σ H fun c H1 => if c = true then tB' σ H1 QB else QB false H1) : tAnd tA tB' σ H QB := h
theorem rd_or (h : tA σ H fun c H1 => if c = true then QB true H1 else tB' σ H1 QB) : tOr tA tB' σ H QB := h
theorem rd_not (h : tA σ H fun c H1 => QB (!c) H1) : tNot tA σ H QB := h
theorem rd_notV (h : ta σ H fun x H1 => wBl x H1 fun c H2 => Q (.bl (!c)) H2) : tNotV ta σ H Q := h
theorem rd_andV (h : ta σ H fun x H1 => wBl x H1 fun c H2 => if c = true then tb σ H2 Q else Q (.bl false) H2) : tAndV ta tb σ H Q := h
theorem rd_orV (h : ta σ H fun x H1 => wBl x H1 fun c H2 => if c = true then Q (.bl true) H2 else tb σ H2 Q) : tOrV ta tb σ H Q := h
theorem rd_ifE (h : tA σ H fun c H1 => if c = true then ta σ H1 Q else tb σ H1 Q) : tIf tA ta tb σ H Q := h
theorem rd_ch (h : ta σ H fun x H1 => tb σ H1 fun y H2 => r x y H2 fun z H3 => wCh r' tc σ Q y z H3) : tChain r r' ta tb tc σ H Q := h
theorem rd_wCh {y : V} (h : if b = true then tc σ H fun w H1 => r' y w H1 Q else Q (.bl false) H) : wCh r' tc σ Q y (.bl b) H := ⟨b, rfl, h⟩
theorem rd_cb {f : List V → Hp → VK → Prop} (h : as σ H fun vs H1 => f vs H1 Q) : tCB f as σ H Q := h
theorem rd_call {sp : Sp} (h : as σ H fun vs H1 => sp vs H1 Q E) : tCall sp [] E as σ H Q := by
  unfold tCall
  simpa only [List.append_nil] using h
theorem rd_cons {tr : TA} (h : ta σ H fun x H1 => tr σ H1 fun xs H2 => QA (x :: xs) H2) : tCons ta tr σ H QA := h
theorem rd_nil (h : QA [] H) : tNil σ H QA := h
def wTT (xs : List V) (H : Hp) (Q : VK) : Prop := xs.length ≤ sizeLine ∧ ∀ (p : Addr) (o : Obj), H p = none → o.dict = Option.none → Q (.ref p) (upd H p (.frz o (.tup xs)))
def wLs (xs : List V) (H : Hp) (Q : VK) : Prop := xs.length ≤ sizeLine ∧ ∀ (p : Addr), H p = none → Q (.ref p) (upd H p (.lst xs))
theorem rd_tt (h : as σ H fun xs H1 => wTT xs H1 Q) : zTT as σ H Q := h
theorem rd_ls (h : as σ H fun xs H1 => wLs xs H1 Q) : tLst as σ H Q := h
theorem rd_sl {f : V → Option Int → Option Int → Hp → VK → Prop} {tl' th : TO} (h : ta σ H fun x H1 => tl' σ H1 fun l H2 => th σ H2 fun u H3 => f x l u H3 Q) : tSl f ta tl' th σ H Q := h
theorem rd_noP (h : QO none H) : tNoPart σ H QO := h
theorem rd_part (h : ta σ H fun x H1 => wPart x H1 QO) : tPart ta σ H QO := h
theorem rd_wPart (h : QO (some i) H) : wPart (.int i) H QO := ⟨i, rfl, h⟩
theorem rd_m1 {f : V → List V → Hp → VK → Prop} (h : ta σ H fun x H1 => wM x (tb σ H1 fun y H2 => f x [y] H2 Q)) : tM1 f ta tb σ H Q := h
theorem rd_wM (h : P) : wM (.str x) P := ⟨⟨x, rfl⟩, h⟩
theorem rd_js {ts : List TE} (h : tJs (ta :: ts) Str.empty σ H fun out H1 => Q (.str out) H1) : zJs (ta :: ts) σ H Q := h
theorem rd_jc {ts : List TE} {acc : Str} (h : ta σ H fun x H1 => wJs ts acc σ QS x H1) : tJs (ta :: ts) acc σ H QS := h
theorem rd_jn {acc : Str} (h : QS acc H) : tJs [] acc σ H QS := h
theorem rd_wJs {ts : List TE} {acc : Str} (h : tJs ts (acc ++ x) σ H QS) (c : (acc ++ x).length ≤ sizeLine) : wJs ts acc σ QS (.str x) H := ⟨x, rfl, c, h⟩
theorem rd_fmt (h : ta σ H fun x H1 => wFmt x H1 Q) : tFmt ta σ H Q := h
theorem rd_fmtR (h : ta σ H fun x H1 => wFmtR x H1 Q) : tFmtR ta σ H Q := h
theorem rd_wFmt (h : Q (.str x) H) (c : x.length ≤ sizeLine) : wFmt (.str x) H Q := .inl ⟨x, rfl, c, h⟩
theorem rd_wFmtR (h : Q (.str (reprText x)) H) (c : (reprText x).length ≤ sizeLine) : wFmtR (.str x) H Q := .inl ⟨x, rfl, c, h⟩
theorem rd_lenS (h : Q (.int x.length) H) (c : x.length ≤ sizeLine) : zLenS [.str x] H Q := ⟨x, rfl, c, h⟩
theorem rd_int (h : Q (.int i) H) : zInt [.int i] H Q := .inl ⟨i, rfl, h⟩
theorem rd_intB (h : Q (.int (if b then 1 else 0)) H) : zInt [.bl b] H Q := .inr ⟨b, rfl, h⟩
theorem rd_starts (h : Q (.bl (Txt.startswith x y)) H) : zStarts (.str x) [.str y] H Q := ⟨x, y, rfl, rfl, h⟩
theorem rd_ends (h : Q (.bl (Txt.endswith x y)) H) : zEnds (.str x) [.str y] H Q := ⟨x, y, rfl, rfl, h⟩
theorem rd_rstrip (h : Q (.str (Txt.rstripChars x y)) H) (c : x.length ≤ sizeLine) : zRstrip (.str x) [.str y] H Q := ⟨x, y, rfl, rfl, c, h⟩
theorem rd_adS (h : Q (.str (x ++ y)) H) (c : x.length + y.length ≤ sizeLine) : zAdS (.str x) (.str y) H Q := ⟨x, y, rfl, rfl, c, h⟩
theorem rd_slS {lo hi : Option Int} (h : Q (.str (cutS x lo hi)) H) (c : x.length ≤ sizeLine) : rSlS (.str x) lo hi H Q := ⟨x, rfl, c, h⟩
theorem rd_in1 {c : Nat} (h : Q (.bl (decide (c ∈ tl y))) H) : zIn1 (.str ⟨#[c]⟩) (.str y) H Q := ⟨c, y, rfl, rfl, h⟩
theorem rd_isB {c : Bool} (h : Q (.bl (decide (b = c))) H) : rIsB (.bl b) (.bl c) H Q := ⟨b, c, rfl, rfl, h⟩
theorem rd_isN (h : Q (.bl (decide (v = .non))) H) : zIsN false v .non H Q := ⟨rfl, h⟩
theorem rd_notN (h : Q (.bl (!decide (v = .non))) H) : zIsN true v .non H Q := ⟨rfl, h⟩
theorem rd_iT {A B : Prop} (h : A) : if true = true then A else B := iteT h
theorem rd_iF {A B : Prop} (h : B) : if false = true then A else B := iteF h
theorem rd_yes (h : QB true H) : tYes σ H QB := h
theorem if_dec {c A B : Prop} [Decidable c] (h1 : c → A) (h2 : ¬ c → B) : if decide c = true then A else B := ite2 (fun e => h1 (of_decide_eq_true e)) (fun e => h2 fun z => e (decide_eq_true z))
theorem if_ndec {c A B : Prop} [Decidable c] (h1 : ¬ c → A) (h2 : c → B) : if (!decide c) = true then A else B := by
  by_cases e : c
  · rw [decide_eq_true e]
    exact iteF (h2 e)
  · rw [decide_eq_false e]
    exact iteT (h1 e)
theorem if_b {A B : Prop} (h1 : b = true → A) (h2 : b = false → B) : if b = true then A else B := by
  cases b
  · exact iteF (h2 rfl)
  · exact iteT (h1 rfl)
end
theorem line_of {n : Nat} (h : n ≤ 10000000) : n ≤ sizeLine := Nat.le_trans h (by decide)
theorem lt_line {n : Nat} (h : n < 10000000) : n < sizeLine := Nat.lt_of_lt_of_le h (by decide)
theorem len_app (x y : Str) : (x ++ y).length = x.length + y.length := by rw [len_tl, len_tl, len_tl, tl_append, List.length_append]
theorem len_cut (z : Str) (lo hi : Option Int) : (cutS z lo hi).length ≤ z.length := cutS_length z lo hi
theorem len_of (s : String) : (Str.ofString s).length = s.length := by rw [len_tl, tl_ofString, List.length_map]; rfl
theorem tl_empty : tl Str.empty = [] := rfl
theorem len_empty : Str.empty.length = 0 := rfl
/-! ### a def of the top -/
def Dn (K : PySem.W.Frag) (mg : Str → Option Value) (x : Str) (st : Stmt) (ps : List Str) : Prop := ∃ f fd, mg x = some (.ref f) ∧ Fun K x x st f fd ∧ ∀ (s : Shared) (us : List Value), us.length = ps.length → BindsTo s fd ⟨us, []⟩ (ps.zip us)
def OkD (P : Program) (w : World) (K : PySem.W.Frag) (mg : Str → Option Value) (base : Heap) (CX : CXT) (k : Nat) (x : Str) (ps : List Str) (sp : Sp) : Prop :=
  ∃ f fd, mg x = some (.ref f) ∧ PySem.W.keepIn K (.ref f) = true ∧ Binds K fd ps [] ∧ FnOk P w K mg base CX k f fd ps sp
theorem dn_mk {K : PySem.W.Frag} {h : Heap} {mg : Str → Option Value} {x : Str} {st : Stmt} {ps : List Str} {f : Addr} {oc kV doc pm cdv ct : Value} {od an : Option Addr} {osl : Array (Option Value)} (X : K.In h) (G : h.Ns mainGlobals mg)
    (a : PySem.W.nsIn K mainGlobals x = some (some (.ref f))) (l : K.lookup f = some ⟨oc, od, .func (PySem.W.fnOf x x (defArgs st) (defBody st) (defScope st) .none kV doc pm an cdv ct), osl⟩)
    (c : PySem.W.codeIn K cdv x = true) (k : PySem.W.keepIn K (.ref f) = true)
    (b : ∀ (kV doc pm : Value) (an : Option Addr) (cdv ct : Value) (us : List Value), us.length = ps.length → bindArgs (PySem.W.fnOf x x (defArgs st) (defBody st) (defScope st) .none kV doc pm an cdv ct) ⟨us, []⟩ = pure (ps.zip us)) : Dn K mg x st ps :=
  ⟨f, _, PySem.W.mg_of X G a, fun_mk l c k, fun s us hl => .of_eq (b kV doc pm an cdv ct us hl)⟩
theorem binds_of {K : PySem.W.Frag} {fd : FuncData} {ps : List Str} (b : ∀ (s : Shared) (us : List Value), us.length = ps.length → BindsTo s fd ⟨us, []⟩ (ps.zip us)) : Binds K fd ps [] := fun s us _ hl => by
  rw [List.append_nil] at hl ⊢
  exact b s us hl
theorem ok_F {P : Program} {w : World} {K : PySem.W.Frag} {mg : Str → Option Value} {base : Heap} {k : Nat} {x : Str} {st : Stmt} {ps N : List Str} {sp : Sp} {f : Addr} {fd : FuncData} (F : Fun K x x st f fd) (S : FnScope N ps (defScope st))
    (len : ∀ vs H Q E, sp vs H Q E → vs.length = ps.length)
    (hbody : ∀ (cdv : Value) (A : Around) (outer : List Env) (s : Shared) (H : Hp) (vs : List V) (Q : VK) (E : XK), Room k (A.deeper (envOfC x (defScope st) s.heap.objs.size f cdv)) → sp vs H Q E →
      ∃ t, PSs (cxOf CX0 P w K mg base N x (defScope st) f cdv A outer s H E).nox (defBody st) t ∧ t ⟨fun _ H' => Q .non H', Q, fun _ _ => False, fun _ _ => False⟩ (start N vs) H) : FnOk P w K mg base CX0 (k + 1) f fd ps sp :=
  F.ok S len fun cdv A outer s H vs Q E hr h => hbody cdv A outer s H vs Q E hr h
theorem ok_mk {P : Program} {w : World} {K : PySem.W.Frag} {mg : Str → Option Value} {base : Heap} {k : Nat} {x : Str} {st : Stmt} {ps N : List Str} {sp : Sp} (d : Dn K mg x st ps) (S : FnScope N ps (defScope st))
    (len : ∀ vs H Q E, sp vs H Q E → vs.length = ps.length)
    (hbody : ∀ (f : Addr) (cdv : Value) (A : Around) (outer : List Env) (s : Shared) (H : Hp) (vs : List V) (Q : VK) (E : XK), Room k (A.deeper (envOfC x (defScope st) s.heap.objs.size f cdv)) → sp vs H Q E →
      ∃ t, PSs (cxOf CX0 P w K mg base N x (defScope st) f cdv A outer s H E).nox (defBody st) t ∧ t ⟨fun _ H' => Q .non H', Q, fun _ _ => False, fun _ _ => False⟩ (start N vs) H) : OkD P w K mg base CX0 (k + 1) x ps sp := by
  obtain ⟨f, fd, m, F, b⟩ := d
  exact ⟨f, fd, m, F.kp, binds_of b, F.ok S len fun cdv A outer s H vs Q E hr h => hbody f cdv A outer s H vs Q E hr h⟩
section
variable {X : Cx}
theorem pe_callD {k : Nat} {x : Str} {ps : List Str} {sp : Sp} {t : TA} {e : Expr} {es : List Expr} {p pos : Pos} {E : XK} (O : OkD X.prog X.w X.K X.mg X.base CX0 k x ps sp) (hr : Room k X.A) (hg : Gl X x) (hx : Passes CX0 X E) (ha : PA X (e :: es) t)
    (hdb : (x == ("__debug__" : Str)) = false := by decide) (he : starEach (e :: es) X.env = (false, eval e X.env) :: starEach es X.env := by rfl) (hpl : (backTo pos (starEach es X.env)).any (·.1) = false := by rfl) :
    PE X (.Call (.Name x p) (e :: es) [] pos) (tCall sp [] E t) := by
  obtain ⟨f, fd, m, kp, b, F⟩ := O
  exact pe_call F hr hg m kp b .nil hx ha hdb he hpl
end
def wTru (K : PySem.W.Frag) (x : V) (H : Hp) (Q : Bool → Hp → Prop) : Prop := ∃ k, TruV K x H k ∧ Q k H
section
variable {σ : L2.St} {H : Hp} {Q : VK} {QB : Bool → Hp → Prop} {K : PySem.W.Frag} {a : Addr} {xs : List V} {i k : Int} {ta : TE}
theorem rd_truth (h : ta σ H fun x H1 => wTru K x H1 QB) : zTruth K ta σ H QB := h
theorem rd_truL (c : SqL K H a xs) (h : QB (!xs.isEmpty) H) : wTru K (.ref a) H QB := ⟨_, .inl ⟨xs, c, rfl⟩, h⟩
theorem rd_lenL (c : SqL K H a xs) (h : Q (.int xs.length) H) : zLenQ K [.ref a] H Q := ⟨a, xs, rfl, .inl c, h⟩
theorem rd_lenT (c : SqT K H a xs) (h : Q (.int xs.length) H) : zLenQ K [.ref a] H Q := ⟨a, xs, rfl, .inr c, h⟩
theorem rd_ixL {v : V} (c : SqL K H a xs) (e : atI xs i = some v) (h : Q v H) : rIxL K (.ref a) (.int i) H Q := ⟨a, xs, i, v, rfl, rfl, c, e, h⟩
theorem rd_ixT {v : V} (c : SqT K H a xs) (e : atI xs i = some v) (h : Q v H) : rIxT K (.ref a) (.int i) H Q := ⟨a, xs, i, v, rfl, rfl, c, e, h⟩
theorem atI_in {α : Type} {xs : List α} {i : Int} (h0 : 0 ≤ i) (h1 : i < xs.length) : ∃ v, v ∈ xs ∧ atI xs i = some v := by
  obtain ⟨j, rfl⟩ := Int.eq_ofNat_of_zero_le h0
  have hj : j < xs.length := by omega
  exact ⟨xs[j], List.getElem_mem hj, atI_nat (List.getElem?_eq_getElem hj)⟩
end
/-! ### comprehensions and loops over a range -/
def LcR (n : Nat) (g : TG) (te : TE) (vs : List Nat) (σ : L2.St) (H1 : Hp) (D : Addr) (Qd : Hp → Prop) : Prop := ∃ W : Nat → Nat → Hp → Prop, (∃ m, W 0 m (upd H1 D (.lst []))) ∧ ∀ i m H, W i m H →
  ((Itr 0 n).stop i H ∧ Qd H) ∨ ((Itr 0 n).go i H ∧ ∃ Nx : Hp → Prop, (∀ H', Nx H' → ∃ m', m' < m ∧ W (i + 1) m' H') ∧ ∀ x H', (Itr 0 n).yld i H x H' → g x (wipe σ vs) H' fun σ2 H2 => wipe σ2 vs = wipe σ vs ∧ tYes σ2 H2 fun b H3 =>
    if b = true then te σ2 H3 fun y H4 => ∃ acc, H4 D = some (.lst acc) ∧ acc.length < sizeLine ∧ Nx (upd H4 D (.lst (acc ++ [y]))) else Nx H3)
def wRg (zs : List V) (H : Hp) (R : Nat → Hp → Prop) : Prop := ∃ j : Int, zs = [V.int j] ∧ -(2 ^ 62) ≤ j ∧ j < 2 ^ 62 ∧ R j.toNat H
section
variable {σ : L2.St} {H H1 : Hp} {Q : VK} {QG : L2.St → Hp → Prop} {K : PySem.W.Frag} {st sc D : Addr} {ns : List Int} {as : TA} {g : TG} {te ta tb : TE} {vs : List Nat} {n : Nat} {G : V → Prop} {Qd : Hp → Prop}
theorem rd_lcR (h : as σ H fun zs H1 => wRg zs H1 fun n H2 => ∀ D, H2 D = none → LcR n g te vs σ H2 D (Q (.ref D))) : tLc (iRng1 as) g tYes te vs σ H Q := by
  unfold tLc iRng1
  exact h
theorem rd_wRg {j : Int} {R : Nat → Hp → Prop} (h0 : 0 ≤ j) (h1 : j ≤ 1000000) (h : R j.toNat H) : wRg [.int j] H R := ⟨j, rfl, by omega, by omega, h⟩
theorem lcR (W : Wd K st sc ns H1) (nD : H1 D = none) (hn : n ≤ 1000)
    (hs : ∀ (i : Nat) H (R : VK), i < n → Wd K st sc ns H → Dr st H1 H → (∀ y H', Dr st H H' → G y → R y H') → g (.int (0 + (i : Nat))) (wipe σ vs) H fun σ2 H2 => wipe σ2 vs = wipe σ vs ∧ te σ2 H2 R)
    (hd : ∀ H' ys, Dr st H1 H' → Wd K st sc ns H' → D ≠ st → H' D = some (.lst ys) → ys.length = n → (∀ y ∈ ys, G y) → Qd H') : LcR n g te vs σ H1 D Qd := by
  have nS : D ≠ st := W.1.ne nD
  refine lc_range (Pv := fun i H => Dr st H1 H ∧ ∃ ys, H D = some (.lst ys) ∧ ys.length = i ∧ ∀ y ∈ ys, G y) ?_ (fun i H hi hP => ?_) (fun H hP => ?_)
  · exact ⟨W.dr.new nD, [], upd_same, rfl, fun _ h => nomatch h⟩
  · obtain ⟨d, ys, e, el, eg⟩ := hP
    have q := hs i H (fun y H4 => ∃ acc, H4 D = some (.lst acc) ∧ acc.length < sizeLine ∧ (Dr st H1 (upd H4 D (.lst (acc ++ [y]))) ∧ ∃ ys, (upd H4 D (.lst (acc ++ [y]))) D = some (.lst ys) ∧ ys.length = i + 1 ∧ ∀ y ∈ ys, G y)) hi (W.next d) d (fun y H' d' gy => by
      have e' : H' D = some (.lst ys) := d'.1 _ _ nS e
      refine ⟨ys, e', lt_line (by omega), Dr.put W.1 (d.trans d') nD, ys ++ [y], upd_same, by rw [List.length_append, el]; rfl, fun z hz => ?_⟩
      rcases List.mem_append.mp hz with hz | hz
      · exact eg z hz
      · rw [List.mem_singleton.mp hz]
        exact gy)
    exact q
  · obtain ⟨d, ys, e, el, eg⟩ := hP
    exact hd H ys d (W.next d) nS e el eg
def wSet (t : TSet) (o i v : V) (H : Hp) (Q : Hp → Prop) : Prop := t o i v H Q
theorem rd_gSub {v : V} {t : TSet} (h : ta σ H fun o H1 => tb σ H1 fun i H2 => t o i v H2 fun H3 => QG σ H3) : gSub ta tb t v σ H QG := h
theorem rd_setL {a : Addr} {k : Int} {v : V} {xs : List V} {j : Nat} {QH : Hp → Prop} (e : H a = some (.lst xs)) (hj : ixN xs.length k = some j) (h : QH (upd H a (.lst (xs.set j v)))) : rSetL (.ref a) (.int k) v H QH := ⟨a, xs, k, j, rfl, rfl, e, hj, h⟩
theorem Dr.upds (d : Dr st H H1) {k v : Int} : Dr st H (upd H1 st (.lst [.int k, .int v])) :=
  ⟨fun a x n e => by
    rw [upd_ne n]
    exact d.1 a x n e, k, v, upd_same⟩
end
theorem cut_one {z : Str} {k : Int} (h0 : 0 ≤ k) (h1 : k < z.length) : ∃ c, c ∈ tl z ∧ cutS z (some k) (some (k + 1)) = ⟨#[c]⟩ := by
  obtain ⟨j, rfl⟩ := Int.eq_ofNat_of_zero_le h0
  have hj : j < (tl z).length := by rw [← len_tl]; omega
  have hz : z.length = (tl z).length := len_tl z
  refine ⟨(tl z)[j], List.getElem_mem hj, ?_⟩
  unfold cutS
  rw [show ((j : Int) + 1) = ((j + 1 : Nat) : Int) by omega, HT.sIx_nat, HT.sIx_nat, Nat.min_eq_left (by omega), Nat.min_eq_left (by omega), show j + 1 - j = 1 by omega]
  show (⟨(List.take 1 (List.drop j (tl z))).toArray⟩ : Str) = _
  rw [List.drop_eq_getElem_cons hj]
  rfl
/-! ### texts put together -/
theorem strs_of {G : Str → Prop} : ∀ {ys : List V}, (∀ y ∈ ys, ∃ x, y = .str x ∧ G x) → ∃ xs : List Str, ys = xs.map V.str ∧ ∀ x ∈ xs, G x
  | [], _ => ⟨[], rfl, fun _ h => nomatch h⟩
  | y :: ys, h => by
    obtain ⟨x, rfl, g⟩ := h y List.mem_cons_self
    obtain ⟨xs, rfl, gs⟩ := strs_of (ys := ys) fun z hz => h z (List.mem_cons_of_mem _ hz)
    refine ⟨x :: xs, rfl, fun z hz => ?_⟩
    rcases List.mem_cons.mp hz with rfl | hz
    · exact g
    · exact gs z hz
theorem joinL_len (S : List Nat) : ∀ ps : List (List Nat), (joinL S ps).length ≤ (ps.map (·.length)).sum + ps.length * S.length
  | [] => Nat.zero_le _
  | [p] => by simp [joinL]
  | p :: q :: r => by
    have h := joinL_len S (q :: r)
    have e : joinL S (p :: q :: r) = p ++ (S ++ joinL S (q :: r)) := by first | rfl | simp [joinL]
    rw [e, List.length_append, List.length_append]
    simp only [List.map_cons, List.sum_cons, List.length_cons] at h ⊢
    rw [Nat.succ_mul]
    omega
theorem joinL_mem {S : List Nat} {c : Nat} : ∀ {ps : List (List Nat)}, c ∈ joinL S ps → c ∈ S ∨ ∃ p ∈ ps, c ∈ p
  | [], h => by simp [joinL] at h
  | [p], h => .inr ⟨p, by simp, by simpa [joinL] using h⟩
  | p :: q :: r, h => by
    have e : joinL S (p :: q :: r) = p ++ (S ++ joinL S (q :: r)) := by first | rfl | simp [joinL]
    rw [e] at h
    rcases List.mem_append.mp h with h | h
    · exact .inr ⟨p, by simp, h⟩
    · rcases List.mem_append.mp h with h | h
      · exact .inl h
      · rcases joinL_mem h with h | ⟨p', hp, h⟩
        · exact .inl h
        · exact .inr ⟨p', List.mem_cons_of_mem _ hp, h⟩
theorem joinL_nil : ∀ ps : List (List Nat), joinL [] ps = ps.flatten
  | [] => rfl
  | [p] => by simp [joinL]
  | p :: q :: r => by
    have e : joinL [] (p :: q :: r) = p ++ ([] ++ joinL [] (q :: r)) := by first | rfl | simp [joinL]
    rw [e, joinL_nil (q :: r)]
    rfl
theorem sum_le {B : Nat} : ∀ {l : List Nat}, (∀ x ∈ l, x ≤ B) → l.sum ≤ l.length * B
  | [], _ => Nat.zero_le _
  | x :: l, h => by
    have h1 := h x List.mem_cons_self
    have h2 := sum_le (l := l) fun y hy => h y (List.mem_cons_of_mem _ hy)
    rw [List.sum_cons, List.length_cons, Nat.succ_mul]
    omega
theorem lens_le {B : Nat} {xs : List Str} (h : ∀ x ∈ xs, x.length ≤ B) : (xs.map (·.length)).sum ≤ xs.length * B := by
  have q := sum_le (B := B) (l := xs.map (·.length)) fun n hn => by
    obtain ⟨x, hx, rfl⟩ := List.mem_map.mp hn
    exact h x hx
  rwa [List.length_map] at q
theorem tl_joined (a : Str) (xs : List Str) : tl (Txt.join a xs) = joinL (tl a) (xs.map tl) := by rw [join_eq, tl_join]
theorem len_joined (a : Str) (xs : List Str) : (Txt.join a xs).length ≤ (xs.map (·.length)).sum + xs.length * a.length := by
  rw [len_tl, tl_joined, len_tl a]
  have h := joinL_len (tl a) (xs.map tl)
  rw [List.length_map, List.map_map] at h
  have e : (xs.map (·.length)) = xs.map ((·.length) ∘ tl) := List.map_congr_left fun x _ => len_tl x
  rw [e]
  exact h
theorem mem_joined {a : Str} {xs : List Str} {c : Nat} (h : c ∈ tl (Txt.join a xs)) : c ∈ tl a ∨ ∃ x ∈ xs, c ∈ tl x := by
  rw [tl_joined] at h
  rcases joinL_mem h with h | ⟨p, hp, h⟩
  · exact .inl h
  · obtain ⟨x, hx, rfl⟩ := List.mem_map.mp hp
    exact .inr ⟨x, hx, h⟩
theorem tl_lit0 : tl (Str.ofString "") = [] := by rw [tl_ofString]; rfl
theorem len_ones : ∀ {xs : List Str}, (∀ x ∈ xs, ∃ c, x = ⟨#[c]⟩) → ((xs.map tl).flatten).length = xs.length
  | [], _ => rfl
  | x :: xs, h => by
    obtain ⟨c, rfl⟩ := h x List.mem_cons_self
    rw [List.map_cons, List.flatten_cons, List.length_append, len_ones fun y hy => h y (List.mem_cons_of_mem _ hy)]
    exact Nat.add_comm 1 _
section
variable {H : Hp} {Q : VK} {K : PySem.W.Frag} {p : Addr} {xs : List Str} {a : Str}
theorem rd_joinL (c : SqL K H p (xs.map V.str)) (b : (xs.map (·.length)).sum + xs.length * a.length ≤ 16777216) (h : Q (.str (Txt.join a xs)) H) : zJoin K (.str a) [.ref p] H Q := ⟨a, p, xs, rfl, rfl, .inl c, b, h⟩
end
theorem len_lit0 : (Str.ofString "").length = 0 := by rw [len_of]; rfl
theorem len_dot : (Str.ofString ".").length = 1 := by rw [len_of]; rfl
theorem tl_dot : tl (Str.ofString ".") = [46] := by rw [tl_ofString]; rfl
theorem rep_one {α : Type} (x : α) : ∀ k : Nat, (List.replicate k [x]).flatten = List.replicate k x
  | 0 => rfl
  | k + 1 => by rw [List.replicate_succ, List.flatten_cons, rep_one x k]; rfl
theorem len_ends : (Str.ofString "abcdefghijklmnopqrstuvwxyz0123456789-_+").length = 39 := by rw [len_of]; rfl
theorem len_ends2 : (Str.ofString "abcdefghijklmnopqrstuvwxyz0123456789").length = 36 := by rw [len_of]; rfl
theorem len_rs (x y : Str) : (Txt.rstripChars x y).length ≤ x.length := by first | exact PyProof.Rows.len_rstripChars x y | exact len_rstripChars x y | exact Txt.len_rstripChars x y
theorem rd_wLs {xs : List V} {H : Hp} {Q : VK} (c : xs.length ≤ 1000) (h : ∀ (p : Addr), H p = none → Q (.ref p) (upd H p (.lst xs))) : wLs xs H Q := ⟨line_of (by omega), h⟩
theorem rd_wTT {xs : List V} {H : Hp} {Q : VK} (c : xs.length ≤ 1000) (h : ∀ (p : Addr) (H' : Hp), H p = none → Same H H' → Tk H' p xs → Q (.ref p) H') : wTT xs H Q := ⟨line_of (by omega), fun p o n d => h p _ n (same_new n) (Tk.mk d)⟩
theorem rd_rep {p : Addr} {k : Int} {xs : List V} {H : Hp} {Q : VK} (e : H p = some (.lst xs)) (k0 : 0 ≤ k) (k1 : k ≤ 1000) (c : xs.length ≤ 1000) (h : ∀ q, H q = none → Q (.ref q) (upd H q (.lst (List.replicate k.toNat xs).flatten))) : rRep (.ref p) (.int k) H Q :=
  ⟨p, k, xs, rfl, rfl, e, by omega, by omega, line_of (Nat.le_trans (Nat.mul_le_mul c (show k.toNat ≤ 1000 by omega)) (by decide)), h⟩
def FrR (n : Nat) (g : TG) (tb : TS) (D : Ends) (σ : L2.St) (H : Hp) : Prop := ∃ W : Nat → Nat → L2.St → Hp → Prop, (∃ m, W 0 m σ H) ∧ ∀ i m σ H, W i m σ H →
  ((Itr 0 n).stop i H ∧ D.nx σ H) ∨ ((Itr 0 n).go i H ∧ ∃ N : L2.St → Hp → Prop, (∀ σ' H', N σ' H' → ∃ m', m' < m ∧ W (i + 1) m' σ' H') ∧ ∀ x H', (Itr 0 n).yld i H x H' → g x σ H' fun σ2 H2 => tb { D with nx := N, ct := N, bk := D.nx } σ2 H2)
def wTy (K : PySem.W.Frag) (T : String) (x : V) (H : Hp) (P : Prop) : Prop := tyV K T x H ∧ P
section
variable {σ : L2.St} {H : Hp} {Q : VK} {nx bk ct : L2.St → Hp → Prop} {rt : VK} {K : PySem.W.Frag} {as : TA} {ta : TE} {g : TG} {tb : TS} {n : Nat} {T : String} {f : V → List V → Hp → VK → Prop} {a : Addr} {xs : List V} {y : V} {P : Prop}
theorem rd_forR (h : as σ H fun zs H1 => wRg zs H1 fun n H2 => FrR n g tb ⟨nx, rt, bk, ct⟩ σ H2) : tFor (iRng1 as) g tb ⟨nx, rt, bk, ct⟩ σ H := by
  unfold tFor iRng1
  exact h
theorem forR (Pv : Nat → L2.St → Hp → Prop) (h0 : Pv 0 σ H) (hs : ∀ (i : Nat) σ H, i < n → Pv i σ H → g (.int (0 + (i : Nat))) σ H fun σ2 H2 => tb ⟨Pv (i + 1), rt, nx, Pv (i + 1)⟩ σ2 H2) (hd : ∀ σ H, Pv n σ H → nx σ H) :
    FrR n g tb ⟨nx, rt, bk, ct⟩ σ H := for_range (D := ⟨nx, rt, bk, ct⟩) Pv h0 hs hd
theorem rd_bm (h : ta σ H fun x H1 => wTy K T x H1 (as σ H1 fun xs H2 => f x xs H2 Q)) : tBM K T f ta as σ H Q := h
theorem rd_wTyL (c : SqL K H a xs) (h : P) : wTy K "list" (.ref a) H P := ⟨.inl ⟨rfl, _, c⟩, h⟩
theorem rd_append (e : H a = some (.lst xs)) (c : xs.length ≤ 1000) (h : Q .non (upd H a (.lst (xs ++ [y])))) : rAppend (.ref a) [y] H Q := ⟨a, xs, y, rfl, rfl, e, lt_line (by omega), h⟩
end
/-! ### signs below 128 -/
def Asc (x : Str) : Prop := ∀ c ∈ tl x, c < 128
theorem asc_app {x y : Str} (h : Asc x) (g : Asc y) : Asc (x ++ y) := fun c hc => by
  rw [tl_append] at hc
  rcases List.mem_append.mp hc with hc | hc
  · exact h c hc
  · exact g c hc
theorem asc_cut {x : Str} {lo hi : Option Int} (h : Asc x) : Asc (cutS x lo hi) := fun c hc => h c (List.mem_of_mem_drop (List.mem_of_mem_take (show c ∈ List.take _ (List.drop _ (tl x)) from hc)))
theorem asc_rs {x y : Str} (h : Asc x) : Asc (Txt.rstripChars x y) := fun c hc => by
  obtain ⟨j, _, e⟩ := PyProof.Rows.stripBy_right y.cps.contains x
  rw [show Txt.rstripChars x y = Builtin.Str.strSub x 0 j from e, tl_strSub] at hc
  exact h c (List.mem_of_mem_drop (List.mem_of_mem_take hc))
theorem asc_join {a : Str} {xs : List Str} (h : Asc a) (g : ∀ x ∈ xs, Asc x) : Asc (Txt.join a xs) := fun c hc => by
  rcases mem_joined hc with hc | ⟨x, hx, hc⟩
  · exact h c hc
  · exact g x hx c hc
theorem asc_of {x : Str} (h : x.cps.all (fun c => decide (c < 128)) = true) : Asc x := fun c hc => by
  rw [Array.all_eq_true'] at h
  exact of_decide_eq_true (h c (Array.mem_def.mpr hc))
theorem asc_one {c : Nat} (h : c < 128) : Asc ⟨#[c]⟩ := fun d hd => by
  rw [List.mem_singleton.mp hd]
  exact h
theorem asc_ends : Asc (Str.ofString "abcdefghijklmnopqrstuvwxyz0123456789-_+") := asc_of (by decide +kernel)
theorem asc_ends2 : Asc (Str.ofString "abcdefghijklmnopqrstuvwxyz0123456789") := asc_of (by decide +kernel)
theorem asc_dot : Asc (Str.ofString ".") := asc_of (by decide +kernel)
theorem asc_lit0 : Asc (Str.ofString "") := asc_of (by decide +kernel)
theorem ok_asc {x : Str} (h : Asc x) : PyData.strOk x = true := by
  unfold PyData.strOk
  rw [Array.all_eq_true']
  exact fun c hc => decide_eq_true (Nat.lt_trans (h c (Array.mem_def.mp hc)) (by decide))
theorem canLay_strs : ∀ {xs : List Str}, (∀ x ∈ xs, Asc x) → PyData.canLayAll0 (xs.map PyData.str) = true
  | [], _ => by simp [PyData.canLayAll0]
  | x :: xs, h => by
    simp only [List.map_cons, PyData.canLayAll0, PyData.canLay0, ok_asc (h x List.mem_cons_self), canLay_strs fun y hy => h y (List.mem_cons_of_mem _ hy), Bool.and_self]
theorem depth_strs : ∀ xs : List Str, PyData.depthAll (xs.map PyData.str) = 0
  | [] => by simp [PyData.depthAll]
  | x :: xs => by
    rw [List.map_cons, PyData.depthAll, PyData.depth, depth_strs xs]
    rfl
theorem shaped_strs {xs : List Str} (h : ∀ x ∈ xs, Asc x) : SeqAt.shaped (.tuple (xs.map PyData.str)) = true := by
  simp only [SeqAt.shaped, PyData.canLay0, PyData.depth, canLay_strs h, depth_strs]
  decide
theorem eqv_strs : ∀ xs ys : List Str, PyData.eqvAll (xs.map PyData.str) (ys.map PyData.str) = decide (xs = ys)
  | [], [] => by simp [PyData.eqvAll]
  | [], _ :: _ => by simp [PyData.eqvAll]
  | _ :: _, [] => by simp [PyData.eqvAll]
  | x :: xs, y :: ys => by
    simp only [List.map_cons, PyData.eqvAll, PyData.eqv, eqv_strs xs ys]
    by_cases h : x = y <;> by_cases h' : xs = ys <;> simp [h, h']
theorem dp_strs {K : PySem.W.Frag} {H : Hp} : ∀ xs : List Str, DpAll K H (xs.map V.str) (xs.map PyData.str)
  | [] => .nil
  | x :: xs => .cons (.str x) (dp_strs xs)
section
variable {K : PySem.W.Frag} {H : Hp} {Q : VK} {p q : Addr} {xs ys : List Str} {v : V} {t : Value} {a b : String} {r : Bool} {zs : List V}
theorem rd_neT (h1 : SqT K H p (xs.map V.str)) (h2 : SqT K H q (ys.map V.str)) (a1 : ∀ x ∈ xs, Asc x) (a2 : ∀ x ∈ ys, Asc x) (h : Q (.bl (!decide (xs = ys))) H) : rNeD K (.ref p) (.ref q) H Q :=
  ⟨_, _, .tup h1 (dp_strs xs), .tup h2 (dp_strs ys), shaped_strs a1, shaped_strs a2, by
    rw [show PyData.eqv (.tuple (xs.map PyData.str)) (.tuple (ys.map PyData.str)) = PyData.eqvAll (xs.map PyData.str) (ys.map PyData.str) by rw [PyData.eqv], eqv_strs]
    exact h⟩
theorem rd_eqT (h1 : SqT K H p (xs.map V.str)) (h2 : SqT K H q (ys.map V.str)) (a1 : ∀ x ∈ xs, Asc x) (a2 : ∀ x ∈ ys, Asc x) (h : Q (.bl (decide (xs = ys))) H) : rEqD K (.ref p) (.ref q) H Q :=
  ⟨_, _, .tup h1 (dp_strs xs), .tup h2 (dp_strs ys), shaped_strs a1, shaped_strs a2, by
    rw [show PyData.eqv (.tuple (xs.map PyData.str)) (.tuple (ys.map PyData.str)) = PyData.eqvAll (xs.map PyData.str) (ys.map PyData.str) by rw [PyData.eqv], eqv_strs]
    exact h⟩
theorem rd_isi (c : TyX K H v (.type a)) (e : kitB a b = some r) (h : Q (.bl r) H) : rIsi K [v, .ty b] H Q := ⟨v, .ty b, .type a, .type b, r, rfl, .ty b, c, kit_ty e, h⟩
theorem Tk.ty {p : Addr} {zs : List V} (h : Tk H p zs) : TyX K H (.ref p) (.type "tuple") := let ⟨_, _, e⟩ := h; .fTuple e
theorem inV_strs (z : Str) : ∀ xs : List Str, inV (.str z) (xs.map V.str) = decide (z ∈ xs)
  | [] => by simp [inV]
  | x :: xs => by
    have h := inV_strs z xs
    unfold inV at h ⊢
    rw [List.map_cons, List.any_cons, h]
    show ((x == z) || _) = _
    by_cases e : x = z
    · simp [e]
    · have e' : ¬ z = x := fun q => e q.symm
      simp [e, e']
theorem flat_strs' : ∀ xs : List Str, (xs.map V.str).all flatV = true
  | [] => rfl
  | x :: xs => by rw [List.map_cons, List.all_cons, flat_strs' xs]; rfl
theorem rd_inT {z : Str} (c : SqT K H p (xs.map V.str)) (h : Q (.bl (decide (z ∈ xs))) H) : rIn K false (.str z) (.ref p) H Q := ⟨p, _, rfl, .inr c, rfl, flat_strs' xs, by
  rw [inV_strs]
  exact h⟩
theorem rd_tup (c : SqL K H p zs) (h : ∀ (l : Addr) (H' : Hp), H l = none → Same H H' → Tk H' l zs → Q (.ref l) H') : zTup K [.ref p] H Q := ⟨p, zs, rfl, c, fun l o n d => h l _ n (same_new n) (Tk.mk d)⟩
end
/-! ### what is walked: a list, a tuple, a text -/
def WalkOf (J : It) (R : Hp → Prop) (xs : List V) : Prop := ∀ H, R H → (∀ i, i < xs.length → J.go i H) ∧ (∀ i x H', i < xs.length → J.yld i H x H' → H' = H ∧ xs[i]? = some x) ∧ ∀ i, xs.length ≤ i → J.stop i H
def oneS (c : Nat) : V := .str ⟨#[c]⟩
theorem walk_l {K : PySem.W.Frag} {a : Addr} {xs : List V} : WalkOf (Itl K a) (fun H => SqL K H a xs) xs := fun H h =>
  ⟨fun i hi => ⟨xs, xs[i], h, List.getElem?_eq_getElem hi⟩, fun i x H' hi y => ⟨y.1, y.2 xs h⟩, fun i hi => ⟨xs, h, hi⟩⟩
theorem walk_t {K : PySem.W.Frag} {a : Addr} {xs : List V} : WalkOf (Itt K a) (fun H => SqT K H a xs) xs := fun H h =>
  ⟨fun i hi => ⟨xs, xs[i], h, List.getElem?_eq_getElem hi⟩, fun i x H' hi y => ⟨y.1, y.2 xs h⟩, fun i hi => ⟨xs, h, hi⟩⟩
theorem walk_s {z : Str} : WalkOf (Its z) (fun _ => True) ((tl z).map oneS) := fun H _ => by
  have e : ((tl z).map oneS).length = z.cps.size := by rw [List.length_map, Array.length_toList]
  refine ⟨fun i hi => ?_, fun i x H' hi y => ?_, fun i hi => ?_⟩
  · rw [e] at hi
    exact hi
  · obtain ⟨e1, c, hc, rfl⟩ := y
    refine ⟨e1, ?_⟩
    rw [List.getElem?_map, Array.getElem?_toList, hc]
    rfl
  · rw [e] at hi
    exact hi
def LcJ (J : It) (g : TG) (tt : TT) (te : TE) (vs : List Nat) (σ : L2.St) (H1 : Hp) (D : Addr) (Qd : Hp → Prop) : Prop := ∃ W : Nat → Nat → Hp → Prop, (∃ m, W 0 m (upd H1 D (.lst []))) ∧ ∀ i m H, W i m H →
  (J.stop i H ∧ Qd H) ∨ (J.go i H ∧ ∃ Nx : Hp → Prop, (∀ H', Nx H' → ∃ m', m' < m ∧ W (i + 1) m' H') ∧ ∀ x H', J.yld i H x H' → g x (wipe σ vs) H' fun σ2 H2 => wipe σ2 vs = wipe σ vs ∧ tt σ2 H2 fun b H3 =>
    if b = true then te σ2 H3 fun y H4 => ∃ acc, H4 D = some (.lst acc) ∧ acc.length < sizeLine ∧ Nx (upd H4 D (.lst (acc ++ [y]))) else Nx H3)
def FrJ (J : It) (g : TG) (tb : TS) (D : Ends) (σ : L2.St) (H : Hp) : Prop := ∃ W : Nat → Nat → L2.St → Hp → Prop, (∃ m, W 0 m σ H) ∧ ∀ i m σ H, W i m σ H →
  (J.stop i H ∧ D.nx σ H) ∨ (J.go i H ∧ ∃ N : L2.St → Hp → Prop, (∀ σ' H', N σ' H' → ∃ m', m' < m ∧ W (i + 1) m' σ' H') ∧ ∀ x H', J.yld i H x H' → g x σ H' fun σ2 H2 => tb { D with nx := N, ct := N, bk := D.nx } σ2 H2)
def wSq (P : Hp → Addr → List V → Prop) (x : V) (H : Hp) (R : Addr → Hp → Prop) : Prop := ∃ a, x = V.ref a ∧ (∃ xs, P H a xs) ∧ R a H
def wStr (x : V) (H : Hp) (R : Str → Hp → Prop) : Prop := ∃ z, x = V.str z ∧ R z H
section
variable {σ : L2.St} {H H1 : Hp} {Q : VK} {nx bk ct : L2.St → Hp → Prop} {rt : VK} {K : PySem.W.Frag} {ta : TE} {g : TG} {tt : TT} {te : TE} {vs : List Nat} {tb : TS} {n j : Nat} {a D : Addr} {xs : List V} {J : It} {Rl : Hp → Prop} {Qd : Hp → Prop}
theorem rd_lcT (h : ta σ H fun x H1 => wSq (SqT K) x H1 fun a H2 => ∀ D, H2 D = none → LcJ (Itt K a) g tt te vs σ H2 D (Q (.ref D))) : tLc (iTup K ta) g tt te vs σ H Q := by
  unfold tLc iTup
  exact h
theorem rd_lcL (h : ta σ H fun x H1 => wSq (SqL K) x H1 fun a H2 => ∀ D, H2 D = none → LcJ (Itl K a) g tt te vs σ H2 D (Q (.ref D))) : tLc (iList K ta) g tt te vs σ H Q := by
  unfold tLc iList
  exact h
theorem rd_lcS (h : ta σ H fun x H1 => wStr x H1 fun z H2 => ∀ D, H2 D = none → LcJ (Its z) g tt te vs σ H2 D (Q (.ref D))) : tLc (iStr ta) g tt te vs σ H Q := by
  unfold tLc iStr
  exact h
theorem rd_frT (h : ta σ H fun x H1 => wSq (SqT K) x H1 fun a H2 => FrJ (Itt K a) g tb ⟨nx, rt, bk, ct⟩ σ H2) : tFor (iTup K ta) g tb ⟨nx, rt, bk, ct⟩ σ H := by
  unfold tFor iTup
  exact h
theorem rd_frL (h : ta σ H fun x H1 => wSq (SqL K) x H1 fun a H2 => FrJ (Itl K a) g tb ⟨nx, rt, bk, ct⟩ σ H2) : tFor (iList K ta) g tb ⟨nx, rt, bk, ct⟩ σ H := by
  unfold tFor iList
  exact h
theorem rd_wSq {P : Hp → Addr → List V → Prop} {R : Addr → Hp → Prop} (c : P H a xs) (h : R a H) : wSq P (.ref a) H R := ⟨a, rfl, ⟨xs, c⟩, h⟩
theorem rd_wStr {z : Str} {R : Str → Hp → Prop} (h : R z H) : wStr (.str z) H R := ⟨z, rfl, h⟩
theorem lcJ (Wk : WalkOf J Rl xs) (Pv : Nat → Hp → Prop) (h0 : Pv 0 (upd H1 D (.lst []))) (hl : ∀ i H, i ≤ xs.length → Pv i H → Rl H)
    (hs : ∀ i x H, xs[i]? = some x → Pv i H → g x (wipe σ vs) H fun σ2 H2 => wipe σ2 vs = wipe σ vs ∧ tt σ2 H2 fun b H3 =>
      if b = true then te σ2 H3 fun y H4 => ∃ acc, H4 D = some (.lst acc) ∧ acc.length < sizeLine ∧ Pv (i + 1) (upd H4 D (.lst (acc ++ [y]))) else Pv (i + 1) H3)
    (hd : ∀ H, Pv xs.length H → Qd H) : LcJ J g tt te vs σ H1 D Qd := by
  refine ⟨fun i m H => m = xs.length - i ∧ i ≤ xs.length ∧ Pv i H, ⟨xs.length, rfl, Nat.zero_le _, h0⟩, ?_⟩
  intro i m H hW
  obtain ⟨em, hi, p⟩ := hW
  obtain ⟨w1, w2, w3⟩ := Wk H (hl i H hi p)
  by_cases hlt : i < xs.length
  · refine .inr ⟨w1 i hlt, Pv (i + 1), fun H' p' => ⟨xs.length - (i + 1), by omega, rfl, hlt, p'⟩, fun x H' y => ?_⟩
    obtain ⟨e, y⟩ := w2 i x H' hlt y
    rw [e]
    exact hs i x H y p
  · have e : i = xs.length := by omega
    rw [e] at p
    exact .inl ⟨w3 i (by omega), hd H p⟩
theorem frJ (Wk : WalkOf J Rl xs) (Pv : Nat → L2.St → Hp → Prop) (h0 : Pv 0 σ H) (hl : ∀ i σ H, i ≤ xs.length → Pv i σ H → Rl H)
    (hs : ∀ i x σ H, xs[i]? = some x → Pv i σ H → g x σ H fun σ2 H2 => tb ⟨Pv (i + 1), rt, nx, Pv (i + 1)⟩ σ2 H2)
    (hd : ∀ σ H, Pv xs.length σ H → nx σ H) : FrJ J g tb ⟨nx, rt, bk, ct⟩ σ H := by
  refine ⟨fun i m σ H => m = xs.length - i ∧ i ≤ xs.length ∧ Pv i σ H, ⟨xs.length, rfl, Nat.zero_le _, h0⟩, ?_⟩
  intro i m σ H hW
  obtain ⟨em, hi, p⟩ := hW
  obtain ⟨w1, w2, w3⟩ := Wk H (hl i σ H hi p)
  by_cases hlt : i < xs.length
  · refine .inr ⟨w1 i hlt, Pv (i + 1), fun σ' H' p' => ⟨xs.length - (i + 1), by omega, rfl, hlt, p'⟩, fun x H' y => ?_⟩
    obtain ⟨e, y⟩ := w2 i x H' hlt y
    rw [e]
    exact hs i x σ H y p
  · have e : i = xs.length := by omega
    rw [e] at p
    exact .inl ⟨w3 i (by omega), hd σ H p⟩
theorem lcM (Wk : WalkOf J Rl xs) (hR : ∀ H, Same H1 H → Rl H) (nD : H1 D = none) (hn : xs.length ≤ 1000000) (keep : V → Bool) (f : V → V)
    (hs : ∀ x ∈ xs, ∀ H, Same H1 H → wipe ((wipe σ vs).set j (some x)) vs = wipe σ vs ∧ (∀ B : Bool → Hp → Prop, (∀ H', Same H H' → B (keep x) H') → tt ((wipe σ vs).set j (some x)) H B) ∧
      (keep x = true → ∀ H' (R : VK), Same H H' → (∀ H'', Same H' H'' → R (f x) H'') → te ((wipe σ vs).set j (some x)) H' R))
    (hd : ∀ H', Same H1 H' → H' D = some (.lst ((xs.filter keep).map f)) → Qd H') : LcJ J (gName j) tt te vs σ H1 D Qd := by
  refine lcJ Wk (fun i H => Same H1 H ∧ H D = some (.lst (((xs.take i).filter keep).map f))) ⟨same_new nD, by rw [upd_same]; rfl⟩ (fun i H _ p => hR H p.1) (fun i x H hx p => ?_) (fun H p => ?_)
  · obtain ⟨sm, e⟩ := p
    obtain ⟨h1, h2, h3⟩ := hs x (List.mem_of_getElem? hx) H sm
    refine ⟨h1, h2 _ fun H' s2 => ?_⟩
    have et : xs.take (i + 1) = xs.take i ++ [x] := by rw [List.take_add_one, hx]; rfl
    have hk : ∀ b, keep x = b → if b = true then te ((wipe σ vs).set j (some x)) H' fun y H4 => ∃ acc, H4 D = some (.lst acc) ∧ acc.length < sizeLine ∧ (Same H1 (upd H4 D (.lst (acc ++ [y]))) ∧ (upd H4 D (.lst (acc ++ [y]))) D = some (.lst (((xs.take (i + 1)).filter keep).map f)))
        else (Same H1 H' ∧ H' D = some (.lst (((xs.take (i + 1)).filter keep).map f))) := fun b hb => by
      cases b with
      | true =>
        refine iteT (h3 hb H' _ s2 fun H'' s3 => ?_)
        have eD : H'' D = some _ := s3 _ _ (s2 _ _ e)
        refine ⟨_, eD, ?_, fun b o eb => ?_, ?_⟩
        · refine lt_line ?_
          rw [List.length_map]
          have q1 := List.length_filter_le keep (xs.take i)
          rw [List.length_take] at q1
          omega
        · rw [upd_ne (ne_of_none eb nD)]
          exact s3 _ _ (s2 _ _ (sm _ _ eb))
        · rw [upd_same, et, List.filter_append, List.map_append, List.filter_cons, hb]
          rfl
      | false =>
        refine iteF ⟨sm.trans s2, ?_⟩
        rw [et, List.filter_append, List.map_append, List.filter_cons, hb, s2 _ _ e]
        simp
    exact hk (keep x) rfl
  · rw [List.take_length] at p
    exact hd H p.1 p.2
theorem lcM1 (Wk : WalkOf J Rl xs) (hR : ∀ H, Same H1 H → Rl H) (nD : H1 D = none) (hn : xs.length ≤ 1000000) (f : V → V)
    (hs : ∀ x ∈ xs, ∀ H (R : VK), Same H1 H → (∀ H'', Same H H'' → R (f x) H'') → wipe ((wipe σ vs).set j (some x)) vs = wipe σ vs ∧ te ((wipe σ vs).set j (some x)) H R)
    (hd : ∀ H', Same H1 H' → H' D = some (.lst (xs.map f)) → Qd H') : LcJ J (gName j) tYes te vs σ H1 D Qd := by
  refine lcM Wk hR nD hn (fun _ => true) f (fun x hx H sm => ⟨(hs x hx H (fun _ _ => True) sm fun _ _ => trivial).1, fun B h => h H (Same.refl H), fun _ H' R s2 q => (hs x hx H' R (sm.trans s2) q).2⟩) (fun H' sm e => hd H' sm ?_)
  rw [e, List.filter_eq_self.mpr fun _ _ => rfl]
theorem pe_kS {X : Cx} {x z : Str} {p : Pos} (hg : Gl X x) (hm : ∃ t, X.mg x = some (.str z t)) (hd : (x == ("__debug__" : Str)) = false := by decide) : PE X (.Name x p) (tC (.str z)) := by
  obtain ⟨t, e⟩ := hm
  exact pe_glob hg e ⟨t, rfl⟩ hd
theorem pe_kI {X : Cx} {x : Str} {z : Int} {p : Pos} (hg : Gl X x) (hm : ∃ t, X.mg x = some (.int z t)) (hd : (x == ("__debug__" : Str)) = false := by decide) : PE X (.Name x p) (tC (.int z)) := by
  obtain ⟨t, e⟩ := hm
  exact pe_glob hg e ⟨t, rfl⟩ hd
theorem rd_gTup {v : Addr} {gs : TGs} {QG : L2.St → Hp → Prop} (c : SqT K H v xs) (e : xs.length = n) (h : gs xs σ H QG) : gTup K n gs (.ref v) σ H QG := ⟨v, xs, rfl, c, e, h⟩
theorem rd_gCons {v : V} {r : List V} {gs : TGs} {QG : L2.St → Hp → Prop} (h : g v σ H fun σ' H' => gs r σ' H' QG) : gCons g gs (v :: r) σ H QG := ⟨v, r, rfl, h⟩
theorem rd_gNil {QG : L2.St → Hp → Prop} (h : QG σ H) : gNil [] σ H QG := ⟨rfl, h⟩
theorem rd_tix {tb : TE} (h : ta σ H fun x H1 => ∃ (p : Addr) (ys : List Str), x = .ref p ∧ Tk H1 p (ys.map V.str) ∧ tb σ H1 fun y H2 => ∃ (z : Str) (j : Nat), y = .str z ∧ Tk H2 p (ys.map V.str) ∧
  ys[j]? = some z ∧ (∀ m, m < j → ys[m]? ≠ some z) ∧ Q (.int (j : Nat)) H2) : zTIx ta tb σ H Q := h
end
/-! ### beginnings -/
theorem starts_tl (x y : Str) : Txt.startswith x y = ((tl x).take y.length == tl y) := by
  unfold Txt.startswith
  rw [StrLaws.subAt_eq, List.drop_zero]
  by_cases h : ((tl x).take y.length == tl y) = true
  · have e : (tl x).take y.length = tl y := eq_of_beq h
    have l := congrArg List.length e
    rw [List.length_take, ← len_tl, ← len_tl] at l
    rw [h, Bool.and_true]
    exact decide_eq_true (by omega)
  · rw [Bool.not_eq_true] at h
    rw [h, Bool.and_false]
theorem tl_cutTo (x : Str) (k : Nat) : tl (cutS x none (some (k : Int))) = (tl x).take k := by
  unfold cutS
  rw [tl_mk, HT.sIx_nat, HT.sIx_none, Nat.sub_zero, List.drop_zero]
  have e : x.length = (tl x).length := len_tl x
  rw [e]
  by_cases h : k ≤ (tl x).length
  · rw [Nat.min_eq_left h]
  · rw [Nat.min_eq_right (by omega), List.take_of_length_le (Nat.le_refl _), List.take_of_length_le (by omega)]
theorem tl_cutFrom (x : Str) (k : Nat) : tl (cutS x (some (k : Int)) none) = (tl x).drop k := by
  unfold cutS
  rw [tl_mk, HT.sIx_nat, HT.sIx_none]
  have e : x.length = (tl x).length := len_tl x
  rw [e]
  by_cases h : k ≤ (tl x).length
  · rw [Nat.min_eq_left h]
    exact List.take_of_length_le (by rw [List.length_drop]; exact Nat.le_refl _)
  · rw [Nat.min_eq_right (by omega), Nat.sub_self, List.take_zero]
    exact (List.drop_of_length_le (by omega)).symm
theorem len_at : (Str.ofString "@").length = 1 := by rw [len_of]; rfl
theorem len_tr : (Str.ofString "Received: by ").length = 13 := by rw [len_of]; rfl
theorem len_rec : (Str.ofString "Recipient: ").length = 11 := by rw [len_of]; rfl
theorem len_rea : (Str.ofString "Reason: ").length = 8 := by rw [len_of]; rfl
theorem len_lt : (Str.ofString "<").length = 1 := by rw [len_of]; rfl
theorem len_gt : (Str.ofString ">").length = 1 := by rw [len_of]; rfl
theorem len_mk (l : List Nat) : (⟨l.toArray⟩ : Str).length = l.length := by rw [len_tl]
theorem len_1 (c : Nat) : (⟨#[c]⟩ : Str).length = 1 := rfl
theorem take_none {ls : List Str} {z : Str} (h : z ∉ ls) : ls.takeWhile (fun x => !decide (x = z)) = ls := by
  induction ls with
  | nil => rfl
  | cons x xs ih =>
    have hx : ¬ x = z := fun e => h (e ▸ List.mem_cons_self)
    rw [List.takeWhile_cons, decide_eq_false hx, Bool.not_false, if_pos rfl, ih fun m => h (List.mem_cons_of_mem _ m)]
theorem take_at {z : Str} : ∀ {ls : List Str}, z ∈ ls → ∃ j, j < ls.length ∧ ls[j]? = some z ∧ (∀ m, m < j → ls[m]? ≠ some z) ∧ ls.takeWhile (fun x => !decide (x = z)) = ls.take j
  | [], h => nomatch h
  | x :: xs, h => by
    by_cases e : x = z
    · refine ⟨0, Nat.succ_pos _, by rw [e]; rfl, fun m hm => absurd hm (Nat.not_lt_zero m), ?_⟩
      rw [List.takeWhile_cons, decide_eq_true e, Bool.not_true, if_neg Bool.false_ne_true, List.take_zero]
    · obtain ⟨j, h1, h2, h3, h4⟩ := take_at (ls := xs) (by
        rcases List.mem_cons.mp h with q | q
        · exact absurd q.symm e
        · exact q)
      refine ⟨j + 1, Nat.succ_lt_succ h1, h2, fun m hm => ?_, ?_⟩
      · cases m with
        | zero => exact fun q => e (Option.some.inj q)
        | succ m => exact h3 m (Nat.lt_of_succ_lt_succ hm)
      · rw [List.takeWhile_cons, decide_eq_false e, Bool.not_false, if_pos rfl, h4, List.take_succ_cons]
theorem rd_slTto {K : PySem.W.Frag} {p : Addr} {xs : List V} {k : Nat} {H : Hp} {Q : VK} (c : SqT K H p xs) (hk : k < xs.length) (h : ∀ q, H q = none → Q (.ref q) (upd H q (.tup (xs.take k)))) : rSlT K (.ref p) none (some (k : Int)) H Q := by
  refine ⟨p, xs, rfl, c, fun z => ?_, fun q n => ?_⟩
  · have z2 := z.2
    rw [HT.sIx_nat] at z2
    omega
  · have e : cutV xs none (some (k : Int)) = xs.take k := by
      unfold cutV
      rw [HT.sIx_nat, HT.sIx_none, Nat.sub_zero, List.drop_zero, Nat.min_eq_left (by omega)]
    rw [e]
    exact h q n
theorem same_tup {K : PySem.W.Frag} {H H' : Hp} {a : Addr} {xs : List V} (e : Same H H') (h : SqT K H a xs) : SqT K H' a xs := by
  rcases h with (h | ⟨o, h⟩) | h
  · exact .inl (.inl (e _ _ h))
  · exact .inl (.inr ⟨o, e _ _ h⟩)
  · exact .inr h
theorem rd_iNT {A B : Prop} (h : B) : if (!true) = true then A else B := iteF h
theorem rd_iNF {A B : Prop} (h : A) : if (!false) = true then A else B := iteT h
theorem k_str {mg : Str → Option Value} {x y z : Str} {t : Tok} (a : mg x = some (.str z t)) (e : z = y) : ∃ t, mg x = some (.str y t) := ⟨t, by rw [a, e]⟩
theorem k_int {mg : Str → Option Value} {x : Str} {y z : Int} {t : Tok} (a : mg x = some (.int z t)) (e : z = y) : ∃ t, mg x = some (.int y t) := ⟨t, by rw [a, e]⟩
/-! ### str.maketrans and translate -/
theorem va_app (k' k : Int) (v : Value) : ∀ kvs : List (Int × Value), (∀ kv ∈ kvs, kv.1 ≠ k) → valueAt (kvs ++ [(k, v)]) k' = if k' = k then some v else valueAt kvs k'
  | [], _ => by
    by_cases e : k' = k
    · simp [valueAt, e]
    · have e' : ¬ k = k' := fun q => e q.symm
      simp [valueAt, e, e']
  | kv :: r, h => by
    have ih := va_app k' k v r fun x hx => h x (List.mem_cons_of_mem _ hx)
    unfold valueAt at ih ⊢
    rw [List.cons_append, List.find?_cons, List.find?_cons]
    by_cases e : kv.1 = k'
    · have ne : ¬ k' = k := fun q => h kv List.mem_cons_self (e.trans q)
      rw [decide_eq_true e, if_neg ne]
    · rw [decide_eq_false e]
      exact ih
def Tab (ps : List (Nat × Nat)) (kvs : List (Int × Value)) : Prop := ∀ c : Nat, match ps.lookup c with
  | some d => ∃ t, valueAt kvs (c : Int) = some (.int (d : Int) t)
  | none => valueAt kvs (c : Int) = none
section
variable {prog : Program} {w : World} {A : Around} {E : Value → Shared → Prop} {s : Shared}
theorem mt_run {a b : Str} {t u : Tok} {Q : Value → Shared → Prop} (hl : a.length = b.length) (hz : a.length ≤ 1000) (nd : ((tl a).zip (tl b)).Pairwise fun p q => p.1 ≠ q.1)
    (h : ∀ h' k kvs, h'.DictOf (intKind prog w) s.heap.objs.size kvs → Tab ((tl a).zip (tl b)).reverse kvs → (∀ b o, s.heap.get? b = some o → h'.get? b = some o) → Q (.ref s.heap.objs.size) { s with heap := h', toks := k }) :
    wpAny (model prog w) A (Builtin.«str.maketrans» ⟨[.str a t, .str b u], []⟩) (fun fin s' => ∃ v, fin = .done (.ret v) ∧ Q v s') E s := by
  unfold Builtin.«str.maketrans»
  refine wpAny_bind (wpAny_of_eq (a := ()) (by first | rfl | kernel_rfl) ?_)
  refine wpAny_bind (wpAny_of_eq (a := ()) (by first | rfl | kernel_rfl) ?_)
  refine wpAny_bind (wpAny_of_eq (a := some b) (by first | rfl | kernel_rfl) ?_)
  refine wpAny_bind (wpAny_of_eq (a := none) (by first | rfl | kernel_rfl) ?_)
  refine wpAny_bind (wpAny_newObj_type ?_)
  dsimp only
  refine wpAny_bind (wpAny_holding ?_)
  refine wpAny_bind (wpAny_of_eq (a := some a) rfl ?_)
  dsimp only
  rw [show (a.length != b.length) = false by rw [hl]; simp, if_neg Bool.false_ne_true]
  refine wpAny_bind (wpAny_forIn_list _ (fun rest _ s' => ∃ past h' k kvs, (tl a).zip (tl b) = past ++ rest ∧ kvs.length ≤ past.length ∧ (∀ kv ∈ kvs, ∃ p ∈ past, kv.1 = (p.1 : Int)) ∧ h'.DictOf (intKind prog w) s.heap.objs.size kvs ∧ Tab past.reverse kvs ∧
    (∀ b o, s.heap.get? b = some o → h'.get? b = some o) ∧ s' = { s with heap := h', toks := k }) _ ?turn ?fin _ _ ?start)
  case start =>
    refine ⟨[], s.heap.push { cls := .type "dict", data := .dict #[] }, s.toks, [], rfl, Nat.zero_le _, fun _ hk => (nomatch hk), ?_, fun c => rfl, fun b o e => Heap.get?_push_of_some _ e, rfl⟩
    exact Heap.DictOf.new (knd := intKind prog w) s.heap
  case turn =>
    rintro ⟨x, y⟩ rest _ s' ⟨past, h', k, kvs, e1, e2, e3, e4, e5, e6, rfl⟩
    dsimp only
    refine wpAny_bind (wpAny_mkInt (wpAny_bind (wpAny_mkInt (wpAny_bind (wpAny_dictSet_pairs (knd := intKind prog w) (k := (x : Int)) (intKind_is prog w _ _) e4 (fun h2 hd hsb => wpAny_pure ?_) ?_)))))
    · have no : ∀ kv ∈ kvs, kv.1 ≠ (x : Int) := fun kv hkv e => by
        obtain ⟨p, hp, e'⟩ := e3 kv hkv
        rw [e1] at nd
        have := (List.pairwise_append.mp nd).2.2 p hp (x, y) List.mem_cons_self
        exact this (by
          have e2 : p.1 = x := by omega
          exact e2)
      have est : stored kvs (x : Int) (.int (y : Int) (k + 1)) = kvs ++ [((x : Int), .int (y : Int) (k + 1))] := by
        unfold stored
        rw [if_neg]
        intro hh
        obtain ⟨kv, hkv, e⟩ := List.any_eq_true.mp hh
        exact no kv hkv (of_decide_eq_true e)
      rw [est] at hd
      refine ⟨past ++ [(x, y)], h2, _, _, by rw [e1, List.append_assoc]; rfl, by rw [List.length_append, List.length_append]; exact Nat.succ_le_succ e2, fun kv hkv => ?_, hd, fun c => ?_, fun b o e => ?_, rfl⟩
      · rcases List.mem_append.mp hkv with q | q
        · obtain ⟨p, hp, e'⟩ := e3 kv q
          exact ⟨p, List.mem_append_left _ hp, e'⟩
        · exact ⟨(x, y), List.mem_append_right _ List.mem_cons_self, by rw [List.mem_singleton.mp q]⟩
      · rw [List.reverse_append]
        have t5 := e5 c
        show match List.lookup c ((x, y) :: past.reverse) with | some d => _ | none => _
        rw [List.lookup_cons, va_app _ _ _ _ no]
        by_cases e : c = x
        · rw [e, beq_self_eq_true, if_pos rfl]
          exact ⟨_, rfl⟩
        · have ec : (c == x) = false := beq_eq_false_iff_ne.mpr e
          rw [ec, if_neg (show ¬ (c : Int) = (x : Int) by omega)]
          exact t5
      · have nb : b ≠ s.heap.objs.size := fun q => by
          rw [q, Heap.get?_none_of_le (Nat.le_refl _)] at e
          cases e
        exact (hsb.2 b nb).trans (e6 b o e)
    · have hlen := congrArg List.length e1
      rw [List.length_zip, List.length_append, ← len_tl, ← len_tl] at hlen
      exact line_of (by omega)
  case fin =>
    rintro _ s' ⟨past, h', k, kvs, e1, e2, e3, e4, e5, e6, rfl⟩
    rw [List.append_nil] at e1
    refine wpAny_bind ?_
    refine wpAny_of_eq (a := PUnit.unit) (by first | rfl | kernel_rfl) ?_
    refine wpAny_pure ?_
    refine wpAny_pure ⟨_, rfl, ?_⟩
    rw [← e1] at e5
    exact h h' k kvs e4 e5 e6
theorem mt_entry : entryFor table "str.maketrans" = some Builtin.«str.maketrans» := entryFor_of_tree (by kernel_rfl)
theorem mt_plain : plainId "str.maketrans" = true := by decide +kernel
theorem mt_check {x y : Value} : checkBuiltinCall "str.maketrans" ⟨[x, y], []⟩ = pure () := by first | kernel_rfl | rfl
theorem call_mt {a b : Str} {t u : Tok} {Q : Value → Shared → Prop} (hl : a.length = b.length) (hz : a.length ≤ 1000) (nd : ((tl a).zip (tl b)).Pairwise fun p q => p.1 ≠ q.1)
    (h : ∀ h' k kvs, h'.DictOf (intKind prog w) s.heap.objs.size kvs → Tab ((tl a).zip (tl b)).reverse kvs → (∀ b o, s.heap.get? b = some o → h'.get? b = some o) → Q (.ref s.heap.objs.size) { s with heap := h', toks := k }) :
    wpAny (model prog w) A (call (.builtin "str.maketrans") [.str a t, .str b u]) Q E s := by
  refine wpAny_call (codeAny_call_builtin mt_plain mt_entry (wpAny_of_eq mt_check ?_))
  refine wpAny_mono (mt_run hl hz nd h) (fun fin s' hf => ?_) fun _ _ x => x
  obtain ⟨v, rfl, q⟩ := hf
  exact q
theorem cls_mt (K : PySem.W.Frag) : PySem.W.findCls K (.type "str") (.type "type") (Str.ofString "maketrans") = some (.val (.builtin "str.maketrans")) := by first | kernel_rfl | rfl
theorem get_mt {K : PySem.W.Frag} {pl : Sem Bool} {Q : Value × List Value → Shared → Prop} (X : K.In s.heap) (h : Q (.builtin "str.maketrans", []) { s with toks := s.toks + 1 }) :
    wpAny (model prog w) A (getMethod (.type "str") (Str.ofString "maketrans") pl) Q E s := by
  have h0 : opaqueClassAbove (.type "str") = pure none := by
    unfold opaqueClassAbove
    dsimp only
    rw [show Manifest.isStub "str" = false by decide +kernel]
    all_goals rfl
  have h1 : typeOf (.type "str") = pure (.type "type") := by first | rfl | kernel_rfl
  have hg : PySem.W.findIn K (.type "type") "__getattribute__" = some (some (.builtin "type.__getattribute__")) := PySem.W.type_tga
  unfold getMethod specialOf
  refine wpAny_bind (wpAny_bind ((PySem.W.Looks.of_pure h1).here ((PySem.W.looks_findIn X hg).here ?_)))
  dsimp only
  rw [if_pos PySem.W.canon_tga]
  refine wpAny_bind (wpAny_mono (Q := fun v => Q (v, [])) (E := E) ?_ (fun _ _ z => wpAny_pure z) fun _ _ z => z)
  refine PySem.W.cls_open X (PySem.W.Looks.of_pure h0) (PySem.W.Looks.of_pure h1) hg (PySem.W.looks_hook X (r := none) (by rfl)) (by show PySem.W.subIn K _ _ = _; rfl) (cls_mt K) ?_
  exact wpAny_pure (wpAny_pure h)
def mapd (ps : List (Nat × Nat)) (c : Nat) : Builtin.Str.Mapped := match ps.lookup c with
  | some e => .char e
  | none => .keep
def tr1 (ps : List (Nat × Nat)) (c : Nat) : Nat := (ps.lookup c).getD c
theorem look_one {d : Addr} {c : Nat} {ps : List (Nat × Nat)} {kvs : List (Int × Value)} {Q : Builtin.Str.Mapped → Shared → Prop} (hh : A.handled = none) (hd : (d == sysModules) = false) (hm : s.heap.DictOf (intKind prog w) d kvs) (hk : Tab ps kvs) (hb : ∀ e, ps.lookup c = some e → e < 128)
    (h : ∀ h' k, (∀ b o, s.heap.get? b = some o → h'.get? b = some o) → Q (mapd ps c) { s with heap := h', toks := k }) : wpAny (model prog w) A (Builtin.Str.tableLookup (.ref d) c) Q E s := by
  unfold Builtin.Str.tableLookup
  refine wpAny_bind (wpAny_attempt (wpAny_bind (wpAny_mkInt ?_)))
  have hc := hk c
  unfold mapd at h
  cases el : ps.lookup c with
  | some e =>
    rw [el] at hc h
    obtain ⟨t, hv⟩ := hc
    have he := hb e el
    refine wpAny_getItem_of (knd := intKind prog w) (k := (c : Int)) (intKind_is prog w _ _) hm.mapOf hv ?_
    dsimp only
    refine wpAny_bind (wpAny_of_eq (a := some (e : Int)) rfl ?_)
    dsimp only
    rw [if_neg (by
      rw [Bool.or_eq_true, decide_eq_true_iff, decide_eq_true_iff]
      omega)]
    exact wpAny_pure (h s.heap _ fun _ _ q => q)
  | none =>
    rw [el] at hc h
    refine wpAny_getItem_missing_of (knd := intKind prog w) (k := (c : Int)) (intKind_is prog w _ _) hd hh hm.mapOf hc fun h' e hx => ?_
    obtain ⟨ob, t, ho, hcl, _⟩ := hx.there
    dsimp only
    refine wpAny_bind (wpAny_isInstance (T := "KeyError") (b := true) ⟨ob, ho, hcl⟩ (by first | rfl | kernel_rfl) ?_)
    rw [if_pos rfl]
    exact wpAny_bind (wpAny_rule (wpAny_pure (h h' _ hx.keeps)))
end
theorem glue (f : Nat → Nat) : ∀ (l : List Nat) (acc : Array Nat), List.foldl (fun acc (p : Str) => acc ++ p.cps) acc (l.map fun c => (⟨#[f c]⟩ : Str)) = acc ++ (l.map f).toArray
  | [], acc => (Array.append_empty).symm
  | c :: l, acc => by
    rw [List.map_cons, List.foldl_cons, glue f l]
    apply Array.toList_inj.mp
    simp
def TrI (ps : List (Nat × Nat)) (x : List Nat) (f0 : Bool) (s : Shared) (rest : List Nat) (st : List Str × Nat × Bool × List (Nat × Option Nat) × Bool) (s' : Shared) : Prop :=
  ∃ (past : List Nat) (out : List Str) (kn : List (Nat × Option Nat)) (h' : Heap) (k : Nat), x = past ++ rest ∧ st = (out, past.length, f0, kn, false) ∧ out.reverse = past.map (fun c => (⟨#[tr1 ps c]⟩ : Str)) ∧
    (∀ c v, List.lookup c kn = some v → v = some (tr1 ps c)) ∧ s' = { s with heap := h', toks := k } ∧ ∀ b o, s.heap.get? b = some o → h'.get? b = some o
theorem TrI.go {ps : List (Nat × Nat)} {x rest past : List Nat} {f0 : Bool} {s : Shared} {c e : Nat} {out : List Str} {kn : List (Nat × Option Nat)} {h' : Heap} {k : Nat} (h1 : x = past ++ c :: rest) (he : e = tr1 ps c)
    (h3 : out.reverse = past.map (fun c => (⟨#[tr1 ps c]⟩ : Str))) (h4 : ∀ c v, List.lookup c kn = some v → v = some (tr1 ps c)) (h6 : ∀ b o, s.heap.get? b = some o → h'.get? b = some o) :
    TrI ps x f0 s rest (⟨#[e]⟩ :: out, past.length + 1, f0, kn, false) { s with heap := h', toks := k } := by
  refine ⟨past ++ [c], ⟨#[e]⟩ :: out, kn, h', k, by rw [h1, List.append_assoc]; rfl, by rw [List.length_append]; rfl, ?_, h4, rfl, h6⟩
  rw [List.reverse_cons, h3, List.map_append, he]
  rfl
theorem tr_run {prog : Program} {w : World} {A : Around} {E : Value → Shared → Prop} {s : Shared} {z : Str} {t : Tok} {d : Addr} {ps : List (Nat × Nat)} {kvs : List (Int × Value)} {Q : Value → Shared → Prop} (hh : A.handled = none) (hd : (d == sysModules) = false) (hz : z.length ≤ 100000)
    (hm : s.heap.DictOf (intKind prog w) d kvs) (hk : Tab ps kvs) (hb : ∀ c e, ps.lookup c = some e → e < 128)
    (h : ∀ h' k t', (∀ b o, s.heap.get? b = some o → h'.get? b = some o) → Q (.str ⟨((tl z).map (tr1 ps)).toArray⟩ t') { s with heap := h', toks := k }) :
    wpAny (model prog w) A (Builtin.«str.translate» ⟨[.str z t, .ref d], []⟩) (fun fin s' => ∃ v, fin = .done (.ret v) ∧ Q v s') E s := by
  unfold Builtin.«str.translate»
  refine wpAny_bind (wpAny_of_eq (a := (.str z t, z, .ref d)) (by first | rfl | kernel_rfl) ?_)
  dsimp only
  by_cases h0 : (z.length == 0) = true
  · rw [if_pos h0]
    have ez : tl z = [] := List.eq_nil_of_length_eq_zero (by rw [← len_tl]; exact eq_of_beq h0)
    have ez2 : z = ⟨((tl z).map (tr1 ps)).toArray⟩ := ext_tl (by
      show tl z = (tl z).map (tr1 ps)
      rw [ez]
      rfl)
    refine wpAny_bind (wpAny_rule ?_)
    refine wpAny_bind (wpAny_of_eq (a := .str z t) (by first | rfl | kernel_rfl) ?_)
    refine wpAny_pure ⟨_, rfl, ?_⟩
    have q := h s.heap s.toks t fun _ _ q => q
    rw [← ez2] at q
    exact q
  · rw [if_neg h0]
    generalize (z.cps.all fun y => decide (y < 128)) = f0
    refine wpAny_bind (MeetsSeq2.wpAny_forIn_array _ (TrI ps (tl z) f0 s) _ (fun c rest st s' hI => ?turn) (fun st s' hI => ?fin) z.cps ([], 0, f0, [], false) ?start)
    case start => exact ⟨[], [], [], s.heap, s.toks, rfl, rfl, rfl, fun c v q => (nomatch q), rfl, fun _ _ q => q⟩
    case turn =>
      obtain ⟨past, out, kn, h', k, e1, rfl, e3, e4, rfl, e6⟩ := hI
      have hp : past.length ≤ 100000 := by
        have q := congrArg List.length e1
        rw [List.length_append, ← len_tl] at q
        omega
      have hm' : Heap.DictOf (intKind prog w) h' d kvs := hm.keep e6
      dsimp only
      rw [show Builtin.Str.tooLong past.length = false from PyProof.Rows.short24 (by omega), if_neg Bool.false_ne_true]
      have lk : ∀ (kk : Nat) (R : Builtin.Str.Mapped → Shared → Prop), (∀ h2 k2, (∀ b o, s.heap.get? b = some o → h2.get? b = some o) → R (mapd ps c) { s with heap := h2, toks := k2 }) →
          wpAny (model prog w) A (Builtin.Str.tableLookup (.ref d) c) R E { s with heap := h', toks := k } := fun kk R hR =>
        look_one hh hd hm' hk (hb c) fun h2 k2 q => hR h2 k2 fun b o e => q b o (e6 b o e)
      have new : ∀ v, v = some (tr1 ps c) → ∀ c' v', List.lookup c' ((c, v) :: kn) = some v' → v' = some (tr1 ps c') := fun v hv c' v' q => by
        rw [List.lookup_cons] at q
        by_cases e : c' = c
        · rw [e, beq_self_eq_true] at q
          rw [← Option.some.inj q, hv, e]
        · rw [beq_eq_false_iff_ne.mpr e] at q
          exact e4 c' v' q
      cases f0 with
      | true =>
        rw [if_pos rfl]
        cases hl : List.lookup c kn with
        | some v =>
          have hv := e4 c v hl
          subst hv
          dsimp only
          refine wpAny_bind (wpAny_pure ?_)
          exact wpAny_pure (TrI.go e1 rfl e3 e4 e6)
        | none =>
          dsimp only
          cases el : ps.lookup c with
          | some e =>
            have et : e = tr1 ps c := by unfold tr1; rw [el]; rfl
            have eb := hb c e el
            refine wpAny_bind (lk k _ fun h2 k2 q => ?_)
            rw [show mapd ps c = .char e by unfold mapd; rw [el]]
            dsimp only
            rw [if_pos eb]
            dsimp only
            refine wpAny_bind (wpAny_pure ?_)
            exact wpAny_pure (TrI.go e1 et e3 (new _ (by rw [et])) q)
          | none =>
            have et : c = tr1 ps c := by unfold tr1; rw [el]; rfl
            refine wpAny_bind (lk k _ fun h2 k2 q => ?_)
            rw [show mapd ps c = .keep by unfold mapd; rw [el]]
            dsimp only
            refine wpAny_bind (wpAny_pure ?_)
            exact wpAny_pure (TrI.go e1 et e3 (new _ (by rw [← et])) q)
      | false =>
        rw [if_neg Bool.false_ne_true, if_neg Bool.false_ne_true]
        cases el : ps.lookup c with
        | some e =>
          have et : e = tr1 ps c := by unfold tr1; rw [el]; rfl
          refine wpAny_bind (lk k _ fun h2 k2 q => ?_)
          rw [show mapd ps c = .char e by unfold mapd; rw [el]]
          exact wpAny_pure (TrI.go e1 et e3 e4 q)
        | none =>
          have et : c = tr1 ps c := by unfold tr1; rw [el]; rfl
          refine wpAny_bind (lk k _ fun h2 k2 q => ?_)
          rw [show mapd ps c = .keep by unfold mapd; rw [el]]
          exact wpAny_pure (TrI.go e1 et e3 e4 q)
    case fin =>
      obtain ⟨past, out, kn, h', k, e1, rfl, e3, e4, rfl, e6⟩ := hI
      rw [List.append_nil] at e1
      have hp : past.length ≤ 100000 := by
        have q := congrArg List.length e1
        rw [← len_tl] at q
        omega
      dsimp only
      rw [show Builtin.Str.tooLong past.length = false from PyProof.Rows.short24 (by omega), if_neg Bool.false_ne_true, e3, glue (tr1 ps), Array.empty_append, ← e1]
      refine wpAny_bind (wpAny_mkStr (wpAny_pure ⟨_, rfl, h _ _ _ e6⟩) ?_)
      rw [len_tl, tl_mk, List.length_map, ← len_tl]
      exact line_of (by omega)
def TabO (prog : Program) (w : World) (ps : List (Nat × Nat)) (p : Addr) : HO := .ext fun h => (p == sysModules) = false ∧ ∃ kvs, h.DictOf (intKind prog w) p kvs ∧ Tab ps kvs
section
variable {X : Cx}
def zMk (P : Program) (w : World) (ps : List (Nat × Nat)) : TE := fun _ H Q => ∀ p, H p = none → Q (.ref p) (upd H p (TabO P w ps p))
theorem y_mk {a b : Str} {p apos pos p1 p2 : Pos} {j1 j2} {pl : Sem Bool} (hg : Gl X "str") (hm : X.mg "str" = none) (hl : a.length = b.length) (hz : a.length ≤ 1000) (nd : ((tl a).zip (tl b)).Pairwise fun p q => p.1 ≠ q.1)
    (he : eval (.Call (.Attribute (.Name "str" p) "maketrans" apos) [.Constant (.str a) j1 p1, .Constant (.str b) j2 p2] [] pos) X.env = (do
      let ov ← eval (.Name "str" p) X.env
      standAt apos.atName
      let (f, first) ← holding [ov] (getMethod ov "maketrans" pl)
      callWith pos f first (backTo pos (starEach [.Constant (.str a) j1 p1, .Constant (.str b) j2 p2] X.env)) (backToKw pos (keywordEach [] X.env))) := by rfl)
    (hpl : (backTo pos (starEach [.Constant (.str a) j1 p1, .Constant (.str b) j2 p2] X.env)).any (·.1) = false := by rfl) :
    PE X (.Call (.Attribute (.Name "str" p) "maketrans" apos) [.Constant (.str a) j1 p1, .Constant (.str b) j2 p2] [] pos) (zMk X.prog X.w ((tl a).zip (tl b)).reverse) := by
  refine ⟨fun pins s σ H Q I h => ?_⟩
  refine PySem.W.methodCall_KW (ld_blt I hg hm PyProof.Rows.boot_str ?_ (by decide) (by decide)) he
  refine get_mt I.kIn ?_
  have I1 : Inv X pins σ H { s with toks := s.toks + 1 } := I.tok _
  have ha : PA X [.Constant (.str a) j1 p1, .Constant (.str b) j2 p2] (tCons (tC (.str a)) (tCons (tC (.str b)) tNil)) := pa_cons pe_str (pa_cons pe_str pa_nil)
  refine Calls.callWith_builtin hpl (Calls.evalArgs_plain ?_)
  refine thn (ha.run pos pins _ σ H (fun vs H' => vs = [.str a, .str b] ∧ H' = H) I1 ⟨rfl, rfl⟩) fun us s2 ⟨vs, H2, I2, rv, ev, eh⟩ => ?_
  subst ev eh
  obtain ⟨u1, u2, rfl, ⟨t1, rfl⟩, ⟨t2, rfl⟩⟩ := rv.two
  refine call_mt hl hz nd fun h' k kvs hd ht kp => ?_
  have hsys : (s2.heap.objs.size == sysModules) = false := beq_eq_false_iff_ne.mpr (Ne.symm (Nat.ne_of_lt I2.big))
  refine ⟨.ref s2.heap.objs.size, _, I2.laid (t' := k) (o := TabO X.prog X.w ((tl a).zip (tl b)).reverse s2.heap.objs.size) kp (Nat.le_refl _) ?_, rfl, h _ I2.fresh⟩
  refine ⟨⟨hsys, kvs, hd, ht⟩, ?_, fun h1 h2 f1 kk => ?_⟩
  · obtain ⟨o, es, ep, ho, _⟩ := hd
    exact ⟨o, ho⟩
  · obtain ⟨g1, kvs', ⟨o, es, ep, ho, r⟩, g3⟩ := f1
    exact ⟨g1, kvs', ⟨o, es, ep, kk _ ho, r⟩, g3⟩
def zTr (P : Program) (w : World) : V → List V → Hp → VK → Prop := fun x xs H Q => ∃ (z : Str) (d : Addr) (ps : List (Nat × Nat)), x = .str z ∧ xs = [V.ref d] ∧ H d = some (TabO P w ps d) ∧ z.length ≤ 100000 ∧ (∀ c e, ps.lookup c = some e → e < 128) ∧ Q (.str ⟨((tl z).map (tr1 ps)).toArray⟩) H
theorem y_trans (hc : X.calm = true) : MtR X "str.translate" (zTr X.prog X.w) := by
  intro pins s σ H x xs v us Q I rx rs h
  obtain ⟨z, d, ps, rfl, rfl, ht, hz, hb, q⟩ := h
  obtain ⟨t, rfl⟩ := rx
  obtain ⟨u, rfl, ru⟩ := Vals.one rs
  cases ru
  obtain ⟨⟨hsys, kvs, hd, htab⟩, _⟩ := I.hok d _ ht
  refine wpAny_call_entry F.slot_str_translate (typeIs_str _ _ _) F.entry_str_translate ?_ (F.args_str_translate_2 _ _)
  refine tr_run (I.ok.hd hc) hsys hz hd htab hb fun h' k t' kp => ?_
  exact ⟨.str _, H, I.kept (t' := k) kp, ⟨t', rfl⟩, q⟩
end
/-! ### addresses on lists of signs -/
noncomputable def dc (P : Prop) : Bool := @decide P (Classical.propDecidable P)
theorem dc_iff {P : Prop} : dc P = true ↔ P := by
  unfold dc
  exact @decide_eq_true_iff P (Classical.propDecidable P)
theorem dc_of {P : Prop} {b : Bool} (h : b = true ↔ P) : b = dc P := Bool.eq_iff_iff.mpr (h.trans dc_iff.symm)
theorem dc_t {P : Prop} (h : P) : dc P = true := dc_iff.mpr h
theorem dc_f {P : Prop} (h : ¬ P) : dc P = false := by
  cases e : dc P with
  | false => rfl
  | true => exact absurd (dc_iff.mp e) h
abbrev locS : Str := Str.ofString "abcdefghijklmnopqrstuvwxyz0123456789.-_+"
abbrev labS : Str := Str.ofString "abcdefghijklmnopqrstuvwxyz0123456789-"
abbrev upS : Str := Str.ofString "ABCDEFGHIJKLMNOPQRSTUVWXYZ"
abbrev loS : Str := Str.ofString "abcdefghijklmnopqrstuvwxyz"
def DD (l : List Nat) : Prop := ∃ i : Nat, l[i]? = some 46 ∧ l[i + 1]? = some 46
def ConsOk (S : List Nat) (n : Nat) (l : List Nat) : Prop := 1 ≤ l.length ∧ l.length ≤ n ∧ ∀ c ∈ l, c ∈ S
def LabelOk (l : List Nat) : Prop := ConsOk (tl labS) 20 l ∧ l.head? ≠ some 45 ∧ l.getLast? ≠ some 45
def LocalOk (l : List Nat) : Prop := ConsOk (tl locS) 40 l ∧ l.head? ≠ some 46 ∧ l.getLast? ≠ some 46 ∧ ¬ DD l
def DomOk (l : List Nat) : Prop := l.length ≤ 80 ∧ ∀ p ∈ spl [46] 0 [] l, LabelOk p
theorem starts_one {x y : Str} {c : Nat} (hy : tl y = [c]) : Txt.startswith x y = decide ((tl x).head? = some c) := by
  rw [starts_tl, len_tl y, hy]
  cases tl x with
  | nil => rfl
  | cons a r =>
    by_cases e : a = c
    · simp [e]
    · simp [e]
theorem ends_one {x y : Str} {c : Nat} (hy : tl y = [c]) : Txt.endswith x y = decide ((tl x).getLast? = some c) := by
  unfold Txt.endswith
  rw [StrLaws.subAt_eq]
  show (decide (0 + y.length ≤ x.length) && (((tl x).drop (x.length - y.length)).take y.length == tl y)) = _
  rw [len_tl y, hy, len_tl x]
  show (decide (0 + 1 ≤ (tl x).length) && (((tl x).drop ((tl x).length - 1)).take 1 == [c])) = _
  rcases List.eq_nil_or_concat (tl x) with e | ⟨l, a, e⟩
  · rw [e]
    rfl
  · have e' : tl x = l ++ [a] := by rw [e]; simp
    rw [e', List.length_append, show l.length + [a].length - 1 = l.length from rfl, List.drop_left, List.getLast?_append]
    by_cases h : a = c
    · simp [h]
    · simp [h]
theorem dd_in {z y : Str} (hy : tl y = [46, 46]) : (!(Builtin.Str.occurrences z y 0 z.length 1).isEmpty) = true ↔ DD (tl z) := by
  rw [StrLaws.found_iff]
  have ly : y.length = 2 := by rw [len_tl, hy]; rfl
  constructor
  · rintro ⟨i, h1, h2⟩
    rw [StrLaws.subAt_eq, ly, beq_iff_eq] at h2
    have h3 : ((tl z).drop i).take 2 = [46, 46] := h2.trans hy
    rw [ly, len_tl] at h1
    refine ⟨i, ?_, ?_⟩
    · have q := congrArg (fun l => l[0]?) h3
      simp only [List.getElem?_take, List.getElem?_drop] at q
      simpa using q
    · have q := congrArg (fun l => l[1]?) h3
      simp only [List.getElem?_take, List.getElem?_drop] at q
      simpa using q
  · rintro ⟨i, h1, h2⟩
    obtain ⟨l1, g1⟩ := List.getElem?_eq_some_iff.mp h1
    obtain ⟨l2, g2⟩ := List.getElem?_eq_some_iff.mp h2
    refine ⟨i, by rw [ly, len_tl]; omega, ?_⟩
    rw [StrLaws.subAt_eq, ly, beq_iff_eq]
    show ((tl z).drop i).take 2 = tl y
    rw [hy, List.drop_eq_getElem_cons l1, List.drop_eq_getElem_cons l2, g1, g2]
    rfl
theorem rs_id {x y : Str} {l : List Nat} {c : Nat} (e : tl x = l ++ [c]) (h : y.cps.contains c = false) : Txt.rstripChars x y = x := by
  unfold Txt.rstripChars Txt.stripBy
  refine if_pos ?_
  unfold stripSame stripHi stripLo
  have e1 : ((x.cps.toList.drop 0).reverse.takeWhile y.cps.contains) = [] := by
    rw [List.drop_zero, show x.cps.toList = l ++ [c] from e, List.reverse_append]
    show List.takeWhile y.cps.contains (c :: l.reverse) = []
    rw [List.takeWhile_cons, h]
    rfl
  simp only [Bool.false_eq_true, if_false, if_true]
  rw [e1]
  simp
theorem cut_id {x : Str} {n : Nat} (h : x.length ≤ n) : cutS x none (some (n : Int)) = x := ext_tl (by
  rw [tl_cutTo]
  exact List.take_of_length_le (by rw [← len_tl]; exact h))
theorem tl_up : tl upS = (List.range 26).map (· + 65) := by rw [tl_ofString]; rfl
theorem tl_lo : tl loS = (List.range 26).map (· + 97) := by rw [tl_ofString]; rfl
def upL : List (Nat × Nat) := ((tl upS).zip (tl loS)).reverse
def upK : List (Nat × Nat) := (((List.range 26).map (· + 65)).zip ((List.range 26).map (· + 97))).reverse
theorem upL_eq : upL = upK := by unfold upL upK; rw [tl_up, tl_lo]
theorem up_len : upS.length = loS.length := by rw [len_tl, len_tl, tl_up, tl_lo]; rfl
theorem up_le : upS.length ≤ 1000 := by rw [len_tl, tl_up]; decide
theorem up_nd : ((tl upS).zip (tl loS)).Pairwise fun p q => p.1 ≠ q.1 := by rw [tl_up, tl_lo]; decide
theorem up_b : ∀ c e, upL.lookup c = some e → e < 128 := by
  rw [upL_eq]
  intro c e h
  have hm : ∀ p ∈ upK, p.2 < 128 := by decide
  have gen : ∀ l : List (Nat × Nat), (∀ p ∈ l, p.2 < 128) → l.lookup c = some e → e < 128 := by
    intro l
    induction l with
    | nil => intro _ h; cases h
    | cons p r ih =>
      intro hp h
      obtain ⟨a, b⟩ := p
      rw [List.lookup_cons] at h
      by_cases q : c = a
      · rw [q, beq_self_eq_true] at h
        cases h
        exact hp _ List.mem_cons_self
      · rw [beq_eq_false_iff_ne.mpr q] at h
        exact ih (fun p hp' => hp p (List.mem_cons_of_mem _ hp')) h
  exact gen upK hm h
def lowN (c : Nat) : Nat := if 65 ≤ c ∧ c ≤ 90 then c + 32 else c
theorem low_k : (List.range 128).all (fun c => tr1 upK c == lowN c) = true := by decide +kernel
theorem low_eq {c : Nat} (h : c < 128) : tr1 upL c = lowN c := by
  rw [upL_eq]
  exact eq_of_beq (List.all_eq_true.mp low_k c (List.mem_range.mpr h))
theorem upper_k : (List.range 128).all (fun c => (decide (65 ≤ c) && decide (c ≤ 90)) || (match (Txt.upper ⟨#[c]⟩).cps.toList with | [e] => decide (e < 128) && lowN e == c | _ => false)) = true := by decide +kernel
theorem upper_eq {c : Nat} (h : c < 128) (h2 : ¬ (65 ≤ c ∧ c ≤ 90)) : ∃ e, Txt.upper ⟨#[c]⟩ = ⟨#[e]⟩ ∧ e < 128 ∧ lowN e = c := by
  have q := List.all_eq_true.mp upper_k c (List.mem_range.mpr h)
  have h3 : (decide (65 ≤ c) && decide (c ≤ 90)) = false := by
    cases e : (decide (65 ≤ c) && decide (c ≤ 90)) with
    | false => rfl
    | true =>
      rw [Bool.and_eq_true, decide_eq_true_iff, decide_eq_true_iff] at e
      exact absurd e h2
  rw [h3, Bool.false_or] at q
  cases e : (Txt.upper ⟨#[c]⟩).cps.toList with
  | nil => rw [e] at q; cases q
  | cons a r =>
    cases r with
    | cons b r => rw [e] at q; cases q
    | nil =>
      rw [e] at q
      dsimp only at q
      rw [Bool.and_eq_true, decide_eq_true_iff, beq_iff_eq] at q
      exact ⟨a, ext_tl e, q.1, q.2⟩
theorem low_low {c : Nat} (h2 : ¬ (65 ≤ c ∧ c ≤ 90)) : lowN c = c := if_neg h2
abbrev enS : Str := Str.ofString "abcdefghijklmnopqrstuvwxyz0123456789-_+"
abbrev en2S : Str := Str.ofString "abcdefghijklmnopqrstuvwxyz0123456789"
theorem sub_k {a b : String} (h : a.toList.all (fun c => b.toList.contains c) = true) : ∀ c ∈ tl (Str.ofString a), c ∈ tl (Str.ofString b) := by
  intro c hc
  rw [tl_ofString] at hc ⊢
  obtain ⟨d, hd, rfl⟩ := List.mem_map.mp hc
  have q := List.all_eq_true.mp h d hd
  exact List.mem_map.mpr ⟨d, by simpa using q, rfl⟩
theorem nin_k {a : String} {n : Nat} (h : a.toList.all (fun c => decide (c.toNat ≠ n)) = true) : n ∉ tl (Str.ofString a) := by
  intro hc
  rw [tl_ofString] at hc
  obtain ⟨d, hd, e⟩ := List.mem_map.mp hc
  exact of_decide_eq_true (List.all_eq_true.mp h d hd) e
theorem en_loc : ∀ c ∈ tl enS, c ∈ tl locS := sub_k (by decide +kernel)
theorem en2_lab : ∀ c ∈ tl en2S, c ∈ tl labS := sub_k (by decide +kernel)
theorem dot_loc : 46 ∈ tl locS := by rw [tl_ofString]; decide +kernel
theorem dot_en : 46 ∉ tl enS := nin_k (by decide +kernel)
theorem dot_lab : 46 ∉ tl labS := nin_k (by decide +kernel)
theorem hy_en2 : 45 ∉ tl en2S := nin_k (by decide +kernel)
theorem at_loc : 64 ∉ tl locS := nin_k (by decide +kernel)
theorem at_lab : 64 ∉ tl labS := nin_k (by decide +kernel)
theorem asc_loc : Asc locS := asc_of (by decide +kernel)
theorem asc_lab : Asc labS := asc_of (by decide +kernel)
theorem noup_k {a : String} (h : a.toList.all (fun c => decide (¬ (65 ≤ c.toNat ∧ c.toNat ≤ 90))) = true) : ∀ c ∈ tl (Str.ofString a), ¬ (65 ≤ c ∧ c ≤ 90) := by
  intro c hc
  rw [tl_ofString] at hc
  obtain ⟨d, hd, rfl⟩ := List.mem_map.mp hc
  exact of_decide_eq_true (List.all_eq_true.mp h d hd)
theorem noup_loc : ∀ c ∈ tl locS, ¬ (65 ≤ c ∧ c ≤ 90) := noup_k (by decide +kernel)
theorem noup_lab : ∀ c ∈ tl labS, ¬ (65 ≤ c ∧ c ≤ 90) := noup_k (by decide +kernel)
/-- words with dots between -/
def Wd1 (p : List Nat) : Prop := p ≠ [] ∧ ∀ c ∈ p, c ∈ tl enS
def Gd (l : List Nat) : Prop := l ≠ [] ∧ l.head? ≠ some 46 ∧ l.getLast? ≠ some 46 ∧ ¬ DD l
theorem nodot {p : List Nat} (h : Wd1 p) {i : Nat} : p[i]? ≠ some 46 := fun e => dot_en (h.2 46 (List.mem_of_getElem? e))
theorem gd_one {p : List Nat} (h : Wd1 p) : Gd p := by
  refine ⟨h.1, fun e => ?_, fun e => ?_, fun ⟨i, e, _⟩ => nodot h e⟩
  · rw [List.head?_eq_getElem?] at e
    exact nodot h e
  · rw [List.getLast?_eq_getElem?] at e
    exact nodot h e
theorem gd_app {p q : List Nat} (h : Wd1 p) (g : Gd q) : Gd (p ++ 46 :: q) := by
  obtain ⟨g1, g2, g3, g4⟩ := g
  refine ⟨by simp, ?_, ?_, ?_⟩
  · cases p with
    | nil => exact absurd rfl h.1
    | cons a r =>
      intro e
      exact nodot h (i := 0) (by simpa using e)
  · rw [List.getLast?_append]
    cases q with
    | nil => exact absurd rfl g1
    | cons b r =>
      rw [List.getLast?_cons_cons]
      cases e : (b :: r).getLast? with
      | none => simp at e
      | some z =>
        rw [e] at g3
        simpa using g3
  · rintro ⟨i, e1, e2⟩
    by_cases h1 : i < p.length
    · rw [List.getElem?_append_left h1] at e1
      exact nodot h e1
    · rw [List.getElem?_append_right (by omega)] at e2
      rw [show i + 1 - p.length = (i - p.length) + 1 by omega, List.getElem?_cons_succ] at e2
      rw [List.getElem?_append_right (by omega)] at e1
      cases hk : i - p.length with
      | zero =>
        rw [hk] at e2
        rw [List.head?_eq_getElem?] at g2
        exact g2 e2
      | succ k =>
        rw [hk, List.getElem?_cons_succ] at e1
        rw [hk] at e2
        exact g4 ⟨k, e1, e2⟩
theorem gd_join : ∀ {ps : List (List Nat)}, ps ≠ [] → (∀ p ∈ ps, Wd1 p) → Gd (joinL [46] ps)
  | [], h, _ => absurd rfl h
  | [p], _, h => gd_one (h p (by simp))
  | p :: q :: r, _, h => gd_app (h p (by simp)) (gd_join (by simp) fun x hx => h x (List.mem_cons_of_mem _ hx))
def LocP (x : Str) : Prop := x.length ≤ 40 ∧ ∃ ps : List (List Nat), ps ≠ [] ∧ (∀ p ∈ ps, Wd1 p) ∧ tl x = joinL [46] ps
theorem LocP.ok {x : Str} (h : LocP x) : LocalOk (tl x) := by
  obtain ⟨hl, ps, hn, hp, e⟩ := h
  obtain ⟨g1, g2, g3, g4⟩ := gd_join hn hp
  rw [← e] at g1 g2 g3 g4
  refine ⟨⟨?_, by rw [← len_tl]; exact hl, fun c hc => ?_⟩, g2, g3, g4⟩
  · cases q : tl x with
    | nil => exact absurd q g1
    | cons _ _ => simp
  · rw [e] at hc
    rcases joinL_mem hc with q | ⟨p, hp', q⟩
    · rw [List.mem_singleton.mp q]
      exact dot_loc
    · exact en_loc c ((hp p hp').2 c q)
def LabP (p : List Nat) : Prop := ∃ c m c', p = c :: (m ++ [c']) ∧ c ∈ tl en2S ∧ c' ∈ tl en2S ∧ m.length ≤ 3 ∧ ∀ d ∈ m, d ∈ tl labS
theorem LabP.in {p : List Nat} (h : LabP p) : ∀ d ∈ p, d ∈ tl labS := by
  obtain ⟨c, m, c', rfl, hc, hc', hm, hd⟩ := h
  intro d q
  rcases List.mem_cons.mp q with rfl | q
  · exact en2_lab _ hc
  · rcases List.mem_append.mp q with q | q
    · exact hd d q
    · rw [List.mem_singleton.mp q]
      exact en2_lab _ hc'
theorem LabP.len {p : List Nat} (h : LabP p) : 2 ≤ p.length ∧ p.length ≤ 5 := by
  obtain ⟨c, m, c', rfl, hc, hc', hm, hd⟩ := h
  simp only [List.length_cons, List.length_append, List.length_nil]
  omega
theorem LabP.ok {p : List Nat} (h : LabP p) : LabelOk p := by
  have h1 := h.in
  have h2 := h.len
  obtain ⟨c, m, c', rfl, hc, hc', hm, hd⟩ := h
  refine ⟨⟨by omega, by omega, h1⟩, fun e => ?_, fun e => ?_⟩
  · exact hy_en2 (by rw [← Option.some.inj e]; exact hc)
  · rw [show c :: (m ++ [c']) = (c :: m) ++ [c'] from rfl, List.getLast?_append] at e
    have e2 : some c' = some 45 := by simpa using e
    exact hy_en2 (by rw [← Option.some.inj e2]; exact hc')
def DomP (x : Str) : Prop := x.length ≤ 40 ∧ ∃ ps : List (List Nat), ps ≠ [] ∧ (∀ p ∈ ps, LabP p) ∧ tl x = joinL [46] ps
theorem DomP.ok {x : Str} (h : DomP x) : DomOk (tl x) := by
  obtain ⟨hl, ps, hn, hp, e⟩ := h
  refine ⟨by rw [← len_tl]; omega, fun p q => ?_⟩
  rw [e, spl_join hn fun p hp' => fun m => dot_lab ((hp p hp').in 46 m)] at q
  exact (hp p q).ok
theorem join_end : ∀ {ps : List (List Nat)}, ps ≠ [] → joinL [46] (ps ++ [[]]) = joinL [46] ps ++ [46]
  | [], h => absurd rfl h
  | [p], _ => by simp [joinL]
  | p :: q :: r, _ => by
    have ih := join_end (ps := q :: r) (by simp)
    show p ++ ([46] ++ joinL [46] ((q :: r) ++ [[]])) = (p ++ ([46] ++ joinL [46] (q :: r))) ++ [46]
    rw [ih, List.append_assoc, List.append_assoc]
theorem DomP.dot {x : Str} (h : DomP x) : ¬ DomOk (tl x ++ [46]) := by
  obtain ⟨hl, ps, hn, hp, e⟩ := h
  intro hd
  have q := hd.2 []
  rw [e, ← join_end hn, spl_join (by simp) fun p hp' => ?_] at q
  · have := (q (by simp)).1.1
    exact absurd this (by decide)
  · rcases List.mem_append.mp hp' with m | m
    · exact fun z => dot_lab ((hp p m).in 46 z)
    · rw [List.mem_singleton.mp m]
      simp
theorem LocP.in {x : Str} (h : LocP x) : ∀ c ∈ tl x, c ∈ tl locS := h.ok.1.2.2
theorem DomP.in {x : Str} (h : DomP x) : ∀ c ∈ tl x, c = 46 ∨ c ∈ tl labS := by
  obtain ⟨hl, ps, hn, hp, e⟩ := h
  intro c hc
  rw [e] at hc
  rcases joinL_mem hc with q | ⟨p, hp', q⟩
  · exact .inl (List.mem_singleton.mp q)
  · exact .inr ((hp p hp').in c q)
theorem dot_con {c : Nat} (h : c ≠ 46) : (Str.ofString ".").cps.contains c = false := by
  cases e : (Str.ofString ".").cps.contains c with
  | false => rfl
  | true =>
    rw [Array.contains_iff_mem] at e
    have q : c ∈ tl (Str.ofString ".") := Array.mem_def.mp e
    rw [tl_dot] at q
    exact absurd (List.mem_singleton.mp q) h
theorem LocP.fix {x : Str} (h : LocP x) : Txt.rstripChars (cutS x none (some 40)) (Str.ofString ".") = x := by
  rw [show cutS x none (some 40) = x from cut_id (n := 40) h.1]
  obtain ⟨_, _, g3, _⟩ := h.ok
  rcases List.eq_nil_or_concat (tl x) with e | ⟨l, c, e⟩
  · have := h.ok.1.1
    rw [e] at this
    exact absurd this (by decide)
  · have e' : tl x = l ++ [c] := by rw [e]; simp
    refine rs_id e' (dot_con fun z => g3 ?_)
    rw [e', List.getLast?_append, z]
    rfl
theorem LocP.mk {xs : List Str} (hn : xs ≠ []) (hp : ∀ x ∈ xs, Wd1 (tl x)) (hl : (Txt.join (Str.ofString ".") xs).length ≤ 40) : LocP (Txt.join (Str.ofString ".") xs) :=
  ⟨hl, xs.map tl, fun e => hn (List.map_eq_nil_iff.mp e), fun p h => by
    obtain ⟨x, hx, rfl⟩ := List.mem_map.mp h
    exact hp x hx, by rw [tl_joined, tl_dot]⟩
theorem DomP.mk {xs : List Str} (hn : xs ≠ []) (hp : ∀ x ∈ xs, LabP (tl x)) (hl : (Txt.join (Str.ofString ".") xs).length ≤ 40) : DomP (Txt.join (Str.ofString ".") xs) :=
  ⟨hl, xs.map tl, fun e => hn (List.map_eq_nil_iff.mp e), fun p h => by
    obtain ⟨x, hx, rfl⟩ := List.mem_map.mp h
    exact hp x hx, by rw [tl_joined, tl_dot]⟩
def zUpper : V → List V → Hp → VK → Prop := fun x xs H Q => ∃ a, x = V.str a ∧ xs = [] ∧ a.length ≤ 5592405 ∧ Q (.str (Txt.upper a)) H
theorem y_upper {X : Cx} : MtR X "str.upper" zUpper := mt_upper
section
variable {σ : L2.St} {H H1 : Hp} {Q : VK} {K : PySem.W.Frag} {st sc a p D : Addr} {ns : List Int} {ta : TE} {x y : Str} {bs : List Bool} {P : Program} {w : World} {ps : List (Nat × Nat)} {J : It} {Rl : Hp → Prop} {xs : List V} {vs : List Nat} {te : TE} {j : Nat} {Qd : Hp → Prop} {tt : TT}
theorem rd_m0 {f : V → List V → Hp → VK → Prop} (h : ta σ H fun x H1 => wM x (f x [] H1 Q)) : tM0 f ta σ H Q := h
theorem rd_upper (h : Q (.str (Txt.upper x)) H) (c : x.length ≤ 1000) : zUpper (.str x) [] H Q := ⟨x, rfl, rfl, by omega, h⟩
theorem rd_mk (h : ∀ p, H p = none → Q (.ref p) (upd H p (TabO P w ps p))) : zMk P w ps σ H Q := h
theorem rd_tr (e : H p = some (TabO P w ps p)) (c : x.length ≤ 100000) (b : ∀ c e, ps.lookup c = some e → e < 128) (h : Q (.str ⟨((tl x).map (tr1 ps)).toArray⟩) H) : zTr P w (.str x) [.ref p] H Q := ⟨x, p, ps, rfl, rfl, e, c, b, h⟩
theorem rd_all (c : SqL K H a (bs.map V.bl)) (h : Q (.bl (bs.all id)) H) : rAll K [.ref a] H Q := ⟨a, bs, rfl, c, h⟩
theorem rd_any (c : SqL K H a (bs.map V.bl)) (h : Q (.bl (bs.any id)) H) : rAny K [.ref a] H Q := ⟨a, bs, rfl, c, h⟩
theorem rd_split (h : ∀ p, H p = none → Q (.ref p) (upd H p (.lst ((Txt.split x y).map V.str)))) (e : (y.length == 0) = false) (c : x.length ≤ 100000) : zSplit (.str x) [.str y] H Q := ⟨x, y, rfl, rfl, e, line_of (by omega), h⟩
theorem rd_parti (h : ∀ p, H p = none → Q (.ref p) (upd H p (.tup [.str (Txt.partition x y).1, .str (Txt.partition x y).2.1, .str (Txt.partition x y).2.2]))) (e : (y.length == 0) = false) (c : x.length ≤ 100000) : zPartition (.str x) [.str y] H Q := ⟨x, y, rfl, rfl, e, line_of (by omega), h⟩
theorem rd_ninS (h : Q (.bl (!(!(Builtin.Str.occurrences y x 0 y.length 1).isEmpty))) H) : zInS true (.str x) (.str y) H Q := ⟨x, y, rfl, rfl, h⟩
theorem rd_inS (h : Q (.bl (!(Builtin.Str.occurrences y x 0 y.length 1).isEmpty)) H) : zInS false (.str x) (.str y) H Q := ⟨x, y, rfl, rfl, h⟩
/-- a comprehension with draws, item by item -/
theorem lcD (Wk : WalkOf J (fun _ => True) xs) (W : Wd K st sc ns H1) (nD : H1 D = none) (hn : xs.length ≤ 100000) (G : V → V → Prop)
    (hs : ∀ x ∈ xs, ∀ H (R : VK), Wd K st sc ns H → Dr st H1 H → (∀ y H', Dr st H H' → G x y → R y H') → wipe ((wipe σ vs).set j (some x)) vs = wipe σ vs ∧ te ((wipe σ vs).set j (some x)) H R)
    (hd : ∀ H' ys, Dr st H1 H' → Wd K st sc ns H' → D ≠ st → H' D = some (.lst ys) → ys.length = xs.length → (∀ (k : Nat) x y, xs[k]? = some x → ys[k]? = some y → G x y) → Qd H') : LcJ J (gName j) tYes te vs σ H1 D Qd := by
  have nS : D ≠ st := W.1.ne nD
  refine lcJ Wk (fun i H => Dr st H1 H ∧ ∃ ys, H D = some (.lst ys) ∧ ys.length = i ∧ ∀ (k : Nat) x y, xs[k]? = some x → ys[k]? = some y → G x y) ⟨W.dr.new nD, [], upd_same, rfl, fun k x y _ h => by simp at h⟩ (fun _ _ _ _ => trivial) (fun i x H hx p => ?_) (fun H p => ?_)
  · obtain ⟨d, ys, e, el, eg⟩ := p
    have q := hs x (List.mem_of_getElem? hx) H (fun y H4 => ∃ acc, H4 D = some (.lst acc) ∧ acc.length < sizeLine ∧ (Dr st H1 (upd H4 D (.lst (acc ++ [y]))) ∧ ∃ ys, (upd H4 D (.lst (acc ++ [y]))) D = some (.lst ys) ∧ ys.length = i + 1 ∧ ∀ (k : Nat) x y, xs[k]? = some x → ys[k]? = some y → G x y)) (W.next d) d (fun y H' d' gy => by
      have e' : H' D = some (.lst ys) := d'.1 _ _ nS e
      have hi := (List.getElem?_eq_some_iff.mp hx).1
      refine ⟨ys, e', lt_line (by omega), Dr.put W.1 (d.trans d') nD, ys ++ [y], upd_same, by rw [List.length_append, el]; rfl, fun k x2 y2 hx2 hy2 => ?_⟩
      by_cases hk : k < ys.length
      · rw [List.getElem?_append_left hk] at hy2
        exact eg k x2 y2 hx2 hy2
      · have hk2 := (List.getElem?_eq_some_iff.mp hy2).1
        rw [List.length_append] at hk2
        have hk3 : k < ys.length + 1 := hk2
        have ek : k = i := by omega
        rw [ek, ← el, List.getElem?_append_right (Nat.le_refl _), Nat.sub_self] at hy2
        rw [ek, hx] at hx2
        rw [← Option.some.inj hx2, ← Option.some.inj hy2]
        exact gy)
    exact ⟨q.1, q.2⟩
  · obtain ⟨d, ys, e, el, eg⟩ := p
    exact hd H ys d (W.next d) nS e el eg
end
theorem all_id {α : Type} (l : List α) (p : α → Bool) : (l.map p).all id = l.all p := by
  induction l with
  | nil => rfl
  | cons a r ih => rw [List.map_cons, List.all_cons, List.all_cons, ih]; rfl
theorem low_map {l : List Nat} (h : ∀ c ∈ l, c < 128) : l.map (tr1 upL) = l.map lowN := List.map_congr_left fun c hc => low_eq (h c hc)
theorem low_id {l : List Nat} (h : ∀ c ∈ l, ¬ (65 ≤ c ∧ c ≤ 90)) : l.map lowN = l := by
  have e : l.map lowN = l.map id := List.map_congr_left fun c hc => low_low (h c hc)
  rw [e, List.map_id]
theorem len_dd : (Str.ofString "..").length = 2 := by rw [len_of]; rfl
theorem tl_dd : tl (Str.ofString "..") = [46, 46] := by rw [tl_ofString]; rfl
theorem tl_hy : tl (Str.ofString "-") = [45] := by rw [tl_ofString]; rfl
theorem tl_at : tl (Str.ofString "@") = [64] := by rw [tl_ofString]; rfl
theorem tl_lt : tl (Str.ofString "<") = [60] := by rw [tl_ofString]; rfl
theorem tl_gt : tl (Str.ofString ">") = [62] := by rw [tl_ofString]; rfl
theorem tl_ltgt : tl (Str.ofString "<>") = [60, 62] := by rw [tl_ofString]; rfl
theorem spl_len (s : Nat) : ∀ (l acc : List Nat), (spl [s] 0 acc l).length ≤ l.length + 1
  | [], acc => by rw [spl_nil]; exact Nat.le_refl _
  | c :: r, acc => by
    by_cases h : pre [s] (c :: r) = true
    · rw [spl_hit h, List.length_cons, List.length_cons]
      exact Nat.succ_le_succ (spl_len s r [])
    · rw [Bool.not_eq_true] at h
      rw [spl_miss h, List.length_cons]
      exact Nat.le_succ_of_le (spl_len s r _)
theorem spl_mem (s : Nat) : ∀ (l acc : List Nat), ∀ p ∈ spl [s] 0 acc l, p.length ≤ acc.length + l.length
  | [], acc, p, h => by
    rw [spl_nil] at h
    rw [List.mem_singleton.mp h]
    exact Nat.le_add_right _ _
  | c :: r, acc, p, h => by
    by_cases e : pre [s] (c :: r) = true
    · rw [spl_hit e] at h
      rcases List.mem_cons.mp h with rfl | h
      · exact Nat.le_add_right _ _
      · have q := spl_mem s r [] p h
        rw [List.length_nil, Nat.zero_add] at q
        rw [List.length_cons]
        omega
    · rw [Bool.not_eq_true] at e
      rw [spl_miss e] at h
      have q := spl_mem s r _ p h
      rw [List.length_append] at q
      rw [List.length_cons]
      have q2 : p.length ≤ acc.length + 1 + r.length := q
      omega
theorem split_dot (z : Str) : (Txt.split z (Str.ofString ".")).map tl = spl [46] 0 [] (tl z) := by
  rw [split_spl z _ (by rw [tl_dot]; exact List.cons_ne_nil _ _) (kind_ok (by decide +kernel)), tl_dot]
theorem split_at (z : Str) : (Txt.split z (Str.ofString "@")).map tl = spl [64] 0 [] (tl z) := by
  rw [split_spl z _ (by rw [tl_at]; exact List.cons_ne_nil _ _) (kind_ok (by decide +kernel)), tl_at]
/-! ### errors -/
structure ExT (K : PySem.W.Frag) (mg : Str → Option Value) (C M : Addr) : Prop where
  gC : mg "InvalidAddress" = some (.ref C)
  gM : mg "MailError" = some (.ref M)
  xC : PySem.W.excIn K C [.type "ValueError", .type "Exception", .type "BaseException", .type "object"] "ValueError.__new__" = true
  kC : PySem.W.keepIn K (.ref C) = true
  bC : PySem.W.subIn K (.ref C) (.type "BaseException") = some true
  tC : PySem.W.typeIn K (.ref C) = some (.type "type")
  sC : PySem.W.subIn K (.ref C) (.ref C) = some true
  kM : PySem.W.kitOne K (.ref C) (.ref M) = some true
  kV : PySem.W.kitOne K (.ref C) (.type "ValueError") = some true
  e : ExcC K C
theorem ExT.exm {K : PySem.W.Frag} {mg : Str → Option Value} {C M : Addr} (h : ExT K mg C M) : PySem.W.exmOne K (.ref C) (.ref C) = some true := PySem.W.exm_ref h.bC h.e.hd h.tC h.sC
theorem ok_mkX {P : Program} {w : World} {K : PySem.W.Frag} {mg : Str → Option Value} {base : Heap} {k : Nat} {x : Str} {st : Stmt} {ps N : List Str} {sp : Sp} (d : Dn K mg x st ps) (S : FnScope N ps (defScope st))
    (len : ∀ vs H Q E, sp vs H Q E → vs.length = ps.length)
    (hbody : ∀ (f : Addr) (cdv : Value) (A : Around) (outer : List Env) (s : Shared) (H : Hp) (vs : List V) (Q : VK) (E : XK), Room k (A.deeper (envOfC x (defScope st) s.heap.objs.size f cdv)) → sp vs H Q E →
      ∃ t, PSs (cxOf (L2.CX P w) P w K mg base N x (defScope st) f cdv A outer s H E) (defBody st) t ∧ t ⟨fun _ H' => Q .non H', Q, fun _ _ => False, fun _ _ => False⟩ (start N vs) H) : OkD P w K mg base (L2.CX P w) (k + 1) x ps sp := by
  obtain ⟨f, fd, m, F, b⟩ := d
  exact ⟨f, fd, m, F.kp, binds_of b, F.okX S len fun cdv A outer s H vs Q E hr h => hbody f cdv A outer s H vs Q E hr h⟩
section
variable {X : Cx} {K : PySem.W.Frag} {σ : L2.St} {H : Hp} {Q : VK} {nx bk ct : L2.St → Hp → Prop} {rt : VK} {ta : TE} {as : TA} {W : WX} {C a : Addr} {cls : Value} {d : Option Addr} {x y : Str} {i : Int} {k : Nat}
theorem pe_callDS {k : Nat} {x : Str} {ps : List Str} {sp : Sp} {t : TA} {e : Expr} {es : List Expr} {p pos : Pos} {E : L2.St → XK} (O : OkD X.prog X.w X.K X.mg X.base (L2.CX X.prog X.w) k x ps sp) (hr : Room k X.A) (hg : Gl X x) (hx : ∀ σ, PassesAt (L2.CX X.prog X.w) X σ (E σ)) (ha : PA X (e :: es) t)
    (hdb : (x == ("__debug__" : Str)) = false := by decide) (he : starEach (e :: es) X.env = (false, eval e X.env) :: starEach es X.env := by rfl) (hpl : (backTo pos (starEach es X.env)).any (·.1) = false := by rfl) :
    PE X (.Call (.Name x p) (e :: es) [] pos) (tCallS sp E t) := by
  obtain ⟨f, fd, m, kp, b, F⟩ := O
  exact pe_callS F hr hg m kp b hx ha hdb he hpl
theorem rd_callS {sp : Sp} {E : L2.St → XK} (h : as σ H fun vs H1 => sp vs H1 Q (E σ)) : tCallS sp E as σ H Q := h
def zRaise (C : Addr) (W : WX) (ta : TE) : TS := fun _ σ H => ta σ H fun _ H1 => W (.ref C) none σ H1
theorem y_raise {x : Str} {e : Expr} {p pos pos2 : Pos} (hc : X.calm = true) (tk : Takes X W) (q : PySem.W.excIn X.K C [.type "ValueError", .type "Exception", .type "BaseException", .type "object"] "ValueError.__new__" = true) (gC : X.mg x = some (.ref C)) (kC : PySem.W.keepIn X.K (.ref C) = true) (r : Raises X (.ref C)) (hg : Gl X x)
    (he : PE X e ta) (hs : starEach [e] X.env = (false, eval e X.env) :: starEach [] X.env := by rfl) (hdb : (x == ("__debug__" : Str)) = false := by decide) :
    PS X (.Raise (some (.Call (.Name x p) [e] [] pos)) none pos2) (zRaise C W ta) := ps_raise hc tk (SkE.pmk_own1 PySem.F.excBase_ValueError q gC kC r hg he hs hdb)
theorem rd_raise {D : Ends} (h : ta σ H fun _ H1 => W (.ref C) none σ H1) : zRaise C W ta D σ H := h
def zTryO (K : PySem.W.Frag) (c : Value) (tb : WX → TS) (ts : Addr → Value → Option Addr → TS) (Wout : WX) : TS := fun D σ H => tb (wOnly K c ts Wout D) D σ H
def zTryA (K : PySem.W.Frag) (c : Value) (i : Nat) (tb : WX → TS) (ts : Addr → Value → Option Addr → TS) (Wout : WX) : TS := fun D σ H => tb (wAs K c i ts Wout D) D σ H
theorem y_tryO {x : Str} {c : Value} {body suite : List Stmt} {b₀ : Stmt} {np pos pos' : Pos} {tb : WX → TS} {ts : Addr → Value → Option Addr → TS} {Wout : WX} (hs : X.stack = X.env :: X.outer) (hf : X.env.frame = some X.env.locals) (hc : Names X x c) (tk : Takes X Wout)
    (hb : ∀ (W : WX) (pn : List (Addr × Obj)) (xe : Value → Shared → Prop), Takes (X.tr pn xe) W → PassesOwn (model X.prog X.w) X.A X.env xe → PSs (X.tr pn xe) body (tb W))
    (hsu : ∀ (a : Addr) (oe : Obj) (cls : Value) (d : Option Addr) (pn : List (Addr × Obj)), Zc cls d oe → (∃ vs, oe.data = .fields vs) → PSs (X.suite a ((a, oe) :: pn)) (b₀ :: suite) (ts a cls d)) :
    PS X (.Try body [.ExceptHandler (some (.Name x np)) none (b₀ :: suite) pos'] [] [] pos) (zTryO X.K c tb ts Wout) := ps_try_only hs hf hc tk hb hsu
theorem y_tryA {x n : Str} {c : Value} {i : Nat} {body suite : List Stmt} {b₀ : Stmt} {np pos pos' : Pos} {tb : WX → TS} {ts : Addr → Value → Option Addr → TS} {Wout : WX} (hs : X.stack = X.env :: X.outer) (hf : X.env.frame = some X.env.locals) (hN : X.N.Nodup) (hi : X.N[i]? = some n) (hln : X.env.kindOf n = some .local) (hc : Names X x c) (tk : Takes X Wout)
    (hb : ∀ (W : WX) (pn : List (Addr × Obj)) (xe : Value → Shared → Prop), Takes (X.tr pn xe) W → PassesOwn (model X.prog X.w) X.A X.env xe → PSs (X.tr pn xe) body (tb W))
    (hsu : ∀ (a : Addr) (oe : Obj) (cls : Value) (d : Option Addr) (pn : List (Addr × Obj)), Zc cls d oe → (∃ vs, oe.data = .fields vs) → PSs (X.suite a ((a, oe) :: pn)) (b₀ :: suite) (ts a cls d)) :
    PS X (.Try body [.ExceptHandler (some (.Name x np)) (some n) (b₀ :: suite) pos'] [] [] pos) (zTryA X.K c i tb ts Wout) := ps_try_as hs hf hN hi hln hc tk hb hsu
theorem rd_tryO {c : Value} {tb : WX → TS} {ts : Addr → Value → Option Addr → TS} {Wout : WX} (h : tb (wOnly K c ts Wout ⟨nx, rt, bk, ct⟩) ⟨nx, rt, bk, ct⟩ σ H) : zTryO K c tb ts Wout ⟨nx, rt, bk, ct⟩ σ H := h
theorem rd_tryA {c : Value} {i : Nat} {tb : WX → TS} {ts : Addr → Value → Option Addr → TS} {Wout : WX} (h : tb (wAs K c i ts Wout ⟨nx, rt, bk, ct⟩) ⟨nx, rt, bk, ct⟩ σ H) : zTryA K c i tb ts Wout ⟨nx, rt, bk, ct⟩ σ H := h
def zIsE (K : PySem.W.Frag) (D a : Addr) (cls : Value) (d : Option Addr) : List V → Hp → VK → Prop := fun xs H Q => cls = .ref D ∧ d = Option.none ∧ rIsE K D a xs H Q
theorem y_isE {a D : Addr} {oe : Obj} {cls : Value} {d : Option Addr} {pn : List (Addr × Obj)} (C : ExcC X.K D) (hz : Zc cls d oe) (hf : ∃ vs, oe.data = .fields vs) : CallR (X.suite a ((a, oe) :: pn)) (.builtin "isinstance") (zIsE X.K D a cls d) := by
  intro pins s σ H xs us Q I r h
  obtain ⟨rfl, rfl, h⟩ := h
  exact call_isE C hz hf pins s σ H xs us Q I r h
def zSIx : V → List V → Hp → VK → Prop := fun x xs H Q => ∃ (a b : Str) (k : Nat), x = V.str a ∧ xs = [V.str b] ∧ Txt.index0 a b = some k ∧ Q (.int (k : Nat)) H
theorem y_sIx : MtR X "str.index" zSIx := by
  intro pins s σ H x xs v us Q I rx rs h
  obtain ⟨a, b, k, rfl, rfl, hk, q⟩ := h
  obtain ⟨t, rfl⟩ := rx
  obtain ⟨u1, rfl, u, rfl⟩ := Vals.one rs
  cases e : Builtin.Str.occurrences a b 0 a.length 1 with
  | nil =>
    unfold Txt.index0 at hk
    rw [e] at hk
    cases hk
  | cons j rest =>
    unfold Txt.index0 at hk
    rw [e] at hk
    cases hk
    exact PySem.SC.index e ⟨.int (k : Nat), H, I.tok _, ⟨_, rfl⟩, q⟩
theorem rd_sIx (e : Txt.index0 x y = some k) (h : Q (.int (k : Nat)) H) : zSIx (.str x) [.str y] H Q := ⟨x, y, k, rfl, rfl, e, h⟩
theorem rd_ixS {c : Nat} (e : atI (tl x) i = some c) (l : x.length ≤ 100000) (h : Q (.str ⟨#[c]⟩) H) : rIxS (.str x) (.int i) H Q := ⟨x, i, c, rfl, rfl, line_of (by omega), e, h⟩
end
theorem first_at {s : Nat} : ∀ {l : List Nat}, s ∈ l → ∃ p r, l = p ++ s :: r ∧ s ∉ p
  | [], h => nomatch h
  | c :: t, h => by
    by_cases e : c = s
    · exact ⟨[], t, by rw [e]; rfl, by simp⟩
    · have ht : s ∈ t := by
        rcases List.mem_cons.mp h with q | q
        · exact absurd q.symm e
        · exact q
      obtain ⟨p, r, e1, e2⟩ := first_at ht
      refine ⟨c :: p, r, by rw [e1]; rfl, fun m => ?_⟩
      rcases List.mem_cons.mp m with q | q
      · exact e q.symm
      · exact e2 q
theorem split_uni {s : Nat} : ∀ {p p' r r' : List Nat}, s ∉ p → s ∉ p' → p ++ s :: r = p' ++ s :: r' → p = p' ∧ r = r'
  | [], [], r, r', _, _, h => ⟨rfl, (List.cons.inj h).2⟩
  | [], c :: p', r, r', _, h2, h => absurd (by rw [(List.cons.inj h).1]; exact List.mem_cons_self) h2
  | c :: p, [], r, r', h1, _, h => absurd (by rw [← (List.cons.inj h).1]; exact List.mem_cons_self) h1
  | c :: p, c' :: p', r, r', h1, h2, h => by
    obtain ⟨e1, e2⟩ := List.cons.inj h
    obtain ⟨g1, g2⟩ := split_uni (fun m => h1 (List.mem_cons_of_mem _ m)) (fun m => h2 (List.mem_cons_of_mem _ m)) e2
    exact ⟨by rw [e1, g1], g2⟩
theorem spl_has {s c : Nat} (hc : c ≠ s) : ∀ (l acc : List Nat), c ∈ acc ∨ c ∈ l → ∃ p ∈ spl [s] 0 acc l, c ∈ p
  | [], acc, h => by
    rw [spl_nil]
    refine ⟨acc, List.mem_cons_self, ?_⟩
    rcases h with h | h
    · exact h
    · cases h
  | a :: r, acc, h => by
    by_cases e : pre [s] (a :: r) = true
    · rw [spl_hit e]
      have ea : a = s := by
        have q : [a] = [s] := eq_of_beq e
        exact (List.cons.inj q).1
      rcases h with h | h
      · exact ⟨acc, List.mem_cons_self, h⟩
      · rcases List.mem_cons.mp h with q | q
        · exact absurd (q.trans ea) hc
        · obtain ⟨p, hp, hcp⟩ := spl_has hc r [] (.inr q)
          exact ⟨p, List.mem_cons_of_mem _ hp, hcp⟩
    · rw [Bool.not_eq_true] at e
      rw [spl_miss e]
      refine spl_has hc r _ ?_
      rcases h with h | h
      · exact .inl (List.mem_append_left _ h)
      · rcases List.mem_cons.mp h with q | q
        · exact .inl (List.mem_append_right _ (by rw [q]; exact List.mem_cons_self))
        · exact .inr q
theorem dom_noat {l : List Nat} (h : DomOk l) : 64 ∉ l := fun m => by
  obtain ⟨p, hp, hc⟩ := spl_has (s := 46) (by decide : (64 : Nat) ≠ 46) l [] (.inr m)
  exact at_lab ((h.2 p hp).1.2.2 64 hc)
theorem loc_noat {l : List Nat} (h : LocalOk l) : 64 ∉ l := fun m => at_loc (h.1.2.2 64 m)
theorem dom_nil : ¬ DomOk [] := fun h => by
  have q := (h.2 [] (by rw [spl_nil]; exact List.mem_cons_self)).1.1
  exact absurd q (by decide)
def Parsed (t : List Nat) (l d : Str) : Prop := t.map (tr1 upL) = tl l ++ 64 :: tl d ∧ LocalOk (tl l) ∧ DomOk (tl d)
theorem Parsed.uni {t : List Nat} {l d l' d' : Str} (h : Parsed t l d) (g : Parsed t l' d') : l = l' ∧ d = d' := by
  obtain ⟨e1, e2⟩ := split_uni (loc_noat h.2.1) (loc_noat g.2.1) (h.1.symm.trans g.1)
  exact ⟨ext_tl e1, ext_tl e2⟩
theorem idx_k : (List.range 26).all (fun i => decide (Txt.index0 upS ⟨#[65 + i]⟩ = some i)) = true := by decide +kernel
theorem fold_cat (z : Array Nat) : ∀ (n : Nat) (acc : Array Nat), ((List.replicate n z).foldl (· ++ ·) acc).toList = acc.toList ++ (List.replicate n z.toList).flatten
  | 0, acc => by simp
  | n + 1, acc => by
    rw [List.replicate_succ, List.foldl_cons, fold_cat z n, List.replicate_succ, List.flatten_cons, Array.toList_append, List.append_assoc]
def zMulS : R2 := fun x y H Q => ∃ (z : Str) (k : Int), x = .str z ∧ y = .int k ∧ 1 ≤ k ∧ k ≤ 1000 ∧ z.length ≤ 1000 ∧ ∀ r : Str, r.length ≤ z.length * k.toNat → 1 * z.length ≤ r.length → (∀ c ∈ tl r, c ∈ tl z) → Q (.str r) H
theorem y_repS {X : Cx} : OpR X (binaryOp .Mult) zMulS := by
  intro pins s σ H x y v u Q I rx ry h
  obtain ⟨z, k, rfl, rfl, k1, k2, hz, q⟩ := h
  obtain ⟨t, rfl⟩ := rx
  obtain ⟨t', rfl⟩ := ry
  have hb : z.length * k.toNat ≤ 1000 * 1000 := Nat.mul_le_mul hz (by omega)
  refine PySem.P.mul_str (by
    rw [decide_eq_false (by omega : ¬ k < -(2 ^ 63 : Int)), decide_eq_false (by omega : ¬ k ≥ 2 ^ 63)]
    rfl) (fun _ _ => ?_) (fun _ _ => PyProof.Rows.short24 (by omega)) ?_
  · have h2 : (1000 : Int) ≤ (2 ^ 63 - 1) / k := by
      rw [Int.le_ediv_iff_mul_le (by omega)]
      omega
    omega
  · rw [if_neg (by omega)]
    by_cases e : (k == 1 || z.length == 0) = true
    · rw [if_pos e]
      refine ⟨.str z, H, I, ⟨t, rfl⟩, q z ?_ (by omega) fun c h => h⟩
      have : 1 ≤ k.toNat := by omega
      calc z.length = z.length * 1 := (Nat.mul_one _).symm
        _ ≤ z.length * k.toNat := Nat.mul_le_mul_left _ this
    · rw [if_neg e]
      have hf := fold_cat z.cps k.toNat #[]
      have hr : tl (⟨(List.replicate k.toNat z.cps).foldl (· ++ ·) #[]⟩ : Str) = (List.replicate k.toNat (tl z)).flatten := by
        show ((List.replicate k.toNat z.cps).foldl (· ++ ·) #[]).toList = _
        rw [hf]
        rfl
      have hlen : (⟨(List.replicate k.toNat z.cps).foldl (· ++ ·) #[]⟩ : Str).length = k.toNat * z.length := by
        rw [len_tl, hr, List.length_flatten, List.map_replicate, List.sum_replicate_nat, ← len_tl]
      refine ⟨?_, .str _, H, I.tok _, ⟨_, rfl⟩, q _ ?_ ?_ fun c hc => ?_⟩
      · rw [hlen, Nat.mul_comm]
        exact line_of (by omega)
      · rw [hlen, Nat.mul_comm]
        exact Nat.le_refl _
      · rw [hlen]
        exact Nat.mul_le_mul_right _ (by omega)
      · rw [hr] at hc
        obtain ⟨l, hl, hcl⟩ := List.mem_flatten.mp hc
        rw [(List.mem_replicate.mp hl).2] at hcl
        exact hcl
section
variable {σ : L2.St} {H H1 : Hp} {Q : VK} {K : PySem.W.Frag} {D : Addr} {n j : Nat} {vs : List Nat} {te : TE} {Qd : Hp → Prop} {a b : Bool} {p q : Addr} {xs zs : List V}
theorem lcRp (nD : H1 D = none) (hn : n ≤ 100000) (f : Nat → V)
    (hs : ∀ i, i < n → ∀ H (R : VK), Same H1 H → (∀ H'', Same H H'' → R (f i) H'') → wipe ((wipe σ vs).set j (some (.int (0 + (i : Nat))))) vs = wipe σ vs ∧ te ((wipe σ vs).set j (some (.int (0 + (i : Nat))))) H R)
    (hd : ∀ H', Same H1 H' → H' D = some (.lst ((List.range n).map f)) → Qd H') : LcR n (gName j) te vs σ H1 D Qd := by
  refine lc_range (Pv := fun i H => Same H1 H ∧ H D = some (.lst ((List.range i).map f))) ⟨same_new nD, by rw [upd_same]; rfl⟩ (fun i H hi p => ?_) (fun H p => hd H p.1 p.2)
  obtain ⟨sm, e⟩ := p
  have q := hs i hi H (fun y H4 => ∃ acc, H4 D = some (.lst acc) ∧ acc.length < sizeLine ∧ (Same H1 (upd H4 D (.lst (acc ++ [y]))) ∧ (upd H4 D (.lst (acc ++ [y]))) D = some (.lst ((List.range (i + 1)).map f)))) sm (fun H'' s2 => by
    refine ⟨_, s2 _ _ e, lt_line (by rw [List.length_map, List.length_range]; omega), fun b o eb => ?_, ?_⟩
    · rw [upd_ne (ne_of_none eb nD)]
      exact s2 _ _ (sm _ _ eb)
    · rw [upd_same, List.range_succ, List.map_append]
      rfl)
  exact ⟨q.1, q.2⟩
theorem rd_mulS {z : Str} {k : Int} (k1 : 1 ≤ k) (k2 : k ≤ 1000) (hz : z.length ≤ 1000) (h : ∀ r : Str, r.length ≤ z.length * k.toNat → 1 * z.length ≤ r.length → (∀ c ∈ tl r, c ∈ tl z) → Q (.str r) H) : zMulS (.str z) (.int k) H Q := ⟨z, k, rfl, rfl, k1, k2, hz, h⟩
theorem rd_catL (h1 : H p = some (.lst xs)) (h2 : H q = some (.lst zs)) (c : xs.length + zs.length ≤ 100000) (h : ∀ r, H r = none → Q (.ref r) (upd H r (.lst (xs ++ zs)))) : rCat (.ref p) (.ref q) H Q := ⟨p, q, xs, zs, rfl, rfl, h1, h2, line_of (by omega), h⟩
theorem rd_eqB (h : Q (.bl (decide (a = b))) H) : rEq (.bl a) (.bl b) H Q := ⟨rfl, by
  rw [show decide (V.bl a = V.bl b) = decide (a = b) by simp only [V.bl.injEq]]
  exact h⟩
/-- data of one text: equal -/
theorem rd_neSame {x y : V} {d : PyData} (h1 : Dp K H x d) (h2 : Dp K H y d) (s : SeqAt.shaped d = true) (r : PyData.eqv d d = true) (h : Q (.bl false) H) : rNeD K x y H Q := ⟨d, d, h1, h2, s, s, by
  rw [r]
  exact h⟩
end
theorem one_eq {c n : Nat} {s : String} (h : tl (Str.ofString s) = [n]) : ((⟨#[c]⟩ : Str) = Str.ofString s) ↔ c = n := by
  constructor
  · intro e
    have q := congrArg tl e
    rw [h] at q
    exact (List.cons.inj q).1
  · intro e
    exact ext_tl (by rw [h, e])
theorem eqv2 (l d : Str) : PyData.eqvAll [.str l, .str d] [.str l, .str d] = true := by simp [PyData.eqvAll, PyData.eqv]
theorem shaped2 {l d : Str} (al : Asc l) (ad : Asc d) : SeqAt.shaped (.tuple [.str l, .str d]) = true := by
  refine shaped_strs (xs := [l, d]) fun x hx => ?_
  simp only [List.mem_cons, List.not_mem_nil, or_false] at hx
  rcases hx with rfl | rfl
  · exact al
  · exact ad
theorem up_iff {c : Nat} : c ∈ tl upS ↔ 65 ≤ c ∧ c ≤ 90 := by
  rw [tl_up, List.mem_map]
  constructor
  · rintro ⟨a, ha, rfl⟩
    have := List.mem_range.mp ha
    omega
  · intro h
    exact ⟨c - 65, List.mem_range.mpr (by omega), by omega⟩
theorem up_idx {c : Nat} (h : 65 ≤ c ∧ c ≤ 90) : Txt.index0 upS ⟨#[c]⟩ = some (c - 65) := by
  have q := of_decide_eq_true (List.all_eq_true.mp idx_k (c - 65) (List.mem_range.mpr (by omega)))
  rw [show 65 + (c - 65) = c by omega] at q
  exact q
theorem lo_at {c : Nat} (h : 65 ≤ c ∧ c ≤ 90) : atI (tl loS) ((c - 65 : Nat) : Int) = some (lowN c) := by
  refine atI_nat ?_
  rw [tl_lo, List.getElem?_map, List.getElem?_range (by omega)]
  show some (c - 65 + 97) = some (lowN c)
  rw [show lowN c = c + 32 from if_pos h]
  congr 1
  omega
theorem len_lo : loS.length = 26 := by rw [len_tl, tl_lo]; rfl
theorem asc_low {l : List Nat} (h : ∀ c ∈ l, c < 128) : ∀ c ∈ l.map lowN, c < 128 := fun c hc => by
  obtain ⟨a, ha, rfl⟩ := List.mem_map.mp hc
  have := h a ha
  unfold lowN
  by_cases q : 65 ≤ a ∧ a ≤ 90
  · rw [if_pos q]
    omega
  · rw [if_neg q]
    exact this
theorem flat_ones (f : Nat → Nat) : ∀ l : List Nat, ((l.map fun c => (⟨#[f c]⟩ : Str)).map tl).flatten = l.map f
  | [] => rfl
  | c :: l => by
    show f c :: ((l.map fun c => (⟨#[f c]⟩ : Str)).map tl).flatten = f c :: l.map f
    rw [flat_ones f l]
/-! ### values at any depth: none, truth values, ints, texts, tuples (all of them immutable: what is denoted stays) -/
mutual
inductive Va (H : Hp) : V → PyData → Prop
  | non : Va H .non .none
  | bl (b : Bool) : Va H (.bl b) (.bool b)
  | int (i : Int) : Va H (.int i) (.int i)
  | str (x : Str) : Va H (.str x) (.str x)
  | tup {a : Addr} {xs : List V} {ds : List PyData} : Tk H a xs → VaL H xs ds → Va H (.ref a) (.tuple ds)
inductive VaL (H : Hp) : List V → List PyData → Prop
  | nil : VaL H [] []
  | cons {v : V} {vs : List V} {d : PyData} {ds : List PyData} : Va H v d → VaL H vs ds → VaL H (v :: vs) (d :: ds)
end
section
variable {K : PySem.W.Frag} {st : Addr} {H H1 : Hp}
mutual
theorem Va.mono (k : ∀ a xs, Tk H a xs → Tk H1 a xs) : ∀ {v : V} {d : PyData}, Va H v d → Va H1 v d
  | _, _, .non => .non
  | _, _, .bl b => .bl b
  | _, _, .int i => .int i
  | _, _, .str x => .str x
  | _, _, .tup t r => .tup (k _ _ t) (VaL.mono k r)
theorem VaL.mono (k : ∀ a xs, Tk H a xs → Tk H1 a xs) : ∀ {vs : List V} {ds : List PyData}, VaL H vs ds → VaL H1 vs ds
  | _, _, .nil => .nil
  | _, _, .cons a r => .cons (Va.mono k a) (VaL.mono k r)
end
theorem Va.same {v : V} {d : PyData} (h : Va H v d) (s : Same H H1) : Va H1 v d := h.mono fun _ _ t => t.same s
theorem VaL.same {v : List V} {d : List PyData} (h : VaL H v d) (s : Same H H1) : VaL H1 v d := h.mono fun _ _ t => t.same s
theorem Va.next {v : V} {d : PyData} (h : Va H v d) (s : Stt H st) (r : Dr st H H1) : Va H1 v d := h.mono fun _ _ t => t.next s r
theorem VaL.next {v : List V} {d : List PyData} (h : VaL H v d) (s : Stt H st) (r : Dr st H H1) : VaL H1 v d := h.mono fun _ _ t => t.next s r
mutual
theorem Va.dp : ∀ {v : V} {d : PyData}, Va H v d → Dp K H v d
  | _, _, .non => .non
  | _, _, .bl b => .bl b
  | _, _, .int i => .int i
  | _, _, .str x => .str x
  | _, _, .tup t r => .tup t.seq (VaL.dp r)
theorem VaL.dp : ∀ {vs : List V} {ds : List PyData}, VaL H vs ds → DpAll K H vs ds
  | _, _, .nil => .nil
  | _, _, .cons a r => .cons (Va.dp a) (VaL.dp r)
end
theorem VaL.length : ∀ {vs : List V} {ds : List PyData}, VaL H vs ds → vs.length = ds.length
  | _, _, .nil => rfl
  | _, _, .cons _ r => by rw [List.length_cons, List.length_cons, VaL.length r]
theorem VaL.get : ∀ {vs : List V} {ds : List PyData} {i : Nat} {v : V}, VaL H vs ds → vs[i]? = some v → ∃ d, ds[i]? = some d ∧ Va H v d
  | _, _, i, v, .nil, e => by simp at e
  | _, _, 0, v, .cons (d := d) a _, e => by
    obtain rfl := Option.some.inj e
    exact ⟨d, rfl, a⟩
  | _, _, i + 1, v, .cons _ r, e => VaL.get (i := i) r e
theorem VaL.snoc : ∀ {vs : List V} {ds : List PyData} {v : V} {d : PyData}, VaL H vs ds → Va H v d → VaL H (vs ++ [v]) (ds ++ [d])
  | _, _, _, _, .nil, a => .cons a .nil
  | _, _, _, _, .cons b r, a => .cons b (VaL.snoc r a)
theorem Va.inv {v : V} {d : PyData} (h : Va H v d) : (v = .non ∧ d = .none) ∨ (∃ b, v = .bl b ∧ d = .bool b) ∨ (∃ i, v = .int i ∧ d = .int i) ∨ (∃ x, v = .str x ∧ d = .str x) ∨
    ∃ a xs ds, v = .ref a ∧ d = .tuple ds ∧ Tk H a xs ∧ VaL H xs ds := by
  cases h with
  | non => exact .inl ⟨rfl, rfl⟩
  | bl b => exact .inr (.inl ⟨b, rfl, rfl⟩)
  | int i => exact .inr (.inr (.inl ⟨i, rfl, rfl⟩))
  | str x => exact .inr (.inr (.inr (.inl ⟨x, rfl, rfl⟩)))
  | tup t r => exact .inr (.inr (.inr (.inr ⟨_, _, _, rfl, rfl, t, r⟩)))
end
/-! ### records -/
/-- a count in groups of seven bits -/
def cnt (n : Nat) : List Int := if h : n < 128 then [(n : Int)] else (128 + (n % 128 : Nat) : Int) :: cnt (n / 128)
termination_by n
decreasing_by omega
theorem cnt_lt {n : Nat} (h : n < 128) : cnt n = [(n : Int)] := by
  rw [cnt, dif_pos h]
theorem cnt_ge {n : Nat} (h : 128 ≤ n) : cnt n = (128 + (n % 128 : Nat) : Int) :: cnt (n / 128) := by
  rw [cnt, dif_neg (by omega)]
theorem cnt_pos (n : Nat) : 1 ≤ (cnt n).length := by
  by_cases h : n < 128
  · rw [cnt_lt h]
    exact Nat.le_refl 1
  · rw [cnt_ge (by omega)]
    simp
theorem cnt_len : ∀ (k n : Nat), n < 128 ^ (k + 1) → (cnt n).length ≤ k + 1
  | 0, n, h => by
    rw [cnt_lt (by simpa using h)]
    exact Nat.le_refl 1
  | k + 1, n, h => by
    by_cases c : n < 128
    · rw [cnt_lt c]
      simp
    · rw [cnt_ge (by omega), List.length_cons]
      have q : n / 128 < 128 ^ (k + 1) := by
        rw [Nat.div_lt_iff_lt_mul (by decide)]
        rw [Nat.pow_succ] at h
        exact h
      have := cnt_len k (n / 128) q
      omega
theorem cnt_byte (n : Nat) : ∀ b ∈ cnt n, 0 ≤ b ∧ b < 256 := by
  induction n using Nat.strongRecOn with
  | ind n ih =>
    intro b hb
    by_cases c : n < 128
    · rw [cnt_lt c] at hb
      obtain rfl := List.mem_singleton.mp hb
      omega
    · rw [cnt_ge (by omega)] at hb
      rcases List.mem_cons.mp hb with rfl | hb
      · omega
      · exact ih (n / 128) (by omega) b hb
/-- the signs of a text, as bytes -/
def sgn (x : Str) : List Int := x.cps.toList.map fun c : Nat => (c : Int)
mutual
def rcd : PyData → List Int
  | .none => [0]
  | .bool b => [if b then 2 else 1]
  | .int i => if 0 ≤ i then 3 :: cnt i.toNat else 4 :: cnt (-i - 1).toNat
  | .str x => 5 :: (cnt x.length ++ sgn x)
  | .tuple ds => 6 :: (cnt ds.length ++ rcdL ds)
  | .list _ => []
  | .dict _ => []
def rcdL : List PyData → List Int
  | [] => []
  | d :: ds => rcd d ++ rcdL ds
end
theorem rcdL_snoc : ∀ (ds : List PyData) (d : PyData), rcdL (ds ++ [d]) = rcdL ds ++ rcd d
  | [], d => by simp [rcdL]
  | e :: ds, d => by
    rw [List.cons_append, rcdL, rcdL, rcdL_snoc ds d, List.append_assoc]
/-- a sign that may stand in a text -/
def okSign (n : Nat) : Prop := 32 ≤ n ∧ n ≤ 126 ∧ n ≠ 37
mutual
/-- a value of the document, with small texts and ints -/
def OkV : PyData → Prop
  | .none => True
  | .bool _ => True
  | .int i => i.natAbs < 2 ^ 100
  | .str x => x.length ≤ 1000 ∧ ∀ c ∈ x.cps.toList, okSign c
  | .tuple ds => ds.length ≤ 1000 ∧ OkL ds
  | .list _ => False
  | .dict _ => False
def OkL : List PyData → Prop
  | [] => True
  | d :: ds => OkV d ∧ OkL ds
end
theorem OkL.snoc : ∀ {ds : List PyData} {d : PyData}, OkL ds → OkV d → OkL (ds ++ [d])
  | [], d, _, h => by
    show OkL [d]
    unfold OkL OkL
    exact ⟨h, trivial⟩
  | e :: ds, d, h, k => by
    unfold OkL at h
    show OkL (e :: (ds ++ [d]))
    unfold OkL
    exact ⟨h.1, OkL.snoc h.2 k⟩
theorem depthAll_snoc : ∀ (ds : List PyData) (d : PyData), PyData.depthAll (ds ++ [d]) = max (PyData.depthAll ds) d.depth
  | [], d => by simp [PyData.depthAll]
  | e :: ds, d => by
    rw [List.cons_append, PyData.depthAll, PyData.depthAll, depthAll_snoc ds d]
    omega
/-! ### reading a record: the first fault from the left -/
inductive Rd1 (α : Type) where
  | ok (a : α) (rest : List Int) (e : Nat)
  | inc (k : Nat)
  | inv (k : Nat)
/-- a count: the groups, the first of them at the place where f is true -/
def rdC : List Int → Nat → Bool → Nat → Nat → Rd1 Nat
  | [], p, _, _, _ => .inc p
  | b :: r, p, f, acc, w =>
    if b < 128 then (if b = 0 ∧ f = false then .inv p else .ok (acc + w * b.toNat) r (p + 1))
    else rdC r (p + 1) false (acc + w * (b.toNat % 128)) (w * 128)
/-- the signs of a text -/
def rdS : Nat → List Int → Nat → Rd1 (List Nat)
  | 0, l, p => .ok [] l p
  | n + 1, [], p => .inc p
  | n + 1, b :: r, p =>
    if 32 ≤ b ∧ b ≤ 126 ∧ b ≠ 37 then
      (match rdS n r (p + 1) with
        | .ok xs r' e => .ok (b.toNat :: xs) r' e
        | .inc k => .inc k
        | .inv k => .inv k)
    else .inv p
/-- items one behind the other -/
def rdI (f : List Int → Nat → Rd1 PyData) : Nat → List Int → Nat → Rd1 (List PyData)
  | 0, l, p => .ok [] l p
  | n + 1, l, p =>
    match f l p with
      | .ok d r e =>
        (match rdI f n r e with
          | .ok ds r' e' => .ok (d :: ds) r' e'
          | .inc k => .inc k
          | .inv k => .inv k)
      | .inc k => .inc k
      | .inv k => .inv k
/-- behind the count -/
def rdB (it : Option (List Int → Nat → Rd1 PyData)) (b : Int) (c : Nat) (r : List Int) (e p : Nat) : Rd1 PyData :=
  if b = 3 then .ok (.int c) r e
  else if b = 4 then .ok (.int (-(c : Int) - 1)) r e
  else if b = 5 then
    (match rdS c r e with
      | .ok xs r' e' => .ok (.str ⟨xs.toArray⟩) r' e'
      | .inc k => .inc k
      | .inv k => .inv k)
  else
    (match it with
      | some f =>
        (match rdI f c r e with
          | .ok ds r' e' => .ok (.tuple ds) r' e'
          | .inc k => .inc k
          | .inv k => .inv k)
      | Option.none => .inv p)
def unp1 (it : Option (List Int → Nat → Rd1 PyData)) : List Int → Nat → Rd1 PyData
  | [], p => .inc p
  | b :: r, p =>
    if 6 < b ∨ (b = 6 ∧ it.isNone = true) then .inv p
    else if b = 0 then .ok .none r (p + 1)
    else if b ≤ 2 then .ok (.bool (decide (b = 2))) r (p + 1)
    else
      (match rdC r (p + 1) true 0 1 with
        | .ok c r' e => rdB it b c r' e p
        | .inc k => .inc k
        | .inv k => .inv k)
/-- a value inside of tuples; L more of them may stand within one another -/
def unp : Nat → List Int → Nat → Rd1 PyData
  | 0 => unp1 Option.none
  | L + 1 => unp1 (some (unp L))
/-! ### what is written is read -/
theorem rdC_cnt (n : Nat) : ∀ (r : List Int) (p : Nat) (f : Bool) (acc w : Nat), (f = true ∨ n ≠ 0) → rdC (cnt n ++ r) p f acc w = .ok (acc + w * n) r (p + (cnt n).length) := by
  induction n using Nat.strongRecOn with
  | ind n ih =>
    intro r p f acc w h
    by_cases c : n < 128
    · rw [cnt_lt c]
      show rdC ((n : Int) :: r) p f acc w = _
      rw [rdC, if_pos (by omega), if_neg (by
        rintro ⟨a, b⟩
        rcases h with h | h
        · rw [h] at b; cases b
        · omega)]
      rfl
    · rw [cnt_ge (by omega)]
      show rdC ((128 + (n % 128 : Nat) : Int) :: (cnt (n / 128) ++ r)) p f acc w = _
      rw [rdC, if_neg (by omega), ih (n / 128) (by omega) r (p + 1) false _ _ (.inr (by omega))]
      have e1 : ((128 + (n % 128 : Nat) : Int)).toNat % 128 = n % 128 := by omega
      rw [e1, List.length_cons]
      have e2 : acc + w * (n % 128) + w * 128 * (n / 128) = acc + w * n := by
        have : n = n % 128 + 128 * (n / 128) := by omega
        have q : w * n = w * (n % 128) + w * (128 * (n / 128)) := by rw [← Nat.mul_add, ← this]
        rw [q, Nat.mul_assoc, Nat.add_assoc]
      rw [e2, show p + 1 + (cnt (n / 128)).length = p + ((cnt (n / 128)).length + 1) by omega]
theorem rdC_cut (n : Nat) : ∀ (k p : Nat) (f : Bool) (acc w : Nat), k < (cnt n).length → rdC ((cnt n).take k) p f acc w = .inc (p + k) := by
  induction n using Nat.strongRecOn with
  | ind n ih =>
    intro k p f acc w h
    by_cases c : n < 128
    · rw [cnt_lt c] at h ⊢
      have : k = 0 := by simpa using h
      rw [this]
      rfl
    · rw [cnt_ge (by omega)] at h ⊢
      cases k with
      | zero => rfl
      | succ k =>
        rw [List.take_succ_cons, rdC, if_neg (by omega), ih (n / 128) (by omega) k (p + 1) false _ _ (by rw [List.length_cons] at h; omega)]
        rw [show p + 1 + k = p + (k + 1) by omega]
theorem rdS_sgn : ∀ (xs : List Nat) (r : List Int) (p : Nat), (∀ c ∈ xs, okSign c) → rdS xs.length (xs.map (fun c : Nat => (c : Int)) ++ r) p = .ok xs r (p + xs.length)
  | [], r, p, _ => rfl
  | c :: xs, r, p, h => by
    have hc := h c List.mem_cons_self
    have hr := rdS_sgn xs r (p + 1) fun d hd => h d (List.mem_cons_of_mem _ hd)
    unfold okSign at hc
    show rdS (xs.length + 1) ((c : Int) :: (xs.map (fun c : Nat => (c : Int)) ++ r)) p = _
    rw [rdS, if_pos (by omega), hr]
    show Rd1.ok ((c : Int).toNat :: xs) r (p + 1 + xs.length) = _
    rw [Int.toNat_natCast, List.length_cons, show p + 1 + xs.length = p + (xs.length + 1) by omega]
theorem rdS_cut : ∀ (xs : List Nat) (k p : Nat), (∀ c ∈ xs, okSign c) → k < xs.length → rdS xs.length ((xs.map (fun c : Nat => (c : Int))).take k) p = .inc (p + k)
  | c :: xs, 0, p, _, _ => rfl
  | c :: xs, k + 1, p, h, hk => by
    have hc := h c List.mem_cons_self
    have hr := rdS_cut xs k (p + 1) (fun d hd => h d (List.mem_cons_of_mem _ hd)) (by simpa using hk)
    unfold okSign at hc
    show rdS (xs.length + 1) ((c : Int) :: ((xs.map (fun c : Nat => (c : Int))).take k)) p = _
    rw [rdS, if_pos (by omega), hr]
    show Rd1.inc (p + 1 + k) = _
    rw [show p + 1 + k = p + (k + 1) by omega]
theorem unp1_cons (it : Option (List Int → Nat → Rd1 PyData)) (b : Int) (r : List Int) (p : Nat) : unp1 it (b :: r) p = if 6 < b ∨ (b = 6 ∧ it.isNone = true) then .inv p
    else if b = 0 then .ok .none r (p + 1)
    else if b ≤ 2 then .ok (.bool (decide (b = 2))) r (p + 1)
    else (match rdC r (p + 1) true 0 1 with | .ok c r' e => rdB it b c r' e p | .inc k => .inc k | .inv k => .inv k) := rfl
theorem unp_step (L : Nat) : ∃ it : Option (List Int → Nat → Rd1 PyData), unp L = unp1 it ∧ (∀ L', L = L' + 1 → it = some (unp L')) := by
  cases L with
  | zero => exact ⟨Option.none, rfl, fun L' h => by omega⟩
  | succ L => exact ⟨some (unp L), rfl, fun L' h => by cases h; rfl⟩
/-- the head of a record: a first byte from 3 to 5, or 6 where a level is left -/
theorem unp_head {L : Nat} {b : Int} {r : List Int} {p : Nat} (h0 : 3 ≤ b) (h1 : b ≤ 6) (h2 : b = 6 → L ≠ 0) :
    ∃ it, (∀ L', L = L' + 1 → it = some (unp L')) ∧ unp L (b :: r) p = (match rdC r (p + 1) true 0 1 with | .ok c r' e => rdB it b c r' e p | .inc k => .inc k | .inv k => .inv k) := by
  obtain ⟨it, e, hL⟩ := unp_step L
  refine ⟨it, hL, ?_⟩
  rw [e]
  have no : ¬ (6 < b ∨ (b = 6 ∧ it.isNone = true)) := by
    rintro (h | ⟨h, hn⟩)
    · omega
    · cases L with
      | zero => exact h2 h rfl
      | succ L =>
        rw [hL L rfl] at hn
        cases hn
  show (if 6 < b ∨ (b = 6 ∧ it.isNone = true) then Rd1.inv p else if b = 0 then _ else if b ≤ 2 then _ else _) = _
  rw [if_neg no, if_neg (by omega), if_neg (by omega)]
theorem sgn_len (x : Str) : (sgn x).length = x.length := by unfold sgn; rw [List.length_map]; rfl
mutual
theorem unp_rcd : ∀ (d : PyData) (L : Nat) (r : List Int) (p : Nat), OkV d → d.depth ≤ L → unp L (rcd d ++ r) p = .ok d r (p + (rcd d).length)
  | .none, L, r, p, _, _ => by
    obtain ⟨it, e, _⟩ := unp_step L
    rw [e, rcd]
    show unp1 it ((0 : Int) :: r) p = Rd1.ok .none r (p + 1)
    rw [unp1_cons, if_neg (by rintro (h | ⟨h, _⟩) <;> omega), if_pos rfl]
  | .bool b, L, r, p, _, _ => by
    obtain ⟨it, e, _⟩ := unp_step L
    rw [e, rcd]
    cases b
    · show unp1 it ((1 : Int) :: r) p = Rd1.ok (.bool false) r (p + 1)
      rw [unp1_cons, if_neg (by rintro (h | ⟨h, _⟩) <;> omega), if_neg (by decide), if_pos (by decide)]
      rfl
    · show unp1 it ((2 : Int) :: r) p = Rd1.ok (.bool true) r (p + 1)
      rw [unp1_cons, if_neg (by rintro (h | ⟨h, _⟩) <;> omega), if_neg (by decide), if_pos (by decide)]
      rfl
  | .int i, L, r, p, _, _ => by
    rw [rcd]
    split
    · obtain ⟨it, _, e⟩ := unp_head (L := L) (b := 3) (r := cnt i.toNat ++ r) (p := p) (by decide) (by decide) (fun h => absurd h (by decide))
      show unp L (3 :: (cnt i.toNat ++ r)) p = _
      rw [e, rdC_cnt _ _ _ _ _ _ (.inl rfl)]
      show rdB it 3 _ r _ p = _
      unfold rdB
      rw [if_pos rfl, List.length_cons, Nat.zero_add, Nat.one_mul, Int.toNat_of_nonneg (by assumption), show p + 1 + (cnt i.toNat).length = p + ((cnt i.toNat).length + 1) by omega]
    · obtain ⟨it, _, e⟩ := unp_head (L := L) (b := 4) (r := cnt (-i - 1).toNat ++ r) (p := p) (by decide) (by decide) (fun h => absurd h (by decide))
      show unp L (4 :: (cnt (-i - 1).toNat ++ r)) p = _
      rw [e, rdC_cnt _ _ _ _ _ _ (.inl rfl)]
      show rdB it 4 _ r _ p = _
      unfold rdB
      rw [if_neg (by decide), if_pos rfl, List.length_cons, Nat.zero_add, Nat.one_mul, Int.toNat_of_nonneg (by omega), show p + 1 + (cnt (-i - 1).toNat).length = p + ((cnt (-i - 1).toNat).length + 1) by omega, show -(-i - 1) - 1 = i by omega]
  | .str x, L, r, p, ok, _ => by
    rw [rcd]
    obtain ⟨it, _, e⟩ := unp_head (L := L) (b := 5) (r := cnt x.length ++ (sgn x ++ r)) (p := p) (by decide) (by decide) (fun h => absurd h (by decide))
    rw [List.cons_append, List.append_assoc, e, rdC_cnt _ _ _ _ _ _ (.inl rfl)]
    show rdB it 5 _ _ _ p = _
    unfold rdB
    unfold OkV at ok
    rw [if_neg (by decide), if_neg (by decide), if_pos rfl, Nat.zero_add, Nat.one_mul]
    have q := rdS_sgn x.cps.toList r (p + 1 + (cnt x.length).length) ok.2
    have ex : rdS x.length (sgn x ++ r) (p + 1 + (cnt x.length).length) = .ok x.cps.toList r (p + 1 + (cnt x.length).length + x.length) := q
    rw [ex]
    show Rd1.ok (PyData.str ⟨x.cps.toList.toArray⟩) r _ = _
    rw [List.length_cons, List.length_append, sgn_len, show p + 1 + (cnt x.length).length + x.length = p + ((cnt x.length).length + x.length + 1) by omega]
  | .tuple ds, L, r, p, ok, hd => by
    rw [PyData.depth] at hd
    cases L with
    | zero => omega
    | succ L =>
      rw [rcd]
      obtain ⟨it, hit, e⟩ := unp_head (L := L + 1) (b := 6) (r := cnt ds.length ++ (rcdL ds ++ r)) (p := p) (by decide) (by decide) (fun _ => by omega)
      rw [List.cons_append, List.append_assoc, e, rdC_cnt _ _ _ _ _ _ (.inl rfl)]
      show rdB it 6 _ _ _ p = _
      unfold rdB
      unfold OkV at ok
      rw [if_neg (by decide), if_neg (by decide), if_neg (by decide), hit L rfl, Nat.zero_add, Nat.one_mul]
      show (match rdI (unp L) ds.length (rcdL ds ++ r) (p + 1 + (cnt ds.length).length) with | .ok ds r' e' => Rd1.ok (PyData.tuple ds) r' e' | .inc k => .inc k | .inv k => .inv k) = _
      rw [unp_rcdL ds L r _ ok.2 (by omega)]
      show Rd1.ok (PyData.tuple ds) r _ = _
      rw [List.length_cons, List.length_append, show p + 1 + (cnt ds.length).length + (rcdL ds).length = p + ((cnt ds.length).length + (rcdL ds).length + 1) by omega]
  | .list _, L, r, p, ok, _ => by unfold OkV at ok; exact ok.elim
  | .dict _, L, r, p, ok, _ => by unfold OkV at ok; exact ok.elim
theorem unp_rcdL : ∀ (ds : List PyData) (L : Nat) (r : List Int) (p : Nat), OkL ds → PyData.depthAll ds ≤ L → rdI (unp L) ds.length (rcdL ds ++ r) p = .ok ds r (p + (rcdL ds).length)
  | [], L, r, p, _, _ => by
    rw [rcdL]
    rfl
  | d :: ds, L, r, p, ok, hd => by
    rw [PyData.depthAll] at hd
    unfold OkL at ok
    rw [rcdL, List.append_assoc]
    show rdI (unp L) (ds.length + 1) _ p = _
    rw [rdI, unp_rcd d L (rcdL ds ++ r) p ok.1 (by omega)]
    show (match rdI (unp L) ds.length (rcdL ds ++ r) (p + (rcd d).length) with | .ok ds r' e' => Rd1.ok (d :: ds) r' e' | .inc k => .inc k | .inv k => .inv k) = _
    rw [unp_rcdL ds L r _ ok.2 (by omega)]
    show Rd1.ok (d :: ds) r _ = _
    rw [List.length_append, Nat.add_assoc]
end
theorem unp_nil (L p : Nat) : unp L [] p = .inc p := by
  obtain ⟨it, e, _⟩ := unp_step L
  rw [e]
  rfl
theorem take_le {a b : List Int} {k : Nat} (h : k < a.length) : (a ++ b).take k = a.take k := List.take_append_of_le_length (Nat.le_of_lt h)
theorem take_ge {a b : List Int} {k : Nat} (h : a.length ≤ k) : (a ++ b).take k = a ++ b.take (k - a.length) := by
  rw [List.take_append, List.take_of_length_le h]
mutual
theorem unp_cut : ∀ (d : PyData) (L k p : Nat), OkV d → d.depth ≤ L → k < (rcd d).length → unp L ((rcd d).take k) p = .inc (p + k)
  | d, L, 0, p, _, _, _ => by
    rw [List.take_zero]
    exact unp_nil L p
  | .none, L, k + 1, p, _, _, h => by
    rw [rcd] at h
    simp at h
  | .bool b, L, k + 1, p, _, _, h => by
    rw [rcd] at h
    simp at h
  | .int i, L, k + 1, p, _, _, h => by
    rw [rcd] at h ⊢
    split at h
    · rename_i c
      rw [if_pos c, List.take_succ_cons]
      obtain ⟨it, _, e⟩ := unp_head (L := L) (b := 3) (r := (cnt i.toNat).take k) (p := p) (by decide) (by decide) (fun h => absurd h (by decide))
      rw [e, rdC_cut _ _ _ _ _ _ (by rw [List.length_cons] at h; omega)]
      show Rd1.inc (p + 1 + k) = _
      rw [show p + 1 + k = p + (k + 1) by omega]
    · rename_i c
      rw [if_neg c, List.take_succ_cons]
      obtain ⟨it, _, e⟩ := unp_head (L := L) (b := 4) (r := (cnt (-i - 1).toNat).take k) (p := p) (by decide) (by decide) (fun h => absurd h (by decide))
      rw [e, rdC_cut _ _ _ _ _ _ (by rw [List.length_cons] at h; omega)]
      show Rd1.inc (p + 1 + k) = _
      rw [show p + 1 + k = p + (k + 1) by omega]
  | .str x, L, k + 1, p, ok, _, h => by
    rw [rcd] at h ⊢
    rw [List.take_succ_cons]
    obtain ⟨it, _, e⟩ := unp_head (L := L) (b := 5) (r := (cnt x.length ++ sgn x).take k) (p := p) (by decide) (by decide) (fun h => absurd h (by decide))
    rw [List.length_cons, List.length_append] at h
    rw [e]
    by_cases c : k < (cnt x.length).length
    · rw [take_le c, rdC_cut _ _ _ _ _ _ c]
      show Rd1.inc (p + 1 + k) = _
      rw [show p + 1 + k = p + (k + 1) by omega]
    · rw [take_ge (by omega), rdC_cnt _ _ _ _ _ _ (.inl rfl)]
      show rdB it 5 _ _ _ p = _
      unfold rdB
      unfold OkV at ok
      rw [if_neg (by decide), if_neg (by decide), if_pos rfl, Nat.zero_add, Nat.one_mul]
      have hk : k - (cnt x.length).length < x.cps.toList.length := by
        have := sgn_len x
        have e2 : x.cps.toList.length = x.length := rfl
        omega
      have q := rdS_cut x.cps.toList (k - (cnt x.length).length) (p + 1 + (cnt x.length).length) ok.2 hk
      have ex : rdS x.length ((sgn x).take (k - (cnt x.length).length)) (p + 1 + (cnt x.length).length) = .inc (p + 1 + (cnt x.length).length + (k - (cnt x.length).length)) := q
      rw [ex]
      show Rd1.inc _ = _
      rw [show p + 1 + (cnt x.length).length + (k - (cnt x.length).length) = p + (k + 1) by omega]
  | .tuple ds, L, k + 1, p, ok, hd, h => by
    rw [PyData.depth] at hd
    cases L with
    | zero => omega
    | succ L =>
      rw [rcd] at h ⊢
      rw [List.take_succ_cons]
      obtain ⟨it, hit, e⟩ := unp_head (L := L + 1) (b := 6) (r := (cnt ds.length ++ rcdL ds).take k) (p := p) (by decide) (by decide) (fun _ => by omega)
      rw [List.length_cons, List.length_append] at h
      rw [e]
      by_cases c : k < (cnt ds.length).length
      · rw [take_le c, rdC_cut _ _ _ _ _ _ c]
        show Rd1.inc (p + 1 + k) = _
        rw [show p + 1 + k = p + (k + 1) by omega]
      · rw [take_ge (by omega), rdC_cnt _ _ _ _ _ _ (.inl rfl)]
        show rdB it 6 _ _ _ p = _
        unfold rdB
        unfold OkV at ok
        rw [if_neg (by decide), if_neg (by decide), if_neg (by decide), hit L rfl, Nat.zero_add, Nat.one_mul]
        show (match rdI (unp L) ds.length ((rcdL ds).take (k - (cnt ds.length).length)) (p + 1 + (cnt ds.length).length) with | .ok ds r' e' => Rd1.ok (PyData.tuple ds) r' e' | .inc k => .inc k | .inv k => .inv k) = _
        rw [unp_cutL ds L _ _ ok.2 (by omega) (by omega)]
        show Rd1.inc _ = _
        rw [show p + 1 + (cnt ds.length).length + (k - (cnt ds.length).length) = p + (k + 1) by omega]
  | .list _, L, k + 1, p, ok, _, _ => by unfold OkV at ok; exact ok.elim
  | .dict _, L, k + 1, p, ok, _, _ => by unfold OkV at ok; exact ok.elim
theorem unp_cutL : ∀ (ds : List PyData) (L k p : Nat), OkL ds → PyData.depthAll ds ≤ L → k < (rcdL ds).length → rdI (unp L) ds.length ((rcdL ds).take k) p = .inc (p + k)
  | [], L, k, p, _, _, h => by
    rw [rcdL] at h
    cases h
  | d :: ds, L, k, p, ok, hd, h => by
    rw [PyData.depthAll] at hd
    unfold OkL at ok
    rw [rcdL] at h ⊢
    rw [List.length_append] at h
    show rdI (unp L) (ds.length + 1) _ p = _
    by_cases c : k < (rcd d).length
    · rw [take_le c, rdI, unp_cut d L k p ok.1 (by omega) c]
    · rw [take_ge (by omega), rdI, unp_rcd d L _ p ok.1 (by omega)]
      show (match rdI (unp L) ds.length ((rcdL ds).take (k - (rcd d).length)) (p + (rcd d).length) with | .ok ds r' e' => Rd1.ok (d :: ds) r' e' | .inc k => .inc k | .inv k => .inv k) = _
      rw [unp_cutL ds L _ _ ok.2 (by omega) (by omega)]
      show Rd1.inc _ = _
      rw [show p + (rcd d).length + (k - (rcd d).length) = p + k by omega]
end
/-! ### what is read was written so -/
def By (l : List Int) : Prop := ∀ b ∈ l, 0 ≤ b ∧ b < 256
theorem by_tail {b : Int} {l : List Int} (h : By (b :: l)) : By l := fun c hc => h c (List.mem_cons_of_mem _ hc)
theorem by_right : ∀ {a r : List Int}, By (a ++ r) → By r := fun h c hc => h c (List.mem_append_right _ hc)
theorem rdC_ok : ∀ (l : List Int) (p : Nat) (f : Bool) (acc w c e : Nat) (r : List Int), By l → rdC l p f acc w = .ok c r e → ∃ n, l = cnt n ++ r ∧ c = acc + w * n ∧ e = p + (cnt n).length ∧ (f = false → n ≠ 0)
  | [], p, f, acc, w, c, e, r, _, h => by cases h
  | b :: l, p, f, acc, w, c, e, r, hb, h => by
    have b0 := hb b List.mem_cons_self
    rw [rdC] at h
    by_cases c1 : b < 128
    · rw [if_pos c1] at h
      by_cases c2 : b = 0 ∧ f = false
      · rw [if_pos c2] at h
        cases h
      · rw [if_neg c2] at h
        cases h
        refine ⟨b.toNat, ?_, rfl, ?_, fun hf hz => c2 ⟨by omega, hf⟩⟩
        · rw [cnt_lt (by omega), Int.toNat_of_nonneg b0.1]
          rfl
        · rw [cnt_lt (by omega)]
          rfl
    · rw [if_neg c1] at h
      obtain ⟨n, e1, e2, e3, e4⟩ := rdC_ok l (p + 1) false _ _ c e r (by_tail hb) h
      have nz := e4 rfl
      have g : 128 ≤ b.toNat % 128 + 128 * n := by omega
      refine ⟨b.toNat % 128 + 128 * n, ?_, ?_, ?_, fun _ => by omega⟩
      · rw [cnt_ge g, show (b.toNat % 128 + 128 * n) / 128 = n by omega, show (128 + ((b.toNat % 128 + 128 * n) % 128 : Nat) : Int) = b by omega, e1]
        rfl
      · rw [e2, Nat.mul_add, Nat.mul_assoc, Nat.add_assoc]
      · rw [cnt_ge g, show (b.toNat % 128 + 128 * n) / 128 = n by omega, List.length_cons]
        omega
theorem rdS_ok : ∀ (n : Nat) (l : List Int) (p e : Nat) (xs : List Nat) (r : List Int), rdS n l p = .ok xs r e → l = xs.map (fun c : Nat => (c : Int)) ++ r ∧ xs.length = n ∧ e = p + n ∧ ∀ c ∈ xs, okSign c
  | 0, l, p, e, xs, r, h => by
    cases h
    exact ⟨rfl, rfl, rfl, fun _ h => nomatch h⟩
  | n + 1, [], p, e, xs, r, h => by cases h
  | n + 1, b :: l, p, e, xs, r, h => by
    rw [rdS] at h
    split at h
    · rename_i c
      cases q : rdS n l (p + 1) with
      | ok ys r' e' =>
        rw [q] at h
        cases h
        obtain ⟨e1, e2, e3, e4⟩ := rdS_ok n l (p + 1) _ _ _ q
        refine ⟨?_, by rw [List.length_cons, e2], by omega, fun d hd => ?_⟩
        · rw [List.map_cons, Int.toNat_of_nonneg (by omega), e1]
          rfl
        · rcases List.mem_cons.mp hd with rfl | hd
          · unfold okSign
            omega
          · exact e4 d hd
      | inc k => rw [q] at h; cases h
      | inv k => rw [q] at h; cases h
    · cases h
theorem rdI_ok {f : List Int → Nat → Rd1 PyData} (hf : ∀ l p d r e, By l → f l p = .ok d r e → l = rcd d ++ r ∧ e = p + (rcd d).length) :
    ∀ (n : Nat) (l : List Int) (p e : Nat) (ds : List PyData) (r : List Int), By l → rdI f n l p = .ok ds r e → l = rcdL ds ++ r ∧ ds.length = n ∧ e = p + (rcdL ds).length
  | 0, l, p, e, ds, r, _, h => by
    cases h
    rw [rcdL]
    exact ⟨rfl, rfl, rfl⟩
  | n + 1, l, p, e, ds, r, hb, h => by
    rw [rdI] at h
    cases q : f l p with
    | ok d r1 e1 =>
      rw [q] at h
      obtain ⟨a1, a2⟩ := hf _ _ _ _ _ hb q
      subst a1
      cases q2 : rdI f n r1 e1 with
      | ok ds2 r2 e2 =>
        simp only [q2] at h
        cases h
        obtain ⟨b1, b2, b3⟩ := rdI_ok hf n r1 e1 _ _ _ (by_right hb) q2
        refine ⟨?_, by rw [List.length_cons, b2], ?_⟩
        · rw [rcdL, b1, List.append_assoc]
        · rw [rcdL, List.length_append, b3, a2]
          omega
      | inc k => simp only [q2] at h; cases h
      | inv k => simp only [q2] at h; cases h
    | inc k => rw [q] at h; cases h
    | inv k => rw [q] at h; cases h
theorem unp1_ok {it : Option (List Int → Nat → Rd1 PyData)} (hf : ∀ f, it = some f → ∀ l p d r e, By l → f l p = .ok d r e → l = rcd d ++ r ∧ e = p + (rcd d).length) :
    ∀ (l : List Int) (p : Nat) (d : PyData) (r : List Int) (e : Nat), By l → unp1 it l p = .ok d r e → l = rcd d ++ r ∧ e = p + (rcd d).length
  | [], p, d, r, e, _, h => by cases h
  | b :: l, p, d, r, e, hb, h => by
    have b0 := hb b List.mem_cons_self
    rw [unp1_cons] at h
    by_cases c1 : 6 < b ∨ (b = 6 ∧ it.isNone = true)
    · rw [if_pos c1] at h
      cases h
    rw [if_neg c1] at h
    by_cases c2 : b = 0
    · rw [if_pos c2] at h
      cases h
      rw [rcd, c2]
      exact ⟨rfl, rfl⟩
    rw [if_neg c2] at h
    by_cases c3 : b ≤ 2
    · rw [if_pos c3] at h
      cases h
      rw [rcd]
      have : b = 1 ∨ b = 2 := by omega
      rcases this with rfl | rfl
      · exact ⟨rfl, rfl⟩
      · exact ⟨rfl, rfl⟩
    rw [if_neg c3] at h
    cases q : rdC l (p + 1) true 0 1 with
    | inc k => rw [q] at h; cases h
    | inv k => rw [q] at h; cases h
    | ok c r1 e1 =>
      simp only [q] at h
      obtain ⟨n, a1, a2, a3, _⟩ := rdC_ok l (p + 1) true 0 1 c e1 r1 (by_tail hb) q
      rw [Nat.zero_add, Nat.one_mul] at a2
      subst a2
      subst a1
      have hr1 : By r1 := by_right (by_tail hb)
      unfold rdB at h
      by_cases k3 : b = 3
      · rw [if_pos k3] at h
        cases h
        rw [rcd, if_pos (by omega), Int.toNat_natCast, k3, List.length_cons]
        exact ⟨rfl, by omega⟩
      rw [if_neg k3] at h
      by_cases k4 : b = 4
      · rw [if_pos k4] at h
        cases h
        rw [rcd, if_neg (by omega), show (-(-(c : Int) - 1) - 1).toNat = c by omega, k4, List.length_cons]
        exact ⟨rfl, by omega⟩
      rw [if_neg k4] at h
      by_cases k5 : b = 5
      · rw [if_pos k5] at h
        cases q2 : rdS c r1 e1 with
        | inc k => simp only [q2] at h; cases h
        | inv k => simp only [q2] at h; cases h
        | ok xs r2 e2 =>
          simp only [q2] at h
          cases h
          obtain ⟨s1, s2, s3, _⟩ := rdS_ok c r1 e1 _ _ _ q2
          have el : (⟨xs.toArray⟩ : Str).length = c := by
            rw [← s2]
            show xs.toArray.size = _
            simp
          have es : sgn ⟨xs.toArray⟩ = xs.map (fun c : Nat => (c : Int)) := by
            unfold sgn
            rfl
          rw [rcd, el, es, k5, List.cons_append, List.append_assoc, ← s1, List.length_cons, List.length_append, List.length_map]
          exact ⟨rfl, by omega⟩
      rw [if_neg k5] at h
      have k6 : b = 6 := by omega
      cases it with
      | none => exact absurd (.inr ⟨k6, rfl⟩) c1
      | some f =>
        cases q2 : rdI f c r1 e1 with
        | inc k => simp only [q2] at h; cases h
        | inv k => simp only [q2] at h; cases h
        | ok ds r2 e2 =>
          simp only [q2] at h
          cases h
          obtain ⟨s1, s2, s3⟩ := rdI_ok (hf f rfl) c r1 e1 _ _ _ hr1 q2
          rw [rcd, s2, k6, List.cons_append, List.append_assoc, ← s1, List.length_cons, List.length_append]
          exact ⟨rfl, by omega⟩
theorem unp_ok : ∀ (L : Nat) (l : List Int) (p : Nat) (d : PyData) (r : List Int) (e : Nat), By l → unp L l p = .ok d r e → l = rcd d ++ r ∧ e = p + (rcd d).length
  | 0 => unp1_ok fun f h => by cases h
  | L + 1 => unp1_ok fun f h => by
    cases h
    exact unp_ok L
/-! ### loops over range(lo, hi) -/
def FrR2 (lo : Int) (n : Nat) (g : TG) (tb : TS) (D : Ends) (σ : L2.St) (H : Hp) : Prop := ∃ W : Nat → Nat → L2.St → Hp → Prop, (∃ m, W 0 m σ H) ∧ ∀ i m σ H, W i m σ H →
  ((Itr lo n).stop i H ∧ D.nx σ H) ∨ ((Itr lo n).go i H ∧ ∃ N : L2.St → Hp → Prop, (∀ σ' H', N σ' H' → ∃ m', m' < m ∧ W (i + 1) m' σ' H') ∧ ∀ x H', (Itr lo n).yld i H x H' → g x σ H' fun σ2 H2 => tb { D with nx := N, ct := N, bk := D.nx } σ2 H2)
def wRg2 (zs : List V) (H : Hp) (R : Int → Nat → Hp → Prop) : Prop := ∃ i j : Int, zs = [V.int i, V.int j] ∧ (-(2 ^ 62) ≤ i ∧ i < 2 ^ 62 ∧ -(2 ^ 62) ≤ j ∧ j < 2 ^ 62) ∧ R i (j - i).toNat H
section
variable {σ : L2.St} {H : Hp} {nx bk ct : L2.St → Hp → Prop} {rt : VK} {as : TA} {g : TG} {tb : TS} {n : Nat} {lo : Int}
theorem rd_forR2 (h : as σ H fun zs H1 => wRg2 zs H1 fun lo n H2 => FrR2 lo n g tb ⟨nx, rt, bk, ct⟩ σ H2) : tFor (iRng2 as) g tb ⟨nx, rt, bk, ct⟩ σ H := by
  unfold tFor iRng2
  exact h
theorem rd_wRg2 {i j : Int} {R : Int → Nat → Hp → Prop} (h0 : 0 ≤ i) (h1 : i ≤ 1000000) (h2 : 0 ≤ j) (h3 : j ≤ 1000000) (h : R i (j - i).toNat H) : wRg2 [.int i, .int j] H R := ⟨i, j, rfl, ⟨by omega, by omega, by omega, by omega⟩, h⟩
theorem forR2 (Pv : Nat → L2.St → Hp → Prop) (h0 : Pv 0 σ H) (hs : ∀ (i : Nat) σ H, i < n → Pv i σ H → g (.int (lo + (i : Nat))) σ H fun σ2 H2 => tb ⟨Pv (i + 1), rt, nx, Pv (i + 1)⟩ σ2 H2) (hd : ∀ σ H, Pv n σ H → nx σ H) :
    FrR2 lo n g tb ⟨nx, rt, bk, ct⟩ σ H := for_range (D := ⟨nx, rt, bk, ct⟩) Pv h0 hs hd
end
/-! ### a method of a class of the program's own -/
def Mn (K : PySem.W.Frag) (C : Addr) (m q : Str) (st : Stmt) (ps : List Str) : Prop := ∃ f fd, Meth K C m f ∧ Fun K m q st f fd ∧ ∀ (s : Shared) (us : List Value), us.length = ps.length → BindsTo s fd ⟨us, []⟩ (ps.zip us)
def OkM (P : Program) (w : World) (K : PySem.W.Frag) (mg : Str → Option Value) (base : Heap) (CX : CXT) (k : Nat) (C : Addr) (m : Str) (ps : List Str) (sp : Sp) : Prop :=
  ∃ f fd, Meth K C m f ∧ Binds K fd ps [] ∧ FnOk P w K mg base CX k f fd ps sp
structure Cs (K : PySem.W.Frag) (mg : Str → Option Value) (x : Str) (C : Addr) : Prop where
  cl : Cls K C
  g : mg x = some (.ref C)
  made : PySem.W.makesIn K C = true
  kp : PySem.W.keepIn K (.ref C) = true
theorem cs_mk {K : PySem.W.Frag} {h : Heap} {mg : Str → Option Value} {x : Str} {C : Addr} (X : K.In h) (G : h.Ns mainGlobals mg) (a : PySem.W.nsIn K mainGlobals x = some (some (.ref C)))
    (pg : PySem.W.plainGet K C Str.empty = true) (hd : PySem.W.hasDictIn K C = true) (po : PySem.W.plainOver K C = true) (sa : PySem.W.findIn K (.ref C) "__setattr__" = some (some (.builtin "object.__setattr__"))) (mk : PySem.W.makesIn K C = true) (kc : PySem.W.keepIn K (.ref C) = true) : Cs K mg x C :=
  ⟨⟨pg, hd, po, sa⟩, PySem.W.mg_of X G a, mk, kc⟩
theorem mn_mk {K : PySem.W.Frag} {C : Addr} {m q : Str} {st : Stmt} {ps : List Str} {f : Addr} {oc kV doc pm cdv ct : Value} {od an : Option Addr} {osl : Array (Option Value)}
    (a : PySem.W.findIn K (.ref C) m = some (some (.ref f))) (i : PySem.W.isFn K (.ref f) = true) (l : K.lookup f = some ⟨oc, od, .func (PySem.W.fnOf m q (defArgs st) (defBody st) (defScope st) .none kV doc pm an cdv ct), osl⟩)
    (c : PySem.W.codeIn K cdv q = true) (k : PySem.W.keepIn K (.ref f) = true)
    (b : ∀ (kV doc pm : Value) (an : Option Addr) (cdv ct : Value) (us : List Value), us.length = ps.length → bindArgs (PySem.W.fnOf m q (defArgs st) (defBody st) (defScope st) .none kV doc pm an cdv ct) ⟨us, []⟩ = pure (ps.zip us)) : Mn K C m q st ps :=
  ⟨f, _, ⟨a, i, k⟩, fun_mk l c k, fun s us hl => .of_eq (b kV doc pm an cdv ct us hl)⟩
section
variable {P : Program} {w : World} {K : PySem.W.Frag} {mg : Str → Option Value} {base : Heap} {k : Nat} {C : Addr} {m q : Str} {st : Stmt} {ps N : List Str} {sp : Sp}
theorem ok_mkM (d : Mn K C m q st ps) (S : FnScope N ps (defScope st)) (len : ∀ vs H Q E, sp vs H Q E → vs.length = ps.length)
    (hbody : ∀ (f : Addr) (cdv : Value) (A : Around) (outer : List Env) (s : Shared) (H : Hp) (vs : List V) (Q : VK) (E : XK), Room k (A.deeper (envOfC q (defScope st) s.heap.objs.size f cdv)) → sp vs H Q E →
      ∃ t, PSs (cxOf CX0 P w K mg base N q (defScope st) f cdv A outer s H E).nox (defBody st) t ∧ t ⟨fun _ H' => Q .non H', Q, fun _ _ => False, fun _ _ => False⟩ (start N vs) H) : OkM P w K mg base CX0 (k + 1) C m ps sp := by
  obtain ⟨f, fd, M, F, b⟩ := d
  exact ⟨f, fd, M, binds_of b, F.ok S len fun cdv A outer s H vs Q E hr h => hbody f cdv A outer s H vs Q E hr h⟩
theorem ok_mkMX (d : Mn K C m q st ps) (S : FnScope N ps (defScope st)) (len : ∀ vs H Q E, sp vs H Q E → vs.length = ps.length)
    (hbody : ∀ (f : Addr) (cdv : Value) (A : Around) (outer : List Env) (s : Shared) (H : Hp) (vs : List V) (Q : VK) (E : XK), Room k (A.deeper (envOfC q (defScope st) s.heap.objs.size f cdv)) → sp vs H Q E →
      ∃ t, PSs (cxOf (L2.CX P w) P w K mg base N q (defScope st) f cdv A outer s H E) (defBody st) t ∧ t ⟨fun _ H' => Q .non H', Q, fun _ _ => False, fun _ _ => False⟩ (start N vs) H) : OkM P w K mg base (L2.CX P w) (k + 1) C m ps sp := by
  obtain ⟨f, fd, M, F, b⟩ := d
  exact ⟨f, fd, M, binds_of b, F.okX S len fun cdv A outer s H vs Q E hr h => hbody f cdv A outer s H vs Q E hr h⟩
end
section
variable {X : Cx} {C : Addr} {k : Nat} {m x : Str} {ps : List Str} {sp : Sp} {ta : TE} {t : TA} {o e : Expr} {es : List Expr} {p pos apos : Pos} {E : XK} {E' : L2.St → XK}
theorem pe_methD {pl : Sem Bool} {CX : CXT} (c : Cls X.K C) (O : OkM X.prog X.w X.K X.mg X.base CX k C m ps sp) (hr : Room k X.A) (hx : Passes CX X E) (he : PE X o ta) (ha : PA X (e :: es) t)
    (hst : starEach (e :: es) X.env = (false, eval e X.env) :: starEach es X.env := by rfl) (hpl : (backTo pos (starEach es X.env)).any (·.1) = false := by rfl)
    (ht : eval (.Call (.Attribute o m apos) (e :: es) [] pos) X.env = (do
      let ov ← eval o X.env; standAt apos.atName
      let (f, first) ← holding [ov] (getMethod ov m pl); callWith pos f first (backTo pos (starEach (e :: es) X.env)) (backToKw pos (keywordEach [] X.env))) := by rfl) :
    PE X (.Call (.Attribute o m apos) (e :: es) [] pos) (tMeth C m sp [] E ta t) := by
  obtain ⟨f, fd, M, b, F⟩ := O
  exact pe_meth he c M F hr b .nil hx ha hst hpl ht
theorem pe_methD0 {pl : Sem Bool} {CX : CXT} (c : Cls X.K C) (O : OkM X.prog X.w X.K X.mg X.base CX k C m ps sp) (hr : Room k X.A) (hx : Passes CX X E) (he : PE X o ta)
    (ht : eval (.Call (.Attribute o m apos) [] [] pos) X.env = (do
      let ov ← eval o X.env; standAt apos.atName
      let (f, first) ← holding [ov] (getMethod ov m pl); callWith pos f first (backTo pos (starEach [] X.env)) (backToKw pos (keywordEach [] X.env))) := by rfl) :
    PE X (.Call (.Attribute o m apos) [] [] pos) (tMeth C m sp [] E ta tNil) := by
  obtain ⟨f, fd, M, b, F⟩ := O
  exact pe_meth0 he c M F hr b .nil hx ht
theorem pe_makeC (c : Cs X.K X.mg x C) (O : OkM X.prog X.w X.K X.mg X.base CX0 k C "__init__" ps sp) (hr : Room (k + 1) X.A) (hg : Gl X x) (hx : Passes CX0 X E) (ha : PA X (e :: es) t)
    (hdb : (x == ("__debug__" : Str)) = false := by decide) (he : starEach (e :: es) X.env = (false, eval e X.env) :: starEach es X.env := by rfl) (hpl : (backTo pos (starEach es X.env)).any (·.1) = false := by rfl) :
    PE X (.Call (.Name x p) (e :: es) [] pos) (tMake C sp [] E t) := by
  obtain ⟨f, fd, M, b, F⟩ := O
  exact pe_make ⟨c.made, M.at_, M.fn, c.kp⟩ F hr hg c.g b .nil hx ha hdb he hpl
theorem pe_makeC0 (c : Cs X.K X.mg x C) (O : OkM X.prog X.w X.K X.mg X.base CX0 k C "__init__" ps sp) (hr : Room (k + 1) X.A) (hg : Gl X x) (hx : Passes CX0 X E)
    (hdb : (x == ("__debug__" : Str)) = false := by decide) :
    PE X (.Call (.Name x p) [] [] pos) (tMake C sp [] E tNil) := by
  obtain ⟨f, fd, M, b, F⟩ := O
  exact pe_make0 ⟨c.made, M.at_, M.fn, c.kp⟩ F hr hg c.g b .nil hx hdb
/-- the same where what is raised may depend on the slots -/
def zMethS (C : Addr) (m : Str) (sp : Sp) (E' : L2.St → XK) (ta : TE) (t : TA) : TE := fun σ H Q => ta σ H fun x H1 => ∃ a dx fs, x = .ref a ∧ H1 a = some (.ins C dx fs) ∧ fs.lookup m = none ∧ t σ H1 fun vs H2 => sp (x :: vs) H2 Q (E' σ)
theorem pe_methDS {pl : Sem Bool} (c : Cls X.K C) (O : OkM X.prog X.w X.K X.mg X.base (L2.CX X.prog X.w) k C m ps sp) (hr : Room k X.A) (hx : ∀ σ, PassesAt (L2.CX X.prog X.w) X σ (E' σ)) (he : PE X o ta) (ha : PA X (e :: es) t)
    (hst : starEach (e :: es) X.env = (false, eval e X.env) :: starEach es X.env := by rfl) (hpl : (backTo pos (starEach es X.env)).any (·.1) = false := by rfl)
    (ht : eval (.Call (.Attribute o m apos) (e :: es) [] pos) X.env = (do
      let ov ← eval o X.env; standAt apos.atName
      let (f, first) ← holding [ov] (getMethod ov m pl); callWith pos f first (backTo pos (starEach (e :: es) X.env)) (backToKw pos (keywordEach [] X.env))) := by rfl) :
    PE X (.Call (.Attribute o m apos) (e :: es) [] pos) (zMethS C m sp E' ta t) := by
  obtain ⟨f, fd, M, b, F⟩ := O
  constructor
  intro pins s σ H Q I h
  have one := he.run pins s σ H _ I h
  refine PySem.W.methodCall_KW (pl := pl) (thn one ?_) ht
  rintro u s1 ⟨x, H1, I1, rx, a, dx, fs, rfl, ea, l, q⟩
  cases rx
  refine getmeth_ok I1 ea c M l ?_
  have two := ha.run pos pins s1 σ H1 _ I1 q
  refine PySem.W.callWith_K (first := [.ref a]) (h₀ := X.base) I.ok.mod.kin M.kp (thn two ?_) hst hpl
  rintro us s2 ⟨vs, H2, I2, r, q2⟩
  exact ⟨I2.kIn, run_fnS (us := .ref a :: us) (vs := .ref a :: vs) F hr b (hx σ) I2 (.cons rfl r) q2⟩
end
def zStrI : List V → Hp → VK → Prop := fun xs H Q => ∃ i, xs = [V.int i] ∧ i.natAbs.log2 < 1920 ∧ Q (.str (toString i)) H
def zListOf (K : PySem.W.Frag) : List V → Hp → VK → Prop := fun xs H Q => ∃ p ys, xs = [V.ref p] ∧ (SqL K H p ys ∨ SqT K H p ys) ∧ ∀ l, H l = none → Q (.ref l) (upd H l (.lst ys))
def zFind : V → List V → Hp → VK → Prop := fun x xs H Q => ∃ a b, x = V.str a ∧ xs = [V.str b] ∧ Q (.int (Txt.find a b)) H
section
variable {X : Cx} {K : PySem.W.Frag} {σ : L2.St} {H H1 : Hp} {Q : VK} {i : Int} {a : Addr} {ys : List V} {x y : Str} {n j : Nat} {st sc D : Addr} {ns : List Int} {g : TG} {te : TE} {vs : List Nat} {Qd : Hp → Prop}
theorem y_strI : CallR X (.type "str") zStrI := call_str_int
theorem y_listOf : CallR X (.type "list") (zListOf X.K) := call_list_of
theorem y_find : MtR X "str.find" zFind := mt_find
theorem rd_strI (h0 : 0 ≤ i) (h1 : i < 1000) (h : Q (.str (toString i)) H) : zStrI [.int i] H Q := ⟨i, rfl, Nat.lt_of_le_of_lt (Nat.log2_le_self _) (by omega), h⟩
theorem rd_listL (c : SqL K H a ys) (h : ∀ l, H l = none → Q (.ref l) (upd H l (.lst ys))) : zListOf K [.ref a] H Q := ⟨a, ys, rfl, .inl c, h⟩
theorem rd_listT (c : SqT K H a ys) (h : ∀ l, H l = none → Q (.ref l) (upd H l (.lst ys))) : zListOf K [.ref a] H Q := ⟨a, ys, rfl, .inr c, h⟩
theorem rd_find (h : Q (.int (Txt.find x y)) H) : zFind (.str x) [.str y] H Q := ⟨x, y, rfl, rfl, h⟩
/-- a comprehension over range(n) with draws: what holds of the item at each place -/
theorem lcRj (G : Nat → Hp → V → Prop) (mono : ∀ i H H' y, Dr st H H' → Stt H st → G i H y → G i H' y) (W : Wd K st sc ns H1) (nD : H1 D = none) (hn : n ≤ 100000)
    (hs : ∀ (i : Nat) H (R : VK), i < n → Wd K st sc ns H → Dr st H1 H → (∃ zs, H D = some (.lst zs)) → (∀ y H', Dr st H H' → G i H' y → R y H') → g (.int (0 + (i : Nat))) (wipe σ vs) H fun σ2 H2 => wipe σ2 vs = wipe σ vs ∧ te σ2 H2 R)
    (hd : ∀ H' ys, Dr st H1 H' → Wd K st sc ns H' → D ≠ st → H' D = some (.lst ys) → ys.length = n → (∀ i y, ys[i]? = some y → G i H' y) → Qd H') (put : ∀ i H y zs, H1 D = none → H D = some (.lst zs) → G i H y → ∀ o, G i (upd H D o) y) : LcR n g te vs σ H1 D Qd := by
  have nS : D ≠ st := W.1.ne nD
  refine lc_range (Pv := fun i H => Dr st H1 H ∧ ∃ ys, H D = some (.lst ys) ∧ ys.length = i ∧ ∀ k y, ys[k]? = some y → G k H y) ?_ (fun i H hi hP => ?_) (fun H hP => ?_)
  · exact ⟨W.dr.new nD, [], upd_same, rfl, fun k y h => by simp at h⟩
  · obtain ⟨d, ys, e, el, eg⟩ := hP
    have q := hs i H (fun y H4 => ∃ acc, H4 D = some (.lst acc) ∧ acc.length < sizeLine ∧ (Dr st H1 (upd H4 D (.lst (acc ++ [y]))) ∧ ∃ ys, (upd H4 D (.lst (acc ++ [y]))) D = some (.lst ys) ∧ ys.length = i + 1 ∧ ∀ k z, ys[k]? = some z → G k (upd H4 D (.lst (acc ++ [y]))) z)) hi (W.next d) d ⟨_, e⟩ (fun y H' d' gy => by
      have e' : H' D = some (.lst ys) := d'.1 _ _ nS e
      refine ⟨ys, e', lt_line (by omega), Dr.put W.1 (d.trans d') nD, ys ++ [y], upd_same, by rw [List.length_append, el]; rfl, fun k z hz => ?_⟩
      by_cases hk : k < ys.length
      · rw [List.getElem?_append_left hk] at hz
        exact put k H' z ys nD e' (mono k H H' z d' d.2 (eg k z hz)) _
      · have h2 := (List.getElem?_eq_some_iff.mp hz).1
        rw [List.length_append] at h2
        have h3 : k < ys.length + 1 := h2
        have ek : k = i := by omega
        rw [ek, ← el, List.getElem?_append_right (Nat.le_refl _), Nat.sub_self] at hz
        rw [ek, ← Option.some.inj hz]
        exact put i H' y ys nD e' gy _)
    exact q
  · obtain ⟨d, ys, e, el, eg⟩ := hP
    exact hd H ys d (W.next d) nS e el eg
theorem lcRi (G : Nat → Hp → V → Prop) (mono : ∀ i H H' y, Dr st H H' → Stt H st → G i H y → G i H' y) (W : Wd K st sc ns H1) (nD : H1 D = none) (hn : n ≤ 100000)
    (hs : ∀ (i : Nat) H (R : VK), i < n → Wd K st sc ns H → Dr st H1 H → (∀ y H', Dr st H H' → G i H' y → R y H') → g (.int (0 + (i : Nat))) (wipe σ vs) H fun σ2 H2 => wipe σ2 vs = wipe σ vs ∧ te σ2 H2 R)
    (hd : ∀ H' ys, Dr st H1 H' → Wd K st sc ns H' → D ≠ st → H' D = some (.lst ys) → ys.length = n → (∀ i y, ys[i]? = some y → G i H' y) → Qd H') (put : ∀ i H y zs, H1 D = none → H D = some (.lst zs) → G i H y → ∀ o, G i (upd H D o) y) : LcR n g te vs σ H1 D Qd :=
  lcRj G mono W nD hn (fun i H R hi w d _ r => hs i H R hi w d r) hd put
end
section
variable {σ : L2.St} {H1 : Hp} {te : TE} {vs : List Nat} {j : Nat} {D : Addr} {xs : List V} {J : It} {Rl : Hp → Prop} {Qd : Hp → Prop}
/-- a comprehension that only reads: the item at each place -/
theorem lcSi (Wk : WalkOf J Rl xs) (hR : ∀ H, Same H1 H → Rl H) (nD : H1 D = none) (hn : xs.length ≤ 1000000) (F : Nat → V)
    (hs : ∀ i x, xs[i]? = some x → ∀ H (R : VK), Same H1 H → (∀ H'', Same H H'' → R (F i) H'') → wipe ((wipe σ vs).set j (some x)) vs = wipe σ vs ∧ te ((wipe σ vs).set j (some x)) H R)
    (hd : ∀ H', Same H1 H' → H' D = some (.lst ((List.range xs.length).map F)) → Qd H') : LcJ J (gName j) tYes te vs σ H1 D Qd := by
  refine lcJ Wk (fun i H => Same H1 H ∧ H D = some (.lst ((List.range i).map F))) ⟨same_new nD, by rw [upd_same]; rfl⟩ (fun i H _ p => hR H p.1) (fun i x H hx p => ?_) (fun H p => hd H p.1 p.2)
  obtain ⟨sm, e⟩ := p
  have hi := (List.getElem?_eq_some_iff.mp hx).1
  have q := hs i x hx H (fun y H4 => ∃ acc, H4 D = some (.lst acc) ∧ acc.length < sizeLine ∧ (Same H1 (upd H4 D (.lst (acc ++ [y]))) ∧ (upd H4 D (.lst (acc ++ [y]))) D = some (.lst ((List.range (i + 1)).map F)))) sm (fun H'' s2 => by
    refine ⟨_, s2 _ _ e, lt_line (by rw [List.length_map, List.length_range]; omega), fun b o eb => ?_, ?_⟩
    · rw [upd_ne (ne_of_none eb nD)]
      exact s2 _ _ (sm _ _ eb)
    · rw [upd_same, List.range_succ, List.map_append]
      rfl)
  exact ⟨q.1, q.2⟩
end
theorem range_get {α β : Type} (l : List α) (f : α → β) (F : Nat → β) (h : ∀ i a, l[i]? = some a → F i = f a) : (List.range l.length).map F = l.map f := by
  refine List.ext_getElem (by simp) fun i h1 h2 => ?_
  rw [List.getElem_map, List.getElem_range, List.getElem_map]
  exact h i _ (List.getElem?_eq_getElem _)
theorem Tk.put {H : Hp} {p l : Addr} {xs zs : List V} {o : HO} (t : Tk H p xs) (e : H l = some (.lst zs)) : Tk (upd H l o) p xs := by
  obtain ⟨b, h, q⟩ := t
  refine ⟨b, h, ?_⟩
  rw [upd_ne fun z => ?_]
  · exact q
  · rw [z, e] at q
    cases q
theorem rd_wLsG {xs : List V} {H : Hp} {Q : VK} (c : xs.length ≤ 1000) (h : ∀ (p : Addr) (H' : Hp), H p = none → Same H H' → H' p = some (.lst xs) → Q (.ref p) H') : wLs xs H Q := ⟨line_of (by omega), fun p n => h p _ n (same_new n) upd_same⟩
def zMin2 : List V → Hp → VK → Prop := fun xs H Q => ∃ i j, xs = [V.int i, V.int j] ∧ Q (.int (if j < i then j else i)) H
theorem y_min2 {X : Cx} (hc : X.calm = true) : CallR X (.builtin "min") zMin2 := call_min2 hc
structure ExN (K : PySem.W.Frag) (mg : Str → Option Value) (x : Str) (C M : Addr) : Prop where
  gC : mg x = some (.ref C)
  gM : mg "MailError" = some (.ref M)
  xC : PySem.W.excIn K C [.type "ValueError", .type "Exception", .type "BaseException", .type "object"] "ValueError.__new__" = true
  kC : PySem.W.keepIn K (.ref C) = true
  bC : PySem.W.subIn K (.ref C) (.type "BaseException") = some true
  tC : PySem.W.typeIn K (.ref C) = some (.type "type")
  sC : PySem.W.subIn K (.ref C) (.ref C) = some true
  kM : PySem.W.kitOne K (.ref C) (.ref M) = some true
  e : ExcC K C
theorem ExN.exm {K : PySem.W.Frag} {mg : Str → Option Value} {x : Str} {C M : Addr} (h : ExN K mg x C M) : PySem.W.exmOne K (.ref C) (.ref C) = some true := PySem.W.exm_ref h.bC h.e.hd h.tC h.sC
theorem exn_mk {K : PySem.W.Frag} {h : Heap} {mg : Str → Option Value} {x : Str} {C M : Addr} (X : K.In h) (G : h.Ns mainGlobals mg)
    (gC : PySem.W.nsIn K mainGlobals x = some (some (.ref C))) (gM : PySem.W.nsIn K mainGlobals "MailError" = some (some (.ref M)))
    (xC : PySem.W.excIn K C [.type "ValueError", .type "Exception", .type "BaseException", .type "object"] "ValueError.__new__" = true) (kC : PySem.W.keepIn K (.ref C) = true)
    (bC : PySem.W.subIn K (.ref C) (.type "BaseException") = some true) (tC : PySem.W.typeIn K (.ref C) = some (.type "type")) (sC : PySem.W.subIn K (.ref C) (.ref C) = some true)
    (kM : PySem.W.kitOne K (.ref C) (.ref M) = some true)
    (e1 : PySem.W.findIn K (.ref C) "__getattribute__" = some (some (.builtin "BaseException.__getattribute__"))) (e2 : PySem.W.findIn K (.ref C) "__getattr__" = some none) (e4 : PySem.W.hasDictIn K C = true)
    (e5 : PySem.W.findIn K (.ref C) "__class__" = some (some (.builtin "object.__class__"))) (e6 : PySem.W.specialIn K (.builtin "object.__class__") "__get__" = some (some (.builtin "getset_descriptor.__get__")))
    (e7 : PySem.W.takesIn K (.builtin "object.__class__") = some true) (e8 : PySem.W.mroIn K C (.type "object") = some true) : ExN K mg x C M :=
  ⟨PySem.W.mg_of X G gC, PySem.W.mg_of X G gM, xC, kC, bC, tC, sC, kM, ⟨e1, e2, bC, e4, e5, e6, e7, e8⟩⟩
section
variable {σ : L2.St} {H : Hp} {Q : VK} {K : PySem.W.Frag} {to : TE} {T : String} {r : V → List V → Hp → VK → Prop} {l b : Addr} {xs zs : List V} {i j : Int} {y : V}
theorem rd_bm0 (h : to σ H fun x H1 => wTy K T x H1 (r x [] H1 Q)) : tBM0 K T r to σ H Q := h
theorem rd_clear (e : H l = some (.lst xs)) (h : Q .non (upd H l (.lst []))) : rClear (.ref l) [] H Q := ⟨l, xs, rfl, rfl, e, h⟩
theorem rd_extend (e : H l = some (.lst xs)) (g : H b = some (.lst zs)) (c : xs.length + zs.length ≤ 1000000) (h : Q .non (upd H l (.lst (xs ++ zs)))) : rExtend (.ref l) [.ref b] H Q := ⟨l, b, xs, zs, rfl, rfl, e, g, line_of (by omega), h⟩
theorem rd_appendB (e : H l = some (.lst xs)) (c : xs.length ≤ 1000000) (h : Q .non (upd H l (.lst (xs ++ [y])))) : rAppend (.ref l) [y] H Q := ⟨l, xs, y, rfl, rfl, e, lt_line (by omega), h⟩
theorem rd_min2 (h : Q (.int (if j < i then j else i)) H) : zMin2 [.int i, .int j] H Q := ⟨i, j, rfl, h⟩
theorem rd_slLto {k : Nat} (c : SqL K H l xs) (h : ∀ p, H p = none → Q (.ref p) (upd H p (.lst (xs.take k)))) : rSlL K (.ref l) none (some (k : Int)) H Q := by
  refine ⟨l, xs, rfl, c, fun p n => ?_⟩
  have e : cutV xs none (some (k : Int)) = xs.take k := by
    unfold cutV
    rw [HT.sIx_nat, HT.sIx_none, Nat.sub_zero, List.drop_zero]
    by_cases g : k ≤ xs.length
    · rw [Nat.min_eq_left g]
    · rw [Nat.min_eq_right (by omega), List.take_of_length_le (Nat.le_refl _), List.take_of_length_le (by omega)]
  rw [e]
  exact h p n
end
theorem whN {tb : TS} {nx bk ct : L2.St → Hp → Prop} {rt : VK} {σ : L2.St} {H : Hp} {W : Nat → L2.St → Hp → Prop} {m : Nat} (h : tb ⟨fun σ' H' => ∃ m', m' < m ∧ W m' σ' H', rt, nx, fun σ' H' => ∃ m', m' < m ∧ W m' σ' H'⟩ σ H) :
    ∃ N : L2.St → Hp → Prop, (∀ σ' H', N σ' H' → ∃ m', m' < m ∧ W m' σ' H') ∧ tb { (⟨nx, rt, bk, ct⟩ : Ends) with nx := N, ct := N, bk := nx } σ H := ⟨_, fun _ _ h => h, h⟩
theorem rd_shr {i j : Int} {H : Hp} {Q : VK} (h : Q (.int (i / 2 ^ j.toNat)) H) (c : 0 ≤ j) : rI (fun _ j => 0 ≤ j) (fun i j => .int (i / 2 ^ j.toNat)) (.int i) (.int j) H Q := ⟨i, j, rfl, rfl, c, h⟩
theorem rd_inI {K : PySem.W.Frag} {H : Hp} {Q : VK} {p : Addr} {i a b : Int} (c : SqT K H p [.int a, .int b]) (h : Q (.bl (decide (i = a ∨ i = b))) H) : rIn K false (.int i) (.ref p) H Q := ⟨p, _, rfl, .inr c, rfl, rfl, by
  have e : inV (.int i) [V.int a, V.int b] = decide (i = a ∨ i = b) := by
    show ((a == i) || ((b == i) || false)) = _
    by_cases h1 : i = a
    · simp [h1]
    · by_cases h2 : i = b
      · simp [h2]
      · have h1' : ¬ a = i := fun e => h1 e.symm
        have h2' : ¬ b = i := fun e => h2 e.symm
        simp [h1, h2, h1', h2']
  rw [e]
  exact h⟩
theorem if_tail {bb : Bool} {ta : TE} {g : TG} {nx bk ct : L2.St → Hp → Prop} {rt : VK} {σ : L2.St} {H : Hp} (Pre : L2.St → Hp → Prop) (tail : ∀ σ H, Pre σ H → nx σ H)
    (h : ∀ nx' : L2.St → Hp → Prop, (∀ σ H, Pre σ H → nx' σ H) → if bb = true then tAsg ta g ⟨nx', rt, bk, ct⟩ σ H else tNext ⟨nx', rt, bk, ct⟩ σ H) : if bb = true then tAsg ta g ⟨nx, rt, bk, ct⟩ σ H else tNext ⟨nx, rt, bk, ct⟩ σ H := h nx tail
/-- what stands behind a statement, once -/
theorem seq_to {t u : TS} {nx bk ct : L2.St → Hp → Prop} {rt : VK} {σ : L2.St} {H : Hp} (Pre : L2.St → Hp → Prop) (tail : ∀ σ H, Pre σ H → u ⟨nx, rt, bk, ct⟩ σ H)
    (h : ∀ nx' : L2.St → Hp → Prop, (∀ σ H, Pre σ H → nx' σ H) → t ⟨nx', rt, bk, ct⟩ σ H) : tSeq t u ⟨nx, rt, bk, ct⟩ σ H := h (u ⟨nx, rt, bk, ct⟩) tail
def wFld (K : PySem.W.Frag) (f : Str) (x : V) (H : Hp) (Q : VK) : Prop := ∃ a C dx fs v, x = .ref a ∧ H a = some (.ins C dx fs) ∧ Cls K C ∧ NoAttr K C f ∧ fs.lookup f = some v ∧ Q v H
def wSFld (K : PySem.W.Frag) (f : Str) (y : V) (x : V) (H : Hp) (R : Hp → Prop) : Prop := ∃ a C dx fs, x = .ref a ∧ H a = some (.ins C dx fs) ∧ Cls K C ∧ NoAttr K C f ∧ fs.length < 1000 ∧ R (upd H a (.ins C dx (putF f y fs)))
def wMeth (C : Addr) (m : Str) (x : V) (H : Hp) (R : Prop) : Prop := ∃ a dx fs, x = .ref a ∧ H a = some (.ins C dx fs) ∧ fs.lookup m = none ∧ R
section
variable {K : PySem.W.Frag} {σ : L2.St} {H : Hp} {Q : VK} {nx bk ct : L2.St → Hp → Prop} {rt : VK} {ta tv : TE} {t : TA} {a C dx : Addr} {fs : List (Str × V)} {f m : Str} {v y : V} {sp : Sp} {E : XK} {E' : L2.St → XK} {R : Hp → Prop} {R' : Prop}
theorem rd_fld (h : ta σ H fun x H1 => wFld K f x H1 Q) : tFld K ta f σ H Q := h
theorem rd_sfld (h : tv σ H fun y H1 => ta σ H1 fun x H2 => wSFld K f y x H2 fun H3 => nx σ H3) : sFld K ta tv f ⟨nx, rt, bk, ct⟩ σ H := h
theorem rd_wFld (e : H a = some (.ins C dx fs)) (c : Cls K C) (n : NoAttr K C f) (l : fs.lookup f = some v) (h : Q v H) : wFld K f (.ref a) H Q := ⟨a, C, dx, fs, v, rfl, e, c, n, l, h⟩
theorem rd_wSFld (e : H a = some (.ins C dx fs)) (c : Cls K C) (n : NoAttr K C f) (l : fs.length < 1000) (h : R (upd H a (.ins C dx (putF f y fs)))) : wSFld K f y (.ref a) H R := ⟨a, C, dx, fs, rfl, e, c, n, l, h⟩
theorem rd_meth (h : ta σ H fun x H1 => wMeth C m x H1 (t σ H1 fun vs H2 => sp (x :: vs) H2 Q E)) : tMeth C m sp [] E ta t σ H Q := by
  unfold tMeth
  simp only [List.append_nil]
  exact h
theorem rd_methS (h : ta σ H fun x H1 => wMeth C m x H1 (t σ H1 fun vs H2 => sp (x :: vs) H2 Q (E' σ))) : zMethS C m sp E' ta t σ H Q := h
theorem rd_wMeth (e : H a = some (.ins C dx fs)) (l : fs.lookup m = none) (h : R') : wMeth C m (.ref a) H R' := ⟨a, dx, fs, rfl, e, l, h⟩
theorem rd_make (h : t σ H fun vs H1 => ∀ x dx, H1 x = none → H1 dx = none → dx ≠ x → sp (.ref x :: vs) (upd (upd H1 dx (.own x)) x (.ins C dx [])) (fun v H2 => v = .non ∧ Q (.ref x) H2) E) : tMake C sp [] E t σ H Q := by
  unfold tMake
  simpa only [List.append_nil] using h
theorem rd_v12 {a0 a1 a2 a3 a4 a5 a6 a7 a8 a9 a10 a11} {l : L2.St} (h : Q v H) : tVar 12 (a0 :: a1 :: a2 :: a3 :: a4 :: a5 :: a6 :: a7 :: a8 :: a9 :: a10 :: a11 :: some v :: l) H Q := ⟨v, rfl, h⟩
theorem rd_n12 {a0 a1 a2 a3 a4 a5 a6 a7 a8 a9 a10 a11 b} {l : L2.St} {QG : L2.St → Hp → Prop} (h : QG (a0 :: a1 :: a2 :: a3 :: a4 :: a5 :: a6 :: a7 :: a8 :: a9 :: a10 :: a11 :: some v :: l) H) : gName 12 v (a0 :: a1 :: a2 :: a3 :: a4 :: a5 :: a6 :: a7 :: a8 :: a9 :: a10 :: a11 :: b :: l) H QG := h
theorem rd_v13 {a0 a1 a2 a3 a4 a5 a6 a7 a8 a9 a10 a11 a12} {l : L2.St} (h : Q v H) : tVar 13 (a0 :: a1 :: a2 :: a3 :: a4 :: a5 :: a6 :: a7 :: a8 :: a9 :: a10 :: a11 :: a12 :: some v :: l) H Q := ⟨v, rfl, h⟩
theorem rd_n13 {a0 a1 a2 a3 a4 a5 a6 a7 a8 a9 a10 a11 a12 b} {l : L2.St} {QG : L2.St → Hp → Prop} (h : QG (a0 :: a1 :: a2 :: a3 :: a4 :: a5 :: a6 :: a7 :: a8 :: a9 :: a10 :: a11 :: a12 :: some v :: l) H) : gName 13 v (a0 :: a1 :: a2 :: a3 :: a4 :: a5 :: a6 :: a7 :: a8 :: a9 :: a10 :: a11 :: a12 :: b :: l) H QG := h
theorem rd_v14 {a0 a1 a2 a3 a4 a5 a6 a7 a8 a9 a10 a11 a12 a13} {l : L2.St} (h : Q v H) : tVar 14 (a0 :: a1 :: a2 :: a3 :: a4 :: a5 :: a6 :: a7 :: a8 :: a9 :: a10 :: a11 :: a12 :: a13 :: some v :: l) H Q := ⟨v, rfl, h⟩
theorem rd_n14 {a0 a1 a2 a3 a4 a5 a6 a7 a8 a9 a10 a11 a12 a13 b} {l : L2.St} {QG : L2.St → Hp → Prop} (h : QG (a0 :: a1 :: a2 :: a3 :: a4 :: a5 :: a6 :: a7 :: a8 :: a9 :: a10 :: a11 :: a12 :: a13 :: some v :: l) H) : gName 14 v (a0 :: a1 :: a2 :: a3 :: a4 :: a5 :: a6 :: a7 :: a8 :: a9 :: a10 :: a11 :: a12 :: a13 :: b :: l) H QG := h
theorem rd_v15 {a0 a1 a2 a3 a4 a5 a6 a7 a8 a9 a10 a11 a12 a13 a14} {l : L2.St} (h : Q v H) : tVar 15 (a0 :: a1 :: a2 :: a3 :: a4 :: a5 :: a6 :: a7 :: a8 :: a9 :: a10 :: a11 :: a12 :: a13 :: a14 :: some v :: l) H Q := ⟨v, rfl, h⟩
theorem rd_n15 {a0 a1 a2 a3 a4 a5 a6 a7 a8 a9 a10 a11 a12 a13 a14 b} {l : L2.St} {QG : L2.St → Hp → Prop} (h : QG (a0 :: a1 :: a2 :: a3 :: a4 :: a5 :: a6 :: a7 :: a8 :: a9 :: a10 :: a11 :: a12 :: a13 :: a14 :: some v :: l) H) : gName 15 v (a0 :: a1 :: a2 :: a3 :: a4 :: a5 :: a6 :: a7 :: a8 :: a9 :: a10 :: a11 :: a12 :: a13 :: a14 :: b :: l) H QG := h
theorem rd_v16 {a0 a1 a2 a3 a4 a5 a6 a7 a8 a9 a10 a11 a12 a13 a14 a15} {l : L2.St} (h : Q v H) : tVar 16 (a0 :: a1 :: a2 :: a3 :: a4 :: a5 :: a6 :: a7 :: a8 :: a9 :: a10 :: a11 :: a12 :: a13 :: a14 :: a15 :: some v :: l) H Q := ⟨v, rfl, h⟩
theorem rd_n16 {a0 a1 a2 a3 a4 a5 a6 a7 a8 a9 a10 a11 a12 a13 a14 a15 b} {l : L2.St} {QG : L2.St → Hp → Prop} (h : QG (a0 :: a1 :: a2 :: a3 :: a4 :: a5 :: a6 :: a7 :: a8 :: a9 :: a10 :: a11 :: a12 :: a13 :: a14 :: a15 :: some v :: l) H) : gName 16 v (a0 :: a1 :: a2 :: a3 :: a4 :: a5 :: a6 :: a7 :: a8 :: a9 :: a10 :: a11 :: a12 :: a13 :: a14 :: a15 :: b :: l) H QG := h
theorem rd_v17 {a0 a1 a2 a3 a4 a5 a6 a7 a8 a9 a10 a11 a12 a13 a14 a15 a16} {l : L2.St} (h : Q v H) : tVar 17 (a0 :: a1 :: a2 :: a3 :: a4 :: a5 :: a6 :: a7 :: a8 :: a9 :: a10 :: a11 :: a12 :: a13 :: a14 :: a15 :: a16 :: some v :: l) H Q := ⟨v, rfl, h⟩
theorem rd_n17 {a0 a1 a2 a3 a4 a5 a6 a7 a8 a9 a10 a11 a12 a13 a14 a15 a16 b} {l : L2.St} {QG : L2.St → Hp → Prop} (h : QG (a0 :: a1 :: a2 :: a3 :: a4 :: a5 :: a6 :: a7 :: a8 :: a9 :: a10 :: a11 :: a12 :: a13 :: a14 :: a15 :: a16 :: some v :: l) H) : gName 17 v (a0 :: a1 :: a2 :: a3 :: a4 :: a5 :: a6 :: a7 :: a8 :: a9 :: a10 :: a11 :: a12 :: a13 :: a14 :: a15 :: a16 :: b :: l) H QG := h
theorem rd_v18 {a0 a1 a2 a3 a4 a5 a6 a7 a8 a9 a10 a11 a12 a13 a14 a15 a16 a17} {l : L2.St} (h : Q v H) : tVar 18 (a0 :: a1 :: a2 :: a3 :: a4 :: a5 :: a6 :: a7 :: a8 :: a9 :: a10 :: a11 :: a12 :: a13 :: a14 :: a15 :: a16 :: a17 :: some v :: l) H Q := ⟨v, rfl, h⟩
theorem rd_n18 {a0 a1 a2 a3 a4 a5 a6 a7 a8 a9 a10 a11 a12 a13 a14 a15 a16 a17 b} {l : L2.St} {QG : L2.St → Hp → Prop} (h : QG (a0 :: a1 :: a2 :: a3 :: a4 :: a5 :: a6 :: a7 :: a8 :: a9 :: a10 :: a11 :: a12 :: a13 :: a14 :: a15 :: a16 :: a17 :: some v :: l) H) : gName 18 v (a0 :: a1 :: a2 :: a3 :: a4 :: a5 :: a6 :: a7 :: a8 :: a9 :: a10 :: a11 :: a12 :: a13 :: a14 :: a15 :: a16 :: a17 :: b :: l) H QG := h
theorem rd_v19 {a0 a1 a2 a3 a4 a5 a6 a7 a8 a9 a10 a11 a12 a13 a14 a15 a16 a17 a18} {l : L2.St} (h : Q v H) : tVar 19 (a0 :: a1 :: a2 :: a3 :: a4 :: a5 :: a6 :: a7 :: a8 :: a9 :: a10 :: a11 :: a12 :: a13 :: a14 :: a15 :: a16 :: a17 :: a18 :: some v :: l) H Q := ⟨v, rfl, h⟩
theorem rd_n19 {a0 a1 a2 a3 a4 a5 a6 a7 a8 a9 a10 a11 a12 a13 a14 a15 a16 a17 a18 b} {l : L2.St} {QG : L2.St → Hp → Prop} (h : QG (a0 :: a1 :: a2 :: a3 :: a4 :: a5 :: a6 :: a7 :: a8 :: a9 :: a10 :: a11 :: a12 :: a13 :: a14 :: a15 :: a16 :: a17 :: a18 :: some v :: l) H) : gName 19 v (a0 :: a1 :: a2 :: a3 :: a4 :: a5 :: a6 :: a7 :: a8 :: a9 :: a10 :: a11 :: a12 :: a13 :: a14 :: a15 :: a16 :: a17 :: a18 :: b :: l) H QG := h
theorem rd_v20 {a0 a1 a2 a3 a4 a5 a6 a7 a8 a9 a10 a11 a12 a13 a14 a15 a16 a17 a18 a19} {l : L2.St} (h : Q v H) : tVar 20 (a0 :: a1 :: a2 :: a3 :: a4 :: a5 :: a6 :: a7 :: a8 :: a9 :: a10 :: a11 :: a12 :: a13 :: a14 :: a15 :: a16 :: a17 :: a18 :: a19 :: some v :: l) H Q := ⟨v, rfl, h⟩
theorem rd_n20 {a0 a1 a2 a3 a4 a5 a6 a7 a8 a9 a10 a11 a12 a13 a14 a15 a16 a17 a18 a19 b} {l : L2.St} {QG : L2.St → Hp → Prop} (h : QG (a0 :: a1 :: a2 :: a3 :: a4 :: a5 :: a6 :: a7 :: a8 :: a9 :: a10 :: a11 :: a12 :: a13 :: a14 :: a15 :: a16 :: a17 :: a18 :: a19 :: some v :: l) H) : gName 20 v (a0 :: a1 :: a2 :: a3 :: a4 :: a5 :: a6 :: a7 :: a8 :: a9 :: a10 :: a11 :: a12 :: a13 :: a14 :: a15 :: a16 :: a17 :: a18 :: a19 :: b :: l) H QG := h
theorem rd_v21 {a0 a1 a2 a3 a4 a5 a6 a7 a8 a9 a10 a11 a12 a13 a14 a15 a16 a17 a18 a19 a20} {l : L2.St} (h : Q v H) : tVar 21 (a0 :: a1 :: a2 :: a3 :: a4 :: a5 :: a6 :: a7 :: a8 :: a9 :: a10 :: a11 :: a12 :: a13 :: a14 :: a15 :: a16 :: a17 :: a18 :: a19 :: a20 :: some v :: l) H Q := ⟨v, rfl, h⟩
theorem rd_n21 {a0 a1 a2 a3 a4 a5 a6 a7 a8 a9 a10 a11 a12 a13 a14 a15 a16 a17 a18 a19 a20 b} {l : L2.St} {QG : L2.St → Hp → Prop} (h : QG (a0 :: a1 :: a2 :: a3 :: a4 :: a5 :: a6 :: a7 :: a8 :: a9 :: a10 :: a11 :: a12 :: a13 :: a14 :: a15 :: a16 :: a17 :: a18 :: a19 :: a20 :: some v :: l) H) : gName 21 v (a0 :: a1 :: a2 :: a3 :: a4 :: a5 :: a6 :: a7 :: a8 :: a9 :: a10 :: a11 :: a12 :: a13 :: a14 :: a15 :: a16 :: a17 :: a18 :: a19 :: a20 :: b :: l) H QG := h
theorem rd_v22 {a0 a1 a2 a3 a4 a5 a6 a7 a8 a9 a10 a11 a12 a13 a14 a15 a16 a17 a18 a19 a20 a21} {l : L2.St} (h : Q v H) : tVar 22 (a0 :: a1 :: a2 :: a3 :: a4 :: a5 :: a6 :: a7 :: a8 :: a9 :: a10 :: a11 :: a12 :: a13 :: a14 :: a15 :: a16 :: a17 :: a18 :: a19 :: a20 :: a21 :: some v :: l) H Q := ⟨v, rfl, h⟩
theorem rd_n22 {a0 a1 a2 a3 a4 a5 a6 a7 a8 a9 a10 a11 a12 a13 a14 a15 a16 a17 a18 a19 a20 a21 b} {l : L2.St} {QG : L2.St → Hp → Prop} (h : QG (a0 :: a1 :: a2 :: a3 :: a4 :: a5 :: a6 :: a7 :: a8 :: a9 :: a10 :: a11 :: a12 :: a13 :: a14 :: a15 :: a16 :: a17 :: a18 :: a19 :: a20 :: a21 :: some v :: l) H) : gName 22 v (a0 :: a1 :: a2 :: a3 :: a4 :: a5 :: a6 :: a7 :: a8 :: a9 :: a10 :: a11 :: a12 :: a13 :: a14 :: a15 :: a16 :: a17 :: a18 :: a19 :: a20 :: a21 :: b :: l) H QG := h
theorem rd_v23 {a0 a1 a2 a3 a4 a5 a6 a7 a8 a9 a10 a11 a12 a13 a14 a15 a16 a17 a18 a19 a20 a21 a22} {l : L2.St} (h : Q v H) : tVar 23 (a0 :: a1 :: a2 :: a3 :: a4 :: a5 :: a6 :: a7 :: a8 :: a9 :: a10 :: a11 :: a12 :: a13 :: a14 :: a15 :: a16 :: a17 :: a18 :: a19 :: a20 :: a21 :: a22 :: some v :: l) H Q := ⟨v, rfl, h⟩
theorem rd_n23 {a0 a1 a2 a3 a4 a5 a6 a7 a8 a9 a10 a11 a12 a13 a14 a15 a16 a17 a18 a19 a20 a21 a22 b} {l : L2.St} {QG : L2.St → Hp → Prop} (h : QG (a0 :: a1 :: a2 :: a3 :: a4 :: a5 :: a6 :: a7 :: a8 :: a9 :: a10 :: a11 :: a12 :: a13 :: a14 :: a15 :: a16 :: a17 :: a18 :: a19 :: a20 :: a21 :: a22 :: some v :: l) H) : gName 23 v (a0 :: a1 :: a2 :: a3 :: a4 :: a5 :: a6 :: a7 :: a8 :: a9 :: a10 :: a11 :: a12 :: a13 :: a14 :: a15 :: a16 :: a17 :: a18 :: a19 :: a20 :: a21 :: a22 :: b :: l) H QG := h
theorem rd_v24 {a0 a1 a2 a3 a4 a5 a6 a7 a8 a9 a10 a11 a12 a13 a14 a15 a16 a17 a18 a19 a20 a21 a22 a23} {l : L2.St} (h : Q v H) : tVar 24 (a0 :: a1 :: a2 :: a3 :: a4 :: a5 :: a6 :: a7 :: a8 :: a9 :: a10 :: a11 :: a12 :: a13 :: a14 :: a15 :: a16 :: a17 :: a18 :: a19 :: a20 :: a21 :: a22 :: a23 :: some v :: l) H Q := ⟨v, rfl, h⟩
theorem rd_n24 {a0 a1 a2 a3 a4 a5 a6 a7 a8 a9 a10 a11 a12 a13 a14 a15 a16 a17 a18 a19 a20 a21 a22 a23 b} {l : L2.St} {QG : L2.St → Hp → Prop} (h : QG (a0 :: a1 :: a2 :: a3 :: a4 :: a5 :: a6 :: a7 :: a8 :: a9 :: a10 :: a11 :: a12 :: a13 :: a14 :: a15 :: a16 :: a17 :: a18 :: a19 :: a20 :: a21 :: a22 :: a23 :: some v :: l) H) : gName 24 v (a0 :: a1 :: a2 :: a3 :: a4 :: a5 :: a6 :: a7 :: a8 :: a9 :: a10 :: a11 :: a12 :: a13 :: a14 :: a15 :: a16 :: a17 :: a18 :: a19 :: a20 :: a21 :: a22 :: a23 :: b :: l) H QG := h
theorem rd_v25 {a0 a1 a2 a3 a4 a5 a6 a7 a8 a9 a10 a11 a12 a13 a14 a15 a16 a17 a18 a19 a20 a21 a22 a23 a24} {l : L2.St} (h : Q v H) : tVar 25 (a0 :: a1 :: a2 :: a3 :: a4 :: a5 :: a6 :: a7 :: a8 :: a9 :: a10 :: a11 :: a12 :: a13 :: a14 :: a15 :: a16 :: a17 :: a18 :: a19 :: a20 :: a21 :: a22 :: a23 :: a24 :: some v :: l) H Q := ⟨v, rfl, h⟩
theorem rd_n25 {a0 a1 a2 a3 a4 a5 a6 a7 a8 a9 a10 a11 a12 a13 a14 a15 a16 a17 a18 a19 a20 a21 a22 a23 a24 b} {l : L2.St} {QG : L2.St → Hp → Prop} (h : QG (a0 :: a1 :: a2 :: a3 :: a4 :: a5 :: a6 :: a7 :: a8 :: a9 :: a10 :: a11 :: a12 :: a13 :: a14 :: a15 :: a16 :: a17 :: a18 :: a19 :: a20 :: a21 :: a22 :: a23 :: a24 :: some v :: l) H) : gName 25 v (a0 :: a1 :: a2 :: a3 :: a4 :: a5 :: a6 :: a7 :: a8 :: a9 :: a10 :: a11 :: a12 :: a13 :: a14 :: a15 :: a16 :: a17 :: a18 :: a19 :: a20 :: a21 :: a22 :: a23 :: a24 :: b :: l) H QG := h
theorem rd_nil0 {QA : List V → Hp → Prop} (h : QA [] H) : tNil σ H QA := h
end
/-! ### data that may be compared -/
def Sh (n : Nat) (d : PyData) : Prop := d.canLay0 = true ∧ d.depth ≤ n
theorem Sh.mono {n m : Nat} {d : PyData} (h : Sh n d) (l : n ≤ m) : Sh m d := ⟨h.1, Nat.le_trans h.2 l⟩
theorem Sh.none : Sh 0 .none := ⟨by simp [PyData.canLay0], by simp [PyData.depth]⟩
theorem Sh.bool (b : Bool) : Sh 0 (.bool b) := ⟨by simp [PyData.canLay0], by simp [PyData.depth]⟩
theorem Sh.int (i : Int) : Sh 0 (.int i) := ⟨by simp [PyData.canLay0], by simp [PyData.depth]⟩
theorem Sh.str {x : Str} (h : Asc x) : Sh 0 (.str x) := ⟨by simp [PyData.canLay0, ok_asc h], by simp [PyData.depth]⟩
theorem sh_all {n : Nat} : ∀ {ds : List PyData}, (∀ d ∈ ds, Sh n d) → PyData.canLayAll0 ds = true ∧ PyData.depthAll ds ≤ n
  | [], _ => ⟨by simp [PyData.canLayAll0], by simp [PyData.depthAll]⟩
  | d :: ds, h => by
    have h1 := h d List.mem_cons_self
    have h2 := sh_all (ds := ds) fun e he => h e (List.mem_cons_of_mem _ he)
    refine ⟨?_, ?_⟩
    · rw [PyData.canLayAll0, h1.1, h2.1, Bool.and_self]
    · rw [PyData.depthAll]
      have a := h1.2
      have b := h2.2
      omega
theorem Sh.tuple {n : Nat} {ds : List PyData} (h : ∀ d ∈ ds, Sh n d) : Sh (n + 1) (.tuple ds) := by
  obtain ⟨a, b⟩ := sh_all h
  refine ⟨by rw [PyData.canLay0]; exact a, ?_⟩
  rw [PyData.depth]
  omega
theorem Sh.list {n : Nat} {ds : List PyData} (h : ∀ d ∈ ds, Sh n d) : Sh (n + 1) (.list ds) := by
  obtain ⟨a, b⟩ := sh_all h
  refine ⟨by rw [PyData.canLay0]; exact a, ?_⟩
  rw [PyData.depth]
  omega
theorem Sh.shaped {n : Nat} {d : PyData} (h : Sh n d) (l : n ≤ 64 := by decide) : SeqAt.shaped d = true := by
  unfold SeqAt.shaped
  rw [h.1, decide_eq_true (Nat.le_trans h.2 l)]
  rfl
theorem Sh.refl {n : Nat} {d : PyData} (h : Sh n d) : PyData.eqv d d = true := SeqAt.eqv_refl d h.1
theorem Sh.two {n : Nat} {d e : PyData} (h : Sh n d) (g : Sh n e) : ∀ z ∈ [d, e], Sh n z := fun z hz => by
  simp only [List.mem_cons, List.not_mem_nil, or_false] at hz
  rcases hz with rfl | rfl
  · exact h
  · exact g
theorem Sh.three {n : Nat} {d e f : PyData} (h : Sh n d) (g : Sh n e) (k : Sh n f) : ∀ z ∈ [d, e, f], Sh n z := fun z hz => by
  simp only [List.mem_cons, List.not_mem_nil, or_false] at hz
  rcases hz with rfl | rfl | rfl
  · exact h
  · exact g
  · exact k
theorem Sh.one {n : Nat} {d : PyData} (h : Sh n d) : ∀ z ∈ [d], Sh n z := fun z hz => by
  rw [List.mem_singleton.mp hz]
  exact h
section
variable {K : PySem.W.Frag} {H : Hp} {Q : VK} {x y : V} {d : PyData} {n : Nat}
theorem rd_neV (h1 : Va H x d) (h2 : Va H y d) (s : Sh n d) (h : Q (.bl false) H) (l : n ≤ 64 := by decide) : rNeD K x y H Q := rd_neSame h1.dp h2.dp (s.shaped l) s.refl h
end
theorem Va.pair {H : Hp} {a : Addr} {v w : V} {d e : PyData} (t : Tk H a [v, w]) (h : Va H v d) (g : Va H w e) : Va H (.ref a) (.tuple [d, e]) := .tup t (.cons h (.cons g .nil))
theorem Va.tri {H : Hp} {a : Addr} {u v w : V} {c d e : PyData} (t : Tk H a [u, v, w]) (f : Va H u c) (h : Va H v d) (g : Va H w e) : Va H (.ref a) (.tuple [c, d, e]) := .tup t (.cons f (.cons h (.cons g .nil)))
theorem VaL.strs {H : Hp} : ∀ xs : List Str, VaL H (xs.map V.str) (xs.map PyData.str)
  | [] => .nil
  | x :: xs => .cons (.str x) (VaL.strs xs)
theorem sh_strs {xs : List Str} (h : ∀ x ∈ xs, Asc x) : Sh 1 (.tuple (xs.map PyData.str)) := Sh.tuple fun d hd => by
  obtain ⟨x, hx, rfl⟩ := List.mem_map.mp hd
  exact Sh.str (h x hx)
theorem Va.put {H : Hp} {v : V} {d : PyData} {l : Addr} {zs : List V} {o : HO} (h : Va H v d) (e : H l = some (.lst zs)) : Va (upd H l o) v d := h.mono fun _ _ t => t.put e
theorem VaL.put {H : Hp} {v : List V} {d : List PyData} {l : Addr} {zs : List V} {o : HO} (h : VaL H v d) (e : H l = some (.lst zs)) : VaL (upd H l o) v d := h.mono fun _ _ t => t.put e
/-! ### the end of a text that another is -/
theorem ends_tl (x y : Str) : Txt.endswith x y = (decide (y.length ≤ x.length) && ((tl x).drop (x.length - y.length) == tl y)) := by
  unfold Txt.endswith
  rw [StrLaws.subAt_eq, Nat.zero_add]
  by_cases h : y.length ≤ x.length
  · rw [decide_eq_true h, Bool.true_and, Bool.true_and]
    have e : ((tl x).drop (x.length - y.length)).length = y.length := by
      rw [List.length_drop, ← len_tl]
      omega
    show ((List.drop (x.length - y.length) (tl x)).take y.length == tl y) = _
    rw [List.take_of_length_le (Nat.le_of_eq e)]
  · rw [decide_eq_false h]
    rfl
theorem cut_end (d s : Str) : decide (cutS d (some (-(s.length : Int) - 1)) none = Str.ofString "." ++ s) = Txt.endswith d (Str.ofString "." ++ s) := by
  have hl : (Str.ofString "." ++ s).length = s.length + 1 := by rw [len_app, len_dot, Nat.add_comm]
  have hs : HT.sIx d.length 0 (some (-(s.length : Int) - 1)) = d.length - (s.length + 1) := by
    show (if (-(s.length : Int) - 1) < 0 then ((-(s.length : Int) - 1) + (d.length : Int)).toNat else min (-(s.length : Int) - 1).toNat d.length) = _
    rw [if_pos (by omega)]
    omega
  have hc : tl (cutS d (some (-(s.length : Int) - 1)) none) = (tl d).drop (d.length - (s.length + 1)) := by
    unfold cutS
    rw [tl_mk, hs, HT.sIx_none]
    exact List.take_of_length_le (by rw [List.length_drop, ← len_tl]; exact Nat.le_refl _)
  rw [ends_tl, hl]
  by_cases e : cutS d (some (-(s.length : Int) - 1)) none = Str.ofString "." ++ s
  · rw [decide_eq_true e, ← hc, e, beq_self_eq_true, Bool.and_true]
    have q := congrArg Str.length e
    have k := len_cut d (some (-(s.length : Int) - 1)) none
    rw [q, hl] at k
    exact (decide_eq_true k).symm
  · rw [decide_eq_false e]
    symm
    rw [Bool.and_eq_false_iff]
    by_cases g : s.length + 1 ≤ d.length
    · right
      refine beq_eq_false_iff_ne.mpr fun q => e (ext_tl ?_)
      rw [hc]
      exact q
    · exact .inl (decide_eq_false g)
/-! ### routes: the place of the longest end that matches, of those of one length the first -/
def mch (dom s : Str) : Bool := decide (s = Str.ofString "") || decide (dom = s) || Txt.endswith dom (Str.ofString "." ++ s)
def bst (dom : Str) (rs : List Str) : Nat → Option Nat
  | 0 => none
  | i + 1 => match rs[i]? with
    | none => bst dom rs i
    | some s => if mch dom s = true then (match bst dom rs i with
        | none => some i
        | some k => if ((rs[k]?).getD Str.empty).length < s.length then some i else some k) else bst dom rs i
theorem bst_lt (dom : Str) (rs : List Str) : ∀ i k, bst dom rs i = some k → k < i ∧ k < rs.length
  | 0, k, h => by cases h
  | i + 1, k, h => by
    unfold bst at h
    cases e : rs[i]? with
    | none =>
      rw [e] at h
      have := bst_lt dom rs i k h
      omega
    | some s =>
      have hi := (List.getElem?_eq_some_iff.mp e).1
      rw [e] at h
      dsimp only at h
      by_cases m : mch dom s = true
      · rw [if_pos m] at h
        cases f : bst dom rs i with
        | none =>
          rw [f] at h
          obtain rfl := Option.some.inj h
          omega
        | some j =>
          rw [f] at h
          dsimp only at h
          have q := bst_lt dom rs i j f
          by_cases l : ((rs[j]?).getD Str.empty).length < s.length
          · rw [if_pos l] at h
            obtain rfl := Option.some.inj h
            omega
          · rw [if_neg l] at h
            obtain rfl := Option.some.inj h
            omega
      · rw [if_neg m] at h
        have := bst_lt dom rs i k h
        omega
/-! ### what steps do to a content: a step is a byte, or -1 for a clearing -/
def aft1 (c : List Int) (z : Int) : List Int := if z = -1 then [] else c ++ [z]
def aft (c q : List Int) : List Int := q.foldl aft1 c
theorem aft_snoc (c q : List Int) (z : Int) : aft c (q ++ [z]) = aft1 (aft c q) z := by
  unfold aft
  rw [List.foldl_append]
  rfl
theorem aft_len : ∀ (q c : List Int), (aft c q).length ≤ c.length + q.length
  | [], c => Nat.le_refl _
  | z :: q, c => by
    have h := aft_len q (aft1 c z)
    show (aft (aft1 c z) q).length ≤ _
    have h2 : (aft1 c z).length ≤ c.length + 1 := by
      unfold aft1
      split
      · exact Nat.zero_le _
      · rw [List.length_append]
        exact Nat.le_refl _
    rw [List.length_cons]
    omega
def ByL (c : List Int) : Prop := ∀ z ∈ c, 0 ≤ z ∧ z ≤ 255
def StL (q : List Int) : Prop := ∀ z ∈ q, -1 ≤ z ∧ z ≤ 255
theorem aft_by : ∀ {q c : List Int}, ByL c → StL q → ByL (aft c q)
  | [], c, h, _ => h
  | z :: q, c, h, g => by
    refine aft_by (c := aft1 c z) (q := q) (fun y hy => ?_) (fun y hy => g y (List.mem_cons_of_mem _ hy))
    unfold aft1 at hy
    by_cases e : z = -1
    · rw [if_pos e] at hy
      cases hy
    · rw [if_neg e] at hy
      rcases List.mem_append.mp hy with hy | hy
      · exact h y hy
      · rw [List.mem_singleton.mp hy]
        have := g z List.mem_cons_self
        omega
/-! ### the two files -/
abbrev Fls := Nat → List Int × List Int
def upF (F : Fls) (f : Nat) (x : List Int × List Int) : Fls := fun j => if j = f then x else F j
def Sz (F : Fls) (n : Nat) : Prop := ∀ j, (F j).1.length + (F j).2.length ≤ n
def OkF (F : Fls) : Prop := ∀ j, ByL (F j).1 ∧ StL (F j).2
theorem upF_at (F : Fls) (f : Nat) (x : List Int × List Int) : upF F f x f = x := if_pos rfl
theorem upF_ne {F : Fls} {f j : Nat} {x : List Int × List Int} (h : j ≠ f) : upF F f x j = F j := if_neg h
theorem Sz.up {F : Fls} {f n m : Nat} {x : List Int × List Int} (h : Sz F n) (l : n ≤ m) (k : x.1.length + x.2.length ≤ m) : Sz (upF F f x) m := fun j => by
  by_cases e : j = f
  · rw [e, upF_at]
    exact k
  · rw [upF_ne e]
    exact Nat.le_trans (h j) l
theorem OkF.up {F : Fls} {f : Nat} {x : List Int × List Int} (h : OkF F) (a : ByL x.1) (b : StL x.2) : OkF (upF F f x) := fun j => by
  by_cases e : j = f
  · rw [e, upF_at]
    exact ⟨a, b⟩
  · rw [upF_ne e]
    exact h j
def pwV : Option Nat → V
  | none => .non
  | some n => .int n
def cntO (pw : Option Nat) (n : Nat) : Nat := match pw with
  | none => n
  | some k => min k n
theorem cntO_le (pw : Option Nat) (n : Nat) : cntO pw n ≤ n := by
  cases pw with
  | none => exact Nat.le_refl _
  | some k => exact Nat.min_le_right _ _
def stp (k : Nat) (bs : List Int) : List Int := if k = 0 then bs else [-1]
def durF (F : Fls) (f many : Nat) : Fls := upF F f (aft (F f).1 ((F f).2.take many), [])
def opF (k f : Nat) (bs : List Int) (F : Fls) (pw : Option Nat) : Fls :=
  if k = 2 then (if cntO pw 1 = 1 then upF F f (aft (F f).1 (F f).2, []) else F) else upF F f ((F f).1, (F f).2 ++ (stp k bs).take (cntO pw (stp k bs).length))
def spP (pw : Option Nat) (n : Nat) : Option Nat := pw.map (· - cntO pw n)
def opB (k : Nat) (bs : List Int) (pw : Option Nat) : Bool := decide (cntO pw (stp k bs).length = (stp k bs).length)
/-! ### what a change leaves -/
def Chg (o : List Addr) (H H' : Hp) : Prop := ∀ a ob, a ∉ o → H a = some ob → H' a = some ob
theorem Chg.refl (o : List Addr) (H : Hp) : Chg o H H := fun _ _ _ h => h
theorem Chg.same {o : List Addr} {H H' : Hp} (s : Same H H') : Chg o H H' := fun a ob _ h => s a ob h
theorem Chg.trans {o o' : List Addr} {H H1 H2 : Hp} (a : Chg o H H1) (b : Chg o' H1 H2) (s : ∀ x ∈ o', x ∈ o ∨ H x = none) : Chg o H H2 := fun x ob n h => b x ob (fun m => by
  rcases s x m with q | q
  · exact n q
  · rw [q] at h
    cases h) (a x ob n h)
theorem Chg.put {o : List Addr} {H H1 : Hp} {p : Addr} {u : HO} (a : Chg o H H1) (s : p ∈ o ∨ H p = none) : Chg o H (upd H1 p u) := fun x ob n h => by
  rw [upd_ne fun e => ?_]
  · exact a x ob n h
  · subst e
    rcases s with q | q
    · exact n q
    · rw [q] at h
      cases h
/-! ### a disk -/
theorem n_ds : ¬ (("_durable" : Str) = "_steps") := by decide +kernel
theorem n_dp : ¬ (("_durable" : Str) = "_power") := by decide +kernel
theorem n_sp : ¬ (("_steps" : Str) = "_power") := by decide +kernel
def kfl (d s : Addr) (pw : V) : List (Str × V) := putF "_power" pw (putF "_steps" (.ref s) (putF "_durable" (.ref d) []))
theorem kfl_d (d s : Addr) (pw : V) : (kfl d s pw).lookup ("_durable" : Str) = some (.ref d) := by
  unfold kfl
  rw [lookup_putF, if_neg n_dp, lookup_putF, if_neg n_ds, lookup_putF, if_pos rfl]
theorem kfl_s (d s : Addr) (pw : V) : (kfl d s pw).lookup ("_steps" : Str) = some (.ref s) := by
  unfold kfl
  rw [lookup_putF, if_neg n_sp, lookup_putF, if_pos rfl]
theorem kfl_p (d s : Addr) (pw : V) : (kfl d s pw).lookup ("_power" : Str) = some pw := by
  unfold kfl
  rw [lookup_putF, if_pos rfl]
theorem kfl_no (d s : Addr) (pw : V) {m : Str} (h1 : ¬ m = "_power") (h2 : ¬ m = "_steps") (h3 : ¬ m = "_durable") : (kfl d s pw).lookup m = none := by
  unfold kfl
  rw [lookup_putF, if_neg h1, lookup_putF, if_neg h2, lookup_putF, if_neg h3]
  rfl
theorem kfl_eq (d s : Addr) (pw : V) : kfl d s pw = ([("_durable", V.ref d), ("_steps", V.ref s), ("_power", pw)] : List (Str × V)) := by
  unfold kfl
  show putF "_power" pw (if ("_durable" : Str) = "_steps" then _ else ("_durable", V.ref d) :: [("_steps", V.ref s)]) = _
  rw [if_neg n_ds]
  show (if ("_durable" : Str) = "_power" then _ else (("_durable" : Str), V.ref d) :: (if ("_steps" : Str) = "_power" then _ else ("_steps", V.ref s) :: [("_power", pw)])) = _
  rw [if_neg n_dp, if_neg n_sp]
theorem kfl_put (d s : Addr) (pw y : V) : putF "_power" y (kfl d s pw) = kfl d s y := by
  rw [kfl_eq, kfl_eq]
  show (if ("_durable" : Str) = "_power" then _ else (("_durable" : Str), V.ref d) :: (if ("_steps" : Str) = "_power" then _ else ("_steps", V.ref s) :: (if ("_power" : Str) = "_power" then [(("_power" : Str), y)] else _))) = _
  rw [if_neg n_dp, if_neg n_sp, if_pos rfl]
theorem kfl_len (d s : Addr) (pw : V) : (kfl d s pw).length < 1000 := by
  rw [kfl_eq]
  exact (by decide : 3 < 1000)
structure Dk0 (C : Addr) (H : Hp) (p dx d s a0 a1 b0 b1 : Addr) (F : Fls) (pw : Option Nat) : Prop where
  ep : H p = some (.ins C dx (kfl d s (pwV pw)))
  ed : H d = some (.lst [.ref a0, .ref a1])
  es : H s = some (.lst [.ref b0, .ref b1])
  e0 : H a0 = some (.lst ((F 0).1.map V.int))
  e1 : H a1 = some (.lst ((F 1).1.map V.int))
  g0 : H b0 = some (.lst ((F 0).2.map V.int))
  g1 : H b1 = some (.lst ((F 1).2.map V.int))
def Dk (C : Addr) (H : Hp) (p : Addr) (o : List Addr) (F : Fls) (pw : Option Nat) : Prop := ∃ dx d s a0 a1 b0 b1, o = [p, d, s, a0, a1, b0, b1] ∧ [d, s, a0, a1, b0, b1].Nodup ∧ Dk0 C H p dx d s a0 a1 b0 b1 F pw
theorem Dk.alive {C : Addr} {H : Hp} {p : Addr} {o : List Addr} {F : Fls} {pw : Option Nat} (h : Dk C H p o F pw) : ∀ x ∈ o, ∃ u, H x = some u ∧ ∀ b xs, u ≠ .frz b (.tup xs) := by
  obtain ⟨dx, d, s, a0, a1, b0, b1, rfl, _, k⟩ := h
  intro x hx
  simp only [List.mem_cons, List.not_mem_nil, or_false] at hx
  rcases hx with rfl | rfl | rfl | rfl | rfl | rfl | rfl
  · exact ⟨_, k.ep, fun b xs e => by cases e⟩
  · exact ⟨_, k.ed, fun b xs e => by cases e⟩
  · exact ⟨_, k.es, fun b xs e => by cases e⟩
  · exact ⟨_, k.e0, fun b xs e => by cases e⟩
  · exact ⟨_, k.e1, fun b xs e => by cases e⟩
  · exact ⟨_, k.g0, fun b xs e => by cases e⟩
  · exact ⟨_, k.g1, fun b xs e => by cases e⟩
theorem Dk.keep {C : Addr} {H H1 : Hp} {p : Addr} {o : List Addr} {F : Fls} {pw : Option Nat} (h : Dk C H p o F pw) (k : ∀ x ∈ o, ∀ u, H x = some u → H1 x = some u) : Dk C H1 p o F pw := by
  obtain ⟨dx, d, s, a0, a1, b0, b1, rfl, nd, q⟩ := h
  exact ⟨dx, d, s, a0, a1, b0, b1, rfl, nd, k p (by simp) _ q.ep, k d (by simp) _ q.ed, k s (by simp) _ q.es, k a0 (by simp) _ q.e0, k a1 (by simp) _ q.e1, k b0 (by simp) _ q.g0, k b1 (by simp) _ q.g1⟩
theorem Dk.same {C : Addr} {H H1 : Hp} {p : Addr} {o : List Addr} {F : Fls} {pw : Option Nat} (h : Dk C H p o F pw) (s : Same H H1) : Dk C H1 p o F pw := h.keep fun x _ u e => s x u e
theorem nd6 {d s a0 a1 b0 b1 : Addr} (h : [d, s, a0, a1, b0, b1].Nodup) : (d ≠ s ∧ d ≠ a0 ∧ d ≠ a1 ∧ d ≠ b0 ∧ d ≠ b1) ∧ (s ≠ a0 ∧ s ≠ a1 ∧ s ≠ b0 ∧ s ≠ b1) ∧ (a0 ≠ a1 ∧ a0 ≠ b0 ∧ a0 ≠ b1) ∧ (a1 ≠ b0 ∧ a1 ≠ b1) ∧ b0 ≠ b1 := by
  simp only [List.nodup_cons, List.mem_cons, List.not_mem_nil, or_false, not_or] at h
  exact ⟨h.1, h.2.1, h.2.2.1, h.2.2.2.1, h.2.2.2.2.1⟩
theorem nd6_mk {d s a0 a1 b0 b1 : Addr} (h : (d ≠ s ∧ d ≠ a0 ∧ d ≠ a1 ∧ d ≠ b0 ∧ d ≠ b1) ∧ (s ≠ a0 ∧ s ≠ a1 ∧ s ≠ b0 ∧ s ≠ b1) ∧ (a0 ≠ a1 ∧ a0 ≠ b0 ∧ a0 ≠ b1) ∧ (a1 ≠ b0 ∧ a1 ≠ b1) ∧ b0 ≠ b1) : [d, s, a0, a1, b0, b1].Nodup := by
  obtain ⟨⟨h1, h2, h3, h4, h5⟩, ⟨h6, h7, h8, h9⟩, ⟨h10, h11, h12⟩, ⟨h13, h14⟩, h15⟩ := h
  simp [h1, h2, h3, h4, h5, h6, h7, h8, h9, h10, h11, h12, h13, h14, h15]
theorem Chg.then {o : List Addr} {H H1 H2 : Hp} (a : Chg o H H1) (s : Same H1 H2) : Chg o H H2 := fun x ob n h => s x ob (a x ob n h)
theorem free_upd {H : Hp} {d n : Addr} {u : HO} (h : (upd H d u) n = none) : H n = none ∧ n ≠ d := by
  by_cases e : n = d
  · rw [e, upd_same] at h
    cases h
  · rw [upd_ne e] at h
    exact ⟨h, e⟩
theorem ins_lst {H : Hp} {p x C dx : Addr} {fs : List (Str × V)} {xs : List V} (h : H p = some (.ins C dx fs)) (g : H x = some (.lst xs)) : p ≠ x := ne_of h g (by intro z; cases z)
/-! ### the law's own model of a disk -/
def lv (z : Int) : V := if z = -1 then .non else .int z
theorem lv_by {bs : List Int} (h : ByL bs) : bs.map V.int = bs.map lv := List.map_congr_left fun z hz => by
  have := h z hz
  unfold lv
  rw [if_neg (by omega)]
structure Md0 (H : Hp) (m fl t0 t1 u0 w0 u1 w1 : Addr) (F : Fls) (pw : Option Nat) : Prop where
  em : H m = some (.lst [.ref fl, pwV pw])
  ef : H fl = some (.lst [.ref t0, .ref t1])
  k0 : Tk H t0 [.ref u0, .ref w0]
  k1 : Tk H t1 [.ref u1, .ref w1]
  e0 : H u0 = some (.lst ((F 0).1.map V.int))
  g0 : H w0 = some (.lst ((F 0).2.map lv))
  e1 : H u1 = some (.lst ((F 1).1.map V.int))
  g1 : H w1 = some (.lst ((F 1).2.map lv))
def Md (H : Hp) (m : Addr) (o : List Addr) (F : Fls) (pw : Option Nat) : Prop := ∃ fl t0 t1 u0 w0 u1 w1, o = [m, fl, t0, t1, u0, w0, u1, w1] ∧ (m ≠ fl ∧ (u0 ≠ m ∧ u0 ≠ fl) ∧ (w0 ≠ m ∧ w0 ≠ fl) ∧ (u1 ≠ m ∧ u1 ≠ fl) ∧ (w1 ≠ m ∧ w1 ≠ fl)) ∧ Md0 H m fl t0 t1 u0 w0 u1 w1 F pw
theorem Tk.al {H : Hp} {p : Addr} {xs : List V} (h : Tk H p xs) : ∃ u, H p = some u := let ⟨_, _, e⟩ := h; ⟨_, e⟩
theorem Tk.keep {H H1 : Hp} {p : Addr} {xs : List V} (h : Tk H p xs) (k : ∀ u, H p = some u → H1 p = some u) : Tk H1 p xs := let ⟨o, d, e⟩ := h; ⟨o, d, k _ e⟩
theorem Md.alive {H : Hp} {m : Addr} {o : List Addr} {F : Fls} {pw : Option Nat} (h : Md H m o F pw) : ∀ x ∈ o, ∃ u, H x = some u := by
  obtain ⟨fl, t0, t1, u0, w0, u1, w1, rfl, _, k⟩ := h
  intro x hx
  simp only [List.mem_cons, List.not_mem_nil, or_false] at hx
  rcases hx with rfl | rfl | rfl | rfl | rfl | rfl | rfl | rfl
  · exact ⟨_, k.em⟩
  · exact ⟨_, k.ef⟩
  · exact k.k0.al
  · exact k.k1.al
  · exact ⟨_, k.e0⟩
  · exact ⟨_, k.g0⟩
  · exact ⟨_, k.e1⟩
  · exact ⟨_, k.g1⟩
theorem Md.keep {H H1 : Hp} {m : Addr} {o : List Addr} {F : Fls} {pw : Option Nat} (h : Md H m o F pw) (k : ∀ x ∈ o, ∀ u, H x = some u → H1 x = some u) : Md H1 m o F pw := by
  obtain ⟨fl, t0, t1, u0, w0, u1, w1, rfl, n, q⟩ := h
  exact ⟨fl, t0, t1, u0, w0, u1, w1, rfl, n, k m (by simp) _ q.em, k fl (by simp) _ q.ef, q.k0.keep (k t0 (by simp)), q.k1.keep (k t1 (by simp)), k u0 (by simp) _ q.e0, k w0 (by simp) _ q.g0, k u1 (by simp) _ q.e1, k w1 (by simp) _ q.g1⟩
theorem Md.same {H H1 : Hp} {m : Addr} {o : List Addr} {F : Fls} {pw : Option Nat} (h : Md H m o F pw) (s : Same H H1) : Md H1 m o F pw := h.keep fun x _ u e => s x u e
theorem Md.pow {H : Hp} {m : Addr} {o : List Addr} {F : Fls} {pw : Option Nat} (h : Md H m o F pw) : ∃ fl, H m = some (.lst [.ref fl, pwV pw]) ∧ ∀ pw', Md (upd H m (.lst [.ref fl, pwV pw'])) m o F pw' ∧ Chg o H (upd H m (.lst [.ref fl, pwV pw'])) := by
  obtain ⟨fl, t0, t1, u0, w0, u1, w1, rfl, n, q⟩ := h
  obtain ⟨n1, ⟨n2, n3⟩, ⟨n4, n5⟩, ⟨n6, n7⟩, n8, n9⟩ := id n
  refine ⟨fl, q.em, fun pw' => ⟨⟨fl, t0, t1, u0, w0, u1, w1, rfl, n, upd_same, (upd_ne n1.symm).trans q.ef, q.k0.put q.em, q.k1.put q.em, (upd_ne n2).trans q.e0, (upd_ne n4).trans q.g0, (upd_ne n6).trans q.e1, (upd_ne n8).trans q.g1⟩, Chg.put (Chg.refl _ _) (.inl (by simp))⟩⟩
theorem Tk.nl {H : Hp} {p l : Addr} {xs zs : List V} (t : Tk H p xs) (e : H l = some (.lst zs)) : p ≠ l := fun z => by
  obtain ⟨o, d, q⟩ := t
  rw [z, e] at q
  cases q
theorem Md.set {H : Hp} {m : Addr} {o : List Addr} {F : Fls} {pw : Option Nat} {f : Nat} (h : Md H m o F pw) (hf : f < 2) : ∃ fl t xs u w, H m = some (.lst [.ref fl, pwV pw]) ∧ H fl = some (.lst xs) ∧ atI xs (f : Int) = some (.ref t) ∧ ixN xs.length (f : Int) = some f ∧
    Tk H t [.ref u, .ref w] ∧ H u = some (.lst ((F f).1.map V.int)) ∧ H w = some (.lst ((F f).2.map lv)) ∧ (u ∈ o ∧ u ≠ m ∧ u ≠ fl) ∧
    ∀ H1 t' u' w' c q, Same H H1 → Tk H1 t' [.ref u', .ref w'] → H1 u' = some (.lst (c.map V.int)) → H1 w' = some (.lst (q.map lv)) → H t' = none → ((u' ∈ o ∨ H u' = none) ∧ u' ≠ m ∧ u' ≠ fl) → H w' = none →
      ∃ o', Md (upd H1 fl (.lst (xs.set f (.ref t')))) m o' (upF F f (c, q)) pw ∧ (∀ x ∈ o', x ∈ o ∨ H x = none) ∧ Chg o H (upd H1 fl (.lst (xs.set f (.ref t')))) := by
  obtain ⟨fl, t0, t1, u0, w0, u1, w1, rfl, n, q⟩ := h
  obtain ⟨n1, ⟨n2, n3⟩, ⟨n4, n5⟩, ⟨n6, n7⟩, n8, n9⟩ := id n
  obtain rfl | rfl : f = 0 ∨ f = 1 := by omega
  · refine ⟨fl, t0, _, u0, w0, q.em, q.ef, rfl, rfl, q.k0, q.e0, q.g0, ⟨by simp, n2, n3⟩, fun H1 t' u' w' c p s tk eu ew nt hu nw => ?_⟩
    obtain ⟨hu1, hu2, hu3⟩ := hu
    have wm : w' ≠ m := (ne_of_none q.em nw).symm
    have wf : w' ≠ fl := (ne_of_none q.ef nw).symm
    have ef1 := s _ _ q.ef
    refine ⟨[m, fl, t', t1, u', w', u1, w1], ⟨fl, t', t1, u', w', u1, w1, rfl, ⟨n1, ⟨hu2, hu3⟩, ⟨wm, wf⟩, ⟨n6, n7⟩, n8, n9⟩, ⟨(upd_ne n1).trans (s _ _ q.em), upd_same, tk.put ef1, (q.k1.same s).put ef1, ?_, ?_, ?_, ?_⟩⟩, fun x hx => ?_, Chg.put (Chg.same s) (.inl (by simp))⟩
    · rw [upF_at]
      exact (upd_ne hu3).trans eu
    · rw [upF_at]
      exact (upd_ne wf).trans ew
    · exact (upd_ne n7).trans (s _ _ q.e1)
    · exact (upd_ne n9).trans (s _ _ q.g1)
    · simp only [List.mem_cons, List.not_mem_nil, or_false] at hx
      rcases hx with rfl | rfl | rfl | rfl | rfl | rfl | rfl | rfl
      all_goals first
        | exact .inr nt
        | exact .inr nw
        | exact hu1
        | exact .inl (by simp)
  · refine ⟨fl, t1, _, u1, w1, q.em, q.ef, rfl, rfl, q.k1, q.e1, q.g1, ⟨by simp, n6, n7⟩, fun H1 t' u' w' c p s tk eu ew nt hu nw => ?_⟩
    obtain ⟨hu1, hu2, hu3⟩ := hu
    have wm : w' ≠ m := (ne_of_none q.em nw).symm
    have wf : w' ≠ fl := (ne_of_none q.ef nw).symm
    have ef1 := s _ _ q.ef
    refine ⟨[m, fl, t0, t', u0, w0, u', w'], ⟨fl, t0, t', u0, w0, u', w', rfl, ⟨n1, ⟨n2, n3⟩, ⟨n4, n5⟩, ⟨hu2, hu3⟩, wm, wf⟩, ⟨(upd_ne n1).trans (s _ _ q.em), upd_same, (q.k0.same s).put ef1, tk.put ef1, ?_, ?_, ?_, ?_⟩⟩, fun x hx => ?_, Chg.put (Chg.same s) (.inl (by simp))⟩
    · exact (upd_ne n3).trans (s _ _ q.e0)
    · exact (upd_ne n5).trans (s _ _ q.g0)
    · rw [upF_at]
      exact (upd_ne hu3).trans eu
    · rw [upF_at]
      exact (upd_ne wf).trans ew
    · simp only [List.mem_cons, List.not_mem_nil, or_false] at hx
      rcases hx with rfl | rfl | rfl | rfl | rfl | rfl | rfl | rfl
      all_goals first
        | exact .inr nt
        | exact .inr nw
        | exact hu1
        | exact .inl (by simp)
theorem SqT.put {K : PySem.W.Frag} {H : Hp} {p l : Addr} {xs zs : List V} {o : HO} (t : SqT K H p xs) (e : H l = some (.lst zs)) : SqT K (upd H l o) p xs := by
  rcases t with (h | ⟨b, h⟩) | h
  · refine .inl (.inl ?_)
    rw [upd_ne fun z => ?_]
    · exact h
    · rw [z, e] at h
      cases h
  · refine .inl (.inr ⟨b, ?_⟩)
    rw [upd_ne fun z => ?_]
    · exact h
    · rw [z, e] at h
      cases h
  · exact .inr h
theorem DpAll.ints {K : PySem.W.Frag} {H : Hp} : ∀ c : List Int, DpAll K H (c.map V.int) (c.map PyData.int)
  | [] => .nil
  | x :: c => .cons (.int x) (DpAll.ints c)
theorem sh_ints (c : List Int) : Sh 1 (.list (c.map PyData.int)) := Sh.list fun d hd => by
  obtain ⟨x, _, rfl⟩ := List.mem_map.mp hd
  exact Sh.int x
theorem rd_neInts {K : PySem.W.Frag} {H : Hp} {Q : VK} {a b : Addr} {c : List Int} (h1 : SqL K H a (c.map V.int)) (h2 : SqL K H b (c.map V.int)) (h : Q (.bl false) H) : rNeD K (.ref a) (.ref b) H Q :=
  rd_neSame (.lst h1 (DpAll.ints c)) (.lst h2 (DpAll.ints c)) (sh_ints c).shaped (sh_ints c).refl h
theorem rd_slTfrom1 {K : PySem.W.Frag} {H : Hp} {Q : VK} {a : Addr} {x y z : V} (c : SqT K H a [x, y, z]) (h : ∀ p, H p = none → Q (.ref p) (upd H p (.tup [y, z]))) : rSlT K (.ref a) (some 1) none H Q :=
  ⟨a, [x, y, z], rfl, c, (fun w => by
    have := w.1
    cases this), (fun p n => h p n)⟩
theorem rd_catT {K : PySem.W.Frag} {H : Hp} {Q : VK} {a b : Addr} {x y z : V} (c : SqT K H a [x]) (d : SqT K H b [y, z]) (h : ∀ p, H p = none → Q (.ref p) (upd H p (.tup [x, y, z]))) : rCatT K (.ref a) (.ref b) H Q :=
  ⟨a, b, [x], [y, z], rfl, rfl, c, d, List.cons_ne_nil _ _, line_of (Nat.le_of_ble_eq_true rfl), (fun e => by cases e), (fun _ p n => h p n)⟩
/-! try with several clauses, each «except X as n» -/
abbrev Suite := Addr → Value → Option Addr → TS
/-- the ends of a suite: its name is gone behind it -/
def gone (i : Nat) (D : Ends) : Ends where
  nx := fun σ H => D.nx (σ.set i none) H
  rt := D.rt
  bk := fun σ H => D.bk (σ.set i none) H
  ct := fun σ H => D.ct (σ.set i none) H
def wNm (K : PySem.W.Frag) (Wout : WX) (D : Ends) : List (Value × Nat × Suite) → WX
  | [] => Wout
  | (c, i, ts) :: r => fun k d σ H => ∃ b, PySem.W.exmOne K k c = some b ∧ (b = true → ∀ a, H a = none → ts a k d (gone i D) (σ.set i (some (.ref a))) H) ∧ (b = false → wNm K Wout D r k d σ H)
inductive HN (X : Cx) : List ExceptHandler → List (Value × Nat × Suite) → Prop
  | nil : HN X [] []
  | cons {x n : Str} {c : Value} {i : Nat} {ts : Suite} {b : Stmt} {bs : List Stmt} {p q : Pos} {hds : List ExceptHandler} {l : List (Value × Nat × Suite)} (hi : X.N[i]? = some n) (kn : X.env.kindOf n = some .local) (hc : Names X x c)
      (su : ∀ (a : Addr) (oe : Obj) (k : Value) (d : Option Addr) (pn : List (Addr × Obj)), Zc k d oe → (∃ vs, oe.data = .fields vs) → PSs (X.suite a ((a, oe) :: pn)) (b :: bs) (ts a k d)) (r : HN X hds l) :
      HN X (.ExceptHandler (some (.Name x p)) (some n) (b :: bs) q :: hds) ((c, i, ts) :: l)
section
variable {X : Cx} {body : List Stmt} {h0 : ExceptHandler} {hds : List ExceptHandler} {l : List (Value × Nat × Suite)} {pos : Pos} {tb : WX → TS} {Wout : WX}
theorem ps_tryN (hs : X.stack = X.env :: X.outer) (hf : X.env.frame = some X.env.locals) (hN : X.N.Nodup) (tk : Takes X Wout)
    (hb : ∀ (W : WX) (pn : List (Addr × Obj)) (xe : Value → Shared → Prop), Takes (X.tr pn xe) W → PassesOwn (model X.prog X.w) X.A X.env xe → PSs (X.tr pn xe) body (tb W))
    (hh : HN X (h0 :: hds) l) : PS X (.Try body (h0 :: hds) [] [] pos) (fun D σ H => tb (wNm X.K Wout D l) D σ H) := by
  constructor
  intro pn0 s σ H D I start
  have calm := I.ok
  have frames : X.A.frames = some (X.env :: X.outer) := hs ▸ calm.frames
  refine wpAny_Try_except ?_
  have walked := (hb (wNm X.K Wout D l) (X.pn ++ pn0)
    (fun ev t1 => wpAny (model X.prog X.w) X.A (noteFrame ev X.env) (fun _ t2 => wpAny (model X.prog X.w) X.A (setFlight ev none)
      (fun _ t3 => wpAny (model X.prog X.w) X.A (handleBy ev X.env (h0 :: hds)) (SP X pn0 D) X.xe t3) X.xe t2) X.xe t1) ?caught PassesOwn.looking).run [] s σ H D (I.toTry _) start
  · refine wpAny_mono walked (fun fl t1 done => ?_) fun ev t1 z => z
    cases fl with
    | next =>
      obtain ⟨σ1, H1, J, g⟩ := done
      exact wpAny_execs_nil ⟨σ1, H1, J.ofTry calm, g⟩
    | brk =>
      obtain ⟨σ1, H1, J, g⟩ := done
      exact ⟨σ1, H1, J.ofTry calm, g⟩
    | cont =>
      obtain ⟨σ1, H1, J, g⟩ := done
      exact ⟨σ1, H1, J.ofTry calm, g⟩
    | ret u =>
      obtain ⟨v, σ1, H1, J, g1, g2⟩ := done
      exact ⟨v, σ1, H1, J.ofTry calm, g1, g2⟩
  case caught =>
    intro u s1 held
    obtain ⟨a, B, t0, pnX, σ1, H1, k, d, rfl, J0, nb, up, sky, na, os, ag, w⟩ := held
    have J : Inv X pn0 σ1 H1 t0 := J0.ofTry calm
    show wpAny (model X.prog X.w) X.A (noteFrame (.ref a) X.env) _ _ _
    refine Sky.land Zc.steady frames hf (hs ▸ sky) fun g3 fl3 up3 => ?_
    have J3 : Inv X pn0 σ1 H1 { s1 with heap := g3 } := J.landed nb fl3.1 (up.trans up3) os ag
    obtain ⟨o3, v3, e3, z3, d3⟩ := fl3.there
    have away : a ∉ frs (X.env :: X.outer) := fun m => by
      obtain ⟨_, o9, e9, no⟩ := fl3.2.2.1.mem m
      rw [e3] at e9
      cases e9
      exact no _ d3
    have aL : a ≠ X.env.locals := fun z => away (List.mem_filterMap.mpr ⟨X.env, List.mem_cons_self, by rw [hf, z]⟩)
    have aF : a ∉ X.fs := fun m => by
      obtain ⟨e, he, g⟩ := List.mem_filterMap.mp m
      exact away (List.mem_filterMap.mpr ⟨e, List.mem_cons_of_mem _ he, g⟩)
    have U3 := J3.suite e3 d3 na aL aF
    have each : ∀ {hd2 : List ExceptHandler} {l2 : List (Value × Nat × Suite)}, HN X hd2 l2 → wNm X.K Wout D l2 k d σ1 H1 → wpAny (model X.prog X.w) X.A (handleBy (.ref a) X.env hd2) (SP X pn0 D) X.xe { s1 with heap := g3 } := by
      intro hd2 l2 all
      induction all with
      | nil =>
        intro w
        refine wpAny_handleBy_nil ?_
        obtain ⟨_, _, _, oe, vs, T, oT, ts', he, hz, hd, h1, hr⟩ := id fl3
        have last : wpAny (model X.prog X.w) X.A (setFlight (.ref a) X.env.frame) (fun _ t4 => wpAny (model X.prog X.w) X.A (throw (.ref a) : Sem Flow) (SP X pn0 D) X.xe t4) X.xe { s1 with heap := g3 } := by
          rw [hf]
          refine HandSPX.setFlight_upZ fl3 fun g4 hg4 up4 => wpAny_throw (tk _ _ ?_)
          exact ⟨a, B, t0, pn0, σ1, H1, k, d, rfl, J, nb, (up.trans up3).trans up4, .inr (.inr (hs.symm ▸ hg4)), na, os, ag, w⟩
        unfold PySem.passOn
        refine wpAny_bind (wpAny_field he hd h1 ?_)
        have ne : ¬ ((Value.ref T == Value.none) = true) := by simp
        rw [if_neg ne]
        first
          | exact wpAny_bind (wpAny_pure (wpAny_bind last))
          | exact wpAny_bind last
      | @cons x n c i ts b bs p q hd3 l3 hi kn hc su r ih =>
        rintro ⟨yes, e1, hy, hn⟩
        refine wpAny_handleBy_cons (codeAny_handlers_test ?_) (by intro z; cases z)
        have L1 : PySem.W.Looks (model X.prog X.w) g3 (typeOf (.ref a)) k := fun A Q E t kk z => wpAny_typeOf_ref (kk _ _ e3) (by rw [z3.1]; exact z)
        have L2' := PySem.W.exm_one (M := model X.prog X.w) (J3.kIn) L1 e1
        have look : ∀ {Q : Value → Shared → Prop} {E : Value → Shared → Prop}, Q c { s1 with heap := g3 } → wpAny (model X.prog X.w) (X.A.mark (some (.ref a))) (eval (.Name x p) X.env) Q E { s1 with heap := g3 } := by
          intro Q E z
          obtain ⟨g, db, m | ⟨m, hv, nn⟩⟩ := hc
          · exact ld_glob (X := X.suite a ((a, o3) :: (X.pn ++ pn0))) U3 g m z db
          · exact ld_blt (X := X.suite a ((a, o3) :: (X.pn ++ pn0))) U3 g m hv z nn db
        refine look (L2'.here ?_)
        cases yes with
        | false =>
          show wpAny _ X.A (handleBy (.ref a) X.env hd3) _ _ _
          exact ih (hn rfl)
        | true =>
          refine codeAny_handlers_suite_as ?_
          refine HandSPX.lands_againZ fl3 fun g4 fl4 up4 => ?_
          have J4 : Inv X pn0 σ1 H1 { s1 with heap := g4 } := J.landed nb fl4.1 ((up.trans up3).trans up4) os ag
          obtain ⟨o4, v4, e4, z4, d4⟩ := fl4.there
          have U4 := J4.suite e4 d4 na aL aF
          refine store_ok (X := X.suite a ((a, o4) :: (X.pn ++ pn0))) (v := .ref a) U4 hN hi (.inl kn) rfl (fun t5 U5 => ?_) (.inr kn)
          have ran := (su a o4 k d (X.pn ++ pn0) z4 ⟨_, d4⟩).run [] t5 _ H1 _ U5 (hy rfl a na)
          refine wpAny_mono ran (fun fl t6 done => ?_) fun _ _ z => z.elim
          have shut : ∀ {σ6 : L2.St} {H6 : Hp} {Q : Shared → Prop}, Inv (X.suite a ((a, o4) :: (X.pn ++ pn0))) [] σ6 H6 t6 → (∀ t7, Inv X pn0 (σ6.set i none) H6 t7 → Q t7) →
              wpAny (model X.prog X.w) X.A (do bindName X.env n .none; unbindBehindTheSuite X.env n q) (fun _ t7 => Q t7) X.xe t6 := fun U6 z => gone_ok (U6.unsuite calm) hN hi kn z
          cases fl with
          | next =>
            obtain ⟨σ6, H6, U6, g⟩ := done
            exact shut U6 fun t7 J7 => ⟨_, _, J7, g⟩
          | brk =>
            obtain ⟨σ6, H6, U6, g⟩ := done
            exact shut U6 fun t7 J7 => ⟨_, _, J7, g⟩
          | cont =>
            obtain ⟨σ6, H6, U6, g⟩ := done
            exact shut U6 fun t7 J7 => ⟨_, _, J7, g⟩
          | ret u =>
            obtain ⟨v6, σ6, H6, U6, g1, g2⟩ := done
            exact shut U6 fun t7 J7 => ⟨_, _, _, J7, g1, g2⟩
    exact each hh w
end
/-- isinstance(e, c), e an own error with fields that the suite holds -/
def zIsD (K : PySem.W.Frag) (C a : Addr) (k : Value) (d : Option Addr) : List V → Hp → VK → Prop := fun xs H Q => k = .ref C ∧ ∃ dd fs, d = some dd ∧ H dd = some (.xd fs) ∧ rIsE K C a xs H Q
theorem y_isED {X : Cx} {a C : Addr} {oe : Obj} {k : Value} {d : Option Addr} {pn : List (Addr × Obj)} (E : ExcC X.K C) (hz : Zc k d oe) (hf : ∃ vs, oe.data = .fields vs) : CallR (X.suite a ((a, oe) :: pn)) (.builtin "isinstance") (zIsD X.K C a k d) := by
  intro ps s σ H xs us Q I r h
  obtain ⟨rfl, dd, fs, rfl, ed, c, cv, b, rfl, hcv, e1, q⟩ := h
  obtain ⟨cd, hcl, _⟩ := PySem.W.any_some E.hd
  cases r with
  | cons r1 rr =>
    cases rr with
    | cons r2 rr =>
      cases rr
      cases r1
      have ev := hcv _ r2
      subst ev
      obtain ⟨here, _⟩ := I.pin (a, oe) (List.mem_append_left _ List.mem_cons_self)
      obtain ⟨vs, hv⟩ := hf
      obtain ⟨mA, hns, _⟩ : ObjOk X.prog X.w H s.heap dd (.xd fs) := I.hok dd _ ed
      obtain ⟨od, ho, _⟩ := lookIn_ns hns
      have J : PySem.W.InstAt s.heap a oe C (some od) := ⟨here, hz.1, by unfold PySem.W.notCls; rw [hv] <;> rfl, by rw [hz.2]; exact ho⟩
      have kit := PySem.W.kitx_exc (x := a) (ox := oe) (od := some od) (by rw [hcl]; rfl) E.hg E.hk E.hs E.ha E.hn E.ht E.hm
      exact PySem.W.kia_one kit I.kIn J e1 (fun z => by cases z) fun tk => ⟨.bl b, H, I.kept (t' := tk) fun _ _ z => z, rfl, q⟩
def wXf (a : Addr) (k : Value) (d : Option Addr) (C : Addr) (f : Str) (x : V) (H : Hp) (Q : VK) : Prop := x = .ref a ∧ k = .ref C ∧ ∃ (dd : Addr) (fs : List (Str × V)) (v : V), d = some dd ∧ H dd = some (.xd fs) ∧ fs.lookup f = some v ∧ Q v H
section
variable {σ : L2.St} {H : Hp} {Q : VK} {K : PySem.W.Frag} {a C dd : Addr} {k : Value} {d : Option Addr} {f : Str} {te : TE} {nx bk ct : L2.St → Hp → Prop} {rt : VK} {l : List (Value × Nat × Suite)} {tb : WX → TS} {Wout : WX} {v : V}
theorem rd_xf (h : te σ H fun x H1 => wXf a k d C f x H1 Q) : tXf a k d C f te σ H Q := h
theorem rd_wXf (e : H dd = some (.xd [(f, v)])) (h : Q v H) : wXf a (.ref C) (some dd) C f (.ref a) H Q := ⟨rfl, rfl, dd, _, v, rfl, e, by simp [List.lookup], h⟩
def zTryN (K : PySem.W.Frag) (Wout : WX) (l : List (Value × Nat × Suite)) (tb : WX → TS) : TS := fun D σ H => tb (wNm K Wout D l) D σ H
theorem rd_tryN (h : tb (wNm K Wout ⟨nx, rt, bk, ct⟩ l) ⟨nx, rt, bk, ct⟩ σ H) : zTryN K Wout l tb ⟨nx, rt, bk, ct⟩ σ H := h
end
theorem y_tryN {X : Cx} {body : List Stmt} {h0 : ExceptHandler} {hds : List ExceptHandler} {l : List (Value × Nat × Suite)} {pos : Pos} {tb : WX → TS} {Wout : WX} (hs : X.stack = X.env :: X.outer) (hf : X.env.frame = some X.env.locals) (hN : X.N.Nodup) (tk : Takes X Wout)
    (hb : ∀ (W : WX) (pn : List (Addr × Obj)) (xe : Value → Shared → Prop), Takes (X.tr pn xe) W → PassesOwn (model X.prog X.w) X.A X.env xe → PSs (X.tr pn xe) body (tb W))
    (hh : HN X (h0 :: hds) l) : PS X (.Try body (h0 :: hds) [] [] pos) (zTryN X.K Wout l tb) := ps_tryN hs hf hN tk hb hh
/-! ### the two errors with a place -/
structure Er2 (P : Program) (K : PySem.W.Frag) (mg : Str → Option Value) (CI CV M : Addr) : Prop where
  i : ∃ qI vals fI, PySem.ErX.ErTxt P K mg "Incomplete" qI vals CI fI
  v : ∃ qI vals fI, PySem.ErX.ErTxt P K mg "InvalidRecord" qI vals CV fI
  gM : mg "MailError" = some (.ref M)
  gC : mg "Incomplete" = some (.ref CI)
  gV : mg "InvalidRecord" = some (.ref CV)
  e : ExcC K CI
  kM : PySem.W.kitOne K (.ref CI) (.ref M) = some true
  kV : PySem.W.kitOne K (.ref CI) (.ref CV) = some false
  xI : PySem.W.exmOne K (.ref CI) (.ref CI) = some true
  xVI : PySem.W.exmOne K (.ref CV) (.ref CI) = some false
  xV : PySem.W.exmOne K (.ref CV) (.ref CV) = some true
def Flt (C : Addr) (k : Nat) (H : Hp) (E : XK) : Prop := ∀ d H', Same H H' → H d = none → H' d = some (.xd [(("place" : Str), .int k)]) → E (.ref C) (some d) H'
theorem Flt.same {C : Addr} {k : Nat} {H H1 : Hp} {E : XK} (f : Flt C k H E) (s : Same H H1) : Flt C k H1 E := fun d H' s' n e => f d H' (s.trans s') (s.free n) e
/-- what follows a reading -/
def Ans {α : Type} (r : Rd1 α) (CI CV : Addr) (H : Hp) (E : XK) (ok : α → Nat → Prop) : Prop := (∀ c rest e, r = .ok c rest e → ok c e) ∧ (∀ k, r = .inc k → Flt CI k H E) ∧ (∀ k, r = .inv k → Flt CV k H E)
def wMkEr (C : Addr) (W : WX) (σ : L2.St) (vs : List V) (H : Hp) : Prop := ∃ i : Int, vs = [V.int i] ∧ i.natAbs < 10 ^ 100 ∧ ∀ d, H d = none → W (.ref C) (some d) σ (upd H d (.xd [(("place" : Str), .int i)]))
section
variable {σ : L2.St} {H : Hp} {as : TA} {W : WX} {C : Addr} {E : XK} {k : Nat} {D : Ends}
theorem rd_raiseEr (h : as σ H fun vs H1 => wMkEr C W σ vs H1) : tRaiseEr C W as D σ H := h
theorem rd_wMkEr (hk : k ≤ 100000000) (h : Flt C k H E) : wMkEr C (fun cls d _ H => E cls d H) σ [.int k] H := ⟨k, rfl, Nat.lt_of_le_of_lt (show (k : Int).natAbs ≤ 100000000 by omega) (by decide), fun d n => h d _ (same_new n) n upd_same⟩
end
theorem by_at {L : List Int} (h : By L) {p : Nat} {b : Int} (e : L[p]? = some b) : ∃ n : Nat, b = n ∧ n < 256 := by
  have := h b (List.mem_of_getElem? e)
  exact ⟨b.toNat, by omega, by omega⟩
theorem drop_at {α : Type} {L : List α} {p : Nat} {b : α} (e : L[p]? = some b) : L.drop p = b :: L.drop (p + 1) := by
  obtain ⟨h1, h2⟩ := List.getElem?_eq_some_iff.mp e
  rw [List.drop_eq_getElem_cons h1, h2]
theorem at_or {α : Type} (L : List α) (p : Nat) : (∃ b, L[p]? = some b) ∨ L.length ≤ p := by
  by_cases h : p < L.length
  · exact .inl ⟨L[p], List.getElem?_eq_getElem h⟩
  · exact .inr (by omega)
theorem atI_map {L : List Int} {p : Nat} {b : Int} (e : L[p]? = some b) : atI (L.map V.int) (p : Int) = some (.int b) := atI_nat (by rw [List.getElem?_map, e]; rfl)
/-! enumerate(xs, start=z), walked -/
/-- the list at a, the items in new pairs, counted from z -/
def ItN (K : PySem.W.Frag) (a : Addr) (z : Int) : It where
  go := fun i H => ∃ xs x, SqL K H a xs ∧ xs[i]? = some x
  yld := fun i H v H' => ∃ p x, v = .ref p ∧ H p = none ∧ H' = upd H p (.tup [.int (z + (i : Nat)), x]) ∧ ∀ xs, SqL K H a xs → xs[i]? = some x
  stop := fun i H => ∃ xs, SqL K H a xs ∧ xs.length = i
theorem callType_kw {M : Model} {A : Around} {E : Value → Shared → Prop} {s : Shared} {env : Env} {pos : Pos} {T : String} {e : Expr} {kws : List Keyword} {Q : Value → Shared → Prop}
    (go : wpAny M A (spliced (backTo pos (starEach [e] env))) (fun us s1 => wpAny M A (evalAll ((backToKw pos (keywordEach kws env)).map (·.2)))
      (fun ks s2 => wpAny M A (call (.type T) us (((backToKw pos (keywordEach kws env)).filterMap (·.1)).zip ks)) Q E s2) E s1) E s)
    (one : backTo pos (starEach [e] env) = (false, eval e env) :: backTo pos (starEach [] env)) (no : (backTo pos (starEach [e] env)).any (·.1) = false)
    (named : (backToKw pos (keywordEach kws env)).all (·.1.isSome) = true) (noStar : (backToKw pos (keywordEach kws env)).any (·.1.isNone) = false) :
    wpAny M A (callWith pos (.type T) [] (backTo pos (starEach [e] env)) (backToKw pos (keywordEach kws env))) Q E s := by
  rw [one] at go no ⊢
  have args := evalArgs_kwB (f := .type T) (Q := fun r t => wpAny M A (call (.type T) r.pos r.kw) Q E t) named go
  unfold callWith
  refine wpAny_bind (wpAny_holding (wpAny_mono args (fun r t k => ?_) fun _ _ q => q))
  refine wpAny_bind (wpAny_standAt ?_)
  simp only [no, noStar, Bool.or_false]
  refine wpAny_bind (wpAny_pure (wpAny_bind (wpAny_mono k (fun v t' k' => ?_) fun _ _ q => q)))
  exact wpAny_bind (wpAny_holding (wpAny_point (wpAny_pure k')))
theorem turnN {P : Program} {w : World} {K : PySem.W.Frag} {elts : List Expr} {kk : Nat} {tpos : Pos} (a e it : Addr) (z : Int) :
    Turn P w K (.Tuple elts kk tpos) (ItN K a z) [e, it] e (fun i h => (∃ old, IsEnum h e it (z + (i : Nat)) old) ∧ h.IsListIter it a i ∧ e ≠ it) where
  mem := List.mem_cons_self
  obj := by
    rintro i h ⟨⟨old, he⟩, ⟨o, ho, hc, hd⟩, _⟩ b hb
    simp only [List.mem_cons, List.not_mem_nil, or_false] at hb
    rcases hb with rfl | rfl
    · exact ⟨_, he, fun v q => by cases q⟩
    · refine ⟨o, ho, fun v q => ?_⟩
      rw [hd] at q
      cases q
  keep := by
    rintro i h h' ⟨⟨old, he⟩, hi, hne⟩ k
    exact ⟨⟨old, k e List.mem_cons_self _ he⟩, hi.at fun o q => k it (by simp) o q, hne⟩
  item := by
    intro X hP hw hK hc i pins s σ H E I hf tn hg
    subst hP hw hK
    obtain ⟨⟨old, he⟩, hit, hne⟩ := tn
    obtain ⟨xs, x, hq, hx⟩ := hg
    obtain ⟨its, rv, p, _⟩ := I.list hq
    obtain ⟨u, hu, ru⟩ := rv.get hx
    have lo : e < s.heap.objs.size := Heap.lt_size he
    have li : it < s.heap.objs.size := by
      obtain ⟨_, q, _⟩ := hit
      exact Heap.lt_size q
    have ai : a ≠ it := fun q => by
      obtain ⟨o1, h1, c1, _⟩ := hit
      obtain ⟨o2, h2, c2, _⟩ := p.isList
      rw [q, h1] at h2
      cases Option.some.inj h2
      rw [c1] at c2
      injection c2 with c3
      exact absurd c3 (by decide)
    have ea : e ≠ a := fun q => by
      obtain ⟨o2, h2, c2, _⟩ := p.isList
      have h1 := he
      unfold IsEnum at h1
      rw [q, h2] at h1
      cases Option.some.inj h1
      injection c2 with c3
      exact absurd c3 (by decide)
    have hh : X.A.in1.handled = none := I.ok.hd hc
    refine wpAny_pyNext_enum_itemC (Draws.list hh it a ai its.toArray) he ⟨hit, p.isList⟩ (show i < its.toArray.size by
      have := (List.getElem?_eq_some_iff.mp hu).1
      simpa using this) hne (by simp [hne, ea]) fun v h' tk hv ho st hT hsz hk => ?_
    have ev : v = u := by
      have h1 : its.toArray[i]? = some v := hv
      rw [show its.toArray[i]? = its[i]? by simp, hu] at h1
      exact (Option.some.inj h1).symm
    subst ev
    refine ⟨_, rfl, wpAny_letOwnedTupleGo_enum ho fun h2 he2 sb => ?_⟩
    have nT : s.heap.objs.size ≠ e := Nat.ne_of_gt lo
    have hT2 := (sb.2 _ nT).trans hT
    have ob : ObjOk X.prog X.w (upd H s.heap.objs.size (.tup [.int (z + (i : Nat)), x])) h2 s.heap.objs.size (.tup [.int (z + (i : Nat)), x]) :=
      ⟨line_of (by decide : 2 ≤ 10000000), [.int (z + (i : Nat)) tk, v], .cons ⟨_, rfl⟩ (.cons ru .nil), ⟨_, hT2, rfl, _, rfl⟩⟩
    have keep : ∀ b ob', b ∉ [e, it] → s.heap.get? b = some ob' → h2.get? b = some ob' := fun b ob' hb q => by
      simp only [List.mem_cons, List.not_mem_nil, or_false, not_or] at hb
      exact (sb.2 b hb.1).trans (hk b ob' hb.1 hb.2 q)
    have J : Inv X pins σ (upd H s.heap.objs.size (.tup [.int (z + (i : Nat)), x])) { s with heap := h2, toks := tk + 1 } := I.turnedNew (ch := [e, it]) keep hf (Nat.le_refl _) ob
    refine ⟨.ref s.heap.objs.size, _, J, rfl, ⟨_, x, rfl, I.hok.fresh (Nat.le_refl _), rfl, fun ys hy => ?_⟩, ⟨⟨v, ?_⟩, ?_, hne⟩, fun b hb => ?_⟩
    · rw [I.list_inj hy hq]
      exact hx
    · rw [show z + ((i + 1 : Nat) : Int) = z + (i : Nat) + 1 by omega]
      exact he2
    · exact st.1.at fun o q => (sb.2 it hne.symm).trans q
    · have hb2 : b < s.heap.objs.size := by
        simp only [List.mem_cons, List.not_mem_nil, or_false] at hb
        rcases hb with rfl | rfl
        · exact lo
        · exact li
      rw [upd_ne (Nat.ne_of_lt hb2)]
      exact (hf b hb).1
  done := by
    intro X hP hw hK hc i pins s σ H E I hf tn hg
    subst hP hw hK
    obtain ⟨⟨old, he⟩, hit, hne⟩ := tn
    obtain ⟨xs, hq, hx⟩ := hg
    obtain ⟨its, rv, p, _⟩ := I.list hq
    have ai : a ≠ it := fun q => by
      obtain ⟨o1, h1, c1, _⟩ := hit
      obtain ⟨o2, h2, c2, _⟩ := p.isList
      rw [q, h1] at h2
      cases Option.some.inj h2
      rw [c1] at c2
      injection c2 with c3
      exact absurd c3 (by decide)
    have hh : X.A.in1.handled = none := I.ok.hd hc
    obtain ⟨f0, f1, f2, f3, f4, f5⟩ := hf it (by simp)
    have hl : its.toArray.size = i := by
      have := rv.length
      simp only [List.size_toArray]
      omega
    refine wpAny_pyNext_enum_endD (Draws.list hh it a ai its.toArray) he ?_ fun h' eb => ⟨rfl, I.turned (t' := s.toks) (fun b o hb q => eb b o hb q) f0 f1 f3 f4 f5⟩
    rw [hl]
    exact ⟨hit, p.isList⟩
  self := by
    rintro A i s Q E ⟨⟨_, he⟩, _⟩ h
    exact wpAny_pyIter_enum he h
def iEnumK (K : PySem.W.Frag) (ta tk : TA) : TI := fun σ H R => ta σ H fun vs H1 => ∃ a xs, vs = [V.ref a] ∧ SqL K H1 a xs ∧ tk σ H1 fun zs H2 => ∃ z : Int, zs = [V.int z] ∧ (0 ≤ z ∧ z ≤ 1000000000) ∧ SqL K H2 a xs ∧ R (ItN K a z) H2
theorem pi_enumK {X : Cx} {e : Expr} {k : Keyword} {ta tk : TA} {p pos tpos : Pos} {elts : List Expr} {kk : Nat} (hg : Gl X "enumerate") (hm : X.mg "enumerate" = none) (ha : PA X [e] ta) (hk : PK X [k] tk)
    (one : backTo pos (starEach [e] X.env) = (false, eval e X.env) :: backTo pos (starEach [] X.env) := by rfl) (no : (backTo pos (starEach [e] X.env)).any (·.1) = false := by rfl)
    (named : (backToKw pos (keywordEach [k] X.env)).all (·.1.isSome) = true := by rfl) (noStar : (backToKw pos (keywordEach [k] X.env)).any (·.1.isNone) = false := by rfl)
    (nm : (backToKw pos (keywordEach [k] X.env)).filterMap (·.1) = [Str.ofString "start"] := by rfl) :
    PI X (.Tuple elts kk tpos) (.Call (.Name "enumerate" p) [e] [k] pos) (iEnumK X.K ta tk) := by
  constructor
  intro pins s σ H R I h
  refine wpAny_Call_Name_kw (ld_blt I hg hm boot_enumerate ?_)
  refine callType_kw (thn (ha.run pos pins s σ H _ I h) ?_) one no named noStar
  rintro us s1 ⟨vs, H1, I1, r1, a, xs, rfl, hq1, q1⟩
  refine thn (hk.run pos pins s1 σ H1 _ I1 q1) ?_
  rintro ws s2 ⟨zs, H2, I2, r2, z, rfl, hz, hq, q⟩
  rw [nm]
  obtain ⟨u, rfl, ru⟩ := vals1 r1
  cases ru
  obtain ⟨v, rfl, t, rfl⟩ := vals1 r2
  obtain ⟨its, rv, p', _⟩ := I2.list hq
  show wpAny _ _ (call (.type "enumerate") [.ref a] [(Str.ofString "start", .int z t)]) _ _ _
  refine enum_begins_start (begins_list a its.toArray) p'.isList (by omega) (by omega) fun h' he ho hsz hk' => wpAny_pyIter_enum he ?_
  have J : Inv X pins σ H2 { s2 with heap := h' } := I2.kept (t' := s2.toks) hk'
  refine ⟨s2.heap.objs.size + 1, [s2.heap.objs.size + 1, s2.heap.objs.size], _, _, H2, rfl, J, turnN a (s2.heap.objs.size + 1) s2.heap.objs.size z, ⟨⟨.none, ?_⟩, ⟨_, ho, rfl, rfl⟩, Nat.succ_ne_self _⟩, fun b hb => ?_, q⟩
  · rw [show z + ((0 : Nat) : Int) = z by omega]
    exact he
  · have hle : s2.heap.objs.size ≤ b := by
      simp only [List.mem_cons, List.not_mem_nil, or_false] at hb
      rcases hb with rfl | rfl
      · exact Nat.le_add_right _ _
      · exact Nat.le_refl _
    exact I2.fpOk hle (I2.hok.fresh hle)
section
variable {σ : L2.St} {H : Hp} {nx bk ct : L2.St → Hp → Prop} {rt : VK} {K : PySem.W.Frag} {ta tk : TA} {g : TG} {tb : TS} {a : Addr} {xs : List V} {z : Int}
def wEnk (K : PySem.W.Frag) (tk : TA) (σ : L2.St) (vs : List V) (H1 : Hp) (R : It → Hp → Prop) : Prop := ∃ a xs, vs = [V.ref a] ∧ SqL K H1 a xs ∧ tk σ H1 fun zs H2 => ∃ z : Int, zs = [V.int z] ∧ (0 ≤ z ∧ z ≤ 1000000000) ∧ SqL K H2 a xs ∧ R (ItN K a z) H2
theorem rd_frN (h : ta σ H fun vs H1 => wEnk K tk σ vs H1 fun J H2 => FrJ J g tb ⟨nx, rt, bk, ct⟩ σ H2) : tFor (iEnumK K ta tk) g tb ⟨nx, rt, bk, ct⟩ σ H := by
  unfold tFor iEnumK
  exact h
theorem frN (Pv : Nat → L2.St → Hp → Prop) (h0 : Pv 0 σ H) (hl : ∀ i σ H, i ≤ xs.length → Pv i σ H → SqL K H a xs)
    (hs : ∀ i x σ H p, xs[i]? = some x → Pv i σ H → H p = none → g (.ref p) σ (upd H p (.tup [.int (z + (i : Nat)), x])) fun σ2 H2 => tb ⟨Pv (i + 1), rt, nx, Pv (i + 1)⟩ σ2 H2)
    (hd : ∀ σ H, Pv xs.length σ H → nx σ H) : FrJ (ItN K a z) g tb ⟨nx, rt, bk, ct⟩ σ H := by
  refine ⟨fun i m σ H => m = xs.length - i ∧ i ≤ xs.length ∧ Pv i σ H, ⟨xs.length, rfl, Nat.zero_le _, h0⟩, ?_⟩
  rintro i m σ H ⟨rfl, hi, p⟩
  have hq := hl i σ H hi p
  by_cases hlt : i < xs.length
  · refine .inr ⟨⟨xs, _, hq, List.getElem?_eq_getElem hlt⟩, Pv (i + 1), fun σ' H' p' => ⟨xs.length - (i + 1), by omega, rfl, hlt, p'⟩, ?_⟩
    rintro v H' ⟨q, x, rfl, nq, rfl, hx⟩
    exact hs i x σ H q (hx xs hq) p nq
  · have e : i = xs.length := by omega
    subst e
    exact .inl ⟨⟨xs, hq, rfl⟩, hd σ H p⟩
end
/-! ### the signs of a text, as they are read -/
def gd (b : Int) : Prop := 32 ≤ b ∧ b ≤ 126 ∧ b ≠ 37
instance (b : Int) : Decidable (gd b) := by unfold gd; infer_instance
theorem rdS_bad : ∀ (i c : Nat) (l : List Int) (p : Nat), (∀ j, j < i → ∀ b, l[j]? = some b → gd b) → (∃ b, l[i]? = some b ∧ ¬ gd b) → i < c → rdS c l p = .inv (p + i)
  | i, 0, l, p, _, _, h => absurd h (Nat.not_lt_zero _)
  | i, c + 1, [], p, _, ⟨b, e, _⟩, _ => by simp at e
  | 0, c + 1, b :: r, p, _, ⟨b', e, n⟩, _ => by
    cases Option.some.inj e
    unfold gd at n
    rw [rdS, if_neg n]
    rfl
  | i + 1, c + 1, b :: r, p, g, ⟨b', e, n⟩, h => by
    have g0 : gd b := g 0 (Nat.succ_pos _) b rfl
    unfold gd at g0
    rw [rdS, if_pos g0, rdS_bad i c r (p + 1) (fun j hj b hb => g (j + 1) (Nat.succ_lt_succ hj) b hb) ⟨b', e, n⟩ (Nat.lt_of_succ_lt_succ h)]
    show Rd1.inv (p + 1 + i) = _
    rw [show p + 1 + i = p + (i + 1) by omega]
theorem rdS_short : ∀ (c : Nat) (l : List Int) (p : Nat), (∀ b ∈ l, gd b) → l.length < c → rdS c l p = .inc (p + l.length)
  | 0, l, p, _, h => absurd h (Nat.not_lt_zero _)
  | c + 1, [], p, _, _ => rfl
  | c + 1, b :: r, p, g, h => by
    have g0 : gd b := g b List.mem_cons_self
    unfold gd at g0
    rw [rdS, if_pos g0, rdS_short c r (p + 1) (fun b hb => g b (List.mem_cons_of_mem _ hb)) (Nat.lt_of_succ_lt_succ h), List.length_cons]
    show Rd1.inc (p + 1 + r.length) = _
    rw [show p + 1 + r.length = p + (r.length + 1) by omega]
theorem rdS_good : ∀ (c : Nat) (l : List Int) (p : Nat), (∀ b ∈ l.take c, gd b) → c ≤ l.length → rdS c l p = .ok ((l.take c).map Int.toNat) (l.drop c) (p + c)
  | 0, l, p, _, _ => rfl
  | c + 1, [], p, _, h => absurd h (Nat.not_succ_le_zero _)
  | c + 1, b :: r, p, g, h => by
    have g0 : gd b := g b (by rw [List.take_succ_cons]; exact List.mem_cons_self)
    unfold gd at g0
    rw [rdS, if_pos g0, rdS_good c r (p + 1) (fun b hb => g b (by rw [List.take_succ_cons]; exact List.mem_cons_of_mem _ hb)) (Nat.le_of_succ_le_succ h), List.take_succ_cons, List.drop_succ_cons]
    show Rd1.ok _ _ (p + 1 + c) = _
    rw [show p + 1 + c = p + (c + 1) by omega]
    rfl
def SGN : Str := Str.ofString " !\"#$ &'()*+,-./0123456789:;<=>?@ABCDEFGHIJKLMNOPQRSTUVWXYZ[\\]^_`abcdefghijklmnopqrstuvwxyz{|}~"
theorem sgn_k : (List.range 95).all (fun n => n == 5 || decide ((tl SGN)[n]? = some (n + 32))) = true := by decide +kernel
theorem sgn_at {b : Int} (h : gd b) : atI (tl SGN) (b - 32) = some b.toNat := by
  obtain ⟨h1, h2, h3⟩ := h
  have q := List.all_eq_true.mp sgn_k (b.toNat - 32) (List.mem_range.mpr (by omega))
  rw [show b - 32 = ((b.toNat - 32 : Nat) : Int) by omega]
  refine atI_nat ?_
  rw [Bool.or_eq_true] at q
  rcases q with q | q
  · have := eq_of_beq q
    omega
  · have := of_decide_eq_true q
    rw [this, show b.toNat - 32 + 32 = b.toNat by omega]
theorem rd_slLft {K : PySem.W.Frag} {H : Hp} {Q : VK} {l : Addr} {xs : List V} {p c : Nat} (q : SqL K H l xs) (hp : p ≤ xs.length) (h : ∀ r, H r = none → Q (.ref r) (upd H r (.lst ((xs.drop p).take c)))) : rSlL K (.ref l) (some (p : Int)) (some ((p : Int) + (c : Int))) H Q := by
  refine ⟨l, xs, rfl, q, fun r n => ?_⟩
  have e : cutV xs (some (p : Int)) (some ((p : Int) + (c : Int))) = (xs.drop p).take c := by
    unfold cutV
    rw [show (p : Int) + (c : Int) = ((p + c : Nat) : Int) by omega, HT.sIx_nat, HT.sIx_nat, Nat.min_eq_left hp]
    by_cases g : p + c ≤ xs.length
    · rw [Nat.min_eq_left g, Nat.add_sub_cancel_left]
    · rw [Nat.min_eq_right (by omega), List.take_of_length_le (by rw [List.length_drop]; exact Nat.le_refl _), List.take_of_length_le (by rw [List.length_drop]; omega)]
  rw [e]
  exact h r n
theorem ones_join (cs : List Int) : Txt.join (Str.ofString "") (cs.map fun b => (⟨#[b.toNat]⟩ : Str)) = ⟨(cs.map Int.toNat).toArray⟩ := by
  refine ext_tl ?_
  rw [tl_joined, tl_lit0, joinL_nil, List.map_map]
  show _ = cs.map Int.toNat
  induction cs with
  | nil => rfl
  | cons b r ih => rw [List.map_cons, List.flatten_cons, ih]; rfl
theorem unp1_ne {it : Option (List Int → Nat → Rd1 PyData)} : ∀ (l : List Int) (p : Nat) (d : PyData) (r : List Int) (e : Nat), unp1 it l p = .ok d r e → 1 ≤ (rcd d).length
  | [], p, d, r, e, h => by cases h
  | b :: l, p, d, r, e, h => by
    rw [unp1_cons] at h
    split at h
    · cases h
    split at h
    · cases h; simp [rcd]
    split at h
    · cases h; simp [rcd]
    split at h
    · unfold rdB at h
      split at h
      · cases h
        rw [rcd]
        split <;> rw [List.length_cons] <;> omega
      split at h
      · cases h
        rw [rcd]
        split <;> rw [List.length_cons] <;> omega
      split at h
      · split at h
        · cases h
          rw [rcd, List.length_cons]
          omega
        · cases h
        · cases h
      split at h
      · split at h
        · cases h
          rw [rcd, List.length_cons]
          omega
        · cases h
        · cases h
      · cases h
    · cases h
    · cases h
theorem unp_ne (L : Nat) (l : List Int) (p : Nat) (d : PyData) (r : List Int) (e : Nat) (h : unp L l p = .ok d r e) : 1 ≤ (rcd d).length := by
  cases L with
  | zero => exact unp1_ne _ _ _ _ _ h
  | succ L => exact unp1_ne _ _ _ _ _ h
theorem unp_rest {L : Nat} {l : List Int} {p : Nat} {d : PyData} {r : List Int} {e : Nat} (hb : By l) (h : unp L l p = .ok d r e) : p < e ∧ e - p ≤ l.length ∧ r = l.drop (e - p) := by
  obtain ⟨h1, h2⟩ := unp_ok L l p d r e hb h
  have h3 := unp_ne L l p d r e h
  refine ⟨by omega, ?_, ?_⟩
  · rw [h1, List.length_append]; omega
  · rw [show e - p = (rcd d).length by omega, h1, List.drop_left]
theorem rdC_rest {l : List Int} {p c e : Nat} {r : List Int} (hb : By l) (h : rdC l p true 0 1 = .ok c r e) : p < e ∧ e - p ≤ l.length ∧ r = l.drop (e - p) := by
  obtain ⟨n, h1, _, h3, _⟩ := rdC_ok l p true 0 1 c e r hb h
  have h4 := cnt_pos n
  refine ⟨by omega, ?_, ?_⟩
  · rw [h1, List.length_append]
    omega
  · rw [show e - p = (cnt n).length by omega, h1, List.drop_left]
theorem By.drop {L : List Int} (h : By L) (n : Nat) : By (L.drop n) := fun b hb => h b (List.mem_of_mem_drop hb)
theorem drop_rest {L : List Int} {p e : Nat} (h : p < e) : (L.drop p).drop (e - p) = L.drop e := by rw [List.drop_drop, show p + (e - p) = e by omega]
/-- what stands ahead of the items that are read -/
def preI (ds : List PyData) : Rd1 (List PyData) → Rd1 (List PyData)
  | .ok es r e => .ok (ds ++ es) r e
  | .inc k => .inc k
  | .inv k => .inv k
theorem preI_nil (r : Rd1 (List PyData)) : preI [] r = r := by
  cases r <;> rfl
theorem rdI_step {f : List Int → Nat → Rd1 PyData} {n : Nat} {l : List Int} {p : Nat} {ds : List PyData} : preI ds (rdI f (n + 1) l p) = match f l p with
    | .ok d r e => preI (ds ++ [d]) (rdI f n r e)
    | .inc k => .inc k
    | .inv k => .inv k := by
  rw [rdI]
  cases f l p with
  | ok d r e =>
    show preI ds (match rdI f n r e with
        | .ok ds r' e' => .ok (d :: ds) r' e'
        | .inc k => .inc k
        | .inv k => .inv k) = preI (ds ++ [d]) (rdI f n r e)
    cases rdI f n r e with
    | ok es r' e' =>
      show Rd1.ok (ds ++ d :: es) r' e' = Rd1.ok (ds ++ [d] ++ es) r' e'
      rw [List.append_assoc]
      rfl
    | inc k => rfl
    | inv k => rfl
  | inc k => rfl
  | inv k => rfl
/-! ### tuple(range(n)), its object without a dict -/
def zTupR (te : L2.St → Hp → (Int → Int → Hp → Prop) → Prop) : TE := fun σ H Q => te σ H fun a b H1 => RgOk a b ∧ ∀ (q : Addr) (o : Obj), H1 q = none → o.dict = Option.none → Q (.ref q) (upd H1 q (.frz o (.tup (rgV a b))))
theorem y_tupR {X : Cx} {e : Expr} {te : L2.St → Hp → (Int → Int → Hp → Prop) → Prop} {p pos : Pos} (calm : X.calm = true) (hg : Gl X "tuple") (hm : X.mg "tuple" = none) (he : PRg X e te) (one : starEach [e] X.env = (false, eval e X.env) :: starEach [] X.env := by rfl) :
    PE X (.Call (.Name "tuple" p) [e] [] pos) (zTupR te) := by
  constructor
  intro pins s σ H Q I h
  refine Call_ (ld_blt I hg hm boot_tuple (PyProof.Rows.callWith_type1 (args_cons (thn (he pins s σ H _ I h) ?_) one) one))
  rintro x s1 ⟨r, a, b, t, u, v, H1, rfl, hr, J, ⟨b1, b2, b3, b4, b5⟩, q⟩
  refine args_nil ?_
  refine call_tuple_range (n := (b - a).toNat) (J.ok.hd calm) hr (small_one b1 b2 b3 b4) (rangeSize_nat a b) b5 ?_
  intro h1 tk acc keeps items
  have J1 : Inv X pins σ H1 { s1 with heap := h1, toks := tk } := J.kept keeps
  have sz : (rgV a b).length ≤ sizeLine := by
    rw [rgV_length, sizeLine_eq]
    omega
  refine ⟨.ref h1.objs.size, _, J1.laid (t' := tk) (o := .frz { cls := .type "tuple", data := .seq acc } (.tup (rgV a b))) (fun c o k => Heap.get?_push_of_some _ k) (Nat.le_refl _) ?_, rfl, q _ _ (J1.hok.fresh (Nat.le_refl _)) rfl⟩
  refine ⟨Heap.get?_push_size _ rfl, sz, acc.toList, vals_rg items, ?_⟩
  rw [Array.toArray_toList]
  exact IsTup.new _ _
section
variable {σ : L2.St} {H : Hp} {Q : VK} {te : L2.St → Hp → (Int → Int → Hp → Prop) → Prop} {ta : TE} {R : Int → Int → Hp → Prop}
def wRg1 (x : V) (H : Hp) (R : Int → Int → Hp → Prop) : Prop := ∃ n, x = V.int n ∧ R 0 n H
def wTupR (a b : Int) (H1 : Hp) (Q : VK) : Prop := RgOk a b ∧ ∀ (q : Addr) (o : Obj), H1 q = none → o.dict = Option.none → Q (.ref q) (upd H1 q (.frz o (.tup (rgV a b))))
theorem rd_tupR (h : te σ H fun a b H1 => wTupR a b H1 Q) : zTupR te σ H Q := h
theorem rd_rg1 (h : ta σ H fun x H1 => wRg1 x H1 R) : tRg1 ta σ H R := h
theorem rd_wRg1 {n : Int} (h : R 0 n H) : wRg1 (.int n) H R := ⟨n, rfl, h⟩
theorem rd_wTupR {n : Int} (h0 : 0 ≤ n) (h1 : n ≤ 1000) (h : ∀ (q : Addr) (H' : Hp), H q = none → Same H H' → Tk H' q (rgV 0 n) → Q (.ref q) H') : wTupR 0 n H Q :=
  ⟨RgOk.of_le (by omega) (by omega) (by omega) (by omega), fun q o n d => h q _ n (same_new n) (Tk.mk d)⟩
end
local macro_rules | `(tactic| walk_at "rd") => `(tactic| repeat (with_reducible first
  | refine rd_seq ?_ | refine rd_asg ?_ | refine rd_cons ?_ | refine rd_nil ?_ | refine rd_c ?_ | refine rd_op ?_
  | refine rd_v0 ?_ | refine rd_v1 ?_ | refine rd_v2 ?_ | refine rd_v3 ?_ | refine rd_v4 ?_ | refine rd_v5 ?_ | refine rd_v6 ?_ | refine rd_v7 ?_ | refine rd_v8 ?_ | refine rd_v9 ?_ | refine rd_v10 ?_ | refine rd_v11 ?_
  | refine rd_n0 ?_ | refine rd_n1 ?_ | refine rd_n2 ?_ | refine rd_n3 ?_ | refine rd_n4 ?_ | refine rd_n5 ?_ | refine rd_n6 ?_ | refine rd_n7 ?_ | refine rd_n8 ?_ | refine rd_n9 ?_ | refine rd_n10 ?_ | refine rd_n11 ?_
  | refine rd_i0 ?_ | refine rd_iC ?_ ?_ | refine rd_cb ?_ | refine rd_call ?_ | refine rd_test ?_ | refine rd_tB ?_ | refine rd_wBl ?_
  | refine rd_ifS ?_ | refine rd_ret ?_ | refine rd_next ?_ | refine rd_retN ?_ | refine rd_drop ?_
  | refine rd_eqI ?_ | refine rd_neI ?_ | refine rd_eqS ?_ | refine rd_neS ?_ | refine rd_un ?_ | refine rd_u ?_
  | refine rd_and ?_ | refine rd_or ?_ | refine rd_not ?_ | refine rd_notV ?_ | refine rd_andV ?_ | refine rd_orV ?_ | refine rd_ifE ?_ | refine rd_ch ?_ | refine rd_wCh ?_
  | refine rd_tt ?_ | refine rd_ls ?_ | refine rd_sl ?_ | refine rd_noP ?_ | refine rd_part ?_ | refine rd_wPart ?_ | refine rd_m1 ?_ | refine rd_wM ?_
  | refine rd_js ?_ | refine rd_jc ?_ | refine rd_jn ?_ | refine rd_wJs ?_ ?_ | refine rd_fmt ?_ | refine rd_fmtR ?_ | refine rd_wFmt ?_ ?_ | refine rd_wFmtR ?_ ?_
  | refine rd_lenS ?_ ?_ | refine rd_int ?_ | refine rd_intB ?_ | refine rd_starts ?_ | refine rd_ends ?_ | refine rd_rstrip ?_ ?_ | refine rd_adS ?_ ?_ | refine rd_slS ?_ ?_
  | refine rd_in1 ?_ | refine rd_isB ?_ | refine rd_isN ?_ | refine rd_notN ?_ | refine rd_iT ?_ | refine rd_iF ?_ | refine rd_yes ?_ | refine rd_truth ?_ | refine rd_lcR ?_ | refine rd_gSub ?_ | refine rd_forR ?_ | refine rd_bm ?_ | refine rd_lcT ?_ | refine rd_lcL ?_ | refine rd_lcS ?_ | refine rd_frT ?_ | refine rd_frL ?_ | refine rd_wStr ?_ | refine rd_gCons ?_ | refine rd_gNil ?_ | refine rd_tix ?_ | refine rd_iNT ?_ | refine rd_iNF ?_ | refine rd_m0 ?_ | refine rd_upper ?_ ?_ | refine rd_ninS ?_ | refine rd_inS ?_ | refine rd_callS ?_ | refine rd_raise ?_ | refine rd_tryO ?_ | refine rd_tryA ?_ | refine rd_eqB ?_ | refine rd_fld ?_ | refine rd_sfld ?_ | refine rd_meth ?_ | refine rd_methS ?_ | refine rd_make ?_ | refine rd_nil0 ?_ | refine rd_find ?_ | refine rd_bm0 ?_ | refine rd_min2 ?_
  | refine rd_v12 ?_ | refine rd_v13 ?_ | refine rd_v14 ?_ | refine rd_v15 ?_ | refine rd_v16 ?_ | refine rd_v17 ?_ | refine rd_v18 ?_ | refine rd_v19 ?_ | refine rd_v20 ?_ | refine rd_v21 ?_ | refine rd_v22 ?_ | refine rd_v23 ?_ | refine rd_v24 ?_ | refine rd_v25 ?_
  | refine rd_n12 ?_ | refine rd_n13 ?_ | refine rd_n14 ?_ | refine rd_n15 ?_ | refine rd_n16 ?_ | refine rd_n17 ?_ | refine rd_n18 ?_ | refine rd_n19 ?_ | refine rd_n20 ?_ | refine rd_n21 ?_ | refine rd_n22 ?_ | refine rd_n23 ?_ | refine rd_n24 ?_ | refine rd_n25 ?_ ))
local macro_rules | `(tactic| walk_at "sd") => `(tactic| (refine line_of ?_; simp only [len_app, len_empty, len_lit0, len_dot, len_at, len_tr, len_rec, len_rea, len_lt, len_gt, len_mk, len_1]; decide))
local macro_rules | `(tactic| walk_at "sd") => `(tactic| (refine line_of ?_; simp only [len_app, len_empty, len_lit0, len_dot, len_at, len_tr, len_rec, len_rea, len_lt, len_gt, len_mk, len_1]; omega))
local macro_rules | `(tactic| walk_at "sd") => `(tactic| (refine line_of ?_; omega))
local macro_rules | `(tactic| walk_at "sd") => `(tactic| ((show (0 : Int) < _); omega))
local macro_rules | `(tactic| walk_at "sd") => `(tactic| ((show CPow _ _); exact ⟨by decide, by decide, by decide⟩))
local macro_rules | `(tactic| walk_at "sd") => `(tactic| ((show CMul _ _); first | exact .inl ⟨by decide, by decide⟩ | exact .inr ⟨by decide, by decide⟩))
local macro_rules | `(tactic| walk_at "sd") => `(tactic| with_reducible assumption)
local macro_rules | `(tactic| walk_at "rs") => `(tactic| (walk_at "rd"; all_goals try walk_at "sd"))
local macro_rules | `(tactic| walk_at "wp") => `(tactic| (simp only [List.map, wipe, List.set]; walk_at "rd"; all_goals try walk_at "sd"))
/-- a def with defaults -/
def DnD (K : PySem.W.Frag) (mg : Str → Option Value) (x : Str) (st : Stmt) (ps : List Str) (dvs : List V) : Prop := ∃ f fd, mg x = some (.ref f) ∧ FunD K x x (defArgs st) (defBody st) (defScope st) dvs [] f fd
def OkDD (P : Program) (w : World) (K : PySem.W.Frag) (mg : Str → Option Value) (base : Heap) (CX : CXT) (k : Nat) (x : Str) (ps : List Str) (dvs : List V) (sp : Sp) : Prop :=
  ∃ f fd ds, mg x = some (.ref f) ∧ PySem.W.keepIn K (.ref f) = true ∧ Binds K fd ps [] ∧ Vals dvs ds ∧ Binds K fd ps ds ∧ FnOk P w K mg base CX k f fd ps sp
section
variable {X : Cx} {k : Nat} {x : Str} {ps : List Str} {dvs : List V} {sp : Sp} {t : TA} {e : Expr} {es : List Expr} {p pos : Pos} {E : L2.St → XK}
theorem pe_callU (O : OkDD X.prog X.w X.K X.mg X.base (L2.CX X.prog X.w) k x ps dvs sp) (hr : Room k X.A) (hg : Gl X x) (ha : PA X (e :: es) t)
    (hdb : (x == ("__debug__" : Str)) = false := by decide) (he : starEach (e :: es) X.env = (false, eval e X.env) :: starEach es X.env := by rfl) (hpl : (backTo pos (starEach es X.env)).any (·.1) = false := by rfl) :
    PE X (.Call (.Name x p) (e :: es) [] pos) (tCall sp [] L2.E0 t) := by
  obtain ⟨f, fd, ds, m, kp, b, vd, bd, F⟩ := O
  exact pe_call F hr hg m kp b .nil passL ha hdb he hpl
theorem pe_callU1 (O : OkDD X.prog X.w X.K X.mg X.base (L2.CX X.prog X.w) k x ps dvs sp) (hr : Room k X.A) (hg : Gl X x) (ha : PA X (e :: es) t)
    (hdb : (x == ("__debug__" : Str)) = false := by decide) (he : starEach (e :: es) X.env = (false, eval e X.env) :: starEach es X.env := by rfl) (hpl : (backTo pos (starEach es X.env)).any (·.1) = false := by rfl) :
    PE X (.Call (.Name x p) (e :: es) [] pos) (tCall sp dvs L2.E0 t) := by
  obtain ⟨f, fd, ds, m, kp, b, vd, bd, F⟩ := O
  exact pe_call F hr hg m kp bd vd passL ha hdb he hpl
theorem pe_callUS (O : OkDD X.prog X.w X.K X.mg X.base (L2.CX X.prog X.w) k x ps dvs sp) (hr : Room k X.A) (hg : Gl X x) (hx : ∀ σ, PassesAt (L2.CX X.prog X.w) X σ (E σ)) (ha : PA X (e :: es) t)
    (hdb : (x == ("__debug__" : Str)) = false := by decide) (he : starEach (e :: es) X.env = (false, eval e X.env) :: starEach es X.env := by rfl) (hpl : (backTo pos (starEach es X.env)).any (·.1) = false := by rfl) :
    PE X (.Call (.Name x p) (e :: es) [] pos) (tCallS sp E t) := by
  obtain ⟨f, fd, ds, m, kp, b, vd, bd, F⟩ := O
  exact pe_callS F hr hg m kp b hx ha hdb he hpl
end
def topS (i : Nat) : Stmt := PySem.Challenge.pw_dawkline_k05_any_bytes_as_a_record.main.body.getD i (.Pass ⟨0, 0, 0, 0⟩)
abbrev s_Lrefill : Stmt := topS 28
abbrev N_Lrefill : List Str := ["script", "k", "cell"]
theorem sc_Lrefill : FnScope N_Lrefill ["script", "k"] (defScope s_Lrefill) := ⟨rfl, rfl, rfl, by decide +kernel, rfl, by decide +kernel, by decide +kernel⟩
abbrev s_Ldraw : Stmt := topS 29
abbrev N_Ldraw : List Str := ["state", "script", "size", "digit"]
theorem sc_Ldraw : FnScope N_Ldraw ["state", "script", "size"] (defScope s_Ldraw) := ⟨rfl, rfl, rfl, by decide +kernel, rfl, by decide +kernel, by decide +kernel⟩
abbrev s_byte_at : Stmt := topS 25
abbrev N_byte_at : List Str := ["data", "at"]
theorem sc_byte_at : FnScope N_byte_at ["data", "at"] (defScope s_byte_at) := ⟨rfl, rfl, rfl, by decide +kernel, rfl, by decide +kernel, by decide +kernel⟩
abbrev s_unpack_count : Stmt := topS 21
abbrev N_unpack_count : List Str := ["data", "at", "count", "weight", "place"]
theorem sc_unpack_count : FnScope N_unpack_count ["data", "at"] (defScope s_unpack_count) := ⟨rfl, rfl, rfl, by decide +kernel, rfl, by decide +kernel, by decide +kernel⟩
abbrev s_is_code : Stmt := topS 24
abbrev N_is_code : List Str := ["byte"]
theorem sc_is_code : FnScope N_is_code ["byte"] (defScope s_is_code) := ⟨rfl, rfl, rfl, by decide +kernel, rfl, by decide +kernel, by decide +kernel⟩
abbrev s_unpack_string : Stmt := topS 22
abbrev N_unpack_string : List Str := ["data", "at", "count", "codes", "place", "code"]
theorem sc_unpack_string : FnScope N_unpack_string ["data", "at", "count"] (defScope s_unpack_string) := ⟨rfl, rfl, rfl, by decide +kernel, rfl, by decide +kernel, by decide +kernel⟩
abbrev s_unpack_tuple : Stmt := topS 23
abbrev N_unpack_tuple : List Str := ["data", "at", "count", "depth", "items", "place", "item"]
theorem sc_unpack_tuple : FnScope N_unpack_tuple ["data", "at", "count", "depth"] (defScope s_unpack_tuple) := ⟨rfl, rfl, rfl, by decide +kernel, rfl, by decide +kernel, by decide +kernel⟩
abbrev s_unpack_inside : Stmt := topS 20
abbrev N_unpack_inside : List Str := ["data", "at", "depth", "kind", "count", "place"]
theorem sc_unpack_inside : FnScope N_unpack_inside ["data", "at", "depth"] (defScope s_unpack_inside) := ⟨rfl, rfl, rfl, by decide +kernel, rfl, by decide +kernel, by decide +kernel⟩
abbrev s_unpack : Stmt := topS 19
abbrev N_unpack : List Str := ["data", "at"]
theorem sc_unpack : FnScope N_unpack ["data", "at"] (defScope s_unpack) := ⟨rfl, rfl, rfl, by decide +kernel, rfl, by decide +kernel, by decide +kernel⟩
abbrev s_Loutcome : Stmt := topS 43
abbrev N_Loutcome : List Str := ["data", "at", "e"]
theorem sc_Loutcome : FnScope N_Loutcome ["data", "at"] (defScope s_Loutcome) := ⟨rfl, rfl, rfl, by decide +kernel, rfl, by decide +kernel, by decide +kernel⟩
abbrev s_Lread_count : Stmt := topS 44
abbrev N_Lread_count : List Str := ["data", "at", "count", "weight", "k"]
theorem sc_Lread_count : FnScope N_Lread_count ["data", "at"] (defScope s_Lread_count) := ⟨rfl, rfl, rfl, by decide +kernel, rfl, by decide +kernel, by decide +kernel⟩
abbrev s_Lread_string : Stmt := topS 45
abbrev N_Lread_string : List Str := ["data", "at", "found", "k"]
theorem sc_Lread_string : FnScope N_Lread_string ["data", "at"] (defScope s_Lread_string) := ⟨rfl, rfl, rfl, by decide +kernel, rfl, by decide +kernel, by decide +kernel⟩
abbrev s_Lread : Stmt := topS 46
abbrev N_Lread : List Str := ["data", "at", "depth", "found", "end", "k", "one"]
theorem sc_Lread : FnScope N_Lread ["data", "at", "depth"] (defScope s_Lread) := ⟨rfl, rfl, rfl, by decide +kernel, rfl, by decide +kernel, by decide +kernel⟩
abbrev s_Lcount : Stmt := topS 40
abbrev N_Lcount : List Str := ["count", "data", "k"]
theorem sc_Lcount : FnScope N_Lcount ["count"] (defScope s_Lcount) := ⟨rfl, rfl, rfl, by decide +kernel, rfl, by decide +kernel, by decide +kernel⟩
abbrev s_Lrecord : Stmt := topS 41
abbrev N_Lrecord : List Str := ["value", "data", "one", "sign"]
theorem sc_Lrecord : FnScope N_Lrecord ["value"] (defScope s_Lrecord) := ⟨rfl, rfl, rfl, by decide +kernel, rfl, by decide +kernel, by decide +kernel⟩
abbrev s_Lpick : Stmt := topS 33
abbrev N_Lpick : List Str := ["state", "script", "signs", "k"]
theorem sc_Lpick : FnScope N_Lpick ["state", "script", "signs"] (defScope s_Lpick) := ⟨rfl, rfl, rfl, by decide +kernel, rfl, by decide +kernel, by decide +kernel⟩
abbrev s_Lline : Stmt := topS 37
abbrev N_Lline : List Str := ["state", "script", "pool", "kind", "signs", "k"]
theorem sc_Lline : FnScope N_Lline ["state", "script"] (defScope s_Lline) := ⟨rfl, rfl, rfl, by decide +kernel, rfl, by decide +kernel, by decide +kernel⟩
abbrev s_Lvalue : Stmt := topS 39
abbrev N_Lvalue : List Str := ["state", "script", "depth", "kind", "k"]
theorem sc_Lvalue : FnScope N_Lvalue ["state", "script", "depth"] (defScope s_Lvalue) := ⟨rfl, rfl, rfl, by decide +kernel, rfl, by decide +kernel, by decide +kernel⟩
abbrev s_pack_count : Stmt := topS 18
abbrev N_pack_count : List Str := ["count", "groups"]
theorem sc_pack_count : FnScope N_pack_count ["count"] (defScope s_pack_count) := ⟨rfl, rfl, rfl, by decide +kernel, rfl, by decide +kernel, by decide +kernel⟩
abbrev s_pack_integer : Stmt := topS 17
abbrev N_pack_integer : List Str := ["number"]
theorem sc_pack_integer : FnScope N_pack_integer ["number"] (defScope s_pack_integer) := ⟨rfl, rfl, rfl, by decide +kernel, rfl, by decide +kernel, by decide +kernel⟩
abbrev s_pack : Stmt := topS 16
abbrev N_pack : List Str := ["value", "data", "item", "sign"]
theorem sc_pack : FnScope N_pack ["value"] (defScope s_pack) := ⟨rfl, rfl, rfl, by decide +kernel, rfl, by decide +kernel, by decide +kernel⟩
abbrev s_law : Stmt := topS 47
abbrev N_law : List Str := ["script", "state", "data", "kind", "k", "at", "byte", "kept", "told", "expected"]
theorem sc_law : FnScope N_law ["script"] (defScope s_law) := ⟨rfl, rfl, rfl, by decide +kernel, rfl, by decide +kernel, by decide +kernel⟩
structure Tx (K : PySem.W.Frag) (mg : Str → Option Value) : Prop where
  d_Lrefill : Dn K mg "_law_refill" s_Lrefill ["script", "k"]
  d_Ldraw : Dn K mg "_law_draw" s_Ldraw ["state", "script", "size"]
  d_byte_at : Dn K mg "byte_at" s_byte_at ["data", "at"]
  d_unpack_count : Dn K mg "unpack_count" s_unpack_count ["data", "at"]
  d_is_code : Dn K mg "is_code" s_is_code ["byte"]
  d_unpack_string : Dn K mg "unpack_string" s_unpack_string ["data", "at", "count"]
  d_unpack_tuple : Dn K mg "unpack_tuple" s_unpack_tuple ["data", "at", "count", "depth"]
  d_unpack_inside : Dn K mg "unpack_inside" s_unpack_inside ["data", "at", "depth"]
  d_unpack : DnD K mg "unpack" s_unpack ["data", "at"] [.int 0]
  d_Loutcome : Dn K mg "_law_outcome" s_Loutcome ["data", "at"]
  d_Lread_count : Dn K mg "_law_read_count" s_Lread_count ["data", "at"]
  d_Lread_string : Dn K mg "_law_read_string" s_Lread_string ["data", "at"]
  d_Lread : Dn K mg "_law_read" s_Lread ["data", "at", "depth"]
  d_Lcount : Dn K mg "_law_count" s_Lcount ["count"]
  d_Lrecord : Dn K mg "_law_record" s_Lrecord ["value"]
  d_Lpick : Dn K mg "_law_pick" s_Lpick ["state", "script", "signs"]
  d_Lline : Dn K mg "_law_line" s_Lline ["state", "script"]
  d_Lvalue : Dn K mg "_law_value" s_Lvalue ["state", "script", "depth"]
  d_pack_count : Dn K mg "pack_count" s_pack_count ["count"]
  d_pack_integer : Dn K mg "pack_integer" s_pack_integer ["number"]
  d_pack : Dn K mg "pack" s_pack ["value"]
  d_law : Dn K mg "law" s_law ["script"]
  c_BARRED_CODE : ∃ t, mg "BARRED_CODE" = some (.int (37) t)
  c_FIRST_CODE : ∃ t, mg "FIRST_CODE" = some (.int (32) t)
  c_SIGNS : ∃ t, mg "SIGNS" = some (.str (Str.ofString " !\"#$ &'()*+,-./0123456789:;<=>?@ABCDEFGHIJKLMNOPQRSTUVWXYZ[\\]^_`abcdefghijklmnopqrstuvwxyz{|}~") t)
  c_NONE : ∃ t, mg "NONE" = some (.int (0) t)
  c_NATURAL : ∃ t, mg "NATURAL" = some (.int (3) t)
  c_NEGATIVE : ∃ t, mg "NEGATIVE" = some (.int (4) t)
  c_STRING : ∃ t, mg "STRING" = some (.int (5) t)
  c_TUPLE : ∃ t, mg "TUPLE" = some (.int (6) t)
  c_FALSE : ∃ t, mg "FALSE" = some (.int (1) t)
  c_TRUE : ∃ t, mg "TRUE" = some (.int (2) t)
  c_DEEPEST : ∃ t, mg "DEEPEST" = some (.int (20) t)
  z_int : mg "int" = none
  z_len : mg "len" = none
  z_enumerate : mg "enumerate" = none
  z_tuple : mg "tuple" = none
  z_range : mg "range" = none
  z_min : mg "min" = none
  z_isinstance : mg "isinstance" = none
  z_bool : mg "bool" = none
  z_str : mg "str" = none
  z_ord : mg "ord" = none
  z_list : mg "list" = none

section
variable {P : Program} {w : World} {K : PySem.W.Frag} {mg : Str → Option Value} {base : Heap}
def spRefill (K : PySem.W.Frag) : Sp := fun vs H Q _ => ∃ (sc : Addr) (ns : List Int) (k : Int), vs = [.ref sc, .int k] ∧ SqL K H sc (ns.map V.int) ∧ ∀ j : Int, Q (.int j) H
theorem ok_Lrefill (T : Tx K mg) : OkD P w K mg base CX0 1 "_law_refill" ["script", "k"] (spRefill K) := by
  refine ok_mk T.d_Lrefill sc_Lrefill (fun vs H Q E h => ?_) (fun f cdv A outer s H vs Q E hr h => ?_)
  · obtain ⟨sc, ns, k, rfl, _⟩ := h
    rfl
  · obtain ⟨sc, ns, k, rfl, hS, q⟩ := h
    refine ⟨_, (pss_cons (ps_set (i := 2) sc_Lrefill.nd rfl (.inl rfl) pe_int)
      (pss_cons (ps_if (y_truth (pv 0) (by intro _; rfl)) (pss_one (ps_set (i := 2) sc_Lrefill.nd rfl (.inl rfl) (pe_ix ix_list (pv 0) (pe_op op_mod (pv 1) (pe_callB y_lenQ (by rfl) T.z_len (by decide +kernel) (pa_cons (pv 0) pa_nil))) (fun _ _ => rfl)))) pss_nil)
      (pss_cons (ps_if (pt_cmpR op_lt (pv 2) pe_int (nomark _)) (pss_one (ps_set (i := 2) sc_Lrefill.nd rfl (.inl rfl) (pe_op op_sub pe_int (pe_op op_mul pe_int (pv 2))))) pss_nil)
      (pss_cons (ps_if (PW.pt (pw_and (pt_cmpR op_ge (pv 2) (pe_op op_pow pe_int pe_int) (nomark _)) (pw_and1 (pt_cmpR op_lt (pv 1) (pe_callB y_lenQ (by rfl) T.z_len (by decide +kernel) (pa_cons (pv 0) pa_nil)) (nomark _))))) (pss_one (ps_ret (pv 2))) pss_nil)
      (pss_one (ps_ret (pe_op op_mod (pe_callTy y_int (by rfl) T.z_int (by decide +kernel) (pa_cons (pe_op op_add (pe_op op_mul (pe_callTy y_int (by rfl) T.z_int (by decide +kernel) (pa_cons (pe_op op_add (pe_op op_add (pe_op op_mul (pv 2) pe_int) (pe_op op_mul (pv 1) pe_int)) pe_int) pa_nil)) pe_int) pe_int) pa_nil)) pe_int))))))), ?_⟩
    rw [show start N_Lrefill [.ref sc, .int k] = [some (.ref sc), some (.int k), none] from rfl]
    walk_at "rs"
    refine rd_truL hS (if_b (fun e => ?_) (fun e => ?_))
    · walk_at "rs"
      have hl : 0 < ns.length := by
        cases ns with
        | nil => cases e
        | cons _ _ => exact Nat.succ_pos _
      refine rd_lenL hS ?_
      walk_at "rs"
      · obtain ⟨v, hv, ev⟩ := atI_in (xs := ns.map V.int) (i := k % ((ns.map V.int).length : Int)) (Int.emod_nonneg _ (by rw [List.length_map]; omega)) (Int.emod_lt_of_pos _ (by rw [List.length_map]; omega))
        obtain ⟨c, _, rfl⟩ := List.mem_map.mp hv
        refine rd_ixL hS ev ?_
        walk_at "rs"
        refine if_dec (fun _ => ?_) (fun _ => ?_) <;> walk_at "rs" <;> refine if_dec (fun _ => ?_) (fun _ => ?_) <;> walk_at "rs" <;> (try refine rd_lenL hS ?_) <;> walk_at "rs" <;> (try refine if_dec (fun _ => ?_) (fun _ => ?_)) <;> walk_at "rs" <;> exact q _
      · rw [List.length_map]
        omega
    · walk_at "rs"
      refine if_dec (fun _ => ?_) (fun _ => ?_) <;> walk_at "rs" <;> refine if_dec (fun _ => ?_) (fun _ => ?_) <;> walk_at "rs" <;> (try refine rd_lenL hS ?_) <;> walk_at "rs" <;> (try refine if_dec (fun _ => ?_) (fun _ => ?_)) <;> walk_at "rs" <;> exact q _
def spDraw (K : PySem.W.Frag) : Sp := fun vs H Q _ => ∃ (st sc : Addr) (ns : List Int) (z : Int), vs = [.ref st, .ref sc, .int z] ∧ Wd K st sc ns H ∧ 0 < z ∧ z < 2 ^ 71 ∧
  ∀ d H', 0 ≤ d → d < z → Dr st H H' → Wd K st sc ns H' → Q (.int d) H'
theorem draw_i {st sc : Addr} {ns : List Int} {z : Int} {H : Hp} {Q : VK} {E : XK} (W : Wd K st sc ns H) (h0 : 0 < z) (h1 : z < 2 ^ 71)
    (q : ∀ d H', 0 ≤ d → d < z → Dr st H H' → Wd K st sc ns H' → Q (.int d) H') : spDraw K [.ref st, .ref sc, .int z] H Q E := ⟨st, sc, ns, z, rfl, W, h0, h1, q⟩
theorem ok_Ldraw (T : Tx K mg) : OkD P w K mg base CX0 2 "_law_draw" ["state", "script", "size"] (spDraw K) := by
  refine ok_mk T.d_Ldraw sc_Ldraw (fun vs H Q E h => ?_) (fun f cdv A outer s H vs Q E hr h => ?_)
  · obtain ⟨st, sc, ns, z, rfl, _⟩ := h
    rfl
  · obtain ⟨st, sc, ns, z, rfl, W, h0, h1, q⟩ := h
    refine ⟨_, (pss_cons (ps_if (pt_cmpR op_eq (pe_ix ix_list (pv 0) pe_int (fun _ _ => rfl)) pe_int (nomark _)) (pss_cons (ps_asg (pe_callD (ok_Lrefill T) hr (by rfl) pass0 (pa_cons (pv 1) (pa_cons (pe_ix ix_list (pv 0) pe_int (fun _ _ => rfl)) pa_nil))) (pg_sub (pv 0) pe_int set_list))
      (pss_one (ps_asg (pe_op op_add (pe_ix ix_list (pv 0) pe_int (fun _ _ => rfl)) pe_int) (pg_sub (pv 0) pe_int set_list)))) pss_nil)
      (pss_cons (ps_set (i := 3) sc_Ldraw.nd rfl (.inl rfl) (pe_op op_mod (pe_callTy y_int (by rfl) T.z_int (by decide +kernel) (pa_cons (pe_ix ix_list (pv 0) pe_int (fun _ _ => rfl)) pa_nil)) (pv 2)))
      (pss_cons (ps_asg (pe_op op_fdivW (pe_ix ix_list (pv 0) pe_int (fun _ _ => rfl)) (pv 2)) (pg_sub (pv 0) pe_int set_list))
      (pss_one (ps_ret (pv 3)))))), ?_⟩
    rw [show start N_Ldraw [.ref st, .ref sc, .int z] = [some (.ref st), some (.ref sc), some (.int z), none] from rfl]
    have fin : ∀ (H1 : Hp) (k v : Int) (_ : Dr st H H1) (e : H1 st = some (.lst [.int k, .int v])), Q (.int (v % z)) (upd H1 st (.lst [.int k, .int (v / z)])) := fun H1 k v d e =>
      q _ _ (Int.emod_nonneg _ (by omega)) (Int.emod_lt_of_pos _ h0) d.upds (W.next d.upds)
    have hz71 : z.natAbs < 2 ^ 71 := by omega
    obtain ⟨k, v, e⟩ := W.1
    walk_at "rd"
    refine rd_ixL (SqL.of e) (i := 1) rfl ?_
    walk_at "rd"
    refine if_dec (fun _ => ?_) (fun _ => ?_)
    · walk_at "rd"
      refine rd_ixL (SqL.of e) (i := 0) rfl ?_
      walk_at "rd"
      refine ⟨sc, ns, k, rfl, W.list, fun j => ?_⟩
      walk_at "rd"
      refine rd_setL e (j := 1) rfl ?_
      walk_at "rd"
      refine rd_ixL (SqL.of upd_same) (i := 0) rfl ?_
      walk_at "rd"
      refine rd_setL upd_same (j := 0) rfl ?_
      walk_at "rd"
      refine rd_ixL (SqL.of upd_same) (i := 1) rfl ?_
      walk_at "rd"
      · refine rd_ixL (SqL.of upd_same) (i := 1) rfl ?_
        walk_at "rd"
        · refine rd_setL upd_same (j := 1) rfl ?_
          walk_at "rd"
          exact fin _ _ _ (Dr.upds (Dr.upds W.dr)) upd_same
        · exact wide_div (b := 71) h0 hz71 (by decide) (by decide)
      · exact h0
    · walk_at "rd"
      refine rd_ixL (SqL.of e) (i := 1) rfl ?_
      walk_at "rd"
      · refine rd_ixL (SqL.of e) (i := 1) rfl ?_
        walk_at "rd"
        · refine rd_setL e (j := 1) rfl ?_
          walk_at "rd"
          exact fin _ _ _ W.dr e
        · exact wide_div (b := 71) h0 hz71 (by decide) (by decide)
      · exact h0
def spPick (K : PySem.W.Frag) : Sp := fun vs H Q _ => ∃ (st sc : Addr) (ns : List Int) (z : Str), vs = [.ref st, .ref sc, .str z] ∧ Wd K st sc ns H ∧ 0 < z.length ∧ z.length < 1000 ∧
  ∀ c H', c ∈ tl z → Dr st H H' → Wd K st sc ns H' → Q (.str ⟨#[c]⟩) H'
theorem ok_Lpick (T : Tx K mg) : OkD P w K mg base CX0 3 "_law_pick" ["state", "script", "signs"] (spPick K) := by
  refine ok_mk T.d_Lpick sc_Lpick (fun vs H Q E h => ?_) (fun f cdv A outer s H vs Q E hr h => ?_)
  · obtain ⟨st, sc, ns, z, rfl, _⟩ := h
    rfl
  · obtain ⟨st, sc, ns, z, rfl, W, h0, h1, q⟩ := h
    refine ⟨_, (pss_cons (ps_set (i := 3) sc_Lpick.nd rfl (.inl rfl) (pe_callD (ok_Ldraw T) hr (by rfl) pass0 (pa_cons (pv 0) (pa_cons (pv 1) (pa_cons (pe_callB y_lenS (by rfl) T.z_len (by decide +kernel) (pa_cons (pv 2) pa_nil)) pa_nil)))))
      (pss_one (ps_ret (pe_slice sl_str (pv 2) (po_some (pv 3)) (po_some (pe_op op_add (pv 3) pe_int)))))), ?_⟩
    rw [show start N_Lpick [.ref st, .ref sc, .str z] = [some (.ref st), some (.ref sc), some (.str z), none] from rfl]
    have hz : z.length ≤ sizeLine := line_of (by omega)
    walk_at "rd"
    · refine draw_i W (by omega) (by omega) fun d H' d0 d1 D W' => ?_
      walk_at "rd"
      · obtain ⟨c, hc, ec⟩ := cut_one d0 d1
        rw [ec]
        exact q c H' hc D W'
      · exact hz
    · exact hz
end


section
variable {P : Program} {w : World} {K : PySem.W.Frag} {mg : Str → Option Value} {base : Heap}
def Sg (x : Str) : Prop := ∀ c ∈ tl x, okSign c
theorem sg_of {x : Str} (h : x.cps.all (fun c => decide (32 ≤ c) && (decide (c ≤ 126) && decide (c ≠ 37))) = true) : Sg x := fun c hc => by
  rw [Array.all_eq_true'] at h
  have q := h c (Array.mem_def.mpr hc)
  obtain ⟨a, b⟩ := Bool.and_eq_true_iff.mp q
  obtain ⟨b, d⟩ := Bool.and_eq_true_iff.mp b
  exact ⟨of_decide_eq_true a, of_decide_eq_true b, of_decide_eq_true d⟩
theorem sg_one {c : Nat} (h : okSign c) : Sg ⟨#[c]⟩ := fun d hd => by
  rw [List.mem_singleton.mp hd]
  exact h
theorem sg_join {a : Str} {xs : List Str} (h : Sg a) (g : ∀ x ∈ xs, Sg x) : Sg (Txt.join a xs) := fun c hc => by
  rcases mem_joined hc with hc | ⟨x, hx, hc⟩
  · exact h c hc
  · exact g x hx c hc
theorem sg_lit0 : Sg (Str.ofString "") := sg_of (by decide +kernel)
theorem sg_asc {x : Str} (h : Sg x) : Asc x := fun c hc => by
  have := (h c hc).2.1
  omega
def spLine (K : PySem.W.Frag) : Sp := fun vs H Q _ => ∃ (st sc : Addr) (ns : List Int), vs = [.ref st, .ref sc] ∧ Wd K st sc ns H ∧
  ∀ (x : Str) H', x.length ≤ 16 → Sg x → Dr st H H' → Wd K st sc ns H' → Q (.str x) H'
theorem len_signs : (Str.ofString " !\"#$&'()*+,-./0123456789:;<=>?@ABCDEFGHIJKLMNOPQRSTUVWXYZ[\\]^_`abcdefghijklmnopqrstuvwxyz{|}~").length = 94 := by rw [len_of]; rfl
theorem sg_signs : Sg (Str.ofString " !\"#$&'()*+,-./0123456789:;<=>?@ABCDEFGHIJKLMNOPQRSTUVWXYZ[\\]^_`abcdefghijklmnopqrstuvwxyz{|}~") := sg_of (by decide +kernel)
def poolL : List Str := [Str.ofString "", Str.ofString ".", Str.ofString "..", Str.ofString ". x", Str.ofString "Received: by ", Str.ofString "Received: by q.r", Str.ofString "received: by x", Str.ofString " Received: by y", Str.ofString "To: a", Str.ofString "~"]
theorem pool_ok : poolL.all (fun x => decide (x.length ≤ 16) && x.cps.all (fun c => decide (32 ≤ c) && (decide (c ≤ 126) && decide (c ≠ 37)))) = true := by decide +kernel
theorem ok_Lline (T : Tx K mg) : OkD P w K mg base CX0 4 "_law_line" ["state", "script"] (spLine K) := by
  refine ok_mk T.d_Lline sc_Lline (fun vs H Q E h => ?_) (fun f cdv A outer s H vs Q E hr h => ?_)
  · obtain ⟨st, sc, ns, rfl, _⟩ := h
    rfl
  · obtain ⟨st, sc, ns, rfl, W, q⟩ := h
    refine ⟨_, (pss_cons (ps_set (i := 2) sc_Lline.nd rfl (.inl rfl) (pe_lst (pa_cons pe_str (pa_cons pe_str (pa_cons pe_str (pa_cons pe_str (pa_cons pe_str (pa_cons pe_str (pa_cons pe_str (pa_cons pe_str (pa_cons pe_str (pa_cons pe_str pa_nil))))))))))))
      (pss_cons (ps_set (i := 3) sc_Lline.nd rfl (.inl rfl) (pe_callD (ok_Ldraw T) (hr.mono (by decide)) (by rfl) pass0 (pa_cons (pv 0) (pa_cons (pv 1) (pa_cons pe_int pa_nil)))))
      (pss_cons (ps_if (pt_cmpR op_eq (pv 3) pe_int (nomark _)) (pss_one (ps_ret (pe_ix ix_list (pv 2) (pe_callD (ok_Ldraw T) (hr.mono (by decide)) (by rfl) pass0 (pa_cons (pv 0) (pa_cons (pv 1) (pa_cons pe_int pa_nil)))) (fun _ _ => rfl)))) pss_nil)
      (pss_cons (ps_set (i := 4) sc_Lline.nd rfl (.inr rfl) pe_str)
      (pss_one (ps_ret (pe_m1 PySem.F.slot_str_join PySem.F.type_str_join y_join pe_str (pe_lc (own := [("k", 5)]) (g := gName 5) rfl sc_Lline.nd (pi_range1 (by rfl) T.z_range (pa_cons (pe_callD (ok_Ldraw T) (hr.mono (by decide)) (by rfl) pass0 (pa_cons (pv 0) (pa_cons (pv 1) (pa_cons pe_int pa_nil)))) pa_nil)) (blkOk_by (N := N_Lline) (sc := defScope s_Lline) (by decide +kernel)) (fun _ _ _ _ _ => pg_name (i := 5) sc_Lline.nd rfl (Or.inl rfl)) (fun _ _ _ _ _ => pts_nil) (fun _ _ _ _ _ => (pe_callD (ok_Lpick T) hr (by rfl) pass0 (pa_cons (pv 0) (pa_cons (pv 1) (pa_cons (pv 4) pa_nil))))))))))))), ?_⟩
    rw [show start N_Lline [.ref st, .ref sc] = [some (.ref st), some (.ref sc), none, none, none, none] from rfl]
    walk_at "rs"
    refine rd_wLs (Nat.le_of_ble_eq_true rfl) fun p np => ?_
    walk_at "rs"
    refine draw_i (W.new np) (by decide) (by decide) fun d1 H1 a0 a1 D1 W1 => ?_
    have D1' := (Dr.same W.1 (same_new np)).trans D1
    have ep := D1.at (W.1.ne np) upd_same
    walk_at "rs"
    refine if_dec (fun _ => ?_) (fun _ => ?_)
    · walk_at "rs"
      refine draw_i W1 (by decide) (by decide) fun d2 H2 b0 b1 D2 W2 => ?_
      walk_at "rs"
      have ep2 : H2 p = some (.lst (poolL.map V.str)) := D2.at (W.1.ne np) ep
      obtain ⟨y, hy, ey⟩ := atI_in (xs := poolL.map V.str) (i := d2) b0 (by rw [List.length_map]; exact b1)
      obtain ⟨x, hx, rfl⟩ := List.mem_map.mp hy
      refine rd_ixL (SqL.of ep2) ey ?_
      walk_at "rs"
      have h := List.all_eq_true.mp pool_ok x hx
      rw [Bool.and_eq_true] at h
      exact q x H2 (of_decide_eq_true h.1) (sg_of h.2) (D1'.trans D2) W2
    · walk_at "rs"
      refine draw_i W1 (by decide) (by decide) fun d2 H2 b0 b1 D2 W2 => ?_
      walk_at "rs"
      refine rd_wRg (by omega) (by omega) fun D nD => ?_
      refine lcR (G := fun y => ∃ x : Str, y = .str x ∧ (x.length ≤ 1 ∧ Sg x)) W2 nD (by omega) (fun i H3 R hi W3 D3 r => ⟨rfl, ?_⟩) (fun H3 ys D3 W3 nS hD hl hg => ?_)
      · walk_at "wp"
        refine ⟨st, sc, ns, _, rfl, W3, by rw [len_signs]; decide, by rw [len_signs]; decide, fun c H' hc D' W' => r _ _ D' ⟨_, rfl, ?_, sg_one (sg_signs c hc)⟩⟩
        exact Nat.le_refl 1
      · obtain ⟨xs, rfl, hx⟩ := strs_of hg
        have hs := lens_le fun x h => (hx x h).1
        rw [List.length_map] at hl
        walk_at "rs"
        refine rd_joinL (SqL.of hD) (by rw [len_lit0]; omega) ?_
        have ek := len_joined (Str.ofString "") xs
        rw [len_lit0] at ek
        exact q _ H3 (by omega) (sg_join sg_lit0 fun x h => (hx x h).2) ((D1'.trans D2).trans D3) W3
theorem line_i {st sc : Addr} {ns : List Int} {H : Hp} {Q : VK} {E : XK} (W : Wd K st sc ns H) (q : ∀ (x : Str) H', x.length ≤ 16 → Sg x → Dr st H H' → Wd K st sc ns H' → Q (.str x) H') : spLine K [.ref st, .ref sc] H Q E := ⟨st, sc, ns, rfl, W, q⟩
end

section
variable {P : Program} {w : World} {K : PySem.W.Frag} {mg : Str → Option Value} {base : Heap}
/-- a promise that asks what cannot be: the bottom of a def that calls itself -/
theorem ok_no {k : Nat} {x : Str} {st : Stmt} {ps N : List Str} {sp : Sp} (d : Dn K mg x st ps) (S : FnScope N ps (defScope st)) (no : ∀ vs H Q E, ¬ sp vs H Q E) : OkD P w K mg base CX0 (k + 1) x ps sp :=
  ok_mk d S (fun vs H Q E h => (no vs H Q E h).elim) fun _ _ _ _ _ H vs Q E _ h => (no vs H Q E h).elim
/-- [e for i in range(n)], the items values -/
theorem lcV {st sc : Addr} {ns : List Int} {H1 : Hp} {D : Addr} {n : Nat} {g : V → L2.St → Hp → (L2.St → Hp → Prop) → Prop} {σ : L2.St} {vs : List Nat} {te : TE} {Qd : Hp → Prop} {G : PyData → Prop} (W : Wd K st sc ns H1) (nD : H1 D = none) (hn : n ≤ 1000)
    (hs : ∀ (i : Nat) H (R : VK), i < n → Wd K st sc ns H → Dr st H1 H → (∀ y d H', Dr st H H' → Va H' y d → G d → R y H') → g (.int (0 + (i : Nat))) (wipe σ vs) H fun σ2 H2 => wipe σ2 vs = wipe σ vs ∧ te σ2 H2 R)
    (hd : ∀ H' ys ds, Dr st H1 H' → Wd K st sc ns H' → D ≠ st → H' D = some (.lst ys) → ds.length = n → VaL H' ys ds → (∀ d ∈ ds, G d) → Qd H') : LcR n g te vs σ H1 D Qd := by
  have nS : D ≠ st := W.1.ne nD
  have tk : ∀ (H : Hp) (acc acc2 : List V), H D = some (.lst acc) → ∀ a xs, Tk H a xs → Tk (upd H D (.lst acc2)) a xs := fun H acc acc2 e a xs t => by
    obtain ⟨o, ho, q⟩ := t
    refine ⟨o, ho, ?_⟩
    rw [upd_ne (fun z => by rw [z, e] at q; cases q)]
    exact q
  refine lc_range (Pv := fun i H => Dr st H1 H ∧ ∃ ys ds, H D = some (.lst ys) ∧ ds.length = i ∧ VaL H ys ds ∧ ∀ d ∈ ds, G d) ?_ (fun i H hi hP => ?_) (fun H hP => ?_)
  · exact ⟨W.dr.new nD, [], [], upd_same, rfl, .nil, fun _ h => nomatch h⟩
  · obtain ⟨d, ys, ds, e, el, ev, eg⟩ := hP
    have wst := (W.next d).1
    have q := hs i H (fun y H4 => ∃ acc, H4 D = some (.lst acc) ∧ acc.length < sizeLine ∧ (Dr st H1 (upd H4 D (.lst (acc ++ [y]))) ∧ ∃ ys ds, (upd H4 D (.lst (acc ++ [y]))) D = some (.lst ys) ∧ ds.length = i + 1 ∧ VaL (upd H4 D (.lst (acc ++ [y]))) ys ds ∧ ∀ d ∈ ds, G d)) hi (W.next d) d (fun y dy H' d' va gy => by
      have e' : H' D = some (.lst ys) := d'.1 _ _ nS e
      have lv := ev.length
      refine ⟨ys, e', lt_line (by omega), Dr.put W.1 (d.trans d') nD, ys ++ [y], ds ++ [dy], upd_same, by rw [List.length_append, el]; rfl, ((ev.next wst d').mono (tk _ _ _ e')).snoc (va.mono (tk _ _ _ e')), fun z hz => ?_⟩
      rcases List.mem_append.mp hz with hz | hz
      · exact eg z hz
      · rw [List.mem_singleton.mp hz]
        exact gy)
    exact q
  · obtain ⟨d, ys, ds, e, el, ev, eg⟩ := hP
    exact hd H ys ds d (W.next d) nS e el ev eg
theorem okv_non : OkV .none := by unfold OkV; trivial
theorem okv_bl (b : Bool) : OkV (.bool b) := by unfold OkV; trivial
theorem okv_int {i : Int} (h : i.natAbs < 2 ^ 100) : OkV (.int i) := by unfold OkV; exact h
theorem okv_str {x : Str} (h : x.length ≤ 1000) (g : Sg x) : OkV (.str x) := by unfold OkV; exact ⟨h, g⟩
theorem okl_of : ∀ {ds : List PyData}, (∀ d ∈ ds, OkV d) → OkL ds
  | [], _ => by unfold OkL; trivial
  | d :: ds, h => by
    unfold OkL
    exact ⟨h d List.mem_cons_self, okl_of fun e he => h e (List.mem_cons_of_mem _ he)⟩
theorem okv_tup {ds : List PyData} (h : ds.length ≤ 1000) (g : ∀ d ∈ ds, OkV d) : OkV (.tuple ds) := by
  unfold OkV
  exact ⟨h, okl_of g⟩
theorem depthAll_le {n : Nat} : ∀ {ds : List PyData}, (∀ d ∈ ds, d.depth ≤ n) → PyData.depthAll ds ≤ n
  | [], _ => by simp [PyData.depthAll]
  | d :: ds, h => by
    have a := h d List.mem_cons_self
    have b := depthAll_le fun e he => h e (List.mem_cons_of_mem _ he)
    rw [PyData.depthAll]
    omega
theorem depth_tup {n : Nat} {ds : List PyData} (h : ∀ d ∈ ds, d.depth ≤ n) : (PyData.tuple ds).depth ≤ n + 1 := by
  rw [PyData.depth]
  have := depthAll_le h
  omega
theorem rcd_non : (rcd .none).length = 1 := by simp [rcd]
theorem rcd_bl (b : Bool) : (rcd (.bool b)).length = 1 := by simp [rcd]
theorem rcd_int {i : Int} (h : i.natAbs < 2 ^ 100) : (rcd (.int i)).length ≤ 16 := by
  rw [rcd]
  split
  · rw [List.length_cons]
    have := cnt_len 14 i.toNat (by omega)
    omega
  · rw [List.length_cons]
    have := cnt_len 14 (-i - 1).toNat (by omega)
    omega
theorem rcd_str {x : Str} (h : x.length ≤ 16) : (rcd (.str x)).length ≤ 18 := by
  rw [rcd, List.length_cons, List.length_append, cnt_lt (by omega)]
  have : (sgn x).length = x.length := by unfold sgn; rw [List.length_map]; rfl
  rw [this]
  simp only [List.length_cons, List.length_nil]
  omega
theorem rcdL_len {B : Nat} : ∀ {ds : List PyData}, (∀ d ∈ ds, (rcd d).length ≤ B) → (rcdL ds).length ≤ ds.length * B
  | [], _ => by simp [rcdL]
  | d :: ds, h => by
    have a := h d List.mem_cons_self
    have b := rcdL_len fun e he => h e (List.mem_cons_of_mem _ he)
    rw [rcdL, List.length_append, List.length_cons, Nat.succ_mul]
    omega
/-- what is drawn: a value, nested at most as deep as is said -/
def spValue (K : PySem.W.Frag) (n : Nat) : Sp := fun vs H Q _ => ∃ (st sc : Addr) (ns : List Int) (dp : Int), vs = [.ref st, .ref sc, .int dp] ∧ Wd K st sc ns H ∧ 0 ≤ dp ∧ dp < n ∧
  ∀ (v : V) (d : PyData) H', Va H' v d → OkV d → d.depth ≤ dp.toNat → (rcd d).length < 20 * 3 ^ dp.toNat → Dr st H H' → Wd K st sc ns H' → Q v H'
def litL : List Int := [127, 128, 16383, 16384, -1, -128, -129, 2097151]
theorem lit_ok : litL.all (fun i => decide (i.natAbs < 2 ^ 100)) = true := by decide +kernel
set_option maxHeartbeats 1000000 in
theorem ok_LvalueN (T : Tx K mg) : ∀ n, OkD P w K mg base CX0 (n + 5) "_law_value" ["state", "script", "depth"] (spValue K n)
  | 0 => (ok_no T.d_Lvalue sc_Lvalue fun vs H Q E h => by
      obtain ⟨_, _, _, dp, _, _, a, b, _⟩ := h
      have : (dp : Int) < 0 := b
      omega)
  | n + 1 => by
    have ih := ok_LvalueN T n
    rw [show n + 1 + 5 = (n + 5) + 1 by omega]
    refine ok_mk T.d_Lvalue sc_Lvalue (fun vs H Q E h => ?_) (fun f cdv A outer s H vs Q E hr h => ?_)
    · obtain ⟨st, sc, ns, dp, rfl, _⟩ := h
      rfl
    · obtain ⟨st, sc, ns, dp, rfl, W, hd0, hd1, q⟩ := h
      refine ⟨_, (pss_cons (ps_set (i := 3) sc_Lvalue.nd rfl (.inl rfl) (pe_callD (ok_Ldraw T) (hr.mono (by omega)) (by rfl) pass0 (pa_cons (pv 0) (pa_cons (pv 1) (pa_cons pe_int pa_nil)))))
      (pss_cons (ps_if (pt_cmpR op_eq (pv 3) pe_int (nomark _)) (pss_one (ps_ret (pe_ix ix_list (pe_lst (pa_cons pe_non (pa_cons pe_bl (pa_cons pe_bl pa_nil)))) (pe_callD (ok_Ldraw T) (hr.mono (by omega)) (by rfl) pass0 (pa_cons (pv 0) (pa_cons (pv 1) (pa_cons pe_int pa_nil)))) (fun _ _ => rfl)))) pss_nil)
      (pss_cons (ps_if (pt_cmpR op_eq (pv 3) pe_int (nomark _)) (pss_one (ps_ret (pe_callD (ok_Ldraw T) (hr.mono (by omega)) (by rfl) pass0 (pa_cons (pv 0) (pa_cons (pv 1) (pa_cons pe_int pa_nil)))))) pss_nil)
      (pss_cons (ps_if (pt_cmpR op_eq (pv 3) pe_int (nomark _)) (pss_one (ps_ret (pe_un un_neg (pe_callD (ok_Ldraw T) (hr.mono (by omega)) (by rfl) pass0 (pa_cons (pv 0) (pa_cons (pv 1) (pa_cons pe_int pa_nil))))))) pss_nil)
      (pss_cons (ps_if (pt_cmpR op_eq (pv 3) pe_int (nomark _)) (pss_one (ps_ret (pe_ix ix_list (pe_lst (pa_cons pe_int (pa_cons pe_int (pa_cons pe_int (pa_cons pe_int (pa_cons (pe_un un_neg pe_int) (pa_cons (pe_un un_neg pe_int) (pa_cons (pe_un un_neg pe_int) (pa_cons pe_int pa_nil))))))))) (pe_callD (ok_Ldraw T) (hr.mono (by omega)) (by rfl) pass0 (pa_cons (pv 0) (pa_cons (pv 1) (pa_cons pe_int pa_nil)))) (fun _ _ => rfl)))) pss_nil)
      (pss_cons (ps_if (pt_cmpR op_eq (pv 3) pe_int (nomark _)) (pss_one (ps_ret (pe_op op_sub (pe_callD (ok_Ldraw T) (hr.mono (by omega)) (by rfl) pass0 (pa_cons (pv 0) (pa_cons (pv 1) (pa_cons (pe_op op_shl pe_int pe_int) pa_nil)))) (pe_op op_shl pe_int pe_int)))) pss_nil)
      (pss_cons (ps_if (PW.pt (pw_or (pt_cmpR op_le (pv 3) pe_int (nomark _)) (pw_or1 (pt_cmpR op_eq (pv 2) pe_int (nomark _))))) (pss_one (ps_ret (pe_callD (ok_Lline T) (hr.mono (by omega)) (by rfl) pass0 (pa_cons (pv 0) (pa_cons (pv 1) pa_nil))))) pss_nil)
      (pss_one (ps_ret (pe_callTy y_tup (by rfl) T.z_tuple (by decide +kernel) (pa_cons (pe_lc (own := [("k", 4)]) (g := gName 4) rfl sc_Lvalue.nd (pi_range1 (by rfl) T.z_range (pa_cons (pe_callD (ok_Ldraw T) (hr.mono (by omega)) (by rfl) pass0 (pa_cons (pv 0) (pa_cons (pv 1) (pa_cons pe_int pa_nil)))) pa_nil)) (blkOk_by (N := N_Lvalue) (sc := defScope s_Lvalue) (by decide +kernel)) (fun _ _ _ _ _ => pg_name (i := 4) sc_Lvalue.nd rfl (Or.inl rfl)) (fun _ _ _ _ _ => pts_nil) (fun _ _ _ _ _ => (pe_callD ih (hr.mono (by omega)) (by rfl) pass0 (pa_cons (pv 0) (pa_cons (pv 1) (pa_cons (pe_op op_sub (pv 2) pe_int) pa_nil)))))) pa_nil))))))))))), ?_⟩
      rw [show start N_Lvalue [.ref st, .ref sc, .int dp] = [some (.ref st), some (.ref sc), some (.int dp), none, none] from rfl]
      have lf : ∀ (v : V) (d : PyData) H', Va H' v d → OkV d → d.depth = 0 → (rcd d).length < 20 → Dr st H H' → Wd K st sc ns H' → Q v H' := fun v d H' a b c e D W => by
        refine q v d H' a b (by omega) ?_ D W
        have : 1 ≤ 3 ^ dp.toNat := Nat.one_le_pow _ _ (by decide)
        omega
      have li : ∀ (i : Int) H', i.natAbs < 2 ^ 100 → Dr st H H' → Wd K st sc ns H' → Q (.int i) H' := fun i H' h D W =>
        lf _ _ _ (.int i) (okv_int h) (by rw [PyData.depth]) (by have := rcd_int h; omega) D W
      walk_at "rs"
      refine draw_i W (by decide) (by decide) fun d1 H1 a0 a1 D1 W1 => ?_
      walk_at "rs"
      refine if_dec (fun _ => ?_) (fun _ => ?_)
      · walk_at "rs"
        refine rd_wLs (Nat.le_of_ble_eq_true rfl) fun p np => ?_
        walk_at "rs"
        refine draw_i (W1.new np) (by decide) (by decide) fun d2 H2 b0 b1 D2 W2 => ?_
        have ep := D2.at (W1.1.ne np) upd_same
        have D2' := D1.trans ((Dr.same W1.1 (same_new np)).trans D2)
        walk_at "rs"
        obtain ⟨y, hy, ey⟩ := atI_in (xs := [V.non, V.bl false, V.bl true]) (i := d2) b0 b1
        refine rd_ixL (SqL.of ep) ey ?_
        walk_at "rs"
        rcases List.mem_cons.mp hy with rfl | hy
        · exact lf _ _ _ .non okv_non (by rw [PyData.depth]) (by rw [rcd_non]; decide) D2' W2
        · rcases List.mem_cons.mp hy with rfl | hy
          · exact lf _ _ _ (.bl _) (okv_bl _) (by rw [PyData.depth]) (by rw [rcd_bl]; decide) D2' W2
          · obtain rfl := List.mem_singleton.mp hy
            exact lf _ _ _ (.bl _) (okv_bl _) (by rw [PyData.depth]) (by rw [rcd_bl]; decide) D2' W2
      walk_at "rs"
      refine if_dec (fun _ => ?_) (fun _ => ?_)
      · walk_at "rs"
        refine draw_i W1 (by decide) (by decide) fun d2 H2 b0 b1 D2 W2 => ?_
        walk_at "rs"
        exact li _ _ (by omega) (D1.trans D2) W2
      walk_at "rs"
      refine if_dec (fun _ => ?_) (fun _ => ?_)
      · walk_at "rs"
        refine draw_i W1 (by decide) (by decide) fun d2 H2 b0 b1 D2 W2 => ?_
        walk_at "rs"
        exact li _ _ (by omega) (D1.trans D2) W2
      walk_at "rs"
      refine if_dec (fun _ => ?_) (fun _ => ?_)
      · walk_at "rs"
        refine rd_wLs (Nat.le_of_ble_eq_true rfl) fun p np => ?_
        walk_at "rs"
        refine draw_i (W1.new np) (by decide) (by decide) fun d2 H2 b0 b1 D2 W2 => ?_
        have ep : H2 p = some (.lst (litL.map V.int)) := D2.at (W1.1.ne np) upd_same
        have D2' := D1.trans ((Dr.same W1.1 (same_new np)).trans D2)
        walk_at "rs"
        obtain ⟨y, hy, ey⟩ := atI_in (xs := litL.map V.int) (i := d2) b0 (by rw [List.length_map]; exact b1)
        obtain ⟨x, hx, rfl⟩ := List.mem_map.mp hy
        refine rd_ixL (SqL.of ep) ey ?_
        walk_at "rs"
        exact li _ _ (of_decide_eq_true (List.all_eq_true.mp lit_ok x hx)) D2' W2
      walk_at "rs"
      refine if_dec (fun _ => ?_) (fun _ => ?_)
      · walk_at "rs"
        refine draw_i W1 (by decide) (by decide) fun d2 H2 b0 b1 D2 W2 => ?_
        walk_at "rs"
        have e1 : (1 : Int) * 2 ^ Int.toNat 70 = 2 ^ 70 := by decide
        have e2 : (1 : Int) * 2 ^ Int.toNat 69 = 2 ^ 69 := by decide
        rw [e1] at b1
        try rw [e2]
        exact li _ _ (by omega) (D1.trans D2) W2
      have ln : spLine K [.ref st, .ref sc] H1 Q E0 := line_i W1 fun x H2 hx gx D2 W2 =>
        lf _ _ _ (.str x) (okv_str (by omega) gx) (by rw [PyData.depth]) (by have := rcd_str hx; omega) (D1.trans D2) W2
      walk_at "rs"
      refine if_dec (fun _ => ?_) (fun c5 => ?_)
      · walk_at "rs"
        exact ln
      walk_at "rs"
      refine if_dec (fun _ => ?_) (fun c6 => ?_)
      · walk_at "rs"
        exact ln
      walk_at "rs"
      refine draw_i W1 (by decide) (by decide) fun d2 H2 b0 b1 D2 W2 => ?_
      walk_at "rs"
      refine rd_wRg (by omega) (by omega) fun D nD => ?_
      refine lcV (G := fun d => OkV d ∧ d.depth ≤ (dp - 1).toNat ∧ (rcd d).length < 20 * 3 ^ (dp - 1).toNat) W2 nD (by omega) (fun i H3 R hi W3 D3 r => ⟨rfl, ?_⟩) (fun H3 ys ds D3 W3 nS hD hl ev hg => ?_)
      · walk_at "wp"
        exact ⟨st, sc, ns, dp - 1, rfl, W3, by omega, by omega, fun v d H' va o dd l D' W' => r v d H' D' va ⟨o, dd, l⟩⟩
      · walk_at "rs"
        refine rd_tup (SqL.of hD) fun l H4 nl sm tk => ?_
        have hx : (dp - 1).toNat + 1 = dp.toNat := by omega
        have h3 : 3 ^ dp.toNat = 3 ^ (dp - 1).toNat * 3 := by rw [← hx, Nat.pow_succ]
        refine q _ (.tuple ds) H4 (.tup tk (ev.same sm)) (okv_tup (by omega) fun d hd => (hg d hd).1) ?_ ?_ (((D1.trans D2).trans D3).trans (Dr.same W3.1 sm)) (W3.same sm)
        · have := depth_tup (n := (dp - 1).toNat) fun d hd => (hg d hd).2.1
          omega
        · rw [rcd, List.length_cons, List.length_append, cnt_lt (by omega)]
          have lb := rcdL_len (B := 20 * 3 ^ (dp - 1).toNat - 1) (ds := ds) fun d hd => by have := (hg d hd).2.2; omega
          have hp : 1 ≤ 3 ^ (dp - 1).toNat := Nat.one_le_pow _ _ (by decide)
          have l3 : ds.length * (20 * 3 ^ (dp - 1).toNat - 1) ≤ 3 * (20 * 3 ^ (dp - 1).toNat - 1) := Nat.mul_le_mul_right _ (by omega)
          simp only [List.length_cons, List.length_nil]
          omega
end

section
variable {P : Program} {w : World} {K : PySem.W.Frag} {mg : Str → Option Value} {base : Heap}
theorem Same.put {H H1 : Hp} {p : Addr} {o : HO} (s : Same H H1) (n : H p = none) : Same H (upd H1 p o) := fun b x e => by
  rw [upd_ne (ne_of_none e n)]
  exact s b x e
def spCount (K : PySem.W.Frag) : Sp := fun vs H Q _ => ∃ n : Nat, vs = [.int n] ∧ n < 128 ^ 29 ∧ ∀ p H', Same H H' → H p = none → H' p = some (.lst ((cnt n).map V.int)) → Q (.ref p) H'
theorem ok_Lcount (T : Tx K mg) : OkD P w K mg base CX0 1 "_law_count" ["count"] (spCount K) := by
  refine ok_mk T.d_Lcount sc_Lcount (fun vs H Q E h => ?_) (fun f cdv A outer s H vs Q E hr h => ?_)
  · obtain ⟨n, rfl, _⟩ := h
    rfl
  · obtain ⟨n, rfl, hn, q⟩ := h
    refine ⟨_, (pss_cons (ps_set (i := 1) sc_Lcount.nd rfl (.inl rfl) (pe_lst pa_nil))
      (pss_cons (ps_for PassesOwn.never rfl (pi_range1 (by rfl) T.z_range (pa_cons pe_int pa_nil)) (pg_name (i := 2) sc_Lcount.nd rfl (Or.inl rfl)) (pss_one (ps_if (pt_cmpR op_ge (pv 0) pe_int (nomark _)) (pss_cons (ps_expr (pe_bm PySem.F.plainAttrs_list PySem.F.slot_list_append PySem.F.type_list_append mt_append (pv 1) (pa_cons (pe_op op_add pe_int (pe_op op_mod (pe_callTy y_int (by rfl) T.z_int (by decide +kernel) (pa_cons (pv 0) pa_nil)) pe_int)) pa_nil)))
      (pss_one (ps_set (i := 0) sc_Lcount.nd rfl (.inl rfl) (pe_op op_fdivN (pv 0) pe_int)))) pss_nil)))
      (pss_one (ps_ret (pe_op op_cat (pv 1) (pe_lst (pa_cons (pv 0) pa_nil))))))), ?_⟩
    rw [show start N_Lcount [.int n] = [some (.int n), none, none] from rfl]
    walk_at "rs"
    refine rd_wLs (Nat.le_of_ble_eq_true rfl) fun L nL => ?_
    walk_at "rs"
    refine rd_wRg (by omega) (by omega) ?_
    refine forR (fun i σ H' => Same H H' ∧ ∃ (c : Nat) (kk : Option V) (acc : List Int), σ = [some (.int c), some (.ref L), kk] ∧ H' L = some (.lst (acc.map V.int)) ∧ acc.length ≤ i ∧ acc ++ cnt c = cnt n ∧ (c < 128 ^ (30 - i) ∨ c < 128)) ?_ (fun i σ H2 hi hP => ?_) (fun σ H2 hP => ?_)
    · exact ⟨same_new nL, n, none, [], rfl, upd_same, Nat.le_refl 0, rfl, .inl (by omega)⟩
    · obtain ⟨S2, c, kk, acc, rfl, eL, al, ec, hc⟩ := hP
      walk_at "rs"
      refine if_dec (fun hg => ?_) (fun hg => ?_)
      · walk_at "rs"
        refine rd_wTyL (SqL.of eL) ?_
        walk_at "rs"
        refine rd_append eL (by rw [List.length_map]; omega) ?_
        walk_at "rs"
        · have ge : 128 ≤ c := by omega
          refine ⟨Same.put S2 nL, c / 128, some (.int (0 + (i : Nat))), acc ++ [((128 + (c % 128 : Nat) : Int))], ?_, ?_, by rw [List.length_append]; simp only [List.length_cons, List.length_nil]; omega, ?_, .inl ?_⟩
          · rw [Int.fdiv_eq_ediv_of_nonneg _ (by decide), show (c : Int) / 128 = ((c / 128 : Nat) : Int) by omega]
          · rw [upd_same, List.map_append, show (c : Int) % 128 = ((c % 128 : Nat) : Int) by omega]
            rfl
          · rw [List.append_assoc, List.singleton_append, ← cnt_ge ge]
            exact ec
          · rcases hc with hc | hc
            · rw [show 30 - i = (30 - (i + 1)) + 1 by omega, Nat.pow_succ] at hc
              rw [Nat.div_lt_iff_lt_mul (by decide)]
              exact hc
            · omega
        · exact ⟨by omega, by omega⟩
      · walk_at "rs"
        exact ⟨S2, c, some (.int (0 + (i : Nat))), acc, rfl, eL, by omega, ec, .inr (by omega)⟩
    · obtain ⟨S2, c, kk, acc, rfl, eL, al, ec, hc⟩ := hP
      walk_at "rs"
      refine rd_wLs (Nat.le_of_ble_eq_true rfl) fun p np => ?_
      walk_at "rs"
      have c1 : c < 128 := by
        rcases hc with hc | hc
        · have e0 : 128 ^ (30 - Int.toNat 30) = 1 := rfl
          omega
        · exact hc
      rw [cnt_lt c1] at ec
      have np' : p ≠ L := fun z => by rw [z, eL] at np; cases np
      refine rd_catL (xs := acc.map V.int) (zs := [V.int c]) (by rw [upd_ne (Ne.symm np')]; exact eL) upd_same (by simp only [List.length_map, List.length_cons, List.length_nil]; omega) fun r nr => ?_
      refine q r _ ((S2.trans (same_new np)).trans (same_new nr)) ((S2.trans (same_new np)).free nr) ?_
      rw [upd_same, ← ec, List.map_append]
      rfl
end

section
variable {P : Program} {w : World} {K : PySem.W.Frag} {mg : Str → Option Value} {base : Heap}
theorem okv_int' {i : Int} (h : OkV (.int i)) : i.natAbs < 2 ^ 100 := by unfold OkV at h; exact h
theorem okv_str' {x : Str} (h : OkV (.str x)) : x.length ≤ 1000 ∧ Sg x := by unfold OkV at h; exact h
theorem okv_tup' {ds : List PyData} (h : OkV (.tuple ds)) : ds.length ≤ 1000 ∧ OkL ds := by unfold OkV at h; exact h
theorem okl_mem : ∀ {ds : List PyData} {d : PyData}, OkL ds → d ∈ ds → OkV d
  | e :: ds, d, h, hm => by
    unfold OkL at h
    rcases List.mem_cons.mp hm with rfl | hm
    · exact h.1
    · exact okl_mem h.2 hm
theorem depth_mem : ∀ {ds : List PyData} {d : PyData}, d ∈ ds → d.depth ≤ PyData.depthAll ds
  | e :: ds, d, hm => by
    rw [PyData.depthAll]
    rcases List.mem_cons.mp hm with rfl | hm
    · omega
    · have := depth_mem hm
      omega
theorem rcdL_mem : ∀ {ds : List PyData} {d : PyData}, d ∈ ds → (rcd d).length ≤ (rcdL ds).length
  | e :: ds, d, hm => by
    rw [rcdL, List.length_append]
    rcases List.mem_cons.mp hm with rfl | hm
    · omega
    · have := rcdL_mem hm
      omega
theorem rcdL_take {ds : List PyData} {i : Nat} {d : PyData} (h : ds[i]? = some d) : rcdL (ds.take (i + 1)) = rcdL (ds.take i) ++ rcd d := by
  rw [List.take_add_one, h]
  exact rcdL_snoc _ _
theorem rcdL_app : ∀ (a b : List PyData), rcdL (a ++ b) = rcdL a ++ rcdL b
  | [], b => by simp [rcdL]
  | e :: a, b => by rw [List.cons_append, rcdL, rcdL, rcdL_app a b, List.append_assoc]
theorem rcdL_take_le (ds : List PyData) (i : Nat) : (rcdL (ds.take i)).length ≤ (rcdL ds).length := by
  have e : rcdL ds = rcdL (ds.take i) ++ rcdL (ds.drop i) := by rw [← rcdL_app, List.take_append_drop]
  rw [e, List.length_append]
  omega
def spRecord (K : PySem.W.Frag) (n : Nat) : Sp := fun vs H Q _ => ∃ (v : V) (d : PyData), vs = [v] ∧ Va H v d ∧ OkV d ∧ d.depth < n ∧ (rcd d).length ≤ 90000 ∧
  ∀ p H', Same H H' → H p = none → H' p = some (.lst ((rcd d).map V.int)) → Q (.ref p) H'
set_option maxHeartbeats 1000000 in
theorem ok_LrecordN (T : Tx K mg) : ∀ n, OkD P w K mg base CX0 (n + 2) "_law_record" ["value"] (spRecord K n)
  | 0 => (ok_no T.d_Lrecord sc_Lrecord fun vs H Q E h => by
      obtain ⟨_, _, _, _, _, a, _⟩ := h
      exact absurd a (Nat.not_lt_zero _))
  | n + 1 => by
    have ih := ok_LrecordN T n
    rw [show n + 1 + 2 = (n + 2) + 1 by omega]
    refine ok_mk T.d_Lrecord sc_Lrecord (fun vs H Q E h => ?_) (fun f cdv A outer s H vs Q E hr h => ?_)
    · obtain ⟨v, d, rfl, _⟩ := h
      rfl
    · obtain ⟨v, d, rfl, va, ok, hd, hl, q⟩ := h
      refine ⟨_, (pss_cons (ps_if (pt_cmpR y_isN (pv 0) pe_non (nomark _)) (pss_one (ps_ret (pe_lst (pa_cons pe_int pa_nil)))) pss_nil)
      (pss_cons (ps_if (pt_val (pe_callB call_isi (by rfl) T.z_isinstance (by decide +kernel) (pa_cons (pv 0) (pa_cons (pe_bltn (v := .ty "bool") (by rfl) T.z_bool (by decide +kernel) rfl) pa_nil)))) (pss_one (ps_ret (pe_lst (pa_cons (pe_op op_add pe_int (pe_callTy y_int (by rfl) T.z_int (by decide +kernel) (pa_cons (pv 0) pa_nil))) pa_nil)))) pss_nil)
      (pss_cons (ps_if (pt_val (pe_callB call_isi (by rfl) T.z_isinstance (by decide +kernel) (pa_cons (pv 0) (pa_cons (pe_bltn (v := .ty "int") (by rfl) T.z_int (by decide +kernel) rfl) pa_nil)))) (pss_cons (ps_if (pt_cmpR op_ge (pv 0) pe_int (nomark _)) (pss_one (ps_ret (pe_op op_cat (pe_lst (pa_cons pe_int pa_nil)) (pe_callD (ok_Lcount T) (hr.mono (by omega)) (by rfl) pass0 (pa_cons (pv 0) pa_nil))))) pss_nil)
      (pss_one (ps_ret (pe_op op_cat (pe_lst (pa_cons pe_int pa_nil)) (pe_callD (ok_Lcount T) (hr.mono (by omega)) (by rfl) pass0 (pa_cons (pe_op op_sub (pe_un un_neg (pv 0)) pe_int) pa_nil)))))) pss_nil)
      (pss_cons (ps_if (pt_val (pe_callB call_isi (by rfl) T.z_isinstance (by decide +kernel) (pa_cons (pv 0) (pa_cons (pe_bltn (v := .ty "str") (by rfl) T.z_str (by decide +kernel) rfl) pa_nil)))) (pss_one (ps_ret (pe_op op_cat (pe_op op_cat (pe_lst (pa_cons pe_int pa_nil)) (pe_callD (ok_Lcount T) (hr.mono (by omega)) (by rfl) pass0 (pa_cons (pe_callB y_lenS (by rfl) T.z_len (by decide +kernel) (pa_cons (pv 0) pa_nil)) pa_nil))) (pe_lc (own := [("sign", 3)]) (g := gName 3) rfl sc_Lrecord.nd (pi_str (pv 0)) (blkOk_by (N := N_Lrecord) (sc := defScope s_Lrecord) (by decide +kernel)) (fun _ _ _ _ _ => pg_name (i := 3) sc_Lrecord.nd rfl (Or.inl rfl)) (fun _ _ _ _ _ => pts_nil) (fun _ _ _ _ _ => (pe_callB call_ord (by rfl) T.z_ord (by decide +kernel) (pa_cons (pv 3) pa_nil))))))) pss_nil)
      (pss_cons (ps_set (i := 1) sc_Lrecord.nd rfl (.inl rfl) (pe_op op_cat (pe_lst (pa_cons pe_int pa_nil)) (pe_callD (ok_Lcount T) (hr.mono (by omega)) (by rfl) pass0 (pa_cons (pe_callB y_lenQ (by rfl) T.z_len (by decide +kernel) (pa_cons (pv 0) pa_nil)) pa_nil))))
      (pss_cons (ps_for PassesOwn.never rfl (pi_tup (pv 0)) (pg_name (i := 2) sc_Lrecord.nd rfl (Or.inl rfl)) (pss_one (ps_set (i := 1) sc_Lrecord.nd rfl (.inl rfl) (pe_op op_cat (pv 1) (pe_callD ih (hr.mono (by omega)) (by rfl) pass0 (pa_cons (pv 2) pa_nil))))))
      (pss_one (ps_ret (pv 1))))))))), ?_⟩
      rw [show start N_Lrecord [v] = [some (v), none, none, none] from rfl]
      walk_at "rs"
      rcases va.inv with ⟨rfl, rfl⟩ | ⟨b, rfl, rfl⟩ | ⟨i, rfl, rfl⟩ | ⟨x, rfl, rfl⟩ | ⟨a, xs, ds, rfl, rfl, tk, vl⟩
      · refine if_dec (fun _ => ?_) (fun c => absurd rfl c)
        walk_at "rs"
        refine rd_wLs (Nat.le_of_ble_eq_true rfl) fun p np => ?_
        exact q p _ (same_new np) np (by rw [upd_same, rcd]; rfl)
      · refine if_dec (fun c => nomatch c) (fun c => ?_)
        walk_at "rs"
        refine rd_isi (.base (.bl b)) (r := true) (by decide +kernel) ?_
        walk_at "rs"
        refine rd_wLs (Nat.le_of_ble_eq_true rfl) fun p np => ?_
        exact q p _ (same_new np) np (by rw [upd_same, rcd]; cases b <;> rfl)
      · refine if_dec (fun c => nomatch c) (fun c => ?_)
        walk_at "rs"
        refine rd_isi (.base (.int i)) (r := false) (by decide +kernel) ?_
        walk_at "rs"
        refine rd_isi (.base (.int i)) (r := true) (by decide +kernel) ?_
        walk_at "rs"
        have hi := okv_int' ok
        refine if_dec (fun c => ?_) (fun c => ?_)
        · walk_at "rs"
          refine rd_wLs (Nat.le_of_ble_eq_true rfl) fun p np => ?_
          walk_at "rs"
          refine ⟨i.toNat, by rw [Int.toNat_of_nonneg c], by omega, fun r H' sm nr er => ?_⟩
          walk_at "rs"
          refine rd_catL (xs := [V.int 3]) (zs := (cnt i.toNat).map V.int) (sm _ _ upd_same) er ?_ fun z nz => ?_
          · have := cnt_len 28 i.toNat (by omega)
            rw [List.length_map]
            simp only [List.length_cons, List.length_nil]
            omega
          · refine q z _ (((same_new np).trans sm).trans (same_new nz)) (((same_new np).trans sm).free nz) ?_
            rw [upd_same, rcd, if_pos c]
            rfl
        · walk_at "rs"
          refine rd_wLs (Nat.le_of_ble_eq_true rfl) fun p np => ?_
          walk_at "rs"
          refine ⟨(-i - 1).toNat, by rw [Int.toNat_of_nonneg (by omega)], by omega, fun r H' sm nr er => ?_⟩
          walk_at "rs"
          refine rd_catL (xs := [V.int 4]) (zs := (cnt (-i - 1).toNat).map V.int) (sm _ _ upd_same) er ?_ fun z nz => ?_
          · have := cnt_len 28 (-i - 1).toNat (by omega)
            rw [List.length_map]
            simp only [List.length_cons, List.length_nil]
            omega
          · refine q z _ (((same_new np).trans sm).trans (same_new nz)) (((same_new np).trans sm).free nz) ?_
            rw [upd_same, rcd, if_neg c]
            rfl
      · refine if_dec (fun c => nomatch c) (fun c => ?_)
        walk_at "rs"
        refine rd_isi (.base (.str x)) (r := false) (by decide +kernel) ?_
        walk_at "rs"
        refine rd_isi (.base (.str x)) (r := false) (by decide +kernel) ?_
        walk_at "rs"
        refine rd_isi (.base (.str x)) (r := true) (by decide +kernel) ?_
        walk_at "rs"
        obtain ⟨hx, gx⟩ := okv_str' ok
        refine rd_wLs (Nat.le_of_ble_eq_true rfl) fun p np => ?_
        walk_at "rs"
        refine ⟨x.length, rfl, by omega, fun r H' sm nr er => ?_⟩
        have s1 := (same_new (o := .lst [V.int 5]) np).trans sm
        have cl := cnt_len 28 x.length (by omega)
        walk_at "rs"
        refine rd_catL (xs := [V.int 5]) (zs := (cnt x.length).map V.int) (sm _ _ upd_same) er (by simp only [List.length_cons, List.length_nil, List.length_map]; omega) fun z nz => ?_
        walk_at "rs"
        intro D nD
        refine lcM1 walk_s (fun _ _ => trivial) nD (by rw [List.length_map, ← len_tl]; omega) (fun v => match v with | .str y => .int ((tl y).headD 0 : Nat) | v => v) (fun v hv H2 R sm2 rr => ?_) (fun H2 sm2 e => ?_)
        · obtain ⟨c, hc, rfl⟩ := List.mem_map.mp hv
          refine ⟨rfl, ?_⟩
          walk_at "wp"
          exact ⟨_, rfl, rfl, rr _ (Same.refl _)⟩
        · walk_at "rs"
          have e2 : H2 D = some (.lst ((sgn x).map V.int)) := by
            rw [e]
            unfold sgn
            rw [List.map_map, List.map_map]
            rfl
          have ls : (sgn x).length = x.length := by unfold sgn; rw [List.length_map]; rfl
          refine rd_catL (sm2 _ _ upd_same) e2 (by simp only [List.length_append, List.length_cons, List.length_nil, List.length_map]; omega) fun u nu => ?_
          have s3 := (s1.trans (same_new nz)).trans sm2
          refine q u _ (s3.trans (same_new nu)) (s3.free nu) ?_
          rw [upd_same, rcd, List.map_cons, List.map_append]
          rfl
      · refine if_dec (fun c => nomatch c) (fun c => ?_)
        walk_at "rs"
        refine rd_isi tk.ty (r := false) (by decide +kernel) ?_
        walk_at "rs"
        refine rd_isi tk.ty (r := false) (by decide +kernel) ?_
        walk_at "rs"
        refine rd_isi tk.ty (r := false) (by decide +kernel) ?_
        walk_at "rs"
        obtain ⟨hn, oks⟩ := okv_tup' ok
        have hlen := vl.length
        have hdd : PyData.depthAll ds < n := by
          rw [PyData.depth] at hd
          omega
        have hll : 1 + (cnt ds.length).length + (rcdL ds).length ≤ 90000 := by
          rw [rcd, List.length_cons, List.length_append] at hl
          omega
        refine rd_wLs (Nat.le_of_ble_eq_true rfl) fun p np => ?_
        walk_at "rs"
        refine rd_lenT (tk.same (same_new np)).seq ?_
        walk_at "rs"
        refine ⟨ds.length, by rw [hlen], by omega, fun r H' sm nr er => ?_⟩
        have s1 := (same_new (o := .lst [V.int 6]) np).trans sm
        walk_at "rs"
        refine rd_catL (xs := [V.int 6]) (zs := (cnt ds.length).map V.int) (sm _ _ upd_same) er (by simp only [List.length_cons, List.length_nil, List.length_map]; omega) fun z nz => ?_
        walk_at "rs"
        have s2 := s1.trans (same_new (o := .lst ([V.int 6] ++ (cnt ds.length).map V.int)) nz)
        refine rd_wSq (tk.same s2).seq ?_
        refine frJ (xs := xs) walk_t (fun i σ H' => Same H H' ∧ ∃ (c : Addr) (kk k3 : Option V), σ = [some (.ref a), some (.ref c), kk, k3] ∧ H c = none ∧ H' c = some (.lst ((6 :: (cnt ds.length ++ rcdL (ds.take i))).map V.int))) ?_ (fun i σ H' _ p => (tk.same p.1).seq) (fun i x σ H2 hx hP => ?_) (fun σ H2 hP => ?_)
        · refine ⟨s2, z, none, none, rfl, s1.free nz, ?_⟩
          rw [upd_same, List.take_zero, rcdL, List.append_nil]
          rfl
        · obtain ⟨sp, c, kk, k3, rfl, nc, ec⟩ := hP
          obtain ⟨d', hd', va'⟩ := vl.get hx
          have dm : d' ∈ ds := List.mem_of_getElem? hd'
          have hm := rcdL_mem dm
          walk_at "rs"
          refine ⟨x, d', rfl, va'.same sp, okl_mem oks dm, Nat.lt_of_le_of_lt (depth_mem dm) hdd, by omega, fun r' H3 sm3 nr3 er3 => ?_⟩
          walk_at "rs"
          have tl1 := rcdL_take_le ds (i + 1)
          rw [rcdL_take hd', List.length_append] at tl1
          refine rd_catL (sm3 _ _ ec) er3 (by simp only [List.length_append, List.length_cons, List.length_map]; omega) fun u nu => ?_
          walk_at "rs"
          have s4 := sp.trans sm3
          refine ⟨s4.trans (same_new nu), u, some x, k3, rfl, s4.free nu, ?_⟩
          rw [upd_same, rcdL_take hd', ← List.map_append, List.cons_append, List.append_assoc]
        · obtain ⟨sp, c, kk, k3, rfl, nc, ec⟩ := hP
          walk_at "rs"
          refine q c _ sp nc ?_
          rw [ec, hlen, List.take_length, rcd]
end

section
variable {P : Program} {w : World} {K : PySem.W.Frag} {mg : Str → Option Value} {base : Heap}
theorem and127 {n : Nat} : Builtin.bitAnd (n : Int) 127 = ((n % 128 : Nat) : Int) := by
  have h := Bits.bitAnd_mask (x := (n : Int)) 7 (by omega)
  rw [show (2 : Int) ^ 7 - 1 = 127 by decide, show (2 : Int) ^ 7 = 128 by decide] at h
  rw [h]
  omega
theorem shr7 {n : Nat} : (n : Int) / 2 ^ (7 : Int).toNat = ((n / 128 : Nat) : Int) := by
  show (n : Int) / 2 ^ 7 = _
  rw [show (2 : Int) ^ 7 = 128 by decide]
  omega
def spPC (K : PySem.W.Frag) : Sp := fun vs H Q _ => ∃ n : Nat, vs = [.int n] ∧ (cnt n).length ≤ 100000 ∧ ∀ p H', Same H H' → H p = none → H' p = some (.lst ((cnt n).map V.int)) → Q (.ref p) H'
theorem ok_pack_count (T : Tx K mg) : OkD P w K mg base CX0 1 "pack_count" ["count"] (spPC K) := by
  refine ok_mk T.d_pack_count sc_pack_count (fun vs H Q E h => ?_) (fun f cdv A outer s H vs Q E hr h => ?_)
  · obtain ⟨n, rfl, _⟩ := h
    rfl
  · obtain ⟨n, rfl, hn, q⟩ := h
    refine ⟨_, (pss_cons (ps_set (i := 1) sc_pack_count.nd rfl (.inl rfl) (pe_lst pa_nil))
      (pss_cons (ps_while PassesOwn.never (pt_cmpR op_gt (pv 0) pe_int (nomark _)) (pss_cons (ps_expr (pe_bm PySem.F.plainAttrs_list PySem.F.slot_list_append PySem.F.type_list_append mt_append (pv 1) (pa_cons (pe_op op_add pe_int (pe_op op_and (pv 0) pe_int)) pa_nil)))
      (pss_one (ps_set (i := 0) sc_pack_count.nd rfl (.inl rfl) (pe_op op_shr (pv 0) pe_int)))))
      (pss_cons (ps_expr (pe_bm PySem.F.plainAttrs_list PySem.F.slot_list_append PySem.F.type_list_append mt_append (pv 1) (pa_cons (pv 0) pa_nil)))
      (pss_one (ps_ret (pv 1)))))), ?_⟩
    rw [show start N_pack_count [.int n] = [some (.int n), none] from rfl]
    walk_at "rs"
    refine rd_wLs (Nat.le_of_ble_eq_true rfl) fun L nL => ?_
    walk_at "rs"
    refine ⟨fun m σ H' => Same H H' ∧ ∃ (acc : List Int), σ = [some (.int m), some (.ref L)] ∧ H' L = some (.lst (acc.map V.int)) ∧ acc ++ cnt m = cnt n, ⟨n, same_new nL, [], rfl, upd_same, rfl⟩, fun m σ H1 hW => ?_⟩
    obtain ⟨S1, acc, rfl, eL, ec⟩ := hW
    have al : acc.length + (cnt m).length = (cnt n).length := by rw [← ec, List.length_append]
    walk_at "rs"
    refine if_dec (fun c => ?_) (fun c => ?_)
    · refine whN ?_
      have ge : 128 ≤ m := by omega
      walk_at "rs"
      refine rd_wTyL (SqL.of eL) ?_
      walk_at "rs"
      refine rd_appendB eL (by rw [List.length_map]; omega) ?_
      walk_at "rs"
      refine ⟨m / 128, by omega, Same.put S1 nL, acc ++ [((128 + (m % 128 : Nat) : Int))], ?_, ?_, ?_⟩
      · rw [shr7]
      · rw [upd_same, and127, List.map_append]
        rfl
      · rw [List.append_assoc, List.singleton_append, ← cnt_ge ge]
        exact ec
      all_goals (show (0 : Int) ≤ 7; decide)
    · walk_at "rs"
      refine rd_wTyL (SqL.of eL) ?_
      walk_at "rs"
      refine rd_appendB eL (by rw [List.length_map]; omega) ?_
      walk_at "rs"
      refine q L _ (Same.put S1 nL) nL ?_
      rw [upd_same, ← ec, cnt_lt (by omega), List.map_append]
      rfl
def spPI (K : PySem.W.Frag) : Sp := fun vs H Q _ => ∃ i : Int, vs = [.int i] ∧ (rcd (.int i)).length ≤ 90000 ∧ ∀ p H', Same H H' → H p = none → H' p = some (.lst ((rcd (.int i)).map V.int)) → Q (.ref p) H'
theorem ok_pack_integer (T : Tx K mg) : OkD P w K mg base CX0 2 "pack_integer" ["number"] (spPI K) := by
  refine ok_mk T.d_pack_integer sc_pack_integer (fun vs H Q E h => ?_) (fun f cdv A outer s H vs Q E hr h => ?_)
  · obtain ⟨n, rfl, _⟩ := h
    rfl
  · obtain ⟨i, rfl, hi, q⟩ := h
    refine ⟨_, (pss_cons (ps_if (pt_cmpR op_lt (pv 0) pe_int (nomark _)) (pss_one (ps_ret (pe_op op_cat (pe_lst (pa_cons (pe_kI (by rfl) T.c_NEGATIVE) pa_nil)) (pe_callD (ok_pack_count T) hr (by rfl) pass0 (pa_cons (pe_op op_sub (pe_un un_neg (pv 0)) pe_int) pa_nil))))) pss_nil)
      (pss_one (ps_ret (pe_op op_cat (pe_lst (pa_cons (pe_kI (by rfl) T.c_NATURAL) pa_nil)) (pe_callD (ok_pack_count T) hr (by rfl) pass0 (pa_cons (pv 0) pa_nil)))))), ?_⟩
    rw [show start N_pack_integer [.int i] = [some (.int i)] from rfl]
    walk_at "rs"
    refine if_dec (fun c => ?_) (fun c => ?_)
    · walk_at "rs"
      refine rd_wLsG (Nat.le_of_ble_eq_true rfl) fun p H1 np s1 ep => ?_
      walk_at "rs"
      have hc : (cnt (-i - 1).toNat).length ≤ 90000 := by
        rw [rcd, if_neg (by omega), List.length_cons] at hi
        omega
      refine ⟨(-i - 1).toNat, by rw [Int.toNat_of_nonneg (by omega)], by omega, fun r H' sm nr er => ?_⟩
      refine rd_catL (xs := [V.int 4]) (zs := (cnt (-i - 1).toNat).map V.int) (sm _ _ ep) er (by rw [List.length_map]; show 1 + _ ≤ _; omega) fun z nz => ?_
      refine q z _ ((s1.trans sm).trans (same_new nz)) ((s1.trans sm).free nz) ?_
      rw [upd_same, rcd, if_neg (by omega)]
      rfl
    · walk_at "rs"
      refine rd_wLsG (Nat.le_of_ble_eq_true rfl) fun p H1 np s1 ep => ?_
      walk_at "rs"
      have hc : (cnt i.toNat).length ≤ 90000 := by
        rw [rcd, if_pos (by omega), List.length_cons] at hi
        omega
      refine ⟨i.toNat, by rw [Int.toNat_of_nonneg (by omega)], by omega, fun r H' sm nr er => ?_⟩
      refine rd_catL (xs := [V.int 3]) (zs := (cnt i.toNat).map V.int) (sm _ _ ep) er (by rw [List.length_map]; show 1 + _ ≤ _; omega) fun z nz => ?_
      refine q z _ ((s1.trans sm).trans (same_new nz)) ((s1.trans sm).free nz) ?_
      rw [upd_same, rcd, if_pos (by omega)]
      rfl
def spPack (K : PySem.W.Frag) (n : Nat) : Sp := fun vs H Q _ => ∃ (v : V) (d : PyData), vs = [v] ∧ Va H v d ∧ d.depth < n ∧ (rcd d).length ≤ 90000 ∧
  ∀ p H', Same H H' → H p = none → H' p = some (.lst ((rcd d).map V.int)) → Q (.ref p) H'
set_option maxHeartbeats 1000000 in
theorem ok_packN (T : Tx K mg) : ∀ n, OkD P w K mg base CX0 (n + 3) "pack" ["value"] (spPack K n)
  | 0 => (ok_no T.d_pack sc_pack fun vs H Q E h => by
      obtain ⟨_, _, _, _, a, _⟩ := h
      exact absurd a (Nat.not_lt_zero _))
  | n + 1 => by
    have ih := ok_packN T n
    rw [show n + 1 + 3 = (n + 3) + 1 by omega]
    refine ok_mk T.d_pack sc_pack (fun vs H Q E h => ?_) (fun f cdv A outer s H vs Q E hr h => ?_)
    · obtain ⟨v, d, rfl, _⟩ := h
      rfl
    · obtain ⟨v, d, rfl, va, hd, hl, q⟩ := h
      refine ⟨_, (pss_cons (ps_if (pt_cmpR y_isN (pv 0) pe_non (nomark _)) (pss_one (ps_ret (pe_lst (pa_cons (pe_kI (by rfl) T.c_NONE) pa_nil)))) pss_nil)
      (pss_cons (ps_if (pt_val (pe_callB call_isi (by rfl) T.z_isinstance (by decide +kernel) (pa_cons (pv 0) (pa_cons (pe_bltn (v := .ty "bool") (by rfl) T.z_bool (by decide +kernel) rfl) pa_nil)))) (pss_one (ps_ret (pe_lst (pa_cons (pe_ifExp (pt_val (pv 0)) (pe_kI (by rfl) T.c_TRUE) (pe_kI (by rfl) T.c_FALSE)) pa_nil)))) pss_nil)
      (pss_cons (ps_if (pt_val (pe_callB call_isi (by rfl) T.z_isinstance (by decide +kernel) (pa_cons (pv 0) (pa_cons (pe_bltn (v := .ty "int") (by rfl) T.z_int (by decide +kernel) rfl) pa_nil)))) (pss_one (ps_ret (pe_callD (ok_pack_integer T) (hr.mono (by omega)) (by rfl) pass0 (pa_cons (pv 0) pa_nil)))) pss_nil)
      (pss_cons (ps_if (pt_val (pe_callB call_isi (by rfl) T.z_isinstance (by decide +kernel) (pa_cons (pv 0) (pa_cons (pe_bltn (v := .ty "str") (by rfl) T.z_str (by decide +kernel) rfl) pa_nil)))) (pss_one (ps_ret (pe_op op_cat (pe_op op_cat (pe_lst (pa_cons (pe_kI (by rfl) T.c_STRING) pa_nil)) (pe_callD (ok_pack_count T) (hr.mono (by omega)) (by rfl) pass0 (pa_cons (pe_callB y_lenS (by rfl) T.z_len (by decide +kernel) (pa_cons (pv 0) pa_nil)) pa_nil))) (pe_lc (own := [("sign", 3)]) (g := gName 3) rfl sc_pack.nd (pi_str (pv 0)) (blkOk_by (N := N_pack) (sc := defScope s_pack) (by decide +kernel)) (fun _ _ _ _ _ => pg_name (i := 3) sc_pack.nd rfl (Or.inl rfl)) (fun _ _ _ _ _ => pts_nil) (fun _ _ _ _ _ => (pe_callB call_ord (by rfl) T.z_ord (by decide +kernel) (pa_cons (pv 3) pa_nil))))))) pss_nil)
      (pss_cons (ps_set (i := 1) sc_pack.nd rfl (.inl rfl) (pe_op op_cat (pe_lst (pa_cons (pe_kI (by rfl) T.c_TUPLE) pa_nil)) (pe_callD (ok_pack_count T) (hr.mono (by omega)) (by rfl) pass0 (pa_cons (pe_callB y_lenQ (by rfl) T.z_len (by decide +kernel) (pa_cons (pv 0) pa_nil)) pa_nil))))
      (pss_cons (ps_for PassesOwn.never rfl (pi_tup (pv 0)) (pg_name (i := 2) sc_pack.nd rfl (Or.inl rfl)) (pss_one (ps_expr (pe_bm PySem.F.plainAttrs_list PySem.F.slot_list_extend PySem.F.type_list_extend mt_extend (pv 1) (pa_cons (pe_callD ih (hr.mono (by omega)) (by rfl) pass0 (pa_cons (pv 2) pa_nil)) pa_nil)))))
      (pss_one (ps_ret (pv 1))))))))), ?_⟩
      rw [show start N_pack [v] = [some (v), none, none, none] from rfl]
      walk_at "rs"
      rcases va.inv with ⟨rfl, rfl⟩ | ⟨b, rfl, rfl⟩ | ⟨i, rfl, rfl⟩ | ⟨x, rfl, rfl⟩ | ⟨a, xs, ds, rfl, rfl, tk, vl⟩
      · refine if_dec (fun _ => ?_) (fun c => absurd rfl c)
        walk_at "rs"
        refine rd_wLs (Nat.le_of_ble_eq_true rfl) fun p np => ?_
        exact q p _ (same_new np) np (by rw [upd_same, rcd]; rfl)
      · refine if_dec (fun c => nomatch c) (fun c => ?_)
        walk_at "rs"
        refine rd_isi (.base (.bl b)) (r := true) (by decide +kernel) ?_
        walk_at "rs"
        refine if_b (fun e => ?_) (fun e => ?_)
        · walk_at "rs"
          refine rd_wLs (Nat.le_of_ble_eq_true rfl) fun p np => ?_
          exact q p _ (same_new np) np (by rw [upd_same, rcd, e]; rfl)
        · walk_at "rs"
          refine rd_wLs (Nat.le_of_ble_eq_true rfl) fun p np => ?_
          exact q p _ (same_new np) np (by rw [upd_same, rcd, e]; rfl)
      · refine if_dec (fun c => nomatch c) (fun c => ?_)
        walk_at "rs"
        refine rd_isi (.base (.int i)) (r := false) (by decide +kernel) ?_
        walk_at "rs"
        refine rd_isi (.base (.int i)) (r := true) (by decide +kernel) ?_
        walk_at "rs"
        exact ⟨i, rfl, hl, q⟩
      · refine if_dec (fun c => nomatch c) (fun c => ?_)
        walk_at "rs"
        refine rd_isi (.base (.str x)) (r := false) (by decide +kernel) ?_
        walk_at "rs"
        refine rd_isi (.base (.str x)) (r := false) (by decide +kernel) ?_
        walk_at "rs"
        refine rd_isi (.base (.str x)) (r := true) (by decide +kernel) ?_
        walk_at "rs"
        have hl2 : 1 + (cnt x.length).length + x.length ≤ 90000 := by
          have ls : (sgn x).length = x.length := by unfold sgn; rw [List.length_map]; rfl
          rw [rcd, List.length_cons, List.length_append, ls] at hl
          omega
        refine rd_wLs (Nat.le_of_ble_eq_true rfl) fun p np => ?_
        walk_at "rs"
        refine ⟨x.length, rfl, by omega, fun r H' sm nr er => ?_⟩
        have s1 := (same_new (o := .lst [V.int 5]) np).trans sm
        walk_at "rs"
        refine rd_catL (xs := [V.int 5]) (zs := (cnt x.length).map V.int) (sm _ _ upd_same) er (by simp only [List.length_cons, List.length_nil, List.length_map]; omega) fun z nz => ?_
        walk_at "rs"
        intro D nD
        refine lcM1 walk_s (fun _ _ => trivial) nD (by rw [List.length_map, ← len_tl]; omega) (fun v => match v with | .str y => .int ((tl y).headD 0 : Nat) | v => v) (fun v hv H2 R sm2 rr => ?_) (fun H2 sm2 e => ?_)
        · obtain ⟨c, hc, rfl⟩ := List.mem_map.mp hv
          refine ⟨rfl, ?_⟩
          walk_at "wp"
          exact ⟨_, rfl, rfl, rr _ (Same.refl _)⟩
        · walk_at "rs"
          have e2 : H2 D = some (.lst ((sgn x).map V.int)) := by
            rw [e]
            unfold sgn
            rw [List.map_map, List.map_map]
            rfl
          have ls : (sgn x).length = x.length := by unfold sgn; rw [List.length_map]; rfl
          refine rd_catL (sm2 _ _ upd_same) e2 (by simp only [List.length_append, List.length_cons, List.length_nil, List.length_map]; omega) fun u nu => ?_
          have s3 := (s1.trans (same_new nz)).trans sm2
          refine q u _ (s3.trans (same_new nu)) (s3.free nu) ?_
          rw [upd_same, rcd, List.map_cons, List.map_append]
          rfl
      · refine if_dec (fun c => nomatch c) (fun c => ?_)
        walk_at "rs"
        refine rd_isi tk.ty (r := false) (by decide +kernel) ?_
        walk_at "rs"
        refine rd_isi tk.ty (r := false) (by decide +kernel) ?_
        walk_at "rs"
        refine rd_isi tk.ty (r := false) (by decide +kernel) ?_
        walk_at "rs"
        have hlen := vl.length
        have hdd : PyData.depthAll ds < n := by
          rw [PyData.depth] at hd
          omega
        have hll : 1 + (cnt ds.length).length + (rcdL ds).length ≤ 90000 := by
          rw [rcd, List.length_cons, List.length_append] at hl
          omega
        refine rd_wLs (Nat.le_of_ble_eq_true rfl) fun p np => ?_
        walk_at "rs"
        refine rd_lenT (tk.same (same_new np)).seq ?_
        walk_at "rs"
        refine ⟨ds.length, by rw [hlen], by omega, fun r H' sm nr er => ?_⟩
        have s1 := (same_new (o := .lst [V.int 6]) np).trans sm
        walk_at "rs"
        refine rd_catL (xs := [V.int 6]) (zs := (cnt ds.length).map V.int) (sm _ _ upd_same) er (by simp only [List.length_cons, List.length_nil, List.length_map]; omega) fun z nz => ?_
        walk_at "rs"
        have s2 := s1.trans (same_new (o := .lst ([V.int 6] ++ (cnt ds.length).map V.int)) nz)
        refine rd_wSq (tk.same s2).seq ?_
        refine frJ (xs := xs) walk_t (fun i σ H' => Same H H' ∧ ∃ (c : Addr) (k3 : Option V), σ = [some (.ref a), some (.ref c), k3, none] ∧ H c = none ∧ H' c = some (.lst ((6 :: (cnt ds.length ++ rcdL (ds.take i))).map V.int))) ?_ (fun i σ H' _ p => (tk.same p.1).seq) (fun i x σ H2 hx hP => ?_) (fun σ H2 hP => ?_)
        · refine ⟨s2, z, none, rfl, s1.free nz, ?_⟩
          rw [upd_same, List.take_zero, rcdL, List.append_nil]
          rfl
        · obtain ⟨sp, c, k3, rfl, nc, ec⟩ := hP
          obtain ⟨d', hd', va'⟩ := vl.get hx
          have dm : d' ∈ ds := List.mem_of_getElem? hd'
          have hm := rcdL_mem dm
          walk_at "rs"
          refine rd_wTyL (SqL.of ec) ?_
          walk_at "rs"
          refine ⟨x, d', rfl, va'.same sp, Nat.lt_of_le_of_lt (depth_mem dm) hdd, by omega, fun r' H3 sm3 nr3 er3 => ?_⟩
          walk_at "rs"
          have tl1 := rcdL_take_le ds (i + 1)
          rw [rcdL_take hd', List.length_append] at tl1
          refine rd_extend (sm3 _ _ ec) er3 (by simp only [List.length_append, List.length_cons, List.length_map]; omega) ?_
          walk_at "rs"
          refine ⟨Same.put (sp.trans sm3) nc, c, _, rfl, nc, ?_⟩
          rw [upd_same, rcdL_take hd', ← List.map_append, List.cons_append, List.append_assoc]
        · obtain ⟨sp, c, k3, rfl, nc, ec⟩ := hP
          walk_at "rs"
          refine q c _ sp nc ?_
          rw [ec, hlen, List.take_length, rcd]
end


section
variable {P : Program} {w : World} {K : PySem.W.Frag} {mg : Str → Option Value} {base : Heap} {CI CV M : Addr}
def spByte (K : PySem.W.Frag) (CI : Addr) : Sp := fun vs H Q E => ∃ (a : Addr) (p : Nat) (L : List Int), vs = [.ref a, .int p] ∧ SqL K H a (L.map V.int) ∧ L.length ≤ 1000000 ∧ (∀ b, L[p]? = some b → Q (.int b) H) ∧ (L.length ≤ p → Flt CI L.length H E)
theorem ok_byte_at (T : Tx K mg) (X9 : Er2 P K mg CI CV M) : OkD P w K mg base (L2.CX P w) 2 "byte_at" ["data", "at"] (spByte K CI) := by
  obtain ⟨qi, vi, fi, XI⟩ := X9.i
  refine ok_mkX T.d_byte_at sc_byte_at (fun vs H Q E h => ?_) (fun f cdv A outer s H vs Q E hr h => ?_)
  · obtain ⟨a, p, L, rfl, _⟩ := h
    rfl
  · obtain ⟨a, p, L, rfl, hS, hL, q, qe⟩ := h
    refine ⟨_, (pss_cons (ps_if (pt_cmpR op_ge (pv 1) (pe_callB y_lenQ (by rfl) T.z_len (by decide +kernel) (pa_cons (pv 0) pa_nil)) (nomark _)) (pss_one (ps_raiseEr rfl XI hr (by omega) (takes_of rfl rfl rfl rfl) (pa_cons (pe_callB y_lenQ (by rfl) T.z_len (by decide +kernel) (pa_cons (pv 0) pa_nil)) pa_nil))) pss_nil)
      (pss_one (ps_ret (pe_ix ix_list (pv 0) (pv 1) (fun _ _ => rfl))))), ?_⟩
    rw [show start N_byte_at [.ref a, .int p] = [some (.ref a), some (.int p)] from rfl]
    walk_at "rs"
    refine rd_lenL hS ?_
    rw [List.length_map]
    walk_at "rs"
    rcases at_or L p with ⟨b, e⟩ | h
    · have := (List.getElem?_eq_some_iff.mp e).1
      refine if_dec (fun c => absurd c (by omega)) (fun c => ?_)
      walk_at "rs"
      refine rd_ixL hS (atI_map e) ?_
      exact q b e
    · refine if_dec (fun c => ?_) (fun c => absurd c (by omega))
      refine rd_raiseEr ?_
      walk_at "rs"
      refine rd_lenL hS ?_
      rw [List.length_map]
      walk_at "rs"
      exact rd_wMkEr (by omega) (qe h)
def spCode : Sp := fun vs H Q _ => ∃ b : Int, vs = [.int b] ∧ Q (.bl (decide (32 ≤ b ∧ b ≤ 126 ∧ b ≠ 37))) H
theorem len_SIGNS : (Str.ofString " !\"#$ &'()*+,-./0123456789:;<=>?@ABCDEFGHIJKLMNOPQRSTUVWXYZ[\\]^_`abcdefghijklmnopqrstuvwxyz{|}~").length = 95 := by rw [len_of]; rfl
theorem ok_is_code (T : Tx K mg) : OkD P w K mg base CX0 1 "is_code" ["byte"] spCode := by
  refine ok_mk T.d_is_code sc_is_code (fun vs H Q E h => ?_) (fun f cdv A outer s H vs Q E hr h => ?_)
  · obtain ⟨b, rfl, _⟩ := h
    rfl
  · obtain ⟨b, rfl, q⟩ := h
    refine ⟨_, (pss_one (ps_ret (pe_and (pe_chain op_le op_lt pe_int (pe_op op_sub (pv 0) (pe_kI (by rfl) T.c_FIRST_CODE)) (pe_callB y_lenS (by rfl) T.z_len (by decide +kernel) (pa_cons (pe_kS (by rfl) T.c_SIGNS) pa_nil))) (pe_one (pe_cmpR op_ne (pv 0) (pe_kI (by rfl) T.c_BARRED_CODE) (nomark _)))))), ?_⟩
    rw [show start N_is_code [.int b] = [some (.int b)] from rfl]
    have fin : ∀ k : Bool, k = decide (32 ≤ b ∧ b ≤ 126 ∧ b ≠ 37) → Q (.bl k) H := fun k e => by
      rw [e]
      exact q
    walk_at "rs"
    refine if_dec (fun c => ?_) (fun c => ?_)
    · walk_at "rs"
      rw [len_SIGNS]
      refine if_dec (fun c2 => ?_) (fun c2 => ?_)
      · walk_at "rs"
        refine fin _ ?_
        by_cases c3 : b = 37
        · rw [decide_eq_true c3, decide_eq_false (by omega)]
          rfl
        · rw [decide_eq_false c3, decide_eq_true (by omega)]
          rfl
      · walk_at "rs"
        refine fin _ ?_
        rw [decide_eq_false (by omega)]
      · rw [len_SIGNS]
        exact line_of (by decide)
    · walk_at "rs"
      refine fin _ ?_
      rw [decide_eq_false (by omega)]
def spUC (K : PySem.W.Frag) (CI CV : Addr) : Sp := fun vs H Q E => ∃ (a : Addr) (p : Nat) (L : List Int), vs = [.ref a, .int p] ∧ SqL K H a (L.map V.int) ∧ By L ∧ L.length ≤ 1000000 ∧ p ≤ L.length ∧
  Ans (rdC (L.drop p) p true 0 1) CI CV H E (fun c e => ∀ t H', Same H H' → Tk H' t [.int c, .int e] → Q (.ref t) H')
theorem ok_unpack_count (T : Tx K mg) (X9 : Er2 P K mg CI CV M) : OkD P w K mg base (L2.CX P w) 3 "unpack_count" ["data", "at"] (spUC K CI CV) := by
  obtain ⟨qv, vv, fv, XV⟩ := X9.v
  refine ok_mkX T.d_unpack_count sc_unpack_count (fun vs H Q E h => ?_) (fun f cdv A outer s H vs Q E hr h => ?_)
  · obtain ⟨a, p, L, rfl, _⟩ := h
    rfl
  · obtain ⟨a, p, L, rfl, hS, hB, hL, hp, q1, q2, q3⟩ := h
    refine ⟨_, (pss_cons (ps_set (i := 2) sc_unpack_count.nd rfl (.inl rfl) pe_int)
      (pss_cons (ps_set (i := 3) sc_unpack_count.nd rfl (.inl rfl) pe_int)
      (pss_cons (ps_set (i := 4) sc_unpack_count.nd rfl (.inl rfl) (pv 1))
      (pss_cons (ps_while (passes_of rfl) (pt_cmpR op_gt (pe_callDS (E := WE _) (ok_byte_at T X9) hr (by rfl) (fun σ => passAt (takes_of rfl rfl rfl rfl) σ) (pa_cons (pv 0) (pa_cons (pv 4) pa_nil))) pe_int (nomark _)) (pss_cons (ps_set (i := 2) sc_unpack_count.nd rfl (.inl rfl) (pe_op op_add (pv 2) (pe_op op_mul (pe_op op_and (pe_ix ix_list (pv 0) (pv 4) (fun _ _ => rfl)) pe_int) (pv 3))))
      (pss_cons (ps_set (i := 3) sc_unpack_count.nd rfl (.inl rfl) (pe_op op_mul (pv 3) pe_int))
      (pss_one (ps_set (i := 4) sc_unpack_count.nd rfl (.inl rfl) (pe_op op_add (pv 4) pe_int))))))
      (pss_cons (ps_if (PW.pt (pw_and (pt_cmpR op_eq (pe_ix ix_list (pv 0) (pv 4) (fun _ _ => rfl)) pe_int (nomark _)) (pw_and1 (pt_cmpR op_gt (pv 4) (pv 1) (nomark _))))) (pss_one (ps_raiseEr rfl XV hr (by omega) (takes_of rfl rfl rfl rfl) (pa_cons (pv 4) pa_nil))) pss_nil)
      (pss_one (ps_ret (y_tt (pa_cons (pe_op op_add (pv 2) (pe_op op_mul (pe_ix ix_list (pv 0) (pv 4) (fun _ _ => rfl)) (pv 3))) (pa_cons (pe_op op_add (pv 4) pe_int) pa_nil)))))))))), ?_⟩
    rw [show start N_unpack_count [.ref a, .int p] = [some (.ref a), some (.int p), none, none, none] from rfl]
    walk_at "rs"
    refine ⟨fun m σ H' => H' = H ∧ ∃ (q acc w : Nat) (f : Bool), m = L.length - q ∧ σ = [some (.ref a), some (.int p), some (.int acc), some (.int w), some (.int q)] ∧ p ≤ q ∧ q ≤ L.length ∧ (f = false ↔ p < q) ∧ rdC (L.drop q) q f acc w = rdC (L.drop p) p true 0 1, ⟨_, rfl, p, 0, 1, true, rfl, rfl, Nat.le_refl _, hp, ⟨(fun h => by cases h), (fun h => absurd h (Nat.lt_irrefl _))⟩, rfl⟩, fun m σ H1 hW => ?_⟩
    obtain ⟨rfl, q, acc, w, f, rfl, rfl, hpq, hqL, hf, hrd⟩ := hW
    walk_at "rs"
    refine ⟨a, q, L, rfl, hS, hL, fun b hb => ?_, fun h => ?_⟩
    · obtain ⟨n, rfl, hn⟩ := by_at hB hb
      have hq := (List.getElem?_eq_some_iff.mp hb).1
      rw [drop_at hb, rdC] at hrd
      walk_at "rs"
      refine if_dec (fun c => ?_) (fun c => ?_)
      · refine whN ?_
        rw [if_neg (by omega), Int.toNat_natCast] at hrd
        walk_at "rs"
        refine rd_ixL hS (atI_map hb) ?_
        walk_at "rs"
        · refine ⟨L.length - (q + 1), by omega, rfl, q + 1, acc + w * (n % 128), w * 128, false, rfl, ?_, by omega, by omega, ⟨(fun _ => by omega), (fun _ => rfl)⟩, hrd⟩
          rw [and127, show (acc : Int) + ((n % 128 : Nat) : Int) * (w : Int) = ((acc + w * (n % 128) : Nat) : Int) by rw [Int.natCast_add, Int.natCast_mul, Int.mul_comm], show (w : Int) * 128 = ((w * 128 : Nat) : Int) by omega]
          rfl
        · rw [and127]
          exact .inl ⟨by omega, by omega⟩
      · rw [if_pos (by omega), Int.toNat_natCast] at hrd
        walk_at "rs"
        refine rd_ixL hS (atI_map hb) ?_
        walk_at "rs"
        have fin : (n = 0 ∧ f = false → False) → ∀ t H', Same H1 H' → Tk H' t [.int ((acc + w * n : Nat) : Int), .int ((q + 1 : Nat) : Int)] → Q (.ref t) H' := fun no t H' s tk => by
          rw [if_neg (fun z => no ⟨by omega, z.2⟩)] at hrd
          exact q1 _ _ _ hrd.symm t H' s tk
        have last : (n = 0 ∧ f = false → False) → tRet (zTT (tCons (tOp (rI0 fun i j => .int (i + j)) (tVar 2) (tOp (rI CMul fun i j => .int (i * j)) (tOp (rIxL K) (tVar 0) (tVar 4)) (tVar 3))) (tCons (tOp (rI0 fun i j => .int (i + j)) (tVar 4) (tC (.int 1))) tNil))) ⟨fun _ H' => Q .non H', Q, fun _ _ => False, fun _ _ => False⟩ [some (.ref a), some (.int p), some (.int acc), some (.int w), some (.int q)] H1 := fun no => by
          walk_at "rs"
          refine rd_ixL hS (atI_map hb) ?_
          walk_at "rs"
          · refine rd_wTT (Nat.le_of_ble_eq_true rfl) fun t H2 nt s2 tk => fin no t H2 s2 ?_
            rw [show ((acc + w * n : Nat) : Int) = (acc : Int) + (n : Int) * (w : Int) by rw [Int.natCast_add, Int.natCast_mul, Int.mul_comm]]
            exact tk
          · exact .inl ⟨by omega, by omega⟩
        refine if_dec (fun c0 => ?_) (fun c0 => ?_)
        · walk_at "rs"
          refine if_dec (fun c1 => ?_) (fun c1 => ?_)
          · refine rd_raiseEr ?_
            walk_at "rs"
            refine rd_wMkEr (by omega) (q3 _ ?_)
            rw [if_pos ⟨by omega, hf.mpr (by omega)⟩] at hrd
            exact hrd.symm
          · exact last fun z => c1 (by have := hf.mp z.2; omega)
        · exact last fun z => c0 (by rw [z.1]; rfl)
    · have e : q = L.length := by omega
      rw [e, List.drop_length, rdC] at hrd
      exact q2 _ hrd.symm
def spUS (K : PySem.W.Frag) (CI CV : Addr) : Sp := fun vs H Q E => ∃ (a : Addr) (p c : Nat) (L : List Int), vs = [.ref a, .int p, .int c] ∧ SqL K H a (L.map V.int) ∧ L.length ≤ 1000000 ∧ p ≤ L.length ∧
  Ans (rdS c (L.drop p) p) CI CV H E (fun xs e => ∀ t H', Same H H' → Tk H' t [.str ⟨xs.toArray⟩, .int e] → Q (.ref t) H')
theorem ok_unpack_string (T : Tx K mg) (X9 : Er2 P K mg CI CV M) : OkD P w K mg base (L2.CX P w) 2 "unpack_string" ["data", "at", "count"] (spUS K CI CV) := by
  obtain ⟨qi, vi, fi, XI⟩ := X9.i
  obtain ⟨qv, vv, fv, XV⟩ := X9.v
  refine ok_mkX T.d_unpack_string sc_unpack_string (fun vs H Q E h => ?_) (fun f cdv A outer s H vs Q E hr h => ?_)
  · obtain ⟨a, p, c, L, rfl, _⟩ := h
    rfl
  · obtain ⟨a, p, c, L, rfl, hS, hL, hp, q1, q2, q3⟩ := h
    refine ⟨_, (pss_cons (ps_set (i := 3) sc_unpack_string.nd rfl (.inl rfl) (pe_slice sl_list (pv 0) (po_some (pv 1)) (po_some (pe_op op_add (pv 1) (pv 2)))))
      (pss_cons (ps_for (passes_of rfl) rfl (pi_enumK (by rfl) T.z_enumerate (pa_cons (pv 3) pa_nil) (pk_cons (pv 1) pk_nil)) (pg_tup (by rfl) (pgs_cons (pg_name (i := 4) sc_unpack_string.nd rfl (Or.inl rfl)) (pgs_cons (pg_name (i := 5) sc_unpack_string.nd rfl (Or.inl rfl)) pgs_nil))) (pss_one (ps_if (pt_not (pt_val (pe_callD (ok_is_code T) hr (by rfl) pass0 (pa_cons (pv 5) pa_nil)))) (pss_one (ps_raiseEr rfl XV hr (by omega) (takes_of rfl rfl rfl rfl) (pa_cons (pv 4) pa_nil))) pss_nil)))
      (pss_cons (ps_if (pt_cmpR op_lt (pe_callB y_lenQ (by rfl) T.z_len (by decide +kernel) (pa_cons (pv 3) pa_nil)) (pv 2) (nomark _)) (pss_one (ps_raiseEr rfl XI hr (by omega) (takes_of rfl rfl rfl rfl) (pa_cons (pe_callB y_lenQ (by rfl) T.z_len (by decide +kernel) (pa_cons (pv 0) pa_nil)) pa_nil))) pss_nil)
      (pss_one (ps_ret (y_tt (pa_cons (pe_m1 PySem.F.slot_str_join PySem.F.type_str_join y_join pe_str (pe_lc (own := [("code", 5)]) (g := gName 5) rfl sc_unpack_string.nd (pi_list (pv 3)) (blkOk_by (N := N_unpack_string) (sc := defScope s_unpack_string) (by decide +kernel)) (fun _ _ _ _ _ => pg_name (i := 5) sc_unpack_string.nd rfl (Or.inl rfl)) (fun _ _ _ _ _ => pts_nil) (fun _ _ _ _ _ => (pe_ix ix_str (pe_kS (by rfl) T.c_SIGNS) (pe_op op_sub (pv 5) (pe_kI (by rfl) T.c_FIRST_CODE)) (fun _ _ => rfl))))) (pa_cons (pe_op op_add (pv 1) (pv 2)) pa_nil)))))))), ?_⟩
    rw [show start N_unpack_string [.ref a, .int p, .int c] = [some (.ref a), some (.int p), some (.int c), none, none, none] from rfl]
    walk_at "rs"
    refine rd_slLft hS (by rw [List.length_map]; exact hp) fun r nr => ?_
    have s1 := same_new nr (o := .lst (((L.map V.int).drop p).take c))
    have er : (upd H r (.lst (((L.map V.int).drop p).take c))) r = some (.lst (((L.drop p).take c).map V.int)) := by rw [upd_same, ← List.map_drop, ← List.map_take]
    generalize upd H r (.lst (((L.map V.int).drop p).take c)) = H1 at s1 er ⊢
    have hlc : ((L.drop p).take c).length ≤ L.length := by
      rw [List.length_take, List.length_drop]
      omega
    walk_at "rs"
    refine rd_frN ?_
    walk_at "rs"
    refine ⟨r, _, rfl, SqL.of er, ?_⟩
    walk_at "rs"
    refine ⟨p, rfl, ⟨by omega, by omega⟩, SqL.of er, ?_⟩
    refine frN (xs := ((L.drop p).take c).map V.int) (fun i σ H' => Same H1 H' ∧ ∃ x4 x5, σ = [some (.ref a), some (.int p), some (.int c), some (.ref r), x4, x5] ∧ ∀ j, j < i → ∀ b, ((L.drop p).take c)[j]? = some b → gd b) ⟨Same.refl _, none, none, rfl, fun j h => absurd h (Nat.not_lt_zero _)⟩ (fun i σ H' _ pv => SqL.of (pv.1 _ _ er)) (fun i x σ H2 t hx pv nt => ?_) (fun σ H2 pv => ?_)
    · obtain ⟨s2, x4, x5, rfl, hg⟩ := pv
      obtain ⟨b, hb, rfl⟩ : ∃ b, ((L.drop p).take c)[i]? = some b ∧ x = .int b := by
        rw [List.getElem?_map] at hx
        cases e : ((L.drop p).take c)[i]? with
        | none =>
          rw [e] at hx
          cases hx
        | some b =>
          rw [e] at hx
          exact ⟨b, rfl, (Option.some.inj hx).symm⟩
      have hic : i < c := by
        have := (List.getElem?_eq_some_iff.mp hb).1
        rw [List.length_take] at this
        omega
      have hil : i < L.length := Nat.lt_of_lt_of_le (List.getElem?_eq_some_iff.mp hb).1 hlc
      have s3 := s2.trans (same_new nt (o := .tup [.int ((p : Int) + (i : Nat)), .int b]))
      refine rd_gTup (SqT.of upd_same) rfl ?_
      walk_at "rs"
      refine ⟨b, rfl, ?_⟩
      walk_at "rs"
      refine if_ndec (fun cg => ?_) (fun cg => ?_)
      · refine rd_raiseEr ?_
        walk_at "rs"
        rw [show (p : Int) + (i : Nat) = ((p + i : Nat) : Int) by omega]
        refine rd_wMkEr (by omega) ((q3 (p + i) (rdS_bad i c _ p (fun j hj b' hb' => hg j hj b' ?_) ⟨b, ?_, cg⟩ hic)).same (s1.trans s3))
        · rw [List.getElem?_take_of_lt (by omega)]
          exact hb'
        · rw [List.getElem?_take_of_lt hic] at hb
          exact hb
      · walk_at "rs"
        refine ⟨s3, _, _, rfl, fun j hj b' hb' => ?_⟩
        by_cases e : j = i
        · rw [e, hb] at hb'
          cases Option.some.inj hb'
          exact cg
        · exact hg j (by omega) b' hb'
    · obtain ⟨s2, x4, x5, rfl, hg⟩ := pv
      rw [List.length_map] at hg
      have gall : ∀ b ∈ (L.drop p).take c, gd b := fun b hb => by
        obtain ⟨j, hj⟩ := List.getElem?_of_mem hb
        exact hg j (List.getElem?_eq_some_iff.mp hj).1 b hj
      have er2 := s2 _ _ er
      have hld : (L.drop p).length = L.length - p := List.length_drop
      walk_at "rs"
      refine rd_lenL (SqL.of er2) ?_
      rw [List.length_map]
      walk_at "rs"
      refine if_dec (fun cl => ?_) (fun cl => ?_)
      · refine rd_raiseEr ?_
        walk_at "rs"
        refine rd_lenL (Same.seq (s1.trans s2) hS) ?_
        rw [List.length_map]
        walk_at "rs"
        have hlt : (L.drop p).length < c := by
          rw [List.length_take] at cl
          omega
        have etk : (L.drop p).take c = L.drop p := List.take_of_length_le (by omega)
        have := rdS_short c (L.drop p) p (fun b hb => gall b (by rw [etk]; exact hb)) hlt
        rw [show p + (L.drop p).length = L.length by omega] at this
        exact rd_wMkEr (by omega) ((q2 _ this).same (s1.trans s2))
      · walk_at "rs"
        refine rd_wSq (SqL.of er2) fun D nD => ?_
        refine lcM1 walk_l (fun H' sm => SqL.of (sm _ _ er2)) nD (by rw [List.length_map]; omega) (fun v => match v with | .int b => .str ⟨#[b.toNat]⟩ | v => v) (fun v hv H3 R sm rr => ?_) (fun H3 sm e => ?_)
        · obtain ⟨b, hb, rfl⟩ := List.mem_map.mp hv
          refine ⟨rfl, ?_⟩
          walk_at "wp"
          exact rd_ixS (sgn_at (gall b hb)) (by rw [len_SIGNS]; decide) (rr _ (Same.refl _))
        · rw [List.map_map] at e
          have e2 : H3 D = some (.lst ((((L.drop p).take c).map fun b => (⟨#[b.toNat]⟩ : Str)).map V.str)) := by
            rw [e, List.map_map]
            rfl
          have hs := lens_le (B := 1) (xs := ((L.drop p).take c).map fun b => (⟨#[b.toNat]⟩ : Str)) fun x hx => by
            obtain ⟨b, _, rfl⟩ := List.mem_map.mp hx
            exact Nat.le_refl _
          rw [List.length_map] at hs
          walk_at "rs"
          refine rd_joinL (SqL.of e2) (by rw [len_lit0, List.length_map]; omega) ?_
          rw [ones_join]
          walk_at "rs"
          refine rd_wTT (Nat.le_of_ble_eq_true rfl) fun t H4 nt s4 tk => ?_
          have hle : c ≤ (L.drop p).length := by
            rw [List.length_take] at cl
            omega
          refine q1 _ _ _ (rdS_good c _ p gall hle) t H4 (((s1.trans s2).trans sm).trans s4) ?_
          rw [show ((p + c : Nat) : Int) = (p : Int) + (c : Int) by omega]
          exact tk
/-- a value at a place, inside of 20 - L tuples; at the bottom nothing is promised -/
def spUI (K : PySem.W.Frag) (CI CV : Addr) : Nat → Sp
  | 0 => fun vs H Q E => vs.length = 3 ∧ False
  | n + 1 => fun vs H Q E => ∃ (a : Addr) (p : Nat) (dp : Int) (L : List Int), vs = [.ref a, .int p, .int dp] ∧ dp = 20 - (n : Int) ∧ SqL K H a (L.map V.int) ∧ By L ∧ L.length ≤ 1000000 ∧ p ≤ L.length ∧
    Ans (unp n (L.drop p) p) CI CV H E (fun d e => ∀ v t H', Same H H' → Va H' v d → Tk H' t [v, .int e] → Q (.ref t) H')
def spUT (K : PySem.W.Frag) (CI CV : Addr) (m : Nat) : Sp := fun vs H Q E => ∃ (n : Nat) (a : Addr) (p c : Nat) (dp : Int) (L : List Int), m = n + 1 ∧ vs = [.ref a, .int p, .int c, .int dp] ∧ dp = 20 - (n : Int) ∧ SqL K H a (L.map V.int) ∧ By L ∧ L.length ≤ 1000000 ∧ p ≤ L.length ∧
    Ans (rdI (unp n) c (L.drop p) p) CI CV H E (fun ds e => ∀ v t H', Same H H' → Va H' v (.tuple ds) → Tk H' t [v, .int e] → Q (.ref t) H')
theorem ok_unpack_tuple (T : Tx K mg) (X9 : Er2 P K mg CI CV M) {m k : Nat} (ih : OkD P w K mg base (L2.CX P w) k "unpack_inside" ["data", "at", "depth"] (spUI K CI CV m)) : OkD P w K mg base (L2.CX P w) (k + 1) "unpack_tuple" ["data", "at", "count", "depth"] (spUT K CI CV m) := by
  refine ok_mkX T.d_unpack_tuple sc_unpack_tuple (fun vs H Q E h => ?_) (fun f cdv A outer s H vs Q E hr h => ?_)
  · obtain ⟨n, a, p, c, dp, L, _, rfl, _⟩ := h
    rfl
  · obtain ⟨n, a, p, c, dp, L, rfl, rfl, hdp, hS, hB, hL, hp, q1, q2, q3⟩ := h
    refine ⟨_, (pss_cons (ps_set (i := 4) sc_unpack_tuple.nd rfl (.inl rfl) (pe_lst pa_nil))
      (pss_cons (ps_set (i := 5) sc_unpack_tuple.nd rfl (.inl rfl) (pv 1))
      (pss_cons (ps_while (passes_of rfl) (pt_cmpR op_lt (pe_callB y_lenQ (by rfl) T.z_len (by decide +kernel) (pa_cons (pv 4) pa_nil)) (pv 2) (nomark _)) (pss_cons (ps_asg (pe_callDS (E := WE _) ih hr (by rfl) (fun σ => passAt (takes_of rfl rfl rfl rfl) σ) (pa_cons (pv 0) (pa_cons (pv 5) (pa_cons (pv 3) pa_nil)))) (pg_tup (by rfl) (pgs_cons (pg_name (i := 6) sc_unpack_tuple.nd rfl (Or.inl rfl)) (pgs_cons (pg_name (i := 5) sc_unpack_tuple.nd rfl (Or.inl rfl)) pgs_nil))))
      (pss_one (ps_expr (pe_bm PySem.F.plainAttrs_list PySem.F.slot_list_append PySem.F.type_list_append mt_append (pv 4) (pa_cons (pv 6) pa_nil))))))
      (pss_one (ps_ret (y_tt (pa_cons (pe_callTy y_tup (by rfl) T.z_tuple (by decide +kernel) (pa_cons (pv 4) pa_nil)) (pa_cons (pv 5) pa_nil)))))))), ?_⟩
    rw [show start N_unpack_tuple [.ref a, .int p, .int c, .int dp] = [some (.ref a), some (.int p), some (.int c), some (.int dp), none, none, none] from rfl]
    walk_at "rs"
    refine rd_wLs (Nat.le_of_ble_eq_true rfl) fun I nI => ?_
    walk_at "rs"
    refine ⟨fun mm σ H' => Same H H' ∧ ∃ (ys : List V) (ds : List PyData) (q : Nat) (x6 : Option V), mm = c - ds.length ∧ σ = [some (.ref a), some (.int p), some (.int c), some (.int dp), some (.ref I), some (.int q), x6] ∧ H' I = some (.lst ys) ∧ VaL H' ys ds ∧ ds.length ≤ c ∧ p + ds.length ≤ q ∧ q ≤ L.length ∧
      preI ds (rdI (unp n) (c - ds.length) (L.drop q) q) = rdI (unp n) c (L.drop p) p, ⟨c, same_new nI, [], [], p, none, rfl, rfl, upd_same, .nil, Nat.zero_le _, Nat.le_refl _, hp, preI_nil _⟩, fun mm σ H1 hW => ?_⟩
    obtain ⟨s1, ys, ds, q, x6, rfl, rfl, eI, vl, hdc, hpq, hqL, hrd⟩ := hW
    have hlen := vl.length
    walk_at "rs"
    refine rd_lenL (SqL.of eI) ?_
    walk_at "rs"
    refine if_dec (fun cl => ?_) (fun cl => ?_)
    · refine whN ?_
      rw [show c - ds.length = (c - (ds.length + 1)) + 1 by omega, rdI_step] at hrd
      walk_at "rs"
      refine ⟨a, q, dp, L, rfl, hdp, Same.seq s1 hS, hB, hL, hqL, fun d rest e hok v t H2 s2 va tk => ?_, fun k hk => (q2 k ?_).same s1, fun k hk => (q3 k ?_).same s1⟩
      · rw [hok] at hrd
        obtain ⟨h1, h2, h3⟩ := unp_rest (hB.drop q) hok
        rw [drop_rest h1] at h3
        rw [List.length_drop] at h2
        subst h3
        refine rd_gTup tk.seq rfl ?_
        walk_at "rs"
        have eI2 := s2 _ _ eI
        refine rd_wTyL (SqL.of eI2) ?_
        walk_at "rs"
        refine rd_appendB eI2 (by omega) ?_
        walk_at "rs"
        have el : (ds ++ [d]).length = ds.length + 1 := by rw [List.length_append]; rfl
        refine ⟨c - (ds.length + 1), by omega, Same.put (s1.trans s2) nI, ys ++ [v], ds ++ [d], e, _, by rw [el], rfl, upd_same, ((vl.same s2).put eI2).snoc (va.put eI2), by omega, by omega, by omega, ?_⟩
        rw [el]
        exact hrd
      · rw [hk] at hrd
        exact hrd.symm
      · rw [hk] at hrd
        exact hrd.symm
    · have e0 : c - ds.length = 0 := by omega
      rw [e0, rdI] at hrd
      walk_at "rs"
      refine rd_tup (SqL.of eI) fun t2 H2 nt2 s2 tk2 => ?_
      walk_at "rs"
      refine rd_wTT (Nat.le_of_ble_eq_true rfl) fun t3 H3 nt3 s3 tk3 => ?_
      have q4 := q1 _ _ _ hrd.symm
      rw [List.append_nil] at q4
      exact q4 _ t3 H3 ((s1.trans s2).trans s3) (.tup (tk2.same s3) ((vl.same s2).same s3)) tk3
def itU : Nat → Option (List Int → Nat → Rd1 PyData)
  | 0 => Option.none
  | n + 1 => some (unp n)
theorem unp_eq (n : Nat) : unp n = unp1 (itU n) := by cases n <;> rfl
theorem itU_none (n : Nat) : (itU n).isNone = true ↔ n = 0 := by cases n <;> simp [itU]
set_option maxHeartbeats 1000000 in
theorem ok_unpack_insideN (T : Tx K mg) (X9 : Er2 P K mg CI CV M) : ∀ n, OkD P w K mg base (L2.CX P w) (2 * n + 4) "unpack_inside" ["data", "at", "depth"] (spUI K CI CV n)
  | 0 => ok_mkX (k := 3) T.d_unpack_inside sc_unpack_inside (fun vs H Q E h => h.1) fun _ _ _ _ _ H vs Q E _ h => h.2.elim
  | n + 1 => by
    have ih := ok_unpack_insideN T X9 n
    obtain ⟨qv, vv, fv, XV⟩ := X9.v
    rw [show 2 * (n + 1) + 4 = (2 * n + 5) + 1 by omega]
    refine ok_mkX T.d_unpack_inside sc_unpack_inside (fun vs H Q E h => ?_) (fun f cdv A outer s H vs Q E hr h => ?_)
    · obtain ⟨a, p, dp, L, rfl, _⟩ := h
      rfl
    · obtain ⟨a, p, dp, L, rfl, hdp, hS, hB, hL, hp, q1, q2, q3⟩ := h
      refine ⟨_, (pss_cons (ps_set (i := 3) sc_unpack_inside.nd rfl (.inl rfl) (pe_callDS (E := WE _) (ok_byte_at T X9) (hr.mono (by omega)) (by rfl) (fun σ => passAt (takes_of rfl rfl rfl rfl) σ) (pa_cons (pv 0) (pa_cons (pv 1) pa_nil))))
      (pss_cons (ps_if (PW.pt (pw_or (pt_cmpR op_gt (pv 3) (pe_kI (by rfl) T.c_TUPLE) (nomark _)) (pw_or1 (PW.pt (pw_and (pt_cmpR op_eq (pv 3) (pe_kI (by rfl) T.c_TUPLE) (nomark _)) (pw_and1 (pt_cmpR op_eq (pv 2) (pe_kI (by rfl) T.c_DEEPEST) (nomark _)))))))) (pss_one (ps_raiseEr rfl XV hr (by omega) (takes_of rfl rfl rfl rfl) (pa_cons (pv 1) pa_nil))) pss_nil)
      (pss_cons (ps_if (pt_cmpR op_eq (pv 3) (pe_kI (by rfl) T.c_NONE) (nomark _)) (pss_one (ps_ret (y_tt (pa_cons pe_non (pa_cons (pe_op op_add (pv 1) pe_int) pa_nil))))) pss_nil)
      (pss_cons (ps_if (pt_cmpR op_in_seq (pv 3) (y_tt (pa_cons (pe_kI (by rfl) T.c_FALSE) (pa_cons (pe_kI (by rfl) T.c_TRUE) pa_nil))) (by rfl)) (pss_one (ps_ret (y_tt (pa_cons (pe_cmpR op_eq (pv 3) (pe_kI (by rfl) T.c_TRUE) (nomark _)) (pa_cons (pe_op op_add (pv 1) pe_int) pa_nil))))) pss_nil)
      (pss_cons (ps_asg (pe_callDS (E := WE _) (ok_unpack_count T X9) (hr.mono (by omega)) (by rfl) (fun σ => passAt (takes_of rfl rfl rfl rfl) σ) (pa_cons (pv 0) (pa_cons (pe_op op_add (pv 1) pe_int) pa_nil))) (pg_tup (by rfl) (pgs_cons (pg_name (i := 4) sc_unpack_inside.nd rfl (Or.inl rfl)) (pgs_cons (pg_name (i := 5) sc_unpack_inside.nd rfl (Or.inl rfl)) pgs_nil))))
      (pss_cons (ps_if (pt_cmpR op_eq (pv 3) (pe_kI (by rfl) T.c_NATURAL) (nomark _)) (pss_one (ps_ret (y_tt (pa_cons (pv 4) (pa_cons (pv 5) pa_nil))))) pss_nil)
      (pss_cons (ps_if (pt_cmpR op_eq (pv 3) (pe_kI (by rfl) T.c_NEGATIVE) (nomark _)) (pss_one (ps_ret (y_tt (pa_cons (pe_op op_sub (pe_un un_neg (pv 4)) pe_int) (pa_cons (pv 5) pa_nil))))) pss_nil)
      (pss_cons (ps_if (pt_cmpR op_eq (pv 3) (pe_kI (by rfl) T.c_STRING) (nomark _)) (pss_one (ps_ret (pe_callDS (E := WE _) (ok_unpack_string T X9) (hr.mono (by omega)) (by rfl) (fun σ => passAt (takes_of rfl rfl rfl rfl) σ) (pa_cons (pv 0) (pa_cons (pv 5) (pa_cons (pv 4) pa_nil)))))) pss_nil)
      (pss_one (ps_ret (pe_callDS (E := WE _) (ok_unpack_tuple T X9 ih) (hr.mono (by omega)) (by rfl) (fun σ => passAt (takes_of rfl rfl rfl rfl) σ) (pa_cons (pv 0) (pa_cons (pv 5) (pa_cons (pv 4) (pa_cons (pe_op op_add (pv 2) pe_int) pa_nil))))))))))))))), ?_⟩
      rw [show start N_unpack_inside [.ref a, .int p, .int dp] = [some (.ref a), some (.int p), some (.int dp), none, none, none] from rfl]
      rw [unp_eq] at q1 q2 q3
      walk_at "rs"
      refine ⟨a, p, L, rfl, hS, hL, fun b hb => ?_, fun h => ?_⟩
      · obtain ⟨bn, rfl, hbn⟩ := by_at hB hb
        have hpl := (List.getElem?_eq_some_iff.mp hb).1
        rw [drop_at hb, unp1_cons] at q1 q2 q3
        refine rd_n3 ?_
        refine seq_to (fun σ H' => H' = H ∧ σ = [some (.ref a), some (.int p), some (.int dp), some (.int bn), none, none] ∧ ¬ (6 < (bn : Int) ∨ ((bn : Int) = 6 ∧ (itU n).isNone = true))) (fun σ H1 pr => ?_) (fun nx' hnx => ?_)
        · obtain ⟨rfl, rfl, ok⟩ := pr
          rw [if_neg ok] at q1 q2 q3
          walk_at "rs"
          refine if_dec (fun c0 => ?_) (fun c0 => ?_)
          · rw [if_pos c0] at q1
            walk_at "rs"
            refine rd_wTT (Nat.le_of_ble_eq_true rfl) fun t H2 nt s2 tk => ?_
            exact q1 _ _ _ rfl _ t H2 s2 .non tk
          · rw [if_neg c0] at q1 q2 q3
            walk_at "rs"
            refine rd_wTT (Nat.le_of_ble_eq_true rfl) fun t H2 nt s2 tk => ?_
            refine rd_inI tk.seq ?_
            walk_at "rs"
            refine if_dec (fun c1 => ?_) (fun c1 => ?_)
            · rw [if_pos (by omega)] at q1
              walk_at "rs"
              refine rd_wTT (Nat.le_of_ble_eq_true rfl) fun t3 H3 nt3 s3 tk3 => ?_
              exact q1 _ _ _ rfl _ t3 H3 (s2.trans s3) (.bl _) tk3
            · rw [if_neg (by omega)] at q1 q2 q3
              have hS2 := Same.seq s2 hS
              walk_at "rs"
              rw [show (p : Int) + 1 = ((p + 1 : Nat) : Int) by omega]
              refine ⟨a, p + 1, L, rfl, hS2, hB, hL, by omega, fun c rest e hc t4 H4 s4 tk4 => ?_, fun k hk => (q2 k ?_).same s2, fun k hk => (q3 k ?_).same s2⟩
              · obtain ⟨r1, r2, r3⟩ := rdC_rest (hB.drop (p + 1)) hc
                rw [drop_rest r1] at r3
                rw [List.length_drop] at r2
                subst r3
                rw [hc] at q1 q2 q3
                dsimp only at q1 q2 q3
                unfold rdB at q1 q2 q3
                have s24 := s2.trans s4
                have hS4 := Same.seq s24 hS
                refine rd_gTup tk4.seq rfl ?_
                walk_at "rs"
                refine if_dec (fun c3 => ?_) (fun c3 => ?_)
                · rw [if_pos c3] at q1
                  walk_at "rs"
                  refine rd_wTT (Nat.le_of_ble_eq_true rfl) fun t5 H5 nt5 s5 tk5 => ?_
                  exact q1 _ _ _ rfl _ t5 H5 (s24.trans s5) (.int _) tk5
                · rw [if_neg c3] at q1 q2 q3
                  walk_at "rs"
                  refine if_dec (fun c4 => ?_) (fun c4 => ?_)
                  · rw [if_pos c4] at q1
                    walk_at "rs"
                    refine rd_wTT (Nat.le_of_ble_eq_true rfl) fun t5 H5 nt5 s5 tk5 => ?_
                    exact q1 _ _ _ rfl _ t5 H5 (s24.trans s5) (.int _) tk5
                  · rw [if_neg c4] at q1 q2 q3
                    walk_at "rs"
                    refine if_dec (fun c5 => ?_) (fun c5 => ?_)
                    · rw [if_pos c5] at q1 q2 q3
                      walk_at "rs"
                      refine ⟨a, e, c, L, rfl, hS4, hL, by omega, fun xs rest' e' h5 t5 H5 s5 tk5 => ?_, fun k hk => (q2 k ?_).same s24, fun k hk => (q3 k ?_).same s24⟩
                      · rw [h5] at q1
                        exact q1 _ _ _ rfl _ t5 H5 (s24.trans s5) (.str _) tk5
                      · rw [hk]
                      · rw [hk]
                    · rw [if_neg c5] at q1 q2 q3
                      have b6 : (bn : Int) = 6 := by omega
                      cases n with
                      | zero => exact absurd (.inr ⟨b6, rfl⟩) ok
                      | succ m =>
                        walk_at "rs"
                        refine ⟨m, a, e, c, dp + 1, L, rfl, rfl, by omega, hS4, hB, hL, by omega, fun ds rest' e' h5 v t5 H5 s5 va tk5 => ?_, fun k hk => (q2 k ?_).same s24, fun k hk => (q3 k ?_).same s24⟩
                        · unfold itU at q1
                          dsimp only at q1
                          rw [h5] at q1
                          exact q1 _ _ _ rfl v t5 H5 (s24.trans s5) va tk5
                        · unfold itU
                          dsimp only
                          rw [hk]
                        · unfold itU
                          dsimp only
                          rw [hk]
              · rw [hk]
              · rw [hk]
        · have bad : (6 < (bn : Int) ∨ ((bn : Int) = 6 ∧ (itU n).isNone = true)) → tRaiseEr CV (fun cls d _ H => E cls d H) (tCons (tVar 1) tNil) ⟨nx', Q, fun _ _ => False, fun _ _ => False⟩ [some (.ref a), some (.int p), some (.int dp), some (.int bn), none, none] H := fun c => by
            rw [if_pos c] at q3
            refine rd_raiseEr ?_
            walk_at "rs"
            exact rd_wMkEr (by omega) (q3 p rfl)
          have good : ¬ (6 < (bn : Int) ∨ ((bn : Int) = 6 ∧ (itU n).isNone = true)) → nx' [some (.ref a), some (.int p), some (.int dp), some (.int bn), none, none] H := fun c => hnx _ _ ⟨rfl, rfl, c⟩
          walk_at "rs"
          refine if_dec (fun c => ?_) (fun c => ?_)
          · exact bad (.inl (by omega))
          · walk_at "rs"
            refine if_dec (fun c2 => ?_) (fun c2 => ?_)
            · walk_at "rs"
              refine if_dec (fun c3 => ?_) (fun c3 => ?_)
              · exact bad (.inr ⟨c2, (itU_none n).mpr (by omega)⟩)
              · walk_at "rs"
                refine good fun z => ?_
                rcases z with z | z
                · omega
                · have := (itU_none n).mp z.2
                  omega
            · walk_at "rs"
              exact good fun z => by
                rcases z with z | z
                · omega
                · exact c2 z.1
      · have e : p = L.length := by omega
        have d0 : L.drop p = [] := by rw [e, List.drop_length]
        rw [d0] at q2
        rw [← e]
        exact q2 p rfl
def spU (K : PySem.W.Frag) (CI CV : Addr) : Sp := fun vs H Q E => ∃ (a : Addr) (p : Nat) (L : List Int), vs = [.ref a, .int p] ∧ SqL K H a (L.map V.int) ∧ By L ∧ L.length ≤ 1000000 ∧ p ≤ L.length ∧
    Ans (unp 20 (L.drop p) p) CI CV H E (fun d e => ∀ v t H', Same H H' → Va H' v d → Tk H' t [v, .int e] → Q (.ref t) H')
theorem ok_unpack_inside (T : Tx K mg) (X9 : Er2 P K mg CI CV M) : OkD P w K mg base (L2.CX P w) 46 "unpack_inside" ["data", "at", "depth"] (spUI K CI CV 21) := ok_unpack_insideN T X9 21
theorem ok_unpack (T : Tx K mg) (X9 : Er2 P K mg CI CV M) : OkDD P w K mg base (L2.CX P w) 47 "unpack" ["data", "at"] [.int 0] (spU K CI CV) := by
  obtain ⟨f, fd, m, F⟩ := T.d_unpack
  obtain ⟨d0, v0, b0⟩ := F.binds1 (ps := ["data", "at"]) 2 1 (by simp) rfl fun T kV doc pm an cdv ct us its hu hi => match us, hu, its, hi with
    | [_, _], _, [_], _ => ⟨_, rfl, rfl⟩
  obtain ⟨d1, v1, b1⟩ := F.binds1 (ps := ["data", "at"]) 1 0 (by simp) rfl fun T kV doc pm an cdv ct us its hu hi => match us, hu, its, hi with
    | [_], _, [_], _ => ⟨_, rfl, rfl⟩
  cases v0
  refine ⟨f, fd, d1, m, F.kp, b0, v1, b1, F.ok sc_unpack (fun vs H Q E h => ?_) fun cdv A outer s H vs Q E hr h => ?_⟩
  · obtain ⟨a, p, L, rfl, _⟩ := h
    rfl
  · obtain ⟨a, p, L, rfl, hS, hB, hL, hp, q⟩ := h
    refine ⟨_, (pss_one (ps_ret (pe_callDS (E := WE _) (ok_unpack_inside T X9) hr (by rfl) (fun σ => passAt (takes_of rfl rfl rfl rfl) σ) (pa_cons (pv 0) (pa_cons (pv 1) (pa_cons pe_int pa_nil)))))), ?_⟩
    rw [show start N_unpack [.ref a, .int p] = [some (.ref a), some (.int p)] from rfl]
    show _
    walk_at "rs"
    exact ⟨a, p, 0, L, rfl, rfl, hS, hB, hL, hp, q⟩
end


section
variable {P : Program} {w : World} {K : PySem.W.Frag} {mg : Str → Option Value} {base : Heap}
def spReadCount (K : PySem.W.Frag) : Sp := fun vs H Q _ => ∃ (a : Addr) (data : List Int) (at' : Nat), vs = [.ref a, .int at'] ∧ H a = some (.lst (data.map V.int)) ∧ By data ∧ at' ≤ data.length ∧ data.length ≤ 3000 ∧
  (match rdC (data.drop at') at' true 0 1 with
    | .ok c _ e => ∀ p H', Same H H' → Tk H' p [.str (Str.ofString "count"), .int c, .int e] → Q (.ref p) H'
    | .inc k => ∀ p H', Same H H' → Tk H' p [.str (Str.ofString "incomplete"), .int k] → Q (.ref p) H'
    | .inv k => ∀ p H', Same H H' → Tk H' p [.str (Str.ofString "invalid"), .int k] → Q (.ref p) H')
theorem ok_Lread_count (T : Tx K mg) : OkD P w K mg base CX0 1 "_law_read_count" ["data", "at"] (spReadCount K) := by
  refine ok_mk T.d_Lread_count sc_Lread_count (fun vs H Q E h => ?_) (fun f cdv A outer s H vs Q E hr h => ?_)
  · obtain ⟨a, data, at', rfl, _⟩ := h
    rfl
  · obtain ⟨a, data, at', rfl, ea, hb, ha, hl, q⟩ := h
    refine ⟨_, (pss_cons (ps_set (i := 2) sc_Lread_count.nd rfl (.inl rfl) pe_int)
      (pss_cons (ps_set (i := 3) sc_Lread_count.nd rfl (.inl rfl) pe_int)
      (pss_cons (ps_for PassesOwn.never rfl (pi_range2 (by rfl) T.z_range (pa_cons (pv 1) (pa_cons (pe_callB y_lenQ (by rfl) T.z_len (by decide +kernel) (pa_cons (pv 0) pa_nil)) pa_nil))) (pg_name (i := 4) sc_Lread_count.nd rfl (Or.inl rfl)) (pss_cons (ps_set (i := 2) sc_Lread_count.nd rfl (.inl rfl) (pe_op op_add (pv 2) (pe_op op_mul (pv 3) (pe_op op_and (pe_ix ix_list (pv 0) (pv 4) (fun _ _ => rfl)) pe_int))))
      (pss_cons (ps_set (i := 3) sc_Lread_count.nd rfl (.inl rfl) (pe_op op_mul (pv 3) pe_int))
      (pss_one (ps_if (pt_cmpR op_lt (pe_ix ix_list (pv 0) (pv 4) (fun _ _ => rfl)) pe_int (nomark _)) (pss_cons (ps_if (PW.pt (pw_and (pt_cmpR op_eq (pe_ix ix_list (pv 0) (pv 4) (fun _ _ => rfl)) pe_int (nomark _)) (pw_and1 (pt_cmpR op_gt (pv 4) (pv 1) (nomark _))))) (pss_one (ps_ret (y_tt (pa_cons pe_str (pa_cons (pv 4) pa_nil))))) pss_nil)
      (pss_one (ps_ret (y_tt (pa_cons pe_str (pa_cons (pv 2) (pa_cons (pe_op op_add (pv 4) pe_int) pa_nil))))))) pss_nil)))))
      (pss_one (ps_ret (y_tt (pa_cons pe_str (pa_cons (pe_callB y_lenQ (by rfl) T.z_len (by decide +kernel) (pa_cons (pv 0) pa_nil)) pa_nil)))))))), ?_⟩
    rw [show start N_Lread_count [.ref a, .int at'] = [some (.ref a), some (.int at'), none, none, none] from rfl]
    walk_at "rs"
    refine rd_forR2 ?_
    walk_at "rs"
    refine rd_lenL (SqL.of ea) ?_
    walk_at "rs"
    have hlm : (data.map V.int).length = data.length := List.length_map _
    refine rd_wRg2 (by omega) (by omega) (by omega) (by omega) ?_
    refine forR2 (fun i σ H' => Same H H' ∧ ∃ (c w : Nat) (kk : Option V), σ = [some (.ref a), some (.int at'), some (.int c), some (.int w), kk] ∧
      rdC (data.drop at') at' true 0 1 = rdC (data.drop (at' + i)) (at' + i) (decide (i = 0)) c w) ?_ (fun i σ H2 hi hP => ?_) (fun σ H2 hP => ?_)
    · exact ⟨Same.refl H, 0, 1, none, rfl, rfl⟩
    · obtain ⟨sm, c, w, kk, rfl, er⟩ := hP
      have hk : at' + i < data.length := by omega
      have ek : atI (data.map V.int) ((at' : Int) + (i : Nat)) = some (.int data[at' + i]) := by
        rw [show (at' : Int) + (i : Nat) = ((at' + i : Nat) : Int) by omega]
        refine atI_nat ?_
        rw [List.getElem?_map, List.getElem?_eq_getElem hk]
        rfl
      have hb' := hb _ (List.getElem_mem hk)
      have hx : data.drop (at' + i) = data[at' + i] :: data.drop (at' + i + 1) := List.drop_eq_getElem_cons hk
      obtain ⟨n, en⟩ : ∃ n : Nat, data[at' + i] = (n : Int) := ⟨data[at' + i].toNat, by omega⟩
      rw [en] at ek hx hb'
      have hn : n < 256 := by omega
      have e7 := and127 (n := n)
      rw [hx] at er
      walk_at "rs"
      refine rd_ixL (SqL.of (sm _ _ ea)) ek ?_
      walk_at "rs"
      · rw [e7]
        refine rd_ixL (SqL.of (sm _ _ ea)) ek ?_
        walk_at "rs"
        refine if_dec (fun c1 => ?_) (fun c1 => ?_)
        · walk_at "rs"
          refine rd_ixL (SqL.of (sm _ _ ea)) ek ?_
          walk_at "rs"
          have dn : ¬ ((n : Int) = 0 ∧ decide (i = 0) = false) → wTT [V.str (Str.ofString "count"), V.int ((c : Int) + w * (n % 128 : Nat)), V.int ((at' : Int) + i + 1)] H2 Q := fun h => by
            refine rd_wTT (Nat.le_of_ble_eq_true rfl) fun p H' np s2 tk => ?_
            rw [er, rdC, if_pos c1, if_neg h] at q
            have q' : ∀ p H', Same H H' → Tk H' p [.str (Str.ofString "count"), .int ((c + w * n : Nat) : Int), .int ((at' + i + 1 : Nat) : Int)] → Q (.ref p) H' := q
            rw [show n % 128 = n by omega] at tk
            exact q' p H' (sm.trans s2) tk
          refine if_dec (fun c2 => ?_) (fun c2 => ?_)
          · walk_at "rs"
            refine if_dec (fun c3 => ?_) (fun c3 => ?_)
            · walk_at "rs"
              refine rd_wTT (Nat.le_of_ble_eq_true rfl) fun p H' np s2 tk => ?_
              rw [er, rdC, if_pos c1, if_pos ⟨c2, decide_eq_false (by omega)⟩] at q
              have q' : ∀ p H', Same H H' → Tk H' p [.str (Str.ofString "invalid"), .int ((at' + i : Nat) : Int)] → Q (.ref p) H' := q
              exact q' p H' (sm.trans s2) tk
            · walk_at "rs"
              refine dn ?_
              rintro ⟨_, h⟩
              have := of_decide_eq_false h
              omega
          · walk_at "rs"
            exact dn fun h => c2 h.1
        · walk_at "rs"
          refine ⟨sm, c + w * (n % 128), w * 128, some (.int (at' + i)), ?_, ?_⟩
          · rfl
          · rw [er, rdC, if_neg c1]
            rfl
      · rw [e7]
        exact .inr ⟨by omega, by omega⟩
    · obtain ⟨sm, c, w, kk, rfl, er⟩ := hP
      walk_at "rs"
      refine rd_lenL (SqL.of (sm _ _ ea)) ?_
      walk_at "rs"
      refine rd_wTT (Nat.le_of_ble_eq_true rfl) fun p H' np s2 tk => ?_
      have ez : at' + ((↑(data.map V.int).length : Int) - (at' : Int)).toNat = data.length := by omega
      rw [ez, List.drop_length] at er
      rw [er] at q
      have q' : ∀ p H', Same H H' → Tk H' p [.str (Str.ofString "incomplete"), .int data.length] → Q (.ref p) H' := q
      rw [← hlm] at q'
      exact q' p _ (sm.trans s2) tk
end

section
variable {P : Program} {w : World} {K : PySem.W.Frag} {mg : Str → Option Value} {base : Heap}
/-- an answer without what was read -/
def erd {α : Type} : Rd1 α → Rd1 Unit
  | .ok _ _ e => .ok () [] e
  | .inc k => .inc k
  | .inv k => .inv k
def spReadString (K : PySem.W.Frag) : Sp := fun vs H Q _ => ∃ (a : Addr) (data : List Int) (at' : Nat), vs = [.ref a, .int at'] ∧ H a = some (.lst (data.map V.int)) ∧ By data ∧ at' ≤ data.length ∧ data.length ≤ 3000 ∧
  (match (match rdC (data.drop at') at' true 0 1 with | .ok c r e => erd (rdS c r e) | .inc k => .inc k | .inv k => .inv k) with
    | .ok _ _ e => ∀ p H', Same H H' → Tk H' p [.str (Str.ofString "end"), .int e] → Q (.ref p) H'
    | .inc k => ∀ p H', Same H H' → Tk H' p [.str (Str.ofString "incomplete"), .int k] → Q (.ref p) H'
    | .inv k => ∀ p H', Same H H' → Tk H' p [.str (Str.ofString "invalid"), .int k] → Q (.ref p) H')
theorem ok_Lread_string (T : Tx K mg) : OkD P w K mg base CX0 2 "_law_read_string" ["data", "at"] (spReadString K) := by
  refine ok_mk T.d_Lread_string sc_Lread_string (fun vs H Q E h => ?_) (fun f cdv A outer s H vs Q E hr h => ?_)
  · obtain ⟨a, data, at', rfl, _⟩ := h
    rfl
  · obtain ⟨a, data, at', rfl, ea, hb, ha, hl, q⟩ := h
    refine ⟨_, (pss_cons (ps_set (i := 2) sc_Lread_string.nd rfl (.inl rfl) (pe_callD (ok_Lread_count T) hr (by rfl) pass0 (pa_cons (pv 0) (pa_cons (pv 1) pa_nil))))
      (pss_cons (ps_if (pt_cmpR op_ne (pe_ix ix_tup (pv 2) pe_int (fun _ _ => rfl)) pe_str (nomark _)) (pss_one (ps_ret (pv 2))) pss_nil)
      (pss_cons (ps_for PassesOwn.never rfl (pi_range2 (by rfl) T.z_range (pa_cons (pe_ix ix_tup (pv 2) pe_int (fun _ _ => rfl)) (pa_cons (pe_callB (y_min2 rfl) (by rfl) T.z_min (by decide +kernel) (pa_cons (pe_op op_add (pe_ix ix_tup (pv 2) pe_int (fun _ _ => rfl)) (pe_ix ix_tup (pv 2) pe_int (fun _ _ => rfl))) (pa_cons (pe_callB y_lenQ (by rfl) T.z_len (by decide +kernel) (pa_cons (pv 0) pa_nil)) pa_nil))) pa_nil))) (pg_name (i := 3) sc_Lread_string.nd rfl (Or.inl rfl)) (pss_one (ps_if (PW.pt (pw_or (pt_cmpR op_lt (pe_ix ix_list (pv 0) (pv 3) (fun _ _ => rfl)) pe_int (nomark _)) (pw_or (pt_cmpR op_gt (pe_ix ix_list (pv 0) (pv 3) (fun _ _ => rfl)) pe_int (nomark _)) (pw_or1 (pt_cmpR op_eq (pe_ix ix_list (pv 0) (pv 3) (fun _ _ => rfl)) pe_int (nomark _)))))) (pss_one (ps_ret (y_tt (pa_cons pe_str (pa_cons (pv 3) pa_nil))))) pss_nil)))
      (pss_cons (ps_if (pt_cmpR op_gt (pe_op op_add (pe_ix ix_tup (pv 2) pe_int (fun _ _ => rfl)) (pe_ix ix_tup (pv 2) pe_int (fun _ _ => rfl))) (pe_callB y_lenQ (by rfl) T.z_len (by decide +kernel) (pa_cons (pv 0) pa_nil)) (nomark _)) (pss_one (ps_ret (y_tt (pa_cons pe_str (pa_cons (pe_callB y_lenQ (by rfl) T.z_len (by decide +kernel) (pa_cons (pv 0) pa_nil)) pa_nil))))) pss_nil)
      (pss_one (ps_ret (y_tt (pa_cons pe_str (pa_cons (pe_op op_add (pe_ix ix_tup (pv 2) pe_int (fun _ _ => rfl)) (pe_ix ix_tup (pv 2) pe_int (fun _ _ => rfl))) pa_nil))))))))), ?_⟩
    rw [show start N_Lread_string [.ref a, .int at'] = [some (.ref a), some (.int at'), none, none] from rfl]
    walk_at "rs"
    refine ⟨a, data, at', rfl, ea, hb, ha, hl, ?_⟩
    have hlm : (data.map V.int).length = data.length := List.length_map _
    cases er : rdC (data.drop at') at' true 0 1 with
    | inc k =>
      rw [er] at q
      intro p H' sm tk
      walk_at "rs"
      refine rd_ixT tk.seq (v := .str (Str.ofString "incomplete")) rfl ?_
      walk_at "rs"
      refine if_ndec (fun _ => ?_) (fun c => absurd c (by decide +kernel))
      walk_at "rs"
      exact q p H' sm tk
    | inv k =>
      rw [er] at q
      intro p H' sm tk
      walk_at "rs"
      refine rd_ixT tk.seq (v := .str (Str.ofString "invalid")) rfl ?_
      walk_at "rs"
      refine if_ndec (fun _ => ?_) (fun c => absurd c (by decide +kernel))
      walk_at "rs"
      exact q p H' sm tk
    | ok c r e =>
      rw [er] at q
      obtain ⟨g1, g2, g3⟩ := rdC_rest (hb.drop _) er
      rw [List.length_drop] at g2
      rw [List.drop_drop, show at' + (e - at') = e by omega] at g3
      intro p H' sm tk
      walk_at "rs"
      refine rd_ixT tk.seq (v := .str (Str.ofString "count")) rfl ?_
      walk_at "rs"
      refine if_ndec (fun c => absurd rfl c) (fun _ => ?_)
      walk_at "rs"
      refine rd_forR2 ?_
      walk_at "rs"
      refine rd_ixT tk.seq (v := .int e) rfl ?_
      walk_at "rs"
      refine rd_ixT tk.seq (v := .int e) rfl ?_
      walk_at "rs"
      refine rd_ixT tk.seq (v := .int c) rfl ?_
      walk_at "rs"
      refine rd_lenL (SqL.of (sm _ _ ea)) ?_
      walk_at "rs"
      have hM : (if ((data.map V.int).length : Int) < (e : Int) + c then ((data.map V.int).length : Int) else (e : Int) + c) = ((min (e + c) data.length : Nat) : Int) := by
        rw [hlm]
        split <;> omega
      walk_at "rs"
      rw [hM]
      refine rd_wRg2 (by omega) (by omega) (by omega) (by omega) ?_
      have hN : (((min (e + c) data.length : Nat) : Int) - (e : Int)).toNat = min c (data.length - e) := by omega
      rw [hN]
      refine forR2 (fun i σ H2 => Same H H2 ∧ Tk H2 p [.str (Str.ofString "count"), .int c, .int e] ∧ (∃ kk : Option V, σ = [some (.ref a), some (.int at'), some (.ref p), kk]) ∧
        erd (rdS c r e) = erd (rdS (c - i) (data.drop (e + i)) (e + i))) ?_ (fun i σ H2 hi hP => ?_) (fun σ H2 hP => ?_)
      · exact ⟨sm, tk, ⟨none, rfl⟩, by rw [g3]; rfl⟩
      · obtain ⟨sm2, tk2, ⟨kk, rfl⟩, ee⟩ := hP
        have hk : e + i < data.length := by omega
        have ek : atI (data.map V.int) ((e : Int) + (i : Nat)) = some (.int data[e + i]) := by
          rw [show (e : Int) + (i : Nat) = ((e + i : Nat) : Int) by omega]
          refine atI_nat ?_
          rw [List.getElem?_map, List.getElem?_eq_getElem hk]
          rfl
        have hx : data.drop (e + i) = data[e + i] :: data.drop (e + i + 1) := List.drop_eq_getElem_cons hk
        generalize data[e + i] = b at ek hx
        rw [hx, show c - i = (c - (i + 1)) + 1 by omega, rdS] at ee
        have bad : ¬ (32 ≤ b ∧ b ≤ 126 ∧ b ≠ 37) → wTT [V.str (Str.ofString "invalid"), V.int ((e : Int) + i)] H2 Q := fun h => by
          refine rd_wTT (Nat.le_of_ble_eq_true rfl) fun p2 H3 np s2 tk3 => ?_
          rw [if_neg h] at ee
          simp only [ee] at q
          have q' : ∀ p H', Same H H' → Tk H' p [.str (Str.ofString "invalid"), .int ((e + i : Nat) : Int)] → Q (.ref p) H' := q
          exact q' p2 H3 (sm2.trans s2) tk3
        walk_at "rs"
        refine rd_ixL (SqL.of (sm2 _ _ ea)) ek ?_
        walk_at "rs"
        refine if_dec (fun c1 => ?_) (fun c1 => ?_)
        · walk_at "rs"
          exact bad fun h => by omega
        walk_at "rs"
        refine rd_ixL (SqL.of (sm2 _ _ ea)) ek ?_
        walk_at "rs"
        refine if_dec (fun c2 => ?_) (fun c2 => ?_)
        · walk_at "rs"
          exact bad fun h => by omega
        walk_at "rs"
        refine rd_ixL (SqL.of (sm2 _ _ ea)) ek ?_
        walk_at "rs"
        refine if_dec (fun c3 => ?_) (fun c3 => ?_)
        · walk_at "rs"
          exact bad fun h => by omega
        walk_at "rs"
        refine ⟨sm2, tk2, ⟨_, rfl⟩, ?_⟩
        rw [if_pos ⟨by omega, by omega, c3⟩] at ee
        rw [ee]
        cases rdS (c - (i + 1)) (data.drop (e + i + 1)) (e + i + 1) <;> rfl
      · obtain ⟨sm2, tk2, ⟨kk, rfl⟩, ee⟩ := hP
        walk_at "rs"
        refine rd_ixT tk2.seq (v := .int e) rfl ?_
        walk_at "rs"
        refine rd_ixT tk2.seq (v := .int c) rfl ?_
        walk_at "rs"
        refine rd_lenL (SqL.of (sm2 _ _ ea)) ?_
        walk_at "rs"
        refine if_dec (fun c1 => ?_) (fun c1 => ?_)
        · walk_at "rs"
          refine rd_lenL (SqL.of (sm2 _ _ ea)) ?_
          walk_at "rs"
          refine rd_wTT (Nat.le_of_ble_eq_true rfl) fun p2 H3 np s2 tk3 => ?_
          have ez : e + min c (data.length - e) = data.length := by omega
          have en : c - min c (data.length - e) = (c - min c (data.length - e) - 1) + 1 := by omega
          rw [ez, List.drop_length, en, rdS] at ee
          simp only [ee] at q
          have q' : ∀ p H', Same H H' → Tk H' p [.str (Str.ofString "incomplete"), .int data.length] → Q (.ref p) H' := q
          rw [hlm] at tk3
          exact q' p2 H3 (sm2.trans s2) tk3
        · walk_at "rs"
          refine rd_ixT tk2.seq (v := .int e) rfl ?_
          walk_at "rs"
          refine rd_ixT tk2.seq (v := .int c) rfl ?_
          walk_at "rs"
          refine rd_wTT (Nat.le_of_ble_eq_true rfl) fun p2 H3 np s2 tk3 => ?_
          have ez : min c (data.length - e) = c := by omega
          rw [ez, Nat.sub_self, rdS] at ee
          simp only [ee] at q
          have q' : ∀ p H', Same H H' → Tk H' p [.str (Str.ofString "end"), .int ((e + c : Nat) : Int)] → Q (.ref p) H' := q
          exact q' p2 H3 (sm2.trans s2) tk3
end

section
variable {P : Program} {w : World} {K : PySem.W.Frag} {mg : Str → Option Value} {base : Heap}
def spRead (K : PySem.W.Frag) (n : Nat) : Sp := fun vs H Q _ => ∃ (a : Addr) (data : List Int) (at' dp : Nat), vs = [.ref a, .int at', .int dp] ∧ H a = some (.lst (data.map V.int)) ∧ By data ∧ at' ≤ data.length ∧ data.length ≤ 3000 ∧ dp ≤ 20 ∧ 20 - dp < n ∧
  (match erd (unp (20 - dp) (data.drop at') at') with
    | .ok _ _ e => ∀ p H', Same H H' → Tk H' p [.str (Str.ofString "end"), .int e] → Q (.ref p) H'
    | .inc k => ∀ p H', Same H H' → Tk H' p [.str (Str.ofString "incomplete"), .int k] → Q (.ref p) H'
    | .inv k => ∀ p H', Same H H' → Tk H' p [.str (Str.ofString "invalid"), .int k] → Q (.ref p) H')
set_option maxHeartbeats 1000000 in
theorem ok_LreadN (T : Tx K mg) : ∀ n, OkD P w K mg base CX0 (n + 3) "_law_read" ["data", "at", "depth"] (spRead K n)
  | 0 => (ok_no T.d_Lread sc_Lread fun vs H Q E h => by
      obtain ⟨_, _, _, _, _, _, _, _, _, _, a, _⟩ := h
      exact absurd a (Nat.not_lt_zero _))
  | n + 1 => by
    have ih := ok_LreadN T n
    rw [show n + 1 + 3 = (n + 3) + 1 by omega]
    refine ok_mk T.d_Lread sc_Lread (fun vs H Q E h => ?_) (fun f cdv A outer s H vs Q E hr h => ?_)
    · obtain ⟨a, data, at', dp, rfl, _⟩ := h
      rfl
    · obtain ⟨a, data, at', dp, rfl, ea, hb, ha, hl, hd0, hd1, q⟩ := h
      have hlm : (data.map V.int).length = data.length := List.length_map _
      refine ⟨_, (pss_cons (ps_if (pt_cmpR op_ge (pv 1) (pe_callB y_lenQ (by rfl) T.z_len (by decide +kernel) (pa_cons (pv 0) pa_nil)) (nomark _)) (pss_one (ps_ret (y_tt (pa_cons pe_str (pa_cons (pe_callB y_lenQ (by rfl) T.z_len (by decide +kernel) (pa_cons (pv 0) pa_nil)) pa_nil))))) pss_nil)
      (pss_cons (ps_if (PW.pt (pw_or (pt_cmpR op_gt (pe_ix ix_list (pv 0) (pv 1) (fun _ _ => rfl)) pe_int (nomark _)) (pw_or1 (PW.pt (pw_and (pt_cmpR op_eq (pe_ix ix_list (pv 0) (pv 1) (fun _ _ => rfl)) pe_int (nomark _)) (pw_and1 (pt_cmpR op_eq (pv 2) pe_int (nomark _)))))))) (pss_one (ps_ret (y_tt (pa_cons pe_str (pa_cons (pv 1) pa_nil))))) pss_nil)
      (pss_cons (ps_if (pt_cmpR op_le (pe_ix ix_list (pv 0) (pv 1) (fun _ _ => rfl)) pe_int (nomark _)) (pss_one (ps_ret (y_tt (pa_cons pe_str (pa_cons (pe_op op_add (pv 1) pe_int) pa_nil))))) pss_nil)
      (pss_cons (ps_if (pt_cmpR op_eq (pe_ix ix_list (pv 0) (pv 1) (fun _ _ => rfl)) pe_int (nomark _)) (pss_one (ps_ret (pe_callD (ok_Lread_string T) (hr.mono (by omega)) (by rfl) pass0 (pa_cons (pv 0) (pa_cons (pe_op op_add (pv 1) pe_int) pa_nil))))) pss_nil)
      (pss_cons (ps_set (i := 3) sc_Lread.nd rfl (.inl rfl) (pe_callD (ok_Lread_count T) (hr.mono (by omega)) (by rfl) pass0 (pa_cons (pv 0) (pa_cons (pe_op op_add (pv 1) pe_int) pa_nil))))
      (pss_cons (ps_if (pt_cmpR op_ne (pe_ix ix_tup (pv 3) pe_int (fun _ _ => rfl)) pe_str (nomark _)) (pss_one (ps_ret (pv 3))) pss_nil)
      (pss_cons (ps_if (pt_cmpR op_lt (pe_ix ix_list (pv 0) (pv 1) (fun _ _ => rfl)) pe_int (nomark _)) (pss_one (ps_ret (y_tt (pa_cons pe_str (pa_cons (pe_ix ix_tup (pv 3) pe_int (fun _ _ => rfl)) pa_nil))))) pss_nil)
      (pss_cons (ps_set (i := 4) sc_Lread.nd rfl (.inl rfl) (pe_ix ix_tup (pv 3) pe_int (fun _ _ => rfl)))
      (pss_cons (ps_for PassesOwn.never rfl (pi_range1 (by rfl) T.z_range (pa_cons (pe_callB (y_min2 rfl) (by rfl) T.z_min (by decide +kernel) (pa_cons (pe_ix ix_tup (pv 3) pe_int (fun _ _ => rfl)) (pa_cons (pe_op op_add (pe_callB y_lenQ (by rfl) T.z_len (by decide +kernel) (pa_cons (pv 0) pa_nil)) pe_int) pa_nil))) pa_nil)) (pg_name (i := 5) sc_Lread.nd rfl (Or.inl rfl)) (pss_cons (ps_set (i := 6) sc_Lread.nd rfl (.inl rfl) (pe_callD ih (hr.mono (by omega)) (by rfl) pass0 (pa_cons (pv 0) (pa_cons (pv 4) (pa_cons (pe_op op_add (pv 2) pe_int) pa_nil)))))
      (pss_cons (ps_if (pt_cmpR op_ne (pe_ix ix_tup (pv 6) pe_int (fun _ _ => rfl)) pe_str (nomark _)) (pss_one (ps_ret (pv 6))) pss_nil)
      (pss_one (ps_set (i := 4) sc_Lread.nd rfl (.inl rfl) (pe_ix ix_tup (pv 6) pe_int (fun _ _ => rfl)))))))
      (pss_one (ps_ret (y_tt (pa_cons pe_str (pa_cons (pv 4) pa_nil)))))))))))))), ?_⟩
      rw [show start N_Lread [.ref a, .int at', .int dp] = [some (.ref a), some (.int at'), some (.int dp), none, none, none, none] from rfl]
      walk_at "rs"
      refine rd_lenL (SqL.of ea) ?_
      walk_at "rs"
      refine if_dec (fun c0 => ?_) (fun c0 => ?_)
      · walk_at "rs"
        refine rd_lenL (SqL.of ea) ?_
        walk_at "rs"
        refine rd_wTT (Nat.le_of_ble_eq_true rfl) fun p2 H3 np s2 tk3 => ?_
        have ez : at' = data.length := by omega
        subst ez
        rw [List.drop_length, unp_nil] at q
        rw [hlm] at tk3
        exact q p2 H3 s2 tk3
      have hk : at' < data.length := by omega
      have ek : atI (data.map V.int) (at' : Int) = some (.int data[at']) := by
        refine atI_nat ?_
        rw [List.getElem?_map, List.getElem?_eq_getElem hk]
        rfl
      have hx : data.drop at' = data[at'] :: data.drop (at' + 1) := List.drop_eq_getElem_cons hk
      have hb0 := hb _ (List.getElem_mem hk)
      generalize data[at'] = b at ek hx hb0
      obtain ⟨it, eit, hit⟩ := unp_step (20 - dp)
      rw [hx, eit, unp1_cons] at q
      have bad : 6 < b ∨ (b = 6 ∧ it.isNone = true) → wTT [V.str (Str.ofString "invalid"), V.int (at' : Int)] H Q := fun h => by
        refine rd_wTT (Nat.le_of_ble_eq_true rfl) fun p2 H3 np s2 tk3 => ?_
        rw [if_pos h] at q
        exact q p2 H3 s2 tk3
      walk_at "rs"
      refine rd_ixL (SqL.of ea) ek ?_
      walk_at "rs"
      refine if_dec (fun c1 => ?_) (fun c1 => ?_)
      · walk_at "rs"
        exact bad (.inl c1)
      walk_at "rs"
      refine rd_ixL (SqL.of ea) ek ?_
      walk_at "rs"
      by_cases c6 : b = 6 ∧ dp = 20
      · refine if_dec (fun _ => ?_) (fun c => absurd c6.1 c)
        walk_at "rs"
        refine if_dec (fun _ => ?_) (fun c => absurd (by rw [c6.2]; rfl) c)
        walk_at "rs"
        refine bad (.inr ⟨c6.1, ?_⟩)
        have z : 20 - dp = 0 := by omega
        rw [z] at eit
        cases it with
        | none => rfl
        | some f =>
          have z1 := congrFun (congrFun eit [6]) 0
          cases z1
      have no : ¬ (6 < b ∨ (b = 6 ∧ it.isNone = true)) := by
        rintro (h | ⟨h, hn⟩)
        · exact c1 h
        · rw [hit (20 - dp - 1) (by omega)] at hn
          cases hn
      rw [if_neg no] at q
      by_cases c2 : b = 6
      refine if_dec (fun _ => ?_) (fun c => absurd c2 c)
      walk_at "rs"
      refine if_dec (fun c => absurd ⟨c2, by omega⟩ c6) (fun _ => ?_)
      rotate_left
      refine if_dec (fun c => absurd c c2) (fun _ => ?_)
      all_goals walk_at "rs"
      all_goals refine rd_ixL (SqL.of ea) ek ?_
      all_goals walk_at "rs"
      all_goals (
        refine if_dec (fun c3 => ?_) (fun c3 => ?_)
        · walk_at "rs"
          refine rd_wTT (Nat.le_of_ble_eq_true rfl) fun p2 H3 np s2 tk3 => ?_
          have q' : ∀ p H', Same H H' → Tk H' p [.str (Str.ofString "end"), .int ((at' + 1 : Nat) : Int)] → Q (.ref p) H' := by
            by_cases c4 : b = 0
            · rw [if_pos c4] at q
              exact q
            · rw [if_neg c4, if_pos c3] at q
              exact q
          exact q' p2 H3 s2 tk3
        rw [if_neg (show ¬ b = 0 by omega), if_neg c3] at q
        walk_at "rs"
        refine rd_ixL (SqL.of ea) ek ?_
        walk_at "rs"
        refine if_dec (fun c5 => ?_) (fun c5 => ?_)
        · walk_at "rs"
          refine ⟨a, data, at' + 1, rfl, ea, hb, by omega, hl, ?_⟩
          cases er : rdC (data.drop (at' + 1)) (at' + 1) true 0 1 with
          | inc k =>
            simp only [er] at q
            exact q
          | inv k =>
            simp only [er] at q
            exact q
          | ok c r e =>
            simp only [er] at q
            unfold rdB at q
            rw [if_neg (by omega), if_neg (by omega), if_pos c5] at q
            cases er2 : rdS c r e <;> simp only [er2] at q ⊢ <;> exact q
        walk_at "rs"
        refine ⟨a, data, at' + 1, rfl, ea, hb, by omega, hl, ?_⟩
        cases er : rdC (data.drop (at' + 1)) (at' + 1) true 0 1 with
        | inc k =>
          simp only [er] at q
          intro p H' sm tk
          walk_at "rs"
          refine rd_ixT tk.seq (v := .str (Str.ofString "incomplete")) rfl ?_
          walk_at "rs"
          refine if_ndec (fun _ => ?_) (fun c => absurd c (by decide +kernel))
          walk_at "rs"
          exact q p H' sm tk
        | inv k =>
          simp only [er] at q
          intro p H' sm tk
          walk_at "rs"
          refine rd_ixT tk.seq (v := .str (Str.ofString "invalid")) rfl ?_
          walk_at "rs"
          refine if_ndec (fun _ => ?_) (fun c => absurd c (by decide +kernel))
          walk_at "rs"
          exact q p H' sm tk
        | ok c r e =>
          simp only [er] at q
          obtain ⟨g1, g2, g3⟩ := rdC_rest (hb.drop _) er
          rw [List.length_drop] at g2
          rw [List.drop_drop, show at' + 1 + (e - (at' + 1)) = e by omega] at g3
          unfold rdB at q
          intro p H' sm tk
          walk_at "rs"
          refine rd_ixT tk.seq (v := .str (Str.ofString "count")) rfl ?_
          walk_at "rs"
          refine if_ndec (fun c => absurd rfl c) (fun _ => ?_)
          walk_at "rs"
          refine rd_ixL (SqL.of (sm _ _ ea)) ek ?_
          walk_at "rs"
          refine if_dec (fun c7 => ?_) (fun c7 => ?_)
          · walk_at "rs"
            refine rd_ixT tk.seq (v := .int e) rfl ?_
            walk_at "rs"
            refine rd_wTT (Nat.le_of_ble_eq_true rfl) fun p2 H3 np s2 tk3 => ?_
            have q' : ∀ p H', Same H H' → Tk H' p [.str (Str.ofString "end"), .int e] → Q (.ref p) H' := by
              by_cases k3 : b = 3
              · rw [if_pos k3] at q
                exact q
              · rw [if_neg k3, if_pos (by omega)] at q
                exact q
            exact q' p2 H3 (sm.trans s2) tk3
          · walk_at "rs"
            refine rd_ixT tk.seq (v := .int e) rfl ?_
            walk_at "rs"
            refine rd_ixT tk.seq (v := .int c) rfl ?_
            walk_at "rs"
            refine rd_lenL (SqL.of (sm _ _ ea)) ?_
            walk_at "rs"
            have hM : (if ((data.map V.int).length : Int) + 1 < (c : Int) then ((data.map V.int).length : Int) + 1 else (c : Int)) = ((min c (data.length + 1) : Nat) : Int) := by
              rw [hlm]
              split <;> omega
            walk_at "rs"
            rw [hM]
            refine rd_wRg (by omega) (by omega) ?_
            rw [Int.toNat_natCast]
            rw [if_neg (by omega), if_neg (by omega), if_neg c5, hit (20 - (dp + 1)) (by omega)] at q
            have q2 : (match erd (rdI (unp (20 - (dp + 1))) c r e) with
              | .ok _ _ e => ∀ p H', Same H H' → Tk H' p [.str (Str.ofString "end"), .int e] → Q (.ref p) H'
              | .inc k => ∀ p H', Same H H' → Tk H' p [.str (Str.ofString "incomplete"), .int k] → Q (.ref p) H'
              | .inv k => ∀ p H', Same H H' → Tk H' p [.str (Str.ofString "invalid"), .int k] → Q (.ref p) H') := by
              cases er2 : rdI (unp (20 - (dp + 1))) c r e <;> simp only [er2] at q ⊢ <;> exact q
            refine forR (fun i σ H2 => Same H H2 ∧ ∃ (en : Nat) (k1 k2 : Option V), σ = [some (.ref a), some (.int at'), some (.int dp), some (.ref p), some (.int en), k1, k2] ∧ e + i ≤ en ∧ en ≤ data.length ∧
              erd (rdI (unp (20 - (dp + 1))) c r e) = erd (rdI (unp (20 - (dp + 1))) (c - i) (data.drop en) en)) ?_ (fun i σ H2 hi hP => ?_) (fun σ H2 hP => ?_)
            · exact ⟨sm, e, none, none, rfl, Nat.le_refl e, by omega, by rw [g3]; rfl⟩
            · obtain ⟨sm2, en, k1, k2, rfl, ge, le, ee⟩ := hP
              rw [show c - i = (c - (i + 1)) + 1 by omega, rdI] at ee
              walk_at "rs"
              refine ⟨a, data, en, dp + 1, rfl, sm2 _ _ ea, hb, le, hl, by omega, by omega, ?_⟩
              have hbd : By (data.drop en) := fun x hx => hb x (List.mem_of_mem_drop hx)
              cases hF : unp (20 - (dp + 1)) (data.drop en) en with
              | inc k =>
                simp only [hF] at ee
                simp only [ee] at q2
                intro p3 H3 s3 tk3
                walk_at "rs"
                refine rd_ixT tk3.seq (v := .str (Str.ofString "incomplete")) rfl ?_
                walk_at "rs"
                refine if_ndec (fun _ => ?_) (fun c => absurd c (by decide +kernel))
                walk_at "rs"
                exact q2 p3 H3 (sm2.trans s3) tk3
              | inv k =>
                simp only [hF] at ee
                simp only [ee] at q2
                intro p3 H3 s3 tk3
                walk_at "rs"
                refine rd_ixT tk3.seq (v := .str (Str.ofString "invalid")) rfl ?_
                walk_at "rs"
                refine if_ndec (fun _ => ?_) (fun c => absurd c (by decide +kernel))
                walk_at "rs"
                exact q2 p3 H3 (sm2.trans s3) tk3
              | ok d r2 e2 =>
                simp only [hF] at ee
                obtain ⟨u1, u2, u3⟩ := unp_rest hbd hF
                rw [List.length_drop] at u2
                rw [List.drop_drop, show en + (e2 - en) = e2 by omega] at u3
                intro p3 H3 s3 tk3
                walk_at "rs"
                refine rd_ixT tk3.seq (v := .str (Str.ofString "end")) rfl ?_
                walk_at "rs"
                refine if_ndec (fun c => absurd rfl c) (fun _ => ?_)
                walk_at "rs"
                refine rd_ixT tk3.seq (v := .int e2) rfl ?_
                walk_at "rs"
                refine ⟨sm2.trans s3, e2, some (.int (0 + (i : Nat))), some (.ref p3), rfl, by omega, by omega, ?_⟩
                rw [ee, ← u3]
                cases rdI (unp (20 - (dp + 1))) (c - (i + 1)) r2 e2 <;> rfl
            · obtain ⟨sm2, en, k1, k2, rfl, ge, le, ee⟩ := hP
              have ec : min c (data.length + 1) = c := by omega
              rw [ec, Nat.sub_self, rdI] at ee
              simp only [ee] at q2
              walk_at "rs"
              refine rd_wTT (Nat.le_of_ble_eq_true rfl) fun p2 H3 np s2 tk3 => ?_
              exact q2 p2 H3 (sm2.trans s2) tk3)
end

section
variable {P : Program} {w : World} {K : PySem.W.Frag} {mg : Str → Option Value} {base : Heap} {CI CV M : Addr}
def spOut (K : PySem.W.Frag) : Sp := fun vs H Q _ => ∃ (a : Addr) (p : Nat) (L : List Int), vs = [.ref a, .int p] ∧ SqL K H a (L.map V.int) ∧ By L ∧ L.length ≤ 1000000 ∧ p ≤ L.length ∧
  (∀ d rest e, unp 20 (L.drop p) p = .ok d rest e → ∀ v t q H', Same H H' → Va H' v d → Tk H' t [v, .int e] → Tk H' q [.str "value", .ref t] → Q (.ref q) H') ∧
  (∀ k, unp 20 (L.drop p) p = .inc k → ∀ q H', Same H H' → Tk H' q [.str "incomplete", .int k] → Q (.ref q) H') ∧
  (∀ k, unp 20 (L.drop p) p = .inv k → ∀ q H', Same H H' → Tk H' q [.str "invalid", .int k] → Q (.ref q) H')
theorem ok_Loutcome (T : Tx K mg) (X9 : Er2 P K mg CI CV M) : OkD P w K mg base CX0 48 "_law_outcome" ["data", "at"] (spOut K) := by
  obtain ⟨qi, vi, fi, XI⟩ := X9.i
  obtain ⟨qv, vv, fv, XV⟩ := X9.v
  refine ok_mk T.d_Loutcome sc_Loutcome (fun vs H Q E h => ?_) (fun f cdv A outer s H vs Q E hr h => ?_)
  · obtain ⟨a, p, L, rfl, _⟩ := h
    rfl
  · obtain ⟨a, p, L, rfl, hS, hB, hL, hp, q1, q2, q3⟩ := h
    refine ⟨_, (pss_one (y_tryN rfl rfl sc_Loutcome.nd takes0 (fun W pn xe tk _ => (pss_one (ps_ret (y_tt (pa_cons pe_str (pa_cons (pe_callUS (E := WE W) (ok_unpack T X9) hr (by rfl) (fun σ => passAt tk σ) (pa_cons (pv 0) (pa_cons (pv 1) pa_nil))) pa_nil)))))) (HN.cons (i := 2) rfl rfl ⟨rfl, by decide, .inl XI.gC⟩ (fun a oe k d pn hz hf => (pss_one (ps_ret (y_tt (pa_cons pe_str (pa_cons (pe_xf (xfc_er XI) XI.noN hz hf (pv 2)) pa_nil)))))) (HN.cons (i := 2) rfl rfl ⟨rfl, by decide, .inl XV.gC⟩ (fun a oe k d pn hz hf => (pss_one (ps_ret (y_tt (pa_cons pe_str (pa_cons (pe_xf (xfc_er XV) XV.noN hz hf (pv 2)) pa_nil)))))) HN.nil)))), ?_⟩
    rw [show start N_Loutcome [.ref a, .int p] = [some (.ref a), some (.int p), none] from rfl]
    refine rd_tryN ?_
    walk_at "rs"
    refine ⟨a, p, L, rfl, hS, hB, hL, hp, fun d rest e hok v t H1 s1 va tk => ?_, fun k hk d H1 s1 nd ed => ⟨true, X9.xI, fun _ b hb => ?_, (fun z => by cases z)⟩, fun k hk d H1 s1 nd ed => ⟨false, X9.xVI, (fun z => by cases z), fun _ => ⟨true, X9.xV, fun _ b hb => ?_, (fun z => by cases z)⟩⟩⟩
    · walk_at "rs"
      refine rd_wTT (Nat.le_of_ble_eq_true rfl) fun q H2 nq s2 tq => ?_
      exact q1 d rest e hok v t q H2 (s1.trans s2) (va.same s2) (tk.same s2) tq
    · unfold gone
      walk_at "wp"
      refine rd_xf ?_
      walk_at "rs"
      refine rd_wXf ed ?_
      walk_at "rs"
      refine rd_wTT (Nat.le_of_ble_eq_true rfl) fun q H2 nq s2 tq => ?_
      exact q2 k hk q H2 (s1.trans s2) tq
    · unfold gone
      walk_at "wp"
      refine rd_xf ?_
      walk_at "rs"
      refine rd_wXf ed ?_
      walk_at "rs"
      refine rd_wTT (Nat.le_of_ble_eq_true rfl) fun q H2 nq s2 tq => ?_
      exact q3 k hk q H2 (s1.trans s2) tq
end


theorem rdI_dep {f : List Int → Nat → Rd1 PyData} {n : Nat} (hf : ∀ l p d r e, f l p = .ok d r e → d.depth ≤ n) : ∀ (c : Nat) (l : List Int) (p : Nat) (ds : List PyData) (r : List Int) (e : Nat), rdI f c l p = .ok ds r e → PyData.depthAll ds ≤ n
  | 0, l, p, ds, r, e, h => by
    cases h
    rw [PyData.depthAll]
    exact Nat.zero_le _
  | c + 1, l, p, ds, r, e, h => by
    rw [rdI] at h
    cases q : f l p with
    | ok d r1 e1 =>
      rw [q] at h
      cases q2 : rdI f c r1 e1 with
      | ok ds2 r2 e2 =>
        simp only [q2] at h
        cases h
        have h1 := hf _ _ _ _ _ q
        have h2 := rdI_dep hf c _ _ _ _ _ q2
        rw [PyData.depthAll]
        omega
      | inc k => simp only [q2] at h; cases h
      | inv k => simp only [q2] at h; cases h
    | inc k => rw [q] at h; cases h
    | inv k => rw [q] at h; cases h
theorem unp1_dep {L : Nat} {it : Option (List Int → Nat → Rd1 PyData)} (hf : ∀ f, it = some f → ∃ L', L = L' + 1 ∧ ∀ l p d r e, f l p = .ok d r e → d.depth ≤ L') : ∀ (l : List Int) (p : Nat) (d : PyData) (r : List Int) (e : Nat), unp1 it l p = .ok d r e → d.depth ≤ L
  | [], p, d, r, e, h => by cases h
  | b :: l, p, d, r, e, h => by
    rw [unp1_cons] at h
    split at h
    · cases h
    split at h
    · cases h
      rw [PyData.depth]
      exact Nat.zero_le _
    split at h
    · cases h
      rw [PyData.depth]
      exact Nat.zero_le _
    split at h
    · unfold rdB at h
      split at h
      · cases h
        rw [PyData.depth]
        exact Nat.zero_le _
      split at h
      · cases h
        rw [PyData.depth]
        exact Nat.zero_le _
      split at h
      · split at h
        · cases h
          rw [PyData.depth]
          exact Nat.zero_le _
        · cases h
        · cases h
      · cases it with
        | none => cases h
        | some f =>
          obtain ⟨L', rfl, hd⟩ := hf f rfl
          simp only at h
          split at h
          · rename_i q2
            cases h
            have := rdI_dep hd _ _ _ _ _ _ q2
            rw [PyData.depth]
            omega
          · cases h
          · cases h
    · cases h
    · cases h
theorem unp_dep : ∀ (L : Nat) (l : List Int) (p : Nat) (d : PyData) (r : List Int) (e : Nat), unp L l p = .ok d r e → d.depth ≤ L
  | 0 => unp1_dep fun f h => by cases h
  | L + 1 => unp1_dep fun f h => by
    cases h
    exact ⟨L, rfl, unp_dep L⟩
mutual
theorem rcd_by : ∀ (d : PyData), OkV d → By (rcd d)
  | .none, _ => by
    rw [rcd]
    intro b hb
    rw [List.mem_singleton.mp hb]
    decide
  | .bool k, _ => by
    rw [rcd]
    intro b hb
    rw [List.mem_singleton.mp hb]
    cases k <;> decide
  | .int i, _ => by
    rw [rcd]
    intro b hb
    split at hb
    · rcases List.mem_cons.mp hb with rfl | hb
      · decide
      · exact cnt_byte _ b hb
    · rcases List.mem_cons.mp hb with rfl | hb
      · decide
      · exact cnt_byte _ b hb
  | .str x, h => by
    obtain ⟨_, g⟩ := okv_str' h
    rw [rcd]
    intro b hb
    rcases List.mem_cons.mp hb with rfl | hb
    · decide
    · rcases List.mem_append.mp hb with hb | hb
      · exact cnt_byte _ b hb
      · unfold sgn at hb
        obtain ⟨c, hc, rfl⟩ := List.mem_map.mp hb
        have := (g c hc).2.1
        omega
  | .tuple ds, h => by
    obtain ⟨_, g⟩ := okv_tup' h
    rw [rcd]
    intro b hb
    rcases List.mem_cons.mp hb with rfl | hb
    · decide
    · rcases List.mem_append.mp hb with hb | hb
      · exact cnt_byte _ b hb
      · exact rcdL_by ds g b hb
  | .list _, h => by
    unfold OkV at h
    exact h.elim
  | .dict _, h => by
    unfold OkV at h
    exact h.elim
theorem rcdL_by : ∀ (ds : List PyData), OkL ds → By (rcdL ds)
  | [], _ => by
    rw [rcdL]
    exact fun b hb => nomatch hb
  | d :: ds, h => by
    unfold OkL at h
    rw [rcdL]
    intro b hb
    rcases List.mem_append.mp hb with hb | hb
    · exact rcd_by d h.1 b hb
    · exact rcdL_by ds h.2 b hb
end
theorem by_app {a b : List Int} (h : By a) (g : By b) : By (a ++ b) := fun x hx => by
  rcases List.mem_append.mp hx with hx | hx
  · exact h x hx
  · exact g x hx
section
variable {K : PySem.W.Frag} {H : Hp} {Q : VK} {x y : V} {d : PyData} {n : Nat}
theorem rd_eqSame (h1 : Dp K H x d) (h2 : Dp K H y d) (s : SeqAt.shaped d = true) (r : PyData.eqv d d = true) (h : Q (.bl true) H) : rEqD K x y H Q := ⟨d, d, h1, h2, s, s, by
  rw [r]
  exact h⟩
theorem rd_eqV (h1 : Va H x d) (h2 : Va H y d) (s : Sh n d) (h : Q (.bl true) H) (l : n ≤ 64 := by decide) : rEqD K x y H Q := rd_eqSame h1.dp h2.dp (s.shaped l) s.refl h
theorem rd_eqInts {a b : Addr} {c : List Int} (h1 : SqL K H a (c.map V.int)) (h2 : SqL K H b (c.map V.int)) (h : Q (.bl true) H) : rEqD K (.ref a) (.ref b) H Q :=
  rd_eqSame (.lst h1 (DpAll.ints c)) (.lst h2 (DpAll.ints c)) (sh_ints c).shaped (sh_ints c).refl h
theorem rd_slLfrom {l : Addr} {xs : List V} {k : Nat} (c : SqL K H l xs) (h : ∀ p, H p = none → Q (.ref p) (upd H p (.lst (xs.drop k)))) : rSlL K (.ref l) (some (k : Int)) none H Q := by
  refine ⟨l, xs, rfl, c, fun p n => ?_⟩
  have e : cutV xs (some (k : Int)) none = xs.drop k := by
    unfold cutV
    rw [HT.sIx_nat, HT.sIx_none]
    by_cases g : k ≤ xs.length
    · rw [Nat.min_eq_left g, List.take_of_length_le (by rw [List.length_drop]; exact Nat.le_refl _)]
    · rw [Nat.min_eq_right (by omega), Nat.sub_self, List.take_zero, List.drop_of_length_le (by omega)]
  rw [e]
  exact h p n
theorem rd_list {p : Addr} {ys : List V} (h0 : SqL K H p ys) (h : ∀ l, H l = none → Q (.ref l) (upd H l (.lst ys))) : zListOf K [.ref p] H Q := ⟨p, ys, rfl, .inl h0, h⟩
end
section
variable {P : Program} {w : World} {K : PySem.W.Frag} {mg : Str → Option Value} {base : Heap} {CI CV M : Addr}
theorem ok_pack (T : Tx K mg) : OkD P w K mg base CX0 33 "pack" ["value"] (spPack K 30) := ok_packN T 30
theorem ok_Lrecord (T : Tx K mg) : OkD P w K mg base CX0 32 "_law_record" ["value"] (spRecord K 30) := ok_LrecordN T 30
theorem ok_Lread (T : Tx K mg) : OkD P w K mg base CX0 33 "_law_read" ["data", "at", "depth"] (spRead K 30) := ok_LreadN T 30
theorem ok_Lvalue (T : Tx K mg) : OkD P w K mg base CX0 10 "_law_value" ["state", "script", "depth"] (spValue K 5) := ok_LvalueN T 5
theorem ints256_of {ys : List V} (h : ∀ y ∈ ys, ∃ i : Int, y = .int i ∧ 0 ≤ i ∧ i < 256) : ∃ bs : List Int, ys = bs.map V.int ∧ By bs := by
  induction ys with
  | nil => exact ⟨[], rfl, fun _ h => nomatch h⟩
  | cons y ys ih =>
    obtain ⟨i, rfl, a, b⟩ := h y List.mem_cons_self
    obtain ⟨bs, rfl, hb⟩ := ih fun z hz => h z (List.mem_cons_of_mem _ hz)
    refine ⟨i :: bs, rfl, fun z hz => ?_⟩
    rcases List.mem_cons.mp hz with rfl | hz
    · exact ⟨a, b⟩
    · exact hb z hz
theorem at10 {i : Int} (h0 : 0 ≤ i) (h1 : i < 10) : ∃ b : Int, atI [V.int 0, .int 1, .int 2, .int 3, .int 4, .int 5, .int 6, .int 7, .int 65, .int 128] i = some (.int b) ∧ 0 ≤ b ∧ b < 256 := by
  have : i = 0 ∨ i = 1 ∨ i = 2 ∨ i = 3 ∨ i = 4 ∨ i = 5 ∨ i = 6 ∨ i = 7 ∨ i = 8 ∨ i = 9 := by omega
  rcases this with rfl | rfl | rfl | rfl | rfl | rfl | rfl | rfl | rfl | rfl <;> exact ⟨_, rfl, by decide, by decide⟩
theorem at5 {i d : Int} (h0 : 0 ≤ i) (h1 : i < 5) (d0 : 0 ≤ d) (d1 : d < 256) : ∃ b : Int, atI [V.int d, .int 37, .int 128, .int 0, .int 6] i = some (.int b) ∧ 0 ≤ b ∧ b < 256 := by
  have : i = 0 ∨ i = 1 ∨ i = 2 ∨ i = 3 ∨ i = 4 := by omega
  rcases this with rfl | rfl | rfl | rfl | rfl
  · exact ⟨_, rfl, d0, d1⟩
  all_goals exact ⟨_, rfl, by decide, by decide⟩
theorem rep61 (n : Nat) : (List.replicate n [V.int 6, .int 1]).flatten = ((List.replicate n [6, 1]).flatten : List Int).map V.int := by
  induction n with
  | zero => rfl
  | succ n ih =>
    rw [List.replicate_succ, List.replicate_succ, List.flatten_cons, List.flatten_cons, List.map_append, ← ih]
    rfl
theorem rep61_by (n : Nat) : By ((List.replicate n [6, 1]).flatten : List Int) := by
  induction n with
  | zero => exact fun _ h => nomatch h
  | succ n ih =>
    rw [List.replicate_succ, List.flatten_cons]
    refine by_app (fun x hx => ?_) ih
    simp only [List.mem_cons, List.not_mem_nil, or_false] at hx
    rcases hx with rfl | rfl <;> decide
theorem rep61_len (n : Nat) : ((List.replicate n [6, 1]).flatten : List Int).length = 2 * n := by
  induction n with
  | zero => rfl
  | succ n ih =>
    rw [List.replicate_succ, List.flatten_cons, List.length_append, ih]
    simp only [List.length_cons, List.length_nil]
    omega
def Dat (K : PySem.W.Frag) (st sc : Addr) (ns : List Int) (B : Nat) (v : V) (H : Hp) : Prop := ∃ (a : Addr) (L : List Int), v = .ref a ∧ Wd K st sc ns H ∧ H a = some (.lst (L.map V.int)) ∧ a ≠ st ∧ By L ∧ L.length ≤ B
def spLaw (K : PySem.W.Frag) : Sp := fun vs H Q _ => ∃ (sc : Addr) (ns : List Int), vs = [.ref sc] ∧ SqL K H sc (ns.map V.int) ∧ ∀ H', Q (.bl true) H'
set_option maxHeartbeats 1000000 in
theorem ok_law (T : Tx K mg) (X9 : Er2 P K mg CI CV M) {f : Addr} {fd : FuncData} (F : Fun K "law" "law" s_law f fd) : FnOk P w K mg base CX0 49 f fd ["script"] (spLaw K) := by
  refine ok_F F sc_law (fun vs H Q E h => ?_) (fun cdv A outer s H vs Q E hr h => ?_)
  · obtain ⟨sc, ns, rfl, _⟩ := h
    rfl
  · obtain ⟨sc, ns, rfl, hS, q⟩ := h
    refine ⟨_, (pss_cons (ps_set (i := 1) sc_law.nd rfl (.inr rfl) (pe_lst (pa_cons pe_int (pa_cons pe_int pa_nil))))
      (pss_cons (ps_set (i := 2) sc_law.nd rfl (.inl rfl) (pe_callD (ok_Lrecord T) (hr.mono (by decide)) (by rfl) pass0 (pa_cons (pe_callD (ok_Lvalue T) (hr.mono (by decide)) (by rfl) pass0 (pa_cons (pv 1) (pa_cons (pv 0) (pa_cons pe_int pa_nil)))) pa_nil)))
      (pss_cons (ps_set (i := 3) sc_law.nd rfl (.inl rfl) (pe_callD (ok_Ldraw T) (hr.mono (by decide)) (by rfl) pass0 (pa_cons (pv 1) (pa_cons (pv 0) (pa_cons pe_int pa_nil)))))
      (pss_cons (ps_if (pt_cmpR op_eq (pv 3) pe_int (nomark _)) (pss_one (ps_setLc (i := 2) (own := [("k", 4)]) (g := gName 4) rfl sc_law.nd rfl rfl (sw_true rfl rfl rfl (by decide +kernel)) (pi_range1 (by rfl) T.z_range (pa_cons (pe_callD (ok_Ldraw T) (hr.mono (by decide)) (by rfl) pass0 (pa_cons (pv 1) (pa_cons (pv 0) (pa_cons pe_int pa_nil)))) pa_nil)) (blkOk_by (N := N_law) (sc := defScope s_law) (by decide +kernel)) (fun _ _ _ _ _ => pg_name (i := 4) sc_law.nd rfl (Or.inl rfl)) (fun _ _ _ _ _ => pts_nil) (fun _ _ _ _ _ => (pe_ix (show IxR _ (rIxL K) from ix_list) (pe_lst (pa_cons pe_int (pa_cons pe_int (pa_cons pe_int (pa_cons pe_int (pa_cons pe_int (pa_cons pe_int (pa_cons pe_int (pa_cons pe_int (pa_cons pe_int (pa_cons pe_int pa_nil))))))))))) (pe_callD (ok_Ldraw T) (hr.mono (by decide)) (by rfl) pass0 (pa_cons (pv 1) (pa_cons (pv 0) (pa_cons pe_int pa_nil)))) (fun _ _ => rfl))))) pss_nil)
      (pss_cons (ps_if (PW.pt (pw_and (pt_cmpR op_eq (pv 3) pe_int (nomark _)) (pw_and1 (pt_cmpR op_eq (pe_callD (ok_Ldraw T) (hr.mono (by decide)) (by rfl) pass0 (pa_cons (pv 1) (pa_cons (pv 0) (pa_cons pe_int pa_nil)))) pe_int (nomark _))))) (pss_one (ps_set (i := 2) sc_law.nd rfl (.inl rfl) (pe_op op_cat (pe_op op_rep (pe_lst (pa_cons pe_int (pa_cons pe_int pa_nil))) (pe_op op_add pe_int (pe_callD (ok_Ldraw T) (hr.mono (by decide)) (by rfl) pass0 (pa_cons (pv 1) (pa_cons (pv 0) (pa_cons pe_int pa_nil)))))) (pv 2)))) pss_nil)
      (pss_cons (ps_for PassesOwn.never rfl (pi_range1 (by rfl) T.z_range (pa_cons (pe_callD (ok_Ldraw T) (hr.mono (by decide)) (by rfl) pass0 (pa_cons (pv 1) (pa_cons (pv 0) (pa_cons pe_int pa_nil)))) pa_nil)) (pg_name (i := 4) sc_law.nd rfl (Or.inl rfl)) (pss_cons (ps_set (i := 5) sc_law.nd rfl (.inl rfl) (pe_callD (ok_Ldraw T) (hr.mono (by decide)) (by rfl) pass0 (pa_cons (pv 1) (pa_cons (pv 0) (pa_cons (pe_op op_add (pe_callB y_lenQ (by rfl) T.z_len (by decide +kernel) (pa_cons (pv 2) pa_nil)) pe_int) pa_nil)))))
      (pss_cons (ps_set (i := 6) sc_law.nd rfl (.inl rfl) (pe_ix ix_list (pe_lst (pa_cons (pe_callD (ok_Ldraw T) (hr.mono (by decide)) (by rfl) pass0 (pa_cons (pv 1) (pa_cons (pv 0) (pa_cons pe_int pa_nil)))) (pa_cons pe_int (pa_cons pe_int (pa_cons pe_int (pa_cons pe_int pa_nil)))))) (pe_callD (ok_Ldraw T) (hr.mono (by decide)) (by rfl) pass0 (pa_cons (pv 1) (pa_cons (pv 0) (pa_cons pe_int pa_nil)))) (fun _ _ => rfl)))
      (pss_one (ps_set (i := 2) sc_law.nd rfl (.inl rfl) (pe_op op_cat (pe_op op_cat (pe_slice sl_list (pv 2) po_none (po_some (pv 5))) (pe_ix ix_list (pe_lst (pa_cons (pe_lst (pa_cons (pv 6) pa_nil)) (pa_cons (pe_lst pa_nil) pa_nil))) (pe_callD (ok_Ldraw T) (hr.mono (by decide)) (by rfl) pass0 (pa_cons (pv 1) (pa_cons (pv 0) (pa_cons pe_int pa_nil)))) (fun _ _ => rfl))) (pe_slice sl_list (pv 2) (po_some (pe_op op_add (pv 5) (pe_callD (ok_Ldraw T) (hr.mono (by decide)) (by rfl) pass0 (pa_cons (pv 1) (pa_cons (pv 0) (pa_cons pe_int pa_nil)))))) po_none)))))))
      (pss_cons (ps_set (i := 5) sc_law.nd rfl (.inl rfl) (pe_callD (ok_Ldraw T) (hr.mono (by decide)) (by rfl) pass0 (pa_cons (pv 1) (pa_cons (pv 0) (pa_cons (pe_callB (y_min2 rfl) (by rfl) T.z_min (by decide +kernel) (pa_cons pe_int (pa_cons (pe_op op_add (pe_callB y_lenQ (by rfl) T.z_len (by decide +kernel) (pa_cons (pv 2) pa_nil)) pe_int) pa_nil))) pa_nil)))))
      (pss_cons (ps_set (i := 7) sc_law.nd rfl (.inl rfl) (pe_callTy y_listOf (by rfl) T.z_list (by decide +kernel) (pa_cons (pv 2) pa_nil)))
      (pss_cons (ps_set (i := 8) sc_law.nd rfl (.inl rfl) (pe_callD (ok_Loutcome T X9) hr (by rfl) pass0 (pa_cons (pv 2) (pa_cons (pv 5) pa_nil))))
      (pss_cons (ps_set (i := 9) sc_law.nd rfl (.inl rfl) (pe_callD (ok_Lread T) (hr.mono (by decide)) (by rfl) pass0 (pa_cons (pv 2) (pa_cons (pv 5) (pa_cons pe_int pa_nil)))))
      (pss_cons (ps_if (pt_cmpR (op_neD hr.units) (pv 2) (pv 7) (nomark _)) (pss_one (ps_ret pe_bl)) pss_nil)
      (pss_cons (ps_if (pt_cmpR op_ne (pe_ix ix_tup (pv 9) pe_int (fun _ _ => rfl)) pe_str (nomark _)) (pss_one (ps_ret (pe_cmpR (op_eqD hr.units) (pv 8) (pv 9) (nomark _)))) pss_nil)
      (pss_cons (ps_if (PW.pt (pw_or (pt_cmpR op_ne (pe_ix ix_tup (pv 8) pe_int (fun _ _ => rfl)) pe_str (nomark _)) (pw_or1 (pt_cmpR op_ne (pe_ix ix_tup (pe_ix ix_tup (pv 8) pe_int (fun _ _ => rfl)) pe_int (fun _ _ => rfl)) (pe_ix ix_tup (pv 9) pe_int (fun _ _ => rfl)) (nomark _))))) (pss_one (ps_ret pe_bl)) pss_nil)
      (pss_one (ps_ret (pe_cmpR (op_eqD hr.units) (pe_callD (ok_pack T) (hr.mono (by decide)) (by rfl) pass0 (pa_cons (pe_ix ix_tup (pe_ix ix_tup (pv 8) pe_int (fun _ _ => rfl)) pe_int (fun _ _ => rfl)) pa_nil)) (pe_slice sl_list (pv 2) (po_some (pv 5)) (po_some (pe_ix ix_tup (pv 9) pe_int (fun _ _ => rfl)))) (nomark _))))))))))))))))), ?_⟩
    rw [show start N_law [.ref sc] = [some (.ref sc), none, none, none, none, none, none, none, none, none] from rfl]
    walk_at "rs"
    refine rd_wLs (Nat.le_of_ble_eq_true rfl) fun st nst => ?_
    have W : Wd K st sc ns (upd H st (.lst [.int 0, .int 0])) := ⟨⟨0, 0, upd_same⟩, fun H' k => Same.seq (fun a o e => k a o (ne_of_none e nst) (by rw [upd_ne (ne_of_none e nst)]; exact e)) hS⟩
    walk_at "rs"
    refine ⟨st, sc, ns, 3, rfl, W, by decide, by decide, fun v d H1 va ok hd hl D1 W1 => ?_⟩
    walk_at "rs"
    have hd3 : d.depth ≤ 3 := hd
    have hl3 : (rcd d).length ≤ 540 := by have : 20 * 3 ^ (3 : Int).toNat = 540 := rfl; omega
    refine ⟨v, d, rfl, va, ok, by omega, by omega, fun rp H2 s2 nrp erp => ?_⟩
    have W2 := W1.same s2
    walk_at "rs"
    refine draw_i W2 (by decide) (by decide) fun d3 H3 a0 a1 D3 W3 => ?_
    have I3 : Dat K st sc ns 540 (.ref rp) H3 := ⟨rp, rcd d, rfl, W3, D3.at (W1.1.ne nrp) erp, W1.1.ne nrp, rcd_by d ok, hl3⟩
    refine rd_n3 ?_
    refine seq_to (fun σ H' => ∃ v x4, σ = [some (.ref sc), some (.ref st), some v, some (.int d3), x4, none, none, none, none, none] ∧ Dat K st sc ns 540 v H') (fun σ H4 pr => ?_) (fun nx' hnx => ?_)
    rotate_left
    · walk_at "rs"
      refine if_dec (fun c => ?_) (fun c => ?_)
      · walk_at "rs"
        refine draw_i W3 (by decide) (by decide) fun d4 H4 b0 b1 D4 W4 => ?_
        walk_at "rs"
        refine rd_wRg (by omega) (by omega) fun D nD => ?_
        refine lcR (G := fun y => ∃ i : Int, y = .int i ∧ 0 ≤ i ∧ i < 256) W4 nD (by omega) (fun i H5 R hi W5 D5 r => ⟨rfl, ?_⟩) (fun H5 ys D5 W5 nS hD hl hg => ?_)
        · walk_at "wp"
          refine rd_wLs (Nat.le_of_ble_eq_true rfl) fun lp nlp => ?_
          walk_at "rs"
          refine draw_i (W5.new nlp) (by decide) (by decide) fun d6 H6 c0 c1 D6 W6 => ?_
          obtain ⟨b, eb, hb⟩ := at10 c0 c1
          refine rd_ixL (SqL.of (D6.at (W5.1.ne nlp) upd_same)) eb ?_
          exact r _ _ ((W5.dr.new nlp).trans D6) ⟨b, rfl, hb⟩
        · obtain ⟨bs, rfl, hb⟩ := ints256_of hg
          rw [List.length_map] at hl
          walk_at "rs"
          exact hnx _ _ ⟨_, _, rfl, D, bs, rfl, W5, hD, nS, hb, by omega⟩
      · walk_at "rs"
        exact hnx _ _ ⟨_, _, rfl, I3⟩
    obtain ⟨v, x4, rfl, I4⟩ := pr
    obtain ⟨a4, L4, rfl, W4, e4, n4, b4, l4⟩ := I4
    refine seq_to (fun σ H' => ∃ v x4, σ = [some (.ref sc), some (.ref st), some v, some (.int d3), x4, none, none, none, none, none] ∧ Dat K st sc ns 600 v H') (fun σ H5 pr => ?_) (fun nx' hnx => ?_)
    rotate_left
    · walk_at "rs"
      refine if_dec (fun c => ?_) (fun c => ?_)
      · walk_at "rs"
        refine draw_i W4 (by decide) (by decide) fun d5 H5 c0 c1 D5 W5 => ?_
        walk_at "rs"
        refine if_dec (fun c2 => ?_) (fun c2 => ?_)
        · walk_at "rs"
          refine rd_wLs (Nat.le_of_ble_eq_true rfl) fun lp nlp => ?_
          have W6 := W5.new nlp (o := .lst [.int 6, .int 1])
          walk_at "rs"
          refine draw_i W6 (by decide) (by decide) fun d7 H7 f0 f1 D7 W7 => ?_
          walk_at "rs"
          refine rd_rep (D7.at (W5.1.ne nlp) upd_same) (by omega) (by omega) (by simp) fun rq nrq => ?_
          rw [rep61]
          have D57 := ((W5.dr.new nlp (o := .lst [.int 6, .int 1])).trans D7).new nrq (o := .lst ((List.replicate (17 + d7).toNat [6, 1]).flatten.map V.int))
          walk_at "rs"
          have W8 := W7.new nrq (o := .lst ((List.replicate (17 + d7).toNat [6, 1]).flatten.map V.int))
          have le := rep61_len (17 + d7).toNat
          refine rd_catL upd_same ((D5.trans D57).at n4 e4) (by rw [List.length_map, List.length_map]; omega) fun p8 np8 => ?_
          walk_at "rs"
          rw [← List.map_append]
          exact hnx _ _ ⟨_, _, rfl, p8, _, rfl, W8.new np8, upd_same, W8.1.ne np8, by_app (rep61_by _) b4, by rw [List.length_append]; omega⟩
        · walk_at "rs"
          exact hnx _ _ ⟨_, _, rfl, a4, L4, rfl, W5, D5.at n4 e4, n4, b4, by omega⟩
      · walk_at "rs"
        exact hnx _ _ ⟨_, _, rfl, a4, L4, rfl, W4, e4, n4, b4, by omega⟩
    obtain ⟨v, x4, rfl, a5, L5, rfl, W5, e5, n5, b5, l5⟩ := pr
    clear e4 b4 l4
    walk_at "rs"
    refine draw_i W5 (by decide) (by decide) fun d6 H6 c0 c1 D6 W6 => ?_
    walk_at "rs"
    refine rd_wRg (by omega) (by omega) ?_
    refine forR (fun i σ H' => ∃ v x4 x5 x6, σ = [some (.ref sc), some (.ref st), some v, some (.int d3), x4, x5, x6, none, none, none] ∧ Dat K st sc ns (600 + i) v H') ⟨_, _, _, _, rfl, a5, L5, rfl, W6, D6.at n5 e5, n5, b5, by omega⟩ (fun i σ H7 hi pv => ?_) (fun σ H7 pv => ?_)
    · obtain ⟨v, x4, x5, x6, rfl, a7, L7, rfl, W7, e7, n7, b7, l7⟩ := pv
      walk_at "rs"
      refine rd_lenL (SqL.of e7) ?_
      rw [List.length_map]
      walk_at "rs"
      refine draw_i W7 (by omega) (by omega) fun d8 H8 g0 g1 D8 W8 => ?_
      obtain ⟨at8, rfl⟩ := Int.eq_ofNat_of_zero_le g0
      walk_at "rs"
      refine draw_i W8 (by decide) (by decide) fun d9 H9 h0 h1 D9 W9 => ?_
      walk_at "rs"
      refine rd_wLs (Nat.le_of_ble_eq_true rfl) fun lb nlb => ?_
      walk_at "rs"
      refine draw_i (W9.new nlb) (by decide) (by decide) fun d10 H10 i0 i1 D10 W10 => ?_
      obtain ⟨b, eb, hb⟩ := at5 (d := d9) i0 i1 h0 (by omega)
      refine rd_ixL (SqL.of (D10.at (W9.1.ne nlb) upd_same)) eb ?_
      have D710 := ((D8.trans D9).trans (W9.dr.new nlb)).trans D10
      have e10 := D710.at n7 e7
      walk_at "rs"
      refine rd_slLto (SqL.of e10) fun p11 np11 => ?_
      have W11 := W10.new np11 (o := .lst ((L7.map V.int).take at8))
      have e11 := same_new np11 (o := .lst ((L7.map V.int).take at8)) _ _ e10
      have p11e := upd_same (H := H10) (a := p11) (o := .lst ((L7.map V.int).take at8))
      have p11n := W10.1.ne np11
      generalize upd H10 p11 (.lst ((L7.map V.int).take at8)) = H11 at W11 e11 p11e ⊢
      walk_at "rs"
      refine rd_wLs (Nat.le_of_ble_eq_true rfl) fun p12 np12 => ?_
      have W12 := W11.new np12 (o := .lst [.int b])
      have s12 := same_new np12 (o := .lst [.int b])
      have p12e := upd_same (H := H11) (a := p12) (o := .lst [.int b])
      have p12n := W11.1.ne np12
      generalize upd H11 p12 (.lst [.int b]) = H12 at W12 s12 p12e ⊢
      walk_at "rs"
      refine rd_wLs (Nat.le_of_ble_eq_true rfl) fun p13 np13 => ?_
      have W13 := W12.new np13 (o := .lst [])
      have s13 := same_new np13 (o := .lst [])
      have p13e := upd_same (H := H12) (a := p13) (o := .lst [])
      have p13n := W12.1.ne np13
      generalize upd H12 p13 (.lst []) = H13 at W13 s13 p13e ⊢
      walk_at "rs"
      refine rd_wLs (Nat.le_of_ble_eq_true rfl) fun p14 np14 => ?_
      have W14 := W13.new np14 (o := .lst [.ref p12, .ref p13])
      have s14 := same_new np14 (o := .lst [.ref p12, .ref p13])
      have p14e := upd_same (H := H13) (a := p14) (o := .lst [.ref p12, .ref p13])
      have p14n := W13.1.ne np14
      generalize upd H13 p14 (.lst [.ref p12, .ref p13]) = H14 at W14 s14 p14e ⊢
      walk_at "rs"
      refine draw_i W14 (by decide) (by decide) fun d15 H15 j0 j1 D15 W15 => ?_
      have e15 := D15.at n7 (s14 _ _ (s13 _ _ (s12 _ _ e11)))
      have f11 := D15.at p11n (s14 _ _ (s13 _ _ (s12 _ _ p11e)))
      have f12 := D15.at p12n (s14 _ _ (s13 _ _ p12e))
      have f13 := D15.at p13n (s14 _ _ p13e)
      have f14 := D15.at p14n p14e
      have pick : ∃ (pi : Addr) (bs : List Int), atI [V.ref p12, V.ref p13] d15 = some (.ref pi) ∧ H15 pi = some (.lst (bs.map V.int)) ∧ By bs ∧ bs.length ≤ 1 := by
        have : d15 = 0 ∨ d15 = 1 := by omega
        rcases this with rfl | rfl
        · exact ⟨p12, [b], rfl, f12, fun x hx => by rw [List.mem_singleton.mp hx]; exact hb, Nat.le_refl _⟩
        · exact ⟨p13, [], rfl, f13, fun x hx => (List.not_mem_nil hx).elim, Nat.zero_le _⟩
      obtain ⟨pi, bs, ei, hi15, hbs, lbs⟩ := pick
      walk_at "rs"
      refine rd_ixL (SqL.of f14) ei ?_
      walk_at "rs"
      refine rd_catL f11 hi15 (by rw [List.length_take, List.length_map, List.length_map]; omega) fun p16 np16 => ?_
      rw [← List.map_take, ← List.map_append]
      have W16 := W15.new np16 (o := .lst ((L7.take at8 ++ bs).map V.int))
      have s16 := same_new np16 (o := .lst ((L7.take at8 ++ bs).map V.int))
      have p16e := upd_same (H := H15) (a := p16) (o := .lst ((L7.take at8 ++ bs).map V.int))
      have p16n := W15.1.ne np16
      generalize upd H15 p16 (.lst ((L7.take at8 ++ bs).map V.int)) = H16 at W16 s16 p16e ⊢
      walk_at "rs"
      refine draw_i W16 (by decide) (by decide) fun d17 H17 k0 k1 D17 W17 => ?_
      obtain ⟨w17, rfl⟩ := Int.eq_ofNat_of_zero_le k0
      walk_at "rs"
      rw [show (at8 : Int) + (w17 : Int) = ((at8 + w17 : Nat) : Int) by omega]
      refine rd_slLfrom (SqL.of (D17.at n7 (s16 _ _ e15))) fun p18 np18 => ?_
      refine rd_catL (same_new np18 _ _ (D17.at p16n p16e)) upd_same (by rw [List.length_drop, List.length_map, List.length_map, List.length_append, List.length_take]; omega) fun p19 np19 => ?_
      rw [← List.map_drop] at np19 ⊢
      rw [← List.map_append]
      walk_at "rs"
      have W18 := W17.new np18 (o := .lst ((L7.drop (at8 + w17)).map V.int))
      refine ⟨_, _, _, _, rfl, p19, _, rfl, W18.new np19, upd_same, W18.1.ne np19, by_app (by_app (fun x hx => b7 x (List.mem_of_mem_take hx)) hbs) (b7.drop _), ?_⟩
      rw [List.length_append, List.length_append, List.length_take, List.length_drop]
      omega
    · obtain ⟨v, x4, x5, x6, rfl, a7, L7, rfl, W7, e7, n7, b7, l7⟩ := pv
      walk_at "rs"
      refine rd_lenL (SqL.of e7) ?_
      rw [List.length_map]
      walk_at "rs"
      have hmin : (0 : Int) < (if ((L7.length : Nat) : Int) + 1 < 3 then ((L7.length : Nat) : Int) + 1 else 3) ∧ (if ((L7.length : Nat) : Int) + 1 < 3 then ((L7.length : Nat) : Int) + 1 else 3) ≤ 3 ∧ (if ((L7.length : Nat) : Int) + 1 < 3 then ((L7.length : Nat) : Int) + 1 else 3) ≤ (L7.length : Nat) + 1 := by
        split <;> omega
      generalize (if ((L7.length : Nat) : Int) + 1 < 3 then ((L7.length : Nat) : Int) + 1 else 3) = mz at hmin ⊢
      refine draw_i W7 (by omega) (by omega) fun d8 H8 g0 g1 D8 W8 => ?_
      obtain ⟨at8, rfl⟩ := Int.eq_ofNat_of_zero_le g0
      have e8 := D8.at n7 e7
      walk_at "rs"
      refine rd_list (SqL.of e8) fun kp nkp => ?_
      have ekp := upd_same (H := H8) (a := kp) (o := .lst (L7.map V.int))
      have e9 := same_new nkp (o := .lst (L7.map V.int)) _ _ e8
      generalize upd H8 kp (.lst (L7.map V.int)) = H9 at ekp e9 ⊢
      walk_at "rs"
      refine ⟨a7, at8, L7, rfl, SqL.of e9, b7, by omega, by omega, fun d' rest e he v' t q10 H10 s10 va' tk tq => ?_, fun k hk q10 H10 s10 tq => ?_, fun k hk q10 H10 s10 tq => ?_⟩
      · walk_at "rs"
        refine ⟨a7, L7, at8, 0, rfl, s10 _ _ e9, b7, by omega, by omega, by decide, by decide, ?_⟩
        rw [Nat.sub_zero, he]
        intro p11 H11 s11 tk11
        have s911 := s10.trans s11
        walk_at "rs"
        refine rd_neInts (SqL.of (s911 _ _ e9)) (SqL.of (s911 _ _ ekp)) ?_
        walk_at "rs"
        refine rd_ixT tk11.seq (i := 0) (v := .str (Str.ofString "end")) rfl ?_
        walk_at "rs"
        refine if_ndec (fun c => absurd rfl c) (fun _ => ?_)
        walk_at "rs"
        refine rd_ixT (tq.same s11).seq (i := 0) (v := .str (Str.ofString "value")) rfl ?_
        walk_at "rs"
        refine if_ndec (fun c => absurd rfl c) (fun _ => ?_)
        walk_at "rs"
        refine rd_ixT (tq.same s11).seq (i := 1) (v := .ref t) rfl ?_
        walk_at "rs"
        refine rd_ixT (tk.same s11).seq (i := 1) (v := .int (e : Int)) rfl ?_
        walk_at "rs"
        refine rd_ixT tk11.seq (i := 1) (v := .int (e : Int)) rfl ?_
        walk_at "rs"
        refine if_ndec (fun c => absurd rfl c) (fun _ => ?_)
        walk_at "rs"
        refine rd_ixT (tq.same s11).seq (i := 1) (v := .ref t) rfl ?_
        walk_at "rs"
        refine rd_ixT (tk.same s11).seq (i := 0) (v := v') rfl ?_
        walk_at "rs"
        obtain ⟨u1, u2⟩ := unp_ok 20 _ _ _ _ _ (b7.drop at8) he
        have u3 := unp_dep 20 _ _ _ _ _ he
        have u4 : (rcd d').length ≤ L7.length := by
          have := congrArg List.length u1
          rw [List.length_drop, List.length_append] at this
          omega
        refine ⟨v', d', rfl, va'.same s11, by omega, by omega, fun p12 H12 s12 np12 e12 => ?_⟩
        walk_at "rs"
        refine rd_ixT (tk11.same s12).seq (i := 1) (v := .int (e : Int)) rfl ?_
        walk_at "rs"
        rw [u2, show ((at8 + (rcd d').length : Nat) : Int) = (at8 : Int) + ((rcd d').length : Int) by omega]
        refine rd_slLft (SqL.of ((s911.trans s12) _ _ e9)) (by rw [List.length_map]; omega) fun p13 np13 => ?_
        rw [← List.map_drop, u1, ← List.map_take, List.take_left]
        refine rd_eqInts (SqL.of (same_new np13 _ _ e12)) (SqL.of upd_same) ?_
        walk_at "rs"
        exact q _
      · walk_at "rs"
        refine ⟨a7, L7, at8, 0, rfl, s10 _ _ e9, b7, by omega, by omega, by decide, by decide, ?_⟩
        rw [Nat.sub_zero, hk]
        intro p11 H11 s11 tk11
        have s911 := s10.trans s11
        walk_at "rs"
        refine rd_neInts (SqL.of (s911 _ _ e9)) (SqL.of (s911 _ _ ekp)) ?_
        walk_at "rs"
        refine rd_ixT tk11.seq (i := 0) (v := .str (Str.ofString "incomplete")) rfl ?_
        walk_at "rs"
        refine if_ndec (fun _ => ?_) (fun c => absurd c (by decide +kernel))
        walk_at "rs"
        refine rd_eqV (Va.pair (tq.same s11) (.str _) (.int _)) (Va.pair tk11 (.str _) (.int _)) (n := 1) (Sh.tuple fun z hz => ?_) ?_
        · simp only [List.mem_cons, List.not_mem_nil, or_false] at hz
          rcases hz with rfl | rfl
          · exact Sh.str (asc_of (by decide +kernel))
          · exact Sh.int _
        · walk_at "rs"
          exact q _
      · walk_at "rs"
        refine ⟨a7, L7, at8, 0, rfl, s10 _ _ e9, b7, by omega, by omega, by decide, by decide, ?_⟩
        rw [Nat.sub_zero, hk]
        intro p11 H11 s11 tk11
        have s911 := s10.trans s11
        walk_at "rs"
        refine rd_neInts (SqL.of (s911 _ _ e9)) (SqL.of (s911 _ _ ekp)) ?_
        walk_at "rs"
        refine rd_ixT tk11.seq (i := 0) (v := .str (Str.ofString "invalid")) rfl ?_
        walk_at "rs"
        refine if_ndec (fun _ => ?_) (fun c => absurd c (by decide +kernel))
        walk_at "rs"
        refine rd_eqV (Va.pair (tq.same s11) (.str _) (.int _)) (Va.pair tk11 (.str _) (.int _)) (n := 1) (Sh.tuple fun z hz => ?_) ?_
        · simp only [List.mem_cons, List.not_mem_nil, or_false] at hz
          rcases hz with rfl | rfl
          · exact Sh.str (asc_of (by decide +kernel))
          · exact Sh.int _
        · walk_at "rs"
          exact q _
end
end Dw
set_option autoImplicit true
open PySem PySem.W PyProof.Rows
theorem Dw.dnd_mk {K : PySem.W.Frag} {h : Heap} {mg : Str → Option Value} {x : Str} {st : Stmt} {ps : List Str} {f T : Addr} {oc kV doc pm cdv ct : Value} {od an : Option Addr} {osl : Array (Option Value)} {oT : Obj} {z : Int} {tz : Tok} {n : Nat} (X : K.In h) (G : h.Ns mainGlobals mg)
    (a : PySem.W.nsIn K mainGlobals x = some (some (.ref f))) (l : K.lookup f = some ⟨oc, od, .func (PySem.W.fnOf x x (L2.defArgs st) (L2.defBody st) (L2.defScope st) (.ref T) kV doc pm an cdv ct), osl⟩)
    (t : K.lookup T = some oT) (d : oT.data = .seq [Value.int z tz].toArray n) (c : PySem.W.codeIn K cdv x = true) (k : PySem.W.keepIn K (.ref f) = true) : Dw.DnD K mg x st ps [.int z] :=
  ⟨f, _, PySem.W.mg_of X G a, ⟨⟨oc, od, .ref T, kV, doc, pm, an, cdv, ct, osl, rfl, l, c, .inr ⟨List.cons_ne_nil _ _, T, oT, [.int z tz], n, rfl, t, d, .cons ⟨tz, rfl⟩ .nil⟩, .inl rfl⟩, k⟩⟩
theorem Dw.end_mk {l : PySem.W.OpenLaw} {w : World} {K : PySem.W.Frag} {mg : Str → Option Value} {fa CI CV M : Addr} (hfa : mg "law" = some (.ref fa)) (T : Dw.Tx K mg) (X9 : Dw.Er2 l.prog K mg CI CV M) :
    ∃ fd : FuncData, (∀ (s : Shared) (v : Value), BindsTo s fd ⟨[v], []⟩ [("script", v)]) ∧ ∀ base : Heap, K.In base → base.Ns mainGlobals mg → L2.FnOk l.prog w K mg base L2.CX0 49 fa fd ["script"] (Dw.spLaw K) := by
  obtain ⟨f, fd, m, F, hb⟩ := T.d_law
  rw [hfa] at m
  cases m
  exact ⟨fd, fun s v => hb s [v] rfl, fun base _ _ => Dw.ok_law T X9 F⟩
theorem Dw.er2_mk {P : Program} {K : PySem.W.Frag} {h : Heap} {mg : Str → Option Value} {CI CV M fi fv : Addr} {qi qv : Str} {vi vv : List Expr} (X : K.In h) (G : h.Ns mainGlobals mg) (i : PySem.ErX.ErTxt P K mg "Incomplete" qi vi CI fi) (v : PySem.ErX.ErTxt P K mg "InvalidRecord" qv vv CV fv)
    (gM : PySem.W.nsIn K mainGlobals "MailError" = some (some (.ref M))) (kM : PySem.W.kitOne K (.ref CI) (.ref M) = some true) (kV : PySem.W.kitOne K (.ref CI) (.ref CV) = some false) (xVI : PySem.W.exmOne K (.ref CV) (.ref CI) = some false)
    (e5 : PySem.W.findIn K (.ref CI) "__class__" = some (some (.builtin "object.__class__"))) (e6 : PySem.W.specialIn K (.builtin "object.__class__") "__get__" = some (some (.builtin "getset_descriptor.__get__")))
    (e7 : PySem.W.takesIn K (.builtin "object.__class__") = some true) (e8 : PySem.W.mroIn K CI (.type "object") = some true) : Dw.Er2 P K mg CI CV M :=
  ⟨⟨qi, vi, fi, i⟩, ⟨qv, vv, fv, v⟩, PySem.W.mg_of X G gM, i.gC, v.gC, ⟨i.ga, i.gg, i.exC, i.hdC, e5, e6, e7, e8⟩, kM, kV, i.te, xVI, v.te⟩
set_option maxHeartbeats 0 in
theorem PySem.Challenge.cw_dawkline_k05_any_bytes_as_a_record_holds : PySem.Challenge.rw_dawkline_k05_any_bytes_as_a_record.Holds := by
  w_on; o_law; k_head; (case hw => w_witness2)
  k_fill
  refine L2.walk_of (l := PySem.Challenge.rw_dawkline_k05_any_bytes_as_a_record) (n := 63) (k := 49) (x := "script") (CX := fun _ => L2.CX0) (sp := fun w => Dw.spLaw _) rfl (by decide) rfl ⟨rfl, by decide, by decide⟩ (fun w h Y => PySem.W.kIn_of Y) ?F (fun _ _ a ns hl _ hS => ⟨a, ns, rfl, hS, fun _ => rfl⟩) (fun _ _ _ _ _ h => h)
  case F =>
    intro w mg fa h KX G hmg
    refine' Dw.end_mk hmg ?T (Dw.er2_mk KX G ?i ?v ?gM ?kM ?kV ?xVI ?e5 ?e6 ?e7 ?e8)
    case i =>
      refine' PySem.ErX.er_mk (nm := "Incomplete") (qI := "Incomplete.__init__") KX G ?aC ?xL ?hbm ?xi ?sa ?ga ?gg ?nb ?ii ?tC ?kC ?eC ?vC ?mC ?yC ?hC ?te ?up ?opq ?noS ?fl ?fc ?lc ?lx ?cv ?cf ?cp ?top ?pv ?pn
      (case aC => k_is); (case xL => k_is); (case hbm => decide +kernel); (case xi => kernel_rfl); (case sa => k_is); (case ga => k_is); (case gg => k_is); (case nb => k_is); (case ii => k_is); (case tC => k_is); (case kC => k_is)
      (case eC => k_is); (case vC => k_is); (case mC => k_is); (case yC => k_is); (case hC => k_is); (case te => first | k_is | rfl); (case up => ks_is); (case opq => k_is); (case noS => k_is)
      (case fl => k_is); (case fc => k_is); (case lc => k_is); (case lx => k_is); (case cv => rfl); (case cf => decide +kernel); (case cp => decide); (case top => decide +kernel); (case pv => exact PySem.ErX.parts_of (by decide +kernel)); (case pn => exact ⟨_, _, _, rfl, by decide⟩)
    case v =>
      refine' PySem.ErX.er_mk (nm := "InvalidRecord") (qI := "InvalidRecord.__init__") KX G ?aC ?xL ?hbm ?xi ?sa ?ga ?gg ?nb ?ii ?tC ?kC ?eC ?vC ?mC ?yC ?hC ?te ?up ?opq ?noS ?fl ?fc ?lc ?lx ?cv ?cf ?cp ?top ?pv ?pn
      (case aC => k_is); (case xL => k_is); (case hbm => decide +kernel); (case xi => kernel_rfl); (case sa => k_is); (case ga => k_is); (case gg => k_is); (case nb => k_is); (case ii => k_is); (case tC => k_is); (case kC => k_is)
      (case eC => k_is); (case vC => k_is); (case mC => k_is); (case yC => k_is); (case hC => k_is); (case te => first | k_is | rfl); (case up => ks_is); (case opq => k_is); (case noS => k_is)
      (case fl => k_is); (case fc => k_is); (case lc => k_is); (case lx => k_is); (case cv => rfl); (case cf => decide +kernel); (case cp => decide); (case top => decide +kernel); (case pv => exact PySem.ErX.parts_of (by decide +kernel)); (case pn => exact ⟨_, _, _, rfl, by decide⟩)
    case gM => k_is
    case kM => first | k_is | rfl
    case kV => first | k_is | rfl
    case xVI => first | k_is | rfl
    case e5 => k_is
    case e6 => first | rfl | k_is
    case e7 => first | rfl | k_is
    case e8 => first | k_is | rfl
    case T => exact ⟨(by
      (refine' Dw.dn_mk KX G ?a ?l ?c ?k (fun _ _ _ _ _ _ us hl => match us, hl with | [_, _], _ => rfl); (case a => k_is); (case l => k_is); (case c => k_is); (case k => k_is))),
(by
      (refine' Dw.dn_mk KX G ?a ?l ?c ?k (fun _ _ _ _ _ _ us hl => match us, hl with | [_, _, _], _ => rfl); (case a => k_is); (case l => k_is); (case c => k_is); (case k => k_is))),
(by
      (refine' Dw.dn_mk KX G ?a ?l ?c ?k (fun _ _ _ _ _ _ us hl => match us, hl with | [_, _], _ => rfl); (case a => k_is); (case l => k_is); (case c => k_is); (case k => k_is))),
(by
      (refine' Dw.dn_mk KX G ?a ?l ?c ?k (fun _ _ _ _ _ _ us hl => match us, hl with | [_, _], _ => rfl); (case a => k_is); (case l => k_is); (case c => k_is); (case k => k_is))),
(by
      (refine' Dw.dn_mk KX G ?a ?l ?c ?k (fun _ _ _ _ _ _ us hl => match us, hl with | [_], _ => rfl); (case a => k_is); (case l => k_is); (case c => k_is); (case k => k_is))),
(by
      (refine' Dw.dn_mk KX G ?a ?l ?c ?k (fun _ _ _ _ _ _ us hl => match us, hl with | [_, _, _], _ => rfl); (case a => k_is); (case l => k_is); (case c => k_is); (case k => k_is))),
(by
      (refine' Dw.dn_mk KX G ?a ?l ?c ?k (fun _ _ _ _ _ _ us hl => match us, hl with | [_, _, _, _], _ => rfl); (case a => k_is); (case l => k_is); (case c => k_is); (case k => k_is))),
(by
      (refine' Dw.dn_mk KX G ?a ?l ?c ?k (fun _ _ _ _ _ _ us hl => match us, hl with | [_, _, _], _ => rfl); (case a => k_is); (case l => k_is); (case c => k_is); (case k => k_is))),
(by
      (refine' Dw.dnd_mk KX G ?a ?l ?t ?d ?c ?k; (case a => k_is); (case l => k_is); (case t => k_is); (case d => rfl); (case c => k_is); (case k => k_is))),
(by
      (refine' Dw.dn_mk KX G ?a ?l ?c ?k (fun _ _ _ _ _ _ us hl => match us, hl with | [_, _], _ => rfl); (case a => k_is); (case l => k_is); (case c => k_is); (case k => k_is))),
(by
      (refine' Dw.dn_mk KX G ?a ?l ?c ?k (fun _ _ _ _ _ _ us hl => match us, hl with | [_, _], _ => rfl); (case a => k_is); (case l => k_is); (case c => k_is); (case k => k_is))),
(by
      (refine' Dw.dn_mk KX G ?a ?l ?c ?k (fun _ _ _ _ _ _ us hl => match us, hl with | [_, _], _ => rfl); (case a => k_is); (case l => k_is); (case c => k_is); (case k => k_is))),
(by
      (refine' Dw.dn_mk KX G ?a ?l ?c ?k (fun _ _ _ _ _ _ us hl => match us, hl with | [_, _, _], _ => rfl); (case a => k_is); (case l => k_is); (case c => k_is); (case k => k_is))),
(by
      (refine' Dw.dn_mk KX G ?a ?l ?c ?k (fun _ _ _ _ _ _ us hl => match us, hl with | [_], _ => rfl); (case a => k_is); (case l => k_is); (case c => k_is); (case k => k_is))),
(by
      (refine' Dw.dn_mk KX G ?a ?l ?c ?k (fun _ _ _ _ _ _ us hl => match us, hl with | [_], _ => rfl); (case a => k_is); (case l => k_is); (case c => k_is); (case k => k_is))),
(by
      (refine' Dw.dn_mk KX G ?a ?l ?c ?k (fun _ _ _ _ _ _ us hl => match us, hl with | [_, _, _], _ => rfl); (case a => k_is); (case l => k_is); (case c => k_is); (case k => k_is))),
(by
      (refine' Dw.dn_mk KX G ?a ?l ?c ?k (fun _ _ _ _ _ _ us hl => match us, hl with | [_, _], _ => rfl); (case a => k_is); (case l => k_is); (case c => k_is); (case k => k_is))),
(by
      (refine' Dw.dn_mk KX G ?a ?l ?c ?k (fun _ _ _ _ _ _ us hl => match us, hl with | [_, _, _], _ => rfl); (case a => k_is); (case l => k_is); (case c => k_is); (case k => k_is))),
(by
      (refine' Dw.dn_mk KX G ?a ?l ?c ?k (fun _ _ _ _ _ _ us hl => match us, hl with | [_], _ => rfl); (case a => k_is); (case l => k_is); (case c => k_is); (case k => k_is))),
(by
      (refine' Dw.dn_mk KX G ?a ?l ?c ?k (fun _ _ _ _ _ _ us hl => match us, hl with | [_], _ => rfl); (case a => k_is); (case l => k_is); (case c => k_is); (case k => k_is))),
(by
      (refine' Dw.dn_mk KX G ?a ?l ?c ?k (fun _ _ _ _ _ _ us hl => match us, hl with | [_], _ => rfl); (case a => k_is); (case l => k_is); (case c => k_is); (case k => k_is))),
(by
      (refine' Dw.dn_mk KX G ?a ?l ?c ?k (fun _ _ _ _ _ _ us hl => match us, hl with | [_], _ => rfl); (case a => k_is); (case l => k_is); (case c => k_is); (case k => k_is))),
(by
      (refine' Dw.k_int (PySem.W.mg_of KX G ?a) ?e; (case a => k_is); (case e => decide +kernel))),
(by
      (refine' Dw.k_int (PySem.W.mg_of KX G ?a) ?e; (case a => k_is); (case e => decide +kernel))),
(by
      (refine' Dw.k_str (PySem.W.mg_of KX G ?a) ?e; (case a => k_is); (case e => decide +kernel))),
(by
      (refine' Dw.k_int (PySem.W.mg_of KX G ?a) ?e; (case a => k_is); (case e => decide +kernel))),
(by
      (refine' Dw.k_int (PySem.W.mg_of KX G ?a) ?e; (case a => k_is); (case e => decide +kernel))),
(by
      (refine' Dw.k_int (PySem.W.mg_of KX G ?a) ?e; (case a => k_is); (case e => decide +kernel))),
(by
      (refine' Dw.k_int (PySem.W.mg_of KX G ?a) ?e; (case a => k_is); (case e => decide +kernel))),
(by
      (refine' Dw.k_int (PySem.W.mg_of KX G ?a) ?e; (case a => k_is); (case e => decide +kernel))),
(by
      (refine' Dw.k_int (PySem.W.mg_of KX G ?a) ?e; (case a => k_is); (case e => decide +kernel))),
(by
      (refine' Dw.k_int (PySem.W.mg_of KX G ?a) ?e; (case a => k_is); (case e => decide +kernel))),
(by
      (refine' Dw.k_int (PySem.W.mg_of KX G ?a) ?e; (case a => k_is); (case e => decide +kernel))),
(by
      (refine' PySem.W.mg_none_of KX G ?a; (case a => k_is))),
(by
      (refine' PySem.W.mg_none_of KX G ?a; (case a => k_is))),
(by
      (refine' PySem.W.mg_none_of KX G ?a; (case a => k_is))),
(by
      (refine' PySem.W.mg_none_of KX G ?a; (case a => k_is))),
(by
      (refine' PySem.W.mg_none_of KX G ?a; (case a => k_is))),
(by
      (refine' PySem.W.mg_none_of KX G ?a; (case a => k_is))),
(by
      (refine' PySem.W.mg_none_of KX G ?a; (case a => k_is))),
(by
      (refine' PySem.W.mg_none_of KX G ?a; (case a => k_is))),
(by
      (refine' PySem.W.mg_none_of KX G ?a; (case a => k_is))),
(by
      (refine' PySem.W.mg_none_of KX G ?a; (case a => k_is))),
(by
      (refine' PySem.W.mg_none_of KX G ?a; (case a => k_is)))⟩
