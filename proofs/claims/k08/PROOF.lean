import PyProof.Rows.All
import HandS.ForMost
import HandS.FStr
import HandS.IsInst
import HandS.TupAny
import HandS.Style
import HandS.StrMore
import HandS.Strs
import Open.Row
import HandS.SetTxt0
import HandS.SetFor
import PyProof.Rows.SortStr
import HandS.ForExc
import HandS.ExcOwn
import HandS.TryOnly
import HandS.ExcIs
import HandS.RaiseMore
import KE.KeyNested
import KE.KAssignIn
import HandS.Iter
import KE.GoesEnumKw
import PyProof.Rows.CallKwBuiltin
import HandS.DictComp
import HandS.SortInts
import HandS.More
import KE.KDictCopyH
import KE.SortData
import HandS.WordsDict
import HandS.Records
import KE.KEqNest
import HandS.Star
import KE.DataMinMax
import PyProof.CollectIter
import HandS.TupLe
import PyProof.P3In
import KE.GoesComp
import HandS.TupMul
import HandS.Deep
import HandS.WrittenGet
import HandS.SortKw
import KE.DataEq
import HandS.Property
import Wide.All
import OpenK.AllK
import Wide.FinOn
import PyProof.EqAt
import PyProof.EqKinds
import PyProof.TupleCall
import PyProof.FString
import KE.KExcSuper
import HandS.Base
import HandS.Call
import HandS.List
import HandS.Ends
import HandS.Exc
import HandS.ExcField
import HandS.TryMany
import KE.KExcIs
import KE.KTryMore
import HandS.Defaults
import HandS.Wide
import KE.KDictWalk
import PySem.Challenge.RW_dawkline_k08_whole_journals_survive_cras
set_option Elab.async false
set_option linter.all false
set_option maxRecDepth 100000
set_option maxHeartbeats 4000000
set_option autoImplicit false
namespace PySem
namespace ErX
open PySem.W PySem.Calls PyProof.Rows PySem.HandSPX
def iA (p1 p2 : Pos) : Arguments := { posonlyargs := [], args := [{ arg := "self", annotation := none, pos := p1 }, { arg := "place", annotation := none, pos := p2 }], vararg := none, kwonlyargs := [], kw_defaults := [], kwarg := none, defaults := [] }
def iB (vals : List Expr) (p1 p2 p3 p4 p5 p6 q1 q2 q3 q4 : Pos) : List Stmt :=
  [.Expr (.Call (.Attribute (.Call (.Name "super" p1) [] [] p2) "__init__" p3) [.JoinedStr vals p4] [] p5) p6,
   .Assign [.Attribute (.Name "self" q1) "place" q2] (.Name "place" q3) q4]
def iS : Scope := { kind := .function, names := [(PySem.Str.ofString "self", .local), (PySem.Str.ofString "place", .local), (PySem.Str.ofString "__class__", .free), (PySem.Str.ofString "super", .globalImplicit)], isGenerator := false, isCoroutine := false, more := [] }
/-- a piece of the text: a written text of at most 1000 signs, or the place -/
def IsPart : Expr → Prop
  | .Constant (.str x) _ _ => x.length ≤ 1000
  | .FormattedValue (.Name n _) c sp _ => n = "place" ∧ c = -1 ∧ sp = none
  | _ => False
def partB : Expr → Bool
  | .Constant (.str x) _ _ => decide (x.length ≤ 1000)
  | .FormattedValue (.Name n _) c sp _ => decide (n = "place") && (decide (c = -1) && sp.isNone)
  | _ => false
theorem parts_of {l : List Expr} (h : l.all partB = true) : ∀ e ∈ l, IsPart e := fun e he => by
  have q := List.all_eq_true.mp h e he
  unfold partB at q
  unfold IsPart
  split at q
  · exact of_decide_eq_true q
  · obtain ⟨a, b⟩ := Bool.and_eq_true_iff.mp q
    obtain ⟨b, c⟩ := Bool.and_eq_true_iff.mp b
    exact ⟨of_decide_eq_true a, of_decide_eq_true b, Option.isNone_iff_eq_none.mp c⟩
  · cases q
section
variable {prog : Program} {w : World} {A : Around} {E : Value → Shared → Prop}
theorem parts_eval {env : Env} {m : Str → Option Value} {i : Int} {ti : Tok} (hi : i.natAbs < 10 ^ 100) (hm : m "place" = some (.int i ti)) (hk : env.scope.kind = .function) (hl : env.kindOf "place" = some .local) :
    ∀ (vals : List Expr) (acc : Str) (s : Shared) (Q : Str → Shared → Prop), (∀ e ∈ vals, IsPart e) → acc.length + 1000 * vals.length ≤ sizeLine → s.heap.Ns env.locals m →
    (∀ out tk, out.length ≤ sizeLine → Q out { s with toks := tk }) → Joins (model prog w) A E (evalEach vals env) acc Q s := by
  intro vals
  induction vals with
  | nil =>
    intro acc s Q _ hz _ k
    have e0 : evalEach [] env = [] := by first | rfl | simp [evalEach]
    rw [e0]
    exact k acc s.toks (by simpa using hz)
  | cons e r ih =>
    intro acc s Q hp hz hn k
    have e0 : evalEach (e :: r) env = eval e env :: evalEach r env := by first | rfl | simp [evalEach]
    rw [e0]
    have hlen : acc.length + 1000 + 1000 * r.length ≤ sizeLine := by
      rw [List.length_cons] at hz; omega
    have he : IsPart e := hp e (List.mem_cons_self)
    have hr : ∀ e ∈ r, IsPart e := fun u hu => hp u (List.mem_cons_of_mem _ hu)
    have go : ∀ (y : Str) (t : Tok) (tk : Tok), y.length ≤ 1000 → ∃ y' t', (Value.str y t) = .str y' t' ∧ (acc ++ y').length ≤ sizeLine ∧ Joins (model prog w) A E (evalEach r env) (acc ++ y') Q { s with toks := tk } := fun y t tk hy =>
      ⟨y, t, rfl, by rw [strLen_append]; omega, ih (acc ++ y) { s with toks := tk } Q hr (by rw [strLen_append]; omega) hn (fun out tk' ho => k out tk' ho)⟩
    unfold IsPart at he
    split at he
    · exact wpAny_Constant_str (go _ _ _ he)
    · obtain ⟨rfl, rfl, rfl⟩ := he
      refine wpAny_FormattedValue_plain (wpAny_Name (wpAny_loadName_local hk hl hn hm ?_) (by decide))
      have hb : i.natAbs.log2 < 1920 := by
        by_cases h0 : i.natAbs = 0
        · rw [h0]; decide
        · exact (Nat.log2_lt h0).mpr (Nat.lt_of_lt_of_le hi (by decide +kernel))
      refine formatField_int_small hb (go _ _ _ ?_)
      have e := int_text_length_le10 (a := i) (k := 100) (by decide) hi
      rw [ofString_length]; omega
    · exact he.elim
end
/-- what the written part says of the class nm, at C, and of its __init__, at fI -/
structure ErTxt (P : Program) (K : Frag) (mg : Str → Option Value) (nm qI : Str) (vals : List Expr) (C fI : Addr) : Prop where
  gC : mg nm = some (.ref C)
  cls : ∃ nm q N bs bm sn sub ab col dd k0 k1 k2 k3 k5, K.lookup C = some (excClassObj nm q C N bs bm true sn sub ab col dd k0 k1 k2 k3 k5 "ValueError.__new__") ∧ refsVE bm = true
  xi : excInitIn K C [.type "ValueError", .type "Exception", .type "BaseException", .type "object"] "ValueError.__new__" = true
  sa : findIn K (.ref C) "__setattr__" = some (some (.builtin "object.__setattr__"))
  ga : findIn K (.ref C) "__getattribute__" = some (some (.builtin "BaseException.__getattribute__"))
  gg : findIn K (.ref C) "__getattr__" = some none
  noN : findIn K (.ref C) "place" = some none
  iC : findIn K (.ref C) "__init__" = some (some (.ref fI))
  tC : typeIn K (.ref fI) = some (.type "function")
  kC : keepIn K (.ref C) = true
  exC : subIn K (.ref C) (.type "BaseException") = some true
  veC : subIn K (.ref C) (.type "ValueError") = some true
  meC : mroIn K C (.ref C) = some true
  tyC : typeIn K (.ref C) = some (.type "type")
  hdC : hasDictIn K C = true
  te : exmOne K (.ref C) (.ref C) = some true
  up : ks_superIn K C C "__init__" = some (some (.builtin "ValueError.__init__"))
  opq : nsIn K cStatics "thirdparty.any" = some none
  noS : mg "super" = none
  top : (P.main.scope.names.lookup ("super" : Str)).isSome = false
  pv : ∀ e ∈ vals, IsPart e
  pn : ∃ a b r, vals = a :: b :: r ∧ r.length ≤ 10
  fn : ∃ (oc : Value) (od : Option Addr) (doc pm : Value) (an : Option Addr) (cda cc : Addr) (ct : Value) (osl : Array (Option Value)) (p1 p2 p3 p4 p5 p6 q1 q2 q3 q4 a1 a2 : Pos)
      (ccl cl : Value) (cdd cld : Option Addr) (ccs csl : Array (Option Value)) (vs : Array Value) (file : Str) (tf : Tok),
    K.lookup fI = some ⟨oc, od, .func (ksFn "__init__" qI (iA a1 a2) (iB vals p1 p2 p3 p4 p5 p6 q1 q2 q3 q4) iS .none .none doc pm an (.ref cda) ct cc), osl⟩ ∧ codeIn K (.ref cda) qI = true ∧
    K.lookup cda = some ⟨ccl, cdd, .fields vs, ccs⟩ ∧ vs[2]? = some (.str file tf) ∧ ((P.main.file : Str) == file) = true ∧ (p3.endLine == p5.line) = true ∧
    K.lookup cc = some ⟨cl, cld, .cell (some (.ref C)), csl⟩
/-- from the written part, at the end: each fact by k_is -/
theorem er_mk {P : Program} {K : Frag} {h : Heap} {mg : Str → Option Value} {nm qI : Str} {vals : List Expr} {C fI cda cc N : Addr} {nm' q : Str} {bs bm : List Value} {sn : List Str} {sub : List Value} {ab : Bool} {col : Option Bool} {dd : Option Addr} {k0 k1 k2 k3 k5 : Option Value}
    {oc : Value} {od : Option Addr} {doc pm : Value} {an : Option Addr} {ct : Value} {osl : Array (Option Value)} {p1 p2 p3 p4 p5 p6 q1 q2 q3 q4 a1 a2 : Pos} {ccl cl : Value} {cdd cld : Option Addr} {ccs csl : Array (Option Value)} {vs : Array Value} {file : Str} {tf : Tok}
    (X : K.In h) (G : h.Ns mainGlobals mg) (aC : nsIn K mainGlobals nm = some (some (.ref C)))
    (xL : K.lookup C = some (excClassObj nm' q C N bs bm true sn sub ab col dd k0 k1 k2 k3 k5 "ValueError.__new__")) (hbm : refsVE bm = true)
    (xi : excInitIn K C [.type "ValueError", .type "Exception", .type "BaseException", .type "object"] "ValueError.__new__" = true)
    (sa : findIn K (.ref C) "__setattr__" = some (some (.builtin "object.__setattr__"))) (ga : findIn K (.ref C) "__getattribute__" = some (some (.builtin "BaseException.__getattribute__"))) (gg : findIn K (.ref C) "__getattr__" = some none)
    (nb : findIn K (.ref C) "place" = some none) (ii : findIn K (.ref C) "__init__" = some (some (.ref fI))) (tC : typeIn K (.ref fI) = some (.type "function")) (kC : keepIn K (.ref C) = true)
    (eC : subIn K (.ref C) (.type "BaseException") = some true) (vC : subIn K (.ref C) (.type "ValueError") = some true) (mC : mroIn K C (.ref C) = some true) (yC : typeIn K (.ref C) = some (.type "type")) (hC : hasDictIn K C = true)
    (te : exmOne K (.ref C) (.ref C) = some true) (up : ks_superIn K C C "__init__" = some (some (.builtin "ValueError.__init__"))) (opq : nsIn K cStatics "thirdparty.any" = some none) (noS : nsIn K mainGlobals "super" = some none)
    (fl : K.lookup fI = some ⟨oc, od, .func (ksFn "__init__" qI (iA a1 a2) (iB vals p1 p2 p3 p4 p5 p6 q1 q2 q3 q4) iS .none .none doc pm an (.ref cda) ct cc), osl⟩) (fc : codeIn K (.ref cda) qI = true)
    (lc : K.lookup cda = some ⟨ccl, cdd, .fields vs, ccs⟩) (lx : K.lookup cc = some ⟨cl, cld, .cell (some (.ref C)), csl⟩)
    (cv : vs[2]? = some (.str file tf)) (cf : ((P.main.file : Str) == file) = true) (cp : (p3.endLine == p5.line) = true) (top : (P.main.scope.names.lookup ("super" : Str)).isSome = false)
    (pv : ∀ e ∈ vals, IsPart e) (pn : ∃ a b r, vals = a :: b :: r ∧ r.length ≤ 10) : ErTxt P K mg nm qI vals C fI :=
  { gC := mg_of X G aC, cls := ⟨nm', q, N, bs, bm, sn, sub, ab, col, dd, k0, k1, k2, k3, k5, xL, hbm⟩, xi := xi, sa := sa, ga := ga, gg := gg, noN := nb, iC := ii, tC := tC, kC := kC, exC := eC, veC := vC, meC := mC, tyC := yC, hdC := hC, te := te, up := up, opq := opq, noS := mg_none_of X G noS,
    top := top, pv := pv, pn := pn, fn := ⟨oc, od, doc, pm, an, cda, cc, ct, osl, p1, p2, p3, p4, p5, p6, q1, q2, q3, q4, a1, a2, ccl, cl, cdd, cld, ccs, csl, vs, file, tf, fl, fc, lc, cv, cf, cp, lx⟩ }
/-- what __init__ leaves of a fresh exception at x -/
structure InitEnd (h h' : Heap) (x C dx t1 : Addr) (v : Value) : Prop where
  keep : ∀ b o, b ≠ x → h.get? b = some o → h'.get? b = some o
  obj : h'.get? x = some { cls := .ref C, dict := some dx, data := .fields #[.ref t1, .none, .none, .none, .bool false, .none] }
  dbig : h.objs.size ≤ dx
  dne : dx ≠ x
  ns : h'.Ns1 dx (fun y => if y = "place" then some v else none)
/-- a made error -/
structure OwnMade (h h' : Heap) (e C d : Addr) (v : Value) : Prop where
  keep : ∀ b o, h.get? b = some o → h'.get? b = some o
  new : h.objs.size ≤ e
  obj : ∃ oe vs, h'.get? e = some oe ∧ oe.cls = .ref C ∧ oe.dict = some d ∧ oe.data = .fields vs ∧ vs[1]? = some .none
  dbig : h.objs.size ≤ d
  dne : d ≠ e
  ns : h'.Ns1 d (fun y => if y = "place" then some v else none)
section
variable {P : Program} {w : World} {A : Around} {R : Result → Shared → Prop} {s : Shared} {K : Frag} {mg : Str → Option Value} {nm qI : Str} {vals : List Expr} {C fI : Addr}
theorem super_he {va vb : Expr} {vr : List Expr} {p1 p2 p3 p4 p5 : Pos} {env : Env} (hp : (p3.endLine == p5.line) = true) :
    eval (.Call (.Attribute (.Call (.Name "super" p1) [] [] p2) "__init__" p3) [.JoinedStr (va :: vb :: vr) p4] [] p5) env = (do
      let ov ← attributeBase (.Call (.Name "super" p1) [] [] p2) "__init__" env (eval (.Call (.Name "super" p1) [] [] p2) env)
      standAt p3.atName
      let (f, first) ← holding [ov] (getMethod ov "__init__" (do return (← importBound (.Call (.Name "super" p1) [] [] p2) env).getD true))
      callWith p5 f first (backTo p5 (starEach [.JoinedStr (va :: vb :: vr) p4] env)) []) := by
  have e1 : methodCallPos true (.Call (.Name "super" p1) [] [] p2) env p3 p5 = pure p5 := by
    unfold methodCallPos
    simp only [Bool.not_true, Bool.false_or, hp, if_true]
  have e2 : methodCallForm ([Expr.JoinedStr (va :: vb :: vr) p4].length + ([] : List Keyword).length) (backTo p5 (starEach [.JoinedStr (va :: vb :: vr) p4] env)) (backToKw p5 (keywordEach [] env)) = true := by rfl
  have e3 : backToKw p5 (keywordEach [] env) = [] := by rfl
  rw [arm_eval_Call]
  unfold methodCall calleeOf
  rw [e2, e1, e3]
  rfl
theorem one_sz (v : Value) : [v].length ≤ sizeLine := by
  rw [sizeLine_eq]
  exact (by decide : 1 ≤ 16777216)
theorem er_init (T : ErTxt P K mg nm qI vals C fI) {x t0 : Addr} {i : Int} {ti : Tok} (X : K.In s.heap) (G : s.heap.Ns mainGlobals mg) (B : ∃ mb, s.heap.Ns builtinsNs mb ∧ ∀ x : Str, x ≠ "__name__" → mb x = bootBuiltins x)
    (hlim : s.heap.NoLimit) (hx : s.heap.get? x = some (excO C t0)) (hnx : K.lookup x = none) (hroom : A.depth < recursionLimit) (hi : i.natAbs < 10 ^ 100)
    (hq : ∀ h' tk dx t1, InitEnd s.heap h' x C dx t1 (.int i ti) → R (.ok (.ret .none)) { s with heap := h', toks := tk }) :
    codeAny (model P w) A (.call (.ref fI) ⟨[.ref x, .int i ti], []⟩) R s := by
  obtain ⟨oc, od, doc, pm, an, cda, cc, ct, osl, p1, p2, p3, p4, p5, p6, q1, q2, q3, q4, a1, a2, ccl, cl, cdd, cld, ccs, csl, vs, file, tf, ho, hcd, hcode, hvs, hfile, hpos, hcell⟩ := T.fn
  obtain ⟨nm', q, N, bs, bm, sn, sub, ab, col, dd, k0, k1, k2, k3, k5, hC, hbm⟩ := T.cls
  obtain ⟨va, vb, vr, rfl, hvr⟩ := T.pn
  have hcl : clsIn K C = some { name := nm', bases := bs, mro := .ref C :: bm, ns := N, qualname := q, hasDict := true, slotNames := sn, subclasses := sub, abstract := ab, collection := col, hasDel := false } := by unfold clsIn; rw [hC] <;> rfl
  obtain ⟨mb, hB, hboot⟩ := B
  have hc0 : ∀ x ∈ iS.names, x.2 ≠ .cell := by decide
  have hl0 : ∀ y ∈ ([("self", Value.ref x), ("place", .int i ti)] : List (Str × Value)), iS.names.lookup y.1 = some .local := by
    intro y hy
    rcases List.mem_cons.mp hy with rfl | hy
    · rfl
    · rcases List.mem_cons.mp hy with rfl | hy
      · rfl
      · cases hy
  refine ks_codeAny_call_defAt (args := ⟨[.ref x, .int i ti], []⟩) (fd := ksFn "__init__" qI (iA a1 a2) (iB (va :: vb :: vr) p1 p2 p3 p4 p5 p6 q1 q2 q3 q4) iS .none .none doc pm an (.ref cda) ct cc) (body := iB (va :: vb :: vr) p1 p2 p3 p4 p5 p6 q1 q2 q3 q4)
    (binds := [("self", .ref x), ("place", .int i ti)]) hroom (X _ _ ho) rfl hlim (codeRec_of X hcd) rfl (BindsTo.of_eq (by first | rfl | with_unfolding_all rfl)) hc0 hl0 (fun h₁ hns hk₁ => ?_)
  have X₁ : K.In h₁ := X.keeps hk₁
  have hx₁ := hk₁ _ _ hx
  have hxL : s.heap.objs.size ≠ x := Nat.ne_of_gt (Heap.lt_size hx)
  have hLlt : s.heap.objs.size < h₁.objs.size := hns.lt
  obtain ⟨hp, g, d, tk0, os⟩ := s
  dsimp only at hns hk₁ hxL hLlt hx G hB hlim X hq
  show _root_.PySem.wpAt _ _ _ (execs (iB (va :: vb :: vr) p1 p2 p3 p4 p5 p6 q1 q2 q3 q4) (ksEnv qI iS hp.objs.size fI (.ref cda) cc)) _ _ _
  unfold iB
  refine ks_wpAt_execs_cons (ks_wpAt_Expr_any (ks_wpAt_MethodCall ?_ (super_he hpos)))
  refine ks_wpAt_super_base (env := ksEnv qI iS hp.objs.size fI (.ref cda) cc) rfl rfl (by decide) rfl (X₁ _ _ ho) rfl (by first | rfl | with_unfolding_all rfl) rfl (X₁ _ _ hcode) rfl hvs hfile T.top ?_
  refine ks_loadName_global rfl rfl (loadGlobal_builtin (env := ksEnv qI iS hp.objs.size fI (.ref cda) cc) (G.keeps hk₁) T.noS (hB.keeps hk₁) ((hboot _ (by decide +kernel)).trans (by first | rfl | kernel_rfl | decide +kernel)) ⟨rfl, ?_⟩)
  refine wpAny_loadName_free rfl rfl rfl ⟨_, X₁ _ _ hcell, rfl⟩ ?_
  refine wpAny_loadName_local rfl rfl hns rfl ?_
  refine ks_wpAny_isType_cls (X₁ _ _ hC) rfl ⟨rfl, ?_⟩
  refine ks_wpAny_call_super (X₁ _ _ hC) rfl hx₁ rfl (fun c e => by cases e) (looks_mroIn X₁ T.meC) (fun h₂ e₂ k₂ => ?_)
  have X₂ : K.In h₂ := X₁.keeps k₂
  have hx₂ := k₂ _ _ hx₁
  have I₂ : PySem.W.InstAt h₂ x (excO C t0) C none := ⟨hx₂, rfl, rfl, trivial⟩
  have hup := T.up
  unfold ks_superIn at hup
  rw [hcl] at hup
  refine kxs_getMethod kxs_ValueError e₂ (looks_opaque X₂ T.opq) (l₀ := .ref C :: bm) (fun A Q E s k q => wpAny_bind ((looks_clsIn X₂ hcl) A _ E s k (wpAny_pure q))) rfl X₂ hup (I₂.type.andThen (looks_subIn X₂ T.veC)) (ks_ne X₂ I₂ hcl) (by decide) ?_
  have hmw : (h₂.push (kxs_mw "ValueError.__init__" x)).get? h₂.objs.size = some (kxs_mw "ValueError.__init__" x) := Heap.get?_push_at rfl rfl
  have k₃ : ∀ b o, h₂.get? b = some o → (h₂.push (kxs_mw "ValueError.__init__" x)).get? b = some o := fun b o e => Heap.get?_push_of_some _ e
  have n₃ := (hns.keeps k₂).keeps k₃
  refine kxs_callWith (i := "ValueError.__init__") (x := x) (by rfl) (evalArgs_plain ?_)
  refine spliced_cons (wpAny_JoinedStr (pos := p4) (parts_eval (m := fun y => List.lookup y ([(("self" : Str), Value.ref x), (("place" : Str), .int i ti)].reverse)) hi rfl rfl rfl _ _ _ _ T.pv ?_ n₃ fun out tk ho => ⟨ho, ?_⟩))
  · have e0 : Str.empty.length = 0 := rfl
    rw [e0, sizeLine_eq, List.length_cons, List.length_cons]
    omega
  refine spliced_nil ⟨hmw, ?_⟩
  have hu : hp.objs.size < h₂.objs.size := (hns.keeps k₂).lt
  have ux : h₂.objs.size ≠ x := Nat.ne_of_gt (Heap.lt_size hx₂)
  have F₃ : Fr (hideAll hp [x]) hp.objs.size (h₂.push (kxs_mw "ValueError.__init__" x)) (fun y => List.lookup y ([(("self" : Str), Value.ref x), (("place" : Str), .int i ti)].reverse)) :=
    ⟨n₃, fun b o e => k₃ b o (k₂ b o (hk₁ b o (of_hideAll _ e))), Nat.le_of_eq (hideAll_size _ _)⟩
  have X₀ : K.In (hideAll hp [x]) := fun b o e => hideAll_get [x] (X b o e) fun m => by
    rw [List.mem_singleton.mp m, hnx] at e
    cases e
  have N₃ : News (hideAll hp [x]) hp.objs.size (h₂.push (kxs_mw "ValueError.__init__" x)) [(h₂.objs.size, kxs_mw "ValueError.__init__" x), (x, excO C t0)] := fun p hp' => by
    rcases List.mem_cons.mp hp' with rfl | hp'
    · refine ⟨hmw, Nat.ne_of_gt hu, ?_⟩
      cases z : (hideAll hp [x]).get? h₂.objs.size with
      | none => rfl
      | some o => exact absurd (Nat.lt_trans hu (Heap.lt_size (of_hideAll _ z))) (Nat.lt_irrefl _)
    · obtain rfl := List.mem_singleton.mp hp'
      exact ⟨k₃ _ _ hx₂, Ne.symm hxL, hideAll_none [x] List.mem_cons_self⟩
  refine kxs_call (t := t0) (dv := none) (c2 := .none) F₃ X₀ N₃ F.excBase_ValueError T.xi List.mem_cons_self (.tail ux (.head fun p h => nomatch h)) (one_sz _) (fun t1 h₄ F₄ N₄ _ => ?_)
  have hx₄ := (N₄ (x, excO C t1) (.tail _ (.tail _ (.head _)))).1
  have n₄ := F₄.ns
  have k₄ : ∀ b o, b ≠ x → hp.get? b = some o → h₄.get? b = some o := fun b o hb e => F₄.keep b o (hideAll_get [x] e fun m => hb (List.mem_singleton.mp m))
  refine wpAt_of_wpAny ?_
  have X₄ : K.In h₄ := X₀.keeps F₄.keep
  show wpAny _ _ (execs _ _) _ _ _
  refine wpAny_execs_cons (plainObj_wpAny_Assign_Attribute ?_)
  refine wpAny_Name (wpAny_loadName_local rfl rfl n₄ rfl ?_) (by decide)
  refine wpAny_Name (wpAny_loadName_local rfl rfl n₄ rfl ?_) (by decide)
  refine set_plain X₄ (ox := excO C t1) (od := none) ⟨hx₄, rfl, rfl, trivial⟩ T.sa ?_
  refine exc_osa X₄ hx₄ hcl (show refsVE (.ref C :: bm) = true from hbm) rfl T.noN (fun h₅ tk₅ dx k₅ dn dne hx₅ hn₅ => ?_)
  show wpAny _ _ (execs _ _) _ _ _
  refine wpAny_execs_nil (hq h₅ _ dx t1 ⟨fun b o hb e => k₅ b o hb (k₄ b o hb e), hx₅, ?_, dne, hn₅⟩)
  exact Nat.le_of_lt (Nat.lt_of_lt_of_le n₄.lt dn)
theorem er_made (T : ErTxt P K mg nm qI vals C fI) {i : Int} {ti : Tok} (X : K.In s.heap) (G : s.heap.Ns mainGlobals mg) (B : ∃ mb, s.heap.Ns builtinsNs mb ∧ ∀ x : Str, x ≠ "__name__" → mb x = bootBuiltins x)
    (hlim : s.heap.NoLimit) (hroom : A.depth + 1 < recursionLimit) (hi : i.natAbs < 10 ^ 100)
    (hq : ∀ h' tk e d, OwnMade s.heap h' e C d (.int i ti) → R (.ok (.ret (.ref e))) { s with heap := h', toks := tk }) :
    codeAny (model P w) A (.call (.ref C) ⟨[.int i ti], []⟩) R s := by
  obtain ⟨nm, q, N, bs, bm, sn, sub, ab, col, dd, k0, k1, k2, k3, k5, hC, hbm⟩ := T.cls
  obtain ⟨hp, g, dr, tk, os⟩ := s
  have k : ∀ b o, hp.get? b = some o → ((hp.push (kdv_tup [.int i ti])).push (excO C hp.objs.size)).get? b = some o := fun b o e => Heap.get?_push_of_some _ (Heap.get?_push_of_some _ e)
  have hget : ((hp.push (kdv_tup [.int i ti])).push (excO C hp.objs.size)).get? (hp.objs.size + 1) = some (excO C hp.objs.size) := by heap_get
  have hnx : K.lookup (hp.objs.size + 1) = none := by
    cases e : K.lookup (hp.objs.size + 1) with
    | none => rfl
    | some o =>
      have z : hp.get? (hp.objs.size + 1) = some o := X _ _ e
      exact absurd (Nat.lt_of_succ_lt (Heap.lt_size z)) (Nat.lt_irrefl _)
  refine call_own F.excBase_ValueError (fun X => refsVE_contains X bm hbm) (X _ _ hC) (looks_findIn X T.iC) (fun self => bind_fn X self T.tC) (one_sz _) ?_
  obtain ⟨mb, hB, hboot⟩ := B
  refine er_init (s := ⟨(hp.push (kdv_tup [.int i ti])).push (excO C hp.objs.size), g, dr, tk, os⟩) T (X.keeps k) (G.keeps k) ⟨mb, hB.keeps k, hboot⟩ (hlim.keeps k) hget hnx ?_ hi fun h' tk' dx t1 ⟨k', hx, dn, dne, hns⟩ => ?_
  · show A.depth + 1 < recursionLimit
    exact hroom
  · have old : ∀ b o, hp.get? b = some o → h'.get? b = some o := fun b o e => k' b o (Nat.ne_of_lt (Nat.lt_succ_of_lt (Heap.lt_size e))) (k b o e)
    have z : hp.objs.size + 1 + 1 ≤ dx := by
      first
        | (simpa only [Heap.size_push] using dn)
        | exact dn
        | (have q := dn; rw [Heap.size_push, Heap.size_push] at q; exact q)
    exact ⟨rfl, hq h' tk' (hp.objs.size + 1) dx ⟨old, Nat.le_succ _, ⟨_, _, hx, rfl, rfl, rfl, rfl⟩, Nat.le_trans (Nat.le_trans (Nat.le_succ _) (Nat.le_succ _)) z, dne, hns⟩⟩
end
end ErX
end PySem
namespace L2
open PySem PySem.Spec PyProof.Rows
theorem relO_er {v : V} {v' : Value} (r : RelV v v') (f : Str) : RelO (List.lookup f [(("place" : Str), v)]) (if f = "place" then some v' else none) := by
  by_cases hw : f = "place"
  · subst hw
    rw [if_pos rfl]
    have q : List.lookup ("place" : Str) [(("place" : Str), v)] = some v := by simp [List.lookup]
    rw [q]
    exact r
  · rw [if_neg hw]
    have qw : (f == ("place" : Str)) = false := by simpa using hw
    have q2 : List.lookup f [(("place" : Str), v)] = none := by simp [List.lookup, qw]
    rw [q2]
    trivial
section
variable {X : Cx} {C fI : Addr} {nm qI : Str} {vals : List Expr}
/-- E(e), e an int -/
def tMkEr (C : Addr) (ta : TA) : St → Hp → XK → Prop := fun σ H Q => ta σ H fun vs H1 => ∃ i : Int, vs = [.int i] ∧ i.natAbs < 10 ^ 100 ∧ ∀ d, H1 d = none → Q (.ref C) (some d) (upd H1 d (.xd [(("place" : Str), .int i)]))
theorem pmk_er {a : Expr} {ta : TA} {p pos : Pos} {k : Nat} (T : PySem.ErX.ErTxt X.prog X.K X.mg nm qI vals C fI) (hr : Room k X.A) (hk : 1 ≤ k) (ha : PA X [a] ta) (hg : Gl X nm := by rfl) (hd : (nm == ("__debug__" : Str)) = false := by decide)
    (he : starEach (a :: []) X.env = (false, eval a X.env) :: starEach [] X.env := by rfl) (hpl : (backTo pos (starEach [] X.env)).any (·.1) = false := by rfl) :
    PMk X (.Call (.Name nm p) [a] [] pos) (tMkEr C ta) := by
  intro pins s σ H Q I h
  refine wpAny_Call_Name_kw (ld_glob I hg T.gC ?_ hd)
  refine PySem.W.callWith_K (h₀ := X.base) I.ok.mod.kin T.kC (thn (ha.run pos pins s σ H _ I h) fun us s1 hh => ?_) he hpl
  obtain ⟨vs, H1, I1, r1, i, ev, hi, q1⟩ := hh
  subst ev
  refine ⟨I1.kIn, ?_⟩
  cases r1 with
  | cons rv rn =>
    rename_i v' us'
    cases rn
    obtain ⟨ti, rfl⟩ := rv
    show wpAny _ _ (call (.ref C) [.int i ti]) _ _ _
    have hlim := I1.nolimit
    have hG := I1.mod.glob.keeps I1.bk
    obtain ⟨mb, hB, hboot⟩ := I1.mod.blt
    have hB' := hB.keeps I1.bk
    obtain ⟨hp, g, dr, tk, os⟩ := s1
    refine wpAny_call (PySem.ErX.er_made T I1.kIn hG ⟨mb, hB', hboot⟩ hlim (by have := hr.dp; omega) hi fun h' tk' e d M => ?_)
    show MkP X pins σ Q (.ref e) ⟨h', g, dr, tk', os⟩
    obtain ⟨oe, fv, hoe, hc, hd, hdat, h1⟩ := M.obj
    have hns := M.ns
    obtain ⟨G', g1, g2⟩ := restrict h' fun b => decide (b ≠ e)
    have gk : ∀ b, b ≠ e → G'.get? b = h'.get? b := fun b hb => g1 b (decide_eq_true hb)
    have ge : G'.get? e = none := g2 e (by simp)
    have old : ∀ b o, hp.get? b = some o → G'.get? b = some o := fun b o q => (gk b (Nat.ne_of_lt (Nat.lt_of_lt_of_le (Heap.lt_size q) M.new))).trans (M.keep b o q)
    have ob : ObjOk X.prog X.w (upd H1 d (.xd [(("place" : Str), .int i)])) G' d (.xd [(("place" : Str), .int i)]) :=
      ⟨_, hns.at (fun o q => (gk d M.dne).trans q), fun f => relO_er (v := .int i) (v' := .int i ti) ⟨ti, rfl⟩ f⟩
    have J : Inv X pins σ (upd H1 d (.xd [(("place" : Str), .int i)])) ⟨G', g, dr, tk', os⟩ := I1.laid (t' := tk') old M.dbig ob
    refine ⟨e, oe, fv, ⟨G', g, dr, tk', os⟩, _, .ref C, some d, rfl, J, fun b o q => ?_, ge, hoe, ⟨hc, hd⟩, hdat, h1, ?_, rfl, I1.bare, raises_own T.exC T.tyC, q1 d (I1.hok.fresh M.dbig)⟩
    · by_cases hb : b = e
      · have q' : G'.get? b = some o := q
        rw [hb, ge] at q'; cases q'
      · exact (gk b hb).symm.trans q
    · rw [upd_ne (Ne.symm M.dne)]
      exact I1.hok.fresh M.new
/-- raise E(e) -/
def tRaiseEr (C : Addr) (W : WX) (ta : TA) : TS := fun _ σ H => tMkEr C ta σ H fun cls d H' => W cls d σ H'
theorem ps_raiseEr {a : Expr} {ta : TA} {W : WX} {p pos pos2 : Pos} {k : Nat} (hc : X.calm = true) (T : PySem.ErX.ErTxt X.prog X.K X.mg nm qI vals C fI) (hr : Room k X.A) (hk : 1 ≤ k) (tk : Takes X W) (ha : PA X [a] ta) (hg : Gl X nm := by rfl)
    (hd : (nm == ("__debug__" : Str)) = false := by decide) (he : starEach (a :: []) X.env = (false, eval a X.env) :: starEach [] X.env := by rfl) (hpl : (backTo pos (starEach [] X.env)).any (·.1) = false := by rfl) :
    PS X (.Raise (some (.Call (.Name nm p) [a] [] pos)) none pos2) (tRaiseEr C W ta) := ps_raise hc tk (pmk_er T hr hk ha hg hd he hpl)
end
end L2
set_option Elab.async false
set_option linter.all false
set_option maxRecDepth 100000
set_option autoImplicit false
namespace Dw
/-- a statement, wrapped -/
def Qt (P : Prop) : Prop := P
theorem Qt.un {P : Prop} (h : Qt P) : P := h
theorem Qt.tt {P : Prop} (h : P) : Qt P = True := eq_true h
open PySem PySem.Spec PyProof.Rows L2 TL
def Keep (st : Addr) (H H' : Hp) : Prop := ∀ a o, a ≠ st → H a = some o → H' a = some o
def Stt (H : Hp) (st : Addr) : Prop := ∃ k v : Int, H st = some (.lst [.int k, .int v])
def Dr (st : Addr) (H H' : Hp) : Prop := Keep st H H' ∧ Stt H' st
def Wd (K : PySem.W.Frag) (st sc : Addr) (ns : List Int) (H : Hp) : Prop :=
  Stt H st ∧ ∀ H', Keep st H H' → SqL K H' sc (ns.map V.int)
section
variable {K : PySem.W.Frag} {st sc p D : Addr} {ns : List Int} {H H1 H2 H3 : Hp} {o : HO}
theorem Keep.refl (st : Addr) (H : Hp) : Keep st H H := fun _ _ _ h => h
theorem Keep.trans (a : Keep st H H1) (b : Keep st H1 H2) : Keep st H H2 := fun x o n h => b x o n (a x o n h)
theorem Keep.of (a : Same H H1) : Keep st H H1 := fun x o _ h => a x o h
theorem Wd.next (w : Wd K st sc ns H) (d : Dr st H H1) : Wd K st sc ns H1 := ⟨d.2, fun H' k => w.2 H' (d.1.trans k)⟩
theorem Wd.list (w : Wd K st sc ns H) : SqL K H sc (ns.map V.int) := w.2 H (Keep.refl st H)
theorem Dr.trans (a : Dr st H H1) (b : Dr st H1 H2) : Dr st H H2 := ⟨a.1.trans b.1, b.2⟩
theorem Stt.ne (s : Stt H st) (h : H p = none) : p ≠ st := fun e => by
  obtain ⟨k, v, q⟩ := s
  rw [e, q] at h
  cases h
theorem Stt.upd (s : Stt H st) (h : p ≠ st) : Stt (upd H p o) st := by
  obtain ⟨k, v, q⟩ := s
  exact ⟨k, v, by rw [upd_ne h.symm]; exact q⟩
theorem same_new (h : H p = none) : Same H (upd H p o) := fun b x e => by
  rw [upd_ne (ne_of_none e h)]
  exact e
theorem Dr.same (w : Stt H st) (a : Same H H1) : Dr st H H1 := ⟨Keep.of a, by
  obtain ⟨k, v, q⟩ := w
  exact ⟨k, v, a _ _ q⟩⟩
theorem Dr.new (d : Dr st H H1) (h : H1 p = none) : Dr st H (upd H1 p o) := d.trans (Dr.same d.2 (same_new h))
theorem Dr.put (w : Stt H st) (d : Dr st H H1) (h : H p = none) : Dr st H (upd H1 p o) :=
  ⟨fun a x n e => by
    rw [upd_ne (ne_of_none e h)]
    exact d.1 a x n e, d.2.upd (w.ne h)⟩
theorem Wd.new (w : Wd K st sc ns H) (h : H p = none) : Wd K st sc ns (upd H p o) := w.next (Dr.same w.1 (same_new h))
theorem Wd.same (w : Wd K st sc ns H) (h : Same H H1) : Wd K st sc ns H1 := w.next (Dr.same w.1 h)
theorem Dr.at (d : Dr st H H1) (n : p ≠ st) (h : H p = some o) : H1 p = some o := d.1 p o n h
end
def Tk (H : Hp) (p : Addr) (xs : List V) : Prop := ∃ o : Obj, o.dict = Option.none ∧ H p = some (.frz o (.tup xs))
section
variable {K : PySem.W.Frag} {st sc p : Addr} {H H1 : Hp} {xs : List V}
theorem Tk.seq (h : Tk H p xs) : SqT K H p xs := let ⟨o, _, e⟩ := h; .inl (.inr ⟨o, e⟩)
theorem Tk.ne (h : Tk H p xs) (s : Stt H st) : p ≠ st := fun e => by
  obtain ⟨o, _, q⟩ := h
  obtain ⟨k, v, r⟩ := s
  rw [e, r] at q
  cases q
theorem Tk.next (h : Tk H p xs) (s : Stt H st) (d : Dr st H H1) : Tk H1 p xs := by
  have n := h.ne s
  obtain ⟨o, a, e⟩ := h
  exact ⟨o, a, d.1 _ _ n e⟩
theorem Tk.same (h : Tk H p xs) (d : Same H H1) : Tk H1 p xs := let ⟨o, a, e⟩ := h; ⟨o, a, d _ _ e⟩
end
section
variable {X : Cx}
def zTup (K : PySem.W.Frag) : List V → Hp → VK → Prop := fun xs H Q => ∃ p ys, xs = [V.ref p] ∧ SqL K H p ys ∧
  ∀ (l : Addr) (o : Obj), H l = none → o.dict = Option.none → Q (.ref l) (upd H l (.frz o (.tup ys)))
theorem y_tup : CallR X (.type "tuple") (zTup X.K) := by
  intro pins s σ H xs us Q I r h
  obtain ⟨p, ys, rfl, hq, q⟩ := h
  obtain ⟨u, rfl, rx⟩ := vals1 r
  cases rx
  obtain ⟨its, r', pl, hz⟩ := I.list hq
  have hlen := r'.length
  refine call_tuple_list pl.isList (fun h' kp => ?_) (by simp only [List.size_toArray] <;> omega)
  have I1 : Inv X pins σ H { s with heap := h' } := I.kept (t' := s.toks) kp
  refine ⟨.ref h'.objs.size, _, I1.laid (t' := s.toks) (o := .frz { cls := .type "tuple", data := .seq its.toArray } (.tup ys)) (fun b o e => Heap.get?_push_of_some _ e) (Nat.le_refl _) ?_, rfl, q _ _ (I1.hok.fresh (Nat.le_refl _)) rfl⟩
  exact ⟨Heap.get?_push_size _ rfl, hz, its, r', IsTup.new _ _⟩
def zTT (t : TA) : TE := fun σ H Q => t σ H fun xs H1 => xs.length ≤ sizeLine ∧ ∀ (p : Addr) (o : Obj), H1 p = none → o.dict = Option.none → Q (.ref p) (upd H1 p (.frz o (.tup xs)))
theorem y_tt {es : List Expr} {t : TA} {pos : Pos} {x1} (h : PA X es t) : PE X (.Tuple es x1 pos) (zTT t) := by
  refine ⟨fun pins s σ H Q I hq => ?_⟩
  refine wpAny_Tuple_spliced (thn (h.run pos pins s σ H _ I hq) fun us s1 ⟨xs, H1, I1, r, z, q⟩ => ⟨by rw [← r.length]; exact z, ?_⟩)
  refine ⟨.ref s1.heap.objs.size, _, I1.laid (t' := s1.toks) (o := .frz { cls := .type "tuple", data := .seq us.toArray } (.tup xs)) (fun b u e => Heap.get?_push_of_some _ e) (Nat.le_refl _) ?_, rfl, q _ _ (I1.hok.fresh (Nat.le_refl _)) rfl⟩
  exact ⟨Heap.get?_push_size _ rfl, z, us, r, IsTup.new _ _⟩
end
def zLenS : List V → Hp → VK → Prop := fun xs H Q => ∃ z, xs = [V.str z] ∧ z.length ≤ sizeLine ∧ Q (.int z.length) H
def zLenQ (K : PySem.W.Frag) : List V → Hp → VK → Prop := fun xs H Q => ∃ p ys, xs = [V.ref p] ∧ (SqL K H p ys ∨ SqT K H p ys) ∧ Q (.int ys.length) H
def zInt : List V → Hp → VK → Prop := fun xs H Q => (∃ i, xs = [V.int i] ∧ Q (.int i) H) ∨ ∃ k, xs = [V.bl k] ∧ Q (.int (if k then 1 else 0)) H
def zJoin (K : PySem.W.Frag) : V → List V → Hp → VK → Prop := fun x xs H Q => ∃ a p, ∃ ys : List Str, x = .str a ∧ xs = [V.ref p] ∧ (SqL K H p (ys.map V.str) ∨ SqT K H p (ys.map V.str)) ∧
    (ys.map (·.length)).sum + ys.length * a.length ≤ 16777216 ∧ Q (.str (Txt.join a ys)) H
def zAdS : R2 := fun x y H Q => ∃ i j, x = .str i ∧ y = .str j ∧ i.length + j.length ≤ sizeLine ∧ Q (.str (i ++ j)) H
def zIsN (neg : Bool) : R2 := fun x y H Q => y = .non ∧ Q (.bl (if neg then !decide (x = .non) else decide (x = .non))) H
section
variable {X : Cx}
theorem y_lenS : CallR X (.builtin "len") zLenS := call_len_str
theorem y_lenQ : CallR X (.builtin "len") (zLenQ X.K) := call_len_seq
theorem y_int : CallR X (.type "int") zInt := call_int1
theorem y_join : MtR X "str.join" (zJoin X.K) := mt_join
theorem y_adS : OpR X (binaryOp .Add) zAdS := op_add_str
theorem y_isN : OpR X (compareOp .Is) (zIsN false) := op_isN
theorem y_notN : OpR X (compareOp .IsNot) (zIsN true) := op_notN
end
section
variable {σ : L2.St} {H : Hp} {Q : VK} {QB : Bool → Hp → Prop} {QA : List V → Hp → Prop} {QO : Option Int → Hp → Prop} {QS : Str → Hp → Prop} {QG : L2.St → Hp → Prop}
  {nx bk ct : L2.St → Hp → Prop} {rt : VK} {t u : TS} {ta tb tc : TE} {tA tB' : TT} {as : TA} {g : TG} {v : V} {i j : Int} {x y : Str} {b : Bool} {r r' : R2} {P : Prop} {E : XK} {K : PySem.W.Frag}
theorem rd_eqI (h : Q (.bl (decide (i = j))) H) : rEq (.int i) (.int j) H Q := ⟨rfl, by
  rw [show decide (V.int i = V.int j) = decide (i = j) by simp only [V.int.injEq]]
  exact h⟩
theorem rd_neI (h : Q (.bl (!decide (i = j))) H) : rNe (.int i) (.int j) H Q := ⟨rfl, by
  rw [show decide (V.int i = V.int j) = decide (i = j) by simp only [V.int.injEq]]
  exact h⟩
theorem rd_eqS (h : Q (.bl (decide (x = y))) H) : rEq (.str x) (.str y) H Q := ⟨rfl, by
  rw [show decide (V.str x = V.str y) = decide (x = y) by simp only [V.str.injEq]]
  exact h⟩
theorem rd_neS (h : Q (.bl (!decide (x = y))) H) : rNe (.str x) (.str y) H Q := ⟨rfl, by
  rw [show decide (V.str x = V.str y) = decide (x = y) by simp only [V.str.injEq]]
  exact h⟩
theorem if_dec {c A B : Prop} [Decidable c] (h1 : c → A) (h2 : ¬ c → B) : if decide c = true then A else B := ite2 (fun e => h1 (of_decide_eq_true e)) (fun e => h2 fun z => e (decide_eq_true z))
end
theorem line_of {n : Nat} (h : n ≤ 10000000) : n ≤ sizeLine := Nat.le_trans h (by decide)
theorem lt_line {n : Nat} (h : n < 10000000) : n < sizeLine := Nat.lt_of_lt_of_le h (by decide)
theorem len_app (x y : Str) : (x ++ y).length = x.length + y.length := by rw [len_tl, len_tl, len_tl, tl_append, List.length_append]
theorem len_of (s : String) : (Str.ofString s).length = s.length := by rw [len_tl, tl_ofString, List.length_map]; rfl
theorem len_empty : Str.empty.length = 0 := rfl
def Dn (K : PySem.W.Frag) (mg : Str → Option Value) (x : Str) (st : Stmt) (ps : List Str) : Prop := ∃ f fd, mg x = some (.ref f) ∧ Fun K x x st f fd ∧ ∀ (s : Shared) (us : List Value), us.length = ps.length → BindsTo s fd ⟨us, []⟩ (ps.zip us)
def OkD (P : Program) (w : World) (K : PySem.W.Frag) (mg : Str → Option Value) (base : Heap) (CX : CXT) (k : Nat) (x : Str) (ps : List Str) (sp : Sp) : Prop :=
  ∃ f fd, mg x = some (.ref f) ∧ PySem.W.keepIn K (.ref f) = true ∧ Binds K fd ps [] ∧ FnOk P w K mg base CX k f fd ps sp
theorem dn_mk {K : PySem.W.Frag} {h : Heap} {mg : Str → Option Value} {x : Str} {st : Stmt} {ps : List Str} {f : Addr} {oc kV doc pm cdv ct : Value} {od an : Option Addr} {osl : Array (Option Value)} (X : K.In h) (G : h.Ns mainGlobals mg)
    (a : PySem.W.nsIn K mainGlobals x = some (some (.ref f))) (l : K.lookup f = some ⟨oc, od, .func (PySem.W.fnOf x x (defArgs st) (defBody st) (defScope st) .none kV doc pm an cdv ct), osl⟩)
    (c : PySem.W.codeIn K cdv x = true) (k : PySem.W.keepIn K (.ref f) = true)
    (b : ∀ (kV doc pm : Value) (an : Option Addr) (cdv ct : Value) (us : List Value), us.length = ps.length → bindArgs (PySem.W.fnOf x x (defArgs st) (defBody st) (defScope st) .none kV doc pm an cdv ct) ⟨us, []⟩ = pure (ps.zip us)) : Dn K mg x st ps :=
  ⟨f, _, PySem.W.mg_of X G a, fun_mk l c k, fun s us hl => .of_eq (b kV doc pm an cdv ct us hl)⟩
theorem binds_of {K : PySem.W.Frag} {fd : FuncData} {ps : List Str} (b : ∀ (s : Shared) (us : List Value), us.length = ps.length → BindsTo s fd ⟨us, []⟩ (ps.zip us)) : Binds K fd ps [] := fun s us _ hl => by
  rw [List.append_nil] at hl ⊢
  exact b s us hl
theorem ok_F {P : Program} {w : World} {K : PySem.W.Frag} {mg : Str → Option Value} {base : Heap} {k : Nat} {x : Str} {st : Stmt} {ps N : List Str} {sp : Sp} {f : Addr} {fd : FuncData} (F : Fun K x x st f fd) (S : FnScope N ps (defScope st))
    (len : ∀ vs H Q E, sp vs H Q E → vs.length = ps.length)
    (hbody : ∀ (cdv : Value) (A : Around) (outer : List Env) (s : Shared) (H : Hp) (vs : List V) (Q : VK) (E : XK), Room k (A.deeper (envOfC x (defScope st) s.heap.objs.size f cdv)) → sp vs H Q E →
      ∃ t, PSs (cxOf CX0 P w K mg base N x (defScope st) f cdv A outer s H E).nox (defBody st) t ∧ t ⟨fun _ H' => Q .non H', Q, fun _ _ => False, fun _ _ => False⟩ (start N vs) H) : FnOk P w K mg base CX0 (k + 1) f fd ps sp :=
  F.ok S len fun cdv A outer s H vs Q E hr h => hbody cdv A outer s H vs Q E hr h
theorem ok_mk {P : Program} {w : World} {K : PySem.W.Frag} {mg : Str → Option Value} {base : Heap} {k : Nat} {x : Str} {st : Stmt} {ps N : List Str} {sp : Sp} (d : Dn K mg x st ps) (S : FnScope N ps (defScope st))
    (len : ∀ vs H Q E, sp vs H Q E → vs.length = ps.length)
    (hbody : ∀ (f : Addr) (cdv : Value) (A : Around) (outer : List Env) (s : Shared) (H : Hp) (vs : List V) (Q : VK) (E : XK), Room k (A.deeper (envOfC x (defScope st) s.heap.objs.size f cdv)) → sp vs H Q E →
      ∃ t, PSs (cxOf CX0 P w K mg base N x (defScope st) f cdv A outer s H E).nox (defBody st) t ∧ t ⟨fun _ H' => Q .non H', Q, fun _ _ => False, fun _ _ => False⟩ (start N vs) H) : OkD P w K mg base CX0 (k + 1) x ps sp := by
  obtain ⟨f, fd, m, F, b⟩ := d
  exact ⟨f, fd, m, F.kp, binds_of b, F.ok S len fun cdv A outer s H vs Q E hr h => hbody f cdv A outer s H vs Q E hr h⟩
section
variable {σ : L2.St} {H : Hp} {Q : VK} {QB : Bool → Hp → Prop} {K : PySem.W.Frag} {a : Addr} {xs : List V} {i k : Int} {ta : TE}
theorem atI_in {α : Type} {xs : List α} {i : Int} (h0 : 0 ≤ i) (h1 : i < xs.length) : ∃ v, v ∈ xs ∧ atI xs i = some v := by
  obtain ⟨j, rfl⟩ := Int.eq_ofNat_of_zero_le h0
  have hj : j < xs.length := by omega
  exact ⟨xs[j], List.getElem_mem hj, atI_nat (List.getElem?_eq_getElem hj)⟩
end
theorem cut_one {z : Str} {k : Int} (h0 : 0 ≤ k) (h1 : k < z.length) : ∃ c, c ∈ tl z ∧ cutS z (some k) (some (k + 1)) = ⟨#[c]⟩ := by
  obtain ⟨j, rfl⟩ := Int.eq_ofNat_of_zero_le h0
  have hj : j < (tl z).length := by rw [← len_tl]; omega
  have hz : z.length = (tl z).length := len_tl z
  refine ⟨(tl z)[j], List.getElem_mem hj, ?_⟩
  unfold cutS
  rw [show ((j : Int) + 1) = ((j + 1 : Nat) : Int) by omega, HT.sIx_nat, HT.sIx_nat, Nat.min_eq_left (by omega), Nat.min_eq_left (by omega), show j + 1 - j = 1 by omega]
  show (⟨(List.take 1 (List.drop j (tl z))).toArray⟩ : Str) = _
  rw [List.drop_eq_getElem_cons hj]
  rfl
theorem joinL_len (S : List Nat) : ∀ ps : List (List Nat), (joinL S ps).length ≤ (ps.map (·.length)).sum + ps.length * S.length
  | [] => Nat.zero_le _
  | [p] => by simp [joinL]
  | p :: q :: r => by
    have h := joinL_len S (q :: r)
    have e : joinL S (p :: q :: r) = p ++ (S ++ joinL S (q :: r)) := by first | rfl | simp [joinL]
    rw [e, List.length_append, List.length_append]
    simp only [List.map_cons, List.sum_cons, List.length_cons] at h ⊢
    rw [Nat.succ_mul]
    omega
theorem joinL_mem {S : List Nat} {c : Nat} : ∀ {ps : List (List Nat)}, c ∈ joinL S ps → c ∈ S ∨ ∃ p ∈ ps, c ∈ p
  | [], h => by simp [joinL] at h
  | [p], h => .inr ⟨p, by simp, by simpa [joinL] using h⟩
  | p :: q :: r, h => by
    have e : joinL S (p :: q :: r) = p ++ (S ++ joinL S (q :: r)) := by first | rfl | simp [joinL]
    rw [e] at h
    rcases List.mem_append.mp h with h | h
    · exact .inr ⟨p, by simp, h⟩
    · rcases List.mem_append.mp h with h | h
      · exact .inl h
      · rcases joinL_mem h with h | ⟨p', hp, h⟩
        · exact .inl h
        · exact .inr ⟨p', List.mem_cons_of_mem _ hp, h⟩
theorem joinL_nil : ∀ ps : List (List Nat), joinL [] ps = ps.flatten
  | [] => rfl
  | [p] => by simp [joinL]
  | p :: q :: r => by
    have e : joinL [] (p :: q :: r) = p ++ ([] ++ joinL [] (q :: r)) := by first | rfl | simp [joinL]
    rw [e, joinL_nil (q :: r)]
    rfl
theorem sum_le {B : Nat} : ∀ {l : List Nat}, (∀ x ∈ l, x ≤ B) → l.sum ≤ l.length * B
  | [], _ => Nat.zero_le _
  | x :: l, h => by
    have h1 := h x List.mem_cons_self
    have h2 := sum_le (l := l) fun y hy => h y (List.mem_cons_of_mem _ hy)
    rw [List.sum_cons, List.length_cons, Nat.succ_mul]
    omega
theorem lens_le {B : Nat} {xs : List Str} (h : ∀ x ∈ xs, x.length ≤ B) : (xs.map (·.length)).sum ≤ xs.length * B := by
  have q := sum_le (B := B) (l := xs.map (·.length)) fun n hn => by
    obtain ⟨x, hx, rfl⟩ := List.mem_map.mp hn
    exact h x hx
  rwa [List.length_map] at q
theorem tl_joined (a : Str) (xs : List Str) : tl (Txt.join a xs) = joinL (tl a) (xs.map tl) := by rw [join_eq, tl_join]
theorem len_joined (a : Str) (xs : List Str) : (Txt.join a xs).length ≤ (xs.map (·.length)).sum + xs.length * a.length := by
  rw [len_tl, tl_joined, len_tl a]
  have h := joinL_len (tl a) (xs.map tl)
  rw [List.length_map, List.map_map] at h
  have e : (xs.map (·.length)) = xs.map ((·.length) ∘ tl) := List.map_congr_left fun x _ => len_tl x
  rw [e]
  exact h
theorem mem_joined {a : Str} {xs : List Str} {c : Nat} (h : c ∈ tl (Txt.join a xs)) : c ∈ tl a ∨ ∃ x ∈ xs, c ∈ tl x := by
  rw [tl_joined] at h
  rcases joinL_mem h with h | ⟨p, hp, h⟩
  · exact .inl h
  · obtain ⟨x, hx, rfl⟩ := List.mem_map.mp hp
    exact .inr ⟨x, hx, h⟩
theorem tl_lit0 : tl (Str.ofString "") = [] := by rw [tl_ofString]; rfl
theorem len_lit0 : (Str.ofString "").length = 0 := by rw [len_of]; rfl
theorem len_dot : (Str.ofString ".").length = 1 := by rw [len_of]; rfl
def Asc (x : Str) : Prop := ∀ c ∈ tl x, c < 128
theorem ok_asc {x : Str} (h : Asc x) : PyData.strOk x = true := by
  unfold PyData.strOk
  rw [Array.all_eq_true']
  exact fun c hc => decide_eq_true (Nat.lt_trans (h c (Array.mem_def.mp hc)) (by decide))
section
variable {K : PySem.W.Frag} {H : Hp} {Q : VK} {p q : Addr} {xs ys : List Str} {v : V} {t : Value} {a b : String} {r : Bool} {zs : List V}
theorem rd_isi (c : TyX K H v (.type a)) (e : kitB a b = some r) (h : Q (.bl r) H) : rIsi K [v, .ty b] H Q := ⟨v, .ty b, .type a, .type b, r, rfl, .ty b, c, kit_ty e, h⟩
theorem Tk.ty {p : Addr} {zs : List V} (h : Tk H p zs) : TyX K H (.ref p) (.type "tuple") := let ⟨_, _, e⟩ := h; .fTuple e
end
section
variable {σ : L2.St} {H H1 : Hp} {Q : VK} {nx bk ct : L2.St → Hp → Prop} {rt : VK} {K : PySem.W.Frag} {ta : TE} {g : TG} {tt : TT} {te : TE} {vs : List Nat} {tb : TS} {n j : Nat} {a D : Addr} {xs : List V} {J : It} {Rl : Hp → Prop} {Qd : Hp → Prop}
theorem pe_kS {X : Cx} {x z : Str} {p : Pos} (hg : Gl X x) (hm : ∃ t, X.mg x = some (.str z t)) (hd : (x == ("__debug__" : Str)) = false := by decide) : PE X (.Name x p) (tC (.str z)) := by
  obtain ⟨t, e⟩ := hm
  exact pe_glob hg e ⟨t, rfl⟩ hd
theorem pe_kI {X : Cx} {x : Str} {z : Int} {p : Pos} (hg : Gl X x) (hm : ∃ t, X.mg x = some (.int z t)) (hd : (x == ("__debug__" : Str)) = false := by decide) : PE X (.Name x p) (tC (.int z)) := by
  obtain ⟨t, e⟩ := hm
  exact pe_glob hg e ⟨t, rfl⟩ hd
end
theorem len_at : (Str.ofString "@").length = 1 := by rw [len_of]; rfl
theorem len_tr : (Str.ofString "Received: by ").length = 13 := by rw [len_of]; rfl
theorem len_rec : (Str.ofString "Recipient: ").length = 11 := by rw [len_of]; rfl
theorem len_rea : (Str.ofString "Reason: ").length = 8 := by rw [len_of]; rfl
theorem len_lt : (Str.ofString "<").length = 1 := by rw [len_of]; rfl
theorem len_gt : (Str.ofString ">").length = 1 := by rw [len_of]; rfl
theorem len_mk (l : List Nat) : (⟨l.toArray⟩ : Str).length = l.length := by rw [len_tl]
theorem len_1 (c : Nat) : (⟨#[c]⟩ : Str).length = 1 := rfl
theorem k_str {mg : Str → Option Value} {x y z : Str} {t : Tok} (a : mg x = some (.str z t)) (e : z = y) : ∃ t, mg x = some (.str y t) := ⟨t, by rw [a, e]⟩
theorem k_int {mg : Str → Option Value} {x : Str} {y z : Int} {t : Tok} (a : mg x = some (.int z t)) (e : z = y) : ∃ t, mg x = some (.int y t) := ⟨t, by rw [a, e]⟩
section
open PySem.Froz
section
variable {P : Program} {w : World} {A : Around} {E : Value → Shared → Prop} {s : Shared}
/-- the set's payload D holds the texts l, each once; its places rise -/
structure TxS (P : Program) (w : World) (D : SD) (l : List Str) : Prop where
  ok : TxOk P w D l
  nd : l.Nodup
  ris : Ris D.2.2.place.toList
  led : w.params.followText "set-order" = true ∨ D.2.2.led = true
theorem tail_ris {ep : Nat} {es1 : Array (Int × Value)} {t2 : SetTable} {wd : Bool} (h : Ris t2.place.toList) : Ris (tailTx ep es1 t2 wd).2.2.place.toList := by
  unfold tailTx
  split
  · exact relayAll_ris _ _ _
  · exact h
theorem tail_led {ep : Nat} {es1 : Array (Int × Value)} {t2 : SetTable} {wd : Bool} (h : t2.led = true) : (tailTx ep es1 t2 wd).2.2.led = true := by
  unfold tailTx
  split
  · exact (relayAll_led _ _ _).trans h
  · exact h
theorem TxS.add {D : SD} {l : List Str} {k : Str} (T : TxS P w D l) (u : Tok) (hk : k ∉ l) : TxS P w (addTx (hashStr w k) (.str k u) D) (k :: l) := by
  refine ⟨add_ok u T.ok, List.nodup_cons.mpr ⟨hk, T.nd⟩, ?_, ?_⟩
  · have r1 := layNew_ris D.2.2 D.1 (hashStr w k) (.str k u) T.ris
    unfold addTx
    refine tail_ris ?_
    split
    · exact r1
    · exact r1
  · rcases T.led with h | h
    · exact .inl h
    · have r2 := (layNew_led D.2.2 D.1 (hashStr w k) (.str k u)).trans h
      refine .inr ?_
      unfold addTx
      refine tail_led ?_
      split
      · exact r2
      · exact r2
end
end
section
variable {prog : Program} {w : World} {A : Around} {E : Value → Shared → Prop} {s : Shared}
def tr1 (ps : List (Nat × Nat)) (c : Nat) : Nat := (ps.lookup c).getD c
end
def TrI (ps : List (Nat × Nat)) (x : List Nat) (f0 : Bool) (s : Shared) (rest : List Nat) (st : List Str × Nat × Bool × List (Nat × Option Nat) × Bool) (s' : Shared) : Prop :=
  ∃ (past : List Nat) (out : List Str) (kn : List (Nat × Option Nat)) (h' : Heap) (k : Nat), x = past ++ rest ∧ st = (out, past.length, f0, kn, false) ∧ out.reverse = past.map (fun c => (⟨#[tr1 ps c]⟩ : Str)) ∧
    (∀ c v, List.lookup c kn = some v → v = some (tr1 ps c)) ∧ s' = { s with heap := h', toks := k } ∧ ∀ b o, s.heap.get? b = some o → h'.get? b = some o
theorem TrI.go {ps : List (Nat × Nat)} {x rest past : List Nat} {f0 : Bool} {s : Shared} {c e : Nat} {out : List Str} {kn : List (Nat × Option Nat)} {h' : Heap} {k : Nat} (h1 : x = past ++ c :: rest) (he : e = tr1 ps c)
    (h3 : out.reverse = past.map (fun c => (⟨#[tr1 ps c]⟩ : Str))) (h4 : ∀ c v, List.lookup c kn = some v → v = some (tr1 ps c)) (h6 : ∀ b o, s.heap.get? b = some o → h'.get? b = some o) :
    TrI ps x f0 s rest (⟨#[e]⟩ :: out, past.length + 1, f0, kn, false) { s with heap := h', toks := k } := by
  refine ⟨past ++ [c], ⟨#[e]⟩ :: out, kn, h', k, by rw [h1, List.append_assoc]; rfl, by rw [List.length_append]; rfl, ?_, h4, rfl, h6⟩
  rw [List.reverse_cons, h3, List.map_append, he]
  rfl
abbrev locS : Str := Str.ofString "abcdefghijklmnopqrstuvwxyz0123456789.-_+"
abbrev labS : Str := Str.ofString "abcdefghijklmnopqrstuvwxyz0123456789-"
def DD (l : List Nat) : Prop := ∃ i : Nat, l[i]? = some 46 ∧ l[i + 1]? = some 46
def ConsOk (S : List Nat) (n : Nat) (l : List Nat) : Prop := 1 ≤ l.length ∧ l.length ≤ n ∧ ∀ c ∈ l, c ∈ S
def LabelOk (l : List Nat) : Prop := ConsOk (tl labS) 20 l ∧ l.head? ≠ some 45 ∧ l.getLast? ≠ some 45
def LocalOk (l : List Nat) : Prop := ConsOk (tl locS) 40 l ∧ l.head? ≠ some 46 ∧ l.getLast? ≠ some 46 ∧ ¬ DD l
def DomOk (l : List Nat) : Prop := l.length ≤ 80 ∧ ∀ p ∈ spl [46] 0 [] l, LabelOk p
abbrev enS : Str := Str.ofString "abcdefghijklmnopqrstuvwxyz0123456789-_+"
abbrev en2S : Str := Str.ofString "abcdefghijklmnopqrstuvwxyz0123456789"
theorem sub_k {a b : String} (h : a.toList.all (fun c => b.toList.contains c) = true) : ∀ c ∈ tl (Str.ofString a), c ∈ tl (Str.ofString b) := by
  intro c hc
  rw [tl_ofString] at hc ⊢
  obtain ⟨d, hd, rfl⟩ := List.mem_map.mp hc
  have q := List.all_eq_true.mp h d hd
  exact List.mem_map.mpr ⟨d, by simpa using q, rfl⟩
theorem nin_k {a : String} {n : Nat} (h : a.toList.all (fun c => decide (c.toNat ≠ n)) = true) : n ∉ tl (Str.ofString a) := by
  intro hc
  rw [tl_ofString] at hc
  obtain ⟨d, hd, e⟩ := List.mem_map.mp hc
  exact of_decide_eq_true (List.all_eq_true.mp h d hd) e
theorem en_loc : ∀ c ∈ tl enS, c ∈ tl locS := sub_k (by decide +kernel)
theorem en2_lab : ∀ c ∈ tl en2S, c ∈ tl labS := sub_k (by decide +kernel)
theorem dot_loc : 46 ∈ tl locS := by rw [tl_ofString]; decide +kernel
theorem dot_en : 46 ∉ tl enS := nin_k (by decide +kernel)
theorem dot_lab : 46 ∉ tl labS := nin_k (by decide +kernel)
theorem hy_en2 : 45 ∉ tl en2S := nin_k (by decide +kernel)
/-- words with dots between -/
def Wd1 (p : List Nat) : Prop := p ≠ [] ∧ ∀ c ∈ p, c ∈ tl enS
def Gd (l : List Nat) : Prop := l ≠ [] ∧ l.head? ≠ some 46 ∧ l.getLast? ≠ some 46 ∧ ¬ DD l
theorem nodot {p : List Nat} (h : Wd1 p) {i : Nat} : p[i]? ≠ some 46 := fun e => dot_en (h.2 46 (List.mem_of_getElem? e))
theorem gd_one {p : List Nat} (h : Wd1 p) : Gd p := by
  refine ⟨h.1, fun e => ?_, fun e => ?_, fun ⟨i, e, _⟩ => nodot h e⟩
  · rw [List.head?_eq_getElem?] at e
    exact nodot h e
  · rw [List.getLast?_eq_getElem?] at e
    exact nodot h e
theorem gd_app {p q : List Nat} (h : Wd1 p) (g : Gd q) : Gd (p ++ 46 :: q) := by
  refine Dw.Qt.un ?_
  simp (disch := (with_unfolding_all
    (obtain ⟨g1, g2, g3, g4⟩ := g
     refine ⟨by simp, ?_, ?_, ?_⟩
     · cases p with
       | nil => exact absurd rfl h.1
       | cons a r =>
         intro e
         exact nodot h (i := 0) (by simpa using e)
     · rw [List.getLast?_append]
       cases q with
       | nil => exact absurd rfl g1
       | cons b r =>
         rw [List.getLast?_cons_cons]
         cases e : (b :: r).getLast? with
         | none => simp at e
         | some z =>
           rw [e] at g3
           simpa using g3
     · rintro ⟨i, e1, e2⟩
       by_cases h1 : i < p.length
       · rw [List.getElem?_append_left h1] at e1
         exact nodot h e1
       · rw [List.getElem?_append_right (by omega)] at e2
         rw [show i + 1 - p.length = (i - p.length) + 1 by omega, List.getElem?_cons_succ] at e2
         rw [List.getElem?_append_right (by omega)] at e1
         cases hk : i - p.length with
         | zero =>
           rw [hk] at e2
           rw [List.head?_eq_getElem?] at g2
           exact g2 e2
         | succ k =>
           rw [hk, List.getElem?_cons_succ] at e1
           rw [hk] at e2
           exact g4 ⟨k, e1, e2⟩))) only [↓Dw.Qt.tt]
theorem gd_join : ∀ {ps : List (List Nat)}, ps ≠ [] → (∀ p ∈ ps, Wd1 p) → Gd (joinL [46] ps)
  | [], h, _ => absurd rfl h
  | [p], _, h => gd_one (h p (by simp))
  | p :: q :: r, _, h => gd_app (h p (by simp)) (gd_join (by simp) fun x hx => h x (List.mem_cons_of_mem _ hx))
def LocP (x : Str) : Prop := x.length ≤ 40 ∧ ∃ ps : List (List Nat), ps ≠ [] ∧ (∀ p ∈ ps, Wd1 p) ∧ tl x = joinL [46] ps
theorem LocP.ok {x : Str} (h : LocP x) : LocalOk (tl x) := by
  obtain ⟨hl, ps, hn, hp, e⟩ := h
  obtain ⟨g1, g2, g3, g4⟩ := gd_join hn hp
  rw [← e] at g1 g2 g3 g4
  refine ⟨⟨?_, by rw [← len_tl]; exact hl, fun c hc => ?_⟩, g2, g3, g4⟩
  · cases q : tl x with
    | nil => exact absurd q g1
    | cons _ _ => simp
  · rw [e] at hc
    rcases joinL_mem hc with q | ⟨p, hp', q⟩
    · rw [List.mem_singleton.mp q]
      exact dot_loc
    · exact en_loc c ((hp p hp').2 c q)
def LabP (p : List Nat) : Prop := ∃ c m c', p = c :: (m ++ [c']) ∧ c ∈ tl en2S ∧ c' ∈ tl en2S ∧ m.length ≤ 3 ∧ ∀ d ∈ m, d ∈ tl labS
theorem LabP.in {p : List Nat} (h : LabP p) : ∀ d ∈ p, d ∈ tl labS := by
  obtain ⟨c, m, c', rfl, hc, hc', hm, hd⟩ := h
  intro d q
  rcases List.mem_cons.mp q with rfl | q
  · exact en2_lab _ hc
  · rcases List.mem_append.mp q with q | q
    · exact hd d q
    · rw [List.mem_singleton.mp q]
      exact en2_lab _ hc'
theorem LabP.len {p : List Nat} (h : LabP p) : 2 ≤ p.length ∧ p.length ≤ 5 := by
  obtain ⟨c, m, c', rfl, hc, hc', hm, hd⟩ := h
  simp only [List.length_cons, List.length_append, List.length_nil]
  omega
theorem LabP.ok {p : List Nat} (h : LabP p) : LabelOk p := by
  have h1 := h.in
  have h2 := h.len
  obtain ⟨c, m, c', rfl, hc, hc', hm, hd⟩ := h
  refine ⟨⟨by omega, by omega, h1⟩, fun e => ?_, fun e => ?_⟩
  · exact hy_en2 (by rw [← Option.some.inj e]; exact hc)
  · rw [show c :: (m ++ [c']) = (c :: m) ++ [c'] from rfl, List.getLast?_append] at e
    have e2 : some c' = some 45 := by simpa using e
    exact hy_en2 (by rw [← Option.some.inj e2]; exact hc')
def DomP (x : Str) : Prop := x.length ≤ 40 ∧ ∃ ps : List (List Nat), ps ≠ [] ∧ (∀ p ∈ ps, LabP p) ∧ tl x = joinL [46] ps
theorem DomP.ok {x : Str} (h : DomP x) : DomOk (tl x) := by
  obtain ⟨hl, ps, hn, hp, e⟩ := h
  refine ⟨by rw [← len_tl]; omega, fun p q => ?_⟩
  rw [e, spl_join hn fun p hp' => fun m => dot_lab ((hp p hp').in 46 m)] at q
  exact (hp p q).ok
theorem LocP.in {x : Str} (h : LocP x) : ∀ c ∈ tl x, c ∈ tl locS := h.ok.1.2.2
theorem DomP.in {x : Str} (h : DomP x) : ∀ c ∈ tl x, c = 46 ∨ c ∈ tl labS := by
  obtain ⟨hl, ps, hn, hp, e⟩ := h
  intro c hc
  rw [e] at hc
  rcases joinL_mem hc with q | ⟨p, hp', q⟩
  · exact .inl (List.mem_singleton.mp q)
  · exact .inr ((hp p hp').in c q)
structure ExT (K : PySem.W.Frag) (mg : Str → Option Value) (C M : Addr) : Prop where
  gC : mg "InvalidAddress" = some (.ref C)
  gM : mg "MailError" = some (.ref M)
  xC : PySem.W.excIn K C [.type "ValueError", .type "Exception", .type "BaseException", .type "object"] "ValueError.__new__" = true
  kC : PySem.W.keepIn K (.ref C) = true
  bC : PySem.W.subIn K (.ref C) (.type "BaseException") = some true
  tC : PySem.W.typeIn K (.ref C) = some (.type "type")
  sC : PySem.W.subIn K (.ref C) (.ref C) = some true
  kM : PySem.W.kitOne K (.ref C) (.ref M) = some true
  kV : PySem.W.kitOne K (.ref C) (.type "ValueError") = some true
  e : ExcC K C
theorem ExT.exm {K : PySem.W.Frag} {mg : Str → Option Value} {C M : Addr} (h : ExT K mg C M) : PySem.W.exmOne K (.ref C) (.ref C) = some true := PySem.W.exm_ref h.bC h.e.hd h.tC h.sC
theorem ok_mkX {P : Program} {w : World} {K : PySem.W.Frag} {mg : Str → Option Value} {base : Heap} {k : Nat} {x : Str} {st : Stmt} {ps N : List Str} {sp : Sp} (d : Dn K mg x st ps) (S : FnScope N ps (defScope st))
    (len : ∀ vs H Q E, sp vs H Q E → vs.length = ps.length)
    (hbody : ∀ (f : Addr) (cdv : Value) (A : Around) (outer : List Env) (s : Shared) (H : Hp) (vs : List V) (Q : VK) (E : XK), Room k (A.deeper (envOfC x (defScope st) s.heap.objs.size f cdv)) → sp vs H Q E →
      ∃ t, PSs (cxOf (L2.CX P w) P w K mg base N x (defScope st) f cdv A outer s H E) (defBody st) t ∧ t ⟨fun _ H' => Q .non H', Q, fun _ _ => False, fun _ _ => False⟩ (start N vs) H) : OkD P w K mg base (L2.CX P w) (k + 1) x ps sp := by
  obtain ⟨f, fd, m, F, b⟩ := d
  exact ⟨f, fd, m, F.kp, binds_of b, F.okX S len fun cdv A outer s H vs Q E hr h => hbody f cdv A outer s H vs Q E hr h⟩
section
variable {X : Cx} {K : PySem.W.Frag} {σ : L2.St} {H : Hp} {Q : VK} {nx bk ct : L2.St → Hp → Prop} {rt : VK} {ta : TE} {as : TA} {W : WX} {C a : Addr} {cls : Value} {d : Option Addr} {x y : Str} {i : Int} {k : Nat}
def zRaise (C : Addr) (W : WX) (ta : TE) : TS := fun _ σ H => ta σ H fun _ H1 => W (.ref C) none σ H1
theorem y_raise {x : Str} {e : Expr} {p pos pos2 : Pos} (hc : X.calm = true) (tk : Takes X W) (q : PySem.W.excIn X.K C [.type "ValueError", .type "Exception", .type "BaseException", .type "object"] "ValueError.__new__" = true) (gC : X.mg x = some (.ref C)) (kC : PySem.W.keepIn X.K (.ref C) = true) (r : Raises X (.ref C)) (hg : Gl X x)
    (he : PE X e ta) (hs : starEach [e] X.env = (false, eval e X.env) :: starEach [] X.env := by rfl) (hdb : (x == ("__debug__" : Str)) = false := by decide) :
    PS X (.Raise (some (.Call (.Name x p) [e] [] pos)) none pos2) (zRaise C W ta) := ps_raise hc tk (SkE.pmk_own1 PySem.F.excBase_ValueError q gC kC r hg he hs hdb)
def zTryO (K : PySem.W.Frag) (c : Value) (tb : WX → TS) (ts : Addr → Value → Option Addr → TS) (Wout : WX) : TS := fun D σ H => tb (wOnly K c ts Wout D) D σ H
theorem y_tryO {x : Str} {c : Value} {body suite : List Stmt} {b₀ : Stmt} {np pos pos' : Pos} {tb : WX → TS} {ts : Addr → Value → Option Addr → TS} {Wout : WX} (hs : X.stack = X.env :: X.outer) (hf : X.env.frame = some X.env.locals) (hc : Names X x c) (tk : Takes X Wout)
    (hb : ∀ (W : WX) (pn : List (Addr × Obj)) (xe : Value → Shared → Prop), Takes (X.tr pn xe) W → PassesOwn (model X.prog X.w) X.A X.env xe → PSs (X.tr pn xe) body (tb W))
    (hsu : ∀ (a : Addr) (oe : Obj) (cls : Value) (d : Option Addr) (pn : List (Addr × Obj)), Zc cls d oe → (∃ vs, oe.data = .fields vs) → PSs (X.suite a ((a, oe) :: pn)) (b₀ :: suite) (ts a cls d)) :
    PS X (.Try body [.ExceptHandler (some (.Name x np)) none (b₀ :: suite) pos'] [] [] pos) (zTryO X.K c tb ts Wout) := ps_try_only hs hf hc tk hb hsu
end
section
variable {σ : L2.St} {H H1 : Hp} {Q : VK} {K : PySem.W.Frag} {D : Addr} {n j : Nat} {vs : List Nat} {te : TE} {Qd : Hp → Prop} {a b : Bool} {p q : Addr} {xs zs : List V}
theorem rd_eqB (h : Q (.bl (decide (a = b))) H) : rEq (.bl a) (.bl b) H Q := ⟨rfl, by
  rw [show decide (V.bl a = V.bl b) = decide (a = b) by simp only [V.bl.injEq]]
  exact h⟩
end
def Mn (K : PySem.W.Frag) (C : Addr) (m q : Str) (st : Stmt) (ps : List Str) : Prop := ∃ f fd, Meth K C m f ∧ Fun K m q st f fd ∧ ∀ (s : Shared) (us : List Value), us.length = ps.length → BindsTo s fd ⟨us, []⟩ (ps.zip us)
def OkM (P : Program) (w : World) (K : PySem.W.Frag) (mg : Str → Option Value) (base : Heap) (CX : CXT) (k : Nat) (C : Addr) (m : Str) (ps : List Str) (sp : Sp) : Prop :=
  ∃ f fd, Meth K C m f ∧ Binds K fd ps [] ∧ FnOk P w K mg base CX k f fd ps sp
structure Cs (K : PySem.W.Frag) (mg : Str → Option Value) (x : Str) (C : Addr) : Prop where
  cl : Cls K C
  g : mg x = some (.ref C)
  made : PySem.W.makesIn K C = true
  kp : PySem.W.keepIn K (.ref C) = true
theorem cs_mk {K : PySem.W.Frag} {h : Heap} {mg : Str → Option Value} {x : Str} {C : Addr} (X : K.In h) (G : h.Ns mainGlobals mg) (a : PySem.W.nsIn K mainGlobals x = some (some (.ref C)))
    (pg : PySem.W.plainGet K C Str.empty = true) (hd : PySem.W.hasDictIn K C = true) (po : PySem.W.plainOver K C = true) (sa : PySem.W.findIn K (.ref C) "__setattr__" = some (some (.builtin "object.__setattr__"))) (mk : PySem.W.makesIn K C = true) (kc : PySem.W.keepIn K (.ref C) = true) : Cs K mg x C :=
  ⟨⟨pg, hd, po, sa⟩, PySem.W.mg_of X G a, mk, kc⟩
theorem mn_mk {K : PySem.W.Frag} {C : Addr} {m q : Str} {st : Stmt} {ps : List Str} {f : Addr} {oc kV doc pm cdv ct : Value} {od an : Option Addr} {osl : Array (Option Value)}
    (a : PySem.W.findIn K (.ref C) m = some (some (.ref f))) (i : PySem.W.isFn K (.ref f) = true) (l : K.lookup f = some ⟨oc, od, .func (PySem.W.fnOf m q (defArgs st) (defBody st) (defScope st) .none kV doc pm an cdv ct), osl⟩)
    (c : PySem.W.codeIn K cdv q = true) (k : PySem.W.keepIn K (.ref f) = true)
    (b : ∀ (kV doc pm : Value) (an : Option Addr) (cdv ct : Value) (us : List Value), us.length = ps.length → bindArgs (PySem.W.fnOf m q (defArgs st) (defBody st) (defScope st) .none kV doc pm an cdv ct) ⟨us, []⟩ = pure (ps.zip us)) : Mn K C m q st ps :=
  ⟨f, _, ⟨a, i, k⟩, fun_mk l c k, fun s us hl => .of_eq (b kV doc pm an cdv ct us hl)⟩
section
variable {P : Program} {w : World} {K : PySem.W.Frag} {mg : Str → Option Value} {base : Heap} {k : Nat} {C : Addr} {m q : Str} {st : Stmt} {ps N : List Str} {sp : Sp}
theorem ok_mkM (d : Mn K C m q st ps) (S : FnScope N ps (defScope st)) (len : ∀ vs H Q E, sp vs H Q E → vs.length = ps.length)
    (hbody : ∀ (f : Addr) (cdv : Value) (A : Around) (outer : List Env) (s : Shared) (H : Hp) (vs : List V) (Q : VK) (E : XK), Room k (A.deeper (envOfC q (defScope st) s.heap.objs.size f cdv)) → sp vs H Q E →
      ∃ t, PSs (cxOf CX0 P w K mg base N q (defScope st) f cdv A outer s H E).nox (defBody st) t ∧ t ⟨fun _ H' => Q .non H', Q, fun _ _ => False, fun _ _ => False⟩ (start N vs) H) : OkM P w K mg base CX0 (k + 1) C m ps sp := by
  obtain ⟨f, fd, M, F, b⟩ := d
  exact ⟨f, fd, M, binds_of b, F.ok S len fun cdv A outer s H vs Q E hr h => hbody f cdv A outer s H vs Q E hr h⟩
theorem ok_mkMX (d : Mn K C m q st ps) (S : FnScope N ps (defScope st)) (len : ∀ vs H Q E, sp vs H Q E → vs.length = ps.length)
    (hbody : ∀ (f : Addr) (cdv : Value) (A : Around) (outer : List Env) (s : Shared) (H : Hp) (vs : List V) (Q : VK) (E : XK), Room k (A.deeper (envOfC q (defScope st) s.heap.objs.size f cdv)) → sp vs H Q E →
      ∃ t, PSs (cxOf (L2.CX P w) P w K mg base N q (defScope st) f cdv A outer s H E) (defBody st) t ∧ t ⟨fun _ H' => Q .non H', Q, fun _ _ => False, fun _ _ => False⟩ (start N vs) H) : OkM P w K mg base (L2.CX P w) (k + 1) C m ps sp := by
  obtain ⟨f, fd, M, F, b⟩ := d
  exact ⟨f, fd, M, binds_of b, F.okX S len fun cdv A outer s H vs Q E hr h => hbody f cdv A outer s H vs Q E hr h⟩
end
section
variable {X : Cx} {C : Addr} {k : Nat} {m x : Str} {ps : List Str} {sp : Sp} {ta : TE} {t : TA} {o e : Expr} {es : List Expr} {p pos apos : Pos} {E : XK} {E' : L2.St → XK}
theorem pe_makeC (c : Cs X.K X.mg x C) (O : OkM X.prog X.w X.K X.mg X.base CX0 k C "__init__" ps sp) (hr : Room (k + 1) X.A) (hg : Gl X x) (hx : Passes CX0 X E) (ha : PA X (e :: es) t)
    (hdb : (x == ("__debug__" : Str)) = false := by decide) (he : starEach (e :: es) X.env = (false, eval e X.env) :: starEach es X.env := by rfl) (hpl : (backTo pos (starEach es X.env)).any (·.1) = false := by rfl) :
    PE X (.Call (.Name x p) (e :: es) [] pos) (tMake C sp [] E t) := by
  obtain ⟨f, fd, M, b, F⟩ := O
  exact pe_make ⟨c.made, M.at_, M.fn, c.kp⟩ F hr hg c.g b .nil hx ha hdb he hpl
theorem pe_makeC0 (c : Cs X.K X.mg x C) (O : OkM X.prog X.w X.K X.mg X.base CX0 k C "__init__" ps sp) (hr : Room (k + 1) X.A) (hg : Gl X x) (hx : Passes CX0 X E)
    (hdb : (x == ("__debug__" : Str)) = false := by decide) :
    PE X (.Call (.Name x p) [] [] pos) (tMake C sp [] E tNil) := by
  obtain ⟨f, fd, M, b, F⟩ := O
  exact pe_make0 ⟨c.made, M.at_, M.fn, c.kp⟩ F hr hg c.g b .nil hx hdb
/-- the same where what is raised may depend on the slots -/
def zMethS (C : Addr) (m : Str) (sp : Sp) (E' : L2.St → XK) (ta : TE) (t : TA) : TE := fun σ H Q => ta σ H fun x H1 => ∃ a dx fs, x = .ref a ∧ H1 a = some (.ins C dx fs) ∧ fs.lookup m = none ∧ t σ H1 fun vs H2 => sp (x :: vs) H2 Q (E' σ)
end
def zStrI : List V → Hp → VK → Prop := fun xs H Q => ∃ i, xs = [V.int i] ∧ i.natAbs.log2 < 1920 ∧ Q (.str (toString i)) H
def zListOf (K : PySem.W.Frag) : List V → Hp → VK → Prop := fun xs H Q => ∃ p ys, xs = [V.ref p] ∧ (SqL K H p ys ∨ SqT K H p ys) ∧ ∀ l, H l = none → Q (.ref l) (upd H l (.lst ys))
section
variable {X : Cx} {K : PySem.W.Frag} {σ : L2.St} {H H1 : Hp} {Q : VK} {i : Int} {a : Addr} {ys : List V} {x y : Str} {n j : Nat} {st sc D : Addr} {ns : List Int} {g : TG} {te : TE} {vs : List Nat} {Qd : Hp → Prop}
theorem y_strI : CallR X (.type "str") zStrI := call_str_int
theorem y_listOf : CallR X (.type "list") (zListOf X.K) := call_list_of
end
theorem Tk.put {H : Hp} {p l : Addr} {xs zs : List V} {o : HO} (t : Tk H p xs) (e : H l = some (.lst zs)) : Tk (upd H l o) p xs := by
  obtain ⟨b, h, q⟩ := t
  refine ⟨b, h, ?_⟩
  rw [upd_ne fun z => ?_]
  · exact q
  · rw [z, e] at q
    cases q
def zMin2 : List V → Hp → VK → Prop := fun xs H Q => ∃ i j, xs = [V.int i, V.int j] ∧ Q (.int (if j < i then j else i)) H
theorem y_min2 {X : Cx} (hc : X.calm = true) : CallR X (.builtin "min") zMin2 := call_min2 hc
def zMax2 : List V → Hp → VK → Prop := fun xs H Q => ∃ i j, xs = [V.int i, V.int j] ∧ Q (.int (if j > i then j else i)) H
theorem y_max2 {X : Cx} (hc : X.calm = true) : CallR X (.builtin "max") zMax2 := call_max2 hc
structure ExN (K : PySem.W.Frag) (mg : Str → Option Value) (x : Str) (C M : Addr) : Prop where
  gC : mg x = some (.ref C)
  gM : mg "MailError" = some (.ref M)
  xC : PySem.W.excIn K C [.type "ValueError", .type "Exception", .type "BaseException", .type "object"] "ValueError.__new__" = true
  kC : PySem.W.keepIn K (.ref C) = true
  bC : PySem.W.subIn K (.ref C) (.type "BaseException") = some true
  tC : PySem.W.typeIn K (.ref C) = some (.type "type")
  sC : PySem.W.subIn K (.ref C) (.ref C) = some true
  kM : PySem.W.kitOne K (.ref C) (.ref M) = some true
  e : ExcC K C
theorem ExN.exm {K : PySem.W.Frag} {mg : Str → Option Value} {x : Str} {C M : Addr} (h : ExN K mg x C M) : PySem.W.exmOne K (.ref C) (.ref C) = some true := PySem.W.exm_ref h.bC h.e.hd h.tC h.sC
theorem exn_mk {K : PySem.W.Frag} {h : Heap} {mg : Str → Option Value} {x : Str} {C M : Addr} (X : K.In h) (G : h.Ns mainGlobals mg)
    (gC : PySem.W.nsIn K mainGlobals x = some (some (.ref C))) (gM : PySem.W.nsIn K mainGlobals "MailError" = some (some (.ref M)))
    (xC : PySem.W.excIn K C [.type "ValueError", .type "Exception", .type "BaseException", .type "object"] "ValueError.__new__" = true) (kC : PySem.W.keepIn K (.ref C) = true)
    (bC : PySem.W.subIn K (.ref C) (.type "BaseException") = some true) (tC : PySem.W.typeIn K (.ref C) = some (.type "type")) (sC : PySem.W.subIn K (.ref C) (.ref C) = some true)
    (kM : PySem.W.kitOne K (.ref C) (.ref M) = some true)
    (e1 : PySem.W.findIn K (.ref C) "__getattribute__" = some (some (.builtin "BaseException.__getattribute__"))) (e2 : PySem.W.findIn K (.ref C) "__getattr__" = some none) (e4 : PySem.W.hasDictIn K C = true)
    (e5 : PySem.W.findIn K (.ref C) "__class__" = some (some (.builtin "object.__class__"))) (e6 : PySem.W.specialIn K (.builtin "object.__class__") "__get__" = some (some (.builtin "getset_descriptor.__get__")))
    (e7 : PySem.W.takesIn K (.builtin "object.__class__") = some true) (e8 : PySem.W.mroIn K C (.type "object") = some true) : ExN K mg x C M :=
  ⟨PySem.W.mg_of X G gC, PySem.W.mg_of X G gM, xC, kC, bC, tC, sC, kM, ⟨e1, e2, bC, e4, e5, e6, e7, e8⟩⟩
section
open PySem.Froz
def ltS (x y : Str) : Bool := decide (x.cps.toList < y.cps.toList)
def insS (x : Str) : List Str → List Str
  | [] => [x]
  | y :: ys => if x = y then y :: ys else if ltS x y then x :: y :: ys else y :: insS x ys
def srtS : List Str → List Str
  | [] => []
  | x :: xs => insS x (srtS xs)
theorem ltS_tr {x y z : Str} (h : ltS x y = true) (g : ltS y z = true) : ltS x z = true := decide_eq_true (List.lt_trans (of_decide_eq_true h) (of_decide_eq_true g))
theorem ltS_of {x y : Str} (h : ltS y x = false) (n : x ≠ y) : ltS x y = true := by
  cases g : ltS x y with
  | true => rfl
  | false =>
    refine absurd ?_ n
    have e : x.cps.toList = y.cps.toList := List.le_antisymm (List.not_lt.mp (of_decide_eq_false h)) (List.not_lt.mp (of_decide_eq_false g))
    cases x
    cases y
    simp only at e
    congr 1
    exact Array.ext' e
end
inductive D where
  | non | bl (b : Bool) | int (i : Int) | str (x : Str) | ref (n : Nat) | tup (ds : List D) | ty (n : String) | scr (ns : List Int)
inductive O where
  | lst (ds : List D)
  | obj (C : Addr) (ds : List D)
  | dK (kvs : List (Key × D))
  | met (f : Addr) (d : Nat)
  | dT (kvs : List (List Key × D))
  | lkK (kvs : List (Key × D))
  | lkT (kvs : List (List Key × D))
  | dN (kvs : List (NestedKey × D))
abbrev Sto := List O
abbrev Sl := List (Option D)
/-- a tuple that is read, whose object has no dict -/
def TupR (K : PySem.W.Frag) (H : Hp) (a : Addr) (xs : List V) : Prop :=
  (∃ o : Obj, o.dict = Option.none ∧ H a = some (.frz o (.tup xs))) ∨
    ∃ (o : Obj) (its : Array Value) (n : Nat), K.lookup a = some o ∧ o.dict = Option.none ∧ o.cls = .type "tuple" ∧ o.data = .seq its n ∧ its.size ≤ sizeLine ∧ Vals xs its.toList
/-- the script: a list that is never written -/
def ScrR (K : PySem.W.Frag) (H : Hp) (a : Addr) (xs : List V) : Prop :=
  (∃ o : Obj, H a = some (.frz o (.lst xs))) ∨
    ∃ (o : Obj) (its : Array Value) (n : Nat), K.lookup a = some o ∧ o.cls = .type "list" ∧ o.dict = none ∧ o.data = .seq its n ∧ its.size ≤ sizeLine ∧ Vals xs its.toList
theorem ScrR.seq {K : PySem.W.Frag} {H : Hp} {a : Addr} {xs : List V} (h : ScrR K H a xs) : SqL K H a xs := by
  rcases h with ⟨o, e⟩ | h
  · exact .inl (.inr ⟨o, e⟩)
  · exact .inr h
theorem ScrR.of {K : PySem.W.Frag} {H : Hp} {a : Addr} {xs : List V} (hO : Only H) (h : SqL K H a xs) : ScrR K H a xs := by
  rcases h with (h | h) | h
  · rcases hO a with q | ⟨o, ys, q⟩
    · rw [h] at q
      cases q
    · rw [h] at q
      cases q
  · exact .inl h
  · exact .inr h
theorem TupR.seq {K : PySem.W.Frag} {H : Hp} {a : Addr} {xs : List V} (h : TupR K H a xs) : SqT K H a xs := by
  rcases h with ⟨o, _, e⟩ | ⟨o, its, n, a, b, c, d, e, f⟩
  · exact .inl (.inr ⟨o, e⟩)
  · exact .inr ⟨o, its, n, a, c, d, e, f⟩
mutual
def RepV (K : PySem.W.Frag) (ι : List Addr) (H : Hp) : D → V → Prop
  | .non, v => v = .non
  | .bl b, v => v = .bl b
  | .int i, v => v = .int i
  | .str x, v => v = .str x
  | .ref n, v => ∃ a, ι[n]? = some a ∧ v = .ref a
  | .ty n, v => v = .ty n
  | .scr ns, v => ∃ a, v = .ref a ∧ ScrR K H a (ns.map V.int)
  | .tup ds, v => ∃ a xs, v = .ref a ∧ TupR K H a xs ∧ RepL K ι H ds xs
def RepL (K : PySem.W.Frag) (ι : List Addr) (H : Hp) : List D → List V → Prop
  | [], xs => xs = []
  | d :: ds, xs => ∃ x r, xs = x :: r ∧ RepV K ι H d x ∧ RepL K ι H ds r
end
/-- later: more addresses, the tuples as they were -/
structure Fut0 (K : PySem.W.Frag) (ι : List Addr) (H : Hp) (ι' : List Addr) (H' : Hp) : Prop where
  pre : ι <+: ι'
  tup : ∀ a xs, TupR K H a xs → TupR K H' a xs
  scr : ∀ a xs, ScrR K H a xs → ScrR K H' a xs
/-- .. and what is locked stays so -/
structure Fut (K : PySem.W.Frag) (ι : List Addr) (H : Hp) (ι' : List Addr) (H' : Hp) : Prop extends Fut0 K ι H ι' H' where
  lk : ∀ a o u, H a = some (.frz o u) → H' a = some (.frz o u)
section
variable {K : PySem.W.Frag} {ι ι' ι2 : List Addr} {H H' H2 : Hp}
theorem Fut.refl (ι : List Addr) (H : Hp) : Fut K ι H ι H := ⟨⟨List.prefix_refl _, fun _ _ h => h, fun _ _ h => h⟩, fun _ _ _ h => h⟩
theorem Fut.trans (a : Fut K ι H ι' H') (b : Fut K ι' H' ι2 H2) : Fut K ι H ι2 H2 := ⟨⟨a.pre.trans b.pre, fun x xs h => b.tup x xs (a.tup x xs h), fun x xs h => b.scr x xs (a.scr x xs h)⟩, fun x o u h => b.lk x o u (a.lk x o u h)⟩
theorem Fut0.ix (f : Fut0 K ι H ι' H') {n : Nat} {a : Addr} (e : ι[n]? = some a) : ι'[n]? = some a := by
  obtain ⟨t, rfl⟩ := f.pre
  rw [List.getElem?_append_left (List.getElem?_eq_some_iff.mp e).1]
  exact e
mutual
theorem RepV.fut0 (f : Fut0 K ι H ι' H') : ∀ {d : D} {v : V}, RepV K ι H d v → RepV K ι' H' d v
  | .non, _, h => h
  | .bl _, _, h => h
  | .int _, _, h => h
  | .str _, _, h => h
  | .ty _, _, h => h
  | .scr ns, v, h => by
    unfold RepV at h ⊢
    obtain ⟨a, e, q⟩ := h
    exact ⟨a, e, f.scr _ _ q⟩
  | .ref n, v, h => by
    unfold RepV at h ⊢
    obtain ⟨a, e, q⟩ := h
    exact ⟨a, f.ix e, q⟩
  | .tup ds, v, h => by
    unfold RepV at h ⊢
    obtain ⟨a, xs, e, t, l⟩ := h
    exact ⟨a, xs, e, f.tup _ _ t, RepL.fut0 f l⟩
theorem RepL.fut0 (f : Fut0 K ι H ι' H') : ∀ {ds : List D} {vs : List V}, RepL K ι H ds vs → RepL K ι' H' ds vs
  | [], _, h => h
  | d :: ds, vs, h => by
    unfold RepL at h ⊢
    obtain ⟨x, r, e, a, b⟩ := h
    exact ⟨x, r, e, RepV.fut0 f a, RepL.fut0 f b⟩
end
theorem RepV.fut (f : Fut K ι H ι' H') {d : D} {v : V} (h : RepV K ι H d v) : RepV K ι' H' d v := h.fut0 f.toFut0
theorem RepL.fut (f : Fut K ι H ι' H') {ds : List D} {vs : List V} (h : RepL K ι H ds vs) : RepL K ι' H' ds vs := h.fut0 f.toFut0
theorem RepL.nil : RepL K ι H [] [] := rfl
theorem RepL.cons {d : D} {ds : List D} {v : V} {vs : List V} (a : RepV K ι H d v) (b : RepL K ι H ds vs) : RepL K ι H (d :: ds) (v :: vs) := ⟨v, vs, rfl, a, b⟩
theorem RepL.length : ∀ {ds : List D} {vs : List V}, RepL K ι H ds vs → vs.length = ds.length
  | [], vs, h => by rw [show vs = [] from h]; rfl
  | d :: ds, vs, h => by
    obtain ⟨x, r, rfl, _, b⟩ := h
    rw [List.length_cons, List.length_cons, RepL.length b]
theorem RepL.get : ∀ {ds : List D} {vs : List V} {i : Nat} {d : D}, RepL K ι H ds vs → ds[i]? = some d → ∃ v, vs[i]? = some v ∧ RepV K ι H d v
  | [], _, i, d, _, e => by simp at e
  | c :: ds, vs, 0, d, h, e => by
    obtain ⟨x, r, rfl, a, b⟩ := h
    simp at e
    subst e
    exact ⟨x, rfl, a⟩
  | c :: ds, vs, i + 1, d, h, e => by
    obtain ⟨x, r, rfl, a, b⟩ := h
    rw [List.getElem?_cons_succ] at e
    obtain ⟨v, e2, q⟩ := RepL.get (i := i) b e
    exact ⟨v, by rw [List.getElem?_cons_succ]; exact e2, q⟩
theorem RepL.get' : ∀ {ds : List D} {vs : List V} {i : Nat} {v : V}, RepL K ι H ds vs → vs[i]? = some v → ∃ d, ds[i]? = some d ∧ RepV K ι H d v
  | [], vs, i, d, h, e => by rw [show vs = [] from h] at e; simp at e
  | c :: ds, vs, 0, d, h, e => by
    obtain ⟨x, r, rfl, a, b⟩ := h
    simp at e
    subst e
    exact ⟨c, rfl, a⟩
  | c :: ds, vs, i + 1, d, h, e => by
    obtain ⟨x, r, rfl, a, b⟩ := h
    rw [List.getElem?_cons_succ] at e
    obtain ⟨v, e2, q⟩ := RepL.get' (i := i) b e
    exact ⟨v, by rw [List.getElem?_cons_succ]; exact e2, q⟩
theorem RepL.append : ∀ {ds es : List D} {vs us : List V}, RepL K ι H ds vs → RepL K ι H es us → RepL K ι H (ds ++ es) (vs ++ us)
  | [], es, vs, us, h, g => by rw [show vs = [] from h]; exact g
  | d :: ds, es, vs, us, h, g => by
    obtain ⟨x, r, rfl, a, b⟩ := h
    exact RepL.cons a (RepL.append b g)
theorem RepL.set : ∀ {ds : List D} {vs : List V} {i : Nat} {d : D} {v : V}, RepL K ι H ds vs → RepV K ι H d v → RepL K ι H (ds.set i d) (vs.set i v)
  | [], vs, i, d, v, h, g => by rw [show vs = [] from h]; exact rfl
  | c :: ds, vs, 0, d, v, h, g => by
    obtain ⟨x, r, rfl, a, b⟩ := h
    exact RepL.cons g b
  | c :: ds, vs, i + 1, d, v, h, g => by
    obtain ⟨x, r, rfl, a, b⟩ := h
    exact RepL.cons a (RepL.set b g)
theorem RepL.take : ∀ {ds : List D} {vs : List V} (i : Nat), RepL K ι H ds vs → RepL K ι H (ds.take i) (vs.take i)
  | _, _, 0, _ => rfl
  | [], vs, i + 1, h => by rw [show vs = [] from h]; exact rfl
  | c :: ds, vs, i + 1, h => by
    obtain ⟨x, r, rfl, a, b⟩ := h
    exact RepL.cons a (RepL.take i b)
theorem RepL.drop : ∀ {ds : List D} {vs : List V} (i : Nat), RepL K ι H ds vs → RepL K ι H (ds.drop i) (vs.drop i)
  | _, _, 0, h => h
  | [], vs, i + 1, h => by rw [show vs = [] from h]; exact rfl
  | c :: ds, vs, i + 1, h => by
    obtain ⟨x, r, rfl, a, b⟩ := h
    exact RepL.drop i b
end
structure Nms where
  nm : Addr → List Str
  P : Program
  w : World
instance : CoeFun Nms fun _ => Addr → List Str := ⟨Nms.nm⟩
/-- a dict whose keys are tuples, and where these stand -/
abbrev TV : List (List Key × Addr × V) → List (List Key × Addr × Value) → Prop := Paired fun p q => p.1 = q.1 ∧ p.2.1 = q.2.1 ∧ RelV p.2.2 q.2.2
def TbO (P : Program) (w : World) (a : Addr) (xs : List (List Key × Addr × V)) : HO := .ext fun h => xs.length ≤ sizeLine ∧ (a == sysModules) = false ∧ ∃ ys, TV xs ys ∧
  ∃ o es ep, h.get? a = some o ∧ o.ExactDict ∧ o.data = .dict es ep ∧ es.toList = ys.map (entryOfKey (tupleKind (mixKind P w))) ∧ (ys.map (·.1)).Nodup
def RepT (K : PySem.W.Frag) (ι : List Addr) (H : Hp) : List (List Key × D) → List (List Key × Addr × V) → Prop := Paired fun p q => p.1 = q.1 ∧ TupR K H q.2.1 (q.1.map kV) ∧ RepV K ι H p.2 q.2.2
/-- a dict whose keys are tuples within tuples -/
abbrev NV : List (NestedKey × Addr × V) → List (NestedKey × Addr × Value) → Prop := Paired fun p q => p.1 = q.1 ∧ p.2.1 = q.2.1 ∧ RelV p.2.2 q.2.2
def NbO (P : Program) (w : World) (a : Addr) (xs : List (NestedKey × Addr × V)) : HO := .ext fun h => xs.length ≤ sizeLine ∧ (a == sysModules) = false ∧ ∃ ys, NV xs ys ∧
  ∃ o es ep, h.get? a = some o ∧ o.ExactDict ∧ o.data = .dict es ep ∧ es.toList = ys.map (entryOfKey (nestedKind P w)) ∧ (ys.map (·.1)).Nodup
mutual
def nkD : NestedKey → D
  | .none => .non
  | .num i => .int i
  | .text x => .str x
  | .tup ks => .tup (nkDs ks)
def nkDs : List NestedKey → List D
  | [] => []
  | k :: ks => nkD k :: nkDs ks
end
def RepN (K : PySem.W.Frag) (ι : List Addr) (H : Hp) : List (NestedKey × D) → List (NestedKey × Addr × V) → Prop := Paired fun p q => p.1 = q.1 ∧ (q.1.depth ≤ 8 ∧ RepV K ι H (nkD q.1) (.ref q.2.1)) ∧ RepV K ι H p.2 q.2.2
def RepK (K : PySem.W.Frag) (ι : List Addr) (H : Hp) (kvs : List (Key × D)) (us : List (Key × V)) : Prop := kvs.map (·.1) = us.map (·.1) ∧ RepL K ι H (kvs.map (·.2)) (us.map (·.2))
def RepO (K : PySem.W.Frag) (N : Nms) (ι : List Addr) (H : Hp) (a : Addr) : O → Prop
  | .lst ds => ∃ xs, H a = some (.lst xs) ∧ RepL K ι H ds xs
  | .obj C ds => ∃ dx xs, H a = some (.ins C dx ((N C).zip xs)) ∧ ds.length ≤ (N C).length ∧ RepL K ι H ds xs
  | .dK kvs => ∃ us, H a = some (.dK us) ∧ RepK K ι H kvs us
  | .met f n => ∃ b, H a = some (.met f b) ∧ ι[n]? = some b
  | .dT kvs => ∃ xs, H a = some (TbO N.P N.w a xs) ∧ RepT K ι H kvs xs
  | .lkK kvs => ∃ o us, H a = some (.frz o (.dK us)) ∧ RepK K ι H kvs us
  | .lkT kvs => ∃ o xs, H a = some (.frz o (TbO N.P N.w a xs)) ∧ RepT K ι H kvs xs
  | .dN kvs => ∃ xs, H a = some (NbO N.P N.w a xs) ∧ RepN K ι H kvs xs
/-- no tuple, no script -/
def NoT (u : HO) : Prop := ∀ b xs, u ≠ .frz b (.tup xs) ∧ u ≠ .frz b (.lst xs)
structure Rep (K : PySem.W.Frag) (N : Nms) (ι : List Addr) (H : Hp) (S : Sto) : Prop where
  len : ι.length = S.length
  nd : ι.Nodup
  ob : ∀ (n : Nat) (o : O), S[n]? = some o → ∃ a, ι[n]? = some a ∧ RepO K N ι H a o
section
variable {K : PySem.W.Frag} {N : Nms} {ι ι' ι2 : List Addr} {H H' H2 : Hp} {S : Sto}
theorem RepK.fut0 (f : Fut0 K ι H ι' H') {kvs : List (Key × D)} {us : List (Key × V)} (h : RepK K ι H kvs us) : RepK K ι' H' kvs us := ⟨h.1, h.2.fut0 f⟩
theorem RepK.fut (f : Fut K ι H ι' H') {kvs : List (Key × D)} {us : List (Key × V)} (h : RepK K ι H kvs us) : RepK K ι' H' kvs us := h.fut0 f.toFut0
/-- what stands at an address of the store is no tuple -/
theorem RepT.fut0 (f : Fut0 K ι H ι' H') {kvs : List (List Key × D)} {xs : List (List Key × Addr × V)} (h : RepT K ι H kvs xs) : RepT K ι' H' kvs xs := Paired.mapP h fun _ _ z => ⟨z.1, f.tup _ _ z.2.1, z.2.2.fut0 f⟩
theorem RepN.fut0 (f : Fut0 K ι H ι' H') {kvs : List (NestedKey × D)} {xs : List (NestedKey × Addr × V)} (h : RepN K ι H kvs xs) : RepN K ι' H' kvs xs := Paired.mapP h fun _ _ z => ⟨z.1, ⟨z.2.1.1, z.2.1.2.fut0 f⟩, z.2.2.fut0 f⟩
theorem RepN.fut (f : Fut K ι H ι' H') {kvs : List (NestedKey × D)} {xs : List (NestedKey × Addr × V)} (h : RepN K ι H kvs xs) : RepN K ι' H' kvs xs := h.fut0 f.toFut0
theorem RepT.fut (f : Fut K ι H ι' H') {kvs : List (List Key × D)} {xs : List (List Key × Addr × V)} (h : RepT K ι H kvs xs) : RepT K ι' H' kvs xs := h.fut0 f.toFut0
theorem RepO.notup {a : Addr} {o : O} (h : RepO K N ι H a o) : ∃ u, H a = some u ∧ NoT u := by
  refine Dw.Qt.un ?_
  simp (disch := (with_unfolding_all
    (cases o with
     | lst ds =>
       obtain ⟨xs, e, _⟩ := h
       exact ⟨_, e, fun _ _ => ⟨(fun z => by cases z), (fun z => by cases z)⟩⟩
     | obj C ds =>
       obtain ⟨dx, xs, e, _⟩ := h
       exact ⟨_, e, fun _ _ => ⟨(fun z => by cases z), (fun z => by cases z)⟩⟩
     | dK kvs =>
       obtain ⟨us, e, _⟩ := h
       exact ⟨_, e, fun _ _ => ⟨(fun z => by cases z), (fun z => by cases z)⟩⟩
     | met f n =>
       obtain ⟨b, e, _⟩ := h
       exact ⟨_, e, fun _ _ => ⟨(fun z => by cases z), (fun z => by cases z)⟩⟩
     | dT kvs =>
       obtain ⟨us, e, _⟩ := h
       exact ⟨_, e, fun _ _ => ⟨(fun z => by cases z), (fun z => by cases z)⟩⟩
     | lkK kvs =>
       obtain ⟨o, us, e, _⟩ := h
       exact ⟨_, e, fun _ _ => ⟨(fun z => by cases z), (fun z => by cases z)⟩⟩
     | lkT kvs =>
       obtain ⟨o, us, e, _⟩ := h
       exact ⟨_, e, fun _ _ => ⟨(fun z => by cases z), (fun z => by cases z)⟩⟩
     | dN kvs =>
       obtain ⟨us, e, _⟩ := h
       exact ⟨_, e, fun _ _ => ⟨(fun z => by cases z), (fun z => by cases z)⟩⟩))) only [↓Dw.Qt.tt]
theorem tup_upd {p : Addr} {o : HO} (hp : H p = none ∨ ∃ u, H p = some u ∧ NoT u) : ∀ a xs, TupR K H a xs → TupR K (upd H p o) a xs := by
  intro a xs t
  rcases t with ⟨b, hb, e⟩ | t
  · refine .inl ⟨b, hb, ?_⟩
    rw [upd_ne fun z => ?_]
    · exact e
    · subst z
      rcases hp with q | ⟨u, q, n⟩
      · rw [e] at q
        cases q
      · rw [e] at q
        exact (n b _).1 (Option.some.inj q).symm
  · exact .inr t
theorem scr_upd {p : Addr} {o : HO} (hp : H p = none ∨ ∃ u, H p = some u ∧ NoT u) : ∀ a xs, ScrR K H a xs → ScrR K (upd H p o) a xs := by
  intro a xs t
  rcases t with ⟨b, e⟩ | t
  · refine .inl ⟨b, ?_⟩
    rw [upd_ne fun z => ?_]
    · exact e
    · subst z
      rcases hp with q | ⟨u, q, n⟩
      · rw [e] at q
        cases q
      · rw [e] at q
        exact (n b _).2 (Option.some.inj q).symm
  · exact .inr t
theorem lk_upd {p : Addr} {o : HO} (hp : ∀ b u, H p ≠ some (.frz b u)) : ∀ a b u, H a = some (.frz b u) → (upd H p o) a = some (.frz b u) := fun a b u e => by
  rw [upd_ne fun z => ?_]
  · exact e
  · subst z
    exact hp b u e
theorem fr_no {p : Addr} (h : H p = none) : ∀ b u, H p ≠ some (.frz b u) := fun b u e => by
  rw [h] at e
  cases e
theorem fut_new {p : Addr} {o : HO} (hp : H p = none) : Fut K ι H (ι ++ [p]) (upd H p o) := ⟨⟨List.prefix_append _ _, tup_upd (.inl hp), scr_upd (.inl hp)⟩, lk_upd (fr_no hp)⟩
theorem fut_upd0 {p : Addr} {o : HO} (hp : H p = none) : Fut K ι H ι (upd H p o) := ⟨⟨List.prefix_refl _, tup_upd (.inl hp), scr_upd (.inl hp)⟩, lk_upd (fr_no hp)⟩
theorem RepO.move0 (f : Fut0 K ι H ι' H') {a : Addr} {o : O} (h : RepO K N ι H a o) (e : H' a = H a) : RepO K N ι' H' a o := by
  refine Dw.Qt.un ?_
  simp (disch := (with_unfolding_all
    (cases o with
     | lst ds =>
       obtain ⟨xs, q, r⟩ := h
       exact ⟨xs, e.trans q, r.fut0 f⟩
     | obj C ds =>
       obtain ⟨dx, xs, q, l, r⟩ := h
       exact ⟨dx, xs, e.trans q, l, r.fut0 f⟩
     | dK kvs =>
       obtain ⟨us, q, r⟩ := h
       exact ⟨us, e.trans q, r.fut0 f⟩
     | met g n =>
       obtain ⟨b, q, r⟩ := h
       exact ⟨b, e.trans q, f.ix r⟩
     | dT kvs =>
       obtain ⟨us, q, r⟩ := h
       exact ⟨us, e.trans q, r.fut0 f⟩
     | lkK kvs =>
       obtain ⟨o, us, q, r⟩ := h
       exact ⟨o, us, e.trans q, r.fut0 f⟩
     | lkT kvs =>
       obtain ⟨o, us, q, r⟩ := h
       exact ⟨o, us, e.trans q, r.fut0 f⟩
     | dN kvs =>
       obtain ⟨us, q, r⟩ := h
       exact ⟨us, e.trans q, r.fut0 f⟩))) only [↓Dw.Qt.tt]
theorem RepO.move (f : Fut K ι H ι' H') {a : Addr} {o : O} (h : RepO K N ι H a o) (e : H' a = H a) : RepO K N ι' H' a o := h.move0 f.toFut0 e
theorem Rep.alive (R : Rep K N ι H S) {a : Addr} (h : a ∈ ι) : ∃ u, H a = some u ∧ NoT u := by
  obtain ⟨n, hn, rfl⟩ := List.mem_iff_getElem.mp h
  have hs : n < S.length := by rw [← R.len]; exact hn
  obtain ⟨a, e, r⟩ := R.ob n S[n] (List.getElem?_eq_getElem hs)
  rw [List.getElem?_eq_getElem hn] at e
  rw [Option.some.inj e]
  exact r.notup
theorem Rep.notin (R : Rep K N ι H S) {p : Addr} (h : H p = none) : p ∉ ι := fun m => by
  obtain ⟨u, e, _⟩ := R.alive m
  rw [h] at e
  cases e
/-- the heap has grown by what is not in the store -/
theorem Rep.grow (R : Rep K N ι H S) {p : Addr} {o : HO} (hp : H p = none) : Rep K N ι (upd H p o) S := ⟨R.len, R.nd, fun n ob e => by
  obtain ⟨a, ea, r⟩ := R.ob n ob e
  exact ⟨a, ea, r.move (fut_upd0 hp) (upd_ne fun z => R.notin hp (z ▸ List.mem_of_getElem? ea))⟩⟩
/-- a new object of the store -/
theorem Rep.new (R : Rep K N ι H S) {p : Addr} {o : HO} {ob : O} (hp : H p = none) (h : RepO K N (ι ++ [p]) (upd H p o) p ob) : Rep K N (ι ++ [p]) (upd H p o) (S ++ [ob]) := by
  refine Dw.Qt.un ?_
  simp (disch := (with_unfolding_all
    (have np := R.notin hp
     refine ⟨by rw [List.length_append, List.length_append, R.len]; rfl, ?_, fun n u e => ?_⟩
     · rw [List.nodup_append]
       refine ⟨R.nd, by simp, fun a ha b hb z => ?_⟩
       rw [List.mem_singleton.mp hb] at z
       exact np (z ▸ ha)
     · by_cases hn : n < S.length
       · rw [List.getElem?_append_left hn] at e
         obtain ⟨a, ea, r⟩ := R.ob n u e
         refine ⟨a, ?_, r.move (fut_new hp) (upd_ne fun z => np (z ▸ List.mem_of_getElem? ea))⟩
         rw [List.getElem?_append_left (List.getElem?_eq_some_iff.mp ea).1]
         exact ea
       · have h2 := (List.getElem?_eq_some_iff.mp e).1
         rw [List.length_append] at h2
         have h3 : n < S.length + 1 := h2
         have en : n = S.length := by omega
         rw [en, List.getElem?_append_right (Nat.le_refl _), Nat.sub_self] at e
         have eu : ob = u := by simpa using e
         rw [← eu]
         refine ⟨p, ?_, h⟩
         rw [en, ← R.len, List.getElem?_append_right (Nat.le_refl _), Nat.sub_self]
         rfl))) only [↓Dw.Qt.tt]
def isFrz : HO → Bool
  | .frz _ _ => true
  | _ => false
theorem fr_ne {H : Hp} {a : Addr} {u : HO} (h : H a = some u) (n : isFrz u = false) : ∀ b x, H a ≠ some (.frz b x) := fun b x e => by
  rw [h] at e
  cases e
  cases n
/-- an object of the store is changed -/
theorem Rep.put (R : Rep K N ι H S) {n : Nat} {a : Addr} {o : HO} {ob : O} (ea : ι[n]? = some a) (h : ∀ H', H' = upd H a o → Fut K ι H ι H' → RepO K N ι H' a ob) (hfr : ∀ b x, H a ≠ some (.frz b x) := by refine fr_ne (by assumption) ?_; rfl) : Rep K N ι (upd H a o) (S.set n ob) ∧ Fut K ι H ι (upd H a o) := by
  refine Dw.Qt.un ?_
  simp (disch := (with_unfolding_all
    (have al := R.alive (List.mem_of_getElem? ea)
     have f : Fut K ι H ι (upd H a o) := ⟨⟨List.prefix_refl _, tup_upd (.inr al), scr_upd (.inr al)⟩, lk_upd hfr⟩
     refine ⟨⟨by rw [List.length_set]; exact R.len, R.nd, fun m u e => ?_⟩, f⟩
     have hn : n < S.length := by rw [← R.len]; exact (List.getElem?_eq_some_iff.mp ea).1
     by_cases hm : n = m
     · subst hm
       rw [List.getElem?_set_self hn] at e
       rw [← Option.some.inj e]
       exact ⟨a, ea, h _ rfl f⟩
     · rw [List.getElem?_set_ne hm] at e
       obtain ⟨b, eb, r⟩ := R.ob m u e
       refine ⟨b, eb, r.move f (upd_ne fun z => hm ?_)⟩
       subst z
       exact (List.getElem?_inj (List.getElem?_eq_some_iff.mp ea).1 R.nd).mp (ea.trans eb.symm)))) only [↓Dw.Qt.tt]
theorem Rep.list (R : Rep K N ι H S) {n : Nat} {ds : List D} (e : S[n]? = some (.lst ds)) : ∃ a xs, ι[n]? = some a ∧ H a = some (.lst xs) ∧ RepL K ι H ds xs := by
  obtain ⟨a, ea, xs, q, r⟩ := R.ob n _ e
  exact ⟨a, xs, ea, q, r⟩
end
def RepSl (K : PySem.W.Frag) (ι : List Addr) (H : Hp) (σa : Sl) (σ : L2.St) : Prop := σ.length = σa.length ∧ ∀ (i : Nat) (d : D), σa[i]? = some (some d) → ∃ v, σ[i]? = some (some v) ∧ RepV K ι H d v
section
variable {K : PySem.W.Frag} {ι ι' : List Addr} {H H' : Hp} {σa : Sl} {σ : L2.St}
theorem RepSl.fut0 (f : Fut0 K ι H ι' H') (h : RepSl K ι H σa σ) : RepSl K ι' H' σa σ := ⟨h.1, fun i d e => let ⟨v, a, b⟩ := h.2 i d e; ⟨v, a, b.fut0 f⟩⟩
theorem RepSl.fut (f : Fut K ι H ι' H') (h : RepSl K ι H σa σ) : RepSl K ι' H' σa σ := h.fut0 f.toFut0
theorem RepSl.set {i : Nat} {d : D} {v : V} (h : RepSl K ι H σa σ) (r : RepV K ι H d v) : RepSl K ι H (σa.set i (some d)) (σ.set i (some v)) := by
  refine ⟨by rw [List.length_set, List.length_set]; exact h.1, fun j c e => ?_⟩
  by_cases hj : i = j
  · subst hj
    by_cases hi : i < σa.length
    · rw [List.getElem?_set_self hi] at e
      have : d = c := by simpa using e
      subst this
      exact ⟨v, by rw [List.getElem?_set_self (by rw [h.1]; exact hi)], r⟩
    · rw [List.getElem?_eq_none (by rw [List.length_set]; omega)] at e
      cases e
  · rw [List.getElem?_set_ne hj] at e
    rw [List.getElem?_set_ne hj]
    exact h.2 j c e
theorem RepSl.unset {i : Nat} {o : Option V} (h : RepSl K ι H σa σ) : RepSl K ι H (σa.set i none) (σ.set i o) := by
  refine ⟨by rw [List.length_set, List.length_set]; exact h.1, fun j c e => ?_⟩
  by_cases hj : i = j
  · subst hj
    by_cases hi : i < σa.length
    · rw [List.getElem?_set_self hi] at e
      simp at e
    · rw [List.getElem?_eq_none (by rw [List.length_set]; omega)] at e
      cases e
  · rw [List.getElem?_set_ne hj] at e
    rw [List.getElem?_set_ne hj]
    exact h.2 j c e
def startA (n : Nat) (ds : List D) : Sl := ds.map some ++ List.replicate (n - ds.length) none
theorem RepSl.start {Ns : List Str} {ds : List D} {vs : List V} (h : RepL K ι H ds vs) : RepSl K ι H (startA Ns.length ds) (L2.start Ns vs) := by
  have l := h.length
  refine ⟨by unfold startA L2.start; simp [l], fun i d e => ?_⟩
  unfold startA at e
  unfold L2.start
  by_cases hi : i < ds.length
  · rw [List.getElem?_append_left (by rw [List.length_map]; exact hi), List.getElem?_map] at e
    rw [List.getElem?_append_left (by rw [List.length_map, l]; exact hi), List.getElem?_map]
    rw [List.getElem?_eq_getElem hi] at e
    have ed : ds[i] = d := by simpa using e
    obtain ⟨v, ev, r⟩ := h.get (i := i) (d := d) (by rw [List.getElem?_eq_getElem hi, ed])
    exact ⟨v, by rw [ev]; rfl, r⟩
  · rw [List.getElem?_append_right (by rw [List.length_map]; omega), List.getElem?_replicate] at e
    split at e <;> simp at e
end
inductive Res (α : Type) where
  | ok (a : α) (S : Sto)
  | ex (C : Addr) (S : Sto)
  | bad
def Res.bind {α β : Type} (r : Res α) (f : α → Sto → Res β) : Res β := match r with
  | .ok a S => f a S
  | .ex C S => .ex C S
  | .bad => .bad
@[simp] theorem Res.bind_ok {α β : Type} (a : α) (S : Sto) (f : α → Sto → Res β) : (Res.ok a S).bind f = f a S := rfl
@[simp] theorem Res.bind_ex {α β : Type} (C : Addr) (S : Sto) (f : α → Sto → Res β) : (Res.ex (α := α) C S).bind f = .ex C S := rfl
@[simp] theorem Res.bind_bad {α β : Type} (f : α → Sto → Res β) : (Res.bad (α := α)).bind f = .bad := rfl
inductive SRes where
  | nx (σ : Sl) (S : Sto) | rt (d : D) (S : Sto) | bk (σ : Sl) (S : Sto) | ct (σ : Sl) (S : Sto) | ex (C : Addr) (σ : Sl) (S : Sto) | bad
abbrev M (α : Type) := Sl → Sto → Res α
abbrev Sm := Sl → Sto → SRes
abbrev Fn := List D → Sto → Res D
section
variable (K : PySem.W.Frag) (N : Nms)
def goodE (W : WX) (r : Res D) (ι : List Addr) (H : Hp) (σ : L2.St) (Q : VK) : Prop := match r with
  | .ok d S' => ∀ ι' H' v, Fut K ι H ι' H' → Rep K N ι' H' S' → RepV K ι' H' d v → Q v H'
  | .ex C S' => ∀ ι' H', Fut K ι H ι' H' → Rep K N ι' H' S' → ∀ d, W (.ref C) d σ H'
  | .bad => False
def goodB (W : WX) (r : Res Bool) (ι : List Addr) (H : Hp) (σ : L2.St) (Q : Bool → Hp → Prop) : Prop := match r with
  | .ok b S' => ∀ ι' H', Fut K ι H ι' H' → Rep K N ι' H' S' → Q b H'
  | .ex C S' => ∀ ι' H', Fut K ι H ι' H' → Rep K N ι' H' S' → ∀ d, W (.ref C) d σ H'
  | .bad => False
def goodL (W : WX) (r : Res (List D)) (ι : List Addr) (H : Hp) (σ : L2.St) (Q : List V → Hp → Prop) : Prop := match r with
  | .ok ds S' => ∀ ι' H' vs, Fut K ι H ι' H' → Rep K N ι' H' S' → RepL K ι' H' ds vs → Q vs H'
  | .ex C S' => ∀ ι' H', Fut K ι H ι' H' → Rep K N ι' H' S' → ∀ d, W (.ref C) d σ H'
  | .bad => False
def goodS (W : WX) (r : SRes) (ι : List Addr) (H : Hp) (T : Ends) : Prop := match r with
  | .nx σa S' => ∀ ι' H' σ, Fut K ι H ι' H' → RepSl K ι' H' σa σ → Rep K N ι' H' S' → T.nx σ H'
  | .bk σa S' => ∀ ι' H' σ, Fut K ι H ι' H' → RepSl K ι' H' σa σ → Rep K N ι' H' S' → T.bk σ H'
  | .ct σa S' => ∀ ι' H' σ, Fut K ι H ι' H' → RepSl K ι' H' σa σ → Rep K N ι' H' S' → T.ct σ H'
  | .rt d S' => ∀ ι' H' v, Fut K ι H ι' H' → Rep K N ι' H' S' → RepV K ι' H' d v → T.rt v H'
  | .ex C σa S' => ∀ ι' H' σ, Fut K ι H ι' H' → RepSl K ι' H' σa σ → Rep K N ι' H' S' → ∀ d, W (.ref C) d σ H'
  | .bad => False
def goodF (r : Res D) (ι : List Addr) (H : Hp) (Q : VK) (E : XK) : Prop := match r with
  | .ok d S' => ∀ ι' H' v, Fut K ι H ι' H' → Rep K N ι' H' S' → RepV K ι' H' d v → Q v H'
  | .ex C S' => ∀ ι' H', Fut K ι H ι' H' → Rep K N ι' H' S' → ∀ d, E (.ref C) d H'
  | .bad => False
def teX (W : WX) (m : M D) : TE := fun σ H Q => ∃ ι σa S, RepSl K ι H σa σ ∧ Rep K N ι H S ∧ goodE K N W (m σa S) ι H σ Q
def tbX (W : WX) (m : M Bool) : TT := fun σ H Q => ∃ ι σa S, RepSl K ι H σa σ ∧ Rep K N ι H S ∧ goodB K N W (m σa S) ι H σ Q
def taX (W : WX) (m : M (List D)) : TA := fun σ H Q => ∃ ι σa S, RepSl K ι H σa σ ∧ Rep K N ι H S ∧ goodL K N W (m σa S) ι H σ Q
def tsX (W : WX) (c : Sm) : TS := fun T σ H => ∃ ι σa S, RepSl K ι H σa σ ∧ Rep K N ι H S ∧ goodS K N W (c σa S) ι H T
def spA (F : Fn) : Sp := fun vs H Q E => ∃ ι ds S, RepL K ι H ds vs ∧ Rep K N ι H S ∧ goodF K N (F ds S) ι H Q E
end
section
variable {K : PySem.W.Frag} {N : Nms} {W : WX} {ι ι' : List Addr} {H H' : Hp} {σ : L2.St} {σa : Sl} {S : Sto}
theorem goodE.fut {r : Res D} {Q : VK} (g : goodE K N W r ι H σ Q) (f : Fut K ι H ι' H') : goodE K N W r ι' H' σ Q := by
  cases r with
  | ok d S' => exact fun a b c f2 => g a b c (f.trans f2)
  | ex C S' => exact fun a b f2 => g a b (f.trans f2)
  | bad => exact g
theorem goodB.fut {r : Res Bool} {Q : Bool → Hp → Prop} (g : goodB K N W r ι H σ Q) (f : Fut K ι H ι' H') : goodB K N W r ι' H' σ Q := by
  cases r with
  | ok d S' => exact fun a b f2 => g a b (f.trans f2)
  | ex C S' => exact fun a b f2 => g a b (f.trans f2)
  | bad => exact g
theorem goodL.fut {r : Res (List D)} {Q : List V → Hp → Prop} (g : goodL K N W r ι H σ Q) (f : Fut K ι H ι' H') : goodL K N W r ι' H' σ Q := by
  cases r with
  | ok d S' => exact fun a b c f2 => g a b c (f.trans f2)
  | ex C S' => exact fun a b f2 => g a b (f.trans f2)
  | bad => exact g
theorem goodS.fut {r : SRes} {T : Ends} (g : goodS K N W r ι H T) (f : Fut K ι H ι' H') : goodS K N W r ι' H' T := by
  cases r with
  | nx _ _ => exact fun a b c f2 => g a b c (f.trans f2)
  | bk _ _ => exact fun a b c f2 => g a b c (f.trans f2)
  | ct _ _ => exact fun a b c f2 => g a b c (f.trans f2)
  | rt _ _ => exact fun a b c f2 => g a b c (f.trans f2)
  | ex _ _ _ => exact fun a b c f2 => g a b c (f.trans f2)
  | bad => exact g
theorem goodF.fut {r : Res D} {Q : VK} {E : XK} (g : goodF K N r ι H Q E) (f : Fut K ι H ι' H') : goodF K N r ι' H' Q E := by
  cases r with
  | ok d S' => exact fun a b c f2 => g a b c (f.trans f2)
  | ex C S' => exact fun a b f2 => g a b (f.trans f2)
  | bad => exact g
/-- an expression, then what is made of its value -/
def eBind {α β : Type} (m : M α) (k : α → M β) : M β := fun σ S => (m σ S).bind fun a S1 => k a σ S1
/-- an expression, then a statement with its value -/
def sBind {α : Type} (m : M α) (k : α → Sm) : Sm := fun σ S => match m σ S with
  | .ok a S1 => k a σ S1
  | .ex C S1 => .ex C σ S1
  | .bad => .bad
theorem bindEE {m : M D} {k : D → M D} {Q : VK} {R : VK} (hs : RepSl K ι H σa σ) (Rp : Rep K N ι H S) (g : goodE K N W (eBind m k σa S) ι H σ Q)
    (c : ∀ (ι' : List Addr) (H' : Hp) (v : V) (d : D) (S' : Sto), Fut K ι H ι' H' → RepSl K ι' H' σa σ → Rep K N ι' H' S' → RepV K ι' H' d v → goodE K N W (k d σa S') ι' H' σ Q → R v H') : teX K N W m σ H R := by
  refine ⟨ι, σa, S, hs, Rp, ?_⟩
  unfold eBind at g
  cases e : m σa S with
  | ok d S' =>
    rw [e] at g
    exact fun ι' H' v f R' r => c ι' H' v d S' f (hs.fut f) R' r (goodE.fut (r := k d σa S') g f)
  | ex C S' =>
    rw [e] at g
    exact g
  | bad =>
    rw [e] at g
    exact g
theorem bindEB {m : M D} {k : D → M Bool} {Q : Bool → Hp → Prop} {R : VK} (hs : RepSl K ι H σa σ) (Rp : Rep K N ι H S) (g : goodB K N W (eBind m k σa S) ι H σ Q)
    (c : ∀ (ι' : List Addr) (H' : Hp) (v : V) (d : D) (S' : Sto), Fut K ι H ι' H' → RepSl K ι' H' σa σ → Rep K N ι' H' S' → RepV K ι' H' d v → goodB K N W (k d σa S') ι' H' σ Q → R v H') : teX K N W m σ H R := by
  refine ⟨ι, σa, S, hs, Rp, ?_⟩
  unfold eBind at g
  cases e : m σa S with
  | ok d S' =>
    rw [e] at g
    exact fun ι' H' v f R' r => c ι' H' v d S' f (hs.fut f) R' r (goodB.fut (r := k d σa S') g f)
  | ex C S' =>
    rw [e] at g
    exact g
  | bad =>
    rw [e] at g
    exact g
theorem bindEL {m : M D} {k : D → M (List D)} {Q : List V → Hp → Prop} {R : VK} (hs : RepSl K ι H σa σ) (Rp : Rep K N ι H S) (g : goodL K N W (eBind m k σa S) ι H σ Q)
    (c : ∀ (ι' : List Addr) (H' : Hp) (v : V) (d : D) (S' : Sto), Fut K ι H ι' H' → RepSl K ι' H' σa σ → Rep K N ι' H' S' → RepV K ι' H' d v → goodL K N W (k d σa S') ι' H' σ Q → R v H') : teX K N W m σ H R := by
  refine ⟨ι, σa, S, hs, Rp, ?_⟩
  unfold eBind at g
  cases e : m σa S with
  | ok d S' =>
    rw [e] at g
    exact fun ι' H' v f R' r => c ι' H' v d S' f (hs.fut f) R' r (goodL.fut (r := k d σa S') g f)
  | ex C S' =>
    rw [e] at g
    exact g
  | bad =>
    rw [e] at g
    exact g
theorem bindES {m : M D} {k : D → Sm} {T : Ends} {R : VK} (hs : RepSl K ι H σa σ) (Rp : Rep K N ι H S) (g : goodS K N W (sBind m k σa S) ι H T)
    (c : ∀ (ι' : List Addr) (H' : Hp) (v : V) (d : D) (S' : Sto), Fut K ι H ι' H' → RepSl K ι' H' σa σ → Rep K N ι' H' S' → RepV K ι' H' d v → goodS K N W (k d σa S') ι' H' T → R v H') : teX K N W m σ H R := by
  refine ⟨ι, σa, S, hs, Rp, ?_⟩
  unfold sBind at g
  cases e : m σa S with
  | ok d S' =>
    rw [e] at g
    exact fun ι' H' v f R' r => c ι' H' v d S' f (hs.fut f) R' r (goodS.fut (r := k d σa S') g f)
  | ex C S' =>
    rw [e] at g
    exact fun ι' H' f R' => g ι' H' σ f (hs.fut f) R'
  | bad =>
    rw [e] at g
    exact g
theorem bindBE {m : M Bool} {k : Bool → M D} {Q : VK} {R : Bool → Hp → Prop} (hs : RepSl K ι H σa σ) (Rp : Rep K N ι H S) (g : goodE K N W (eBind m k σa S) ι H σ Q)
    (c : ∀ (ι' : List Addr) (H' : Hp) (b : Bool) (S' : Sto), Fut K ι H ι' H' → RepSl K ι' H' σa σ → Rep K N ι' H' S' → goodE K N W (k b σa S') ι' H' σ Q → R b H') : tbX K N W m σ H R := by
  refine ⟨ι, σa, S, hs, Rp, ?_⟩
  unfold eBind at g
  cases e : m σa S with
  | ok d S' =>
    rw [e] at g
    exact fun ι' H'  f R'  => c ι' H'  d S' f (hs.fut f) R' (goodE.fut (r := k d σa S') g f)
  | ex C S' =>
    rw [e] at g
    exact g
  | bad =>
    rw [e] at g
    exact g
theorem bindBB {m : M Bool} {k : Bool → M Bool} {Q : Bool → Hp → Prop} {R : Bool → Hp → Prop} (hs : RepSl K ι H σa σ) (Rp : Rep K N ι H S) (g : goodB K N W (eBind m k σa S) ι H σ Q)
    (c : ∀ (ι' : List Addr) (H' : Hp) (b : Bool) (S' : Sto), Fut K ι H ι' H' → RepSl K ι' H' σa σ → Rep K N ι' H' S' → goodB K N W (k b σa S') ι' H' σ Q → R b H') : tbX K N W m σ H R := by
  refine ⟨ι, σa, S, hs, Rp, ?_⟩
  unfold eBind at g
  cases e : m σa S with
  | ok d S' =>
    rw [e] at g
    exact fun ι' H'  f R'  => c ι' H'  d S' f (hs.fut f) R' (goodB.fut (r := k d σa S') g f)
  | ex C S' =>
    rw [e] at g
    exact g
  | bad =>
    rw [e] at g
    exact g
theorem bindBS {m : M Bool} {k : Bool → Sm} {T : Ends} {R : Bool → Hp → Prop} (hs : RepSl K ι H σa σ) (Rp : Rep K N ι H S) (g : goodS K N W (sBind m k σa S) ι H T)
    (c : ∀ (ι' : List Addr) (H' : Hp) (b : Bool) (S' : Sto), Fut K ι H ι' H' → RepSl K ι' H' σa σ → Rep K N ι' H' S' → goodS K N W (k b σa S') ι' H' T → R b H') : tbX K N W m σ H R := by
  refine ⟨ι, σa, S, hs, Rp, ?_⟩
  unfold sBind at g
  cases e : m σa S with
  | ok d S' =>
    rw [e] at g
    exact fun ι' H'  f R'  => c ι' H'  d S' f (hs.fut f) R' (goodS.fut (r := k d σa S') g f)
  | ex C S' =>
    rw [e] at g
    exact fun ι' H' f R' => g ι' H' σ f (hs.fut f) R'
  | bad =>
    rw [e] at g
    exact g
theorem bindLE {m : M (List D)} {k : (List D) → M D} {Q : VK} {R : List V → Hp → Prop} (hs : RepSl K ι H σa σ) (Rp : Rep K N ι H S) (g : goodE K N W (eBind m k σa S) ι H σ Q)
    (c : ∀ (ι' : List Addr) (H' : Hp) (vs : List V) (ds : (List D)) (S' : Sto), Fut K ι H ι' H' → RepSl K ι' H' σa σ → Rep K N ι' H' S' → RepL K ι' H' ds vs → goodE K N W (k ds σa S') ι' H' σ Q → R vs H') : taX K N W m σ H R := by
  refine ⟨ι, σa, S, hs, Rp, ?_⟩
  unfold eBind at g
  cases e : m σa S with
  | ok d S' =>
    rw [e] at g
    exact fun ι' H' v f R' r => c ι' H' v d S' f (hs.fut f) R' r (goodE.fut (r := k d σa S') g f)
  | ex C S' =>
    rw [e] at g
    exact g
  | bad =>
    rw [e] at g
    exact g
theorem bindLL {m : M (List D)} {k : (List D) → M (List D)} {Q : List V → Hp → Prop} {R : List V → Hp → Prop} (hs : RepSl K ι H σa σ) (Rp : Rep K N ι H S) (g : goodL K N W (eBind m k σa S) ι H σ Q)
    (c : ∀ (ι' : List Addr) (H' : Hp) (vs : List V) (ds : (List D)) (S' : Sto), Fut K ι H ι' H' → RepSl K ι' H' σa σ → Rep K N ι' H' S' → RepL K ι' H' ds vs → goodL K N W (k ds σa S') ι' H' σ Q → R vs H') : taX K N W m σ H R := by
  refine ⟨ι, σa, S, hs, Rp, ?_⟩
  unfold eBind at g
  cases e : m σa S with
  | ok d S' =>
    rw [e] at g
    exact fun ι' H' v f R' r => c ι' H' v d S' f (hs.fut f) R' r (goodL.fut (r := k d σa S') g f)
  | ex C S' =>
    rw [e] at g
    exact g
  | bad =>
    rw [e] at g
    exact g
/-- weaken the end -/
theorem teX.imp {m : M D} {Q Q' : VK} (h : teX K N W m σ H Q) (i : ∀ v H', Q v H' → Q' v H') : teX K N W m σ H Q' := by
  obtain ⟨ι, σa, S, hs, R, g⟩ := h
  refine ⟨ι, σa, S, hs, R, ?_⟩
  cases e : m σa S with
  | ok d S' => rw [e] at g; exact fun a b c d e f => i _ _ (g a b c d e f)
  | ex C S' => rw [e] at g; exact g
  | bad => rw [e] at g; exact g
theorem tbX.imp {m : M Bool} {Q Q' : Bool → Hp → Prop} (h : tbX K N W m σ H Q) (i : ∀ v H', Q v H' → Q' v H') : tbX K N W m σ H Q' := by
  obtain ⟨ι, σa, S, hs, R, g⟩ := h
  refine ⟨ι, σa, S, hs, R, ?_⟩
  cases e : m σa S with
  | ok d S' => rw [e] at g; exact fun a b c d => i _ _ (g a b c d)
  | ex C S' => rw [e] at g; exact g
  | bad => rw [e] at g; exact g
theorem taX.imp {m : M (List D)} {Q Q' : List V → Hp → Prop} (h : taX K N W m σ H Q) (i : ∀ v H', Q v H' → Q' v H') : taX K N W m σ H Q' := by
  obtain ⟨ι, σa, S, hs, R, g⟩ := h
  refine ⟨ι, σa, S, hs, R, ?_⟩
  cases e : m σa S with
  | ok d S' => rw [e] at g; exact fun a b c d e f => i _ _ (g a b c d e f)
  | ex C S' => rw [e] at g; exact g
  | bad => rw [e] at g; exact g
end
theorem PE.imp {X : Cx} {e : Expr} {t t' : TE} (h : PE X e t) (i : ∀ σ H Q, t' σ H Q → t σ H Q) : PE X e t' := ⟨fun pins s σ H Q I q => h.run pins s σ H Q I (i σ H Q q)⟩
theorem PT.imp {X : Cx} {e : Expr} {t t' : TT} (h : PT X e t) (i : ∀ σ H Q, t' σ H Q → t σ H Q) : PT X e t' := ⟨fun pins s σ H Q I q => h.run pins s σ H Q I (i σ H Q q)⟩
theorem PW.imp {X : Cx} {e : Expr} {t t' : TT} (h : PW X e t) (i : ∀ σ H Q, t' σ H Q → t σ H Q) : PW X e t' := ⟨fun wh pins s σ H Q I q => h.run wh pins s σ H Q I (i σ H Q q)⟩
theorem PA.imp {X : Cx} {es : List Expr} {t t' : TA} (h : PA X es t) (i : ∀ σ H Q, t' σ H Q → t σ H Q) : PA X es t' := ⟨fun p pins s σ H Q I q => h.run p pins s σ H Q I (i σ H Q q)⟩
theorem PS.imp {X : Cx} {st : Stmt} {t t' : TS} (h : PS X st t) (i : ∀ σ H T, t' T σ H → t T σ H) : PS X st t' := ⟨fun pins s σ H T I q => h.run pins s σ H T I (i σ H T q)⟩
theorem PSs.imp {X : Cx} {st : List Stmt} {t t' : TS} (h : PSs X st t) (i : ∀ σ H T, t' T σ H → t T σ H) : PSs X st t' := ⟨fun pins s σ H T I q => h.run pins s σ H T I (i σ H T q)⟩
abbrev AE (K : PySem.W.Frag) (N : Nms) (W : WX) (X : Cx) (e : Expr) (m : M D) : Prop := PE X e (teX K N W m)
abbrev AT (K : PySem.W.Frag) (N : Nms) (W : WX) (X : Cx) (e : Expr) (m : M Bool) : Prop := PT X e (tbX K N W m)
abbrev AW (K : PySem.W.Frag) (N : Nms) (W : WX) (X : Cx) (e : Expr) (m : M Bool) : Prop := PW X e (tbX K N W m)
abbrev AA (K : PySem.W.Frag) (N : Nms) (W : WX) (X : Cx) (es : List Expr) (m : M (List D)) : Prop := PA X es (taX K N W m)
abbrev AS (K : PySem.W.Frag) (N : Nms) (W : WX) (X : Cx) (st : Stmt) (c : Sm) : Prop := PS X st (tsX K N W c)
abbrev ASs (K : PySem.W.Frag) (N : Nms) (W : WX) (X : Cx) (st : List Stmt) (c : Sm) : Prop := PSs X st (tsX K N W c)
mutual
inductive Va (H : Hp) : V → PyData → Prop
  | non : Va H .non .none
  | bl (b : Bool) : Va H (.bl b) (.bool b)
  | int (i : Int) : Va H (.int i) (.int i)
  | str (x : Str) : Va H (.str x) (.str x)
  | tup {a : Addr} {xs : List V} {ds : List PyData} : Tk H a xs → VaL H xs ds → Va H (.ref a) (.tuple ds)
inductive VaL (H : Hp) : List V → List PyData → Prop
  | nil : VaL H [] []
  | cons {v : V} {vs : List V} {d : PyData} {ds : List PyData} : Va H v d → VaL H vs ds → VaL H (v :: vs) (d :: ds)
end
section
variable {K : PySem.W.Frag} {st : Addr} {H H1 : Hp}
mutual
theorem Va.mono (k : ∀ a xs, Tk H a xs → Tk H1 a xs) : ∀ {v : V} {d : PyData}, Va H v d → Va H1 v d
  | _, _, .non => .non
  | _, _, .bl b => .bl b
  | _, _, .int i => .int i
  | _, _, .str x => .str x
  | _, _, .tup t r => .tup (k _ _ t) (VaL.mono k r)
theorem VaL.mono (k : ∀ a xs, Tk H a xs → Tk H1 a xs) : ∀ {vs : List V} {ds : List PyData}, VaL H vs ds → VaL H1 vs ds
  | _, _, .nil => .nil
  | _, _, .cons a r => .cons (Va.mono k a) (VaL.mono k r)
end
theorem Va.same {v : V} {d : PyData} (h : Va H v d) (s : Same H H1) : Va H1 v d := h.mono fun _ _ t => t.same s
theorem VaL.same {v : List V} {d : List PyData} (h : VaL H v d) (s : Same H H1) : VaL H1 v d := h.mono fun _ _ t => t.same s
theorem Va.next {v : V} {d : PyData} (h : Va H v d) (s : Stt H st) (r : Dr st H H1) : Va H1 v d := h.mono fun _ _ t => t.next s r
theorem VaL.next {v : List V} {d : List PyData} (h : VaL H v d) (s : Stt H st) (r : Dr st H H1) : VaL H1 v d := h.mono fun _ _ t => t.next s r
mutual
theorem Va.dp : ∀ {v : V} {d : PyData}, Va H v d → Dp K H v d
  | _, _, .non => .non
  | _, _, .bl b => .bl b
  | _, _, .int i => .int i
  | _, _, .str x => .str x
  | _, _, .tup t r => .tup t.seq (VaL.dp r)
theorem VaL.dp : ∀ {vs : List V} {ds : List PyData}, VaL H vs ds → DpAll K H vs ds
  | _, _, .nil => .nil
  | _, _, .cons a r => .cons (Va.dp a) (VaL.dp r)
end
theorem VaL.length : ∀ {vs : List V} {ds : List PyData}, VaL H vs ds → vs.length = ds.length
  | _, _, .nil => rfl
  | _, _, .cons _ r => by rw [List.length_cons, List.length_cons, VaL.length r]
theorem VaL.get : ∀ {vs : List V} {ds : List PyData} {i : Nat} {v : V}, VaL H vs ds → vs[i]? = some v → ∃ d, ds[i]? = some d ∧ Va H v d
  | _, _, i, v, .nil, e => by simp at e
  | _, _, 0, v, .cons (d := d) a _, e => by
    obtain rfl := Option.some.inj e
    exact ⟨d, rfl, a⟩
  | _, _, i + 1, v, .cons _ r, e => VaL.get (i := i) r e
theorem Va.inv {v : V} {d : PyData} (h : Va H v d) : (v = .non ∧ d = .none) ∨ (∃ b, v = .bl b ∧ d = .bool b) ∨ (∃ i, v = .int i ∧ d = .int i) ∨ (∃ x, v = .str x ∧ d = .str x) ∨
    ∃ a xs ds, v = .ref a ∧ d = .tuple ds ∧ Tk H a xs ∧ VaL H xs ds := by
  cases h with
  | non => exact .inl ⟨rfl, rfl⟩
  | bl b => exact .inr (.inl ⟨b, rfl, rfl⟩)
  | int i => exact .inr (.inr (.inl ⟨i, rfl, rfl⟩))
  | str x => exact .inr (.inr (.inr (.inl ⟨x, rfl, rfl⟩)))
  | tup t r => exact .inr (.inr (.inr (.inr ⟨_, _, _, rfl, rfl, t, r⟩)))
end
/-- a count in groups of seven bits -/
def cnt (n : Nat) : List Int := if h : n < 128 then [(n : Int)] else (128 + (n % 128 : Nat) : Int) :: cnt (n / 128)
termination_by n
decreasing_by omega
theorem cnt_lt {n : Nat} (h : n < 128) : cnt n = [(n : Int)] := by
  rw [cnt, dif_pos h]
theorem cnt_ge {n : Nat} (h : 128 ≤ n) : cnt n = (128 + (n % 128 : Nat) : Int) :: cnt (n / 128) := by
  rw [cnt, dif_neg (by omega)]
theorem cnt_pos (n : Nat) : 1 ≤ (cnt n).length := by
  by_cases h : n < 128
  · rw [cnt_lt h]
    exact Nat.le_refl 1
  · rw [cnt_ge (by omega)]
    simp
theorem cnt_len : ∀ (k n : Nat), n < 128 ^ (k + 1) → (cnt n).length ≤ k + 1
  | 0, n, h => by
    rw [cnt_lt (by simpa using h)]
    exact Nat.le_refl 1
  | k + 1, n, h => by
    by_cases c : n < 128
    · rw [cnt_lt c]
      simp
    · rw [cnt_ge (by omega), List.length_cons]
      have q : n / 128 < 128 ^ (k + 1) := by
        rw [Nat.div_lt_iff_lt_mul (by decide)]
        rw [Nat.pow_succ] at h
        exact h
      have := cnt_len k (n / 128) q
      omega
theorem cnt_byte (n : Nat) : ∀ b ∈ cnt n, 0 ≤ b ∧ b < 256 := by
  induction n using Nat.strongRecOn with
  | ind n ih =>
    intro b hb
    by_cases c : n < 128
    · rw [cnt_lt c] at hb
      obtain rfl := List.mem_singleton.mp hb
      omega
    · rw [cnt_ge (by omega)] at hb
      rcases List.mem_cons.mp hb with rfl | hb
      · omega
      · exact ih (n / 128) (by omega) b hb
/-- the signs of a text, as bytes -/
def sgn (x : Str) : List Int := x.cps.toList.map fun c : Nat => (c : Int)
mutual
def rcd : PyData → List Int
  | .none => [0]
  | .bool b => [if b then 2 else 1]
  | .int i => if 0 ≤ i then 3 :: cnt i.toNat else 4 :: cnt (-i - 1).toNat
  | .str x => 5 :: (cnt x.length ++ sgn x)
  | .tuple ds => 6 :: (cnt ds.length ++ rcdL ds)
  | .list _ => []
  | .dict _ => []
def rcdL : List PyData → List Int
  | [] => []
  | d :: ds => rcd d ++ rcdL ds
end
theorem rcdL_snoc : ∀ (ds : List PyData) (d : PyData), rcdL (ds ++ [d]) = rcdL ds ++ rcd d
  | [], d => by simp [rcdL]
  | e :: ds, d => by
    rw [List.cons_append, rcdL, rcdL, rcdL_snoc ds d, List.append_assoc]
/-- a sign that may stand in a text -/
def okSign (n : Nat) : Prop := 32 ≤ n ∧ n ≤ 126 ∧ n ≠ 37
mutual
/-- a value of the document, with small texts and ints -/
def OkV : PyData → Prop
  | .none => True
  | .bool _ => True
  | .int i => i.natAbs < 2 ^ 100
  | .str x => x.length ≤ 1000 ∧ ∀ c ∈ x.cps.toList, okSign c
  | .tuple ds => ds.length ≤ 1000 ∧ OkL ds
  | .list _ => False
  | .dict _ => False
def OkL : List PyData → Prop
  | [] => True
  | d :: ds => OkV d ∧ OkL ds
end
def Sh (n : Nat) (d : PyData) : Prop := d.canLay0 = true ∧ d.depth ≤ n
theorem Sh.mono {n m : Nat} {d : PyData} (h : Sh n d) (l : n ≤ m) : Sh m d := ⟨h.1, Nat.le_trans h.2 l⟩
theorem Sh.none : Sh 0 .none := ⟨by simp [PyData.canLay0], by simp [PyData.depth]⟩
theorem Sh.bool (b : Bool) : Sh 0 (.bool b) := ⟨by simp [PyData.canLay0], by simp [PyData.depth]⟩
theorem Sh.int (i : Int) : Sh 0 (.int i) := ⟨by simp [PyData.canLay0], by simp [PyData.depth]⟩
theorem Sh.str {x : Str} (h : Asc x) : Sh 0 (.str x) := ⟨by simp [PyData.canLay0, ok_asc h], by simp [PyData.depth]⟩
theorem sh_all {n : Nat} : ∀ {ds : List PyData}, (∀ d ∈ ds, Sh n d) → PyData.canLayAll0 ds = true ∧ PyData.depthAll ds ≤ n
  | [], _ => ⟨by simp [PyData.canLayAll0], by simp [PyData.depthAll]⟩
  | d :: ds, h => by
    have h1 := h d List.mem_cons_self
    have h2 := sh_all (ds := ds) fun e he => h e (List.mem_cons_of_mem _ he)
    refine ⟨?_, ?_⟩
    · rw [PyData.canLayAll0, h1.1, h2.1, Bool.and_self]
    · rw [PyData.depthAll]
      have a := h1.2
      have b := h2.2
      omega
theorem Sh.tuple {n : Nat} {ds : List PyData} (h : ∀ d ∈ ds, Sh n d) : Sh (n + 1) (.tuple ds) := by
  obtain ⟨a, b⟩ := sh_all h
  refine ⟨by rw [PyData.canLay0]; exact a, ?_⟩
  rw [PyData.depth]
  omega
theorem Sh.list {n : Nat} {ds : List PyData} (h : ∀ d ∈ ds, Sh n d) : Sh (n + 1) (.list ds) := by
  obtain ⟨a, b⟩ := sh_all h
  refine ⟨by rw [PyData.canLay0]; exact a, ?_⟩
  rw [PyData.depth]
  omega
theorem Sh.shaped {n : Nat} {d : PyData} (h : Sh n d) (l : n ≤ 64 := by decide) : SeqAt.shaped d = true := by
  unfold SeqAt.shaped
  rw [h.1, decide_eq_true (Nat.le_trans h.2 l)]
  rfl
theorem Sh.refl {n : Nat} {d : PyData} (h : Sh n d) : PyData.eqv d d = true := SeqAt.eqv_refl d h.1
theorem Sh.one {n : Nat} {d : PyData} (h : Sh n d) : ∀ z ∈ [d], Sh n z := fun z hz => by
  rw [List.mem_singleton.mp hz]
  exact h
theorem Va.put {H : Hp} {v : V} {d : PyData} {l : Addr} {zs : List V} {o : HO} (h : Va H v d) (e : H l = some (.lst zs)) : Va (upd H l o) v d := h.mono fun _ _ t => t.put e
theorem VaL.put {H : Hp} {v : List V} {d : List PyData} {l : Addr} {zs : List V} {o : HO} (h : VaL H v d) (e : H l = some (.lst zs)) : VaL (upd H l o) v d := h.mono fun _ _ t => t.put e
open Classical in
noncomputable def gd {α : Type} (p : Prop) (x : Option α) : Option α := if p then x else none
theorem gd_some {α : Type} {p : Prop} {x : Option α} {a : α} (h : gd p x = some a) : p ∧ x = some a := by
  unfold gd at h
  split at h
  · exact ⟨by assumption, h⟩
  · cases h
theorem gd_ok {α : Type} {p : Prop} {x : Option α} (h : p) : gd p x = x := by
  unfold gd
  rw [if_pos h]
def ofO {α : Type} (r : Option (α × Sto)) : Res α := match r with
  | some (a, S) => .ok a S
  | none => .bad
@[simp] theorem ofO_some {α : Type} (a : α) (S : Sto) : ofO (some (a, S)) = .ok a S := rfl
def goodO (K : PySem.W.Frag) (N : Nms) (r : Option (D × Sto)) (ι : List Addr) (H : Hp) (Q : VK) : Prop := match r with
  | some (d, S') => ∀ ι' H' v, Fut K ι H ι' H' → Rep K N ι' H' S' → RepV K ι' H' d v → Q v H'
  | none => False
section
variable {K : PySem.W.Frag} {N : Nms} {W : WX} {ι ι' : List Addr} {H H' : Hp} {σ : L2.St} {σa : Sl} {S : Sto} {X : Cx}
theorem goodO.of {r : Option (D × Sto)} {Q : VK} (g : goodE K N W (ofO r) ι H σ Q) : goodO K N r ι H Q := by
  match r, g with
  | some (d, S'), g => exact g
theorem goodO.fut {r : Option (D × Sto)} {Q : VK} (g : goodO K N r ι H Q) (f : Fut K ι H ι' H') : goodO K N r ι' H' Q := by
  match r, g with
  | some (d, S'), g => exact fun a b c f2 => g a b c (f.trans f2)
/-- a value without a change of the store -/
theorem goodO.at {d : D} {Q : VK} (g : goodO K N (some (d, S)) ι H Q) (R : Rep K N ι H S) {v : V} (r : RepV K ι H d v) : Q v H := g ι H v (Fut.refl _ _) R r
theorem goodE.at {d : D} {Q : VK} (g : goodE K N W (.ok d S) ι H σ Q) (R : Rep K N ι H S) {v : V} (r : RepV K ι H d v) : Q v H := g ι H v (Fut.refl _ _) R r
def eC (d : D) : M D := fun _ S => .ok d S
def eV (i : Nat) : M D := fun σ S => match σ[i]? with
  | some (some d) => .ok d S
  | _ => .bad
theorem ae_non {j pos} : AE K N W X (.Constant .none j pos) (eC .non) := PE.imp pe_non fun σ H Q ⟨_, _, _, _, R, g⟩ => goodE.at g R rfl
theorem ae_bl {b j pos} : AE K N W X (.Constant (.bool b) j pos) (eC (.bl b)) := PE.imp pe_bl fun σ H Q ⟨_, _, _, _, R, g⟩ => goodE.at g R rfl
theorem ae_int {i j pos} : AE K N W X (.Constant (.int i) j pos) (eC (.int i)) := PE.imp pe_int fun σ H Q ⟨_, _, _, _, R, g⟩ => goodE.at g R rfl
theorem ae_str {x j pos} : AE K N W X (.Constant (.str x) j pos) (eC (.str x)) := PE.imp pe_str fun σ H Q ⟨_, _, _, _, R, g⟩ => goodE.at g R rfl
theorem ae_var {i : Nat} {e : Expr} (h : PE X e (tVar i)) : AE K N W X e (eV i) := PE.imp h fun σ H Q ⟨ι, σa, S, hs, R, g⟩ => by
  unfold eV at g
  cases e : σa[i]? with
  | none =>
    rw [e] at g
    exact g.elim
  | some o =>
    cases o with
    | none =>
      rw [e] at g
      exact g.elim
    | some d =>
      rw [e] at g
      obtain ⟨v, ev, r⟩ := hs.2 i d e
      exact ⟨v, ev, goodE.at g R r⟩
theorem ae_c {e : Expr} {d : D} {v : V} (h : PE X e (tC v)) (r : ∀ ι H, RepV K ι H d v) : AE K N W X e (eC d) := PE.imp h fun σ H Q ⟨ι, _, _, _, R, g⟩ => goodE.at g R (r ι H)
theorem ae_kI {x : Str} {z : Int} {p : Pos} (hg : Gl X x) (hm : ∃ t, X.mg x = some (.int z t)) (hd : (x == ("__debug__" : Str)) = false := by decide) : AE K N W X (.Name x p) (eC (.int z)) := ae_c (pe_kI hg hm hd) fun _ _ => rfl
theorem ae_kS {x : Str} {z : Str} {p : Pos} (hg : Gl X x) (hm : ∃ t, X.mg x = some (.str z t)) (hd : (x == ("__debug__" : Str)) = false := by decide) : AE K N W X (.Name x p) (eC (.str z)) := ae_c (pe_kS hg hm hd) fun _ _ => rfl
abbrev Op1 := D → Sto → Option (D × Sto)
abbrev Op2 := D → D → Sto → Option (D × Sto)
def e1 (f : Op1) (a : M D) : M D := eBind a fun x _ S => ofO (f x S)
def e2 (f : Op2) (a b : M D) : M D := eBind a fun x => eBind b fun y _ S => ofO (f x y S)
def R1ok (K : PySem.W.Frag) (N : Nms) (r : V → Hp → VK → Prop) (f : Op1) : Prop := ∀ ι H S x v Q, Rep K N ι H S → RepV K ι H x v → goodO K N (f x S) ι H Q → r v H Q
def R2ok (K : PySem.W.Frag) (N : Nms) (r : R2) (f : Op2) : Prop := ∀ ι H S x y v u Q, Rep K N ι H S → RepV K ι H x v → RepV K ι H y u → goodO K N (f x y S) ι H Q → r v u H Q
theorem te_op {r : R2} {f : Op2} (hr : R2ok K N r f) {ma mb : M D} {Q : VK} (h : teX K N W (e2 f ma mb) σ H Q) : tOp r (teX K N W ma) (teX K N W mb) σ H Q := by
  obtain ⟨ι, σa, S, hs, R, g⟩ := h
  exact bindEE hs R g fun ι1 H1 v d S1 f1 hs1 R1 r1 g1 => bindEE hs1 R1 g1 fun ι2 H2 u e S2 f2 hs2 R2 r2 g2 => hr ι2 H2 S2 d e v u Q R2 (r1.fut f2) r2 (goodO.of g2)
theorem te_un {r : V → Hp → VK → Prop} {f : Op1} (hr : R1ok K N r f) {ma : M D} {Q : VK} (h : teX K N W (e1 f ma) σ H Q) : tUn r (teX K N W ma) σ H Q := by
  obtain ⟨ι, σa, S, hs, R, g⟩ := h
  exact bindEE hs R g fun ι1 H1 v d S1 f1 hs1 R1 r1 g1 => hr ι1 H1 S1 d v Q R1 r1 (goodO.of g1)
section
variable {a b c : Expr} {ma mb mc : M D} {pos : Pos}
theorem ae_op {op : Operator} {r : R2} {f : Op2} (ho : OpR X (binaryOp op) r) (hr : R2ok K N r f) (ha : AE K N W X a ma) (hb : AE K N W X b mb) : AE K N W X (.BinOp a op b pos) (e2 f ma mb) := PE.imp (pe_op ho ha hb) fun σ H Q h => te_op hr h
theorem ae_un {op : UnaryOp} {r : V → Hp → VK → Prop} {f : Op1} (ho : UnR X (unaryOp op) r) (hr : R1ok K N r f) (ha : AE K N W X a ma) : AE K N W X (.UnaryOp op a pos) (e1 f ma) := PE.imp (pe_un ho ha) fun σ H Q h => te_un hr h
theorem ae_cmp {op : CmpOp} {r : R2} {f : Op2} (ho : OpR X (compareOp op) r) (hr : R2ok K N r f) (ha : AE K N W X a ma) (hb : AE K N W X b mb) (hm : behindInMarks op b = false) : AE K N W X (.Compare a [op] [b] pos) (e2 f ma mb) := PE.imp (pe_cmpR ho ha hb hm) fun σ H Q h => te_op hr h
/-- a value as a test -/
def eT (m : M D) : M Bool := eBind m fun d _ S => match d with
  | .bl b => .ok b S
  | _ => .bad
theorem tb_test {m : M D} {Q : Bool → Hp → Prop} (h : tbX K N W (eT m) σ H Q) : teX K N W m σ H fun x H' => ∃ k, x = .bl k ∧ Q k H' := by
  obtain ⟨ι, σa, S, hs, R, g⟩ := h
  refine bindEB hs R g fun ι1 H1 v d S1 f1 hs1 R1 r1 g1 => ?_
  cases d with
  | bl k => exact ⟨k, r1, g1 ι1 H1 (Fut.refl _ _) R1⟩
  | _ => exact g1.elim
theorem at_cmp {op : CmpOp} {r : R2} {f : Op2} (ho : OpR X (compareOp op) r) (hr : R2ok K N r f) (ha : AE K N W X a ma) (hb : AE K N W X b mb) (hm : behindInMarks op b = false) : AT K N W X (.Compare a [op] [b] pos) (eT (e2 f ma mb)) :=
  PT.imp (pt_cmpR ho ha hb hm) fun σ H Q h => te_op (Q := fun x H' => ∃ k, x = .bl k ∧ Q k H') hr (tb_test h)
theorem at_val {e : Expr} {m : M D} (h : AE K N W X e m) (he : ∀ whole, isTrue e X.env whole = (do let v ← whole; standAt e.pos; holding [v] (truthy v)) := by intro _; rfl) : AT K N W X e (eT m) := PT.imp (pt_val h he) fun σ H Q h => tb_test h
/-- a op b op' c -/
def eChain (f f' : Op2) (a b c : M D) : M D := eBind a fun x => eBind b fun y => eBind (fun _ S => ofO (f x y S)) fun z => match z with
  | .bl true => eBind c fun w _ S => ofO (f' y w S)
  | .bl false => fun _ S => .ok (.bl false) S
  | _ => fun _ _ => .bad
theorem te_chain {r r' : R2} {f f' : Op2} (hr : R2ok K N r f) (hr' : R2ok K N r' f') {Q : VK} (h : teX K N W (eChain f f' ma mb mc) σ H Q) : tChain r r' (teX K N W ma) (teX K N W mb) (teX K N W mc) σ H Q := by
  refine Dw.Qt.un ?_
  simp (disch := (with_unfolding_all
    (obtain ⟨ι, σa, S, hs, R, g⟩ := h
     refine bindEE hs R g fun ι1 H1 v d S1 f1 hs1 R1 r1 g1 => bindEE hs1 R1 g1 fun ι2 H2 u e S2 f2 hs2 R2 r2 g2 => ?_
     refine hr ι2 H2 S2 d e v u _ R2 (r1.fut f2) r2 ?_
     change goodE K N W ((ofO (f d e S2)).bind _) _ _ _ _ at g2
     cases ef : f d e S2 with
     | none =>
       rw [ef] at g2
       exact g2.elim
     | some p =>
       obtain ⟨z, S3⟩ := p
       rw [ef] at g2
       intro ι3 H3 vz f3 R3 r3
       cases z with
       | bl k =>
         refine ⟨k, r3, ?_⟩
         cases k with
         | true =>
           refine iteT (bindEE (k := fun w _ S => ofO (f' e w S)) (hs2.fut f3) R3 (goodE.fut (r := eBind mc (fun w _ S => ofO (f' e w S)) σa S3) g2 f3) fun ι4 H4 w dw S4 f4 hs4 R4 r4 g4 => ?_)
           exact hr' ι4 H4 S4 e dw u w Q R4 ((r2.fut f3).fut f4) r4 (goodO.of g4)
         | false => exact iteF (g2 ι3 H3 _ f3 R3 rfl)
       | _ => exact g2.elim))) only [↓Dw.Qt.tt]
theorem ae_chain {op op' : CmpOp} {r r' : R2} {f f' : Op2} (ho : OpR X (compareOp op) r) (ho' : OpR X (compareOp op') r') (hr : R2ok K N r f) (hr' : R2ok K N r' f') (ha : AE K N W X a ma) (hb : AE K N W X b mb) (hc : AE K N W X c mc)
    (hm : lastMarks [op, op'] [b, c] = false := by with_unfolding_all rfl) : AE K N W X (.Compare a [op, op'] [b, c] pos) (eChain f f' ma mb mc) := PE.imp (pe_chain ho ho' ha hb hc hm) fun σ H Q h => te_chain hr hr' h
def bAnd (a b : M Bool) : M Bool := eBind a fun c => if c then b else fun _ S => .ok false S
def bOr (a b : M Bool) : M Bool := eBind a fun c => if c then fun _ S => .ok true S else b
def bNot (a : M Bool) : M Bool := eBind a fun c _ S => .ok (!c) S
def eIf (t : M Bool) (a b : M D) : M D := eBind t fun c => if c then a else b
variable {ba bb : M Bool} {rest : List Expr}
theorem aw_and1 (ha : AT K N W X a ba) : AW K N W X (.BoolOp .And [a] pos) ba := pw_and1 ha
theorem aw_or1 (ha : AT K N W X a ba) : AW K N W X (.BoolOp .Or [a] pos) ba := pw_or1 ha
theorem aw_and (ha : AT K N W X a ba) (hb : AW K N W X (.BoolOp .And (b :: rest) pos) bb) : AW K N W X (.BoolOp .And (a :: b :: rest) pos) (bAnd ba bb) := PW.imp (pw_and ha hb) fun σ H Q ⟨ι, σa, S, hs, R, g⟩ =>
  bindBB hs R g fun ι1 H1 c S1 f1 hs1 R1 g1 => by
    cases c with
    | true => exact iteT ⟨ι1, _, S1, hs1, R1, g1⟩
    | false => exact iteF (g1 ι1 H1 (Fut.refl _ _) R1)
theorem aw_or (ha : AT K N W X a ba) (hb : AW K N W X (.BoolOp .Or (b :: rest) pos) bb) : AW K N W X (.BoolOp .Or (a :: b :: rest) pos) (bOr ba bb) := PW.imp (pw_or ha hb) fun σ H Q ⟨ι, σa, S, hs, R, g⟩ =>
  bindBB hs R g fun ι1 H1 c S1 f1 hs1 R1 g1 => by
    cases c with
    | true => exact iteT (g1 ι1 H1 (Fut.refl _ _) R1)
    | false => exact iteF ⟨ι1, _, S1, hs1, R1, g1⟩
theorem at_not (ha : AT K N W X a ba) : AT K N W X (.UnaryOp .Not a pos) (bNot ba) := PT.imp (pt_not ha) fun σ H Q ⟨ι, σa, S, hs, R, g⟩ =>
  bindBB hs R g fun ι1 H1 c S1 f1 hs1 R1 g1 => g1 ι1 H1 (Fut.refl _ _) R1
theorem ae_ifE (ht : AT K N W X c ba) (ha : AE K N W X a ma) (hb : AE K N W X b mb) : AE K N W X (.IfExp c a b pos) (eIf ba ma mb) := PE.imp (pe_ifExp ht ha hb) fun σ H Q ⟨ι, σa, S, hs, R, g⟩ =>
  bindBE hs R g fun ι1 H1 c S1 f1 hs1 R1 g1 => by
    cases c with
    | true => exact iteT ⟨ι1, _, S1, hs1, R1, g1⟩
    | false => exact iteF ⟨ι1, _, S1, hs1, R1, g1⟩
/-- as values -/
def eNot (a : M D) : M D := eBind a fun x _ S => match x with
  | .bl c => .ok (.bl (!c)) S
  | _ => .bad
def eAnd (a b : M D) : M D := eBind a fun x => match x with
  | .bl true => b
  | .bl false => fun _ S => .ok (.bl false) S
  | _ => fun _ _ => .bad
def eOr (a b : M D) : M D := eBind a fun x => match x with
  | .bl false => b
  | .bl true => fun _ S => .ok (.bl true) S
  | _ => fun _ _ => .bad
theorem ae_not (ha : AE K N W X a ma) : AE K N W X (.UnaryOp .Not a pos) (eNot ma) := PE.imp (pe_not ha) fun σ H Q ⟨ι, σa, S, hs, R, g⟩ =>
  bindEE hs R g fun ι1 H1 v d S1 f1 hs1 R1 r1 g1 => by
    cases d with
    | bl c => exact ⟨c, r1, goodE.at g1 R1 rfl⟩
    | _ => exact g1.elim
theorem ae_one {op} (ha : AE K N W X a ma) : AE K N W X (.BoolOp op [a] pos) ma := pe_one ha
theorem ae_and (ha : AE K N W X a ma) (hb : AE K N W X (.BoolOp .And (b :: rest) pos) mb) : AE K N W X (.BoolOp .And (a :: b :: rest) pos) (eAnd ma mb) := PE.imp (pe_and ha hb) fun σ H Q ⟨ι, σa, S, hs, R, g⟩ =>
  bindEE hs R g fun ι1 H1 v d S1 f1 hs1 R1 r1 g1 => by
    cases d with
    | bl c =>
      refine ⟨c, r1, ?_⟩
      cases c with
      | true => exact iteT ⟨ι1, _, S1, hs1, R1, g1⟩
      | false => exact iteF (goodE.at g1 R1 rfl)
    | _ => exact g1.elim
theorem ae_or (ha : AE K N W X a ma) (hb : AE K N W X (.BoolOp .Or (b :: rest) pos) mb) : AE K N W X (.BoolOp .Or (a :: b :: rest) pos) (eOr ma mb) := PE.imp (pe_or ha hb) fun σ H Q ⟨ι, σa, S, hs, R, g⟩ =>
  bindEE hs R g fun ι1 H1 v d S1 f1 hs1 R1 r1 g1 => by
    cases d with
    | bl c =>
      refine ⟨c, r1, ?_⟩
      cases c with
      | true => exact iteT (goodE.at g1 R1 rfl)
      | false => exact iteF ⟨ι1, _, S1, hs1, R1, g1⟩
    | _ => exact g1.elim
end
end
def cNext : Sm := fun σ S => .nx σ S
def cSeq (a b : Sm) : Sm := fun σ S => match a σ S with
  | .nx σ1 S1 => b σ1 S1
  | .rt d S1 => .rt d S1
  | .bk σ1 S1 => .bk σ1 S1
  | .ct σ1 S1 => .ct σ1 S1
  | .ex C σ1 S1 => .ex C σ1 S1
  | .bad => .bad
def cBreak : Sm := fun σ S => .bk σ S
def cCont : Sm := fun σ S => .ct σ S
def cDrop (m : M D) : Sm := sBind m fun _ σ S => .nx σ S
def cRet (m : M D) : Sm := sBind m fun d _ S => .rt d S
def cRetN : Sm := fun _ S => .rt .non S
def cIf (t : M Bool) (a b : Sm) : Sm := sBind t fun c => if c then a else b
def cSet (i : Nat) (m : M D) : Sm := sBind m fun d σ S => .nx (σ.set i (some d)) S
abbrev Tg := D → Sl → Sto → Option (Sl × Sto)
abbrev Tgs := List D → Sl → Sto → Option (Sl × Sto)
def cAsg (m : M D) (g : Tg) : Sm := sBind m fun d σ S => match g d σ S with
  | some (σ1, S1) => .nx σ1 S1
  | none => .bad
section
variable {K : PySem.W.Frag} {N : Nms} {W : WX} {ι ι' : List Addr} {H H' : Hp} {σ : L2.St} {σa : Sl} {S : Sto} {X : Cx}
theorem ass_nil : ASs K N W X [] cNext := PSs.imp pss_nil fun σ H T ⟨ι, σa, S, hs, R, g⟩ => g ι H σ (Fut.refl _ _) hs R
theorem ass_one {st : Stmt} {c : Sm} (h : AS K N W X st c) : ASs K N W X [st] c := pss_one h
theorem ass_cons {st : Stmt} {rest : List Stmt} {c d : Sm} (h1 : AS K N W X st c) (h2 : ASs K N W X rest d) : ASs K N W X (st :: rest) (cSeq c d) := PSs.imp (pss_cons h1 h2) fun σ H T ⟨ι, σa, S, hs, R, g⟩ => by
  refine ⟨ι, σa, S, hs, R, ?_⟩
  unfold cSeq at g
  cases e : c σa S with
  | nx σ1 S1 =>
    rw [e] at g
    exact fun ι1 H1 σv f hs1 R1 => ⟨ι1, σ1, S1, hs1, R1, goodS.fut (r := d σ1 S1) g f⟩
  | rt d1 S1 => rw [e] at g; exact g
  | bk σ1 S1 => rw [e] at g; exact g
  | ct σ1 S1 => rw [e] at g; exact g
  | ex C σ1 S1 => rw [e] at g; exact g
  | bad => rw [e] at g; exact g
theorem as_expr {e : Expr} {m : M D} {pos : Pos} (he : AE K N W X e m) (hs : swapsWith e none pos.line X.env = pure false := by rfl) : AS K N W X (.Expr e pos) (cDrop m) := PS.imp (ps_expr he hs) fun σ H T ⟨ι, σa, S, hs, R, g⟩ =>
  bindES hs R g fun ι1 H1 v d S1 f1 hs1 R1 r1 g1 => g1 ι1 H1 σ (Fut.refl _ _) hs1 R1
theorem as_ret {e : Expr} {m : M D} {pos : Pos} (he : AE K N W X e m) : AS K N W X (.Return (some e) pos) (cRet m) := PS.imp (ps_ret he) fun σ H T ⟨ι, σa, S, hs, R, g⟩ =>
  bindES hs R g fun ι1 H1 v d S1 f1 hs1 R1 r1 g1 => g1 ι1 H1 v (Fut.refl _ _) R1 r1
theorem as_if {c : Expr} {a b : List Stmt} {t : M Bool} {x y : Sm} {pos : Pos} (hc : AT K N W X c t) (ha : ASs K N W X a x) (hb : ASs K N W X b y) : AS K N W X (.If c a b pos) (cIf t x y) := PS.imp (ps_if hc ha hb) fun σ H T ⟨ι, σa, S, hs, R, g⟩ =>
  bindBS hs R g fun ι1 H1 b S1 f1 hs1 R1 g1 => by
    cases b with
    | true => exact iteT ⟨ι1, _, S1, hs1, R1, g1⟩
    | false => exact iteF ⟨ι1, _, S1, hs1, R1, g1⟩
theorem as_set {i : Nat} {x : Str} {e : Expr} {m : M D} {pos pos' : Pos} (hN : X.N.Nodup) (hi : X.N[i]? = some x) (hx : Loc X.env.scope x) (he : AE K N W X e m) (hs : swapsWith e (some (.Name x pos')) pos.line X.env = pure false := by rfl)
    (hf : X.fn x = true ∨ X.env.scope.names.lookup x = some .local := by first | exact .inl rfl | exact .inr rfl | assumption) : AS K N W X (.Assign [.Name x pos'] e pos) (cSet i m) := PS.imp (ps_set hN hi hx he hs hf) fun σ H T ⟨ι, σa, S, hs, R, g⟩ =>
  bindES hs R g fun ι1 H1 v d S1 f1 hs1 R1 r1 g1 => g1 ι1 H1 _ (Fut.refl _ _) (hs1.set r1) R1
/-- a value, the tuple itself perhaps one that is only read -/
def RepW (K : PySem.W.Frag) (ι : List Addr) (H : Hp) (d : D) (v : V) : Prop := match d with
  | .tup ds => ∃ a xs, v = .ref a ∧ SqT K H a xs ∧ RepL K ι H ds xs
  | d => RepV K ι H d v
theorem RepV.weak {d : D} {v : V} (h : RepV K ι H d v) : RepW K ι H d v := by
  cases d with
  | tup ds =>
    obtain ⟨a, xs, e, t, l⟩ := h
    exact ⟨a, xs, e, t.seq, l⟩
  | _ => exact h
def goodG (K : PySem.W.Frag) (N : Nms) (r : Option (Sl × Sto)) (ι : List Addr) (H : Hp) (Q : L2.St → Hp → Prop) : Prop := match r with
  | some (σa, S') => ∀ ι' H' σ, Fut K ι H ι' H' → RepSl K ι' H' σa σ → Rep K N ι' H' S' → Q σ H'
  | none => False
theorem goodG.fut {r : Option (Sl × Sto)} {Q : L2.St → Hp → Prop} (g : goodG K N r ι H Q) (f : Fut K ι H ι' H') : goodG K N r ι' H' Q := by
  match r, g with
  | some (d, S'), g => exact fun a b c f2 => g a b c (f.trans f2)
def tgS (K : PySem.W.Frag) (N : Nms) (g : Tg) : TG := fun v σ H Q => ∃ ι σa S d, RepSl K ι H σa σ ∧ Rep K N ι H S ∧ RepV K ι H d v ∧ goodG K N (g d σa S) ι H Q
def tgW (K : PySem.W.Frag) (N : Nms) (g : Tg) : TG := fun v σ H Q => ∃ ι σa S d, RepSl K ι H σa σ ∧ Rep K N ι H S ∧ RepW K ι H d v ∧ goodG K N (g d σa S) ι H Q
def tgL (K : PySem.W.Frag) (N : Nms) (g : Tgs) : TGs := fun vs σ H Q => ∃ ι σa S ds, RepSl K ι H σa σ ∧ Rep K N ι H S ∧ RepL K ι H ds vs ∧ goodG K N (g ds σa S) ι H Q
theorem PG.imp {tg : Expr} {t t' : TG} (h : PG X tg t) (i : ∀ v σ H Q, t' v σ H Q → t v σ H Q) : PG X tg t' := ⟨fun pins s σ H v u Q I r q => h.run pins s σ H v u Q I r (i v σ H Q q)⟩
theorem PGs.imp {tg : List Expr} {t t' : TGs} (h : PGs X tg t) (i : ∀ v σ H Q, t' v σ H Q → t v σ H Q) : PGs X tg t' := ⟨fun pins s σ H v u Q I r q => h.run pins s σ H v u Q I r (i v σ H Q q)⟩
abbrev AG (K : PySem.W.Frag) (N : Nms) (X : Cx) (tg : Expr) (g : Tg) : Prop := PG X tg (tgS K N g)
abbrev AGw (K : PySem.W.Frag) (N : Nms) (X : Cx) (tg : Expr) (g : Tg) : Prop := PG X tg (tgW K N g)
abbrev AGs (K : PySem.W.Frag) (N : Nms) (X : Cx) (tg : List Expr) (g : Tgs) : Prop := PGs X tg (tgL K N g)
theorem AGw.ag {tg : Expr} {g : Tg} (h : AGw K N X tg g) : AG K N X tg g := PG.imp h fun v σ H Q ⟨ι, σa, S, d, a, b, c, e⟩ => ⟨ι, σa, S, d, a, b, c.weak, e⟩
def tgName (i : Nat) : Tg := fun d σ S => some (σ.set i (some d), S)
def tgNil : Tgs := fun ds σ S => match ds with
  | [] => some (σ, S)
  | _ => none
def tgCons (g : Tg) (u : Tgs) : Tgs := fun ds σ S => match ds with
  | d :: r => (g d σ S).bind fun p => u r p.1 p.2
  | [] => none
def tgTup (u : Tgs) : Tg := fun d σ S => match d with
  | .tup ds => u ds σ S
  | _ => none
theorem ag_name {i : Nat} {x : Str} {pos : Pos} (hN : X.N.Nodup) (hi : X.N[i]? = some x) (hx : Loc X.env.scope x) (hf : X.fn x = true ∨ X.env.scope.names.lookup x = some .local := by first | exact .inl rfl | exact .inr rfl | assumption) : AG K N X (.Name x pos) (tgName i) :=
  PG.imp (pg_name hN hi hx hf) fun v σ H Q ⟨ι, σa, S, d, hs, R, r, g⟩ => g ι H _ (Fut.refl _ _) (hs.set r) R
theorem ags_nil : AGs K N X [] tgNil := PGs.imp pgs_nil fun vs σ H Q ⟨ι, σa, S, ds, hs, R, r, g⟩ => by
  cases ds with
  | nil => exact ⟨r, g ι H σ (Fut.refl _ _) hs R⟩
  | cons _ _ => exact g.elim
theorem ags_cons {e : Expr} {es : List Expr} {t : Tg} {u : Tgs} (h1 : AG K N X e t) (h2 : AGs K N X es u)
    (hs : (assignEach (e :: es) X.env).map (·.2) = assign e X.env :: (assignEach es X.env).map (·.2) := by rfl) : AGs K N X (e :: es) (tgCons t u) := PGs.imp (pgs_cons h1 h2 hs) fun vs σ H Q ⟨ι, σa, S, ds, hs, R, r, g⟩ => by
  cases ds with
  | nil => exact g.elim
  | cons d ds =>
    obtain ⟨v, vs, rfl, rv, rl⟩ := r
    refine ⟨v, vs, rfl, ι, σa, S, d, hs, R, rv, ?_⟩
    change goodG K N ((t d σa S).bind fun p => u ds p.1 p.2) ι H Q at g
    cases e : t d σa S with
    | none =>
      rw [e] at g
      exact g.elim
    | some p =>
      rw [e] at g
      exact fun ι1 H1 σ1 f hs1 R1 => ⟨ι1, p.1, p.2, ds, hs1, R1, rl.fut f, goodG.fut (r := u ds p.1 p.2) g f⟩
theorem ag_tup {es : List Expr} {k : Nat} {u : Tgs} {n : Nat} {pos : Pos} (hc : X.calm = true) (h : AGs K N X es u) (hl : ∀ ds σ S p, u ds σ S = some p → ds.length = n) (hK : X.K = K := by rfl)
    (hn : (assignEach es X.env).length = n := by rfl) (hst : (assignEach es X.env).findIdx? (·.1) = none := by rfl) : AGw K N X (.Tuple es k pos) (tgTup u) := by
  subst hK
  refine PG.imp (pg_tup hc h hn hst) fun v σ H Q ⟨ι, σa, S, d, hs, R, r, g⟩ => ?_
  cases d with
  | tup ds =>
    obtain ⟨a, xs, rfl, t, l⟩ := r
    refine ⟨a, xs, rfl, t, ?_, ι, σa, S, ds, hs, R, l, g⟩
    rw [l.length]
    cases e : u ds σa S with
    | none =>
      rw [show tgTup u (.tup ds) σa S = u ds σa S from rfl, e] at g
      exact g.elim
    | some p => exact hl _ _ _ _ e
  | _ => exact g.elim
theorem tgl_nil : ∀ (ds : List D) (σ : Sl) (S : Sto) (p : Sl × Sto), tgNil ds σ S = some p → ds.length = 0 := fun ds σ S p h => by
  cases ds with
  | nil => rfl
  | cons _ _ => cases h
theorem tgl_cons {t : Tg} {u : Tgs} {n : Nat} (hl : ∀ (ds : List D) (σ : Sl) (S : Sto) (p : Sl × Sto), u ds σ S = some p → ds.length = n) : ∀ (ds : List D) (σ : Sl) (S : Sto) (p : Sl × Sto), tgCons t u ds σ S = some p → ds.length = n + 1 := fun ds σ S p h => by
  cases ds with
  | nil => cases h
  | cons d ds =>
    change (t d σ S).bind (fun p => u ds p.1 p.2) = some p at h
    cases e : t d σ S with
    | none =>
      rw [e] at h
      cases h
    | some q =>
      rw [e] at h
      rw [List.length_cons, hl _ _ _ _ h]
theorem as_asg {tg e : Expr} {m : M D} {g : Tg} {pos : Pos} (he : AE K N W X e m) (hg : AG K N X tg g) (hs : swapsWithSole [tg] e pos.line X.env = pure false := by rfl) (hw : swappedStores [tg] e X.env = pure none := by rfl)
    (h1 : (assignEach [tg] X.env).map (·.2) = [assign tg X.env] := by rfl) : AS K N W X (.Assign [tg] e pos) (cAsg m g) := PS.imp (ps_asg he hg hs hw h1) fun σ H T ⟨ι, σa, S, hs, R, gg⟩ =>
  bindES hs R gg fun ι1 H1 v d S1 f1 hs1 R1 r1 g1 => by
    refine ⟨ι1, σa, S1, d, hs1, R1, r1, ?_⟩
    cases e : g d σa S1 with
    | none =>
      rw [e] at g1
      exact g1.elim
    | some p =>
      rw [e] at g1
      exact g1
/-- o[i] = .. -/
abbrev OpS := D → D → D → Sto → Option Sto
def tgSub (mo mi : M D) (f : OpS) : Tg := fun v σ S => match mo σ S with
  | .ok o S1 => match mi σ S1 with
    | .ok i S2 => match f o i v S2 with
      | some S3 => some (σ, S3)
      | none => none
    | _ => none
  | _ => none
def SetOk (K : PySem.W.Frag) (N : Nms) (t : TSet) (f : OpS) : Prop := ∀ ι H S o i d vo vi v Q, Rep K N ι H S → RepV K ι H o vo → RepV K ι H i vi → RepV K ι H d v →
  (∃ S', f o i d S = some S' ∧ ∀ ι' H', Fut K ι H ι' H' → Rep K N ι' H' S' → Q H') → t vo vi v H Q
theorem ag_sub {o i : Expr} {mo mi : M D} {t : TSet} {f : OpS} {pos : Pos} (ho : AE K N W X o mo) (hi : AE K N W X i mi) (hs : PSet X t) (hf : SetOk K N t f)
    (ha : ∀ v, assign (.Subscript o i pos) X.env v = (do
      let ov ← holding [v] (eval o X.env)
      let iv ← holding [v, ov] (eval i X.env)
      standAt pos
      holding [v, ov, iv] (setItem ov iv v)
      release [v, ov, iv] []) := by intro _; rfl) : AG K N X (.Subscript o i pos) (tgSub mo mi f) := PG.imp (pg_sub ho hi hs ha) fun v σ H Q ⟨ι, σa, S, d, hs, R, r, g⟩ => by
  refine ⟨ι, σa, S, hs, R, ?_⟩
  unfold tgSub at g
  cases e1 : mo σa S with
  | ok x S1 =>
    rw [e1] at g
    intro ι1 H1 vo f1 R1 r1
    refine ⟨ι1, σa, S1, hs.fut f1, R1, ?_⟩
    cases e2 : mi σa S1 with
    | ok y S2 =>
      simp only [e2] at g
      intro ι2 H2 vi f2 R2 r2
      cases e3 : f x y d S2 with
      | none =>
        rw [e3] at g
        exact g.elim
      | some S3 =>
        rw [e3] at g
        refine hf ι2 H2 S2 x y d vo vi v _ R2 (r1.fut f2) r2 ((r.fut f1).fut f2) ⟨S3, e3, fun ι3 H3 f3 R3 => ?_⟩
        exact g ι3 H3 σ ((f1.trans f2).trans f3) (((hs.fut f1).fut f2).fut f3) R3
    | ex C S2 =>
      simp only [e2] at g
      exact g.elim
    | bad =>
      simp only [e2] at g
      exact g.elim
  | ex C S1 =>
    rw [e1] at g
    exact g.elim
  | bad =>
    rw [e1] at g
    exact g.elim
end
structure CF (K : PySem.W.Frag) (N : Nms) (C : Addr) (ns : List Str) : Prop where
  cl : Cls K C
  nm : N C = ns
  nd : ns.Nodup
  na : ∀ f ∈ ns, NoAttr K C f
  len : ns.length < 1000
theorem lookup_zip : ∀ {ns : List Str} {xs : List V} {i : Nat} {f : Str}, ns.Nodup → ns[i]? = some f → xs.length ≤ ns.length → (ns.zip xs).lookup f = xs[i]?
  | [], xs, i, f, _, e, _ => by simp at e
  | n :: ns, [], i, f, _, _, _ => by simp
  | n :: ns, x :: xs, 0, f, nd, e, _ => by
    simp at e
    subst e
    simp [List.lookup]
  | n :: ns, x :: xs, i + 1, f, nd, e, l => by
    rw [List.getElem?_cons_succ] at e
    have h := List.nodup_cons.mp nd
    have ne : (f == n) = false := beq_eq_false_iff_ne.mpr fun z => h.1 (z ▸ List.mem_of_getElem? e)
    rw [List.zip_cons_cons, List.lookup, ne, List.getElem?_cons_succ]
    exact lookup_zip h.2 e (by simpa using l)
theorem putF_zip : ∀ {ns : List Str} {xs : List V} {i : Nat} {f : Str} {v : V}, ns.Nodup → ns[i]? = some f → xs.length ≤ ns.length → i ≤ xs.length → putF f v (ns.zip xs) = ns.zip (if i < xs.length then xs.set i v else xs ++ [v])
  | [], xs, i, f, v, _, e, _, _ => by simp at e
  | n :: ns, [], i, f, v, nd, e, l, h => by
    obtain rfl : i = 0 := by simpa using h
    simp at e
    subst e
    simp [putF]
  | n :: ns, x :: xs, 0, f, v, nd, e, _, _ => by
    simp at e
    subst e
    simp [putF]
  | n :: ns, x :: xs, i + 1, f, v, nd, e, l, hi => by
    rw [List.getElem?_cons_succ] at e
    have h := List.nodup_cons.mp nd
    have ne : ¬ n = f := fun z => h.1 (z ▸ List.mem_of_getElem? e)
    have ih := putF_zip (v := v) h.2 e (xs := xs) (by simpa using l) (by simpa using hi)
    rw [List.zip_cons_cons, putF, if_neg ne, ih]
    by_cases c : i < xs.length
    · rw [if_pos c, if_pos (show i + 1 < (x :: xs).length by simpa using c)]
      rfl
    · rw [if_neg c, if_neg (show ¬ i + 1 < (x :: xs).length by simpa using c)]
      rfl
def dFld (C : Addr) (i : Nat) : Op1 := fun d S => match d with
  | .ref n => match S[n]? with
    | some (.obj C' ds) => open Classical in if C' = C then ds[i]?.map fun x => (x, S) else none
    | _ => none
  | _ => none
def dFldSet (C : Addr) (i : Nat) : D → D → Sto → Option Sto := fun o d S => match o with
  | .ref n => match S[n]? with
    | some (.obj C' ds) => open Classical in if C' = C then (if i < ds.length then some (S.set n (.obj C (ds.set i d))) else if i = ds.length then some (S.set n (.obj C (ds ++ [d]))) else none) else none
    | _ => none
  | _ => none
def cFld (C : Addr) (i : Nat) (mo mv : M D) : Sm := sBind mv fun d => sBind mo fun o σ S => match dFldSet C i o d S with
  | some S1 => .nx σ S1
  | none => .bad
def tgFld (C : Addr) (i : Nat) (mo : M D) : Tg := fun d σ S => match mo σ S with
  | .ok o S1 => match dFldSet C i o d S1 with
    | some S2 => some (σ, S2)
    | none => none
  | _ => none
section
variable {K : PySem.W.Frag} {N : Nms} {W : WX} {ι ι' : List Addr} {H H' : Hp} {σ : L2.St} {σa : Sl} {S : Sto} {X : Cx}
theorem dFld_ok {C : Addr} {ns : List Str} {f : Str} {i : Nat} (c : CF K N C ns) (e : ns[i]? = some f) {d : D} {v : V} {Q : VK} (R : Rep K N ι H S) (r : RepV K ι H d v) (g : goodO K N (dFld C i d S) ι H Q) :
    ∃ a C dx fs w, v = .ref a ∧ H a = some (.ins C dx fs) ∧ Cls K C ∧ NoAttr K C f ∧ fs.lookup f = some w ∧ Q w H := by
  refine Dw.Qt.un ?_
  simp (disch := (with_unfolding_all
    (cases d with
     | ref n =>
       unfold dFld at g
       simp only at g
       cases es : S[n]? with
       | none => rw [es] at g; exact g.elim
       | some o =>
         rw [es] at g
         cases o with
         | obj C' ds =>
           simp only at g
           by_cases hc : C' = C
           · rw [if_pos hc] at g
             subst hc
             cases ed : ds[i]? with
             | none => rw [ed] at g; exact g.elim
             | some x =>
               rw [ed] at g
               obtain ⟨a, ea, dx, xs, q, l, rl⟩ := R.ob n _ es
               obtain ⟨b, eb, rfl⟩ := r
               rw [ea] at eb
               cases eb
               rw [c.nm] at q l
               obtain ⟨w, ew, rw'⟩ := rl.get ed
               refine ⟨a, C', dx, _, w, rfl, q, c.cl, c.na f (List.mem_of_getElem? e), ?_, goodO.at g R rw'⟩
               rw [lookup_zip c.nd e (by rw [rl.length]; exact l)]
               exact ew
           · rw [if_neg hc] at g
             exact g.elim
         | _ => exact g.elim
     | _ => exact g.elim))) only [↓Dw.Qt.tt]
theorem ae_fld {C : Addr} {ns : List Str} {f : Str} {i : Nat} {e : Expr} {m : M D} {pos : Pos} (c : CF K N C ns) (hi : ns[i]? = some f) (he : AE K N W X e m) (hb : attributeBase e f X.env (eval e X.env) = eval e X.env) (hK : X.K = K := by rfl) : AE K N W X (.Attribute e f pos) (e1 (dFld C i) m) := by
  subst hK
  refine PE.imp (pe_fld he hb) fun σ H Q ⟨ι, σa, S, hs, R, g⟩ => bindEE hs R g fun ι1 H1 v d S1 f1 hs1 R1 r1 g1 => ?_
  exact dFld_ok c hi R1 r1 (goodO.of g1)
theorem dFldSet_ok {C : Addr} {ns : List Str} {f : Str} {i : Nat} (c : CF K N C ns) (e : ns[i]? = some f) {o d : D} {u v : V} {S' : Sto} (R : Rep K N ι H S) (ro : RepV K ι H o u) (r : RepV K ι H d v) (g : dFldSet C i o d S = some S') :
    ∃ a C dx fs, u = .ref a ∧ H a = some (.ins C dx fs) ∧ Cls K C ∧ NoAttr K C f ∧ fs.length < 1000 ∧ Rep K N ι (upd H a (.ins C dx (putF f v fs))) S' ∧ Fut K ι H ι (upd H a (.ins C dx (putF f v fs))) := by
  refine Dw.Qt.un ?_
  simp (disch := (with_unfolding_all
    (cases o with
     | ref n =>
       unfold dFldSet at g
       simp only at g
       cases es : S[n]? with
       | none => rw [es] at g; cases g
       | some ob =>
         rw [es] at g
         cases ob with
         | obj C' ds =>
           simp only at g
           by_cases hc : C' = C
           · rw [if_pos hc] at g
             subst hc
             obtain ⟨a, ea, dx, xs, q, l, rl⟩ := R.ob n _ es
             obtain ⟨b, eb, rfl⟩ := ro
             rw [ea] at eb
             cases eb
             have q0 := q
             rw [c.nm] at q l
             have hl := rl.length
             have hin := (List.getElem?_eq_some_iff.mp e).1
             by_cases h1 : i < ds.length
             · rw [if_pos h1] at g
               cases g
               have z := putF_zip (v := v) c.nd e (xs := xs) (by rw [hl]; exact l) (by rw [hl]; exact Nat.le_of_lt h1)
               rw [if_pos (by rw [hl]; exact h1)] at z
               have P := R.put (o := .ins C' dx (putF f v (ns.zip xs))) (ob := .obj C' (ds.set i d)) ea (fun H' eH fu => ⟨dx, xs.set i v, by rw [eH, upd_same, z, c.nm], by rw [List.length_set, c.nm]; exact l, (rl.fut fu).set (r.fut fu)⟩)
               refine ⟨a, C', dx, _, rfl, q, c.cl, c.na f (List.mem_of_getElem? e), ?_, P.1, P.2⟩
               have := c.len
               rw [List.length_zip]
               omega
             · rw [if_neg h1] at g
               by_cases h2 : i = ds.length
               · rw [if_pos h2] at g
                 cases g
                 have z := putF_zip (v := v) c.nd e (xs := xs) (by rw [hl]; exact l) (by rw [hl, h2]; exact Nat.le_refl _)
                 rw [if_neg (by rw [hl]; exact h1)] at z
                 have P := R.put (o := .ins C' dx (putF f v (ns.zip xs))) (ob := .obj C' (ds ++ [d])) ea (fun H' eH fu => ⟨dx, xs ++ [v], by rw [eH, upd_same, z, c.nm], by rw [List.length_append, c.nm, ← h2]; exact hin, (rl.fut fu).append (RepL.cons (r.fut fu) RepL.nil)⟩)
                 refine ⟨a, C', dx, _, rfl, q, c.cl, c.na f (List.mem_of_getElem? e), ?_, P.1, P.2⟩
                 have := c.len
                 rw [List.length_zip]
                 omega
               · rw [if_neg h2] at g
                 cases g
           · rw [if_neg hc] at g
             cases g
         | _ => cases g
     | _ => cases g))) only [↓Dw.Qt.tt]
theorem as_fld {C : Addr} {ns : List Str} {f : Str} {i : Nat} {o e : Expr} {mo mv : M D} {pos pos' : Pos} (c : CF K N C ns) (hi : ns[i]? = some f) (ho : AE K N W X o mo) (hv : AE K N W X e mv) (hs : swapsWith e (some (.Attribute o f pos')) pos.line X.env = pure false) (hK : X.K = K := by rfl) :
    AS K N W X (.Assign [.Attribute o f pos'] e pos) (cFld C i mo mv) := by
  subst hK
  refine PS.imp (ps_fld ho hv hs) fun σ H T ⟨ι, σa, S, hs, R, g⟩ => bindES hs R g fun ι1 H1 v d S1 f1 hs1 R1 r1 g1 => bindES hs1 R1 g1 fun ι2 H2 u o S2 f2 hs2 R2 r2 g2 => ?_
  cases es : dFldSet C i o d S2 with
  | none =>
    rw [es] at g2
    exact g2.elim
  | some S3 =>
    rw [es] at g2
    obtain ⟨a, C', dx, fs, eu, ea, cl, na, l, R3, f3⟩ := dFldSet_ok c hi R2 r2 (r1.fut f2) es
    exact ⟨a, C', dx, fs, eu, ea, cl, na, l, g2 ι2 _ σ f3 (hs2.fut f3) R3⟩
end
/-- the list at a, the items in new pairs, counted from z -/
def ItN (K : PySem.W.Frag) (a : Addr) (z : Int) : It where
  go := fun i H => ∃ xs x, SqL K H a xs ∧ xs[i]? = some x
  yld := fun i H v H' => ∃ p x, v = .ref p ∧ H p = none ∧ H' = upd H p (.tup [.int (z + (i : Nat)), x]) ∧ ∀ xs, SqL K H a xs → xs[i]? = some x
  stop := fun i H => ∃ xs, SqL K H a xs ∧ xs.length ≤ i
theorem callType_kw {M : Model} {A : Around} {E : Value → Shared → Prop} {s : Shared} {env : Env} {pos : Pos} {T : String} {e : Expr} {kws : List Keyword} {Q : Value → Shared → Prop}
    (go : wpAny M A (spliced (backTo pos (starEach [e] env))) (fun us s1 => wpAny M A (evalAll ((backToKw pos (keywordEach kws env)).map (·.2)))
      (fun ks s2 => wpAny M A (call (.type T) us (((backToKw pos (keywordEach kws env)).filterMap (·.1)).zip ks)) Q E s2) E s1) E s)
    (one : backTo pos (starEach [e] env) = (false, eval e env) :: backTo pos (starEach [] env)) (no : (backTo pos (starEach [e] env)).any (·.1) = false)
    (named : (backToKw pos (keywordEach kws env)).all (·.1.isSome) = true) (noStar : (backToKw pos (keywordEach kws env)).any (·.1.isNone) = false) :
    wpAny M A (callWith pos (.type T) [] (backTo pos (starEach [e] env)) (backToKw pos (keywordEach kws env))) Q E s := by
  rw [one] at go no ⊢
  have args := evalArgs_kwB (f := .type T) (Q := fun r t => wpAny M A (call (.type T) r.pos r.kw) Q E t) named go
  unfold callWith
  refine wpAny_bind (wpAny_holding (wpAny_mono args (fun r t k => ?_) fun _ _ q => q))
  refine wpAny_bind (wpAny_standAt ?_)
  simp only [no, noStar, Bool.or_false]
  refine wpAny_bind (wpAny_pure (wpAny_bind (wpAny_mono k (fun v t' k' => ?_) fun _ _ q => q)))
  exact wpAny_bind (wpAny_holding (wpAny_point (wpAny_pure k')))
theorem turnN {P : Program} {w : World} {K : PySem.W.Frag} {elts : List Expr} {kk : Nat} {tpos : Pos} (a e it : Addr) (z : Int) :
    Turn P w K (.Tuple elts kk tpos) (ItN K a z) [e, it] e (fun i h => (∃ old, IsEnum h e it (z + (i : Nat)) old) ∧ h.IsListIter it a i ∧ e ≠ it) where
  mem := List.mem_cons_self
  obj := by
    rintro i h ⟨⟨old, he⟩, ⟨o, ho, hc, hd⟩, _⟩ b hb
    simp only [List.mem_cons, List.not_mem_nil, or_false] at hb
    rcases hb with rfl | rfl
    · exact ⟨_, he, fun v q => by cases q⟩
    · refine ⟨o, ho, fun v q => ?_⟩
      rw [hd] at q
      cases q
  keep := by
    rintro i h h' ⟨⟨old, he⟩, hi, hne⟩ k
    exact ⟨⟨old, k e List.mem_cons_self _ he⟩, hi.at fun o q => k it (by simp) o q, hne⟩
  item := by
    intro X hP hw hK hc i pins s σ H E I hf tn hg
    subst hP hw hK
    obtain ⟨⟨old, he⟩, hit, hne⟩ := tn
    obtain ⟨xs, x, hq, hx⟩ := hg
    obtain ⟨its, rv, p, _⟩ := I.list hq
    obtain ⟨u, hu, ru⟩ := rv.get hx
    have lo : e < s.heap.objs.size := Heap.lt_size he
    have li : it < s.heap.objs.size := by
      obtain ⟨_, q, _⟩ := hit
      exact Heap.lt_size q
    have ai : a ≠ it := fun q => by
      obtain ⟨o1, h1, c1, _⟩ := hit
      obtain ⟨o2, h2, c2, _⟩ := p.isList
      rw [q, h1] at h2
      cases Option.some.inj h2
      rw [c1] at c2
      injection c2 with c3
      exact absurd c3 (by decide)
    have ea : e ≠ a := fun q => by
      obtain ⟨o2, h2, c2, _⟩ := p.isList
      have h1 := he
      unfold IsEnum at h1
      rw [q, h2] at h1
      cases Option.some.inj h1
      injection c2 with c3
      exact absurd c3 (by decide)
    have hh : X.A.in1.handled = none := I.ok.hd hc
    refine wpAny_pyNext_enum_itemC (Draws.list hh it a ai its.toArray) he ⟨hit, p.isList⟩ (show i < its.toArray.size by
      have := (List.getElem?_eq_some_iff.mp hu).1
      simpa using this) hne (by simp [hne, ea]) fun v h' tk hv ho st hT hsz hk => ?_
    have ev : v = u := by
      have h1 : its.toArray[i]? = some v := hv
      rw [show its.toArray[i]? = its[i]? by simp, hu] at h1
      exact (Option.some.inj h1).symm
    subst ev
    refine ⟨_, rfl, wpAny_letOwnedTupleGo_enum ho fun h2 he2 sb => ?_⟩
    have nT : s.heap.objs.size ≠ e := Nat.ne_of_gt lo
    have hT2 := (sb.2 _ nT).trans hT
    have ob : ObjOk X.prog X.w (upd H s.heap.objs.size (.tup [.int (z + (i : Nat)), x])) h2 s.heap.objs.size (.tup [.int (z + (i : Nat)), x]) :=
      ⟨line_of (by decide : 2 ≤ 10000000), [.int (z + (i : Nat)) tk, v], .cons ⟨_, rfl⟩ (.cons ru .nil), ⟨_, hT2, rfl, _, rfl⟩⟩
    have keep : ∀ b ob', b ∉ [e, it] → s.heap.get? b = some ob' → h2.get? b = some ob' := fun b ob' hb q => by
      simp only [List.mem_cons, List.not_mem_nil, or_false, not_or] at hb
      exact (sb.2 b hb.1).trans (hk b ob' hb.1 hb.2 q)
    have J : Inv X pins σ (upd H s.heap.objs.size (.tup [.int (z + (i : Nat)), x])) { s with heap := h2, toks := tk + 1 } := I.turnedNew (ch := [e, it]) keep hf (Nat.le_refl _) ob
    refine ⟨.ref s.heap.objs.size, _, J, rfl, ⟨_, x, rfl, I.hok.fresh (Nat.le_refl _), rfl, fun ys hy => ?_⟩, ⟨⟨v, ?_⟩, ?_, hne⟩, fun b hb => ?_⟩
    · rw [I.list_inj hy hq]
      exact hx
    · rw [show z + ((i + 1 : Nat) : Int) = z + (i : Nat) + 1 by omega]
      exact he2
    · exact st.1.at fun o q => (sb.2 it hne.symm).trans q
    · have hb2 : b < s.heap.objs.size := by
        simp only [List.mem_cons, List.not_mem_nil, or_false] at hb
        rcases hb with rfl | rfl
        · exact lo
        · exact li
      rw [upd_ne (Nat.ne_of_lt hb2)]
      exact (hf b hb).1
  done := by
    intro X hP hw hK hc i pins s σ H E I hf tn hg
    subst hP hw hK
    obtain ⟨⟨old, he⟩, hit, hne⟩ := tn
    obtain ⟨xs, hq, hx⟩ := hg
    obtain ⟨its, rv, p, _⟩ := I.list hq
    have ai : a ≠ it := fun q => by
      obtain ⟨o1, h1, c1, _⟩ := hit
      obtain ⟨o2, h2, c2, _⟩ := p.isList
      rw [q, h1] at h2
      cases Option.some.inj h2
      rw [c1] at c2
      injection c2 with c3
      exact absurd c3 (by decide)
    have hh : X.A.in1.handled = none := I.ok.hd hc
    obtain ⟨f0, f1, f2, f3, f4, f5⟩ := hf it (by simp)
    have hl := rv.length
    have D : Draws X.prog X.w X.A.in1 it [it, a] i (fun _ _ => False) (fun j h => j = i ∧ h.IsListIter it a j ∧ h.IsList a its.toArray) :=
      { live := fun _ _ st => let ⟨o, ho, _⟩ := st.2.1; ⟨o, ho⟩
        frame := fun _ _ _ st hk => ⟨st.1, st.2.1.at fun o e => hk it (by simp) o e, st.2.2.at fun o e => hk a (by simp) o e⟩
        item := fun j s Q E hj st _ => absurd st.1 (Nat.ne_of_lt hj)
        done := fun s Q E st hE => wpAny_nextOf_list_end hh st.2.1 st.2.2 (by simp; omega) hE }
    refine wpAny_pyNext_enum_endD D he ⟨rfl, hit, p.isList⟩ fun h' eb => ⟨rfl, I.turned (t' := s.toks) (fun b o hb q => eb b o hb q) f0 f1 f3 f4 f5⟩
  self := by
    rintro A i s Q E ⟨⟨_, he⟩, _⟩ h
    exact wpAny_pyIter_enum he h
def iEnumK (K : PySem.W.Frag) (ta tk : TA) : TI := fun σ H R => ta σ H fun vs H1 => ∃ a xs, vs = [V.ref a] ∧ SqL K H1 a xs ∧ tk σ H1 fun zs H2 => ∃ z : Int, zs = [V.int z] ∧ (0 ≤ z ∧ z ≤ 1000000000) ∧ SqL K H2 a xs ∧ R (ItN K a z) H2
theorem pi_enumK {X : Cx} {e : Expr} {k : Keyword} {ta tk : TA} {p pos tpos : Pos} {elts : List Expr} {kk : Nat} (hg : Gl X "enumerate") (hm : X.mg "enumerate" = none) (ha : PA X [e] ta) (hk : PK X [k] tk)
    (one : backTo pos (starEach [e] X.env) = (false, eval e X.env) :: backTo pos (starEach [] X.env) := by rfl) (no : (backTo pos (starEach [e] X.env)).any (·.1) = false := by rfl)
    (named : (backToKw pos (keywordEach [k] X.env)).all (·.1.isSome) = true := by rfl) (noStar : (backToKw pos (keywordEach [k] X.env)).any (·.1.isNone) = false := by rfl)
    (nm : (backToKw pos (keywordEach [k] X.env)).filterMap (·.1) = [Str.ofString "start"] := by rfl) :
    PI X (.Tuple elts kk tpos) (.Call (.Name "enumerate" p) [e] [k] pos) (iEnumK X.K ta tk) := by
  constructor
  intro pins s σ H R I h
  refine wpAny_Call_Name_kw (ld_blt I hg hm boot_enumerate ?_)
  refine callType_kw (thn (ha.run pos pins s σ H _ I h) ?_) one no named noStar
  rintro us s1 ⟨vs, H1, I1, r1, a, xs, rfl, hq1, q1⟩
  refine thn (hk.run pos pins s1 σ H1 _ I1 q1) ?_
  rintro ws s2 ⟨zs, H2, I2, r2, z, rfl, hz, hq, q⟩
  rw [nm]
  obtain ⟨u, rfl, ru⟩ := vals1 r1
  cases ru
  obtain ⟨v, rfl, t, rfl⟩ := vals1 r2
  obtain ⟨its, rv, p', _⟩ := I2.list hq
  show wpAny _ _ (call (.type "enumerate") [.ref a] [(Str.ofString "start", .int z t)]) _ _ _
  refine enum_begins_start (begins_list a its.toArray) p'.isList (by omega) (by omega) fun h' he ho hsz hk' => wpAny_pyIter_enum he ?_
  have J : Inv X pins σ H2 { s2 with heap := h' } := I2.kept (t' := s2.toks) hk'
  refine ⟨s2.heap.objs.size + 1, [s2.heap.objs.size + 1, s2.heap.objs.size], _, _, H2, rfl, J, turnN a (s2.heap.objs.size + 1) s2.heap.objs.size z, ⟨⟨.none, ?_⟩, ⟨_, ho, rfl, rfl⟩, Nat.succ_ne_self _⟩, fun b hb => ?_, q⟩
  · rw [show z + ((0 : Nat) : Int) = z by omega]
    exact he
  · have hle : s2.heap.objs.size ≤ b := by
      simp only [List.mem_cons, List.not_mem_nil, or_false] at hb
      rcases hb with rfl | rfl
      · exact Nat.le_add_right _ _
      · exact Nat.le_refl _
    exact I2.fpOk hle (I2.hok.fresh hle)
structure Src where
  items : List D
  gd : Sto → Prop
def RepQ (K : PySem.W.Frag) (q : Bool) (ι : List Addr) (H : Hp) (d : D) (v : V) : Prop := match q with
  | true => RepV K ι H d v
  | false => RepW K ι H d v
def tgQ (K : PySem.W.Frag) (N : Nms) (q : Bool) (g : Tg) : TG := fun v σ H Q => ∃ ι σa S d, RepSl K ι H σa σ ∧ Rep K N ι H S ∧ RepQ K q ι H d v ∧ goodG K N (g d σa S) ι H Q
/-- at J the items of the source are walked, wherever the store stands so -/
def IsSrc (K : PySem.W.Frag) (N : Nms) (q : Bool) (src : Src) (ι : List Addr) (H : Hp) (J : It) : Prop := ∀ ι2 H2 S2, Fut K ι H ι2 H2 → Rep K N ι2 H2 S2 → src.gd S2 →
  (∀ i, i < src.items.length → J.go i H2) ∧
  (∀ i x H3, i < src.items.length → J.yld i H2 x H3 → ∃ ι3 d, Fut K ι2 H2 ι3 H3 ∧ Rep K N ι3 H3 S2 ∧ src.items[i]? = some d ∧ RepQ K q ι3 H3 d x) ∧
  (∀ i, src.items.length ≤ i → J.stop i H2)
def tiX (K : PySem.W.Frag) (N : Nms) (W : WX) (q : Bool) (m : M Src) : TI := fun σ H R => ∃ ι σa S, RepSl K ι H σa σ ∧ Rep K N ι H S ∧ match m σa S with
  | .ok src S' => src.gd S' ∧ ∀ ι' H' J, Fut K ι H ι' H' → Rep K N ι' H' S' → IsSrc K N q src ι' H' J → R J H'
  | .ex C S' => ∀ ι' H', Fut K ι H ι' H' → Rep K N ι' H' S' → ∀ d, W (.ref C) d σ H'
  | .bad => False
theorem PI.imp {X : Cx} {tg e : Expr} {t t' : TI} (h : PI X tg e t) (i : ∀ σ H R, t' σ H R → t σ H R) : PI X tg e t' := ⟨fun pins s σ H R I q => h.run pins s σ H R I (i σ H R q)⟩
abbrev AI (K : PySem.W.Frag) (N : Nms) (W : WX) (q : Bool) (X : Cx) (tg e : Expr) (m : M Src) : Prop := PI X tg e (tiX K N W q m)
section
variable {K : PySem.W.Frag} {N : Nms} {W : WX} {ι ι' : List Addr} {H H' : Hp} {σ : L2.St} {σa : Sl} {S : Sto} {X : Cx}
/-- a value, then a source of it -/
theorem bindEI {m : M D} {k : D → M Src} {q : Bool} {R : It → Hp → Prop} {R' : VK} (hs : RepSl K ι H σa σ) (Rp : Rep K N ι H S)
    (g : match (eBind m k) σa S with
      | .ok src S' => src.gd S' ∧ ∀ ι' H' J, Fut K ι H ι' H' → Rep K N ι' H' S' → IsSrc K N q src ι' H' J → R J H'
      | .ex C S' => ∀ ι' H', Fut K ι H ι' H' → Rep K N ι' H' S' → ∀ d, W (.ref C) d σ H'
      | .bad => False)
    (c : ∀ ι' H' v d S', Fut K ι H ι' H' → RepSl K ι' H' σa σ → Rep K N ι' H' S' → RepV K ι' H' d v → (match k d σa S' with
      | .ok src S2 => src.gd S2 ∧ ∀ ι2 H2 J, Fut K ι' H' ι2 H2 → Rep K N ι2 H2 S2 → IsSrc K N q src ι2 H2 J → R J H2
      | .ex C S2 => ∀ ι2 H2, Fut K ι' H' ι2 H2 → Rep K N ι2 H2 S2 → ∀ d, W (.ref C) d σ H2
      | .bad => False) → R' v H') : teX K N W m σ H R' := by
  refine ⟨ι, σa, S, hs, Rp, ?_⟩
  unfold eBind at g
  cases e : m σa S with
  | ok d S' =>
    rw [e] at g
    refine fun ι' H' v f R2 r => c ι' H' v d S' f (hs.fut f) R2 r ?_
    change (match k d σa S' with
      | .ok src S' => src.gd S' ∧ ∀ ι' H' J, Fut K ι H ι' H' → Rep K N ι' H' S' → IsSrc K N q src ι' H' J → R J H'
      | .ex C S' => ∀ ι' H', Fut K ι H ι' H' → Rep K N ι' H' S' → ∀ d, W (.ref C) d σ H'
      | .bad => False) at g
    cases e2 : k d σa S' with
    | ok src S2 =>
      rw [e2] at g
      exact ⟨g.1, fun a b J f2 => g.2 a b J (f.trans f2)⟩
    | ex C S2 =>
      rw [e2] at g
      exact fun a b f2 => g a b (f.trans f2)
    | bad =>
      rw [e2] at g
      exact g
  | ex C S' =>
    rw [e] at g
    exact g
  | bad =>
    rw [e] at g
    exact g
def sList : D → M Src := fun d _ S => match d with
  | .ref n => match S[n]? with
    | some (.lst ds) => .ok ⟨ds, fun S' => S'[n]? = some (.lst ds)⟩ S
    | _ => .bad
  | _ => .bad
def sTup : D → M Src := fun d _ S => match d with
  | .tup ds => .ok ⟨ds, fun _ => True⟩ S
  | _ => .bad
def sStr : D → M Src := fun d _ S => match d with
  | .str x => .ok ⟨(tl x).map fun c => .str ⟨#[c]⟩, fun _ => True⟩ S
  | _ => .bad
def RgOk (i j : Int) : Prop := -(2 ^ 62) ≤ i ∧ i < 2 ^ 62 ∧ -(2 ^ 62) ≤ j ∧ j < 2 ^ 62
noncomputable def sRng : Int → Int → M Src := fun i j _ S => open Classical in if RgOk i j then .ok ⟨(List.range (j - i).toNat).map fun k => .int (i + (k : Nat)), fun _ => True⟩ S else .bad
theorem ai_list {tg e : Expr} {m : M D} (he : AE K N W X e m) (hK : X.K = K := by rfl) : AI K N W true X tg e (eBind m sList) := by
  refine Dw.Qt.un ?_
  simp (disch := (with_unfolding_all
    (subst hK
     refine PI.imp (pi_list he) fun σ H R ⟨ι, σa, S, hs, Rp, g⟩ => bindEI hs Rp g fun ι1 H1 v d S1 f1 hs1 R1 r1 g1 => ?_
     cases d with
     | ref n =>
       unfold sList at g1
       simp only at g1
       cases es : S1[n]? with
       | none => rw [es] at g1; exact g1.elim
       | some o =>
         rw [es] at g1
         cases o with
         | lst ds =>
           obtain ⟨a, ea, rfl⟩ := r1
           obtain ⟨b, xs, eb, q, rl⟩ := R1.list es
           rw [ea] at eb
           cases eb
           refine ⟨a, rfl, ⟨xs, SqL.of q⟩, g1.2 ι1 H1 _ (Fut.refl _ _) R1 fun ι2 H2 S2 f2 R2 g2 => ?_⟩
           obtain ⟨c, ys, ec, q2, rl2⟩ := R2.list g2
           rw [f2.ix ea] at ec
           cases ec
           have hl := rl2.length
           refine ⟨fun i hi => ?_, fun i x H3 hi y => ?_, fun i hi => ⟨ys, SqL.of q2, by rw [hl]; exact hi⟩⟩
           · have hi' : i < ys.length := by rw [hl]; exact hi
             exact ⟨ys, ys[i], SqL.of q2, List.getElem?_eq_getElem hi'⟩
           · obtain ⟨rfl, y⟩ := y
             obtain ⟨d, ed, r⟩ := rl2.get' (y ys (SqL.of q2))
             exact ⟨ι2, d, Fut.refl _ _, R2, ed, r⟩
         | _ => exact g1.elim
     | _ => exact g1.elim))) only [↓Dw.Qt.tt]
theorem ai_tup {tg e : Expr} {m : M D} (he : AE K N W X e m) (hK : X.K = K := by rfl) : AI K N W true X tg e (eBind m sTup) := by
  refine Dw.Qt.un ?_
  simp (disch := (with_unfolding_all
    (subst hK
     refine PI.imp (pi_tup he) fun σ H R ⟨ι, σa, S, hs, Rp, g⟩ => bindEI hs Rp g fun ι1 H1 v d S1 f1 hs1 R1 r1 g1 => ?_
     cases d with
     | tup ds =>
       obtain ⟨a, xs, rfl, t, rl⟩ := r1
       refine ⟨a, rfl, ⟨xs, t.seq⟩, g1.2 ι1 H1 _ (Fut.refl _ _) R1 fun ι2 H2 S2 f2 R2 g2 => ?_⟩
       have t2 := (f2.tup _ _ t).seq
       have rl2 := rl.fut f2
       have hl := rl2.length
       refine ⟨fun i hi => ?_, fun i x H3 hi y => ?_, fun i hi => ⟨xs, t2, by rw [hl]; exact hi⟩⟩
       · have hi' : i < xs.length := by rw [hl]; exact hi
         exact ⟨xs, xs[i], t2, List.getElem?_eq_getElem hi'⟩
       · obtain ⟨rfl, y⟩ := y
         obtain ⟨d, ed, r⟩ := rl2.get' (y xs t2)
         exact ⟨ι2, d, Fut.refl _ _, R2, ed, r⟩
     | _ => exact g1.elim))) only [↓Dw.Qt.tt]
theorem ai_str {tg e : Expr} {m : M D} (he : AE K N W X e m) : AI K N W true X tg e (eBind m sStr) := by
  refine Dw.Qt.un ?_
  simp (disch := (with_unfolding_all
    (refine PI.imp (pi_str he) fun σ H R ⟨ι, σa, S, hs, Rp, g⟩ => bindEI hs Rp g fun ι1 H1 v d S1 f1 hs1 R1 r1 g1 => ?_
     cases d with
     | str z =>
       refine ⟨z, r1, g1.2 ι1 H1 _ (Fut.refl _ _) R1 fun ι2 H2 S2 f2 R2 g2 => ?_⟩
       have hl : ((tl z).map fun c => D.str ⟨#[c]⟩).length = z.cps.size := by rw [List.length_map, Array.length_toList]
       refine ⟨fun i hi => by rw [hl] at hi; exact hi, fun i x H3 hi y => ?_, fun i hi => by rw [hl] at hi; exact hi⟩
       obtain ⟨rfl, c, hc, rfl⟩ := y
       refine ⟨ι2, .str ⟨#[c]⟩, Fut.refl _ _, R2, ?_, rfl⟩
       rw [List.getElem?_map, Array.getElem?_toList, hc]
       rfl
     | _ => exact g1.elim))) only [↓Dw.Qt.tt]
theorem src_range {lo : Int} {n : Nat} : IsSrc K N true ⟨(List.range n).map fun (k : Nat) => .int (lo + (k : Nat)), fun _ => True⟩ ι H (Itr lo n) := fun ι2 H2 S2 f2 R2 g2 => by
  have hl : ((List.range n).map fun (k : Nat) => D.int (lo + (k : Nat))).length = n := by simp
  refine ⟨fun i hi => by rw [hl] at hi; exact hi, fun i x H3 hi y => ?_, fun i hi => by rw [hl] at hi; exact hi⟩
  rw [hl] at hi
  obtain ⟨rfl, rfl⟩ := y
  refine ⟨ι2, .int (lo + (i : Nat)), Fut.refl _ _, R2, ?_, rfl⟩
  rw [List.getElem?_map, List.getElem?_range hi]
  rfl
def i1 : List D → Option Int
  | [.int j] => some j
  | _ => none
theorem i1_of : ∀ {ds : List D} {j : Int}, i1 ds = some j → ds = [.int j]
  | [.int j], _, h => by cases h; rfl
noncomputable def sR1 (m : M (List D)) : M Src := eBind m fun ds => match i1 ds with
  | some j => sRng 0 j
  | none => fun _ _ => .bad
theorem bindLI {m : M (List D)} {k : List D → M Src} {q : Bool} {R : It → Hp → Prop} {R' : List V → Hp → Prop} (hs : RepSl K ι H σa σ) (Rp : Rep K N ι H S)
    (g : match (eBind m k) σa S with
      | .ok src S' => src.gd S' ∧ ∀ ι' H' J, Fut K ι H ι' H' → Rep K N ι' H' S' → IsSrc K N q src ι' H' J → R J H'
      | .ex C S' => ∀ ι' H', Fut K ι H ι' H' → Rep K N ι' H' S' → ∀ d, W (.ref C) d σ H'
      | .bad => False)
    (c : ∀ ι' H' v d S', Fut K ι H ι' H' → RepSl K ι' H' σa σ → Rep K N ι' H' S' → RepL K ι' H' d v → (match k d σa S' with
      | .ok src S2 => src.gd S2 ∧ ∀ ι2 H2 J, Fut K ι' H' ι2 H2 → Rep K N ι2 H2 S2 → IsSrc K N q src ι2 H2 J → R J H2
      | .ex C S2 => ∀ ι2 H2, Fut K ι' H' ι2 H2 → Rep K N ι2 H2 S2 → ∀ d, W (.ref C) d σ H2
      | .bad => False) → R' v H') : taX K N W m σ H R' := by
  refine ⟨ι, σa, S, hs, Rp, ?_⟩
  unfold eBind at g
  cases e : m σa S with
  | ok d S' =>
    rw [e] at g
    refine fun ι' H' v f R2 r => c ι' H' v d S' f (hs.fut f) R2 r ?_
    change (match k d σa S' with
      | .ok src S' => src.gd S' ∧ ∀ ι' H' J, Fut K ι H ι' H' → Rep K N ι' H' S' → IsSrc K N q src ι' H' J → R J H'
      | .ex C S' => ∀ ι' H', Fut K ι H ι' H' → Rep K N ι' H' S' → ∀ d, W (.ref C) d σ H'
      | .bad => False) at g
    cases e2 : k d σa S' with
    | ok src S2 =>
      rw [e2] at g
      exact ⟨g.1, fun a b J f2 => g.2 a b J (f.trans f2)⟩
    | ex C S2 =>
      rw [e2] at g
      exact fun a b f2 => g a b (f.trans f2)
    | bad =>
      rw [e2] at g
      exact g
  | ex C S' =>
    rw [e] at g
    exact g
  | bad =>
    rw [e] at g
    exact g
theorem ai_range1 {tg a : Expr} {m : M (List D)} {p pos : Pos} (hg : Gl X "range") (hm : X.mg "range" = none) (ha : AA K N W X [a] m) (hs : starEach [a] X.env = [(false, eval a X.env)] := by rfl) : AI K N W true X tg (.Call (.Name "range" p) [a] [] pos) (sR1 m) := by
  refine Dw.Qt.un ?_
  simp (disch := (with_unfolding_all
    (refine PI.imp (pi_range1 hg hm ha hs) fun σ H R h => ?_
     obtain ⟨ι, σa, S, hs, Rp, g⟩ := h
     unfold sR1 at g
     refine bindLI hs Rp g fun ι1 H1 v d S1 f1 hs1 R1 r1 g1 => ?_
     cases ed : i1 d with
     | none =>
       simp only [ed] at g1
     | some j =>
       simp only [ed] at g1
       rw [i1_of ed] at r1
       obtain ⟨x, r, rfl, rx, rr⟩ := r1
       rw [show r = [] from rr, show x = V.int j from rx]
       unfold sRng at g1
       by_cases h : RgOk 0 j
       · rw [if_pos h] at g1
         refine ⟨j, rfl, h.2.2.1, h.2.2.2, g1.2 ι1 H1 _ (Fut.refl _ _) R1 ?_⟩
         rw [Int.sub_zero]
         exact src_range
       · rw [if_neg h] at g1
         exact g1.elim))) only [↓Dw.Qt.tt]
open Classical in
noncomputable def cLoop (gd : Sto → Prop) (g : Tg) (body : Sm) : List D → Sm
  | [], σ, S => .nx σ S
  | d :: r, σ, S => match g d σ S with
    | none => .bad
    | some p => match body p.1 p.2 with
      | .nx σ2 S2 => if gd S2 then cLoop gd g body r σ2 S2 else .bad
      | .ct σ2 S2 => if gd S2 then cLoop gd g body r σ2 S2 else .bad
      | .bk σ2 S2 => .nx σ2 S2
      | .rt d S2 => .rt d S2
      | .ex C σ2 S2 => .ex C σ2 S2
      | .bad => .bad
open Classical in
noncomputable def cFor (m : M Src) (g : Tg) (body : Sm) : Sm := sBind m fun src σ S => if src.gd S then cLoop src.gd g body src.items σ S else .bad
theorem as_for {tg iter : Expr} {body : List Stmt} {q : Bool} {m : M Src} {g : Tg} {c : Sm} {pos : Pos} (hp : PassesOwn (model X.prog X.w) X.A X.env X.xe) (hc : X.calm = true) (hi : AI K N W q X tg iter m) (hg : PG X tg (tgQ K N q g)) (hb : ASs K N W X body c)
    (hs : ∀ x, foldedSetIterable iter X.env x = pure x := by intro _; rfl) : AS K N W X (.For tg iter body [] pos) (cFor m g c) := by
  refine Dw.Qt.un ?_
  simp (disch := (with_unfolding_all
    (refine PS.imp (ps_for hp hc hi hg hb hs) fun σ H T ⟨ι, σa, S, hs, Rp, gg⟩ => ⟨ι, σa, S, hs, Rp, ?_⟩
     unfold cFor sBind at gg
     cases e : m σa S with
     | ex C S1 =>
       rw [e] at gg
       exact fun ι' H' f R' => gg ι' H' σ f (hs.fut f) R'
     | bad =>
       rw [e] at gg
       exact gg.elim
     | ok src S1 =>
       rw [e] at gg
       simp only at gg
       by_cases hgd0 : src.gd S1
       case neg =>
         rw [if_neg hgd0] at gg
         exact gg.elim
       rw [if_pos hgd0] at gg
       have key : ∀ ι1 H1 J, Fut K ι H ι1 H1 → Rep K N ι1 H1 S1 → IsSrc K N q src ι1 H1 J → src.gd S1 →
           ∃ W' : Nat → Nat → L2.St → Hp → Prop, (∃ m, W' 0 m σ H1) ∧ ∀ i m σ H, W' i m σ H →
             (J.stop i H ∧ T.nx σ H) ∨ (J.go i H ∧ ∃ N' : L2.St → Hp → Prop, (∀ σ' H', N' σ' H' → ∃ m', m' < m ∧ W' (i + 1) m' σ' H') ∧ ∀ x H', J.yld i H x H' → tgQ K N q g x σ H' fun σ2 H2 => tsX K N W c { T with nx := N', ct := N', bk := T.nx } σ2 H2) := by
         intro ι1 H1 J f1 R1 hJ hgd
         refine ⟨fun i m σ' H' => m = src.items.length - i ∧ i ≤ src.items.length ∧ ∃ ι2 σ2 S2, Fut K ι1 H1 ι2 H' ∧ RepSl K ι2 H' σ2 σ' ∧ Rep K N ι2 H' S2 ∧ src.gd S2 ∧ goodS K N W (cLoop src.gd g c (src.items.drop i) σ2 S2) ι2 H' T,
           ⟨_, rfl, Nat.zero_le _, ι1, σa, S1, Fut.refl _ _, hs.fut f1, R1, hgd, goodS.fut (r := cLoop src.gd g c src.items σa S1) gg f1⟩, ?_⟩
         rintro i m σ2v H2 ⟨rfl, hi, ι2, σ2, S2, f2, hs2, R2, gd2, g2⟩
         obtain ⟨w1, w2, w3⟩ := hJ ι2 H2 S2 f2 R2 gd2
         by_cases hlt : i < src.items.length
         · refine .inr ⟨w1 i hlt, _, fun σ' H' p => ⟨src.items.length - (i + 1), by omega, p⟩, fun x H3 y => ?_⟩
           obtain ⟨ι3, d, f3, R3, ed, rd⟩ := w2 i x H3 hlt y
           refine ⟨ι3, σ2, S2, d, hs2.fut f3, R3, rd, ?_⟩
           have hd : src.items.drop i = d :: src.items.drop (i + 1) := by
             rw [List.drop_eq_getElem_cons hlt]
             rw [List.getElem?_eq_getElem hlt] at ed
             rw [Option.some.inj ed]
           rw [hd, cLoop] at g2
           cases eg : g d σ2 S2 with
           | none =>
             rw [eg] at g2
             exact g2.elim
           | some p =>
             rw [eg] at g2
             intro ι4 H4 σ4 f4 hs4 R4
             refine ⟨ι4, p.1, p.2, hs4, R4, ?_⟩
             simp only at g2
             have f24 := f3.trans f4
             cases eb : c p.1 p.2 with
             | nx σ5 S5 =>
               simp only [eb] at g2
               intro ι5 H5 σv f5 hs5 R5
               split at g2
               · rename_i hg5
                 exact ⟨rfl, by omega, ι5, σ5, S5, (f2.trans f24).trans f5, hs5, R5, hg5, goodS.fut (r := cLoop src.gd g c (src.items.drop (i + 1)) σ5 S5) g2 (f24.trans f5)⟩
               · exact g2.elim
             | ct σ5 S5 =>
               simp only [eb] at g2
               intro ι5 H5 σv f5 hs5 R5
               split at g2
               · rename_i hg5
                 exact ⟨rfl, by omega, ι5, σ5, S5, (f2.trans f24).trans f5, hs5, R5, hg5, goodS.fut (r := cLoop src.gd g c (src.items.drop (i + 1)) σ5 S5) g2 (f24.trans f5)⟩
               · exact g2.elim
             | bk σ5 S5 =>
               simp only [eb] at g2
               exact fun ι5 H5 σv f5 hs5 R5 => g2 ι5 H5 σv (f24.trans f5) hs5 R5
             | rt d5 S5 =>
               simp only [eb] at g2
               exact fun ι5 H5 v f5 R5 r5 => g2 ι5 H5 v (f24.trans f5) R5 r5
             | ex C σ5 S5 =>
               simp only [eb] at g2
               exact fun ι5 H5 σv f5 hs5 R5 => g2 ι5 H5 σv (f24.trans f5) hs5 R5
             | bad =>
               simp only [eb] at g2
               exact g2.elim
         · have en : i = src.items.length := by omega
           rw [en, List.drop_length, cLoop] at g2
           exact .inl ⟨w3 i (by omega), g2 ι2 H2 σ2v (Fut.refl _ _) hs2 R2⟩
       exact ⟨hgd0, fun ι' H' J f R' hJ => key ι' H' J f R' hJ hgd0⟩))) only [↓Dw.Qt.tt]
end
inductive CTg where
  | one (j : Nat)
  | tup (js : List Nat)
def ctgs : List Nat → TGs
  | [] => gNil
  | j :: js => gCons (gName j) (ctgs js)
def ctg (K : PySem.W.Frag) : CTg → TG
  | .one j => gName j
  | .tup js => gTup K js.length (ctgs js)
def setAll : List Nat → List D → Sl → Option Sl
  | [], [], σ => some σ
  | j :: js, d :: ds, σ => setAll js ds (σ.set j (some d))
  | _, _, _ => none
def cgs : CTg → D → Sl → Option Sl
  | .one j, d, σ => some (σ.set j (some d))
  | .tup js, .tup ds, σ => setAll js ds σ
  | .tup _, _, _ => none
def CTg.own : CTg → List Nat
  | .one j => [j]
  | .tup js => js
def CTg.q : CTg → Bool
  | .one _ => true
  | .tup _ => false
def wipeA (σ : Sl) : List Nat → Sl
  | [] => σ
  | v :: vs => (wipeA σ vs).set v none
theorem wipe_set {σ : L2.St} {j : Nat} {x : Option V} : ∀ {vs : List Nat}, j ∈ vs → wipe (σ.set j x) vs = wipe σ vs
  | [], h => nomatch h
  | v :: vs, h => by
    unfold wipe
    by_cases e : j ∈ vs
    · rw [wipe_set e]
    · have ev : j = v := by
        rcases List.mem_cons.mp h with q | q
        · exact q
        · exact absurd q e
      subst ev
      have z : ∀ (ws : List Nat) (τ : L2.St), j ∉ ws → wipe (τ.set j x) ws = (wipe τ ws).set j x := by
        intro ws
        induction ws with
        | nil => intro τ _; rfl
        | cons w ws ih =>
          intro τ hn
          have h1 : j ≠ w := fun q => hn (q ▸ List.mem_cons_self)
          unfold wipe
          rw [ih τ fun q => hn (List.mem_cons_of_mem _ q), List.set_comm _ _ h1]
      rw [z vs σ e, List.set_set]
theorem wipe_wipe {σ : L2.St} : ∀ {vs : List Nat}, wipe (wipe σ vs) vs = wipe σ vs
  | [] => rfl
  | v :: vs => by
    show (wipe ((wipe σ vs).set v none) vs).set v none = (wipe σ vs).set v none
    by_cases h : v ∈ vs
    · rw [wipe_set h, wipe_wipe]
    · have z : ∀ (ws : List Nat) (τ : L2.St), v ∉ ws → wipe (τ.set v none) ws = (wipe τ ws).set v none := by
        intro ws
        induction ws with
        | nil => intro τ _; rfl
        | cons w ws ih =>
          intro τ hn
          have h1 : v ≠ w := fun q => hn (q ▸ List.mem_cons_self)
          unfold wipe
          rw [ih τ fun q => hn (List.mem_cons_of_mem _ q), List.set_comm _ _ h1]
      rw [z vs _ h, wipe_wipe, List.set_set]
section
variable {K : PySem.W.Frag} {N : Nms} {W : WX} {ι ι' : List Addr} {H H' : Hp} {σ : L2.St} {σa : Sl} {S : Sto} {X : Cx}
theorem RepSl.wipe (h : RepSl K ι H σa σ) : ∀ vs : List Nat, RepSl K ι H (wipeA σa vs) (L2.wipe σ vs)
  | [] => h
  | v :: vs => (RepSl.wipe h vs).unset
theorem ctgs_ok {Q : L2.St → Hp → Prop} : ∀ {js : List Nat} {ds : List D} {xs : List V} {σa σ1 : Sl} {σ : L2.St} {vs : List Nat}, (∀ j ∈ js, j ∈ vs) → RepSl K ι H σa σ → RepL K ι H ds xs → setAll js ds σa = some σ1 →
    (∀ σ2, RepSl K ι H σ1 σ2 → L2.wipe σ2 vs = L2.wipe σ vs → Q σ2 H) → ctgs js xs σ H Q
  | [], [], xs, σa, σ1, σ, vs, hj, hs, rl, e, q => ⟨rl, q σ (by cases e; exact hs) rfl⟩
  | [], _ :: _, xs, σa, σ1, σ, vs, hj, hs, rl, e, q => by cases e
  | _ :: _, [], xs, σa, σ1, σ, vs, hj, hs, rl, e, q => by cases e
  | j :: js, d :: ds, xs, σa, σ1, σ, vs, hj, hs, rl, e, q => by
    obtain ⟨x, r, rfl, rx, rr⟩ := rl
    refine ⟨x, r, rfl, ?_⟩
    refine ctgs_ok (fun k hk => hj k (List.mem_cons_of_mem _ hk)) (hs.set rx) rr e (fun σ2 h2 w2 => q σ2 h2 ?_)
    rw [w2, wipe_set (hj j List.mem_cons_self)]
theorem ctg_ok {Q : L2.St → Hp → Prop} {t : CTg} {d : D} {x : V} {σ1 : Sl} {vs : List Nat} (hj : ∀ j ∈ t.own, j ∈ vs) (hs : RepSl K ι H σa σ) (r : RepQ K t.q ι H d x) (e : cgs t d σa = some σ1)
    (q : ∀ σ2, RepSl K ι H σ1 σ2 → L2.wipe σ2 vs = L2.wipe σ vs → Q σ2 H) : ctg K t x σ H Q := by
  refine Dw.Qt.un ?_
  simp (disch := (with_unfolding_all
    (cases t with
     | one j =>
       cases e
       exact q _ (hs.set r) (wipe_set (hj j (List.mem_singleton.mpr rfl)))
     | tup js =>
       cases d with
       | tup ds =>
         obtain ⟨a, xs, rfl, st, rl⟩ := r
         have hl : ∀ (js : List Nat) (ds : List D) (σ σ1 : Sl), setAll js ds σ = some σ1 → ds.length = js.length := by
           intro js
           induction js with
           | nil =>
             intro ds σ σ1 h
             cases ds with
             | nil => rfl
             | cons _ _ => cases h
           | cons j js ih =>
             intro ds σ σ1 h
             cases ds with
             | nil => cases h
             | cons d ds => rw [List.length_cons, List.length_cons, ih ds _ _ h]
         exact ⟨a, xs, rfl, st, by rw [rl.length]; exact hl _ _ _ _ e, ctgs_ok hj hs rl e q⟩
       | _ => cases e))) only [↓Dw.Qt.tt]
end
def noW : WX := fun _ _ _ _ => False
open Classical in
noncomputable def lcA (gd : Sto → Prop) (t : CTg) (vs : List Nat) (tt : M Bool) (te : M D) (n : Nat) (σ : Sl) : List D → Sto → Option Sto
  | [], S => some S
  | d :: r, S => match cgs t d (wipeA σ vs) with
    | none => none
    | some σ2 => match tt σ2 S with
      | .ok true S1 => match te σ2 S1 with
        | .ok y S2 => match S2[n]? with
          | some (.lst acc) => if acc.length < sizeLine ∧ gd (S2.set n (.lst (acc ++ [y]))) then lcA gd t vs tt te n σ r (S2.set n (.lst (acc ++ [y]))) else none
          | _ => none
        | _ => none
      | .ok false S1 => if gd S1 then lcA gd t vs tt te n σ r S1 else none
      | _ => none
open Classical in
noncomputable def eLc (m : M Src) (t : CTg) (vs : List Nat) (tt : M Bool) (te : M D) : M D := fun σ S => match m σ S with
  | .ok src S0 => if src.gd S0 ∧ src.gd (S0 ++ [.lst []]) then (match lcA src.gd t vs tt te S0.length σ src.items (S0 ++ [.lst []]) with
    | some S' => .ok (.ref S0.length) S'
    | none => .bad) else .bad
  | .ex C S0 => .ex C S0
  | .bad => .bad
def bYes : M Bool := fun _ S => .ok true S
section
variable {K : PySem.W.Frag} {N : Nms} {W : WX} {ι ι' : List Addr} {H H' : Hp} {σ : L2.St} {σa : Sl} {S : Sto} {X : Cx}
abbrev ATs (K : PySem.W.Frag) (N : Nms) (W : WX) (X : Cx) (es : List Expr) (m : M Bool) : Prop := PTs X es (tbX K N W m)
theorem PTs.imp {X : Cx} {es : List Expr} {t t' : TT} (h : PTs X es t) (i : ∀ σ H Q, t' σ H Q → t σ H Q) : PTs X es t' := ⟨fun pins s σ H Q I q => h.run pins s σ H Q I (i σ H Q q)⟩
theorem ats_nil : ATs K N W X [] bYes := PTs.imp pts_nil fun σ H Q ⟨ι, σa, S, hs, R, g⟩ => g ι H (Fut.refl _ _) R
theorem te_lc {q : Bool} {m : M Src} {t : CTg} {vs : List Nat} {tt : M Bool} {te : M D} {Q : VK} (hq : q = t.q) (hj : ∀ j ∈ t.own, j ∈ vs) (h : teX K N W (eLc m t vs tt te) σ H Q) :
    tLc (tiX K N W q m) (ctg K t) (tbX K N noW tt) (teX K N noW te) vs σ H Q := by
  refine Dw.Qt.un ?_
  simp (disch := (with_unfolding_all
    (subst hq
     obtain ⟨ι, σa, S, hs, Rp, g⟩ := h
     refine ⟨ι, σa, S, hs, Rp, ?_⟩
     unfold eLc at g
     cases e : m σa S with
     | ex C S0 =>
       rw [e] at g
       exact g
     | bad =>
       rw [e] at g
       exact g
     | ok src S0 =>
       rw [e] at g
       simp only at g
       by_cases hgd : src.gd S0 ∧ src.gd (S0 ++ [.lst []])
       case neg =>
         rw [if_neg hgd] at g
         exact g.elim
       rw [if_pos hgd] at g
       refine ⟨hgd.1, fun ι1 H1 J f1 R1 hJ D hD => ?_⟩
       have R2 : Rep K N (ι1 ++ [D]) (upd H1 D (.lst [])) (S0 ++ [.lst []]) := R1.new hD ⟨[], upd_same, RepL.nil⟩
       have f2 : Fut K ι1 H1 (ι1 ++ [D]) (upd H1 D (.lst [])) := fut_new hD
       have hn : (ι1 ++ [D])[S0.length]? = some D := by rw [← R1.len, List.getElem?_append_right (Nat.le_refl _), Nat.sub_self]; rfl
       refine ⟨fun i m H' => m = src.items.length - i ∧ i ≤ src.items.length ∧ ∃ ι2 S2, Fut K (ι1 ++ [D]) (upd H1 D (.lst [])) ι2 H' ∧ Rep K N ι2 H' S2 ∧ src.gd S2 ∧
           goodE K N W (match lcA src.gd t vs tt te S0.length σa (src.items.drop i) S2 with | some S' => .ok (.ref S0.length) S' | none => .bad) ι2 H' σ Q,
         ⟨_, rfl, Nat.zero_le _, _, _, Fut.refl _ _, R2, hgd.2, goodE.fut (r := match lcA src.gd t vs tt te S0.length σa src.items (S0 ++ [.lst []]) with | some S' => .ok (.ref S0.length) S' | none => .bad) g (f1.trans f2)⟩, ?_⟩
       rintro i m H3 ⟨rfl, hi, ι3, S3, f3, R3, gd3, g3⟩
       obtain ⟨w1, w2, w3⟩ := hJ ι3 H3 S3 (f2.trans f3) R3 gd3
       have hs3 : RepSl K ι3 H3 σa σ := ((hs.fut f1).fut f2).fut f3
       by_cases hlt : i < src.items.length
       · refine .inr ⟨w1 i hlt, _, fun H' p => ⟨src.items.length - (i + 1), by omega, p⟩, fun x H4 y => ?_⟩
         obtain ⟨ι4, d, f4, R4, ed, rd⟩ := w2 i x H4 hlt y
         have hd : src.items.drop i = d :: src.items.drop (i + 1) := by
           rw [List.drop_eq_getElem_cons hlt]
           rw [List.getElem?_eq_getElem hlt] at ed
           rw [Option.some.inj ed]
         rw [hd, lcA] at g3
         cases eg : cgs t d (wipeA σa vs) with
         | none =>
           simp only [eg] at g3
           exact g3.elim
         | some σ5 =>
           simp only [eg] at g3
           refine ctg_ok hj ((hs3.fut f4).wipe vs) rd eg fun σ6 hs6 w6 => ?_
           refine ⟨by rw [w6, wipe_wipe], ι4, σ5, S3, hs6, R4, ?_⟩
           cases et : tt σ5 S3 with
           | ex C S4 =>
             simp only [et] at g3
             exact g3.elim
           | bad =>
             simp only [et] at g3
             exact g3.elim
           | ok b S4 =>
             intro ι5 H5 f5 R5
             cases b with
             | false =>
               simp only [et] at g3
               refine iteF ?_
               by_cases hg4 : src.gd S4
               · rw [if_pos hg4] at g3
                 exact ⟨rfl, by omega, ι5, S4, (f3.trans f4).trans f5, R5, hg4, goodE.fut (r := match lcA src.gd t vs tt te S0.length σa (src.items.drop (i + 1)) S4 with | some S' => .ok (.ref S0.length) S' | none => .bad) g3 (f4.trans f5)⟩
               · rw [if_neg hg4] at g3
                 exact g3.elim
             | true =>
               simp only [et] at g3
               refine iteT ⟨ι5, σ5, S4, hs6.fut f5, R5, ?_⟩
               cases ee : te σ5 S4 with
               | ex C S5 =>
                 simp only [ee] at g3
                 exact g3.elim
               | bad =>
                 simp only [ee] at g3
                 exact g3.elim
               | ok z S5 =>
                 simp only [ee] at g3
                 intro ι6 H6 vz f6 R6 rz
                 cases ea : S5[S0.length]? with
                 | none =>
                   simp only [ea] at g3
                   exact g3.elim
                 | some o =>
                   simp only [ea] at g3
                   cases o with
                   | lst acc =>
                     simp only at g3
                     by_cases hz : acc.length < sizeLine ∧ src.gd (S5.set S0.length (.lst (acc ++ [z])))
                     · rw [if_pos hz] at g3
                       obtain ⟨a, xs, ia, q, rl⟩ := R6.list ea
                       have fD := ((f3.trans f4).trans f5).trans f6
                       rw [fD.ix hn] at ia
                       cases ia
                       have P := R6.put (o := .lst (xs ++ [vz])) (ob := .lst (acc ++ [z])) (fD.ix hn) (fun H' eH fu => ⟨xs ++ [vz], by rw [eH, upd_same], (rl.fut fu).append (RepL.cons (rz.fut fu) RepL.nil)⟩)
                       refine ⟨xs, q, by rw [rl.length]; exact hz.1, rfl, by omega, ι6, _, fD.trans P.2, P.1, hz.2, ?_⟩
                       exact goodE.fut (r := match lcA src.gd t vs tt te S0.length σa (src.items.drop (i + 1)) (S5.set S0.length (.lst (acc ++ [z]))) with | some S' => .ok (.ref S0.length) S' | none => .bad) g3 (((f4.trans f5).trans f6).trans P.2)
                     · rw [if_neg hz] at g3
                       exact g3.elim
                   | _ => exact g3.elim
       · have en : i = src.items.length := by omega
         rw [en, List.drop_length, lcA] at g3
         exact .inl ⟨w3 i (by omega), g3 ι3 H3 _ (Fut.refl _ _) R3 ⟨D, f3.ix hn, rfl⟩⟩))) only [↓Dw.Qt.tt]
theorem AI.weak {tg e : Expr} {m : M Src} (h : AI K N W true X tg e m) : AI K N W false X tg e m := PI.imp h fun σ H R ⟨ι, σa, S, hs, Rp, g⟩ => by
  refine ⟨ι, σa, S, hs, Rp, ?_⟩
  cases e : m σa S with
  | ok src S1 =>
    rw [e] at g
    refine ⟨g.1, fun ι' H' J f R' hJ => g.2 ι' H' J f R' fun ι2 H2 S2 f2 R2 g2 => ?_⟩
    obtain ⟨a, b, c⟩ := hJ ι2 H2 S2 f2 R2 g2
    exact ⟨a, fun i x H3 hi y => let ⟨ι3, d, f3, R3, e3, r3⟩ := b i x H3 hi y; ⟨ι3, d, f3, R3, e3, RepV.weak r3⟩, c⟩
  | ex C S1 => rw [e] at g; exact g
  | bad => rw [e] at g; exact g.elim
theorem ae_lc {t : CTg} {m : M Src} {tt : M Bool} {te : M D} {elt tg iter : Expr} {ifs : List Expr} {scope : Scope} {own : List (Str × Nat)} {pos : Pos} (hc : X.calm = true) (hN : X.N.Nodup) (hi : AI K N W t.q X tg iter m) (ok : BlkOk X.N X.env.scope scope own)
    (hg : ∀ (s : Shared) (H : Hp) (C : Addr) (cl : List (Str × Addr)) (fp : List Addr), PG (X.blk s H scope (compEnvC scope cl C X.env) fp) tg (ctg K t))
    (ht : ∀ (s : Shared) (H : Hp) (C : Addr) (cl : List (Str × Addr)) (fp : List Addr), ATs K N noW (X.blk s H scope (compEnvC scope cl C X.env) fp) ifs tt)
    (he : ∀ (s : Shared) (H : Hp) (C : Addr) (cl : List (Str × Addr)) (fp : List Addr), AE K N noW (X.blk s H scope (compEnvC scope cl C X.env) fp) elt te) (hj : ∀ j ∈ t.own, j ∈ own.map (·.2) := by decide) (hs : ∀ x, foldedSetIterable iter X.env x = pure x := by intro _; rfl) :
    AE K N W X (.ListComp elt [⟨tg, iter, ifs, 0⟩] scope pos) (eLc m t (own.map (·.2)) tt te) := PE.imp (pe_lc hc hN hi ok hg ht he hs) fun σ H Q h => te_lc rfl hj h
theorem ct_one {i : Nat} {x : Str} {pos : Pos} (hN : X.N.Nodup) (hi : X.N[i]? = some x) (hx : Loc X.env.scope x) (hf : X.fn x = true ∨ X.env.scope.names.lookup x = some .local := by first | exact .inl rfl | exact .inr rfl | assumption) : PG X (.Name x pos) (ctg K (.one i)) := pg_name hN hi hx hf
def wlF (t : M Bool) (b : Sm) : Nat → Sm
  | 0, _, _ => .bad
  | n + 1, σ, S => match t σ S with
    | .ok true S1 => match b σ S1 with
      | .nx σ2 S2 => wlF t b n σ2 S2
      | .ct σ2 S2 => wlF t b n σ2 S2
      | .bk σ2 S2 => .nx σ2 S2
      | .rt d S2 => .rt d S2
      | .ex C σ2 S2 => .ex C σ2 S2
      | .bad => .bad
    | .ok false S1 => .nx σ S1
    | .ex C S1 => .ex C σ S1
    | .bad => .bad
open Classical in
noncomputable def cWhile (t : M Bool) (b : Sm) : Sm := fun σ S => if h : ∃ n, wlF t b n σ S ≠ .bad then wlF t b (choose h) σ S else .bad
theorem wlF_up {t : M Bool} {b : Sm} : ∀ {n m : Nat} {σ : Sl} {S : Sto}, n ≤ m → wlF t b n σ S ≠ .bad → wlF t b m σ S = wlF t b n σ S
  | 0, _, _, _, _, h => absurd rfl h
  | n + 1, 0, _, _, l, _ => absurd l (by omega)
  | n + 1, m + 1, σ, S, l, h => by
    unfold wlF at h ⊢
    cases et : t σ S with
    | ok c S1 =>
      rw [et] at h
      cases c with
      | false => rfl
      | true =>
        simp only at h ⊢
        cases eb : b σ S1 with
        | nx σ2 S2 =>
          rw [eb] at h
          exact wlF_up (by omega) h
        | ct σ2 S2 =>
          rw [eb] at h
          exact wlF_up (by omega) h
        | _ => rfl
    | ex C S1 => rfl
    | bad => rfl
theorem cWhile_of {t : M Bool} {b : Sm} {n : Nat} {σ : Sl} {S : Sto} (h : wlF t b n σ S ≠ .bad) : cWhile t b σ S = wlF t b n σ S := by
  have e : ∃ n, wlF t b n σ S ≠ .bad := ⟨n, h⟩
  unfold cWhile
  rw [dif_pos e]
  have c := Classical.choose_spec e
  rcases Nat.le_total n (Classical.choose e) with l | l
  · exact wlF_up l h
  · exact (wlF_up l c).symm
theorem as_while {c : Expr} {body : List Stmt} {t : M Bool} {b : Sm} {pos : Pos} (hp : PassesOwn (model X.prog X.w) X.A X.env X.xe) (hc : AT K N W X c t) (hb : ASs K N W X body b) : AS K N W X (.While c body [] pos) (cWhile t b) := by
  refine Dw.Qt.un ?_
  simp (disch := (with_unfolding_all
    (refine PS.imp (ps_while hp hc hb) fun σ H T ⟨ι, σa, S, hs, R, g⟩ => ?_
     unfold cWhile at g
     split at g
     rotate_left
     · exact g.elim
     rename_i h0
     refine ⟨fun m σ' H' => ∃ ι σa S, RepSl K ι H' σa σ' ∧ Rep K N ι H' S ∧ goodS K N W (wlF t b m σa S) ι H' T, ⟨_, ι, σa, S, hs, R, g⟩, ?_⟩
     rintro m σ1 H1 ⟨ι1, σa1, S1, hs1, R1, g1⟩
     cases m with
     | zero => exact g1.elim
     | succ m =>
       unfold wlF at g1
       refine ⟨ι1, σa1, S1, hs1, R1, ?_⟩
       cases et : t σa1 S1 with
       | ex C S2 =>
         rw [et] at g1
         exact fun ι' H' f R' => g1 ι' H' σ1 f (hs1.fut f) R'
       | bad =>
         rw [et] at g1
         exact g1
       | ok k S2 =>
         rw [et] at g1
         intro ι2 H2 f2 R2
         cases k with
         | false => exact iteF (g1 ι2 H2 σ1 f2 (hs1.fut f2) R2)
         | true =>
           simp only at g1
           refine iteT ⟨fun σ' H' => ∃ ι σa S, RepSl K ι H' σa σ' ∧ Rep K N ι H' S ∧ goodS K N W (wlF t b m σa S) ι H' T, fun σ' H' q => ⟨m, Nat.lt_succ_self _, q⟩, ι2, σa1, S2, hs1.fut f2, R2, ?_⟩
           cases eb : b σa1 S2 with
           | nx σ3 S3 =>
             rw [eb] at g1
             exact fun ι3 H3 σv f3 hs3 R3 => ⟨ι3, σ3, S3, hs3, R3, goodS.fut (r := wlF t b m σ3 S3) g1 (f2.trans f3)⟩
           | ct σ3 S3 =>
             rw [eb] at g1
             exact fun ι3 H3 σv f3 hs3 R3 => ⟨ι3, σ3, S3, hs3, R3, goodS.fut (r := wlF t b m σ3 S3) g1 (f2.trans f3)⟩
           | bk σ3 S3 =>
             rw [eb] at g1
             exact fun ι3 H3 σv f3 hs3 R3 => g1 ι3 H3 σv (f2.trans f3) hs3 R3
           | rt d S3 =>
             rw [eb] at g1
             exact fun ι3 H3 v f3 R3 r3 => g1 ι3 H3 v (f2.trans f3) R3 r3
           | ex C σ3 S3 =>
             rw [eb] at g1
             exact fun ι3 H3 σv f3 hs3 R3 => g1 ι3 H3 σv (f2.trans f3) hs3 R3
           | bad =>
             rw [eb] at g1
             exact g1))) only [↓Dw.Qt.tt]
end
def aNil : M (List D) := fun _ S => .ok [] S
def aCons (m : M D) (r : M (List D)) : M (List D) := eBind m fun d => eBind r fun ds _ S => .ok (d :: ds) S
noncomputable def eTup (m : M (List D)) : M D := eBind m fun ds _ S => ofO (gd (ds.length ≤ sizeLine) (some (.tup ds, S)))
noncomputable def eLst (m : M (List D)) : M D := eBind m fun ds _ S => ofO (gd (ds.length ≤ sizeLine) (some (.ref S.length, S ++ [.lst ds])))
section
variable {K : PySem.W.Frag} {N : Nms} {W : WX} {ι ι' : List Addr} {H H' : Hp} {σ : L2.St} {σa : Sl} {S : Sto} {X : Cx}
theorem aa_nil : AA K N W X [] aNil := PA.imp pa_nil fun σ H Q ⟨ι, σa, S, hs, R, g⟩ => g ι H [] (Fut.refl _ _) R rfl
theorem aa_cons {e : Expr} {es : List Expr} {m : M D} {r : M (List D)} (ha : AE K N W X e m) (hr : AA K N W X es r) (hs : starEach (e :: es) X.env = (false, eval e X.env) :: starEach es X.env := by rfl) : AA K N W X (e :: es) (aCons m r) := PA.imp (pa_cons ha hr hs) fun σ H Q ⟨ι, σa, S, hs, R, g⟩ =>
  bindEL hs R g fun ι1 H1 v d S1 f1 hs1 R1 r1 g1 => bindLL hs1 R1 g1 fun ι2 H2 vs ds S2 f2 hs2 R2 r2 g2 => g2 ι2 H2 (v :: vs) (Fut.refl _ _) R2 (RepL.cons (r1.fut f2) r2)
/-- a new tuple that is not of the store -/
theorem goodO.newT {ds : List D} {xs : List V} {Q : VK} (g : goodO K N (some (.tup ds, S)) ι H Q) (R : Rep K N ι H S) (r : RepL K ι H ds xs) {p : Addr} {o : Obj} (hp : H p = none) (ho : o.dict = Option.none) : Q (.ref p) (upd H p (.frz o (.tup xs))) :=
  g ι _ _ (fut_upd0 hp) (R.grow hp) ⟨p, xs, rfl, .inl ⟨o, ho, upd_same⟩, r.fut (fut_upd0 hp)⟩
/-- a new list of the store -/
theorem goodO.newL {ds : List D} {xs : List V} {Q : VK} (g : goodO K N (some (.ref S.length, S ++ [.lst ds])) ι H Q) (R : Rep K N ι H S) (r : RepL K ι H ds xs) {p : Addr} (hp : H p = none) : Q (.ref p) (upd H p (.lst xs)) :=
  g (ι ++ [p]) _ _ (fut_new hp) (R.new hp ⟨xs, upd_same, r.fut (fut_new hp)⟩) ⟨p, by rw [← R.len, List.getElem?_append_right (Nat.le_refl _), Nat.sub_self]; rfl, rfl⟩
theorem ae_tup {es : List Expr} {m : M (List D)} {x1} {pos : Pos} (h : AA K N W X es m) : AE K N W X (.Tuple es x1 pos) (eTup m) := PE.imp (y_tt h) fun σ H Q ⟨ι, σa, S, hs, R, g⟩ =>
  bindLE hs R g fun ι1 H1 vs ds S1 f1 hs1 R1 r1 g1 => by
    have g2 := goodO.of g1
    cases e : gd (ds.length ≤ sizeLine) (some (D.tup ds, S1)) with
    | none =>
      rw [e] at g2
      exact g2.elim
    | some p =>
      obtain ⟨h1, h2⟩ := gd_some e
      rw [e, ← h2] at g2
      exact ⟨by rw [r1.length]; exact h1, fun p o hp ho => g2.newT R1 r1 hp ho⟩
theorem ae_lst {es : List Expr} {m : M (List D)} {pos : Pos} (h : AA K N W X es m) : AE K N W X (.List es pos) (eLst m) := PE.imp (pe_lst h) fun σ H Q ⟨ι, σa, S, hs, R, g⟩ =>
  bindLE hs R g fun ι1 H1 vs ds S1 f1 hs1 R1 r1 g1 => by
    have g2 := goodO.of g1
    cases e : gd (ds.length ≤ sizeLine) (some (D.ref S1.length, S1 ++ [O.lst ds])) with
    | none =>
      rw [e] at g2
      exact g2.elim
    | some p =>
      obtain ⟨h1, h2⟩ := gd_some e
      rw [e, ← h2] at g2
      exact ⟨by rw [r1.length]; exact h1, fun p hp => g2.newL R1 r1 hp⟩
end
def fn0 (np n : Nat) (body : Sm) : Fn := fun ds S => if ds.length = np then (match body (startA n ds) S with
  | .rt d S' => .ok d S'
  | .nx _ S' => .ok .non S'
  | _ => .bad) else .bad
def fnX (np n : Nat) (body : Sm) : Fn := fun ds S => if ds.length = np then (match body (startA n ds) S with
  | .rt d S' => .ok d S'
  | .nx _ S' => .ok .non S'
  | .ex C _ S' => .ex C S'
  | _ => .bad) else .bad
section
variable {P : Program} {w : World} {K : PySem.W.Frag} {N : Nms} {mg : Str → Option Value} {base : Heap} {k : Nat} {x : Str} {st : Stmt} {ps Ns : List Str}
theorem spA_len0 {np n : Nat} {body : Sm} {vs : List V} {H : Hp} {Q : VK} {E : XK} (h : spA K N (fn0 np n body) vs H Q E) : vs.length = np := by
  obtain ⟨ι, ds, S, r, R, g⟩ := h
  unfold fn0 at g
  rw [r.length]
  by_cases e : ds.length = np
  · exact e
  · rw [if_neg e] at g
    exact g.elim
theorem spA_lenX {np n : Nat} {body : Sm} {vs : List V} {H : Hp} {Q : VK} {E : XK} (h : spA K N (fnX np n body) vs H Q E) : vs.length = np := by
  obtain ⟨ι, ds, S, r, R, g⟩ := h
  unfold fnX at g
  rw [r.length]
  by_cases e : ds.length = np
  · exact e
  · rw [if_neg e] at g
    exact g.elim
theorem enter0 {np n : Nat} {body : Sm} {vs : List V} {H : Hp} {Q : VK} {E : XK} {W : WX} (hn : Ns.length = n) (h : spA K N (fn0 np n body) vs H Q E) : tsX K N W body ⟨fun _ H' => Q .non H', Q, fun _ _ => False, fun _ _ => False⟩ (L2.start Ns vs) H := by
  refine Dw.Qt.un ?_
  simp (disch := (with_unfolding_all
    (obtain ⟨ι, ds, S, r, R, g⟩ := h
     unfold fn0 at g
     by_cases e : ds.length = np
     · rw [if_pos e] at g
       refine ⟨ι, startA Ns.length ds, S, RepSl.start r, R, ?_⟩
       rw [hn]
       cases eb : body (startA n ds) S with
       | rt d S1 => rw [eb] at g; exact g
       | nx σ1 S1 =>
         rw [eb] at g
         exact fun ι' H' σ f hs R' => g ι' H' .non f R' rfl
       | bk σ1 S1 => rw [eb] at g; exact g.elim
       | ct σ1 S1 => rw [eb] at g; exact g.elim
       | ex C σ1 S1 => rw [eb] at g; exact g.elim
       | bad => rw [eb] at g; exact g.elim
     · rw [if_neg e] at g
       exact g.elim))) only [↓Dw.Qt.tt]
theorem enterX {np n : Nat} {body : Sm} {vs : List V} {H : Hp} {Q : VK} {E : XK} (hn : Ns.length = n) (h : spA K N (fnX np n body) vs H Q E) : tsX K N (fun cls d _ H => E cls d H) body ⟨fun _ H' => Q .non H', Q, fun _ _ => False, fun _ _ => False⟩ (L2.start Ns vs) H := by
  refine Dw.Qt.un ?_
  simp (disch := (with_unfolding_all
    (obtain ⟨ι, ds, S, r, R, g⟩ := h
     unfold fnX at g
     by_cases e : ds.length = np
     · rw [if_pos e] at g
       refine ⟨ι, startA Ns.length ds, S, RepSl.start r, R, ?_⟩
       rw [hn]
       cases eb : body (startA n ds) S with
       | rt d S1 => rw [eb] at g; exact g
       | nx σ1 S1 =>
         rw [eb] at g
         exact fun ι' H' σ f hs R' => g ι' H' .non f R' rfl
       | ex C σ1 S1 =>
         rw [eb] at g
         exact fun ι' H' σ f hs R' => g ι' H' f R'
       | bk σ1 S1 => rw [eb] at g; exact g.elim
       | ct σ1 S1 => rw [eb] at g; exact g.elim
       | bad => rw [eb] at g; exact g.elim
     · rw [if_neg e] at g
       exact g.elim))) only [↓Dw.Qt.tt]
theorem okA0 {c : Sm} {np n : Nat} (d : Dn K mg x st ps) (Sc : FnScope Ns ps (defScope st)) (hp : ps.length = np) (hn : Ns.length = n)
    (hb : ∀ (f : Addr) (cdv : Value) (A : Around) (outer : List Env) (s : Shared) (H : Hp) (E : XK), Room k (A.deeper (envOfC x (defScope st) s.heap.objs.size f cdv)) →
      ASs K N noW (cxOf CX0 P w K mg base Ns x (defScope st) f cdv A outer s H E).nox (defBody st) c) : OkD P w K mg base CX0 (k + 1) x ps (spA K N (fn0 np n c)) :=
  ok_mk d Sc (fun vs H Q E h => by rw [hp]; exact spA_len0 h) fun f cdv A outer s H vs Q E hr h => ⟨_, hb f cdv A outer s H E hr, enter0 hn h⟩
theorem okAX {c : Sm} {np n : Nat} (d : Dn K mg x st ps) (Sc : FnScope Ns ps (defScope st)) (hp : ps.length = np) (hn : Ns.length = n)
    (hb : ∀ (f : Addr) (cdv : Value) (A : Around) (outer : List Env) (s : Shared) (H : Hp) (E : XK), Room k (A.deeper (envOfC x (defScope st) s.heap.objs.size f cdv)) →
      ASs K N (fun cls d _ H => E cls d H) (cxOf (L2.CX P w) P w K mg base Ns x (defScope st) f cdv A outer s H E) (defBody st) c) : OkD P w K mg base (L2.CX P w) (k + 1) x ps (spA K N (fnX np n c)) :=
  ok_mkX d Sc (fun vs H Q E h => by rw [hp]; exact spA_lenX h) fun f cdv A outer s H vs Q E hr h => ⟨_, hb f cdv A outer s H E hr, enterX hn h⟩
variable {C : Addr} {m q : Str}
theorem okM0 {c : Sm} {np n : Nat} (d : Mn K C m q st ps) (Sc : FnScope Ns ps (defScope st)) (hp : ps.length = np) (hn : Ns.length = n)
    (hb : ∀ (f : Addr) (cdv : Value) (A : Around) (outer : List Env) (s : Shared) (H : Hp) (E : XK), Room k (A.deeper (envOfC q (defScope st) s.heap.objs.size f cdv)) →
      ASs K N noW (cxOf CX0 P w K mg base Ns q (defScope st) f cdv A outer s H E).nox (defBody st) c) : OkM P w K mg base CX0 (k + 1) C m ps (spA K N (fn0 np n c)) :=
  ok_mkM d Sc (fun vs H Q E h => by rw [hp]; exact spA_len0 h) fun f cdv A outer s H vs Q E hr h => ⟨_, hb f cdv A outer s H E hr, enter0 hn h⟩
theorem okMX {c : Sm} {np n : Nat} (d : Mn K C m q st ps) (Sc : FnScope Ns ps (defScope st)) (hp : ps.length = np) (hn : Ns.length = n)
    (hb : ∀ (f : Addr) (cdv : Value) (A : Around) (outer : List Env) (s : Shared) (H : Hp) (E : XK), Room k (A.deeper (envOfC q (defScope st) s.heap.objs.size f cdv)) →
      ASs K N (fun cls d _ H => E cls d H) (cxOf (L2.CX P w) P w K mg base Ns q (defScope st) f cdv A outer s H E) (defBody st) c) : OkM P w K mg base (L2.CX P w) (k + 1) C m ps (spA K N (fnX np n c)) :=
  ok_mkMX d Sc (fun vs H Q E h => by rw [hp]; exact spA_lenX h) fun f cdv A outer s H vs Q E hr h => ⟨_, hb f cdv A outer s H E hr, enterX hn h⟩
end
def eCall (F : Fn) (m : M (List D)) : M D := eBind m fun ds _ S => F ds S
open Classical in
noncomputable def eMeth (C : Addr) (F : Fn) (mo : M D) (m : M (List D)) : M D := eBind mo fun o σ S => match o with
  | .ref n => match S[n]? with
    | some (.obj C' _) => if C' = C then (eBind m fun ds _ S1 => F (o :: ds) S1) σ S else .bad
    | _ => .bad
  | _ => .bad
def mkRes (n : Nat) : Res D → Res D
  | .ok .non S' => .ok (.ref n) S'
  | _ => .bad
def eMake (C : Addr) (F : Fn) (m : M (List D)) : M D := eBind m fun ds _ S => mkRes S.length (F (.ref S.length :: ds) (S ++ [.obj C []]))
theorem passAt0 {X : Cx} {σ : L2.St} {E : XK} : PassesAt CX0 X σ E := fun _ _ _ _ _ _ h => h.elim
section
variable {K : PySem.W.Frag} {N : Nms} {W : WX} {ι ι' : List Addr} {H H' : Hp} {σ : L2.St} {σa : Sl} {S : Sto} {X : Cx} {k : Nat} {x : Str} {ps : List Str} {F : Fn} {e o : Expr} {es : List Expr} {p pos apos : Pos} {m : M (List D)} {mo : M D} {C : Addr} {mt : Str} {CXx : CXT}
theorem te_call {Q : VK} (h : teX K N W (eCall F m) σ H Q) : tCallS (spA K N F) (WE W) (taX K N W m) σ H Q := by
  obtain ⟨ι, σa, S, hs, R, g⟩ := h
  refine bindLE hs R g fun ι1 H1 vs ds S1 f1 hs1 R1 r1 g1 => ⟨ι1, ds, S1, r1, R1, ?_⟩
  cases eF : F ds S1 with
  | ok d S2 => rw [eF] at g1; exact g1
  | ex C S2 => rw [eF] at g1; exact g1
  | bad => rw [eF] at g1; exact g1
theorem ae_callG (O : OkD X.prog X.w X.K X.mg X.base CXx k x ps (spA K N F)) (hx : ∀ σ, PassesAt CXx X σ (WE W σ)) (hr : Room k X.A) (hg : Gl X x) (ha : AA K N W X (e :: es) m)
    (hdb : (x == ("__debug__" : Str)) = false := by decide) (he : starEach (e :: es) X.env = (false, eval e X.env) :: starEach es X.env := by rfl) (hpl : (backTo pos (starEach es X.env)).any (·.1) = false := by rfl) :
    AE K N W X (.Call (.Name x p) (e :: es) [] pos) (eCall F m) := by
  obtain ⟨f, fd, hm, kp, b, Fo⟩ := O
  exact PE.imp (pe_callS Fo hr hg hm kp b hx ha hdb he hpl) fun σ H Q h => te_call h
/-- a def that lets nothing out -/
theorem ae_call (O : OkD X.prog X.w X.K X.mg X.base CX0 k x ps (spA K N F)) (hr : Room k X.A) (hg : Gl X x) (ha : AA K N W X (e :: es) m)
    (hdb : (x == ("__debug__" : Str)) = false := by decide) (he : starEach (e :: es) X.env = (false, eval e X.env) :: starEach es X.env := by rfl) (hpl : (backTo pos (starEach es X.env)).any (·.1) = false := by rfl) :
    AE K N W X (.Call (.Name x p) (e :: es) [] pos) (eCall F m) := ae_callG O (fun _ => passAt0) hr hg ha hdb he hpl
/-- a def that may raise -/
theorem ae_callX (O : OkD X.prog X.w X.K X.mg X.base (L2.CX X.prog X.w) k x ps (spA K N F)) (tk : Takes X W) (hr : Room k X.A) (hg : Gl X x) (ha : AA K N W X (e :: es) m)
    (hdb : (x == ("__debug__" : Str)) = false := by decide) (he : starEach (e :: es) X.env = (false, eval e X.env) :: starEach es X.env := by rfl) (hpl : (backTo pos (starEach es X.env)).any (·.1) = false := by rfl) :
    AE K N W X (.Call (.Name x p) (e :: es) [] pos) (eCall F m) := ae_callG O (fun σ => passAt tk σ) hr hg ha hdb he hpl
theorem te_meth {ns : List Str} {Q : VK} (cf : CF K N C ns) (hm : mt ∉ ns) (h : teX K N W (eMeth C F mo m) σ H Q) : zMethS C mt (spA K N F) (WE W) (teX K N W mo) (taX K N W m) σ H Q := by
  refine Dw.Qt.un ?_
  simp (disch := (with_unfolding_all
    (obtain ⟨ι, σa, S, hs, R, g⟩ := h
     refine bindEE hs R g fun ι1 H1 v d S1 f1 hs1 R1 r1 g1 => ?_
     cases d with
     | ref n =>
       simp only at g1
       cases es : S1[n]? with
       | none => simp only [es] at g1; exact g1.elim
       | some ob =>
         cases ob with
         | obj C' ds =>
           simp only [es] at g1
           by_cases hc : C' = C
           · rw [if_pos hc] at g1
             subst hc
             obtain ⟨a, ea, dx, xs, q, l, rl⟩ := R1.ob n _ es
             obtain ⟨b, eb, rfl⟩ := r1
             rw [ea] at eb
             cases eb
             refine ⟨a, dx, _, rfl, q, ?_, ?_⟩
             · rw [cf.nm]
               cases hl : (ns.zip xs).lookup mt with
               | none => rfl
               | some y =>
                 exfalso
                 have : ∀ (ns : List Str) (xs : List V), mt ∉ ns → (ns.zip xs).lookup mt = none := by
                   intro ns
                   induction ns with
                   | nil => intro xs _; rfl
                   | cons n ns ih =>
                     intro xs hn
                     cases xs with
                     | nil => rfl
                     | cons x xs =>
                       have ne : (mt == n) = false := beq_eq_false_iff_ne.mpr fun z => hn (z ▸ List.mem_cons_self)
                       rw [List.zip_cons_cons, List.lookup, ne]
                       exact ih xs fun z => hn (List.mem_cons_of_mem _ z)
                 rw [this ns xs hm] at hl
                 cases hl
             · refine bindLE hs1 R1 g1 fun ι2 H2 vs es S2 f2 hs2 R2 r2 g2 => ⟨ι2, .ref n :: es, S2, RepL.cons ⟨a, f2.ix ea, rfl⟩ r2, R2, ?_⟩
               cases eF : F (.ref n :: es) S2 with
               | ok d S3 => rw [eF] at g2; exact g2
               | ex C S3 => rw [eF] at g2; exact g2
               | bad => rw [eF] at g2; exact g2
           · rw [if_neg hc] at g1
             exact g1.elim
         | _ => simp only [es] at g1; exact g1.elim
     | _ => exact g1.elim))) only [↓Dw.Qt.tt]
theorem pe_methG {sp : Sp} {ta : TE} {t : TA} {E' : L2.St → XK} {pl : Sem Bool} (c : Cls X.K C) (O : OkM X.prog X.w X.K X.mg X.base CXx k C mt ps sp) (hr : Room k X.A) (hx : ∀ σ, PassesAt CXx X σ (E' σ)) (he : PE X o ta) (ha : PA X (e :: es) t)
    (hst : starEach (e :: es) X.env = (false, eval e X.env) :: starEach es X.env := by rfl) (hpl : (backTo pos (starEach es X.env)).any (·.1) = false := by rfl)
    (ht : eval (.Call (.Attribute o mt apos) (e :: es) [] pos) X.env = (do
      let ov ← eval o X.env; standAt apos.atName
      let (f, first) ← holding [ov] (getMethod ov mt pl); callWith pos f first (backTo pos (starEach (e :: es) X.env)) (backToKw pos (keywordEach [] X.env))) := by rfl) :
    PE X (.Call (.Attribute o mt apos) (e :: es) [] pos) (zMethS C mt sp E' ta t) := by
  obtain ⟨f, fd, M, b, F⟩ := O
  constructor
  intro pins s σ H Q I h
  have one := he.run pins s σ H _ I h
  refine PySem.W.methodCall_KW (pl := pl) (thn one ?_) ht
  rintro u s1 ⟨x, H1, I1, rx, a, dx, fs, rfl, ea, l, q⟩
  cases rx
  refine getmeth_ok I1 ea c M l ?_
  have two := ha.run pos pins s1 σ H1 _ I1 q
  refine PySem.W.callWith_K (first := [.ref a]) (h₀ := X.base) I.ok.mod.kin M.kp (thn two ?_) hst hpl
  rintro us s2 ⟨vs, H2, I2, r, q2⟩
  exact ⟨I2.kIn, run_fnS (us := .ref a :: us) (vs := .ref a :: vs) F hr b (hx σ) I2 (.cons rfl r) q2⟩
theorem ae_methG {ns : List Str} {pl : Sem Bool} (cf : CF K N C ns) (hm : mt ∉ ns) (O : OkM X.prog X.w X.K X.mg X.base CXx k C mt ps (spA K N F)) (hx : ∀ σ, PassesAt CXx X σ (WE W σ)) (hr : Room k X.A) (he : AE K N W X o mo) (ha : AA K N W X (e :: es) m) (hK : X.K = K)
    (hst : starEach (e :: es) X.env = (false, eval e X.env) :: starEach es X.env) (hpl : (backTo pos (starEach es X.env)).any (·.1) = false)
    (ht : eval (.Call (.Attribute o mt apos) (e :: es) [] pos) X.env = (do
      let ov ← eval o X.env; standAt apos.atName
      let (f, first) ← holding [ov] (getMethod ov mt pl); callWith pos f first (backTo pos (starEach (e :: es) X.env)) (backToKw pos (keywordEach [] X.env)))) : AE K N W X (.Call (.Attribute o mt apos) (e :: es) [] pos) (eMeth C F mo m) := by
  subst hK
  exact PE.imp (pe_methG (pl := pl) cf.cl O hr hx he ha hst hpl ht) fun σ H Q h => te_meth cf hm h
theorem ae_meth {ns : List Str} {pl : Sem Bool} (cf : CF K N C ns) (hm : mt ∉ ns) (O : OkM X.prog X.w X.K X.mg X.base CX0 k C mt ps (spA K N F)) (hr : Room k X.A) (he : AE K N W X o mo) (ha : AA K N W X (e :: es) m) (hK : X.K = K := by rfl)
    (hst : starEach (e :: es) X.env = (false, eval e X.env) :: starEach es X.env := by rfl) (hpl : (backTo pos (starEach es X.env)).any (·.1) = false := by rfl)
    (ht : eval (.Call (.Attribute o mt apos) (e :: es) [] pos) X.env = (do
      let ov ← eval o X.env; standAt apos.atName
      let (f, first) ← holding [ov] (getMethod ov mt pl); callWith pos f first (backTo pos (starEach (e :: es) X.env)) (backToKw pos (keywordEach [] X.env))) := by rfl) : AE K N W X (.Call (.Attribute o mt apos) (e :: es) [] pos) (eMeth C F mo m) := ae_methG cf hm O (fun _ => passAt0) hr he ha hK hst hpl ht
theorem ae_methX {ns : List Str} {pl : Sem Bool} (cf : CF K N C ns) (hm : mt ∉ ns) (O : OkM X.prog X.w X.K X.mg X.base (L2.CX X.prog X.w) k C mt ps (spA K N F)) (tk : Takes X W) (hr : Room k X.A) (he : AE K N W X o mo) (ha : AA K N W X (e :: es) m) (hK : X.K = K := by rfl)
    (hst : starEach (e :: es) X.env = (false, eval e X.env) :: starEach es X.env := by rfl) (hpl : (backTo pos (starEach es X.env)).any (·.1) = false := by rfl)
    (ht : eval (.Call (.Attribute o mt apos) (e :: es) [] pos) X.env = (do
      let ov ← eval o X.env; standAt apos.atName
      let (f, first) ← holding [ov] (getMethod ov mt pl); callWith pos f first (backTo pos (starEach (e :: es) X.env)) (backToKw pos (keywordEach [] X.env))) := by rfl) : AE K N W X (.Call (.Attribute o mt apos) (e :: es) [] pos) (eMeth C F mo m) := ae_methG cf hm O (fun σ => passAt tk σ) hr he ha hK hst hpl ht
theorem te_nil {Q : List V → Hp → Prop} (h : taX K N W aNil σ H Q) : tNil σ H Q := let ⟨ι, _, _, _, R, g⟩ := h; g ι H [] (Fut.refl _ _) R rfl
theorem te_make {Q : VK} (h : teX K N W (eMake C F m) σ H Q) : tMake C (spA K N F) [] (fun _ _ _ => False) (taX K N W m) σ H Q := by
  refine Dw.Qt.un ?_
  simp (disch := (with_unfolding_all
    (obtain ⟨ι, σa, S, hs, R, g⟩ := h
     refine bindLE hs R g fun ι1 H1 vs ds S1 f1 hs1 R1 r1 g1 x dx hx hdx ne => ?_
     have hx' : (upd H1 dx (.own x)) x = none := by rw [upd_ne ne.symm]; exact hx
     have f2 : Fut K ι1 H1 ι1 (upd H1 dx (.own x)) := fut_upd0 hdx
     have R2 := R1.grow (o := .own x) hdx
     have f3 : Fut K ι1 (upd H1 dx (.own x)) (ι1 ++ [x]) (upd (upd H1 dx (.own x)) x (.ins C dx [])) := fut_new hx'
     have R3 : Rep K N (ι1 ++ [x]) (upd (upd H1 dx (.own x)) x (.ins C dx [])) (S1 ++ [.obj C []]) := R2.new hx' ⟨dx, [], by rw [upd_same, List.zip_nil_right], Nat.zero_le _, RepL.nil⟩
     have hn : (ι1 ++ [x])[S1.length]? = some x := by rw [← R1.len, List.getElem?_append_right (Nat.le_refl _), Nat.sub_self]; rfl
     refine ⟨ι1 ++ [x], .ref S1.length :: ds, S1 ++ [.obj C []], ?_, R3, ?_⟩
     · rw [List.append_nil]
       exact RepL.cons ⟨x, hn, rfl⟩ ((r1.fut f2).fut f3)
     · cases eF : F (.ref S1.length :: ds) (S1 ++ [.obj C []]) with
       | ok d S4 =>
         rw [eF] at g1
         cases d with
         | non => exact fun ι4 H4 v f4 R4 r4 => ⟨r4, g1 ι4 H4 (.ref x) ((f2.trans f3).trans f4) R4 ⟨x, f4.ix hn, rfl⟩⟩
         | _ => exact g1.elim
       | ex C S4 =>
         rw [eF] at g1
         exact g1.elim
       | bad =>
         rw [eF] at g1
         exact g1.elim))) only [↓Dw.Qt.tt]
theorem ae_make (cs : Cs X.K X.mg x C) (O : OkM X.prog X.w X.K X.mg X.base CX0 k C "__init__" ps (spA K N F)) (hr : Room (k + 1) X.A) (hg : Gl X x) (ha : AA K N W X (e :: es) m)
    (hdb : (x == ("__debug__" : Str)) = false := by decide) (he : starEach (e :: es) X.env = (false, eval e X.env) :: starEach es X.env := by rfl) (hpl : (backTo pos (starEach es X.env)).any (·.1) = false := by rfl) : AE K N W X (.Call (.Name x p) (e :: es) [] pos) (eMake C F m) :=
  PE.imp (pe_makeC (E := fun _ _ _ => False) cs O hr hg (fun _ _ _ _ _ _ _ h => h.elim) ha hdb he hpl) fun σ H Q h => te_make h
theorem ae_make0 (cs : Cs X.K X.mg x C) (O : OkM X.prog X.w X.K X.mg X.base CX0 k C "__init__" ps (spA K N F)) (hr : Room (k + 1) X.A) (hg : Gl X x)
    (hdb : (x == ("__debug__" : Str)) = false := by decide) : AE K N W X (.Call (.Name x p) [] [] pos) (eMake C F aNil) :=
  PE.imp (pe_makeC0 (E := fun _ _ _ => False) cs O hr hg (fun _ _ _ _ _ _ _ h => h.elim) hdb) fun σ H Q h => te_nil (te_make h)
end
def cRaise (C : Addr) (m : M D) : Sm := sBind m fun _ σ S => .ex C σ S
/-- xm: which class is caught by which -/
def cTry (xm : Addr → Addr → Option Bool) (C : Addr) (body suite : Sm) : Sm := fun σ S => match body σ S with
  | .ex C' σ1 S1 => match xm C' C with
    | some true => suite σ1 S1
    | some false => .ex C' σ1 S1
    | none => .bad
  | r => r
open Classical in
/-- one class is caught -/
noncomputable def xm1 (C : Addr) : Addr → Addr → Option Bool := fun a _ => if a = C then some true else none
section
variable {K : PySem.W.Frag} {N : Nms} {W : WX} {ι ι' : List Addr} {H H' : Hp} {σ : L2.St} {σa : Sl} {S : Sto} {X : Cx} {C : Addr}
theorem as_raise {x : Str} {e : Expr} {m : M D} {p pos pos2 : Pos} (hc : X.calm = true) (tk : Takes X W) (q : PySem.W.excIn X.K C [.type "ValueError", .type "Exception", .type "BaseException", .type "object"] "ValueError.__new__" = true) (gC : X.mg x = some (.ref C)) (kC : PySem.W.keepIn X.K (.ref C) = true) (r : Raises X (.ref C)) (hg : Gl X x)
    (he : AE K N W X e m) (hs : starEach [e] X.env = (false, eval e X.env) :: starEach [] X.env := by rfl) (hdb : (x == ("__debug__" : Str)) = false := by decide) : AS K N W X (.Raise (some (.Call (.Name x p) [e] [] pos)) none pos2) (cRaise C m) :=
  PS.imp (y_raise hc tk q gC kC r hg he hs hdb) fun σ H T ⟨ι, σa, S, hs, R, g⟩ => bindES hs R g fun ι1 H1 v d S1 f1 hs1 R1 r1 g1 => g1 ι1 H1 σ (Fut.refl _ _) hs1 R1 none
theorem as_try {x : Str} {body suite : List Stmt} {b₀ : Stmt} {np pos pos' : Pos} {xm : Addr → Addr → Option Bool} {cb cs : Sm} (hs : X.stack = X.env :: X.outer) (hf : X.env.frame = some X.env.locals) (hc : Names X x (.ref C)) (tk : Takes X W)
    (hx : ∀ C' b, xm C' C = some b → PySem.W.exmOne X.K (.ref C') (.ref C) = some b)
    (hb : ∀ (W : WX) (pn : List (Addr × Obj)) (xe : Value → Shared → Prop), Takes (X.tr pn xe) W → PassesOwn (model X.prog X.w) X.A X.env xe → ASs K N W (X.tr pn xe) body cb)
    (hsu : ∀ (a : Addr) (oe : Obj) (cls : Value) (d : Option Addr) (pn : List (Addr × Obj)), Zc cls d oe → (∃ vs, oe.data = .fields vs) → ASs K N noW (X.suite a ((a, oe) :: pn)) (b₀ :: suite) cs) :
    AS K N W X (.Try body [.ExceptHandler (some (.Name x np)) none (b₀ :: suite) pos'] [] [] pos) (cTry xm C cb (fun σ S => match cs σ S with | .ex _ _ _ => .bad | r => r)) :=
  PS.imp (y_tryO (tb := fun W => tsX K N W cb) (ts := fun _ _ _ => tsX K N noW cs) hs hf hc tk (fun W pn xe t p => hb W pn xe t p) (fun a oe cls d pn hz hf => hsu a oe cls d pn hz hf)) fun σ H T ⟨ι, σa, S, hs, R, g⟩ => by
    refine ⟨ι, σa, S, hs, R, ?_⟩
    unfold cTry at g
    cases e : cb σa S with
    | ex C' σ1 S1 =>
      rw [e] at g
      simp only at g
      intro ι1 H1 σv f1 hs1 R1 dd
      cases ex : xm C' C with
      | none => rw [ex] at g; exact g.elim
      | some b =>
        rw [ex] at g
        refine ⟨b, hx C' b ex, fun hb a ha => ?_, fun hb => ?_⟩
        · subst hb
          refine ⟨ι1, σ1, S1, hs1, R1, ?_⟩
          simp only at g
          cases es : cs σ1 S1 with
          | ex C2 σ2 S2 =>
            rw [es] at g
            exact g.elim
          | nx σ2 S2 => rw [es] at g; exact goodS.fut (r := .nx σ2 S2) g f1
          | rt d2 S2 => rw [es] at g; exact goodS.fut (r := .rt d2 S2) g f1
          | bk σ2 S2 => rw [es] at g; exact goodS.fut (r := .bk σ2 S2) g f1
          | ct σ2 S2 => rw [es] at g; exact goodS.fut (r := .ct σ2 S2) g f1
          | bad => rw [es] at g; exact g.elim
        · subst hb
          exact g ι1 H1 σv f1 hs1 R1 dd
    | nx σ1 S1 => rw [e] at g; exact g
    | rt d1 S1 => rw [e] at g; exact g
    | bk σ1 S1 => rw [e] at g; exact g
    | ct σ1 S1 => rw [e] at g; exact g
    | bad => rw [e] at g; exact g
end
def aft1 (c : List Int) (z : Int) : List Int := if z = -1 then [] else c ++ [z]
def aft (c q : List Int) : List Int := q.foldl aft1 c
def ByL (c : List Int) : Prop := ∀ z ∈ c, 0 ≤ z ∧ z ≤ 255
def StL (q : List Int) : Prop := ∀ z ∈ q, -1 ≤ z ∧ z ≤ 255
abbrev Fls := Nat → List Int × List Int
def upF (F : Fls) (f : Nat) (x : List Int × List Int) : Fls := fun j => if j = f then x else F j
def Sz (F : Fls) (n : Nat) : Prop := ∀ j, (F j).1.length + (F j).2.length ≤ n
def OkF (F : Fls) : Prop := ∀ j, ByL (F j).1 ∧ StL (F j).2
theorem upF_at (F : Fls) (f : Nat) (x : List Int × List Int) : upF F f x f = x := if_pos rfl
theorem upF_ne {F : Fls} {f j : Nat} {x : List Int × List Int} (h : j ≠ f) : upF F f x j = F j := if_neg h
theorem Sz.up {F : Fls} {f n m : Nat} {x : List Int × List Int} (h : Sz F n) (l : n ≤ m) (k : x.1.length + x.2.length ≤ m) : Sz (upF F f x) m := fun j => by
  by_cases e : j = f
  · rw [e, upF_at]
    exact k
  · rw [upF_ne e]
    exact Nat.le_trans (h j) l
theorem OkF.up {F : Fls} {f : Nat} {x : List Int × List Int} (h : OkF F) (a : ByL x.1) (b : StL x.2) : OkF (upF F f x) := fun j => by
  by_cases e : j = f
  · rw [e, upF_at]
    exact ⟨a, b⟩
  · rw [upF_ne e]
    exact h j
def pwV : Option Nat → V
  | none => .non
  | some n => .int n
def Chg (o : List Addr) (H H' : Hp) : Prop := ∀ a ob, a ∉ o → H a = some ob → H' a = some ob
theorem Chg.refl (o : List Addr) (H : Hp) : Chg o H H := fun _ _ _ h => h
theorem Chg.same {o : List Addr} {H H' : Hp} (s : Same H H') : Chg o H H' := fun a ob _ h => s a ob h
theorem Chg.trans {o o' : List Addr} {H H1 H2 : Hp} (a : Chg o H H1) (b : Chg o' H1 H2) (s : ∀ x ∈ o', x ∈ o ∨ H x = none) : Chg o H H2 := fun x ob n h => b x ob (fun m => by
  rcases s x m with q | q
  · exact n q
  · rw [q] at h
    cases h) (a x ob n h)
theorem Chg.put {o : List Addr} {H H1 : Hp} {p : Addr} {u : HO} (a : Chg o H H1) (s : p ∈ o ∨ H p = none) : Chg o H (upd H1 p u) := fun x ob n h => by
  rw [upd_ne fun e => ?_]
  · exact a x ob n h
  · subst e
    rcases s with q | q
    · exact n q
    · rw [q] at h
      cases h
def kfl (d s : Addr) (pw : V) : List (Str × V) := putF "_power" pw (putF "_steps" (.ref s) (putF "_durable" (.ref d) []))
structure Dk0 (C : Addr) (H : Hp) (p dx d s a0 a1 b0 b1 : Addr) (F : Fls) (pw : Option Nat) : Prop where
  ep : H p = some (.ins C dx (kfl d s (pwV pw)))
  ed : H d = some (.lst [.ref a0, .ref a1])
  es : H s = some (.lst [.ref b0, .ref b1])
  e0 : H a0 = some (.lst ((F 0).1.map V.int))
  e1 : H a1 = some (.lst ((F 1).1.map V.int))
  g0 : H b0 = some (.lst ((F 0).2.map V.int))
  g1 : H b1 = some (.lst ((F 1).2.map V.int))
def Dk (C : Addr) (H : Hp) (p : Addr) (o : List Addr) (F : Fls) (pw : Option Nat) : Prop := ∃ dx d s a0 a1 b0 b1, o = [p, d, s, a0, a1, b0, b1] ∧ [d, s, a0, a1, b0, b1].Nodup ∧ Dk0 C H p dx d s a0 a1 b0 b1 F pw
theorem Dk.alive {C : Addr} {H : Hp} {p : Addr} {o : List Addr} {F : Fls} {pw : Option Nat} (h : Dk C H p o F pw) : ∀ x ∈ o, ∃ u, H x = some u ∧ ∀ b xs, u ≠ .frz b (.tup xs) := by
  refine Dw.Qt.un ?_
  simp (disch := (with_unfolding_all
    (obtain ⟨dx, d, s, a0, a1, b0, b1, rfl, _, k⟩ := h
     intro x hx
     simp only [List.mem_cons, List.not_mem_nil, or_false] at hx
     rcases hx with rfl | rfl | rfl | rfl | rfl | rfl | rfl
     · exact ⟨_, k.ep, fun b xs e => by cases e⟩
     · exact ⟨_, k.ed, fun b xs e => by cases e⟩
     · exact ⟨_, k.es, fun b xs e => by cases e⟩
     · exact ⟨_, k.e0, fun b xs e => by cases e⟩
     · exact ⟨_, k.e1, fun b xs e => by cases e⟩
     · exact ⟨_, k.g0, fun b xs e => by cases e⟩
     · exact ⟨_, k.g1, fun b xs e => by cases e⟩))) only [↓Dw.Qt.tt]
theorem Dk.keep {C : Addr} {H H1 : Hp} {p : Addr} {o : List Addr} {F : Fls} {pw : Option Nat} (h : Dk C H p o F pw) (k : ∀ x ∈ o, ∀ u, H x = some u → H1 x = some u) : Dk C H1 p o F pw := by
  obtain ⟨dx, d, s, a0, a1, b0, b1, rfl, nd, q⟩ := h
  exact ⟨dx, d, s, a0, a1, b0, b1, rfl, nd, k p (by simp) _ q.ep, k d (by simp) _ q.ed, k s (by simp) _ q.es, k a0 (by simp) _ q.e0, k a1 (by simp) _ q.e1, k b0 (by simp) _ q.g0, k b1 (by simp) _ q.g1⟩
theorem Dk.same {C : Addr} {H H1 : Hp} {p : Addr} {o : List Addr} {F : Fls} {pw : Option Nat} (h : Dk C H p o F pw) (s : Same H H1) : Dk C H1 p o F pw := h.keep fun x _ u e => s x u e
def lv (z : Int) : V := if z = -1 then .non else .int z
structure Md0 (H : Hp) (m fl t0 t1 u0 w0 u1 w1 : Addr) (F : Fls) (pw : Option Nat) : Prop where
  em : H m = some (.lst [.ref fl, pwV pw])
  ef : H fl = some (.lst [.ref t0, .ref t1])
  k0 : Tk H t0 [.ref u0, .ref w0]
  k1 : Tk H t1 [.ref u1, .ref w1]
  e0 : H u0 = some (.lst ((F 0).1.map V.int))
  g0 : H w0 = some (.lst ((F 0).2.map lv))
  e1 : H u1 = some (.lst ((F 1).1.map V.int))
  g1 : H w1 = some (.lst ((F 1).2.map lv))
def Md (H : Hp) (m : Addr) (o : List Addr) (F : Fls) (pw : Option Nat) : Prop := ∃ fl t0 t1 u0 w0 u1 w1, o = [m, fl, t0, t1, u0, w0, u1, w1] ∧ (m ≠ fl ∧ (u0 ≠ m ∧ u0 ≠ fl) ∧ (w0 ≠ m ∧ w0 ≠ fl) ∧ (u1 ≠ m ∧ u1 ≠ fl) ∧ (w1 ≠ m ∧ w1 ≠ fl)) ∧ Md0 H m fl t0 t1 u0 w0 u1 w1 F pw
theorem Tk.al {H : Hp} {p : Addr} {xs : List V} (h : Tk H p xs) : ∃ u, H p = some u := let ⟨_, _, e⟩ := h; ⟨_, e⟩
theorem Tk.keep {H H1 : Hp} {p : Addr} {xs : List V} (h : Tk H p xs) (k : ∀ u, H p = some u → H1 p = some u) : Tk H1 p xs := let ⟨o, d, e⟩ := h; ⟨o, d, k _ e⟩
theorem Md.alive {H : Hp} {m : Addr} {o : List Addr} {F : Fls} {pw : Option Nat} (h : Md H m o F pw) : ∀ x ∈ o, ∃ u, H x = some u := by
  obtain ⟨fl, t0, t1, u0, w0, u1, w1, rfl, _, k⟩ := h
  intro x hx
  simp only [List.mem_cons, List.not_mem_nil, or_false] at hx
  rcases hx with rfl | rfl | rfl | rfl | rfl | rfl | rfl | rfl
  · exact ⟨_, k.em⟩
  · exact ⟨_, k.ef⟩
  · exact k.k0.al
  · exact k.k1.al
  · exact ⟨_, k.e0⟩
  · exact ⟨_, k.g0⟩
  · exact ⟨_, k.e1⟩
  · exact ⟨_, k.g1⟩
theorem Md.keep {H H1 : Hp} {m : Addr} {o : List Addr} {F : Fls} {pw : Option Nat} (h : Md H m o F pw) (k : ∀ x ∈ o, ∀ u, H x = some u → H1 x = some u) : Md H1 m o F pw := by
  obtain ⟨fl, t0, t1, u0, w0, u1, w1, rfl, n, q⟩ := h
  exact ⟨fl, t0, t1, u0, w0, u1, w1, rfl, n, k m (by simp) _ q.em, k fl (by simp) _ q.ef, q.k0.keep (k t0 (by simp)), q.k1.keep (k t1 (by simp)), k u0 (by simp) _ q.e0, k w0 (by simp) _ q.g0, k u1 (by simp) _ q.e1, k w1 (by simp) _ q.g1⟩
theorem Md.same {H H1 : Hp} {m : Addr} {o : List Addr} {F : Fls} {pw : Option Nat} (h : Md H m o F pw) (s : Same H H1) : Md H1 m o F pw := h.keep fun x _ u e => s x u e
theorem Md.set {H : Hp} {m : Addr} {o : List Addr} {F : Fls} {pw : Option Nat} {f : Nat} (h : Md H m o F pw) (hf : f < 2) : ∃ fl t xs u w, H m = some (.lst [.ref fl, pwV pw]) ∧ H fl = some (.lst xs) ∧ atI xs (f : Int) = some (.ref t) ∧ ixN xs.length (f : Int) = some f ∧
    Tk H t [.ref u, .ref w] ∧ H u = some (.lst ((F f).1.map V.int)) ∧ H w = some (.lst ((F f).2.map lv)) ∧ (u ∈ o ∧ u ≠ m ∧ u ≠ fl) ∧
    ∀ H1 t' u' w' c q, Same H H1 → Tk H1 t' [.ref u', .ref w'] → H1 u' = some (.lst (c.map V.int)) → H1 w' = some (.lst (q.map lv)) → H t' = none → ((u' ∈ o ∨ H u' = none) ∧ u' ≠ m ∧ u' ≠ fl) → H w' = none →
      ∃ o', Md (upd H1 fl (.lst (xs.set f (.ref t')))) m o' (upF F f (c, q)) pw ∧ (∀ x ∈ o', x ∈ o ∨ H x = none) ∧ Chg o H (upd H1 fl (.lst (xs.set f (.ref t')))) := by
  refine Dw.Qt.un ?_
  simp (disch := (with_unfolding_all
    (obtain ⟨fl, t0, t1, u0, w0, u1, w1, rfl, n, q⟩ := h
     obtain ⟨n1, ⟨n2, n3⟩, ⟨n4, n5⟩, ⟨n6, n7⟩, n8, n9⟩ := id n
     obtain rfl | rfl : f = 0 ∨ f = 1 := by omega
     · refine ⟨fl, t0, _, u0, w0, q.em, q.ef, rfl, rfl, q.k0, q.e0, q.g0, ⟨by simp, n2, n3⟩, fun H1 t' u' w' c p s tk eu ew nt hu nw => ?_⟩
       obtain ⟨hu1, hu2, hu3⟩ := hu
       have wm : w' ≠ m := (ne_of_none q.em nw).symm
       have wf : w' ≠ fl := (ne_of_none q.ef nw).symm
       have ef1 := s _ _ q.ef
       refine ⟨[m, fl, t', t1, u', w', u1, w1], ⟨fl, t', t1, u', w', u1, w1, rfl, ⟨n1, ⟨hu2, hu3⟩, ⟨wm, wf⟩, ⟨n6, n7⟩, n8, n9⟩, ⟨(upd_ne n1).trans (s _ _ q.em), upd_same, tk.put ef1, (q.k1.same s).put ef1, ?_, ?_, ?_, ?_⟩⟩, fun x hx => ?_, Chg.put (Chg.same s) (.inl (by simp))⟩
       · rw [upF_at]
         exact (upd_ne hu3).trans eu
       · rw [upF_at]
         exact (upd_ne wf).trans ew
       · exact (upd_ne n7).trans (s _ _ q.e1)
       · exact (upd_ne n9).trans (s _ _ q.g1)
       · simp only [List.mem_cons, List.not_mem_nil, or_false] at hx
         rcases hx with rfl | rfl | rfl | rfl | rfl | rfl | rfl | rfl
         all_goals first
           | exact .inr nt
           | exact .inr nw
           | exact hu1
           | exact .inl (by simp)
     · refine ⟨fl, t1, _, u1, w1, q.em, q.ef, rfl, rfl, q.k1, q.e1, q.g1, ⟨by simp, n6, n7⟩, fun H1 t' u' w' c p s tk eu ew nt hu nw => ?_⟩
       obtain ⟨hu1, hu2, hu3⟩ := hu
       have wm : w' ≠ m := (ne_of_none q.em nw).symm
       have wf : w' ≠ fl := (ne_of_none q.ef nw).symm
       have ef1 := s _ _ q.ef
       refine ⟨[m, fl, t0, t', u0, w0, u', w'], ⟨fl, t0, t', u0, w0, u', w', rfl, ⟨n1, ⟨n2, n3⟩, ⟨n4, n5⟩, ⟨hu2, hu3⟩, wm, wf⟩, ⟨(upd_ne n1).trans (s _ _ q.em), upd_same, (q.k0.same s).put ef1, tk.put ef1, ?_, ?_, ?_, ?_⟩⟩, fun x hx => ?_, Chg.put (Chg.same s) (.inl (by simp))⟩
       · exact (upd_ne n3).trans (s _ _ q.e0)
       · exact (upd_ne n5).trans (s _ _ q.g0)
       · rw [upF_at]
         exact (upd_ne hu3).trans eu
       · rw [upF_at]
         exact (upd_ne wf).trans ew
       · simp only [List.mem_cons, List.not_mem_nil, or_false] at hx
         rcases hx with rfl | rfl | rfl | rfl | rfl | rfl | rfl | rfl
         all_goals first
           | exact .inr nt
           | exact .inr nw
           | exact hu1
           | exact .inl (by simp)))) only [↓Dw.Qt.tt]
theorem SqT.put {K : PySem.W.Frag} {H : Hp} {p l : Addr} {xs zs : List V} {o : HO} (t : SqT K H p xs) (e : H l = some (.lst zs)) : SqT K (upd H l o) p xs := by
  rcases t with (h | ⟨b, h⟩) | h
  · refine .inl (.inl ?_)
    rw [upd_ne fun z => ?_]
    · exact h
    · rw [z, e] at h
      cases h
  · refine .inl (.inr ⟨b, ?_⟩)
    rw [upd_ne fun z => ?_]
    · exact h
    · rw [z, e] at h
      cases h
  · exact .inr h
noncomputable def dI2 (C : Int → Int → Prop) (f : Int → Int → D) : Op2 := fun x y S => match x, y with
  | .int i, .int j => gd (C i j) (some (f i j, S))
  | _, _ => none
def dI0 (f : Int → Int → D) : Op2 := fun x y S => match x, y with
  | .int i, .int j => some (f i j, S)
  | _, _ => none
def dU (f : Int → D) : Op1 := fun x S => match x with
  | .int i => some (f i, S)
  | _ => none
noncomputable def dS2 (C : Str → Str → Prop) (f : Str → Str → D) : Op2 := fun x y S => match x, y with
  | .str i, .str j => gd (C i j) (some (f i j, S))
  | _, _ => none
section
variable {K : PySem.W.Frag} {N : Nms} {W : WX} {ι ι' : List Addr} {H H' : Hp} {σ : L2.St} {σa : Sl} {S : Sto} {X : Cx}
theorem R2.i {C : Int → Int → Prop} {g : Int → Int → V} {f : Int → Int → D} (h : ∀ i j ι H, RepV K ι H (f i j) (g i j)) : R2ok K N (rI C g) (dI2 C f) := fun ι H S x y v u Q R rx ry g => by
  cases x with
  | int i =>
    cases y with
    | int j =>
      cases e : dI2 C f (.int i) (.int j) S with
      | none => rw [e] at g; exact g.elim
      | some p =>
        obtain ⟨h1, h2⟩ := gd_some e
        rw [e, ← h2] at g
        exact ⟨i, j, rx, ry, h1, goodO.at g R (h i j ι H)⟩
    | _ => exact g.elim
  | _ => exact g.elim
theorem R2.i0 {g : Int → Int → V} {f : Int → Int → D} (h : ∀ i j ι H, RepV K ι H (f i j) (g i j)) : R2ok K N (rI0 g) (dI0 f) := fun ι H S x y v u Q R rx ry g => by
  cases x with
  | int i =>
    cases y with
    | int j => exact ⟨i, j, rx, ry, goodO.at g R (h i j ι H)⟩
    | _ => exact g.elim
  | _ => exact g.elim
theorem R1.u {g : Int → V} {f : Int → D} (h : ∀ i ι H, RepV K ι H (f i) (g i)) : R1ok K N (rU g) (dU f) := fun ι H S x v Q R rx g => by
  cases x with
  | int i => exact ⟨i, rx, goodO.at g R (h i ι H)⟩
  | _ => exact g.elim
def dAdd : Op2 := dI0 fun i j => .int (i + j)
def dSub : Op2 := dI0 fun i j => .int (i - j)
noncomputable def dMul : Op2 := dI2 CMul fun i j => .int (i * j)
noncomputable def dFdiv : Op2 := dI2 CDivN fun i j => .int (i.fdiv j)
noncomputable def dMod : Op2 := dI2 (fun _ j => 0 < j) fun i j => .int (i % j)
noncomputable def dPow : Op2 := dI2 CPow fun i j => .int (i ^ j.toNat)
def dAnd : Op2 := dI0 fun i j => .int (Builtin.bitAnd i j)
noncomputable def dShl : Op2 := dI2 CPow fun i j => .int (i * 2 ^ j.toNat)
noncomputable def dShr : Op2 := dI2 (fun _ j => 0 ≤ j) fun i j => .int (i / 2 ^ j.toNat)
def dNeg : Op1 := dU fun i => .int (-i)
def dLt : Op2 := dI0 fun i j => .bl (decide (i < j))
def dLe : Op2 := dI0 fun i j => .bl (decide (i ≤ j))
def dGt : Op2 := dI0 fun i j => .bl (decide (j < i))
def dGe : Op2 := dI0 fun i j => .bl (decide (j ≤ i))
variable {a b c : Expr} {ma mb mc : M D} {pos : Pos}
theorem ae_add (ha : AE K N W X a ma) (hb : AE K N W X b mb) : AE K N W X (.BinOp a .Add b pos) (e2 dAdd ma mb) := ae_op op_add (R2.i0 fun _ _ _ _ => rfl) ha hb
theorem ae_sub (ha : AE K N W X a ma) (hb : AE K N W X b mb) : AE K N W X (.BinOp a .Sub b pos) (e2 dSub ma mb) := ae_op op_sub (R2.i0 fun _ _ _ _ => rfl) ha hb
theorem ae_mul (ha : AE K N W X a ma) (hb : AE K N W X b mb) : AE K N W X (.BinOp a .Mult b pos) (e2 dMul ma mb) := ae_op op_mul (R2.i fun _ _ _ _ => rfl) ha hb
theorem ae_mod (ha : AE K N W X a ma) (hb : AE K N W X b mb) : AE K N W X (.BinOp a .Mod b pos) (e2 dMod ma mb) := ae_op op_mod (R2.i fun _ _ _ _ => rfl) ha hb
theorem ae_pow (ha : AE K N W X a ma) (hb : AE K N W X b mb) : AE K N W X (.BinOp a .Pow b pos) (e2 dPow ma mb) := ae_op op_pow (R2.i fun _ _ _ _ => rfl) ha hb
theorem ae_band (ha : AE K N W X a ma) (hb : AE K N W X b mb) : AE K N W X (.BinOp a .BitAnd b pos) (e2 dAnd ma mb) := ae_op op_and (R2.i0 fun _ _ _ _ => rfl) ha hb
theorem ae_shl (ha : AE K N W X a ma) (hb : AE K N W X b mb) : AE K N W X (.BinOp a .LShift b pos) (e2 dShl ma mb) := ae_op op_shl (R2.i fun _ _ _ _ => rfl) ha hb
theorem ae_shr (ha : AE K N W X a ma) (hb : AE K N W X b mb) : AE K N W X (.BinOp a .RShift b pos) (e2 dShr ma mb) := ae_op op_shr (R2.i fun _ _ _ _ => rfl) ha hb
theorem ae_neg (ha : AE K N W X a ma) : AE K N W X (.UnaryOp .USub a pos) (e1 dNeg ma) := ae_un un_neg (R1.u fun _ _ _ => rfl) ha
theorem k_lt : R2ok K N (rI0 fun i j => .bl (decide (i < j))) dLt := R2.i0 fun _ _ _ _ => rfl
theorem k_le : R2ok K N (rI0 fun i j => .bl (decide (i ≤ j))) dLe := R2.i0 fun _ _ _ _ => rfl
theorem k_gt : R2ok K N (rI0 fun i j => .bl (decide (j < i))) dGt := R2.i0 fun _ _ _ _ => rfl
theorem k_ge : R2ok K N (rI0 fun i j => .bl (decide (j ≤ i))) dGe := R2.i0 fun _ _ _ _ => rfl
/-- scalars of one kind -/
def dEqB : D → D → Option Bool
  | .int i, .int j => some (decide (i = j))
  | .str i, .str j => some (decide (i = j))
  | .bl i, .bl j => some (decide (i = j))
  | _, _ => none
def dEq : Op2 := fun x y S => (dEqB x y).map fun b => (.bl b, S)
def dNe : Op2 := fun x y S => (dEqB x y).map fun b => (.bl (!b), S)
theorem k_eq : R2ok K N rEq dEq := fun ι H S x y v u Q R rx ry g => by
  refine Dw.Qt.un ?_
  simp (disch := (with_unfolding_all
    (cases x with
     | int i =>
       cases y with
       | int j =>
         rw [show v = V.int i from rx, show u = V.int j from ry]
         exact rd_eqI (goodO.at g R rfl)
       | _ => exact g.elim
     | str i =>
       cases y with
       | str j =>
         rw [show v = V.str i from rx, show u = V.str j from ry]
         exact rd_eqS (goodO.at g R rfl)
       | _ => exact g.elim
     | bl i =>
       cases y with
       | bl j =>
         rw [show v = V.bl i from rx, show u = V.bl j from ry]
         exact rd_eqB (goodO.at g R rfl)
       | _ => exact g.elim
     | _ => exact g.elim))) only [↓Dw.Qt.tt]
theorem k_ne : R2ok K N rNe dNe := fun ι H S x y v u Q R rx ry g => by
  refine Dw.Qt.un ?_
  simp (disch := (with_unfolding_all
    (cases x with
     | int i =>
       cases y with
       | int j =>
         rw [show v = V.int i from rx, show u = V.int j from ry]
         exact rd_neI (goodO.at g R rfl)
       | _ => exact g.elim
     | str i =>
       cases y with
       | str j =>
         rw [show v = V.str i from rx, show u = V.str j from ry]
         exact rd_neS (goodO.at g R rfl)
       | _ => exact g.elim
     | bl i =>
       cases y with
       | bl j =>
         rw [show v = V.bl i from rx, show u = V.bl j from ry]
         exact ⟨rfl, by
           rw [show decide (V.bl i = V.bl j) = decide (i = j) by simp only [V.bl.injEq]]
           exact goodO.at g R rfl⟩
       | _ => exact g.elim
     | _ => exact g.elim))) only [↓Dw.Qt.tt]
/-- is None -/
def isNon : D → Bool
  | .non => true
  | _ => false
theorem isNon_of {d : D} {v : V} (r : RepV K ι H d v) : decide (v = .non) = isNon d := by
  cases d with
  | non => rw [show v = V.non from r]; rfl
  | bl _ => rw [show v = V.bl _ from r]; rfl
  | int _ => rw [show v = V.int _ from r]; rfl
  | str _ => rw [show v = V.str _ from r]; rfl
  | ty _ => rw [show v = V.ty _ from r]; rfl
  | scr _ => obtain ⟨a, rfl, _⟩ := r; rfl
  | ref _ => obtain ⟨a, _, rfl⟩ := r; rfl
  | tup _ => obtain ⟨a, _, rfl, _⟩ := r; rfl
def dIsN : Op2 := fun x y S => match y with
  | .non => some (.bl (isNon x), S)
  | _ => none
def dNotN : Op2 := fun x y S => match y with
  | .non => some (.bl (!isNon x), S)
  | _ => none
theorem k_isN : R2ok K N (zIsN false) dIsN := fun ι H S x y v u Q R rx ry g => by
  cases y with
  | non => exact ⟨ry, goodO.at g R (by show V.bl _ = V.bl _; rw [isNon_of rx]; rfl)⟩
  | _ => exact g.elim
theorem k_notN : R2ok K N (zIsN true) dNotN := fun ι H S x y v u Q R rx ry g => by
  cases y with
  | non => exact ⟨ry, goodO.at g R (by show V.bl _ = V.bl _; rw [isNon_of rx]; rfl)⟩
  | _ => exact g.elim
noncomputable def dAdS : Op2 := dS2 (fun i j => i.length + j.length ≤ sizeLine) fun i j => .str (i ++ j)
theorem k_adS : R2ok K N zAdS dAdS := fun ι H S x y v u Q R rx ry g => by
  cases x with
  | str i =>
    cases y with
    | str j =>
      cases e : dAdS (.str i) (.str j) S with
      | none => rw [e] at g; exact g.elim
      | some p =>
        obtain ⟨h1, h2⟩ := gd_some e
        rw [e, ← h2] at g
        exact ⟨i, j, rx, ry, h1, goodO.at g R rfl⟩
    | _ => exact g.elim
  | _ => exact g.elim
theorem ae_adS (ha : AE K N W X a ma) (hb : AE K N W X b mb) : AE K N W X (.BinOp a .Add b pos) (e2 dAdS ma mb) := ae_op y_adS k_adS ha hb
/-- the items of a list or a tuple -/
def seqOf (d : D) (S : Sto) : Option (List D) := match d with
  | .tup ds => some ds
  | .ref n => match S[n]? with
    | some (.lst ds) => some ds
    | _ => none
  | .scr ns => some (ns.map .int)
  | _ => none
theorem RepL.ints : ∀ ns : List Int, RepL K ι H (ns.map .int) (ns.map V.int)
  | [] => rfl
  | n :: ns => RepL.cons rfl (RepL.ints ns)
theorem seqOf_ok {d : D} {v : V} {ds : List D} (R : Rep K N ι H S) (r : RepV K ι H d v) (e : seqOf d S = some ds) : ∃ p xs, v = .ref p ∧ (SqL K H p xs ∨ SqT K H p xs) ∧ RepL K ι H ds xs := by
  refine Dw.Qt.un ?_
  simp (disch := (with_unfolding_all
    (cases d with
     | tup es =>
       cases e
       obtain ⟨a, xs, rfl, t, rl⟩ := r
       exact ⟨a, xs, rfl, .inr t.seq, rl⟩
     | ref n =>
       unfold seqOf at e
       simp only at e
       cases es : S[n]? with
       | none => rw [es] at e; cases e
       | some o =>
         rw [es] at e
         cases o with
         | lst es2 =>
           cases e
           obtain ⟨a, xs, ea, q, rl⟩ := R.list es
           obtain ⟨b, eb, rfl⟩ := r
           rw [ea] at eb
           cases eb
           exact ⟨a, xs, rfl, .inl (SqL.of q), rl⟩
         | _ => cases e
     | scr ns =>
       cases e
       obtain ⟨a, rfl, t⟩ := r
       exact ⟨a, _, rfl, .inl t.seq, RepL.ints ns⟩
     | _ => cases e))) only [↓Dw.Qt.tt]
/-- the script at a place -/
def dIxR : Op2 := fun x y S => match x, y with
  | .scr ns, .int i => (atI ns i).map fun d => (.int d, S)
  | _, _ => none
theorem atI_map {α β : Type} {f : α → β} {xs : List α} {i : Int} {d : α} (e : atI xs i = some d) : atI (xs.map f) i = some (f d) := by
  unfold atI at e ⊢
  rw [List.length_map]
  cases h : ixN xs.length i with
  | none => rw [h] at e; cases e
  | some j =>
    rw [h] at e
    show (xs.map f)[j]? = _
    rw [List.getElem?_map, show xs[j]? = some d from e]
    rfl
theorem k_ixR : R2ok K N (rIxL K) dIxR := fun ι H S x y v u Q R rx ry g => by
  cases x with
  | scr ns =>
    cases y with
    | int i =>
      unfold dIxR at g
      simp only at g
      cases ea : atI ns i with
      | none => rw [ea] at g; exact g.elim
      | some d =>
        rw [ea] at g
        obtain ⟨a, rfl, t⟩ := rx
        exact ⟨a, _, i, .int d, rfl, ry, t.seq, atI_map ea, goodO.at g R rfl⟩
    | _ => exact g.elim
  | _ => exact g.elim
/-- truth -/
noncomputable def dTru (d : D) (S : Sto) : Option Bool := match d with
  | .non => some false
  | .bl b => some b
  | .int i => some (i != 0)
  | .str y => gd (y.length ≤ sizeLine) (some ((y.length : Int) != 0))
  | d => (seqOf d S).map fun ds => !ds.isEmpty
noncomputable def bTru (m : M D) : M Bool := eBind m fun d _ S => match dTru d S with
  | some b => .ok b S
  | none => .bad
theorem isEmpty_rep {ds : List D} {xs : List V} (rl : RepL K ι H ds xs) : (!ds.isEmpty) = !xs.isEmpty := by
  have := rl.length
  cases ds <;> cases xs <;> simp at this ⊢
theorem at_truth {a : Expr} {ma : M D} (ha : AE K N W X a ma) (he : ∀ whole, isTrue a X.env whole = (do let v ← whole; standAt a.pos; holding [v] (truthy v))) (hK : X.K = K := by rfl) : AT K N W X a (bTru ma) := by
  refine Dw.Qt.un ?_
  simp (disch := (with_unfolding_all
    (subst hK
     refine PT.imp (pt_truth ha he) fun σ H Q ⟨ι, σa, S, hs, R, g⟩ => bindEB hs R g fun ι1 H1 v d S1 f1 hs1 R1 r1 g1 => ?_
     cases e : dTru d S1 with
     | none => simp only [e] at g1; exact g1.elim
     | some b =>
       simp only [e] at g1
       refine ⟨b, ?_, g1 ι1 H1 (Fut.refl _ _) R1⟩
       cases d with
       | non => cases e; rw [show v = V.non from r1]; rfl
       | bl k => rw [show v = V.bl k from r1]; exact (Option.some.inj e).symm
       | int i => rw [show v = V.int i from r1]; exact (Option.some.inj e).symm
       | str y =>
         obtain ⟨h1, h2⟩ := gd_some e
         cases h2
         rw [show v = V.str y from r1]
         exact ⟨h1, rfl⟩
       | ty _ => cases e
       | tup es =>
         unfold dTru at e
         simp only at e
         cases eq : seqOf (.tup es) S1 with
         | none => rw [eq] at e; cases e
         | some ds =>
           rw [eq] at e
           cases e
           obtain ⟨p, xs, rfl, hq, rl⟩ := seqOf_ok R1 r1 eq
           rcases hq with hq | hq
           · exact .inl ⟨xs, hq, isEmpty_rep rl⟩
           · exact .inr (.inl ⟨xs, hq, isEmpty_rep rl⟩)
       | ref n =>
         unfold dTru at e
         simp only at e
         cases eq : seqOf (.ref n) S1 with
         | none => rw [eq] at e; cases e
         | some ds =>
           rw [eq] at e
           cases e
           obtain ⟨p, xs, rfl, hq, rl⟩ := seqOf_ok R1 r1 eq
           rcases hq with hq | hq
           · exact .inl ⟨xs, hq, isEmpty_rep rl⟩
           · exact .inr (.inl ⟨xs, hq, isEmpty_rep rl⟩)
       | scr ns =>
         unfold dTru at e
         simp only at e
         cases eq : seqOf (.scr ns) S1 with
         | none => rw [eq] at e; cases e
         | some ds =>
           rw [eq] at e
           cases e
           obtain ⟨p, xs, rfl, hq, rl⟩ := seqOf_ok R1 r1 eq
           rcases hq with hq | hq
           · exact .inl ⟨xs, hq, isEmpty_rep rl⟩
           · exact .inr (.inl ⟨xs, hq, isEmpty_rep rl⟩)))) only [↓Dw.Qt.tt]
def vOf : D → Option V
  | .non => some .non
  | .bl b => some (.bl b)
  | .int i => some (.int i)
  | .str x => some (.str x)
  | _ => none
def vsOf : List D → Option (List V)
  | [] => some []
  | d :: ds => (vOf d).bind fun v => (vsOf ds).map fun vs => v :: vs
theorem vOf_ok {d : D} {v w : V} (r : RepV K ι H d v) (e : vOf d = some w) : v = w ∧ flatV w = true := by
  cases d with
  | non => cases e; exact ⟨r, rfl⟩
  | bl _ => cases e; exact ⟨r, rfl⟩
  | int _ => cases e; exact ⟨r, rfl⟩
  | str _ => cases e; exact ⟨r, rfl⟩
  | _ => cases e
theorem vsOf_ok : ∀ {ds : List D} {vs ws : List V}, RepL K ι H ds vs → vsOf ds = some ws → vs = ws ∧ ws.all flatV = true
  | [], vs, ws, r, e => by cases e; exact ⟨r, rfl⟩
  | d :: ds, vs, ws, r, e => by
    obtain ⟨x, r', rfl, rx, rr⟩ := r
    unfold vsOf at e
    cases e1 : vOf d with
    | none => rw [e1] at e; cases e
    | some v =>
      cases e2 : vsOf ds with
      | none => rw [e1, e2] at e; cases e
      | some us =>
        rw [e1, e2] at e
        cases e
        obtain ⟨h1, h2⟩ := vOf_ok rx e1
        obtain ⟨h3, h4⟩ := vsOf_ok rr e2
        exact ⟨by rw [h1, h3], by rw [List.all_cons, h2, h4]; rfl⟩
def dIn (neg : Bool) : Op2 := fun x y S => (vOf x).bind fun v => (seqOf y S).bind fun ds => (vsOf ds).map fun vs => (.bl (if neg then !inV v vs else inV v vs), S)
theorem k_in (neg : Bool) : R2ok K N (rIn K neg) (dIn neg) := fun ι H S x y v u Q R rx ry g => by
  refine Dw.Qt.un ?_
  simp (disch := (with_unfolding_all
    (unfold dIn at g
     cases e1 : vOf x with
     | none => rw [e1] at g; exact g.elim
     | some w =>
       cases e2 : seqOf y S with
       | none => rw [e1, e2] at g; exact g.elim
       | some ds =>
         cases e3 : vsOf ds with
         | none => simp only [e1, e2, e3, Option.bind_some, Option.map_none] at g; exact g.elim
         | some ws =>
           simp only [e1, e2, e3, Option.bind_some, Option.map_some] at g
           obtain ⟨p, xs, rfl, hq, rl⟩ := seqOf_ok R ry e2
           obtain ⟨rfl, h1⟩ := vOf_ok rx e1
           obtain ⟨rfl, h2⟩ := vsOf_ok rl e3
           exact ⟨p, _, rfl, hq, h1, h2, goodO.at g R rfl⟩))) only [↓Dw.Qt.tt]
/-- x[i] -/
def dIxL : Op2 := fun x y S => match x, y with
  | .ref n, .int i => match S[n]? with
    | some (.lst ds) => (atI ds i).map fun d => (d, S)
    | _ => none
  | _, _ => none
def dIxT : Op2 := fun x y S => match x, y with
  | .tup ds, .int i => (atI ds i).map fun d => (d, S)
  | _, _ => none
noncomputable def dIxS : Op2 := fun x y S => match x, y with
  | .str z, .int i => gd (z.length ≤ sizeLine) ((atI (tl z) i).map fun c => (.str ⟨#[c]⟩, S))
  | _, _ => none
theorem RepL.atI {ds : List D} {xs : List V} {i : Int} {d : D} (rl : RepL K ι H ds xs) (e : L2.atI ds i = some d) : ∃ v, L2.atI xs i = some v ∧ RepV K ι H d v := by
  unfold L2.atI at e ⊢
  rw [rl.length]
  cases h : ixN ds.length i with
  | none => rw [h] at e; cases e
  | some j =>
    rw [h] at e
    exact rl.get e
theorem k_ixL : R2ok K N (rIxL K) dIxL := fun ι H S x y v u Q R rx ry g => by
  refine Dw.Qt.un ?_
  simp (disch := (with_unfolding_all
    (cases x with
     | ref n =>
       cases y with
       | int i =>
         unfold dIxL at g
         simp only at g
         cases es : S[n]? with
         | none => rw [es] at g; exact g.elim
         | some o =>
           rw [es] at g
           cases o with
           | lst ds =>
             simp only at g
             cases ea : atI ds i with
             | none => rw [ea] at g; exact g.elim
             | some d =>
               rw [ea] at g
               obtain ⟨a, xs, ia, q, rl⟩ := R.list es
               obtain ⟨b, eb, rfl⟩ := rx
               rw [ia] at eb
               cases eb
               obtain ⟨w, ew, rw'⟩ := rl.atI ea
               exact ⟨a, xs, i, w, rfl, ry, SqL.of q, ew, goodO.at g R rw'⟩
           | _ => exact g.elim
       | _ => exact g.elim
     | _ => exact g.elim))) only [↓Dw.Qt.tt]
theorem k_ixT : R2ok K N (rIxT K) dIxT := fun ι H S x y v u Q R rx ry g => by
  cases x with
  | tup ds =>
    cases y with
    | int i =>
      unfold dIxT at g
      simp only at g
      cases ea : atI ds i with
      | none => rw [ea] at g; exact g.elim
      | some d =>
        rw [ea] at g
        obtain ⟨a, xs, rfl, t, rl⟩ := rx
        obtain ⟨w, ew, rw'⟩ := rl.atI ea
        exact ⟨a, xs, i, w, rfl, ry, t.seq, ew, goodO.at g R rw'⟩
    | _ => exact g.elim
  | _ => exact g.elim
theorem k_ixS : R2ok K N rIxS dIxS := fun ι H S x y v u Q R rx ry g => by
  refine Dw.Qt.un ?_
  simp (disch := (with_unfolding_all
    (cases x with
     | str z =>
       cases y with
       | int i =>
         unfold dIxS at g
         simp only at g
         cases e : gd (z.length ≤ sizeLine) ((atI (tl z) i).map fun c => (D.str ⟨#[c]⟩, S)) with
         | none => rw [e] at g; exact g.elim
         | some p =>
           obtain ⟨h1, h2⟩ := gd_some e
           cases ea : atI (tl z) i with
           | none => rw [ea] at h2; cases h2
           | some c =>
             rw [ea] at h2
             rw [e, ← h2] at g
             exact ⟨z, i, c, rx, ry, h1, ea, goodO.at g R rfl⟩
       | _ => exact g.elim
     | _ => exact g.elim))) only [↓Dw.Qt.tt]
theorem ae_ix {r : R2} {f : Op2} (hr : IxR X r) (hf : R2ok K N r f) (ha : AE K N W X a ma) (hb : AE K N W X b mb) (hs : PlainIx b := by intro _ _; rfl) : AE K N W X (.Subscript a b pos) (e2 f ma mb) := PE.imp (pe_ix hr ha hb hs) fun σ H Q h => te_op hf h
theorem ae_ixL (ha : AE K N W X a ma) (hb : AE K N W X b mb) (hK : X.K = K := by rfl) (hs : PlainIx b := by intro _ _; rfl) : AE K N W X (.Subscript a b pos) (e2 dIxL ma mb) := by subst hK; exact ae_ix ix_list k_ixL ha hb hs
theorem ae_ixR (ha : AE K N W X a ma) (hb : AE K N W X b mb) (hK : X.K = K := by rfl) (hs : PlainIx b := by intro _ _; rfl) : AE K N W X (.Subscript a b pos) (e2 dIxR ma mb) := by subst hK; exact ae_ix ix_list k_ixR ha hb hs
theorem ae_ixT (ha : AE K N W X a ma) (hb : AE K N W X b mb) (hK : X.K = K := by rfl) (hs : PlainIx b := by intro _ _; rfl) : AE K N W X (.Subscript a b pos) (e2 dIxT ma mb) := by subst hK; exact ae_ix ix_tup k_ixT ha hb hs
theorem ae_ixS (ha : AE K N W X a ma) (hb : AE K N W X b mb) (hs : PlainIx b := by intro _ _; rfl) : AE K N W X (.Subscript a b pos) (e2 dIxS ma mb) := ae_ix ix_str k_ixS ha hb hs
def listAt (S : Sto) (d : D) : Option (Nat × List D) := match d with
  | .ref n => match S[n]? with
    | some (.lst ds) => some (n, ds)
    | _ => none
  | _ => none
theorem listAt_ok {d : D} {v : V} {n : Nat} {ds : List D} (R : Rep K N ι H S) (r : RepV K ι H d v) (e : listAt S d = some (n, ds)) : d = .ref n ∧ S[n]? = some (.lst ds) ∧ ∃ a xs, ι[n]? = some a ∧ v = .ref a ∧ H a = some (.lst xs) ∧ RepL K ι H ds xs := by
  cases d with
  | ref k =>
    unfold listAt at e
    simp only at e
    cases es : S[k]? with
    | none => rw [es] at e; cases e
    | some o =>
      rw [es] at e
      cases o with
      | lst ds' =>
        cases e
        obtain ⟨a, xs, ia, q, rl⟩ := R.list es
        obtain ⟨b, eb, rfl⟩ := r
        rw [ia] at eb
        cases eb
        exact ⟨rfl, es, a, xs, ia, rfl, q, rl⟩
      | _ => cases e
  | _ => cases e
noncomputable def dCatL : Op2 := fun x y S => (listAt S x).bind fun p => (listAt S y).bind fun q => gd (p.2.length + q.2.length ≤ sizeLine) (some (.ref S.length, S ++ [.lst (p.2 ++ q.2)]))
theorem k_cat : R2ok K N rCat dCatL := fun ι H S x y v u Q R rx ry g => by
  refine Dw.Qt.un ?_
  simp (disch := (with_unfolding_all
    (unfold dCatL at g
     cases e1 : listAt S x with
     | none => rw [e1] at g; exact g.elim
     | some p =>
       cases e2 : listAt S y with
       | none => rw [e1, e2] at g; exact g.elim
       | some q =>
         simp only [e1, e2, Option.bind_some] at g
         cases e : gd (p.2.length + q.2.length ≤ sizeLine) (some (D.ref S.length, S ++ [O.lst (p.2 ++ q.2)])) with
         | none => rw [e] at g; exact g.elim
         | some z =>
           obtain ⟨h1, h2⟩ := gd_some e
           rw [e, ← h2] at g
           obtain ⟨_, _, a, xs, _, rfl, qa, rl⟩ := listAt_ok R rx e1
           obtain ⟨_, _, b, ys, _, rfl, qb, sl⟩ := listAt_ok R ry e2
           exact ⟨a, b, xs, ys, rfl, rfl, qa, qb, by rw [rl.length, sl.length]; exact h1, fun p hp => goodO.newL g R (rl.append sl) hp⟩))) only [↓Dw.Qt.tt]
theorem ae_cat (ha : AE K N W X a ma) (hb : AE K N W X b mb) : AE K N W X (.BinOp a .Add b pos) (e2 dCatL ma mb) := ae_op op_cat k_cat ha hb
structure POx (K : PySem.W.Frag) (N : Nms) (X : Cx) (e : Option Expr) (m : M (Option Int)) : Prop where
  ex : ∃ t : TO, PO X e t ∧ ∀ ι σa σ S H Q, RepSl K ι H σa σ → Rep K N ι H S → (match m σa S with
    | .ok o S' => ∀ ι' H', Fut K ι H ι' H' → Rep K N ι' H' S' → Q o H'
    | _ => False) → t σ H Q
theorem pox_none : POx K N X none (fun _ S => .ok none S) := ⟨⟨tNoPart, po_none, fun ι σa σ S H Q hs R g => g ι H (Fut.refl _ _) R⟩⟩
def mP1 (m : M D) : M (Option Int) := fun σ S => match m σ S with
  | .ok (.int i) S1 => .ok (some i) S1
  | _ => .bad
def mP0 : M (Option Int) := fun _ S => .ok none S
theorem pox_some (h : AE K N W X a ma) : POx K N X (some a) (mP1 ma) := ⟨⟨tPart (teX K N W ma), po_some h, fun ι σa σ S H Q hs R g => by
  refine ⟨ι, σa, S, hs, R, ?_⟩
  unfold mP1 at g
  cases e : ma σa S with
  | ok d S1 =>
    rw [e] at g
    intro ι' H' v f R' r
    cases d with
    | int i => exact ⟨i, r, g ι' H' f R'⟩
    | _ => exact g.elim
  | ex C S1 => rw [e] at g; exact g.elim
  | bad => rw [e] at g; exact g.elim⟩⟩
abbrev OpSl := D → Option Int → Option Int → Sto → Option (D × Sto)
def eSl (f : OpSl) (m : M D) (l u : M (Option Int)) : M D := eBind m fun d σ S => match l σ S with
  | .ok lo S1 => match u σ S1 with
    | .ok hi S2 => ofO (f d lo hi S2)
    | _ => .bad
  | _ => .bad
def SlOk (K : PySem.W.Frag) (N : Nms) (r : V → Option Int → Option Int → Hp → VK → Prop) (f : OpSl) : Prop := ∀ ι H S x v lo hi Q, Rep K N ι H S → RepV K ι H x v → goodO K N (f x lo hi S) ι H Q → r v lo hi H Q
theorem ae_slice {r : V → Option Int → Option Int → Hp → VK → Prop} {f : OpSl} {e : Expr} {m : M D} {l u : M (Option Int)} {lo hi : Option Expr} {p2 : Pos} (hr : SlR X r) (hf : SlOk K N r f) (he : AE K N W X e m) (hl : POx K N X lo l) (hu : POx K N X hi u) :
    AE K N W X (.Subscript e (.Slice lo hi none p2) pos) (eSl f m l u) := by
  refine Dw.Qt.un ?_
  simp (disch := (with_unfolding_all
    (obtain ⟨t1, p1, q1⟩ := hl.ex
     obtain ⟨t2, p3, q2⟩ := hu.ex
     refine PE.imp (pe_slice hr he p1 p3) fun σ H Q ⟨ι, σa, S, hs, R, g⟩ => bindEE hs R g fun ι1 H1 v d S1 f1 hs1 R1 r1 g1 => ?_
     refine q1 ι1 σa σ S1 H1 _ hs1 R1 ?_
     cases e1 : l σa S1 with
     | ok lo S2 =>
       rw [e1] at g1
       intro ι2 H2 f2 R2
       refine q2 ι2 σa σ S2 H2 _ (hs1.fut f2) R2 ?_
       cases e2 : u σa S2 with
       | ok hi S3 =>
         simp only [e2] at g1
         exact fun ι3 H3 f3 R3 => hf ι3 H3 S3 d v lo hi Q R3 ((r1.fut f2).fut f3) (goodO.of (goodE.fut (r := ofO (f d lo hi S3)) g1 (f2.trans f3)))
       | ex C S3 => simp only [e2] at g1; exact g1.elim
       | bad => simp only [e2] at g1; exact g1.elim
     | ex C S2 => rw [e1] at g1; exact g1.elim
     | bad => rw [e1] at g1; exact g1.elim))) only [↓Dw.Qt.tt]
def cutD (xs : List D) (lo hi : Option Int) : List D := (xs.drop (HT.sIx xs.length 0 lo)).take (HT.sIx xs.length xs.length hi - HT.sIx xs.length 0 lo)
noncomputable def dSlS : OpSl := fun x lo hi S => match x with
  | .str z => gd (z.length ≤ sizeLine) (some (.str (cutS z lo hi), S))
  | _ => none
noncomputable def dSlL : OpSl := fun x lo hi S => (listAt S x).map fun p => (.ref S.length, S ++ [.lst (cutD p.2 lo hi)])
theorem k_slS : SlOk K N rSlS dSlS := fun ι H S x v lo hi Q R rx g => by
  cases x with
  | str z =>
    unfold dSlS at g
    simp only at g
    cases e : gd (z.length ≤ sizeLine) (some (D.str (cutS z lo hi), S)) with
    | none => rw [e] at g; exact g.elim
    | some p =>
      obtain ⟨h1, h2⟩ := gd_some e
      rw [e, ← h2] at g
      exact ⟨z, rx, h1, goodO.at g R rfl⟩
  | _ => exact g.elim
theorem RepL.cut {ds : List D} {xs : List V} (rl : RepL K ι H ds xs) (lo hi : Option Int) : RepL K ι H (cutD ds lo hi) (cutV xs lo hi) := by
  unfold cutD cutV
  rw [rl.length]
  exact (rl.drop _).take _
theorem k_slL : SlOk K N (rSlL K) dSlL := fun ι H S x v lo hi Q R rx g => by
  unfold dSlL at g
  cases e1 : listAt S x with
  | none => rw [e1] at g; exact g.elim
  | some p =>
    rw [e1] at g
    obtain ⟨_, _, a, xs, _, rfl, qa, rl⟩ := listAt_ok R rx e1
    exact ⟨a, xs, rfl, SqL.of qa, fun p hp => goodO.newL g R (rl.cut lo hi) hp⟩
abbrev OpN := List D → Sto → Option (D × Sto)
def eN (f : OpN) (m : M (List D)) : M D := eBind m fun ds _ S => ofO (f ds S)
def RNok (K : PySem.W.Frag) (N : Nms) (r : List V → Hp → VK → Prop) (f : OpN) : Prop := ∀ ι H S ds vs Q, Rep K N ι H S → RepL K ι H ds vs → goodO K N (f ds S) ι H Q → r vs H Q
theorem te_cb {r : List V → Hp → VK → Prop} {f : OpN} (hr : RNok K N r f) {m : M (List D)} {Q : VK} (h : teX K N W (eN f m) σ H Q) : tCB r (taX K N W m) σ H Q := by
  obtain ⟨ι, σa, S, hs, R, g⟩ := h
  exact bindLE hs R g fun ι1 H1 vs ds S1 f1 hs1 R1 r1 g1 => hr ι1 H1 S1 ds vs Q R1 r1 (goodO.of g1)
theorem RN.one {r : List V → Hp → VK → Prop} {f : OpN} {g : Op1} (hf : ∀ ds S, f ds S = match ds with
    | [d] => g d S
    | _ => none) (h : ∀ ι H S d v Q, Rep K N ι H S → RepV K ι H d v → goodO K N (g d S) ι H Q → r [v] H Q) : RNok K N r f := fun ι H S ds vs Q R rl gg => by
  rw [hf] at gg
  match ds, rl, gg with
  | [], rl, gg => exact gg.elim
  | [d], rl, gg =>
    obtain ⟨x, r', rfl, rx, rr⟩ := rl
    rw [show r' = [] from rr]
    exact h ι H S d x Q R rx gg
  | _ :: _ :: _, rl, gg => exact gg.elim
def f1 (g : Op1) : OpN := fun ds S => match ds with
  | [d] => g d S
  | _ => none
def f2 (g : Op2) : OpN := fun ds S => match ds with
  | [d, e] => g d e S
  | _ => none
theorem RN.two {r : List V → Hp → VK → Prop} {g : Op2} (h : ∀ ι H S d e v u Q, Rep K N ι H S → RepV K ι H d v → RepV K ι H e u → goodO K N (g d e S) ι H Q → r [v, u] H Q) : RNok K N r (f2 g) := fun ι H S ds vs Q R rl gg => by
  match ds, rl, gg with
  | [], rl, gg => exact gg.elim
  | [d], rl, gg => exact gg.elim
  | [d, e], rl, gg =>
    obtain ⟨x, r', rfl, rx, y, r2, rfl, ry, rr⟩ := rl
    rw [show r2 = [] from rr]
    exact h ι H S d e x y Q R rx ry gg
  | _ :: _ :: _ :: _, rl, gg => exact gg.elim
noncomputable def dLenS : Op1 := fun d S => match d with
  | .str z => gd (z.length ≤ sizeLine) (some (.int z.length, S))
  | _ => none
def dLenQ : Op1 := fun d S => (seqOf d S).map fun ds => (.int (ds.length : Nat), S)
theorem k_lenS : RNok K N zLenS (f1 dLenS) := RN.one (fun _ _ => rfl) fun ι H S d v Q R rx g => by
  cases d with
  | str z =>
    unfold dLenS at g
    simp only at g
    cases e : gd (z.length ≤ sizeLine) (some (D.int z.length, S)) with
    | none => rw [e] at g; exact g.elim
    | some p =>
      obtain ⟨h1, h2⟩ := gd_some e
      rw [e, ← h2] at g
      rw [show v = V.str z from rx]
      exact ⟨z, rfl, h1, goodO.at g R rfl⟩
  | _ => exact g.elim
theorem k_lenQ : RNok K N (zLenQ K) (f1 dLenQ) := RN.one (fun _ _ => rfl) fun ι H S d v Q R rx g => by
  unfold dLenQ at g
  cases e : seqOf d S with
  | none => rw [e] at g; exact g.elim
  | some ds =>
    rw [e] at g
    obtain ⟨p, xs, rfl, hq, rl⟩ := seqOf_ok R rx e
    exact ⟨p, xs, rfl, hq, by rw [rl.length]; exact goodO.at g R rfl⟩
def dInt : Op1 := fun d S => match d with
  | .int i => some (.int i, S)
  | .bl b => some (.int (if b then 1 else 0), S)
  | _ => none
theorem q_int : RNok K N zInt (f1 dInt) := RN.one (fun _ _ => rfl) fun ι H S d v Q R rx g => by
  cases d with
  | int i => rw [show v = V.int i from rx]; exact .inl ⟨i, rfl, goodO.at g R rfl⟩
  | bl b => rw [show v = V.bl b from rx]; exact .inr ⟨b, rfl, goodO.at g R rfl⟩
  | _ => exact g.elim
/-- tuple(list) -/
def dTupL : Op1 := fun d S => (listAt S d).map fun p => (.tup p.2, S)
theorem k_tup : RNok K N (zTup K) (f1 dTupL) := RN.one (fun _ _ => rfl) fun ι H S d v Q R rx g => by
  unfold dTupL at g
  cases e1 : listAt S d with
  | none => rw [e1] at g; exact g.elim
  | some p =>
    rw [e1] at g
    obtain ⟨_, _, a, xs, _, rfl, qa, rl⟩ := listAt_ok R rx e1
    exact ⟨a, xs, rfl, SqL.of qa, fun l o hl ho => goodO.newT g R rl hl ho⟩
/-- list(list or tuple) -/
def dListOf : Op1 := fun d S => (seqOf d S).map fun ds => (.ref S.length, S ++ [.lst ds])
theorem k_listOf : RNok K N (zListOf K) (f1 dListOf) := RN.one (fun _ _ => rfl) fun ι H S d v Q R rx g => by
  unfold dListOf at g
  cases e1 : seqOf d S with
  | none => rw [e1] at g; exact g.elim
  | some ds =>
    rw [e1] at g
    obtain ⟨p, xs, rfl, hq, rl⟩ := seqOf_ok R rx e1
    exact ⟨p, xs, rfl, hq, fun l hl => goodO.newL g R rl hl⟩
def dMin2 : Op2 := dI0 fun i j => .int (if j < i then j else i)
def dMax2 : Op2 := dI0 fun i j => .int (if j > i then j else i)
theorem k_min2 : RNok K N zMin2 (f2 dMin2) := RN.two fun ι H S d e v u Q R rx ry g => by
  cases d with
  | int i =>
    cases e with
    | int j => rw [show v = V.int i from rx, show u = V.int j from ry]; exact ⟨i, j, rfl, goodO.at g R rfl⟩
    | _ => exact g.elim
  | _ => exact g.elim
theorem k_max2 : RNok K N zMax2 (f2 dMax2) := RN.two fun ι H S d e v u Q R rx ry g => by
  cases d with
  | int i =>
    cases e with
    | int j => rw [show v = V.int i from rx, show u = V.int j from ry]; exact ⟨i, j, rfl, goodO.at g R rfl⟩
    | _ => exact g.elim
  | _ => exact g.elim
def eM1 (f : Op2) (mo me : M D) : M D := eBind mo fun o => match o with
  | .str x => eBind me fun y _ S => ofO (f (.str x) y S)
  | _ => fun _ _ => .bad
def RMok (K : PySem.W.Frag) (N : Nms) (r : V → List V → Hp → VK → Prop) (f : Op2) : Prop := ∀ ι H S x d v u Q, Rep K N ι H S → RepV K ι H x v → RepV K ι H d u → goodO K N (f x d S) ι H Q → r v [u] H Q
theorem te_m1 {r : V → List V → Hp → VK → Prop} {f : Op2} (hr : RMok K N r f) {Q : VK} (h : teX K N W (eM1 f ma mb) σ H Q) : tM1 r (teX K N W ma) (teX K N W mb) σ H Q := by
  obtain ⟨ι, σa, S, hs, R, g⟩ := h
  refine bindEE hs R g fun ι1 H1 v d S1 f1 hs1 R1 r1 g1 => ?_
  cases d with
  | str x => exact ⟨⟨x, r1⟩, bindEE hs1 R1 g1 fun ι2 H2 u e S2 f2 hs2 R2 r2 g2 => hr ι2 H2 S2 (.str x) e v u Q R2 (r1.fut f2) r2 (goodO.of g2)⟩
  | _ => exact g1.elim
theorem ae_m1 {id : String} {name : Str} {apos : Pos} {r : V → List V → Hp → VK → Prop} {f : Op2} (slot : Slot "str" name id) (ty : typeOf (.builtin id) = pure (.type "method_descriptor")) (rule : MtR X id r) (hr : RMok K N r f) (ho : AE K N W X a ma) (he : AE K N W X b mb)
    (hs : starEach [b] X.env = [(false, eval b X.env)] := by rfl) (hbase : attributeBase a name X.env (eval a X.env) = eval a X.env := by rfl) (hline : (apos.endLine == pos.line) = true := by rfl) :
    AE K N W X (.Call (.Attribute a name apos) [b] [] pos) (eM1 f ma mb) := PE.imp (pe_m1 slot ty rule ho he hs hbase hline) fun σ H Q h => te_m1 hr h
def strsOf : List D → Option (List Str)
  | [] => some []
  | .str x :: ds => (strsOf ds).map fun xs => x :: xs
  | _ :: _ => none
theorem strsOf_ok : ∀ {ds : List D} {vs : List V} {xs : List Str}, RepL K ι H ds vs → strsOf ds = some xs → vs = xs.map V.str
  | [], vs, xs, r, e => by cases e; exact r
  | d :: ds, vs, xs, r, e => by
    obtain ⟨v, r', rfl, rx, rr⟩ := r
    cases d with
    | str x =>
      unfold strsOf at e
      cases e2 : strsOf ds with
      | none => rw [e2] at e; cases e
      | some ys =>
        rw [e2] at e
        cases e
        rw [strsOf_ok rr e2, show v = V.str x from rx]
        rfl
    | _ => cases e
noncomputable def dJoin : Op2 := fun x y S => match x with
  | .str a => (seqOf y S).bind fun ds => (strsOf ds).bind fun ys => gd ((ys.map (·.length)).sum + ys.length * a.length ≤ 16777216) (some (.str (Txt.join a ys), S))
  | _ => none
theorem k_join : RMok K N (zJoin K) dJoin := fun ι H S x d v u Q R rx ry g => by
  refine Dw.Qt.un ?_
  simp (disch := (with_unfolding_all
    (cases x with
     | str a =>
       unfold dJoin at g
       simp only at g
       cases e1 : seqOf d S with
       | none => rw [e1] at g; exact g.elim
       | some ds =>
         cases e2 : strsOf ds with
         | none => simp only [e1, e2, Option.bind_some, Option.bind_none] at g; exact g.elim
         | some ys =>
           simp only [e1, e2, Option.bind_some] at g
           cases e : gd ((ys.map (·.length)).sum + ys.length * a.length ≤ 16777216) (some (D.str (Txt.join a ys), S)) with
           | none => rw [e] at g; exact g.elim
           | some p =>
             obtain ⟨h1, h2⟩ := gd_some e
             rw [e, ← h2] at g
             obtain ⟨p, xs, rfl, hq, rl⟩ := seqOf_ok R ry e1
             rw [strsOf_ok rl e2] at hq
             exact ⟨a, p, ys, rx, rfl, hq, h1, goodO.at g R rfl⟩
     | _ => exact g.elim))) only [↓Dw.Qt.tt]
abbrev OpM := D → List D → Sto → Option (D × Sto)
def eBM (f : OpM) (mo : M D) (m : M (List D)) : M D := eBind mo fun o σ S => match listAt S o with
  | some _ => (eBind m fun ds _ S1 => ofO (f o ds S1)) σ S
  | none => .bad
def BMok (K : PySem.W.Frag) (N : Nms) (r : V → List V → Hp → VK → Prop) (f : OpM) : Prop := ∀ ι H S x ds v us Q, Rep K N ι H S → RepV K ι H x v → RepL K ι H ds us → goodO K N (f x ds S) ι H Q → r v us H Q
theorem te_bm {r : V → List V → Hp → VK → Prop} {f : OpM} (hr : BMok K N r f) {m : M (List D)} {Q : VK} (h : teX K N W (eBM f ma m) σ H Q) : tBM K "list" r (teX K N W ma) (taX K N W m) σ H Q := by
  obtain ⟨ι, σa, S, hs, R, g⟩ := h
  refine bindEE hs R g fun ι1 H1 v d S1 f1 hs1 R1 r1 g1 => ?_
  cases e : listAt S1 d with
  | none => simp only [e] at g1; exact g1.elim
  | some p =>
    simp only [e] at g1
    obtain ⟨_, _, a, xs, _, rfl, qa, rl⟩ := listAt_ok R1 r1 e
    exact ⟨.inl ⟨rfl, _, SqL.of qa⟩, bindLE hs1 R1 g1 fun ι2 H2 us ds S2 f2 hs2 R2 r2 g2 => hr ι2 H2 S2 d ds _ us Q R2 (r1.fut f2) r2 (goodO.of g2)⟩
theorem ae_bmP {e : Expr} {r : V → List V → Hp → VK → Prop} {f : OpM} {m : M (List D)} (hr : BMok K N r f) (hp : PE X e (tBM X.K "list" r (teX K N W ma) (taX K N W m))) (hK : X.K = K := by rfl) : AE K N W X e (eBM f ma m) := by
  subst hK
  exact PE.imp hp fun σ H Q h => te_bm hr h
theorem ae_bmP0 {e : Expr} {r : V → List V → Hp → VK → Prop} {f : OpM} (hr : BMok K N r f) (hp : PE X e (tBM0 X.K "list" r (teX K N W ma))) (hK : X.K = K := by rfl) : AE K N W X e (eBM f ma aNil) := by
  subst hK
  refine PE.imp hp fun σ H Q h => ?_
  obtain ⟨ι, σa, S, hs, R, g⟩ := h
  refine bindEE hs R g fun ι1 H1 v d S1 f1 hs1 R1 r1 g1 => ?_
  cases e : listAt S1 d with
  | none => simp only [e] at g1; exact g1.elim
  | some p =>
    simp only [e] at g1
    obtain ⟨_, _, a, xs, _, rfl, qa, rl⟩ := listAt_ok R1 r1 e
    exact ⟨.inl ⟨rfl, _, SqL.of qa⟩, hr ι1 H1 S1 d [] _ [] Q R1 r1 RepL.nil (goodO.of g1)⟩
noncomputable def dAppend : OpM := fun o ds S => match ds with
  | [d] => (listAt S o).bind fun p => gd (p.2.length < sizeLine) (some (.non, S.set p.1 (.lst (p.2 ++ [d]))))
  | _ => none
theorem goodO.put {n : Nat} {ob : O} {Q : VK} {a : Addr} {o : HO} (g : goodO K N (some (.non, S.set n ob)) ι H Q) (R : Rep K N ι H S) (ea : ι[n]? = some a) (h : ∀ H', H' = upd H a o → Fut K ι H ι H' → RepO K N ι H' a ob) (hfr : ∀ b x, H a ≠ some (.frz b x) := by refine fr_ne (by assumption) ?_; rfl) : Q .non (upd H a o) :=
  let P := R.put ea h hfr; g ι _ .non P.2 P.1 rfl
theorem k_append : BMok K N rAppend dAppend := fun ι H S x ds v us Q R rx rl g => by
  refine Dw.Qt.un ?_
  simp (disch := (with_unfolding_all
    (match ds, rl, g with
     | [], rl, g => exact g.elim
     | [d], rl, g =>
       obtain ⟨y, r', rfl, ry, rr⟩ := rl
       rw [show r' = [] from rr]
       unfold dAppend at g
       simp only at g
       cases e1 : listAt S x with
       | none => rw [e1] at g; exact g.elim
       | some p =>
         simp only [e1, Option.bind_some] at g
         cases e : gd (p.2.length < sizeLine) (some (D.non, S.set p.1 (.lst (p.2 ++ [d])))) with
         | none => rw [e] at g; exact g.elim
         | some z =>
           obtain ⟨h1, h2⟩ := gd_some e
           rw [e, ← h2] at g
           obtain ⟨_, _, a, xs, ia, rfl, qa, rl2⟩ := listAt_ok R rx e1
           refine ⟨a, xs, y, rfl, rfl, qa, by rw [rl2.length]; exact h1, ?_⟩
           exact goodO.put g R ia fun H' eH fu => ⟨xs ++ [y], by rw [eH, upd_same], (rl2.fut fu).append (RepL.cons (ry.fut fu) RepL.nil)⟩
     | _ :: _ :: _, rl, g => exact g.elim))) only [↓Dw.Qt.tt]
noncomputable def dExtend : OpM := fun o ds S => match ds with
  | [d] => (listAt S o).bind fun p => (listAt S d).bind fun q => gd (p.2.length + q.2.length ≤ sizeLine) (some (.non, S.set p.1 (.lst (p.2 ++ q.2))))
  | _ => none
theorem k_extend : BMok K N rExtend dExtend := fun ι H S x ds v us Q R rx rl g => by
  refine Dw.Qt.un ?_
  simp (disch := (with_unfolding_all
    (match ds, rl, g with
     | [], rl, g => exact g.elim
     | [d], rl, g =>
       obtain ⟨y, r', rfl, ry, rr⟩ := rl
       rw [show r' = [] from rr]
       unfold dExtend at g
       simp only at g
       cases e1 : listAt S x with
       | none => rw [e1] at g; exact g.elim
       | some p =>
         cases e2 : listAt S d with
         | none => simp only [e1, e2, Option.bind_some, Option.bind_none] at g; exact g.elim
         | some q =>
           simp only [e1, e2, Option.bind_some] at g
           cases e : gd (p.2.length + q.2.length ≤ sizeLine) (some (D.non, S.set p.1 (.lst (p.2 ++ q.2)))) with
           | none => rw [e] at g; exact g.elim
           | some z =>
             obtain ⟨h1, h2⟩ := gd_some e
             rw [e, ← h2] at g
             obtain ⟨_, _, a, xs, ia, rfl, qa, rl2⟩ := listAt_ok R rx e1
             obtain ⟨_, _, b, ys, ib, rfl, qb, sl2⟩ := listAt_ok R ry e2
             refine ⟨a, b, xs, ys, rfl, rfl, qa, qb, by rw [rl2.length, sl2.length]; exact h1, ?_⟩
             exact goodO.put g R ia fun H' eH fu => ⟨xs ++ ys, by rw [eH, upd_same], (rl2.fut fu).append (sl2.fut fu)⟩
     | _ :: _ :: _, rl, g => exact g.elim))) only [↓Dw.Qt.tt]
def dClear : OpM := fun o ds S => match ds with
  | [] => (listAt S o).map fun p => (.non, S.set p.1 (.lst []))
  | _ => none
theorem k_clear : BMok K N rClear dClear := fun ι H S x ds v us Q R rx rl g => by
  match ds, rl, g with
  | [], rl, g =>
    unfold dClear at g
    simp only at g
    cases e1 : listAt S x with
    | none => rw [e1] at g; exact g.elim
    | some p =>
      rw [e1] at g
      obtain ⟨_, _, a, xs, ia, rfl, qa, rl2⟩ := listAt_ok R rx e1
      refine ⟨a, xs, rfl, rl, qa, ?_⟩
      exact goodO.put g R ia fun H' eH fu => ⟨[], by rw [eH, upd_same], RepL.nil⟩
  | _ :: _, rl, g => exact g.elim
/-- l[i] = x -/
def dSetL : OpS := fun o i v S => match i with
  | .int k => (listAt S o).bind fun p => (ixN p.2.length k).map fun j => S.set p.1 (.lst (p.2.set j v))
  | _ => none
theorem k_setL : SetOk K N rSetL dSetL := fun ι H S o i d vo vi v Q R ro ri rd ⟨S', e, q⟩ => by
  refine Dw.Qt.un ?_
  simp (disch := (with_unfolding_all
    (cases i with
     | int k =>
       unfold dSetL at e
       simp only at e
       cases e1 : listAt S o with
       | none => rw [e1] at e; cases e
       | some p =>
         simp only [e1, Option.bind_some] at e
         cases e2 : ixN p.2.length k with
         | none => rw [e2] at e; cases e
         | some j =>
           rw [e2] at e
           cases e
           obtain ⟨_, _, a, xs, ia, rfl, qa, rl2⟩ := listAt_ok R ro e1
           refine ⟨a, xs, k, j, rfl, ri, qa, by rw [rl2.length]; exact e2, ?_⟩
           have P := R.put (o := .lst (xs.set j v)) (ob := .lst (p.2.set j d)) ia fun H' eH fu => ⟨xs.set j v, by rw [eH, upd_same], (rl2.fut fu).set (rd.fut fu)⟩
           exact q ι _ P.2 P.1
     | _ => cases e))) only [↓Dw.Qt.tt]
end
def allPy (f : D → Option PyData) : List D → Option (List PyData)
  | [] => some []
  | d :: ds => (f d).bind fun p => (allPy f ds).map fun ps => p :: ps
def toPy (S : Sto) : Nat → D → Option PyData
  | 0, _ => none
  | n + 1, d => match d with
    | .non => some .none
    | .bl b => some (.bool b)
    | .int i => some (.int i)
    | .str x => some (.str x)
    | .tup ds => (allPy (toPy S n) ds).map .tuple
    | .ref k => match S[k]? with
      | some (.lst ds) => (allPy (toPy S n) ds).map .list
      | _ => none
    | .ty _ => none
    | .scr _ => none
noncomputable def dEqv (x y : D) (S : Sto) : Option Bool := (toPy S 70 x).bind fun p => (toPy S 70 y).bind fun q => gd (SeqAt.shaped p = true ∧ SeqAt.shaped q = true) (some (PyData.eqv p q))
noncomputable def dNeD : Op2 := fun x y S => (dEqv x y S).map fun b => (.bl (!b), S)
section
variable {K : PySem.W.Frag} {N : Nms} {W : WX} {ι ι' : List Addr} {H H' : Hp} {σ : L2.St} {σa : Sl} {S : Sto} {X : Cx}
theorem allPy_ok {f : D → Option PyData} (hf : ∀ d v p, RepV K ι H d v → f d = some p → Dp K H v p) : ∀ {ds : List D} {vs : List V} {ps : List PyData}, RepL K ι H ds vs → allPy f ds = some ps → DpAll K H vs ps
  | [], vs, ps, r, e => by cases e; rw [show vs = [] from r]; exact .nil
  | d :: ds, vs, ps, r, e => by
    obtain ⟨v, r', rfl, rv, rr⟩ := r
    unfold allPy at e
    cases e1 : f d with
    | none => rw [e1] at e; cases e
    | some p =>
      cases e2 : allPy f ds with
      | none => rw [e1, e2] at e; cases e
      | some qs =>
        rw [e1, e2] at e
        cases e
        exact .cons (hf d v p rv e1) (allPy_ok hf rr e2)
theorem toPy_ok (R : Rep K N ι H S) : ∀ (n : Nat) (d : D) (v : V) (p : PyData), RepV K ι H d v → toPy S n d = some p → Dp K H v p
  | 0, _, _, _, _, e => by cases e
  | n + 1, d, v, p, r, e => by
    cases d with
    | non => cases e; rw [show v = V.non from r]; exact .non
    | bl b => cases e; rw [show v = V.bl b from r]; exact .bl b
    | int i => cases e; rw [show v = V.int i from r]; exact .int i
    | str x => cases e; rw [show v = V.str x from r]; exact .str x
    | tup ds =>
      unfold toPy at e
      simp only at e
      cases e1 : allPy (toPy S n) ds with
      | none => rw [e1] at e; cases e
      | some ps =>
        rw [e1] at e
        cases e
        obtain ⟨a, xs, rfl, t, rl⟩ := r
        exact .tup t.seq (allPy_ok (fun d v p r e => toPy_ok R n d v p r e) rl e1)
    | ref k =>
      unfold toPy at e
      simp only at e
      cases es : S[k]? with
      | none => rw [es] at e; cases e
      | some o =>
        rw [es] at e
        cases o with
        | lst ds =>
          simp only at e
          cases e1 : allPy (toPy S n) ds with
          | none => rw [e1] at e; cases e
          | some ps =>
            rw [e1] at e
            cases e
            obtain ⟨a, xs, ia, q, rl⟩ := R.list es
            obtain ⟨b, ib, rfl⟩ := r
            rw [ia] at ib
            cases ib
            exact .lst (SqL.of q) (allPy_ok (fun d v p r e => toPy_ok R n d v p r e) rl e1)
        | _ => cases e
    | ty _ => cases e
    | scr _ => cases e
theorem dEqv_ok {x y : D} {v u : V} {b : Bool} (R : Rep K N ι H S) (rx : RepV K ι H x v) (ry : RepV K ι H y u) (e : dEqv x y S = some b) : ∃ d e, Dp K H v d ∧ Dp K H u e ∧ SeqAt.shaped d = true ∧ SeqAt.shaped e = true ∧ PyData.eqv d e = b := by
  unfold dEqv at e
  cases e1 : toPy S 70 x with
  | none => rw [e1] at e; cases e
  | some p =>
    cases e2 : toPy S 70 y with
    | none => rw [e1, e2] at e; cases e
    | some q =>
      simp only [e1, e2, Option.bind_some] at e
      obtain ⟨⟨h1, h2⟩, h3⟩ := gd_some e
      exact ⟨p, q, toPy_ok R _ _ _ _ rx e1, toPy_ok R _ _ _ _ ry e2, h1, h2, by cases h3; rfl⟩
theorem k_neD : R2ok K N (rNeD K) dNeD := fun ι H S x y v u Q R rx ry g => by
  unfold dNeD at g
  cases e : dEqv x y S with
  | none => rw [e] at g; exact g.elim
  | some b =>
    rw [e] at g
    obtain ⟨p, q, h1, h2, h3, h4, h5⟩ := dEqv_ok R rx ry e
    exact ⟨p, q, h1, h2, h3, h4, by rw [h5]; exact goodO.at g R rfl⟩
def tyN (d : D) (S : Sto) : Option String := match d with
  | .non => some "NoneType"
  | .bl _ => some "bool"
  | .int _ => some "int"
  | .str _ => some "str"
  | .tup _ => some "tuple"
  | .ref n => match S[n]? with
    | some (.lst _) => some "list"
    | some (.dK _) => some "dict"
    | _ => none
  | .ty _ => none
  | .scr _ => none
theorem tyN_ok {d : D} {v : V} {t : String} (R : Rep K N ι H S) (r : RepV K ι H d v) (e : tyN d S = some t) : TyX K H v (.type t) := by
  refine Dw.Qt.un ?_
  simp (disch := (with_unfolding_all
    (cases d with
     | non => cases e; rw [show v = V.non from r]; exact .base .non
     | bl b => cases e; rw [show v = V.bl b from r]; exact .base (.bl b)
     | int i => cases e; rw [show v = V.int i from r]; exact .base (.int i)
     | str x => cases e; rw [show v = V.str x from r]; exact .base (.str x)
     | tup ds =>
       cases e
       obtain ⟨a, xs, rfl, t, _⟩ := r
       rcases t with ⟨o, _, e⟩ | ⟨o, its, n, e, _, c, _⟩
       · exact .fTuple e
       · exact .kTuple e c
     | ref n =>
       unfold tyN at e
       simp only at e
       cases es : S[n]? with
       | none => rw [es] at e; cases e
       | some o =>
         rw [es] at e
         obtain ⟨a, ea, ro⟩ := R.ob n o es
         obtain ⟨b, eb, rfl⟩ := r
         rw [ea] at eb
         cases eb
         cases o with
         | lst ds =>
           cases e
           obtain ⟨xs, q, _⟩ := ro
           exact .base (.lst q)
         | dK kvs =>
           cases e
           obtain ⟨us, q, _⟩ := ro
           exact .base (.dK q)
         | _ => cases e
     | ty _ => cases e
     | scr _ => cases e))) only [↓Dw.Qt.tt]
def dIsi : Op2 := fun x y S => match y with
  | .ty b => (tyN x S).bind fun a => (kitB a b).map fun r => (.bl r, S)
  | _ => none
theorem k_isi : RNok K N (rIsi K) (f2 dIsi) := RN.two fun ι H S d e v u Q R rx ry g => by
  cases e with
  | ty b =>
    unfold dIsi at g
    simp only at g
    cases e1 : tyN d S with
    | none => rw [e1] at g; exact g.elim
    | some a =>
      cases e2 : kitB a b with
      | none => simp only [e1, e2, Option.bind_some, Option.map_none] at g; exact g.elim
      | some r =>
        simp only [e1, e2, Option.bind_some, Option.map_some] at g
        rw [show u = V.ty b from ry]
        exact rd_isi (tyN_ok R rx e1) e2 (goodO.at g R rfl)
  | _ => exact g.elim
noncomputable def dStr : Op1 := fun d S => match d with
  | .int i => gd (i.natAbs.log2 < 1920) (some (.str (toString i), S))
  | _ => none
theorem k_strI : RNok K N zStrI (f1 dStr) := RN.one (fun _ _ => rfl) fun ι H S d v Q R rx g => by
  cases d with
  | int i =>
    unfold dStr at g
    simp only at g
    cases e : gd (i.natAbs.log2 < 1920) (some (D.str (toString i), S)) with
    | none => rw [e] at g; exact g.elim
    | some p =>
      obtain ⟨h1, h2⟩ := gd_some e
      rw [e, ← h2] at g
      rw [show v = V.int i from rx]
      exact ⟨i, rfl, h1, goodO.at g R rfl⟩
  | _ => exact g.elim
variable {a b c : Expr} {ma mb mc : M D} {pos : Pos}
open Classical in
noncomputable def jsA : List (M D) → Str → M D
  | [], acc => fun _ S => .ok (.str acc) S
  | m :: ms, acc => eBind m fun d => match d with
    | .str y => fun σ S => if (acc ++ y).length ≤ sizeLine then jsA ms (acc ++ y) σ S else .bad
    | _ => fun _ _ => .bad
def intsOfD : List D → Option (List Int)
  | [] => some []
  | .int b :: ds => (intsOfD ds).map fun bs => b :: bs
  | _ :: _ => none
theorem intsOfD_ok : ∀ {ds : List D} {vs : List V} {bs : List Int}, RepL K ι H ds vs → intsOfD ds = some bs → vs = bs.map V.int
  | [], vs, xs, r, e => by cases e; exact r
  | d :: ds, vs, xs, r, e => by
    obtain ⟨v, r', rfl, rx, rr⟩ := r
    cases d with
    | int x =>
      unfold intsOfD at e
      cases e2 : intsOfD ds with
      | none => rw [e2] at e; cases e
      | some ys =>
        rw [e2] at e
        cases e
        rw [intsOfD_ok rr e2, show v = V.int x from rx]
        rfl
    | _ => cases e
end
section
variable {K : PySem.W.Frag} {N : Nms} {W : WX} {ι ι' : List Addr} {H H' : Hp} {σ : L2.St} {σa : Sl} {S : Sto} {X : Cx}
theorem ae_cb {r : List V → Hp → VK → Prop} {f : OpN} {m : M (List D)} {e : Expr} (hr : RNok K N r f) (hp : PE X e (tCB r (taX K N W m))) : AE K N W X e (eN f m) := PE.imp hp fun σ H Q h => te_cb hr h
end
section
variable {P : Program} {w : World} {K : PySem.W.Frag} {N : Nms} {mg : Str → Option Value} {base : Heap} {k : Nat} {x : Str} {st : Stmt} {ps Ns : List Str} {f : Addr} {fd : FuncData}
theorem okF0 {c : Sm} {np n : Nat} (F : Fun K x x st f fd) (Sc : FnScope Ns ps (defScope st)) (hp : ps.length = np) (hn : Ns.length = n)
    (hb : ∀ (f : Addr) (cdv : Value) (A : Around) (outer : List Env) (s : Shared) (H : Hp) (E : XK), Room k (A.deeper (envOfC x (defScope st) s.heap.objs.size f cdv)) →
      ASs K N noW (cxOf CX0 P w K mg base Ns x (defScope st) f cdv A outer s H E).nox (defBody st) c) : FnOk P w K mg base CX0 (k + 1) f fd ps (spA K N (fn0 np n c)) :=
  ok_F F Sc (fun vs H Q E h => by rw [hp]; exact spA_len0 h) fun cdv A outer s H vs Q E hr h => ⟨_, hb f cdv A outer s H E hr, enter0 hn h⟩
end
def kOf : D → Option Key
  | .int i => some (.inl i)
  | .str x => some (.inr x)
  | _ => none
section
variable {κ : Type} [DecidableEq κ]
def putD (kvs : List (κ × D)) (k : κ) (v : D) : List (κ × D) :=
  if (kvs.any fun kv => decide (kv.1 = k)) = true then kvs.map (fun kv => if kv.1 = k then (kv.1, v) else kv) else kvs ++ [(k, v)]
def dropD (kvs : List (κ × D)) (k : κ) : List (κ × D) := kvs.filter fun kv => decide (kv.1 ≠ k)
end
/-- to be read only: a locked dict, too -/
def dictRd (S : Sto) (d : D) : Option (Nat × List (Key × D)) := match d with
  | .ref n => match S[n]? with
    | some (.dK kvs) => some (n, kvs)
    | some (.lkK kvs) => some (n, kvs)
    | _ => none
  | _ => none
section
variable {K : PySem.W.Frag} {N : Nms} {W : WX} {ι ι' : List Addr} {H H' : Hp} {σ : L2.St} {σa : Sl} {S : Sto} {X : Cx}
theorem RepK.nil : RepK K ι H [] [] := ⟨rfl, rfl⟩
theorem RepK.cons {k : Key} {d : D} {v : V} {kvs : List (Key × D)} {us : List (Key × V)} (r : RepV K ι H d v) (h : RepK K ι H kvs us) : RepK K ι H ((k, d) :: kvs) ((k, v) :: us) := ⟨congrArg (k :: ·) h.1, RepL.cons r h.2⟩
theorem RepK.inv {k : Key} {d : D} {kvs : List (Key × D)} {us : List (Key × V)} (h : RepK K ι H ((k, d) :: kvs) us) : ∃ v ws, us = (k, v) :: ws ∧ RepV K ι H d v ∧ RepK K ι H kvs ws := by
  obtain ⟨h1, x, r, e, rx, rr⟩ := h
  cases us with
  | nil => cases h1
  | cons u ws =>
    obtain ⟨k', v⟩ := u
    simp only [List.map_cons, List.cons.injEq] at h1 e
    obtain ⟨rfl, h1⟩ := h1
    obtain ⟨rfl, e⟩ := e
    exact ⟨v, ws, rfl, rx, h1, e ▸ rr⟩
theorem RepK.nil_inv {us : List (Key × V)} (h : RepK K ι H [] us) : us = [] := by
  cases us with
  | nil => rfl
  | cons u ws => cases h.1
theorem RepK.length {kvs : List (Key × D)} {us : List (Key × V)} (h : RepK K ι H kvs us) : us.length = kvs.length := by
  have := congrArg List.length h.1
  rw [List.length_map, List.length_map] at this
  exact this.symm
theorem RepK.append : ∀ {kvs js : List (Key × D)} {us ws : List (Key × V)}, RepK K ι H kvs us → RepK K ι H js ws → RepK K ι H (kvs ++ js) (us ++ ws)
  | [], js, us, ws, h, g => by rw [h.nil_inv]; exact g
  | (j, d) :: kvs, js, us, ws, h, g => by
    obtain ⟨v, r, rfl, rv, hr⟩ := h.inv
    exact .cons rv (hr.append g)
theorem RepK.over {k : Key} {d : D} {v : V} (r : RepV K ι H d v) : ∀ {kvs : List (Key × D)} {us : List (Key × V)}, RepK K ι H kvs us → RepK K ι H (kvs.map fun kv => if kv.1 = k then (kv.1, d) else kv) (us.map fun kv => if kv.1 = k then (kv.1, v) else kv)
  | [], us, h => by rw [h.nil_inv]; exact .nil
  | (j, d') :: kvs, us, h => by
    obtain ⟨v', ws, rfl, rv, hr⟩ := h.inv
    rw [List.map_cons, List.map_cons]
    by_cases e : j = k
    · rw [if_pos e, if_pos e]
      exact .cons r (RepK.over r hr)
    · rw [if_neg e, if_neg e]
      exact .cons rv (RepK.over r hr)
theorem RepK.anyK {p : Key → Bool} : ∀ {kvs : List (Key × D)} {us : List (Key × V)}, RepK K ι H kvs us → kvs.any (fun kv => p kv.1) = us.any fun kv => p kv.1
  | [], us, h => by rw [h.nil_inv]; rfl
  | (j, d') :: kvs, us, h => by
    obtain ⟨v', ws, rfl, rv, hr⟩ := h.inv
    rw [List.any_cons, List.any_cons, hr.anyK]
theorem RepK.put {k : Key} {d : D} {v : V} {kvs : List (Key × D)} {us : List (Key × V)} (h : RepK K ι H kvs us) (r : RepV K ι H d v) : RepK K ι H (putD kvs k d) (putK us k v) := by
  unfold putD putK
  rw [h.anyK (p := fun j => decide (j = k))]
  split
  · exact h.over r
  · exact h.append (.cons r .nil)
theorem RepK.drop {k : Key} : ∀ {kvs : List (Key × D)} {us : List (Key × V)}, RepK K ι H kvs us → RepK K ι H (dropD kvs k) (dropK us k)
  | [], us, h => by rw [h.nil_inv]; exact .nil
  | (j, d') :: kvs, us, h => by
    obtain ⟨v', ws, rfl, rv, hr⟩ := h.inv
    have q := hr.drop (k := k)
    unfold dropD dropK at q ⊢
    rw [List.filter_cons, List.filter_cons]
    by_cases e : j = k
    · rw [if_neg (by simp [e]), if_neg (by simp [e])]
      exact q
    · rw [if_pos (by simp [e]), if_pos (by simp [e])]
      exact .cons rv q
end
def kD : Key → D
  | .inl i => .int i
  | .inr x => .str x
def ksOf : List D → Option (List Key)
  | [] => some []
  | d :: ds => (kOf d).bind fun k => (ksOf ds).map fun ks => k :: ks
def kTOf : D → Option (List Key)
  | .tup ds => ksOf ds
  | _ => none
@[simp] theorem kOf_kD (k : Key) : kOf (kD k) = some k := by cases k <;> rfl
@[simp] theorem ksOf_kD : ∀ ks : List Key, ksOf (ks.map kD) = some ks
  | [] => rfl
  | k :: ks => by
    show (kOf (kD k)).bind _ = _
    rw [kOf_kD, Option.bind_some, ksOf_kD ks]
    rfl
def tagD (ks : List Key) : D := .tup (ks.map kD)
@[simp] theorem kTOf_tag (ks : List Key) : kTOf (tagD ks) = some ks := ksOf_kD ks
def tabRd (S : Sto) (d : D) : Option (Nat × List (List Key × D)) := match d with
  | .ref n => match S[n]? with
    | some (.dT kvs) => some (n, kvs)
    | some (.lkT kvs) => some (n, kvs)
    | _ => none
  | _ => none
def putX (xs : List (List Key × Addr × V)) (k : List Key) (b : Addr) (v : V) : List (List Key × Addr × V) :=
  if (xs.any fun x => decide (x.1 = k)) = true then xs.map (fun x => if x.1 = k then (x.1, x.2.1, v) else x) else xs ++ [(k, b, v)]
def dropX (xs : List (List Key × Addr × V)) (k : List Key) : List (List Key × Addr × V) := xs.filter fun x => decide (x.1 ≠ k)
section
variable {K : PySem.W.Frag} {N : Nms} {W : WX} {ι ι' : List Addr} {H H' : Hp} {σ : L2.St} {σa : Sl} {S : Sto} {X : Cx}
theorem RepL.keys : ∀ ks : List Key, RepL K ι H (ks.map kD) (ks.map kV)
  | [] => rfl
  | .inl i :: ks => RepL.cons rfl (RepL.keys ks)
  | .inr x :: ks => RepL.cons rfl (RepL.keys ks)
theorem RepV.tag {k : List Key} {b : Addr} (t : TupR K H b (k.map kV)) : RepV K ι H (tagD k) (.ref b) := ⟨b, _, rfl, t, RepL.keys k⟩
theorem Paired.flt {α β : Type} {F : α → β → Prop} {p : α → Bool} {q : β → Bool} : ∀ {xs : List α} {ys : List β}, Paired F xs ys → (∀ a b, F a b → p a = q b) → Paired F (xs.filter p) (ys.filter q)
  | _, _, .nil, _ => .nil
  | _, _, .cons (a := a) (b := b) h t, f => by
    rw [List.filter_cons, List.filter_cons, f _ _ h]
    split
    · exact .cons h (Paired.flt t f)
    · exact Paired.flt t f
theorem Paired.mp {α β : Type} {F G : α → β → Prop} {f : α → α} {g : β → β} : ∀ {xs : List α} {ys : List β}, Paired F xs ys → (∀ a b, F a b → G (f a) (g b)) → Paired G (xs.map f) (ys.map g)
  | _, _, .nil, _ => .nil
  | _, _, .cons h t, z => .cons (z _ _ h) (Paired.mp t z)
theorem Paired.any {α β : Type} {F : α → β → Prop} {p : α → Bool} {q : β → Bool} : ∀ {xs : List α} {ys : List β}, Paired F xs ys → (∀ a b, F a b → p a = q b) → xs.any p = ys.any q
  | _, _, .nil, _ => rfl
  | _, _, .cons h t, f => by rw [List.any_cons, List.any_cons, f _ _ h, Paired.any t f]
theorem Paired.app {α β : Type} {F : α → β → Prop} : ∀ {xs xs' : List α} {ys ys' : List β}, Paired F xs ys → Paired F xs' ys' → Paired F (xs ++ xs') (ys ++ ys')
  | _, _, _, _, .nil, g => g
  | _, _, _, _, .cons h t, g => .cons h (Paired.app t g)
theorem atKey_any (ys : List (List Key × Addr × Value)) (k : List Key) : (atKey ys k).isSome = ys.any fun y => decide (y.1 = k) := by
  unfold atKey
  rw [Option.isSome_map, Bool.eq_iff_iff, List.find?_isSome, List.any_eq_true]
theorem TV.put {xs : List (List Key × Addr × V)} {ys : List (List Key × Addr × Value)} (r : TV xs ys) (k : List Key) (b : Addr) {v : V} {u : Value} (h : RelV v u) : TV (putX xs k b v) (storedH ys k b u) := by
  unfold putX storedH
  rw [atKey_any, Paired.any r (q := fun y => decide (y.1 = k)) fun a c z => by rw [z.1]]
  split
  · refine Paired.mp r fun a c z => ?_
    unfold putAt
    rw [z.1]
    split
    · exact ⟨rfl, z.2.1, h⟩
    · exact z
  · exact Paired.app r (.cons ⟨rfl, rfl, h⟩ .nil)
theorem TV.drop {xs : List (List Key × Addr × V)} {ys : List (List Key × Addr × Value)} (r : TV xs ys) (k : List Key) : TV (dropX xs k) (withoutH ys k) := by
  unfold dropX withoutH
  exact Paired.flt r fun a b z => by rw [z.1]
theorem RepT.length {kvs : List (List Key × D)} {xs : List (List Key × Addr × V)} (r : RepT K ι H kvs xs) : kvs.length = xs.length := Paired.length r
theorem RepT.put {kvs : List (List Key × D)} {xs : List (List Key × Addr × V)} {k : List Key} {b : Addr} {d : D} {v : V} (r : RepT K ι H kvs xs) (t : TupR K H b (k.map kV)) (h : RepV K ι H d v) : RepT K ι H (putD kvs k d) (putX xs k b v) := by
  unfold putD putX
  rw [Paired.any r (q := fun x => decide (x.1 = k)) fun a c z => by rw [z.1]]
  split
  · refine Paired.mp r fun a c z => ?_
    rw [z.1]
    split
    · exact ⟨rfl, z.2.1, h⟩
    · exact z
  · exact Paired.app r (.cons ⟨rfl, t, h⟩ .nil)
theorem RepT.drop {kvs : List (List Key × D)} {xs : List (List Key × Addr × V)} (k : List Key) (r : RepT K ι H kvs xs) : RepT K ι H (dropD kvs k) (dropX xs k) := by
  unfold dropD dropX
  exact Paired.flt r fun a b z => by rw [z.1]
end
open PySem.W (dataLe alike alikeAll AllAlike Sortable keyToks keyToksAll)
section
variable {K : PySem.W.Frag} {N : Nms} {W : WX} {ι ι' : List Addr} {H H' : Hp} {σ : L2.St} {σa : Sl} {S : Sto} {X : Cx}
theorem RepT.fst : ∀ {kvs : List (List Key × D)} {xs : List (List Key × Addr × V)}, RepT K ι H kvs xs → kvs.map (·.1) = xs.map (·.1)
  | _, _, .nil => rfl
  | _, _, .cons h t => by rw [List.map_cons, List.map_cons, h.1, RepT.fst t]
end
section
variable {K : PySem.W.Frag} {N : Nms} {W : WX} {ι ι' : List Addr} {H H' : Hp} {σ : L2.St} {σa : Sl} {S : Sto} {X : Cx}
section
variable {o e f : Expr} {apos cpos : Pos} {td ty tx : TE} {mo me mf : M D}
/-- a method of a dict: what stands there is seen before the arguments are -/
def eTab1 (f : Op2) (mo me : M D) : M D := eBind mo fun o σ S => match tabRd S o with
  | some _ => eBind me (fun y _ S => ofO (f o y S)) σ S
  | none => .bad
def eTab2 (f : D → D → D → Sto → Option (D × Sto)) (mo me mf : M D) : M D := eBind mo fun o σ S => match tabRd S o with
  | some _ => eBind me (fun y => eBind mf fun z _ S => ofO (f o y z S)) σ S
  | none => .bad
/-- d.get(k, x), the keys ints and texts -/
def eDk2 (f : D → D → D → Sto → Option (D × Sto)) (mo me mf : M D) : M D := eBind mo fun o σ S => match dictRd S o with
  | some _ => eBind me (fun y => eBind mf fun z _ S => ofO (f o y z S)) σ S
  | none => .bad
end
end
section
variable {K : PySem.W.Frag} {N : Nms} {W : WX} {ι ι' : List Addr} {H H' : Hp} {σ : L2.St} {σa : Sl} {S : Sto} {X : Cx}
def bTruT (m : M D) : M Bool := eBind m fun d _ S => match tabRd S d with
  | some p => .ok (!p.2.isEmpty) S
  | none => .bad
def pairsA : List (M D × M D) → Sl → Sto → Res (List (D × D))
  | [], _, S => .ok [] S
  | (mk, mv) :: r, σ, S => (mk σ S).bind fun x S1 => (mv σ S1).bind fun y S2 => (pairsA r σ S2).bind fun ps S3 => .ok ((x, y) :: ps) S3
def kvOf : List (D × D) → Option (List (Key × D))
  | [] => some []
  | (x, y) :: r => (kOf x).bind fun k => (kvOf r).map fun ps => (k, y) :: ps
def mergeD (kvs more : List (Key × D)) : List (Key × D) := more.foldl (fun acc kv => putD acc kv.1 kv.2) kvs
def dispFin (n : Nat) (ps : List (D × D)) (S : Sto) : Res D := match S[n]?, kvOf ps with
  | some (.dK []), some kvs => if kvs.length ≤ 15 then .ok (.ref n) (S.set n (.dK (mergeD [] kvs))) else .bad
  | _, _ => .bad
def eDisp (ms : List (M D × M D)) : M D := fun σ S => (pairsA ms σ (S ++ [.dK []])).bind (dispFin S.length)
end
section
variable {K : PySem.W.Frag} {N : Nms} {W : WX} {ι ι' ι2 : List Addr} {H H' H2 : Hp} {σ : L2.St} {σa : Sl} {S : Sto} {X : Cx}
theorem RepK.at {kvs : List (Key × D)} {us : List (Key × V)} (h : RepK K ι H kvs us) {i : Nat} {k : Key} {v : V} (e : us[i]? = some (k, v)) : ∃ d, kvs[i]? = some (k, d) := by
  have h1 : (us.map (·.1))[i]? = some k := by rw [List.getElem?_map, e]; rfl
  rw [← h.1, List.getElem?_map] at h1
  cases q : kvs[i]? with
  | none => rw [q] at h1; cases h1
  | some p =>
    rw [q] at h1
    cases h1
    exact ⟨p.2, rfl⟩
theorem Fut0.trans (a : Fut0 K ι H ι' H') (b : Fut0 K ι' H' ι2 H2) : Fut0 K ι H ι2 H2 := ⟨a.pre.trans b.pre, fun x xs h => b.tup x xs (a.tup x xs h), fun x xs h => b.scr x xs (a.scr x xs h)⟩
end
section
variable {K : PySem.W.Frag} {N : Nms} {W : WX} {ι ι' : List Addr} {H H' : Hp} {σ : L2.St} {σa : Sl} {S : Sto} {X : Cx}
def dSlT2 : OpSl := fun x lo hi S => match x with
  | .tup ds => some (.tup (cutD ds lo hi), S)
  | _ => none
end
noncomputable def aStar (m : M D) (r : M (List D)) : M (List D) := eBind m fun d σ S => match seqOf d S with
  | some ds => eBind r (fun es _ S => .ok (ds ++ es) S) σ S
  | none => .bad
def noEx (cs : Sm) : Sm := fun σ S => match cs σ S with
  | .ex _ _ _ => .bad
  | r => r
theorem xm1_ok {K : PySem.W.Frag} {C : Addr} (h : PySem.W.exmOne K (.ref C) (.ref C) = some true) : ∀ C' b, xm1 C C' C = some b → PySem.W.exmOne K (.ref C') (.ref C) = some b := fun C' b e => by
  unfold xm1 at e
  by_cases c : C' = C
  · rw [if_pos c] at e
    cases e
    rw [c]
    exact h
  · rw [if_neg c] at e
    cases e
section
variable {K : PySem.W.Frag} {N : Nms} {W : WX} {ι ι' : List Addr} {H H' : Hp} {σ : L2.St} {σa : Sl} {S : Sto} {X : Cx}
mutual
theorem nk_any : ∀ (k : NestedKey) {v : V}, RepV K ι H (nkD k) v → RepV K ι' H (nkD k) v
  | .none, _, r => r
  | .num _, _, r => r
  | .text _, _, r => r
  | .tup ks, _, r => by
    rw [nkD] at r ⊢
    obtain ⟨a, xs, e, t, rl⟩ := r
    exact ⟨a, xs, e, t, nk_anys ks rl⟩
theorem nk_anys : ∀ (ks : List NestedKey) {vs : List V}, RepL K ι H (nkDs ks) vs → RepL K ι' H (nkDs ks) vs
  | [], _, r => r
  | k :: ks, _, r => by
    rw [nkDs] at r ⊢
    obtain ⟨x, r', rfl, rx, rr⟩ := r
    exact RepL.cons (nk_any k rx) (nk_anys ks rr)
end
/-- at b stands the key k -/
def NKR (K : PySem.W.Frag) (H : Hp) (k : NestedKey) (b : Addr) : Prop := k.depth ≤ 8 ∧ RepV K [] H (nkD k) (.ref b)
def putY (xs : List (NestedKey × Addr × V)) (k : NestedKey) (b : Addr) (v : V) : List (NestedKey × Addr × V) :=
  if (xs.any fun x => decide (x.1 = k)) = true then xs.map (fun x => if x.1 = k then (x.1, x.2.1, v) else x) else xs ++ [(k, b, v)]
theorem atKeyN_any (ys : List (NestedKey × Addr × Value)) (k : NestedKey) : (atKey ys k).isSome = ys.any fun y => decide (y.1 = k) := by
  unfold atKey
  rw [Option.isSome_map, Bool.eq_iff_iff, List.find?_isSome, List.any_eq_true]
theorem NV.put {xs : List (NestedKey × Addr × V)} {ys : List (NestedKey × Addr × Value)} (r : NV xs ys) (k : NestedKey) (b : Addr) {v : V} {u : Value} (h : RelV v u) : NV (putY xs k b v) (storedH ys k b u) := by
  unfold putY storedH
  rw [atKeyN_any, Paired.any r (q := fun y => decide (y.1 = k)) fun a c z => by rw [z.1]]
  split
  · refine Paired.mp r fun a c z => ?_
    unfold putAt
    rw [z.1]
    split
    · exact ⟨rfl, z.2.1, h⟩
    · exact z
  · exact Paired.app r (.cons ⟨rfl, rfl, h⟩ .nil)
theorem RepN.length {kvs : List (NestedKey × D)} {xs : List (NestedKey × Addr × V)} (r : RepN K ι H kvs xs) : kvs.length = xs.length := Paired.length r
theorem RepN.put {kvs : List (NestedKey × D)} {xs : List (NestedKey × Addr × V)} {k : NestedKey} {b : Addr} {d : D} {v : V} (r : RepN K ι H kvs xs) (t : NKR K H k b) (h : RepV K ι H d v) : RepN K ι H (putD kvs k d) (putY xs k b v) := by
  unfold putD putY
  rw [Paired.any r (q := fun x => decide (x.1 = k)) fun a c z => by rw [z.1]]
  split
  · refine Paired.mp r fun a c z => ?_
    rw [z.1]
    split
    · exact ⟨rfl, z.2.1, h⟩
    · exact z
  · exact Paired.app r (.cons ⟨rfl, ⟨t.1, nk_any k t.2⟩, h⟩ .nil)
end
open PySem.W (dataLe alike alikeAll AllAlike Sortable keyToks keyToksAll dataLt minD AlikeAll min_list_default reads_keeps)
section
variable {K : PySem.W.Frag} {N : Nms} {W : WX} {X : Cx} {st : Stmt} {e o : Expr} {C : Addr} {f : Str} {F : Fn} {mo : M D} {k : Nat} {pos : Pos} {ns : List Str}
def Pn (K : PySem.W.Frag) (C : Addr) (f q : Str) (st : Stmt) : Prop := ∃ p g fd, PropOf K C f p g ∧ Fun K f q st g fd ∧ ∀ (s : Shared) (us : List Value), us.length = 1 → BindsTo s fd ⟨us, []⟩ ((["self"] : List Str).zip us)
def OkP (P : Program) (w : World) (K : PySem.W.Frag) (mg : Str → Option Value) (base : Heap) (k : Nat) (C : Addr) (f : Str) (sp : Sp) : Prop :=
  ∃ p g fd, PropOf K C f p g ∧ Binds K fd ["self"] [] ∧ FnOk P w K mg base CX0 k g fd ["self"] sp
theorem pn_mk {K : PySem.W.Frag} {C : Addr} {f q : Str} {st : Stmt} {p g : Addr} {rest : List Value} {oc kV doc pm cdv ct : Value} {od an : Option Addr} {osl : Array (Option Value)}
    (a : PySem.W.findIn K (.ref C) f = some (some (.ref p))) (b : PySem.W.specialIn K (.ref p) "__get__" = some (some (.builtin "property.__get__"))) (t : PySem.W.takesIn K (.ref p) = some true) (r : PySem.W.recIn K p "property" = some (.ref g :: rest))
    (l : K.lookup g = some ⟨oc, od, .func (PySem.W.fnOf f q (defArgs st) (defBody st) (defScope st) .none kV doc pm an cdv ct), osl⟩)
    (c : PySem.W.codeIn K cdv q = true) (k : PySem.W.keepIn K (.ref g) = true)
    (bd : ∀ (kV doc pm : Value) (an : Option Addr) (cdv ct : Value) (us : List Value), us.length = 1 → bindArgs (PySem.W.fnOf f q (defArgs st) (defBody st) (defScope st) .none kV doc pm an cdv ct) ⟨us, []⟩ = pure ((["self"] : List Str).zip us)) : Pn K C f q st :=
  ⟨p, g, _, ⟨a, b, t, rest, r⟩, fun_mk l c k, fun s us hl => .of_eq (bd kV doc pm an cdv ct us hl)⟩
variable {P : Program} {w : World} {mg : Str → Option Value} {base : Heap} {q : Str} {Ns : List Str} {c : Sm} {n : Nat}
theorem okP0 (d : Pn K C f q st) (Sc : FnScope Ns ["self"] (defScope st)) (hn : Ns.length = n)
    (hb : ∀ (fa : Addr) (cdv : Value) (A : Around) (outer : List Env) (s : Shared) (H : Hp) (E : XK), Room k (A.deeper (envOfC q (defScope st) s.heap.objs.size fa cdv)) →
      ASs K N noW (cxOf CX0 P w K mg base Ns q (defScope st) fa cdv A outer s H E).nox (defBody st) c) : OkP P w K mg base (k + 1) C f (spA K N (fn0 1 n c)) := by
  obtain ⟨p, g, fd, hp, Fo, b⟩ := d
  refine ⟨p, g, fd, hp, binds_of b, Fo.ok Sc (fun vs H Q E h => ?_) fun cdv A outer s H vs Q E hr h => ⟨_, hb g cdv A outer s H E hr, enter0 hn h⟩⟩
  exact (spA_len0 h).trans rfl
theorem ae_prop (cf : CF K N C ns) (hm : f ∉ ns) (O : OkP X.prog X.w X.K X.mg X.base k C f (spA K N F)) (hr : Room (k + 1) X.A) (he : AE K N W X o mo) (hK : X.K = K := by rfl) (hab : attributeBase o f X.env (eval o X.env) = eval o X.env := by rfl) : AE K N W X (.Attribute o f pos) (eMeth C F mo aNil) := by
  obtain ⟨p, g, fd, hp, b, Fo⟩ := O
  subst hK
  refine ⟨fun pins s σ H Q I h => ?_⟩
  refine attr_of hab (thn (he.run pins s σ H _ I (te_meth cf hm h)) fun u s1 ⟨x, H1, I1, rx, a, dx, fs, ex, ea, _, q⟩ => ?_)
  subst ex
  obtain rfl : u = Value.ref a := rx
  exact getprop_ok I1 ea cf.cl hp Fo hr b .nil (E := WE W σ) (fun _ _ _ _ _ _ _ h => h.elim) (te_nil q)
end
noncomputable def dOrd : Op1 := fun d S => match d with
  | .str z => gd (z.length = 1) (some (.int (z.cps.getD 0 0 : Nat), S))
  | _ => none
section
variable {K : PySem.W.Frag} {N : Nms}
theorem k_ord : RNok K N (fun xs H Q => ∃ x, xs = [.str x] ∧ x.length = 1 ∧ Q (.int (x.cps.getD 0 0 : Nat)) H) (f1 dOrd) := RN.one (fun _ _ => rfl) fun ι H S d v Q R rx g => by
  cases d with
  | str z =>
    unfold dOrd at g
    simp only at g
    cases e : gd (z.length = 1) (some (D.int (z.cps.getD 0 0 : Nat), S)) with
    | none => rw [e] at g; exact g.elim
    | some p =>
      obtain ⟨h1, h2⟩ := gd_some e
      rw [e, ← h2] at g
      rw [show v = V.str z from rx]
      exact ⟨z, rfl, h1, goodO.at g R rfl⟩
  | _ => exact g.elim
end
section
variable {P : Program} {w : World} {K : PySem.W.Frag} {N : Nms} {mg : Str → Option Value} {base : Heap} {x : Str} {st : Stmt} {ps : List Str} {k : Nat}
theorem okD_bad0 (d : Dn K mg x st ps) : OkD P w K mg base CX0 k x ps (spA K N fun _ _ => .bad) := by
  obtain ⟨f, fd, hm, Fo, b⟩ := d
  refine ⟨f, fd, hm, Fo.kp, binds_of b, ⟨fun vs H Q E ⟨_, _, _, _, _, g⟩ => g.elim, fun _ _ _ _ _ _ _ _ _ _ _ _ _ ⟨_, _, _, _, _, g⟩ => g.elim⟩⟩
theorem okD_badX (d : Dn K mg x st ps) : OkD P w K mg base (L2.CX P w) k x ps (spA K N fun _ _ => .bad) := by
  obtain ⟨f, fd, hm, Fo, b⟩ := d
  refine ⟨f, fd, hm, Fo.kp, binds_of b, ⟨fun vs H Q E ⟨_, _, _, _, _, g⟩ => g.elim, fun _ _ _ _ _ _ _ _ _ _ _ _ _ ⟨_, _, _, _, _, g⟩ => g.elim⟩⟩
end
theorem fly_keep {base h h' : Heap} {l : List Env} {e : Addr} {Z : Obj → Prop} (x : HandSPX.FlyingZ base l e Z h) (k : ∀ q o, h.get? q = some o → h'.get? q = some o) : HandSPX.FlyingZ base l e Z h' := by
  obtain ⟨k1, k2, k3, oe, vs, T, oT, ts, he, hz, hd, h1, hnT, hTe, hT, hdT, h3⟩ := x
  exact ⟨fun b o hb => k b o (k1 b o hb), k2, k3.of_keeps fun b o hb _ => ⟨o, k b o hb, rfl⟩, oe, vs, T, oT, ts, k _ _ he, hz, hd, h1, hnT, hTe, k _ _ hT, hdT, h3⟩
def wTup2 (K : PySem.W.Frag) (c1 c2 : Value) (ts : TS) (Wout : WX) (D : Ends) : WX := fun k d σ H =>
  ∃ b, PySem.W.exmAny K k [c1, c2] = some b ∧ (b = true → ts D σ H) ∧ (b = false → Wout k d σ H)
section
variable {X : Cx} {x1 x2 : Str} {c1 c2 : Value} {body suite : List Stmt} {b0 : Stmt} {p1 p2 tpos pos pos' : Pos} {kk : Nat} {tb : WX → TS} {ts : TS} {Wout : WX}
theorem ps_tryT (hs : X.stack = X.env :: X.outer) (hf : X.env.frame = some X.env.locals) (hc1 : Names X x1 c1) (hc2 : Names X x2 c2) (tk : Takes X Wout)
    (hb : ∀ (W : WX) (pn : List (Addr × Obj)) (xe : Value → Shared → Prop), Takes (X.tr pn xe) W → PassesOwn (model X.prog X.w) X.A X.env xe → PSs (X.tr pn xe) body (tb W))
    (su : ∀ (a : Addr) (oe : Obj) (k : Value) (d : Option Addr) (pn : List (Addr × Obj)), Zc k d oe → (∃ vs, oe.data = .fields vs) → PSs (X.suite a ((a, oe) :: pn)) (b0 :: suite) ts) :
    PS X (.Try body [.ExceptHandler (some (.Tuple [.Name x1 p1, .Name x2 p2] kk tpos)) none (b0 :: suite) pos'] [] [] pos) (fun D σ H => tb (wTup2 X.K c1 c2 ts Wout D) D σ H) := by
  refine Dw.Qt.un ?_
  simp (disch := (with_unfolding_all
    (constructor
     intro pn0 s σ H D I start
     have calm := I.ok
     have frames : X.A.frames = some (X.env :: X.outer) := hs ▸ calm.frames
     refine wpAny_Try_except ?_
     have walked := (hb (wTup2 X.K c1 c2 ts Wout D) (X.pn ++ pn0)
       (fun ev t1 => wpAny (model X.prog X.w) X.A (noteFrame ev X.env) (fun _ t2 => wpAny (model X.prog X.w) X.A (setFlight ev none)
         (fun _ t3 => wpAny (model X.prog X.w) X.A (handleBy ev X.env [.ExceptHandler (some (.Tuple [.Name x1 p1, .Name x2 p2] kk tpos)) none (b0 :: suite) pos']) (SP X pn0 D) X.xe t3) X.xe t2) X.xe t1) ?caught PassesOwn.looking).run [] s σ H D (I.toTry _) start
     · refine wpAny_mono walked (fun fl t1 done => ?_) fun ev t1 z => z
       cases fl with
       | next =>
         obtain ⟨σ1, H1, J, g⟩ := done
         exact wpAny_execs_nil ⟨σ1, H1, J.ofTry calm, g⟩
       | brk =>
         obtain ⟨σ1, H1, J, g⟩ := done
         exact ⟨σ1, H1, J.ofTry calm, g⟩
       | cont =>
         obtain ⟨σ1, H1, J, g⟩ := done
         exact ⟨σ1, H1, J.ofTry calm, g⟩
       | ret u =>
         obtain ⟨v, σ1, H1, J, g1, g2⟩ := done
         exact ⟨v, σ1, H1, J.ofTry calm, g1, g2⟩
     case caught =>
       intro u s1 held
       obtain ⟨a, B, t0, pnX, σ1, H1, k, d, rfl, J0, nb, up, sky, na, os, ag, w⟩ := held
       have J : Inv X pn0 σ1 H1 t0 := J0.ofTry calm
       show wpAny (model X.prog X.w) X.A (noteFrame (.ref a) X.env) _ _ _
       refine Sky.land Zc.steady frames hf (hs ▸ sky) fun g3 fl3 up3 => ?_
       have J3 : Inv X pn0 σ1 H1 { s1 with heap := g3 } := J.landed nb fl3.1 (up.trans up3) os ag
       obtain ⟨o3, v3, e3, z3, d3⟩ := fl3.there
       have away : a ∉ frs (X.env :: X.outer) := fun m => by
         obtain ⟨_, o9, e9, no⟩ := fl3.2.2.1.mem m
         rw [e3] at e9
         cases e9
         exact no _ d3
       have aL : a ≠ X.env.locals := fun z => away (List.mem_filterMap.mpr ⟨X.env, List.mem_cons_self, by rw [hf, z]⟩)
       have aF : a ∉ X.fs := fun m => by
         obtain ⟨e, he, g⟩ := List.mem_filterMap.mp m
         exact away (List.mem_filterMap.mpr ⟨e, List.mem_cons_of_mem _ he, g⟩)
       have U3 := J3.suite e3 d3 na aL aF
       obtain ⟨yes, e1, hy, hn⟩ := w
       refine wpAny_handleBy_cons (codeAny_handlers_test ?_) (by intro z; cases z)
       have look : ∀ {x : Str} {c : Value} {p : Pos} {Q : Value → Shared → Prop} {E : Value → Shared → Prop}, Names X x c → Q c { s1 with heap := g3 } → wpAny (model X.prog X.w) (X.A.mark (some (.ref a))) (eval (.Name x p) X.env) Q E { s1 with heap := g3 } := by
         intro x c p Q E hc z
         obtain ⟨g, db, m | ⟨m, hv, nn⟩⟩ := hc
         · exact ld_glob (X := X.suite a ((a, o3) :: (X.pn ++ pn0))) U3 g m z db
         · exact ld_blt (X := X.suite a ((a, o3) :: (X.pn ++ pn0))) U3 g m hv z nn db
       refine wpAny_Tuple ?_
       refine wpAny_items_cons (look hc1 ?_)
       refine wpAny_items_cons (look hc2 ?_)
       refine wpAny_items_nil ⟨by size_fits, ?_⟩
       have kp : ∀ q o, g3.get? q = some o → (g3.push { cls := .type "tuple", data := .seq [c1, c2].toArray }).get? q = some o := fun _ _ z => Heap.get?_push_of_some _ z
       have gp := Heap.get?_push_size g3 (o := { cls := .type "tuple", data := .seq [c1, c2].toArray }) rfl
       have L1 : PySem.W.Looks (model X.prog X.w) (g3.push { cls := .type "tuple", data := .seq [c1, c2].toArray }) (typeOf (.ref a)) k := fun A Q E t kk z => wpAny_typeOf_ref (kk _ _ (kp _ _ e3)) (by rw [z3.1]; exact z)
       refine (PySem.W.exm_tup2 (M := model X.prog X.w) (J3.kIn.keeps kp) L1 gp e1).here ?_
       have fl5 := fly_keep fl3 kp
       have up5 : g3.UpToSlots (g3.push { cls := .type "tuple", data := .seq [c1, c2].toArray }) := Heap.UpToSlots.of_keeps kp
       generalize g3.push { cls := .type "tuple", data := .seq [c1, c2].toArray } = g5 at fl5 up5 ⊢
       cases yes with
       | false =>
         show wpAny _ X.A (handleBy (.ref a) X.env []) _ _ _
         refine wpAny_handleBy_nil ?_
         obtain ⟨_, _, _, oe, vs, T, oT, ts', he, hz, hd, h1, hr⟩ := id fl5
         have last : wpAny (model X.prog X.w) X.A (setFlight (.ref a) X.env.frame) (fun _ t4 => wpAny (model X.prog X.w) X.A (throw (.ref a) : Sem Flow) (SP X pn0 D) X.xe t4) X.xe { s1 with heap := g5 } := by
           rw [hf]
           refine HandSPX.setFlight_upZ fl5 fun g4 hg4 up4 => wpAny_throw (tk _ _ ?_)
           exact ⟨a, B, t0, pn0, σ1, H1, k, d, rfl, J, nb, ((up.trans up3).trans up5).trans up4, .inr (.inr (hs.symm ▸ hg4)), na, os, ag, hn rfl⟩
         unfold PySem.passOn
         refine wpAny_bind (wpAny_field he hd h1 ?_)
         have ne : ¬ ((Value.ref T == Value.none) = true) := by simp
         rw [if_neg ne]
         first
           | exact wpAny_bind (wpAny_pure (wpAny_bind last))
           | exact wpAny_bind last
       | true =>
         refine codeAny_handlers_suite ?_
         refine HandSPX.lands_againZ fl5 fun g4 fl4 up4 => ?_
         have J4 : Inv X pn0 σ1 H1 { s1 with heap := g4 } := J.landed nb fl4.1 (((up.trans up3).trans up5).trans up4) os ag
         obtain ⟨o4, v4, e4, z4, d4⟩ := fl4.there
         have U4 := J4.suite e4 d4 na aL aF
         have ran := (su a o4 k d (X.pn ++ pn0) z4 ⟨_, d4⟩).run [] _ _ H1 _ U4 (hy rfl)
         refine wpAny_mono ran (fun fl t6 done => ?_) fun _ _ z => z.elim
         cases fl with
         | next =>
           obtain ⟨σ6, H6, U6, g⟩ := done
           exact ⟨_, _, U6.unsuite calm, g⟩
         | brk =>
           obtain ⟨σ6, H6, U6, g⟩ := done
           exact ⟨_, _, U6.unsuite calm, g⟩
         | cont =>
           obtain ⟨σ6, H6, U6, g⟩ := done
           exact ⟨_, _, U6.unsuite calm, g⟩
         | ret u =>
           obtain ⟨v6, σ6, H6, U6, g1, g2⟩ := done
           exact ⟨_, _, _, U6.unsuite calm, g1, g2⟩))) only [↓Dw.Qt.tt]
end
def zTryT (K : PySem.W.Frag) (c1 c2 : Value) (ts : TS) (Wout : WX) (tb : WX → TS) : TS := fun D σ H => tb (wTup2 K c1 c2 ts Wout D) D σ H
theorem y_tryT {X : Cx} {x1 x2 : Str} {c1 c2 : Value} {body suite : List Stmt} {b0 : Stmt} {p1 p2 tpos pos pos' : Pos} {kk : Nat} {tb : WX → TS} {ts : TS} {Wout : WX} (hs : X.stack = X.env :: X.outer) (hf : X.env.frame = some X.env.locals) (hc1 : Names X x1 c1) (hc2 : Names X x2 c2) (tk : Takes X Wout)
    (hb : ∀ (W : WX) (pn : List (Addr × Obj)) (xe : Value → Shared → Prop), Takes (X.tr pn xe) W → PassesOwn (model X.prog X.w) X.A X.env xe → PSs (X.tr pn xe) body (tb W))
    (su : ∀ (a : Addr) (oe : Obj) (k : Value) (d : Option Addr) (pn : List (Addr × Obj)), Zc k d oe → (∃ vs, oe.data = .fields vs) → PSs (X.suite a ((a, oe) :: pn)) (b0 :: suite) ts) :
    PS X (.Try body [.ExceptHandler (some (.Tuple [.Name x1 p1, .Name x2 p2] kk tpos)) none (b0 :: suite) pos'] [] [] pos) (zTryT X.K c1 c2 ts Wout tb) := ps_tryT hs hf hc1 hc2 tk hb su
noncomputable def dFdivW : Op2 := dI2 CDivW fun i j => .int (i / j)
section
variable {K : PySem.W.Frag} {N : Nms} {W : WX} {X : Cx} {a b : Expr} {ma mb : M D} {pos : Pos}
theorem ae_fdivW (ha : AE K N W X a ma) (hb : AE K N W X b mb) : AE K N W X (.BinOp a .FloorDiv b pos) (e2 dFdivW ma mb) := ae_op op_fdivW (R2.i fun _ _ _ _ => rfl) ha hb
end
def cRaiseI (C : Addr) (m : M D) : Sm := sBind m fun v σ S => match v with
  | .int i => if i.natAbs < 10 ^ 100 then .ex C σ S else .bad
  | _ => .bad
/-- an own error whose __init__ keeps a place -/
structure ErN (P : Program) (K : PySem.W.Frag) (mg : Str → Option Value) (x : Str) (C : Addr) : Prop where
  ex : ∃ qI vals fI, PySem.ErX.ErTxt P K mg x qI vals C fI
theorem ErN.gC {P : Program} {K : PySem.W.Frag} {mg : Str → Option Value} {x : Str} {C : Addr} (h : ErN P K mg x C) : mg x = some (.ref C) := let ⟨_, _, _, T⟩ := h.ex; T.gC
theorem ern_mk {P : Program} {K : PySem.W.Frag} {mg : Str → Option Value} {x qI : Str} {vals : List Expr} {C fI : Addr} (h : PySem.ErX.ErTxt P K mg x qI vals C fI) : ErN P K mg x C := ⟨⟨_, _, _, h⟩⟩
/-- which of two classes is caught -/
def cTryT (xm : Addr → Option Bool) (body suite : Sm) : Sm := fun σ S => match body σ S with
  | .ex C' σ1 S1 => match xm C' with
    | some true => suite σ1 S1
    | some false => .ex C' σ1 S1
    | none => .bad
  | r => r
open Classical in
noncomputable def xmT (A B : Addr) : Addr → Option Bool := fun a => if a = A ∨ a = B then some true else none
theorem xmT_ok {K : PySem.W.Frag} {A B : Addr} (h1 : PySem.W.exmOne K (.ref A) (.ref A) = some true) (h0 : PySem.W.exmOne K (.ref A) (.ref B) = some false) (h2 : PySem.W.exmOne K (.ref B) (.ref A) = some false) (h3 : PySem.W.exmOne K (.ref B) (.ref B) = some true) : ∀ C' b, xmT A B C' = some b → PySem.W.exmAny K (.ref C') [.ref A, .ref B] = some b := fun C' b e => by
  unfold xmT at e
  split at e
  · cases e
    rename_i h
    rcases h with rfl | rfl
    · simp [PySem.W.exmAny, h1, h0]
    · simp [PySem.W.exmAny, h2, h3]
  · cases e
section
variable {K : PySem.W.Frag} {N : Nms} {W : WX} {ι ι' : List Addr} {H H' : Hp} {σ : L2.St} {σa : Sl} {S : Sto} {X : Cx} {C : Addr}
theorem as_raiseE {x : Str} {e : Expr} {m : M D} {p pos pos2 : Pos} {k : Nat} (hc : X.calm = true) (T : ErN X.prog X.K X.mg x C) (hr : Room k X.A) (hk : 1 ≤ k) (tk : Takes X W) (he : AE K N W X e m) (hg : Gl X x := by rfl)
    (hd : (x == ("__debug__" : Str)) = false := by decide) (hs : starEach (e :: []) X.env = (false, eval e X.env) :: starEach [] X.env := by rfl) (hpl : (backTo pos (starEach [] X.env)).any (·.1) = false := by rfl) : AS K N W X (.Raise (some (.Call (.Name x p) [e] [] pos)) none pos2) (cRaiseI C m) := by
  obtain ⟨qI, vals, fI, T⟩ := T.ex
  refine PS.imp (ps_raiseEr hc T hr hk tk (pa_cons he pa_nil hs) hg hd hs hpl) fun σ H D ⟨ι, σa, S, hs, R, g⟩ => ?_
  refine bindES hs R g fun ι1 H1 v d S1 f1 hs1 R1 r1 g1 => ?_
  cases d with
  | int i =>
    simp only at g1
    by_cases hi : i.natAbs < 10 ^ 100
    · rw [if_pos hi] at g1
      obtain rfl : v = .int i := r1
      exact ⟨i, rfl, hi, fun d hd => g1 ι1 _ σ (fut_upd0 hd) (hs1.fut (fut_upd0 hd)) (R1.grow hd) (some d)⟩
    · rw [if_neg hi] at g1
      exact g1.elim
  | _ => exact g1.elim
theorem as_tryT {x1 x2 : Str} {c1 c2 : Addr} {body suite : List Stmt} {b₀ : Stmt} {p1 p2 tpos pos pos' : Pos} {kk : Nat} {xm : Addr → Option Bool} {cb cs : Sm} (hs : X.stack = X.env :: X.outer) (hf : X.env.frame = some X.env.locals) (hc1 : Names X x1 (.ref c1)) (hc2 : Names X x2 (.ref c2)) (tk : Takes X W)
    (hx : ∀ C' b, xm C' = some b → PySem.W.exmAny X.K (.ref C') [.ref c1, .ref c2] = some b)
    (hb : ∀ (W : WX) (pn : List (Addr × Obj)) (xe : Value → Shared → Prop), Takes (X.tr pn xe) W → PassesOwn (model X.prog X.w) X.A X.env xe → ASs K N W (X.tr pn xe) body cb)
    (hsu : ∀ (a : Addr) (oe : Obj) (cls : Value) (d : Option Addr) (pn : List (Addr × Obj)), Zc cls d oe → (∃ vs, oe.data = .fields vs) → ASs K N noW (X.suite a ((a, oe) :: pn)) (b₀ :: suite) cs) :
    AS K N W X (.Try body [.ExceptHandler (some (.Tuple [.Name x1 p1, .Name x2 p2] kk tpos)) none (b₀ :: suite) pos'] [] [] pos) (cTryT xm cb (noEx cs)) :=
  PS.imp (y_tryT (tb := fun W => tsX K N W cb) (ts := tsX K N noW cs) hs hf hc1 hc2 tk (fun W pn xe t p => hb W pn xe t p) (fun a oe cls d pn hz hf => hsu a oe cls d pn hz hf)) fun σ H T ⟨ι, σa, S, hs, R, g⟩ => by
    refine ⟨ι, σa, S, hs, R, ?_⟩
    unfold cTryT at g
    cases e : cb σa S with
    | ex C' σ1 S1 =>
      rw [e] at g
      simp only at g
      intro ι1 H1 σv f1 hs1 R1 dd
      cases ex : xm C' with
      | none => rw [ex] at g; exact g.elim
      | some b =>
        rw [ex] at g
        refine ⟨b, hx C' b ex, fun hb => ?_, fun hb => ?_⟩
        · subst hb
          refine ⟨ι1, σ1, S1, hs1, R1, ?_⟩
          simp only [noEx] at g
          cases es : cs σ1 S1 with
          | ex C2 σ2 S2 =>
            rw [es] at g
            exact g.elim
          | nx σ2 S2 => rw [es] at g; exact goodS.fut (r := .nx σ2 S2) g f1
          | rt d2 S2 => rw [es] at g; exact goodS.fut (r := .rt d2 S2) g f1
          | bk σ2 S2 => rw [es] at g; exact goodS.fut (r := .bk σ2 S2) g f1
          | ct σ2 S2 => rw [es] at g; exact goodS.fut (r := .ct σ2 S2) g f1
          | bad => rw [es] at g; exact g.elim
        · subst hb
          exact g ι1 H1 σv f1 hs1 R1 dd
    | nx σ1 S1 => rw [e] at g; exact g
    | rt d1 S1 => rw [e] at g; exact g
    | bk σ1 S1 => rw [e] at g; exact g
    | ct σ1 S1 => rw [e] at g; exact g
    | bad => rw [e] at g; exact g
end
open Classical in
noncomputable def sEnF (mk : M D) (x : D) : M Src := fun σ S => match x with
  | .ref n => match S[n]? with
    | some (.lst ds) => match intsOfD ds with
      | some js => (eBind mk fun z _ S2 => match z with
        | .int z => if (0 ≤ z ∧ z ≤ 1000000000) ∧ S2[n]? = some (.lst (js.map .int)) then .ok ⟨js.zipIdx.map fun p => .tup [.int (z + (p.2 : Nat)), .int p.1], fun S' => S'[n]? = some (.lst (js.map .int))⟩ S2 else .bad
        | _ => .bad) σ S
      | none => .bad
    | _ => .bad
  | _ => .bad
theorem repL_ints {K : PySem.W.Frag} {ι : List Addr} {H : Hp} {js : List Int} {xs : List V} (r : RepL K ι H (js.map .int) xs) : xs = js.map V.int := by
  refine intsOfD_ok r ?_
  induction js generalizing xs with
  | nil => rfl
  | cons b bs ih =>
    obtain ⟨v, vs, rfl, _, rr⟩ := r
    show (intsOfD (bs.map .int)).map _ = _
    rw [ih rr]
    rfl
section
variable {K : PySem.W.Frag} {N : Nms} {W : WX} {ι ι' : List Addr} {H H' : Hp} {σ : L2.St} {σa : Sl} {S : Sto} {X : Cx}
theorem ai_enumF {e k : Expr} {m mk : M D} {p pos tpos kpos : Pos} {elts : List Expr} {kk : Nat} (hg : Gl X "enumerate") (hm : X.mg "enumerate" = none) (he : AE K N W X e m) (hk : AE K N W X k mk)
    (hse : starEach (e :: []) X.env = (false, eval e X.env) :: starEach [] X.env := by rfl)
    (one : backTo pos (starEach [e] X.env) = (false, eval e X.env) :: backTo pos (starEach [] X.env) := by rfl) (no : (backTo pos (starEach [e] X.env)).any (·.1) = false := by rfl)
    (named : (backToKw pos (keywordEach [⟨some "start", k, kpos⟩] X.env)).all (·.1.isSome) = true := by rfl) (noStar : (backToKw pos (keywordEach [⟨some "start", k, kpos⟩] X.env)).any (·.1.isNone) = false := by rfl)
    (nm : (backToKw pos (keywordEach [⟨some "start", k, kpos⟩] X.env)).filterMap (·.1) = [Str.ofString "start"] := by rfl) (hK : X.K = K := by rfl) :
    AI K N W false X (.Tuple elts kk tpos) (.Call (.Name "enumerate" p) [e] [⟨some "start", k, kpos⟩] pos) (eBind m (sEnF mk)) := by
  subst hK
  refine PI.imp (pi_enumK hg hm (pa_cons he pa_nil hse) (pk_cons hk pk_nil) one no named noStar nm) fun σ H R ⟨ι, σa, S, hs, Rp, g⟩ => ?_
  refine bindEI hs Rp g fun ι1 H1 v d S1 f1 hs1 R1 r1 g1 => ?_
  unfold sEnF at g1
  cases d with
  | ref n =>
    simp only at g1
    cases es : S1[n]? with
    | none => simp only [es] at g1
    | some o =>
      cases o with
      | lst ds =>
        simp only [es] at g1
        cases ej : intsOfD ds with
        | none => simp only [ej] at g1
        | some js =>
          simp only [ej] at g1
          obtain ⟨a, ea, rfl⟩ := r1
          obtain ⟨b, xs, eb, q, rl⟩ := R1.list es
          rw [ea] at eb
          cases eb
          obtain rfl := intsOfD_ok rl ej
          refine ⟨a, _, rfl, SqL.of q, ?_⟩
          refine bindEI hs1 R1 g1 fun ι2 H2 v2 d2 S2 f2 hs2 R2 r2 g2 => ?_
          cases d2 with
          | int z =>
            simp only at g2
            by_cases c : (0 ≤ z ∧ z ≤ 1000000000) ∧ S2[n]? = some (.lst (js.map .int))
            · rw [if_pos c] at g2
              obtain rfl : v2 = .int z := r2
              have at3 : ∀ {ι3 : List Addr} {H3 : Hp} {S3 : Sto}, Fut X.K ι1 H1 ι3 H3 → Rep X.K N ι3 H3 S3 → S3[n]? = some (.lst (js.map .int)) → SqL X.K H3 a (js.map V.int) := fun {ι3 H3 S3} f3 R3 e3 => by
                obtain ⟨c3, ys, ec, q3, rl3⟩ := R3.list e3
                rw [f3.ix ea] at ec
                cases ec
                rw [repL_ints rl3] at q3
                exact SqL.of q3
              refine ⟨z, rfl, c.1, at3 f2 R2 c.2, g2.2 ι2 H2 _ (Fut.refl _ _) R2 fun ι3 H3 S3 f3 R3 g3 => ?_⟩
              have sq := at3 (f2.trans f3) R3 g3
              have hz : (js.zipIdx.map fun (p : Int × Nat) => D.tup [.int (z + (p.2 : Nat)), .int p.1]).length = js.length := by rw [List.length_map, List.length_zipIdx]
              refine ⟨fun i hi => ?_, fun i x H4 hi y => ?_, fun i hi => ⟨js.map V.int, sq, by rw [List.length_map]; rw [hz] at hi; exact hi⟩⟩
              · rw [hz] at hi
                have hi' : i < (js.map V.int).length := by rw [List.length_map]; exact hi
                exact ⟨js.map V.int, (js.map V.int)[i], sq, List.getElem?_eq_getElem hi'⟩
              · obtain ⟨T, x, rfl, hT, rfl, y⟩ := y
                have y2 := y _ sq
                rw [List.getElem?_map] at y2
                cases ej : js[i]? with
                | none => rw [ej] at y2; cases y2
                | some w =>
                  rw [ej] at y2
                  cases y2
                  refine ⟨ι3, .tup [.int (z + (i : Nat)), .int w], fut_upd0 hT, R3.grow hT, ?_, T, _, rfl, SqT.of upd_same, RepL.cons rfl (RepL.cons rfl RepL.nil)⟩
                  rw [List.getElem?_map, List.getElem?_zipIdx, ej]
                  simp
            · rw [if_neg c] at g2
              exact g2.elim
          | _ => exact g2.elim
      | _ => simp only [es] at g1
  | _ => exact g1.elim
end
def DnD (K : PySem.W.Frag) (mg : Str → Option Value) (x : Str) (st : Stmt) (ps : List Str) (dvs : List V) : Prop := ∃ f fd, mg x = some (.ref f) ∧ FunD K x x (defArgs st) (defBody st) (defScope st) dvs [] f fd
section
variable {P : Program} {w : World} {K : PySem.W.Frag} {N : Nms} {mg : Str → Option Value} {base : Heap} {k : Nat} {x : Str} {st : Stmt} {Ns ps : List Str} {dvs : List V}
theorem okUX {c : Sm} {np n : Nat} (d : DnD K mg x st ps dvs) (b : ∀ f fd, FunD K x x (defArgs st) (defBody st) (defScope st) dvs [] f fd → Binds K fd ps []) (Sc : FnScope Ns ps (defScope st)) (hp : ps.length = np) (hn : Ns.length = n)
    (hb : ∀ (f : Addr) (cdv : Value) (A : Around) (outer : List Env) (s : Shared) (H : Hp) (E : XK), Room k (A.deeper (envOfC x (defScope st) s.heap.objs.size f cdv)) →
      ASs K N (fun cls d _ H => E cls d H) (cxOf (L2.CX P w) P w K mg base Ns x (defScope st) f cdv A outer s H E) (defBody st) c) : OkD P w K mg base (L2.CX P w) (k + 1) x ps (spA K N (fnX np n c)) := by
  obtain ⟨f, fd, m, F⟩ := d
  exact ⟨f, fd, m, F.kp, b f fd F, F.ok Sc (fun vs H Q E h => by rw [hp]; exact spA_lenX h) fun cdv A outer s H vs Q E hr h => ⟨_, hb f cdv A outer s H E hr, enterX hn h⟩⟩
theorem dnd_mk {h : Heap} {f T : Addr} {oc kV doc pm cdv ct : Value} {od an : Option Addr} {osl : Array (Option Value)} {oT : Obj} {z : Int} {tz : Tok} {n : Nat} (X : K.In h) (G : h.Ns mainGlobals mg)
    (a : PySem.W.nsIn K mainGlobals x = some (some (.ref f))) (l : K.lookup f = some ⟨oc, od, .func (PySem.W.fnOf x x (L2.defArgs st) (L2.defBody st) (L2.defScope st) (.ref T) kV doc pm an cdv ct), osl⟩)
    (t : K.lookup T = some oT) (d : oT.data = .seq [Value.int z tz].toArray n) (c : PySem.W.codeIn K cdv x = true) (k : PySem.W.keepIn K (.ref f) = true) : DnD K mg x st ps [.int z] :=
  ⟨f, _, PySem.W.mg_of X G a, ⟨⟨oc, od, .ref T, kV, doc, pm, an, cdv, ct, osl, rfl, l, c, .inr ⟨List.cons_ne_nil _ _, T, oT, [.int z tz], n, rfl, t, d, .cons ⟨tz, rfl⟩ .nil⟩, .inl rfl⟩, k⟩⟩
end
abbrev LeS (a b : Str) : Prop := a = b ∨ ltS a b = true
theorem LeS.tr {a b c : Str} (h : LeS a b) (g : LeS b c) : LeS a c := by
  rcases h with rfl | h
  · exact g
  · rcases g with rfl | g
    · exact .inr h
    · exact .inr (ltS_tr h g)
theorem LeS.no {a b : Str} (h : ¬ ltS a b = true) : LeS b a := by
  by_cases e : b = a
  · exact .inl e
  · exact .inr (ltS_of (by cases k : ltS a b with | true => exact absurd k h | false => rfl) e)
/-- where the classes stand -/
structure CA where
  mk ::
  Disk : Addr
  Incomplete : Addr
  InvalidRecord : Addr
  Journal : Addr
  PowerCut : Addr
  MailError : Addr
def fs_Disk : List Str := ["_durable", "_steps", "_power"]
def fs_Journal : List Str := ["generation", "value", "_events", "_disk", "_current", "_newest"]
open Classical in
noncomputable def nmsF (c : CA) (a : Addr) : List Str := if a = c.Disk then fs_Disk else if a = c.Journal then fs_Journal else []
noncomputable def F_Disk_init (c : CA) : Fn := fn0 1 1
    (cSeq (cFld c.Disk 0 (eV 0) (eLst (aCons (eLst aNil) (aCons (eLst aNil) aNil))))
    (cSeq (cFld c.Disk 1 (eV 0) (eLst (aCons (eLst aNil) (aCons (eLst aNil) aNil))))
    (cFld c.Disk 2 (eV 0) (eC .non))))
noncomputable def F_content_after (c : CA) : Fn := fn0 2 4
    (cSeq (cSet 2 (eN (f1 dListOf) (aCons (eV 0) aNil)))
    (cSeq (cFor (eBind (eV 1) sList) (tgName 3) (cIf (eT (e2 dEq (eV 3) (eC (.int (-1))))) (cDrop (eBM dClear (eV 2) aNil)) (cDrop (eBM dAppend (eV 2) (aCons (eV 3) aNil)))))
    (cRet (eV 2))))
noncomputable def F_Disk_content (c : CA) : Fn := fn0 2 2
    (cRet (eCall (F_content_after c) (aCons (e2 dIxL (e1 (dFld c.Disk 0) (eV 0)) (eV 1)) (aCons (e2 dIxL (e1 (dFld c.Disk 1) (eV 0)) (eV 1)) aNil))))
noncomputable def F_pack_count (c : CA) : Fn := fn0 1 2
    (cSeq (cSet 1 (eLst aNil))
    (cSeq (cWhile (eT (e2 dGt (eV 0) (eC (.int 127)))) (cSeq (cDrop (eBM dAppend (eV 1) (aCons (e2 dAdd (eC (.int 128)) (e2 dAnd (eV 0) (eC (.int 127)))) aNil)))
    (cSet 0 (e2 dShr (eV 0) (eC (.int 7))))))
    (cSeq (cDrop (eBM dAppend (eV 1) (aCons (eV 0) aNil)))
    (cRet (eV 1)))))
noncomputable def F_pack_integer (c : CA) : Fn := fn0 1 1
    (cSeq (cIf (eT (e2 dLt (eV 0) (eC (.int 0)))) (cRet (e2 dCatL (eLst (aCons (eC (.int (4))) aNil)) (eCall (F_pack_count c) (aCons (e2 dSub (e1 dNeg (eV 0)) (eC (.int 1))) aNil)))) cNext)
    (cRet (e2 dCatL (eLst (aCons (eC (.int (3))) aNil)) (eCall (F_pack_count c) (aCons (eV 0) aNil)))))
noncomputable def F_pack (c : CA) : Nat → Fn
  | 0 => fun _ _ => .bad
  | n + 1 => fn0 1 4
    (cSeq (cIf (eT (e2 dIsN (eV 0) (eC .non))) (cRet (eLst (aCons (eC (.int (0))) aNil))) cNext)
    (cSeq (cIf (eT (eN (f2 dIsi) (aCons (eV 0) (aCons (eC (.ty "bool")) aNil)))) (cRet (eLst (aCons (eIf (eT (eV 0)) (eC (.int (2))) (eC (.int (1)))) aNil))) cNext)
    (cSeq (cIf (eT (eN (f2 dIsi) (aCons (eV 0) (aCons (eC (.ty "int")) aNil)))) (cRet (eCall (F_pack_integer c) (aCons (eV 0) aNil))) cNext)
    (cSeq (cIf (eT (eN (f2 dIsi) (aCons (eV 0) (aCons (eC (.ty "str")) aNil)))) (cRet (e2 dCatL (e2 dCatL (eLst (aCons (eC (.int (5))) aNil)) (eCall (F_pack_count c) (aCons (eN (f1 dLenS) (aCons (eV 0) aNil)) aNil))) (eLc (eBind (eV 0) sStr) (.one 3) [3] bYes (eN (f1 dOrd) (aCons (eV 3) aNil))))) cNext)
    (cSeq (cSet 1 (e2 dCatL (eLst (aCons (eC (.int (6))) aNil)) (eCall (F_pack_count c) (aCons (eN (f1 dLenQ) (aCons (eV 0) aNil)) aNil))))
    (cSeq (cFor (eBind (eV 0) sTup) (tgName 2) (cDrop (eBM dExtend (eV 1) (aCons (eCall (F_pack c n) (aCons (eV 2) aNil)) aNil))))
    (cRet (eV 1))))))))
noncomputable def F_byte_at (c : CA) : Fn := fnX 2 2
    (cSeq (cIf (eT (e2 dGe (eV 1) (eN (f1 dLenQ) (aCons (eV 0) aNil)))) (cRaiseI c.Incomplete (eN (f1 dLenQ) (aCons (eV 0) aNil))) cNext)
    (cRet (e2 dIxL (eV 0) (eV 1))))
noncomputable def F_unpack_count (c : CA) : Fn := fnX 2 5
    (cSeq (cSet 2 (eC (.int 0)))
    (cSeq (cSet 3 (eC (.int 1)))
    (cSeq (cSet 4 (eV 1))
    (cSeq (cWhile (eT (e2 dGt (eCall (F_byte_at c) (aCons (eV 0) (aCons (eV 4) aNil))) (eC (.int 127)))) (cSeq (cSet 2 (e2 dAdd (eV 2) (e2 dMul (e2 dAnd (e2 dIxL (eV 0) (eV 4)) (eC (.int 127))) (eV 3))))
    (cSeq (cSet 3 (e2 dMul (eV 3) (eC (.int 128))))
    (cSet 4 (e2 dAdd (eV 4) (eC (.int 1)))))))
    (cSeq (cIf (bAnd (eT (e2 dEq (e2 dIxL (eV 0) (eV 4)) (eC (.int 0)))) (eT (e2 dGt (eV 4) (eV 1)))) (cRaiseI c.InvalidRecord (eV 4)) cNext)
    (cRet (eTup (aCons (e2 dAdd (eV 2) (e2 dMul (e2 dIxL (eV 0) (eV 4)) (eV 3))) (aCons (e2 dAdd (eV 4) (eC (.int 1))) aNil)))))))))
noncomputable def F_is_code (c : CA) : Fn := fn0 1 1
    (cRet (eAnd (eChain dLe dLt (eC (.int 0)) (e2 dSub (eV 0) (eC (.int (32)))) (eN (f1 dLenS) (aCons (eC (.str (Str.ofString " !\"#$ &'()*+,-./0123456789:;<=>?@ABCDEFGHIJKLMNOPQRSTUVWXYZ[\\]^_`abcdefghijklmnopqrstuvwxyz{|}~"))) aNil))) (e2 dNe (eV 0) (eC (.int (37))))))
noncomputable def F_unpack_string (c : CA) : Fn := fnX 3 6
    (cSeq (cSet 3 (eSl dSlL (eV 0) (mP1 (eV 1)) (mP1 (e2 dAdd (eV 1) (eV 2)))))
    (cSeq (cFor (eBind (eV 3) (sEnF (eV 1))) (tgTup (tgCons (tgName 4) (tgCons (tgName 5) tgNil))) (cIf (bNot (eT (eCall (F_is_code c) (aCons (eV 5) aNil)))) (cRaiseI c.InvalidRecord (eV 4)) cNext))
    (cSeq (cIf (eT (e2 dLt (eN (f1 dLenQ) (aCons (eV 3) aNil)) (eV 2))) (cRaiseI c.Incomplete (eN (f1 dLenQ) (aCons (eV 0) aNil))) cNext)
    (cRet (eTup (aCons (eM1 dJoin (eC (.str (Str.ofString ""))) (eLc (eBind (eV 3) sList) (.one 5) [5] bYes (e2 dIxS (eC (.str (Str.ofString " !\"#$ &'()*+,-./0123456789:;<=>?@ABCDEFGHIJKLMNOPQRSTUVWXYZ[\\]^_`abcdefghijklmnopqrstuvwxyz{|}~"))) (e2 dSub (eV 5) (eC (.int (32))))))) (aCons (e2 dAdd (eV 1) (eV 2)) aNil)))))))
noncomputable def F_unpack_tuple (c : CA) (g : Fn) : Fn := fnX 4 7
    (cSeq (cSet 4 (eLst aNil))
    (cSeq (cSet 5 (eV 1))
    (cSeq (cWhile (eT (e2 dLt (eN (f1 dLenQ) (aCons (eV 4) aNil)) (eV 2))) (cSeq (cAsg (eCall g (aCons (eV 0) (aCons (eV 5) (aCons (eV 3) aNil)))) (tgTup (tgCons (tgName 6) (tgCons (tgName 5) tgNil))))
    (cDrop (eBM dAppend (eV 4) (aCons (eV 6) aNil)))))
    (cRet (eTup (aCons (eN (f1 dTupL) (aCons (eV 4) aNil)) (aCons (eV 5) aNil)))))))
noncomputable def F_unpack_inside (c : CA) : Nat → Fn
  | 0 => fun _ _ => .bad
  | n + 1 => fnX 3 6
    (cSeq (cSet 3 (eCall (F_byte_at c) (aCons (eV 0) (aCons (eV 1) aNil))))
    (cSeq (cIf (bOr (eT (e2 dGt (eV 3) (eC (.int (6))))) (bAnd (eT (e2 dEq (eV 3) (eC (.int (6))))) (eT (e2 dEq (eV 2) (eC (.int (20))))))) (cRaiseI c.InvalidRecord (eV 1)) cNext)
    (cSeq (cIf (eT (e2 dEq (eV 3) (eC (.int (0))))) (cRet (eTup (aCons (eC .non) (aCons (e2 dAdd (eV 1) (eC (.int 1))) aNil)))) cNext)
    (cSeq (cIf (eT (e2 (dIn false) (eV 3) (eTup (aCons (eC (.int (1))) (aCons (eC (.int (2))) aNil))))) (cRet (eTup (aCons (e2 dEq (eV 3) (eC (.int (2)))) (aCons (e2 dAdd (eV 1) (eC (.int 1))) aNil)))) cNext)
    (cSeq (cAsg (eCall (F_unpack_count c) (aCons (eV 0) (aCons (e2 dAdd (eV 1) (eC (.int 1))) aNil))) (tgTup (tgCons (tgName 4) (tgCons (tgName 5) tgNil))))
    (cSeq (cIf (eT (e2 dEq (eV 3) (eC (.int (3))))) (cRet (eTup (aCons (eV 4) (aCons (eV 5) aNil)))) cNext)
    (cSeq (cIf (eT (e2 dEq (eV 3) (eC (.int (4))))) (cRet (eTup (aCons (e2 dSub (e1 dNeg (eV 4)) (eC (.int 1))) (aCons (eV 5) aNil)))) cNext)
    (cSeq (cIf (eT (e2 dEq (eV 3) (eC (.int (5))))) (cRet (eCall (F_unpack_string c) (aCons (eV 0) (aCons (eV 5) (aCons (eV 4) aNil))))) cNext)
    (cRet (eCall (F_unpack_tuple c (F_unpack_inside c n)) (aCons (eV 0) (aCons (eV 5) (aCons (eV 4) (aCons (e2 dAdd (eV 2) (eC (.int 1))) aNil))))))))))))))
noncomputable def F_unpack (c : CA) : Fn := fnX 2 2
    (cRet (eCall (F_unpack_inside c 21) (aCons (eV 0) (aCons (eV 1) (aCons (eC (.int 0)) aNil)))))
noncomputable def F_is_generation (c : CA) : Fn := fn0 1 1
    (cRet (eAnd (eN (f2 dIsi) (aCons (eV 0) (aCons (eC (.ty "int")) aNil))) (eAnd (eNot (eN (f2 dIsi) (aCons (eV 0) (aCons (eC (.ty "bool")) aNil)))) (e2 dGe (eV 0) (eC (.int 1))))))
noncomputable def F_read_begin (c : CA) : Fn := fn0 1 5
    (cSeq (cSet 1 (e2 dCatL (eLst (aCons (eC (.int (6))) (aCons (eC (.int 3)) aNil))) (eCall (F_pack c 24) (aCons (eC (.str (Str.ofString "begin"))) aNil))))
    (cSeq (cIf (eT (e2 dNeD (eSl dSlL (eV 0) mP0 (mP1 (eN (f1 dLenQ) (aCons (eV 1) aNil)))) (eV 1))) (cRet (eC .non)) cNext)
    (cSeq (cTryT (xmT c.Incomplete c.InvalidRecord) (cSeq (cAsg (eCall (F_unpack c) (aCons (eV 0) (aCons (eN (f1 dLenQ) (aCons (eV 1) aNil)) aNil))) (tgTup (tgCons (tgName 2) (tgCons (tgName 3) tgNil))))
    (cAsg (eCall (F_unpack c) (aCons (eV 0) (aCons (eV 3) aNil))) (tgTup (tgCons (tgName 4) (tgCons (tgName 3) tgNil))))) (noEx (cRet (eC .non))))
    (cSeq (cIf (bNot (eT (eCall (F_is_generation c) (aCons (eV 2) aNil)))) (cRet (eC .non)) cNext)
    (cRet (eTup (aCons (eV 2) (aCons (eV 4) (aCons (eV 3) aNil)))))))))
noncomputable def F_read_events (c : CA) : Fn := fn0 2 5
    (cSeq (cSet 2 (eLst aNil))
    (cSeq (cSet 3 (eV 1))
    (cSeq (cWhile (eT (e2 dLt (eV 3) (eN (f1 dLenQ) (aCons (eV 0) aNil)))) (cSeq (cTryT (xmT c.Incomplete c.InvalidRecord) (cAsg (eCall (F_unpack c) (aCons (eV 0) (aCons (eV 3) aNil))) (tgTup (tgCons (tgName 4) (tgCons (tgName 3) tgNil)))) (noEx (cRet (eV 2))))
    (cDrop (eBM dAppend (eV 2) (aCons (eV 4) aNil)))))
    (cRet (eV 2)))))
noncomputable def F_read_file (c : CA) : Fn := fn0 1 5
    (cSeq (cSet 1 (eCall (F_read_begin c) (aCons (eV 0) aNil)))
    (cSeq (cIf (eT (e2 dIsN (eV 1) (eC .non))) (cRet (eC .non)) cNext)
    (cSeq (cAsg (eV 1) (tgTup (tgCons (tgName 2) (tgCons (tgName 3) (tgCons (tgName 4) tgNil)))))
    (cRet (eTup (aCons (eV 2) (aCons (eV 3) (aCons (eCall (F_read_events c) (aCons (eV 0) (aCons (eV 4) aNil))) aNil))))))))
noncomputable def F_load (c : CA) : Fn := fn0 1 5
    (cSeq (cSet 1 (eC (.int 1)))
    (cSeq (cSet 2 (eTup (aCons (eC (.int 0)) (aCons (eC .non) (aCons (eLst aNil) aNil)))))
    (cSeq (cFor (eBind (eTup (aCons (eC (.int 0)) (aCons (eC (.int 1)) aNil))) sTup) (tgName 3) (cSeq (cSet 4 (eCall (F_read_file c) (aCons (eMeth c.Disk (F_Disk_content c) (eV 0) (aCons (eV 3) aNil)) aNil)))
    (cIf (bAnd (eT (e2 dNotN (eV 4) (eC .non))) (eT (e2 dGt (e2 dIxT (eV 4) (eC (.int 0))) (e2 dIxT (eV 2) (eC (.int 0)))))) (cSeq (cSet 1 (eV 3))
    (cSet 2 (eV 4))) cNext)))
    (cRet (eTup (aCons (eV 1) (aCons (eV 2) aNil)))))))
noncomputable def F_Journal_init (c : CA) : Fn := fn0 2 6
    (cSeq (cAsg (eCall (F_load c) (aCons (eV 1) aNil)) (tgTup (tgCons (tgName 2) (tgCons (tgTup (tgCons (tgName 3) (tgCons (tgName 4) (tgCons (tgName 5) tgNil)))) tgNil))))
    (cSeq (cFld c.Journal 0 (eV 0) (eV 3))
    (cSeq (cFld c.Journal 1 (eV 0) (eV 4))
    (cSeq (cFld c.Journal 2 (eV 0) (eV 5))
    (cSeq (cFld c.Journal 3 (eV 0) (eV 1))
    (cSeq (cFld c.Journal 4 (eV 0) (eV 2))
    (cFld c.Journal 5 (eV 0) (eV 3))))))))
noncomputable def F_Lis_integer (c : CA) : Fn := fn0 1 1
    (cRet (eAnd (eN (f2 dIsi) (aCons (eV 0) (aCons (eC (.ty "int")) aNil))) (eNot (eN (f2 dIsi) (aCons (eV 0) (aCons (eC (.ty "bool")) aNil))))))
noncomputable def F_Journal_events (c : CA) : Fn := fn0 1 1
    (cRet (eN (f1 dListOf) (aCons (e1 (dFld c.Journal 2) (eV 0)) aNil)))
noncomputable def F_Lstored (c : CA) : Fn := fn0 1 4
    (cSeq (cSet 1 (eTup (aCons (eC (.int 0)) (aCons (eC .non) (aCons (eLst aNil) aNil)))))
    (cSeq (cFor (sR1 (aCons (eC (.int 2)) aNil)) (tgName 2) (cSeq (cSet 3 (eCall (F_read_file c) (aCons (eMeth c.Disk (F_Disk_content c) (eV 0) (aCons (eV 2) aNil)) aNil)))
    (cIf (bAnd (eT (e2 dNotN (eV 3) (eC .non))) (eT (e2 dGt (e2 dIxT (eV 3) (eC (.int 0))) (e2 dIxT (eV 1) (eC (.int 0)))))) (cSet 1 (eV 3)) cNext)))
    (cRet (eV 1))))
noncomputable def F_Lloaded (c : CA) : Fn := fn0 1 2
    (cSeq (cSet 1 (eMake c.Journal (F_Journal_init c) (aCons (eV 0) aNil)))
    (cSeq (cIf (bOr (bNot (eT (eN (f2 dIsi) (aCons (eMeth c.Journal (F_Journal_events c) (eV 1) aNil) (aCons (eC (.ty "list")) aNil))))) (bNot (eT (eCall (F_Lis_integer c) (aCons (e1 (dFld c.Journal 0) (eV 1)) aNil))))) (cRet (eC .non)) cNext)
    (cSeq (cIf (eT (e2 dNeD (eTup (aCons (e1 (dFld c.Journal 0) (eV 1)) (aCons (e1 (dFld c.Journal 1) (eV 1)) (aCons (eMeth c.Journal (F_Journal_events c) (eV 1) aNil) aNil)))) (eCall (F_Lstored c) (aCons (eV 0) aNil)))) (cRet (eC .non)) cNext)
    (cRet (eV 1)))))
noncomputable def F_Lrefill (c : CA) : Fn := fn0 2 3
    (cSeq (cSet 2 (eC (.int 0)))
    (cSeq (cIf (bTru (eV 0)) (cSet 2 (e2 dIxR (eV 0) (e2 dMod (eV 1) (eN (f1 dLenQ) (aCons (eV 0) aNil))))) cNext)
    (cSeq (cIf (eT (e2 dLt (eV 2) (eC (.int 0)))) (cSet 2 (e2 dSub (eC (.int 1)) (e2 dMul (eC (.int 2)) (eV 2)))) cNext)
    (cSeq (cIf (bAnd (eT (e2 dGe (eV 2) (e2 dPow (eC (.int 10)) (eC (.int 18))))) (eT (e2 dLt (eV 1) (eN (f1 dLenQ) (aCons (eV 0) aNil))))) (cRet (eV 2)) cNext)
    (cRet (e2 dMod (eN (f1 dInt) (aCons (e2 dAdd (e2 dMul (eN (f1 dInt) (aCons (e2 dAdd (e2 dAdd (e2 dMul (eV 2) (eC (.int 48271))) (e2 dMul (eV 1) (eC (.int 69621)))) (eC (.int 12345))) aNil)) (eC (.int 40692))) (eC (.int 7))) aNil)) (eC (.int 2147483399))))))))
noncomputable def F_Ldraw (c : CA) : Fn := fn0 3 4
    (cSeq (cIf (eT (e2 dEq (e2 dIxL (eV 0) (eC (.int 1))) (eC (.int 0)))) (cSeq (cAsg (eCall (F_Lrefill c) (aCons (eV 1) (aCons (e2 dIxL (eV 0) (eC (.int 0))) aNil))) (tgSub (eV 0) (eC (.int 1)) dSetL))
    (cAsg (e2 dAdd (e2 dIxL (eV 0) (eC (.int 0))) (eC (.int 1))) (tgSub (eV 0) (eC (.int 0)) dSetL))) cNext)
    (cSeq (cSet 3 (e2 dMod (eN (f1 dInt) (aCons (e2 dIxL (eV 0) (eC (.int 1))) aNil)) (eV 2)))
    (cSeq (cAsg (e2 dFdivW (e2 dIxL (eV 0) (eC (.int 1))) (eV 2)) (tgSub (eV 0) (eC (.int 1)) dSetL))
    (cRet (eV 3)))))
noncomputable def F_Lpick (c : CA) : Fn := fn0 3 4
    (cSeq (cSet 3 (eCall (F_Ldraw c) (aCons (eV 0) (aCons (eV 1) (aCons (eN (f1 dLenS) (aCons (eV 2) aNil)) aNil)))))
    (cRet (eSl dSlS (eV 2) (mP1 (eV 3)) (mP1 (e2 dAdd (eV 3) (eC (.int 1)))))))
noncomputable def F_Lline (c : CA) : Fn := fn0 2 6
    (cSeq (cSet 2 (eLst (aCons (eC (.str (Str.ofString ""))) (aCons (eC (.str (Str.ofString "."))) (aCons (eC (.str (Str.ofString ".."))) (aCons (eC (.str (Str.ofString ". x"))) (aCons (eC (.str (Str.ofString "Received: by "))) (aCons (eC (.str (Str.ofString "Received: by q.r"))) (aCons (eC (.str (Str.ofString "received: by x"))) (aCons (eC (.str (Str.ofString " Received: by y"))) (aCons (eC (.str (Str.ofString "To: a"))) (aCons (eC (.str (Str.ofString "~"))) aNil))))))))))))
    (cSeq (cSet 3 (eCall (F_Ldraw c) (aCons (eV 0) (aCons (eV 1) (aCons (eC (.int 3)) aNil)))))
    (cSeq (cIf (eT (e2 dEq (eV 3) (eC (.int 0)))) (cRet (e2 dIxL (eV 2) (eCall (F_Ldraw c) (aCons (eV 0) (aCons (eV 1) (aCons (eC (.int 10)) aNil)))))) cNext)
    (cSeq (cSet 4 (eC (.str (Str.ofString " !\"#$&'()*+,-./0123456789:;<=>?@ABCDEFGHIJKLMNOPQRSTUVWXYZ[\\]^_`abcdefghijklmnopqrstuvwxyz{|}~"))))
    (cRet (eM1 dJoin (eC (.str (Str.ofString ""))) (eLc (sR1 (aCons (eCall (F_Ldraw c) (aCons (eV 0) (aCons (eV 1) (aCons (eC (.int 6)) aNil)))) aNil)) (.one 5) [5] bYes (eCall (F_Lpick c) (aCons (eV 0) (aCons (eV 1) (aCons (eV 4) aNil)))))))))))
noncomputable def F_Levent (c : CA) : Fn := fn0 2 2
    (cRet (eTup (aCons (e2 dAdS (eC (.str (Str.ofString "e"))) (eN (f1 dStr) (aCons (eCall (F_Ldraw c) (aCons (eV 0) (aCons (eV 1) (aCons (eC (.int 5)) aNil)))) aNil))) (aCons (eCall (F_Ldraw c) (aCons (eV 0) (aCons (eV 1) (aCons (eC (.int 400)) aNil)))) (aCons (eCall (F_Lline c) (aCons (eV 0) (aCons (eV 1) aNil))) aNil)))))
noncomputable def F_Lvalue (c : CA) : Nat → Fn
  | 0 => fun _ _ => .bad
  | n + 1 => fn0 3 5
    (cSeq (cSet 3 (eCall (F_Ldraw c) (aCons (eV 0) (aCons (eV 1) (aCons (eC (.int 9)) aNil)))))
    (cSeq (cIf (eT (e2 dEq (eV 3) (eC (.int 0)))) (cRet (e2 dIxL (eLst (aCons (eC .non) (aCons (eC (.bl false)) (aCons (eC (.bl true)) aNil)))) (eCall (F_Ldraw c) (aCons (eV 0) (aCons (eV 1) (aCons (eC (.int 3)) aNil)))))) cNext)
    (cSeq (cIf (eT (e2 dEq (eV 3) (eC (.int 1)))) (cRet (eCall (F_Ldraw c) (aCons (eV 0) (aCons (eV 1) (aCons (eC (.int 300)) aNil))))) cNext)
    (cSeq (cIf (eT (e2 dEq (eV 3) (eC (.int 2)))) (cRet (e1 dNeg (eCall (F_Ldraw c) (aCons (eV 0) (aCons (eV 1) (aCons (eC (.int 300)) aNil)))))) cNext)
    (cSeq (cIf (eT (e2 dEq (eV 3) (eC (.int 3)))) (cRet (e2 dIxL (eLst (aCons (eC (.int 127)) (aCons (eC (.int 128)) (aCons (eC (.int 16383)) (aCons (eC (.int 16384)) (aCons (e1 dNeg (eC (.int 1))) (aCons (e1 dNeg (eC (.int 128))) (aCons (e1 dNeg (eC (.int 129))) (aCons (eC (.int 2097151)) aNil))))))))) (eCall (F_Ldraw c) (aCons (eV 0) (aCons (eV 1) (aCons (eC (.int 8)) aNil)))))) cNext)
    (cSeq (cIf (eT (e2 dEq (eV 3) (eC (.int 4)))) (cRet (e2 dSub (eCall (F_Ldraw c) (aCons (eV 0) (aCons (eV 1) (aCons (e2 dShl (eC (.int 1)) (eC (.int 70))) aNil)))) (e2 dShl (eC (.int 1)) (eC (.int 69))))) cNext)
    (cSeq (cIf (bOr (eT (e2 dLe (eV 3) (eC (.int 6)))) (eT (e2 dEq (eV 2) (eC (.int 0))))) (cRet (eCall (F_Lline c) (aCons (eV 0) (aCons (eV 1) aNil)))) cNext)
    (cRet (eN (f1 dTupL) (aCons (eLc (sR1 (aCons (eCall (F_Ldraw c) (aCons (eV 0) (aCons (eV 1) (aCons (eC (.int 4)) aNil)))) aNil)) (.one 4) [4] bYes (eCall (F_Lvalue c n) (aCons (eV 0) (aCons (eV 1) (aCons (e2 dSub (eV 2) (eC (.int 1))) aNil))))) aNil))))))))))
noncomputable def F_Lneed (c : CA) : Fn := fn0 2 2
    (cSeq (cIf (eT (e2 dEq (e2 dIxT (eV 1) (eC (.int 0))) (eC (.str (Str.ofString "checkpoint"))))) (cRet (e2 dAdd (eC (.int 2)) (eN (f1 dLenQ) (aCons (eCall (F_pack c 24) (aCons (eTup (aCons (eC (.str (Str.ofString "begin"))) (aCons (e2 dAdd (eV 0) (eC (.int 1))) (aCons (e2 dIxT (eV 1) (eC (.int 1))) aNil)))) aNil)) aNil)))) cNext)
    (cRet (e2 dAdd (eC (.int 1)) (eN (f1 dLenQ) (aCons (eCall (F_pack c 24) (aCons (e2 dIxT (eV 1) (eC (.int 1))) aNil)) aNil)))))
noncomputable def F_Lafter (c : CA) : Fn := fn0 2 2
    (cSeq (cIf (eT (e2 dEq (e2 dIxT (eV 1) (eC (.int 0))) (eC (.str (Str.ofString "checkpoint"))))) (cRet (eTup (aCons (e2 dIxT (eV 1) (eC (.int 1))) (aCons (eLst aNil) aNil)))) cNext)
    (cRet (eTup (aCons (e2 dIxT (eV 0) (eC (.int 0))) (aCons (e2 dCatL (e2 dIxT (eV 0) (eC (.int 1))) (eLst (aCons (e2 dIxT (eV 1) (eC (.int 1))) aNil))) aNil)))))
noncomputable def F_Disk_spend (c : CA) : Fn := fn0 2 3
    (cSeq (cIf (eT (e2 dIsN (e1 (dFld c.Disk 2) (eV 0)) (eC .non))) (cRet (eV 1)) cNext)
    (cSeq (cSet 2 (eN (f2 dMax2) (aCons (eC (.int 0)) (aCons (eN (f2 dMin2) (aCons (eV 1) (aCons (e1 (dFld c.Disk 2) (eV 0)) aNil))) aNil))))
    (cSeq (cFld c.Disk 2 (eV 0) (e2 dSub (e1 (dFld c.Disk 2) (eV 0)) (eV 2)))
    (cRet (eV 2)))))
noncomputable def F_Disk_perform (c : CA) : Fn := fnX 3 4
    (cSeq (cSet 3 (eMeth c.Disk (F_Disk_spend c) (eV 0) (aCons (eN (f1 dLenQ) (aCons (eV 2) aNil)) aNil)))
    (cSeq (cDrop (eBM dExtend (e2 dIxL (e1 (dFld c.Disk 1) (eV 0)) (eV 1)) (aCons (eSl dSlL (eV 2) mP0 (mP1 (eV 3))) aNil)))
    (cIf (eT (e2 dLt (eV 3) (eN (f1 dLenQ) (aCons (eV 2) aNil)))) (cRaise c.PowerCut (eC (.str (Str.ofString "the power ended before all steps were performed")))) cNext)))
noncomputable def F_Disk_clear (c : CA) : Fn := fnX 2 2
    (cDrop (eMeth c.Disk (F_Disk_perform c) (eV 0) (aCons (eV 1) (aCons (eLst (aCons (eC (.int (-1))) aNil)) aNil))))
noncomputable def F_Disk_append (c : CA) : Fn := fnX 3 3
    (cDrop (eMeth c.Disk (F_Disk_perform c) (eV 0) (aCons (eV 1) (aCons (eV 2) aNil))))
noncomputable def F_Disk_make_durable (c : CA) : Fn := fn0 3 3
    (cSeq (cAsg (eCall (F_content_after c) (aCons (e2 dIxL (e1 (dFld c.Disk 0) (eV 0)) (eV 1)) (aCons (eSl dSlL (e2 dIxL (e1 (dFld c.Disk 1) (eV 0)) (eV 1)) mP0 (mP1 (eN (f2 dMax2) (aCons (eC (.int 0)) (aCons (eV 2) aNil))))) aNil))) (tgSub (e1 (dFld c.Disk 0) (eV 0)) (eV 1) dSetL))
    (cAsg (eLst aNil) (tgSub (e1 (dFld c.Disk 1) (eV 0)) (eV 1) dSetL)))
noncomputable def F_Disk_sync (c : CA) : Fn := fnX 2 2
    (cSeq (cIf (eT (e2 dLt (eMeth c.Disk (F_Disk_spend c) (eV 0) (aCons (eC (.int 1)) aNil)) (eC (.int 1)))) (cRaise c.PowerCut (eC (.str (Str.ofString "the power ended before the file was synced")))) cNext)
    (cDrop (eMeth c.Disk (F_Disk_make_durable c) (eV 0) (aCons (eV 1) (aCons (eN (f1 dLenQ) (aCons (e2 dIxL (e1 (dFld c.Disk 1) (eV 0)) (eV 1)) aNil)) aNil)))))
noncomputable def F_Journal_checkpoint (c : CA) : Fn := fnX 2 4
    (cSeq (cSet 2 (e2 dSub (eC (.int 1)) (e1 (dFld c.Journal 4) (eV 0))))
    (cSeq (cSet 3 (e2 dAdd (e1 (dFld c.Journal 5) (eV 0)) (eC (.int 1))))
    (cSeq (cDrop (eMeth c.Disk (F_Disk_clear c) (e1 (dFld c.Journal 3) (eV 0)) (aCons (eV 2) aNil)))
    (cSeq (cDrop (eMeth c.Disk (F_Disk_append c) (e1 (dFld c.Journal 3) (eV 0)) (aCons (eV 2) (aCons (eCall (F_pack c 24) (aCons (eTup (aCons (eC (.str (Str.ofString "begin"))) (aCons (eV 3) (aCons (eV 1) aNil)))) aNil)) aNil))))
    (cSeq (cDrop (eMeth c.Disk (F_Disk_sync c) (e1 (dFld c.Journal 3) (eV 0)) (aCons (eV 2) aNil)))
    (cSeq (cFld c.Journal 4 (eV 0) (eV 2))
    (cFld c.Journal 5 (eV 0) (eV 3))))))))
noncomputable def F_Journal_add (c : CA) : Fn := fnX 2 2
    (cSeq (cDrop (eMeth c.Disk (F_Disk_append c) (e1 (dFld c.Journal 3) (eV 0)) (aCons (e1 (dFld c.Journal 4) (eV 0)) (aCons (eCall (F_pack c 24) (aCons (eV 1) aNil)) aNil))))
    (cDrop (eMeth c.Disk (F_Disk_sync c) (e1 (dFld c.Journal 3) (eV 0)) (aCons (e1 (dFld c.Journal 4) (eV 0)) aNil))))
noncomputable def F_Ltried (c : CA) : Fn := fn0 2 2
    (cTry (xm1 c.PowerCut) c.PowerCut (cSeq (cIf (eT (e2 dEq (e2 dIxT (eV 1) (eC (.int 0))) (eC (.str (Str.ofString "checkpoint"))))) (cDrop (eMeth c.Journal (F_Journal_checkpoint c) (eV 0) (aCons (e2 dIxT (eV 1) (eC (.int 1))) aNil))) (cDrop (eMeth c.Journal (F_Journal_add c) (eV 0) (aCons (e2 dIxT (eV 1) (eC (.int 1))) aNil))))
    (cRet (eC (.bl true)))) (noEx (cRet (eC (.bl false)))))
noncomputable def F_Disk_limit (c : CA) : Fn := fn0 2 2
    (cFld c.Disk 2 (eV 0) (eV 1))
noncomputable def F_Disk_crash (c : CA) : Fn := fn0 3 3
    (cSeq (cDrop (eMeth c.Disk (F_Disk_make_durable c) (eV 0) (aCons (eC (.int 0)) (aCons (eV 1) aNil))))
    (cSeq (cDrop (eMeth c.Disk (F_Disk_make_durable c) (eV 0) (aCons (eC (.int 1)) (aCons (eV 2) aNil))))
    (cFld c.Disk 2 (eV 0) (eC .non))))
noncomputable def F_Lkept (c : CA) : Fn := fn0 2 2
    (cRet (e2 dIxL (eLst (aCons (eCall (F_Ldraw c) (aCons (eV 0) (aCons (eV 1) (aCons (eC (.int 50)) aNil)))) (aCons (eC (.int 100000)) (aCons (eC (.int 0)) aNil)))) (eCall (F_Ldraw c) (aCons (eV 0) (aCons (eV 1) (aCons (eC (.int 3)) aNil))))))
noncomputable def F_law (c : CA) : Fn := fn0 1 17
    (cSeq (cSet 1 (eLst (aCons (eC (.int 0)) (aCons (eC (.int 0)) aNil))))
    (cSeq (cSet 2 (eMake c.Disk (F_Disk_init c) aNil))
    (cSeq (cSet 3 (eCall (F_Lloaded c) (aCons (eV 2) aNil)))
    (cSeq (cIf (bOr (eT (e2 dIsN (eV 3) (eC .non))) (eT (e2 dNe (e1 (dFld c.Journal 0) (eV 3)) (eC (.int 0))))) (cRet (eC (.bl false))) cNext)
    (cSeq (cSet 4 (eTup (aCons (eC .non) (aCons (eLst aNil) aNil))))
    (cSeq (cSet 5 (eC (.bl false)))
    (cSeq (cSet 6 (eC (.int 0)))
    (cSeq (cSet 7 (eC .non))
    (cSeq (cFor (sR1 (aCons (eCall (F_Ldraw c) (aCons (eV 1) (aCons (eV 0) (aCons (eC (.int 25)) aNil)))) aNil)) (tgName 8) (cSeq (cSet 9 (eCall (F_Ldraw c) (aCons (eV 1) (aCons (eV 0) (aCons (eC (.int 6)) aNil)))))
    (cSeq (cSet 10 (eV 4))
    (cSeq (cSet 11 (e2 dEq (eV 9) (eC (.int 5))))
    (cSeq (cIf (eT (e2 dLe (eV 9) (eC (.int 3)))) (cSeq (cSet 12 (eTup (aCons (eC (.str (Str.ofString "add"))) (aCons (eCall (F_Levent c) (aCons (eV 1) (aCons (eV 0) aNil))) aNil))))
    (cSeq (cIf (bOr (eT (e2 dEq (eV 9) (eC (.int 0)))) (bNot (eT (eV 5)))) (cSet 12 (eTup (aCons (eC (.str (Str.ofString "checkpoint"))) (aCons (eCall (F_Lvalue c 4) (aCons (eV 1) (aCons (eV 0) (aCons (eC (.int 2)) aNil)))) aNil)))) cNext)
    (cSeq (cSet 13 (eCall (F_Lneed c) (aCons (eV 6) (aCons (eV 12) aNil))))
    (cSeq (cSet 10 (eCall (F_Lafter c) (aCons (eV 4) (aCons (eV 12) aNil))))
    (cSeq (cSet 14 (eCall (F_Ltried c) (aCons (eV 3) (aCons (eV 12) aNil))))
    (cSeq (cIf (eT (e2 dNe (eV 14) (eOr (e2 dIsN (eV 7) (eC .non)) (e2 dLe (eV 13) (eV 7))))) (cRet (eC (.bl false))) cNext)
    (cSeq (cSet 11 (eNot (eV 14)))
    (cIf (eT (eV 14)) (cSeq (cSet 4 (eV 10))
    (cSeq (cSet 5 (eC (.bl true)))
    (cSeq (cSet 6 (e2 dAdd (eV 6) (eN (f1 dInt) (aCons (e2 dEq (e2 dIxT (eV 12) (eC (.int 0))) (eC (.str (Str.ofString "checkpoint")))) aNil))))
    (cIf (eT (e2 dNotN (eV 7) (eC .non))) (cSet 7 (e2 dSub (eV 7) (eV 13))) cNext)))) cNext)))))))) cNext)
    (cSeq (cIf (eT (e2 dEq (eV 9) (eC (.int 4)))) (cSeq (cSet 7 (e2 dIxL (eLst (aCons (eC .non) (aCons (eCall (F_Ldraw c) (aCons (eV 1) (aCons (eV 0) (aCons (eC (.int 61)) aNil)))) (aCons (eCall (F_Ldraw c) (aCons (eV 1) (aCons (eV 0) (aCons (eC (.int 9)) aNil)))) aNil)))) (eCall (F_Ldraw c) (aCons (eV 1) (aCons (eV 0) (aCons (eC (.int 3)) aNil))))))
    (cDrop (eMeth c.Disk (F_Disk_limit c) (eV 2) (aCons (eV 7) aNil)))) cNext)
    (cSeq (cIf (eT (eV 11)) (cSeq (cDrop (eMeth c.Disk (F_Disk_crash c) (eV 2) (aCons (eCall (F_Lkept c) (aCons (eV 1) (aCons (eV 0) aNil))) (aCons (eCall (F_Lkept c) (aCons (eV 1) (aCons (eV 0) aNil))) aNil))))
    (cSeq (cSet 7 (eC .non))
    (cSeq (cSet 3 (eCall (F_Lloaded c) (aCons (eV 2) aNil)))
    (cSeq (cIf (bOr (eT (e2 dIsN (eV 3) (eC .non))) (eT (e2 dLt (e1 (dFld c.Journal 0) (eV 3)) (eV 6)))) (cRet (eC (.bl false))) cNext)
    (cSeq (cSet 15 (eTup (aCons (e1 (dFld c.Journal 1) (eV 3)) (aCons (eN (f1 dListOf) (aCons (eMeth c.Journal (F_Journal_events c) (eV 3) aNil) aNil)) aNil))))
    (cSeq (cIf (bAnd (eT (e2 dNeD (eV 15) (eV 4))) (eT (e2 dNeD (eV 15) (eV 10)))) (cRet (eC (.bl false))) cNext)
    (cSeq (cSet 4 (eV 15))
    (cSeq (cSet 6 (e1 (dFld c.Journal 0) (eV 3)))
    (cSet 5 (eC (.bl false))))))))))) cNext)
    (cSeq (cSet 16 (eCall (F_Lloaded c) (aCons (eV 2) aNil)))
    (cIf (bOr (eT (e2 dIsN (eV 16) (eC .non))) (bOr (eT (e2 dNeD (eTup (aCons (e1 (dFld c.Journal 1) (eV 16)) (aCons (eMeth c.Journal (F_Journal_events c) (eV 16) aNil) aNil))) (eV 4))) (eT (e2 dNe (e1 (dFld c.Journal 0) (eV 16)) (eV 6))))) (cRet (eC (.bl false))) cNext)))))))))
    (cRet (eC (.bl true))))))))))))
def topS (i : Nat) : Stmt := PySem.Challenge.pw_dawkline_k08_whole_journals_survive_cras.main.body.getD i (.Pass ⟨0, 0, 0, 0⟩)
abbrev s_Disk_init : Stmt := inClass (topS 37) 0
abbrev N_Disk_init : List Str := ["self"]
theorem sc_Disk_init : FnScope N_Disk_init ["self"] (defScope s_Disk_init) := ⟨rfl, rfl, rfl, by decide +kernel, rfl, by decide +kernel, by decide +kernel⟩
abbrev s_content_after : Stmt := topS 38
abbrev N_content_after : List Str := ["content", "steps", "changed", "step"]
theorem sc_content_after : FnScope N_content_after ["content", "steps"] (defScope s_content_after) := ⟨rfl, rfl, rfl, by decide +kernel, rfl, by decide +kernel, by decide +kernel⟩
abbrev s_Disk_content : Stmt := inClass (topS 37) 4
abbrev N_Disk_content : List Str := ["self", "file"]
theorem sc_Disk_content : FnScope N_Disk_content ["self", "file"] (defScope s_Disk_content) := ⟨rfl, rfl, rfl, by decide +kernel, rfl, by decide +kernel, by decide +kernel⟩
abbrev s_pack_count : Stmt := topS 19
abbrev N_pack_count : List Str := ["count", "groups"]
theorem sc_pack_count : FnScope N_pack_count ["count"] (defScope s_pack_count) := ⟨rfl, rfl, rfl, by decide +kernel, rfl, by decide +kernel, by decide +kernel⟩
abbrev s_pack_integer : Stmt := topS 18
abbrev N_pack_integer : List Str := ["number"]
theorem sc_pack_integer : FnScope N_pack_integer ["number"] (defScope s_pack_integer) := ⟨rfl, rfl, rfl, by decide +kernel, rfl, by decide +kernel, by decide +kernel⟩
abbrev s_pack : Stmt := topS 17
abbrev N_pack : List Str := ["value", "data", "item", "sign"]
theorem sc_pack : FnScope N_pack ["value"] (defScope s_pack) := ⟨rfl, rfl, rfl, by decide +kernel, rfl, by decide +kernel, by decide +kernel⟩
abbrev s_byte_at : Stmt := topS 26
abbrev N_byte_at : List Str := ["data", "at"]
theorem sc_byte_at : FnScope N_byte_at ["data", "at"] (defScope s_byte_at) := ⟨rfl, rfl, rfl, by decide +kernel, rfl, by decide +kernel, by decide +kernel⟩
abbrev s_unpack_count : Stmt := topS 22
abbrev N_unpack_count : List Str := ["data", "at", "count", "weight", "place"]
theorem sc_unpack_count : FnScope N_unpack_count ["data", "at"] (defScope s_unpack_count) := ⟨rfl, rfl, rfl, by decide +kernel, rfl, by decide +kernel, by decide +kernel⟩
abbrev s_is_code : Stmt := topS 25
abbrev N_is_code : List Str := ["byte"]
theorem sc_is_code : FnScope N_is_code ["byte"] (defScope s_is_code) := ⟨rfl, rfl, rfl, by decide +kernel, rfl, by decide +kernel, by decide +kernel⟩
abbrev s_unpack_string : Stmt := topS 23
abbrev N_unpack_string : List Str := ["data", "at", "count", "codes", "place", "code"]
theorem sc_unpack_string : FnScope N_unpack_string ["data", "at", "count"] (defScope s_unpack_string) := ⟨rfl, rfl, rfl, by decide +kernel, rfl, by decide +kernel, by decide +kernel⟩
abbrev s_unpack_tuple : Stmt := topS 24
abbrev N_unpack_tuple : List Str := ["data", "at", "count", "depth", "items", "place", "item"]
theorem sc_unpack_tuple : FnScope N_unpack_tuple ["data", "at", "count", "depth"] (defScope s_unpack_tuple) := ⟨rfl, rfl, rfl, by decide +kernel, rfl, by decide +kernel, by decide +kernel⟩
abbrev s_unpack_inside : Stmt := topS 21
abbrev N_unpack_inside : List Str := ["data", "at", "depth", "kind", "count", "place"]
theorem sc_unpack_inside : FnScope N_unpack_inside ["data", "at", "depth"] (defScope s_unpack_inside) := ⟨rfl, rfl, rfl, by decide +kernel, rfl, by decide +kernel, by decide +kernel⟩
abbrev s_unpack : Stmt := topS 20
abbrev N_unpack : List Str := ["data", "at"]
theorem sc_unpack : FnScope N_unpack ["data", "at"] (defScope s_unpack) := ⟨rfl, rfl, rfl, by decide +kernel, rfl, by decide +kernel, by decide +kernel⟩
abbrev s_is_generation : Stmt := topS 33
abbrev N_is_generation : List Str := ["value"]
theorem sc_is_generation : FnScope N_is_generation ["value"] (defScope s_is_generation) := ⟨rfl, rfl, rfl, by decide +kernel, rfl, by decide +kernel, by decide +kernel⟩
abbrev s_read_begin : Stmt := topS 32
abbrev N_read_begin : List Str := ["content", "start", "generation", "place", "value"]
theorem sc_read_begin : FnScope N_read_begin ["content"] (defScope s_read_begin) := ⟨rfl, rfl, rfl, by decide +kernel, rfl, by decide +kernel, by decide +kernel⟩
abbrev s_read_events : Stmt := topS 34
abbrev N_read_events : List Str := ["content", "at", "events", "place", "event"]
theorem sc_read_events : FnScope N_read_events ["content", "at"] (defScope s_read_events) := ⟨rfl, rfl, rfl, by decide +kernel, rfl, by decide +kernel, by decide +kernel⟩
abbrev s_read_file : Stmt := topS 31
abbrev N_read_file : List Str := ["content", "begin", "generation", "value", "place"]
theorem sc_read_file : FnScope N_read_file ["content"] (defScope s_read_file) := ⟨rfl, rfl, rfl, by decide +kernel, rfl, by decide +kernel, by decide +kernel⟩
abbrev s_load : Stmt := topS 30
abbrev N_load : List Str := ["disk", "current", "loaded", "file", "found"]
theorem sc_load : FnScope N_load ["disk"] (defScope s_load) := ⟨rfl, rfl, rfl, by decide +kernel, rfl, by decide +kernel, by decide +kernel⟩
abbrev s_Journal_init : Stmt := inClass (topS 29) 0
abbrev N_Journal_init : List Str := ["self", "disk", "file", "generation", "value", "events"]
theorem sc_Journal_init : FnScope N_Journal_init ["self", "disk"] (defScope s_Journal_init) := ⟨rfl, rfl, rfl, by decide +kernel, rfl, by decide +kernel, by decide +kernel⟩
abbrev s_Lis_integer : Stmt := topS 40
abbrev N_Lis_integer : List Str := ["actual"]
theorem sc_Lis_integer : FnScope N_Lis_integer ["actual"] (defScope s_Lis_integer) := ⟨rfl, rfl, rfl, by decide +kernel, rfl, by decide +kernel, by decide +kernel⟩
abbrev s_Journal_events : Stmt := inClass (topS 29) 1
abbrev N_Journal_events : List Str := ["self"]
theorem sc_Journal_events : FnScope N_Journal_events ["self"] (defScope s_Journal_events) := ⟨rfl, rfl, rfl, by decide +kernel, rfl, by decide +kernel, by decide +kernel⟩
abbrev s_Lstored : Stmt := topS 57
abbrev N_Lstored : List Str := ["disk", "best", "file", "found"]
theorem sc_Lstored : FnScope N_Lstored ["disk"] (defScope s_Lstored) := ⟨rfl, rfl, rfl, by decide +kernel, rfl, by decide +kernel, by decide +kernel⟩
abbrev s_Lloaded : Stmt := topS 58
abbrev N_Lloaded : List Str := ["disk", "journal"]
theorem sc_Lloaded : FnScope N_Lloaded ["disk"] (defScope s_Lloaded) := ⟨rfl, rfl, rfl, by decide +kernel, rfl, by decide +kernel, by decide +kernel⟩
abbrev s_Lrefill : Stmt := topS 41
abbrev N_Lrefill : List Str := ["script", "k", "cell"]
theorem sc_Lrefill : FnScope N_Lrefill ["script", "k"] (defScope s_Lrefill) := ⟨rfl, rfl, rfl, by decide +kernel, rfl, by decide +kernel, by decide +kernel⟩
abbrev s_Ldraw : Stmt := topS 42
abbrev N_Ldraw : List Str := ["state", "script", "size", "digit"]
theorem sc_Ldraw : FnScope N_Ldraw ["state", "script", "size"] (defScope s_Ldraw) := ⟨rfl, rfl, rfl, by decide +kernel, rfl, by decide +kernel, by decide +kernel⟩
abbrev s_Lpick : Stmt := topS 45
abbrev N_Lpick : List Str := ["state", "script", "signs", "k"]
theorem sc_Lpick : FnScope N_Lpick ["state", "script", "signs"] (defScope s_Lpick) := ⟨rfl, rfl, rfl, by decide +kernel, rfl, by decide +kernel, by decide +kernel⟩
abbrev s_Lline : Stmt := topS 49
abbrev N_Lline : List Str := ["state", "script", "pool", "kind", "signs", "k"]
theorem sc_Lline : FnScope N_Lline ["state", "script"] (defScope s_Lline) := ⟨rfl, rfl, rfl, by decide +kernel, rfl, by decide +kernel, by decide +kernel⟩
abbrev s_Levent : Stmt := topS 55
abbrev N_Levent : List Str := ["state", "script"]
theorem sc_Levent : FnScope N_Levent ["state", "script"] (defScope s_Levent) := ⟨rfl, rfl, rfl, by decide +kernel, rfl, by decide +kernel, by decide +kernel⟩
abbrev s_Lvalue : Stmt := topS 51
abbrev N_Lvalue : List Str := ["state", "script", "depth", "kind", "k"]
theorem sc_Lvalue : FnScope N_Lvalue ["state", "script", "depth"] (defScope s_Lvalue) := ⟨rfl, rfl, rfl, by decide +kernel, rfl, by decide +kernel, by decide +kernel⟩
abbrev s_Lneed : Stmt := topS 59
abbrev N_Lneed : List Str := ["generation", "act"]
theorem sc_Lneed : FnScope N_Lneed ["generation", "act"] (defScope s_Lneed) := ⟨rfl, rfl, rfl, by decide +kernel, rfl, by decide +kernel, by decide +kernel⟩
abbrev s_Lafter : Stmt := topS 60
abbrev N_Lafter : List Str := ["content", "act"]
theorem sc_Lafter : FnScope N_Lafter ["content", "act"] (defScope s_Lafter) := ⟨rfl, rfl, rfl, by decide +kernel, rfl, by decide +kernel, by decide +kernel⟩
abbrev s_Disk_spend : Stmt := inClass (topS 37) 9
abbrev N_Disk_spend : List Str := ["self", "steps", "lasting"]
theorem sc_Disk_spend : FnScope N_Disk_spend ["self", "steps"] (defScope s_Disk_spend) := ⟨rfl, rfl, rfl, by decide +kernel, rfl, by decide +kernel, by decide +kernel⟩
abbrev s_Disk_perform : Stmt := inClass (topS 37) 8
abbrev N_Disk_perform : List Str := ["self", "file", "steps", "lasting"]
theorem sc_Disk_perform : FnScope N_Disk_perform ["self", "file", "steps"] (defScope s_Disk_perform) := ⟨rfl, rfl, rfl, by decide +kernel, rfl, by decide +kernel, by decide +kernel⟩
abbrev s_Disk_clear : Stmt := inClass (topS 37) 2
abbrev N_Disk_clear : List Str := ["self", "file"]
theorem sc_Disk_clear : FnScope N_Disk_clear ["self", "file"] (defScope s_Disk_clear) := ⟨rfl, rfl, rfl, by decide +kernel, rfl, by decide +kernel, by decide +kernel⟩
abbrev s_Disk_append : Stmt := inClass (topS 37) 1
abbrev N_Disk_append : List Str := ["self", "file", "data"]
theorem sc_Disk_append : FnScope N_Disk_append ["self", "file", "data"] (defScope s_Disk_append) := ⟨rfl, rfl, rfl, by decide +kernel, rfl, by decide +kernel, by decide +kernel⟩
abbrev s_Disk_make_durable : Stmt := inClass (topS 37) 10
abbrev N_Disk_make_durable : List Str := ["self", "file", "many"]
theorem sc_Disk_make_durable : FnScope N_Disk_make_durable ["self", "file", "many"] (defScope s_Disk_make_durable) := ⟨rfl, rfl, rfl, by decide +kernel, rfl, by decide +kernel, by decide +kernel⟩
abbrev s_Disk_sync : Stmt := inClass (topS 37) 3
abbrev N_Disk_sync : List Str := ["self", "file"]
theorem sc_Disk_sync : FnScope N_Disk_sync ["self", "file"] (defScope s_Disk_sync) := ⟨rfl, rfl, rfl, by decide +kernel, rfl, by decide +kernel, by decide +kernel⟩
abbrev s_Journal_checkpoint : Stmt := inClass (topS 29) 2
abbrev N_Journal_checkpoint : List Str := ["self", "value", "file", "generation"]
theorem sc_Journal_checkpoint : FnScope N_Journal_checkpoint ["self", "value"] (defScope s_Journal_checkpoint) := ⟨rfl, rfl, rfl, by decide +kernel, rfl, by decide +kernel, by decide +kernel⟩
abbrev s_Journal_add : Stmt := inClass (topS 29) 3
abbrev N_Journal_add : List Str := ["self", "event"]
theorem sc_Journal_add : FnScope N_Journal_add ["self", "event"] (defScope s_Journal_add) := ⟨rfl, rfl, rfl, by decide +kernel, rfl, by decide +kernel, by decide +kernel⟩
abbrev s_Ltried : Stmt := topS 56
abbrev N_Ltried : List Str := ["journal", "act"]
theorem sc_Ltried : FnScope N_Ltried ["journal", "act"] (defScope s_Ltried) := ⟨rfl, rfl, rfl, by decide +kernel, rfl, by decide +kernel, by decide +kernel⟩
abbrev s_Disk_limit : Stmt := inClass (topS 37) 6
abbrev N_Disk_limit : List Str := ["self", "steps"]
theorem sc_Disk_limit : FnScope N_Disk_limit ["self", "steps"] (defScope s_Disk_limit) := ⟨rfl, rfl, rfl, by decide +kernel, rfl, by decide +kernel, by decide +kernel⟩
abbrev s_Disk_crash : Stmt := inClass (topS 37) 7
abbrev N_Disk_crash : List Str := ["self", "a", "b"]
theorem sc_Disk_crash : FnScope N_Disk_crash ["self", "a", "b"] (defScope s_Disk_crash) := ⟨rfl, rfl, rfl, by decide +kernel, rfl, by decide +kernel, by decide +kernel⟩
abbrev s_Lkept : Stmt := topS 61
abbrev N_Lkept : List Str := ["state", "script"]
theorem sc_Lkept : FnScope N_Lkept ["state", "script"] (defScope s_Lkept) := ⟨rfl, rfl, rfl, by decide +kernel, rfl, by decide +kernel, by decide +kernel⟩
abbrev s_law : Stmt := topS 62
abbrev N_law : List Str := ["script", "state", "disk", "journal", "content", "begun", "generation", "power", "k", "kind", "maybe", "down", "act", "need", "done", "told", "other"]
theorem sc_law : FnScope N_law ["script"] (defScope s_law) := ⟨rfl, rfl, rfl, by decide +kernel, rfl, by decide +kernel, by decide +kernel⟩
/-- what the top has written -/
structure Tx (K : PySem.W.Frag) (N : Nms) (mg : Str → Option Value) (c : CA) : Prop where
  m_Disk_init : Mn K c.Disk "__init__" "Disk.__init__" s_Disk_init ["self"]
  d_content_after : Dn K mg "content_after" s_content_after ["content", "steps"]
  m_Disk_content : Mn K c.Disk "content" "Disk.content" s_Disk_content ["self", "file"]
  d_pack_count : Dn K mg "pack_count" s_pack_count ["count"]
  d_pack_integer : Dn K mg "pack_integer" s_pack_integer ["number"]
  d_pack : Dn K mg "pack" s_pack ["value"]
  d_byte_at : Dn K mg "byte_at" s_byte_at ["data", "at"]
  d_unpack_count : Dn K mg "unpack_count" s_unpack_count ["data", "at"]
  d_is_code : Dn K mg "is_code" s_is_code ["byte"]
  d_unpack_string : Dn K mg "unpack_string" s_unpack_string ["data", "at", "count"]
  d_unpack_tuple : Dn K mg "unpack_tuple" s_unpack_tuple ["data", "at", "count", "depth"]
  d_unpack_inside : Dn K mg "unpack_inside" s_unpack_inside ["data", "at", "depth"]
  d_unpack : DnD K mg "unpack" s_unpack ["data", "at"] [.int 0]
  d_is_generation : Dn K mg "is_generation" s_is_generation ["value"]
  d_read_begin : Dn K mg "read_begin" s_read_begin ["content"]
  d_read_events : Dn K mg "read_events" s_read_events ["content", "at"]
  d_read_file : Dn K mg "read_file" s_read_file ["content"]
  d_load : Dn K mg "load" s_load ["disk"]
  m_Journal_init : Mn K c.Journal "__init__" "Journal.__init__" s_Journal_init ["self", "disk"]
  d_Lis_integer : Dn K mg "_law_is_integer" s_Lis_integer ["actual"]
  p_Journal_events : Pn K c.Journal "events" "Journal.events" s_Journal_events
  d_Lstored : Dn K mg "_law_stored" s_Lstored ["disk"]
  d_Lloaded : Dn K mg "_law_loaded" s_Lloaded ["disk"]
  d_Lrefill : Dn K mg "_law_refill" s_Lrefill ["script", "k"]
  d_Ldraw : Dn K mg "_law_draw" s_Ldraw ["state", "script", "size"]
  d_Lpick : Dn K mg "_law_pick" s_Lpick ["state", "script", "signs"]
  d_Lline : Dn K mg "_law_line" s_Lline ["state", "script"]
  d_Levent : Dn K mg "_law_event" s_Levent ["state", "script"]
  d_Lvalue : Dn K mg "_law_value" s_Lvalue ["state", "script", "depth"]
  d_Lneed : Dn K mg "_law_need" s_Lneed ["generation", "act"]
  d_Lafter : Dn K mg "_law_after" s_Lafter ["content", "act"]
  m_Disk_spend : Mn K c.Disk "_spend" "Disk._spend" s_Disk_spend ["self", "steps"]
  m_Disk_perform : Mn K c.Disk "_perform" "Disk._perform" s_Disk_perform ["self", "file", "steps"]
  m_Disk_clear : Mn K c.Disk "clear" "Disk.clear" s_Disk_clear ["self", "file"]
  m_Disk_append : Mn K c.Disk "append" "Disk.append" s_Disk_append ["self", "file", "data"]
  m_Disk_make_durable : Mn K c.Disk "_make_durable" "Disk._make_durable" s_Disk_make_durable ["self", "file", "many"]
  m_Disk_sync : Mn K c.Disk "sync" "Disk.sync" s_Disk_sync ["self", "file"]
  m_Journal_checkpoint : Mn K c.Journal "checkpoint" "Journal.checkpoint" s_Journal_checkpoint ["self", "value"]
  m_Journal_add : Mn K c.Journal "add" "Journal.add" s_Journal_add ["self", "event"]
  d_Ltried : Dn K mg "_law_tried" s_Ltried ["journal", "act"]
  m_Disk_limit : Mn K c.Disk "limit" "Disk.limit" s_Disk_limit ["self", "steps"]
  m_Disk_crash : Mn K c.Disk "crash" "Disk.crash" s_Disk_crash ["self", "a", "b"]
  d_Lkept : Dn K mg "_law_kept" s_Lkept ["state", "script"]
  d_law : Dn K mg "law" s_law ["script"]
  c_CLEARING : ∃ t, mg "CLEARING" = some (.int (-1) t)
  c_NEGATIVE : ∃ t, mg "NEGATIVE" = some (.int (4) t)
  c_NATURAL : ∃ t, mg "NATURAL" = some (.int (3) t)
  c_NONE : ∃ t, mg "NONE" = some (.int (0) t)
  c_TRUE : ∃ t, mg "TRUE" = some (.int (2) t)
  c_FALSE : ∃ t, mg "FALSE" = some (.int (1) t)
  c_STRING : ∃ t, mg "STRING" = some (.int (5) t)
  c_TUPLE : ∃ t, mg "TUPLE" = some (.int (6) t)
  c_BARRED_CODE : ∃ t, mg "BARRED_CODE" = some (.int (37) t)
  c_FIRST_CODE : ∃ t, mg "FIRST_CODE" = some (.int (32) t)
  c_SIGNS : ∃ t, mg "SIGNS" = some (.str (Str.ofString " !\"#$ &'()*+,-./0123456789:;<=>?@ABCDEFGHIJKLMNOPQRSTUVWXYZ[\\]^_`abcdefghijklmnopqrstuvwxyz{|}~") t)
  c_DEEPEST : ∃ t, mg "DEEPEST" = some (.int (20) t)
  c_BEGIN : ∃ t, mg "BEGIN" = some (.str (Str.ofString "begin") t)
  z_list : mg "list" = none
  z_bool : mg "bool" = none
  z_isinstance : mg "isinstance" = none
  z_int : mg "int" = none
  z_str : mg "str" = none
  z_len : mg "len" = none
  z_ord : mg "ord" = none
  z_enumerate : mg "enumerate" = none
  z_tuple : mg "tuple" = none
  z_range : mg "range" = none
  z_min : mg "min" = none
  z_max : mg "max" = none
  k_Disk : Cs K mg "Disk" c.Disk
  f_Disk : CF K N c.Disk fs_Disk
  k_Journal : Cs K mg "Journal" c.Journal
  f_Journal : CF K N c.Journal fs_Journal
  x_PowerCut : ExN K mg "PowerCut" c.PowerCut c.MailError
  e_Incomplete : ErN N.P K mg "Incomplete" c.Incomplete
  e_InvalidRecord : ErN N.P K mg "InvalidRecord" c.InvalidRecord
  xt : ∀ C' b, xmT c.Incomplete c.InvalidRecord C' = some b → PySem.W.exmAny K (.ref C') [.ref c.Incomplete, .ref c.InvalidRecord] = some b
section
variable {P : Program} {w : World} {K : PySem.W.Frag} {Nf : Addr → List Str} {mg : Str → Option Value} {base : Heap} {c : CA}
theorem ok_Disk_init (T : Tx K ⟨Nf, P, w⟩ mg c) : OkM P w K mg base CX0 1 c.Disk "__init__" ["self"] (spA K ⟨Nf, P, w⟩ (F_Disk_init c)) := okM0 T.m_Disk_init sc_Disk_init rfl rfl fun f cdv A outer s H E hr =>
    (ass_cons (as_fld (i := 0) T.f_Disk rfl (ae_var (pv 0)) (ae_lst (aa_cons (ae_lst aa_nil) (aa_cons (ae_lst aa_nil) aa_nil))) rfl)
      (ass_cons (as_fld (i := 1) T.f_Disk rfl (ae_var (pv 0)) (ae_lst (aa_cons (ae_lst aa_nil) (aa_cons (ae_lst aa_nil) aa_nil))) rfl)
      (ass_one (as_fld (i := 2) T.f_Disk rfl (ae_var (pv 0)) ae_non rfl))))
theorem ok_content_after (T : Tx K ⟨Nf, P, w⟩ mg c) : OkD P w K mg base CX0 1 "content_after" ["content", "steps"] (spA K ⟨Nf, P, w⟩ (F_content_after c)) := okA0 T.d_content_after sc_content_after rfl rfl fun f cdv A outer s H E hr =>
    (ass_cons (as_set (i := 2) sc_content_after.nd rfl (.inl rfl) (ae_cb k_listOf (pe_callTy y_listOf (by rfl) T.z_list (by decide +kernel) (aa_cons (ae_var (pv 0)) aa_nil))))
      (ass_cons (as_for (q := true) PassesOwn.never rfl (ai_list (ae_var (pv 1))) (ag_name (i := 3) sc_content_after.nd rfl (Or.inl rfl)) (ass_one (as_if (at_cmp op_eq k_eq (ae_var (pv 3)) (ae_kI (by rfl) T.c_CLEARING) (nomark _)) (ass_one (as_expr (ae_bmP0 k_clear (pe_bm0 PySem.F.plainAttrs_list PySem.F.slot_list_clear PySem.F.type_list_clear mt_clear (ae_var (pv 2)))))) (ass_one (as_expr (ae_bmP k_append (pe_bm PySem.F.plainAttrs_list PySem.F.slot_list_append PySem.F.type_list_append mt_append (ae_var (pv 2)) (aa_cons (ae_var (pv 3)) aa_nil))))))))
      (ass_one (as_ret (ae_var (pv 2))))))
theorem ok_Disk_content (T : Tx K ⟨Nf, P, w⟩ mg c) : OkM P w K mg base CX0 2 c.Disk "content" ["self", "file"] (spA K ⟨Nf, P, w⟩ (F_Disk_content c)) := okM0 T.m_Disk_content sc_Disk_content rfl rfl fun f cdv A outer s H E hr =>
    (ass_one (as_ret (ae_call (ok_content_after T) hr (by rfl) (aa_cons (ae_ixL (ae_fld (i := 0) T.f_Disk rfl (ae_var (pv 0)) rfl) (ae_var (pv 1))) (aa_cons (ae_ixL (ae_fld (i := 1) T.f_Disk rfl (ae_var (pv 0)) rfl) (ae_var (pv 1))) aa_nil)))))
theorem ok_pack_count (T : Tx K ⟨Nf, P, w⟩ mg c) : OkD P w K mg base CX0 1 "pack_count" ["count"] (spA K ⟨Nf, P, w⟩ (F_pack_count c)) := okA0 T.d_pack_count sc_pack_count rfl rfl fun f cdv A outer s H E hr =>
    (ass_cons (as_set (i := 1) sc_pack_count.nd rfl (.inl rfl) (ae_lst aa_nil))
      (ass_cons (as_while PassesOwn.never (at_cmp op_gt k_gt (ae_var (pv 0)) ae_int (nomark _)) (ass_cons (as_expr (ae_bmP k_append (pe_bm PySem.F.plainAttrs_list PySem.F.slot_list_append PySem.F.type_list_append mt_append (ae_var (pv 1)) (aa_cons (ae_add ae_int (ae_band (ae_var (pv 0)) ae_int)) aa_nil))))
      (ass_one (as_set (i := 0) sc_pack_count.nd rfl (.inl rfl) (ae_shr (ae_var (pv 0)) ae_int)))))
      (ass_cons (as_expr (ae_bmP k_append (pe_bm PySem.F.plainAttrs_list PySem.F.slot_list_append PySem.F.type_list_append mt_append (ae_var (pv 1)) (aa_cons (ae_var (pv 0)) aa_nil))))
      (ass_one (as_ret (ae_var (pv 1)))))))
theorem ok_pack_integer (T : Tx K ⟨Nf, P, w⟩ mg c) : OkD P w K mg base CX0 2 "pack_integer" ["number"] (spA K ⟨Nf, P, w⟩ (F_pack_integer c)) := okA0 T.d_pack_integer sc_pack_integer rfl rfl fun f cdv A outer s H E hr =>
    (ass_cons (as_if (at_cmp op_lt k_lt (ae_var (pv 0)) ae_int (nomark _)) (ass_one (as_ret (ae_cat (ae_lst (aa_cons (ae_kI (by rfl) T.c_NEGATIVE) aa_nil)) (ae_call (ok_pack_count T) hr (by rfl) (aa_cons (ae_sub (ae_neg (ae_var (pv 0))) ae_int) aa_nil))))) ass_nil)
      (ass_one (as_ret (ae_cat (ae_lst (aa_cons (ae_kI (by rfl) T.c_NATURAL) aa_nil)) (ae_call (ok_pack_count T) hr (by rfl) (aa_cons (ae_var (pv 0)) aa_nil))))))
theorem ok_pack (T : Tx K ⟨Nf, P, w⟩ mg c) : ∀ n, OkD P w K mg base CX0 (3 + n) "pack" ["value"] (spA K ⟨Nf, P, w⟩ (F_pack c n))
  | 0 => okD_bad0 T.d_pack
  | n + 1 => okA0 T.d_pack sc_pack rfl rfl fun f cdv A outer s H E hr =>
    (ass_cons (as_if (at_cmp y_isN k_isN (ae_var (pv 0)) ae_non (nomark _)) (ass_one (as_ret (ae_lst (aa_cons (ae_kI (by rfl) T.c_NONE) aa_nil)))) ass_nil)
      (ass_cons (as_if (at_val (ae_cb k_isi (pe_callB call_isi (by rfl) T.z_isinstance (by decide +kernel) (aa_cons (ae_var (pv 0)) (aa_cons (ae_c (pe_bltn (v := .ty "bool") (by rfl) T.z_bool (by decide +kernel) rfl) (fun _ _ => rfl)) aa_nil))))) (ass_one (as_ret (ae_lst (aa_cons (ae_ifE (at_val (ae_var (pv 0))) (ae_kI (by rfl) T.c_TRUE) (ae_kI (by rfl) T.c_FALSE)) aa_nil)))) ass_nil)
      (ass_cons (as_if (at_val (ae_cb k_isi (pe_callB call_isi (by rfl) T.z_isinstance (by decide +kernel) (aa_cons (ae_var (pv 0)) (aa_cons (ae_c (pe_bltn (v := .ty "int") (by rfl) T.z_int (by decide +kernel) rfl) (fun _ _ => rfl)) aa_nil))))) (ass_one (as_ret (ae_call (ok_pack_integer T) (hr.mono (Nat.le_trans (by decide : (2 : Nat) ≤ 3) (Nat.le_add_right 3 n))) (by rfl) (aa_cons (ae_var (pv 0)) aa_nil)))) ass_nil)
      (ass_cons (as_if (at_val (ae_cb k_isi (pe_callB call_isi (by rfl) T.z_isinstance (by decide +kernel) (aa_cons (ae_var (pv 0)) (aa_cons (ae_c (pe_bltn (v := .ty "str") (by rfl) T.z_str (by decide +kernel) rfl) (fun _ _ => rfl)) aa_nil))))) (ass_one (as_ret (ae_cat (ae_cat (ae_lst (aa_cons (ae_kI (by rfl) T.c_STRING) aa_nil)) (ae_call (ok_pack_count T) (hr.mono (Nat.le_trans (by decide : (1 : Nat) ≤ 3) (Nat.le_add_right 3 n))) (by rfl) (aa_cons (ae_cb k_lenS (pe_callB y_lenS (by rfl) T.z_len (by decide +kernel) (aa_cons (ae_var (pv 0)) aa_nil))) aa_nil))) (ae_lc (t := (.one 3)) (own := [("sign", 3)]) rfl sc_pack.nd (ai_str (ae_var (pv 0))) (blkOk_by (N := N_pack) (sc := defScope s_pack) (by decide +kernel)) (fun _ _ _ _ _ => (ct_one (i := 3) sc_pack.nd rfl (Or.inl rfl))) (fun _ _ _ _ _ => ats_nil) (fun _ _ _ _ _ => (ae_cb k_ord (pe_callB call_ord (by rfl) T.z_ord (by decide +kernel) (aa_cons (ae_var (pv 3)) aa_nil)))))))) ass_nil)
      (ass_cons (as_set (i := 1) sc_pack.nd rfl (.inl rfl) (ae_cat (ae_lst (aa_cons (ae_kI (by rfl) T.c_TUPLE) aa_nil)) (ae_call (ok_pack_count T) (hr.mono (Nat.le_trans (by decide : (1 : Nat) ≤ 3) (Nat.le_add_right 3 n))) (by rfl) (aa_cons (ae_cb k_lenQ (pe_callB y_lenQ (by rfl) T.z_len (by decide +kernel) (aa_cons (ae_var (pv 0)) aa_nil))) aa_nil))))
      (ass_cons (as_for (q := true) PassesOwn.never rfl (ai_tup (ae_var (pv 0))) (ag_name (i := 2) sc_pack.nd rfl (Or.inl rfl)) (ass_one (as_expr (ae_bmP k_extend (pe_bm PySem.F.plainAttrs_list PySem.F.slot_list_extend PySem.F.type_list_extend mt_extend (ae_var (pv 1)) (aa_cons (ae_call (ok_pack T n) hr (by rfl) (aa_cons (ae_var (pv 2)) aa_nil)) aa_nil))))))
      (ass_one (as_ret (ae_var (pv 1))))))))))
theorem ok_byte_at (T : Tx K ⟨Nf, P, w⟩ mg c) : OkD P w K mg base (L2.CX P w) 2 "byte_at" ["data", "at"] (spA K ⟨Nf, P, w⟩ (F_byte_at c)) := okAX T.d_byte_at sc_byte_at rfl rfl fun f cdv A outer s H E hr =>
    (ass_cons (as_if (at_cmp op_ge k_ge (ae_var (pv 1)) (ae_cb k_lenQ (pe_callB y_lenQ (by rfl) T.z_len (by decide +kernel) (aa_cons (ae_var (pv 0)) aa_nil))) (nomark _)) (ass_one (as_raiseE rfl T.e_Incomplete hr (by decide) (takes_of rfl rfl rfl rfl) (ae_cb k_lenQ (pe_callB y_lenQ (by rfl) T.z_len (by decide +kernel) (aa_cons (ae_var (pv 0)) aa_nil))))) ass_nil)
      (ass_one (as_ret (ae_ixL (ae_var (pv 0)) (ae_var (pv 1))))))
theorem ok_unpack_count (T : Tx K ⟨Nf, P, w⟩ mg c) : OkD P w K mg base (L2.CX P w) 3 "unpack_count" ["data", "at"] (spA K ⟨Nf, P, w⟩ (F_unpack_count c)) := okAX T.d_unpack_count sc_unpack_count rfl rfl fun f cdv A outer s H E hr =>
    (ass_cons (as_set (i := 2) sc_unpack_count.nd rfl (.inl rfl) ae_int)
      (ass_cons (as_set (i := 3) sc_unpack_count.nd rfl (.inl rfl) ae_int)
      (ass_cons (as_set (i := 4) sc_unpack_count.nd rfl (.inl rfl) (ae_var (pv 1)))
      (ass_cons (as_while (passes_of rfl) (at_cmp op_gt k_gt (ae_callX (ok_byte_at T) (takes_of rfl rfl rfl rfl) hr (by rfl) (aa_cons (ae_var (pv 0)) (aa_cons (ae_var (pv 4)) aa_nil))) ae_int (nomark _)) (ass_cons (as_set (i := 2) sc_unpack_count.nd rfl (.inl rfl) (ae_add (ae_var (pv 2)) (ae_mul (ae_band (ae_ixL (ae_var (pv 0)) (ae_var (pv 4))) ae_int) (ae_var (pv 3)))))
      (ass_cons (as_set (i := 3) sc_unpack_count.nd rfl (.inl rfl) (ae_mul (ae_var (pv 3)) ae_int))
      (ass_one (as_set (i := 4) sc_unpack_count.nd rfl (.inl rfl) (ae_add (ae_var (pv 4)) ae_int))))))
      (ass_cons (as_if (PW.pt (aw_and (at_cmp op_eq k_eq (ae_ixL (ae_var (pv 0)) (ae_var (pv 4))) ae_int (nomark _)) (aw_and1 (at_cmp op_gt k_gt (ae_var (pv 4)) (ae_var (pv 1)) (nomark _))))) (ass_one (as_raiseE rfl T.e_InvalidRecord hr (by decide) (takes_of rfl rfl rfl rfl) (ae_var (pv 4)))) ass_nil)
      (ass_one (as_ret (ae_tup (aa_cons (ae_add (ae_var (pv 2)) (ae_mul (ae_ixL (ae_var (pv 0)) (ae_var (pv 4))) (ae_var (pv 3)))) (aa_cons (ae_add (ae_var (pv 4)) ae_int) aa_nil))))))))))
theorem ok_is_code (T : Tx K ⟨Nf, P, w⟩ mg c) : OkD P w K mg base CX0 1 "is_code" ["byte"] (spA K ⟨Nf, P, w⟩ (F_is_code c)) := okA0 T.d_is_code sc_is_code rfl rfl fun f cdv A outer s H E hr =>
    (ass_one (as_ret (ae_and (ae_chain op_le op_lt k_le k_lt ae_int (ae_sub (ae_var (pv 0)) (ae_kI (by rfl) T.c_FIRST_CODE)) (ae_cb k_lenS (pe_callB y_lenS (by rfl) T.z_len (by decide +kernel) (aa_cons (ae_kS (by rfl) T.c_SIGNS) aa_nil)))) (ae_one (ae_cmp op_ne k_ne (ae_var (pv 0)) (ae_kI (by rfl) T.c_BARRED_CODE) (nomark _))))))
theorem ok_unpack_string (T : Tx K ⟨Nf, P, w⟩ mg c) : OkD P w K mg base (L2.CX P w) 2 "unpack_string" ["data", "at", "count"] (spA K ⟨Nf, P, w⟩ (F_unpack_string c)) := okAX T.d_unpack_string sc_unpack_string rfl rfl fun f cdv A outer s H E hr =>
    (ass_cons (as_set (i := 3) sc_unpack_string.nd rfl (.inl rfl) (ae_slice sl_list k_slL (ae_var (pv 0)) (pox_some (W := noW) (ae_var (pv 1))) (pox_some (W := noW) (ae_add (ae_var (pv 1)) (ae_var (pv 2))))))
      (ass_cons (as_for (q := false) (passes_of rfl) rfl (ai_enumF (by rfl) T.z_enumerate (ae_var (pv 3)) (ae_var (pv 1))) (ag_tup (by rfl) (ags_cons (ag_name (i := 4) sc_unpack_string.nd rfl (Or.inl rfl)) (ags_cons (ag_name (i := 5) sc_unpack_string.nd rfl (Or.inl rfl)) ags_nil)) (tgl_cons (tgl_cons tgl_nil))) (ass_one (as_if (at_not (at_val (ae_call (ok_is_code T) hr (by rfl) (aa_cons (ae_var (pv 5)) aa_nil)))) (ass_one (as_raiseE rfl T.e_InvalidRecord hr (by decide) (takes_of rfl rfl rfl rfl) (ae_var (pv 4)))) ass_nil)))
      (ass_cons (as_if (at_cmp op_lt k_lt (ae_cb k_lenQ (pe_callB y_lenQ (by rfl) T.z_len (by decide +kernel) (aa_cons (ae_var (pv 3)) aa_nil))) (ae_var (pv 2)) (nomark _)) (ass_one (as_raiseE rfl T.e_Incomplete hr (by decide) (takes_of rfl rfl rfl rfl) (ae_cb k_lenQ (pe_callB y_lenQ (by rfl) T.z_len (by decide +kernel) (aa_cons (ae_var (pv 0)) aa_nil))))) ass_nil)
      (ass_one (as_ret (ae_tup (aa_cons (ae_m1 PySem.F.slot_str_join PySem.F.type_str_join y_join k_join ae_str (ae_lc (t := (.one 5)) (own := [("code", 5)]) rfl sc_unpack_string.nd (ai_list (ae_var (pv 3))) (blkOk_by (N := N_unpack_string) (sc := defScope s_unpack_string) (by decide +kernel)) (fun _ _ _ _ _ => (ct_one (i := 5) sc_unpack_string.nd rfl (Or.inl rfl))) (fun _ _ _ _ _ => ats_nil) (fun _ _ _ _ _ => (ae_ixS (ae_kS (by rfl) T.c_SIGNS) (ae_sub (ae_var (pv 5)) (ae_kI (by rfl) T.c_FIRST_CODE)))))) (aa_cons (ae_add (ae_var (pv 1)) (ae_var (pv 2))) aa_nil))))))))
theorem ok_unpack_tuple (T : Tx K ⟨Nf, P, w⟩ mg c) {k : Nat} {g : Fn} (hk : 1 ≤ k) (ih : OkD P w K mg base (L2.CX P w) k "unpack_inside" ["data", "at", "depth"] (spA K ⟨Nf, P, w⟩ g)) : OkD P w K mg base (L2.CX P w) (k + 1) "unpack_tuple" ["data", "at", "count", "depth"] (spA K ⟨Nf, P, w⟩ (F_unpack_tuple c g)) := okAX T.d_unpack_tuple sc_unpack_tuple rfl rfl fun f cdv A outer s H E hr =>
    (ass_cons (as_set (i := 4) sc_unpack_tuple.nd rfl (.inl rfl) (ae_lst aa_nil))
      (ass_cons (as_set (i := 5) sc_unpack_tuple.nd rfl (.inl rfl) (ae_var (pv 1)))
      (ass_cons (as_while (passes_of rfl) (at_cmp op_lt k_lt (ae_cb k_lenQ (pe_callB y_lenQ (by rfl) T.z_len (by decide +kernel) (aa_cons (ae_var (pv 4)) aa_nil))) (ae_var (pv 2)) (nomark _)) (ass_cons (as_asg (ae_callX ih (takes_of rfl rfl rfl rfl) hr (by rfl) (aa_cons (ae_var (pv 0)) (aa_cons (ae_var (pv 5)) (aa_cons (ae_var (pv 3)) aa_nil)))) (AGw.ag (ag_tup (by rfl) (ags_cons (ag_name (i := 6) sc_unpack_tuple.nd rfl (Or.inl rfl)) (ags_cons (ag_name (i := 5) sc_unpack_tuple.nd rfl (Or.inl rfl)) ags_nil)) (tgl_cons (tgl_cons tgl_nil)))))
      (ass_one (as_expr (ae_bmP k_append (pe_bm PySem.F.plainAttrs_list PySem.F.slot_list_append PySem.F.type_list_append mt_append (ae_var (pv 4)) (aa_cons (ae_var (pv 6)) aa_nil)))))))
      (ass_one (as_ret (ae_tup (aa_cons (ae_cb k_tup (pe_callTy y_tup (by rfl) T.z_tuple (by decide +kernel) (aa_cons (ae_var (pv 4)) aa_nil))) (aa_cons (ae_var (pv 5)) aa_nil))))))))
theorem ok_unpack_inside (T : Tx K ⟨Nf, P, w⟩ mg c) : ∀ n, OkD P w K mg base (L2.CX P w) (4 + 2 * n) "unpack_inside" ["data", "at", "depth"] (spA K ⟨Nf, P, w⟩ (F_unpack_inside c n))
  | 0 => okD_badX T.d_unpack_inside
  | n + 1 => okAX T.d_unpack_inside sc_unpack_inside rfl rfl fun f cdv A outer s H E hr =>
    (ass_cons (as_set (i := 3) sc_unpack_inside.nd rfl (.inl rfl) (ae_callX (ok_byte_at T) (takes_of rfl rfl rfl rfl) (hr.mono (Nat.le_trans (by decide : (2 : Nat) ≤ 4) (Nat.le_add_right 4 (2 * n + 1)))) (by rfl) (aa_cons (ae_var (pv 0)) (aa_cons (ae_var (pv 1)) aa_nil))))
      (ass_cons (as_if (PW.pt (aw_or (at_cmp op_gt k_gt (ae_var (pv 3)) (ae_kI (by rfl) T.c_TUPLE) (nomark _)) (aw_or1 (PW.pt (aw_and (at_cmp op_eq k_eq (ae_var (pv 3)) (ae_kI (by rfl) T.c_TUPLE) (nomark _)) (aw_and1 (at_cmp op_eq k_eq (ae_var (pv 2)) (ae_kI (by rfl) T.c_DEEPEST) (nomark _)))))))) (ass_one (as_raiseE rfl T.e_InvalidRecord hr (Nat.le_trans (by decide : (1 : Nat) ≤ 4) (Nat.le_add_right 4 (2 * n + 1))) (takes_of rfl rfl rfl rfl) (ae_var (pv 1)))) ass_nil)
      (ass_cons (as_if (at_cmp op_eq k_eq (ae_var (pv 3)) (ae_kI (by rfl) T.c_NONE) (nomark _)) (ass_one (as_ret (ae_tup (aa_cons ae_non (aa_cons (ae_add (ae_var (pv 1)) ae_int) aa_nil))))) ass_nil)
      (ass_cons (as_if (at_cmp op_in_seq (k_in false) (ae_var (pv 3)) (ae_tup (aa_cons (ae_kI (by rfl) T.c_FALSE) (aa_cons (ae_kI (by rfl) T.c_TRUE) aa_nil))) (by rfl)) (ass_one (as_ret (ae_tup (aa_cons (ae_cmp op_eq k_eq (ae_var (pv 3)) (ae_kI (by rfl) T.c_TRUE) (nomark _)) (aa_cons (ae_add (ae_var (pv 1)) ae_int) aa_nil))))) ass_nil)
      (ass_cons (as_asg (ae_callX (ok_unpack_count T) (takes_of rfl rfl rfl rfl) (hr.mono (Nat.le_trans (by decide : (3 : Nat) ≤ 4) (Nat.le_add_right 4 (2 * n + 1)))) (by rfl) (aa_cons (ae_var (pv 0)) (aa_cons (ae_add (ae_var (pv 1)) ae_int) aa_nil))) (AGw.ag (ag_tup (by rfl) (ags_cons (ag_name (i := 4) sc_unpack_inside.nd rfl (Or.inl rfl)) (ags_cons (ag_name (i := 5) sc_unpack_inside.nd rfl (Or.inl rfl)) ags_nil)) (tgl_cons (tgl_cons tgl_nil)))))
      (ass_cons (as_if (at_cmp op_eq k_eq (ae_var (pv 3)) (ae_kI (by rfl) T.c_NATURAL) (nomark _)) (ass_one (as_ret (ae_tup (aa_cons (ae_var (pv 4)) (aa_cons (ae_var (pv 5)) aa_nil))))) ass_nil)
      (ass_cons (as_if (at_cmp op_eq k_eq (ae_var (pv 3)) (ae_kI (by rfl) T.c_NEGATIVE) (nomark _)) (ass_one (as_ret (ae_tup (aa_cons (ae_sub (ae_neg (ae_var (pv 4))) ae_int) (aa_cons (ae_var (pv 5)) aa_nil))))) ass_nil)
      (ass_cons (as_if (at_cmp op_eq k_eq (ae_var (pv 3)) (ae_kI (by rfl) T.c_STRING) (nomark _)) (ass_one (as_ret (ae_callX (ok_unpack_string T) (takes_of rfl rfl rfl rfl) (hr.mono (Nat.le_trans (by decide : (2 : Nat) ≤ 4) (Nat.le_add_right 4 (2 * n + 1)))) (by rfl) (aa_cons (ae_var (pv 0)) (aa_cons (ae_var (pv 5)) (aa_cons (ae_var (pv 4)) aa_nil)))))) ass_nil)
      (ass_one (as_ret (ae_callX (ok_unpack_tuple T (Nat.le_trans (by decide : (1 : Nat) ≤ 4) (Nat.le_add_right 4 (2 * n))) (ok_unpack_inside T n)) (takes_of rfl rfl rfl rfl) hr (by rfl) (aa_cons (ae_var (pv 0)) (aa_cons (ae_var (pv 5)) (aa_cons (ae_var (pv 4)) (aa_cons (ae_add (ae_var (pv 2)) ae_int) aa_nil)))))))))))))))
theorem ok_unpack (T : Tx K ⟨Nf, P, w⟩ mg c) : OkD P w K mg base (L2.CX P w) 47 "unpack" ["data", "at"] (spA K ⟨Nf, P, w⟩ (F_unpack c)) := okUX T.d_unpack (fun f fd F => by
    obtain ⟨d0, v0, b0⟩ := F.binds1 (ps := ["data", "at"]) 2 1 (by simp) rfl fun T kV doc pm an cdv ct us its hu hi => match us, hu, its, hi with
      | [_, _], _, [_], _ => ⟨_, rfl, rfl⟩
    cases v0
    exact b0) sc_unpack rfl rfl fun f cdv A outer s H E hr =>
    (ass_one (as_ret (ae_callX (ok_unpack_inside T 21) (takes_of rfl rfl rfl rfl) hr (by rfl) (aa_cons (ae_var (pv 0)) (aa_cons (ae_var (pv 1)) (aa_cons ae_int aa_nil))))))
theorem ok_is_generation (T : Tx K ⟨Nf, P, w⟩ mg c) : OkD P w K mg base CX0 1 "is_generation" ["value"] (spA K ⟨Nf, P, w⟩ (F_is_generation c)) := okA0 T.d_is_generation sc_is_generation rfl rfl fun f cdv A outer s H E hr =>
    (ass_one (as_ret (ae_and (ae_cb k_isi (pe_callB call_isi (by rfl) T.z_isinstance (by decide +kernel) (aa_cons (ae_var (pv 0)) (aa_cons (ae_c (pe_bltn (v := .ty "int") (by rfl) T.z_int (by decide +kernel) rfl) (fun _ _ => rfl)) aa_nil)))) (ae_and (ae_not (ae_cb k_isi (pe_callB call_isi (by rfl) T.z_isinstance (by decide +kernel) (aa_cons (ae_var (pv 0)) (aa_cons (ae_c (pe_bltn (v := .ty "bool") (by rfl) T.z_bool (by decide +kernel) rfl) (fun _ _ => rfl)) aa_nil))))) (ae_one (ae_cmp op_ge k_ge (ae_var (pv 0)) ae_int (nomark _)))))))
theorem ok_read_begin (T : Tx K ⟨Nf, P, w⟩ mg c) : OkD P w K mg base CX0 48 "read_begin" ["content"] (spA K ⟨Nf, P, w⟩ (F_read_begin c)) := okA0 T.d_read_begin sc_read_begin rfl rfl fun f cdv A outer s H E hr =>
    (ass_cons (as_set (i := 1) sc_read_begin.nd rfl (.inl rfl) (ae_cat (ae_lst (aa_cons (ae_kI (by rfl) T.c_TUPLE) (aa_cons ae_int aa_nil))) (ae_call (ok_pack T 24) (hr.mono (by decide)) (by rfl) (aa_cons (ae_kS (by rfl) T.c_BEGIN) aa_nil))))
      (ass_cons (as_if (at_cmp (op_neD hr.units) k_neD (ae_slice sl_list k_slL (ae_var (pv 0)) pox_none (pox_some (W := noW) (ae_cb k_lenQ (pe_callB y_lenQ (by rfl) T.z_len (by decide +kernel) (aa_cons (ae_var (pv 1)) aa_nil))))) (ae_var (pv 1)) (nomark _)) (ass_one (as_ret ae_non)) ass_nil)
      (ass_cons (as_tryT (x1 := "Incomplete") (x2 := "InvalidRecord") (c1 := c.Incomplete) (c2 := c.InvalidRecord) (xm := xmT c.Incomplete c.InvalidRecord) rfl rfl ⟨by rfl, by decide, .inl T.e_Incomplete.gC⟩ ⟨by rfl, by decide, .inl T.e_InvalidRecord.gC⟩ takes0 T.xt (fun W pn xe tk p => (ass_cons (as_asg (ae_callX (ok_unpack T) tk hr (by rfl) (aa_cons (ae_var (pv 0)) (aa_cons (ae_cb k_lenQ (pe_callB y_lenQ (by rfl) T.z_len (by decide +kernel) (aa_cons (ae_var (pv 1)) aa_nil))) aa_nil))) (AGw.ag (ag_tup (by rfl) (ags_cons (ag_name (i := 2) sc_read_begin.nd rfl (Or.inl rfl)) (ags_cons (ag_name (i := 3) sc_read_begin.nd rfl (Or.inl rfl)) ags_nil)) (tgl_cons (tgl_cons tgl_nil)))))
      (ass_one (as_asg (ae_callX (ok_unpack T) tk hr (by rfl) (aa_cons (ae_var (pv 0)) (aa_cons (ae_var (pv 3)) aa_nil))) (AGw.ag (ag_tup (by rfl) (ags_cons (ag_name (i := 4) sc_read_begin.nd rfl (Or.inl rfl)) (ags_cons (ag_name (i := 3) sc_read_begin.nd rfl (Or.inl rfl)) ags_nil)) (tgl_cons (tgl_cons tgl_nil)))))))) (fun a oe cls d pn hz hf => (ass_one (as_ret ae_non))))
      (ass_cons (as_if (at_not (at_val (ae_call (ok_is_generation T) (hr.mono (by decide)) (by rfl) (aa_cons (ae_var (pv 2)) aa_nil)))) (ass_one (as_ret ae_non)) ass_nil)
      (ass_one (as_ret (ae_tup (aa_cons (ae_var (pv 2)) (aa_cons (ae_var (pv 4)) (aa_cons (ae_var (pv 3)) aa_nil))))))))))
theorem ok_read_events (T : Tx K ⟨Nf, P, w⟩ mg c) : OkD P w K mg base CX0 48 "read_events" ["content", "at"] (spA K ⟨Nf, P, w⟩ (F_read_events c)) := okA0 T.d_read_events sc_read_events rfl rfl fun f cdv A outer s H E hr =>
    (ass_cons (as_set (i := 2) sc_read_events.nd rfl (.inl rfl) (ae_lst aa_nil))
      (ass_cons (as_set (i := 3) sc_read_events.nd rfl (.inl rfl) (ae_var (pv 1)))
      (ass_cons (as_while PassesOwn.never (at_cmp op_lt k_lt (ae_var (pv 3)) (ae_cb k_lenQ (pe_callB y_lenQ (by rfl) T.z_len (by decide +kernel) (aa_cons (ae_var (pv 0)) aa_nil))) (nomark _)) (ass_cons (as_tryT (x1 := "Incomplete") (x2 := "InvalidRecord") (c1 := c.Incomplete) (c2 := c.InvalidRecord) (xm := xmT c.Incomplete c.InvalidRecord) rfl rfl ⟨by rfl, by decide, .inl T.e_Incomplete.gC⟩ ⟨by rfl, by decide, .inl T.e_InvalidRecord.gC⟩ takes0 T.xt (fun W pn xe tk p => (ass_one (as_asg (ae_callX (ok_unpack T) tk hr (by rfl) (aa_cons (ae_var (pv 0)) (aa_cons (ae_var (pv 3)) aa_nil))) (AGw.ag (ag_tup (by rfl) (ags_cons (ag_name (i := 4) sc_read_events.nd rfl (Or.inl rfl)) (ags_cons (ag_name (i := 3) sc_read_events.nd rfl (Or.inl rfl)) ags_nil)) (tgl_cons (tgl_cons tgl_nil))))))) (fun a oe cls d pn hz hf => (ass_one (as_ret (ae_var (pv 2))))))
      (ass_one (as_expr (ae_bmP k_append (pe_bm PySem.F.plainAttrs_list PySem.F.slot_list_append PySem.F.type_list_append mt_append (ae_var (pv 2)) (aa_cons (ae_var (pv 4)) aa_nil)))))))
      (ass_one (as_ret (ae_var (pv 2)))))))
theorem ok_read_file (T : Tx K ⟨Nf, P, w⟩ mg c) : OkD P w K mg base CX0 49 "read_file" ["content"] (spA K ⟨Nf, P, w⟩ (F_read_file c)) := okA0 T.d_read_file sc_read_file rfl rfl fun f cdv A outer s H E hr =>
    (ass_cons (as_set (i := 1) sc_read_file.nd rfl (.inl rfl) (ae_call (ok_read_begin T) hr (by rfl) (aa_cons (ae_var (pv 0)) aa_nil)))
      (ass_cons (as_if (at_cmp y_isN k_isN (ae_var (pv 1)) ae_non (nomark _)) (ass_one (as_ret ae_non)) ass_nil)
      (ass_cons (as_asg (ae_var (pv 1)) (AGw.ag (ag_tup (by rfl) (ags_cons (ag_name (i := 2) sc_read_file.nd rfl (Or.inl rfl)) (ags_cons (ag_name (i := 3) sc_read_file.nd rfl (Or.inl rfl)) (ags_cons (ag_name (i := 4) sc_read_file.nd rfl (Or.inl rfl)) ags_nil))) (tgl_cons (tgl_cons (tgl_cons tgl_nil))))))
      (ass_one (as_ret (ae_tup (aa_cons (ae_var (pv 2)) (aa_cons (ae_var (pv 3)) (aa_cons (ae_call (ok_read_events T) hr (by rfl) (aa_cons (ae_var (pv 0)) (aa_cons (ae_var (pv 4)) aa_nil))) aa_nil)))))))))
theorem ok_load (T : Tx K ⟨Nf, P, w⟩ mg c) : OkD P w K mg base CX0 50 "load" ["disk"] (spA K ⟨Nf, P, w⟩ (F_load c)) := okA0 T.d_load sc_load rfl rfl fun f cdv A outer s H E hr =>
    (ass_cons (as_set (i := 1) sc_load.nd rfl (.inl rfl) ae_int)
      (ass_cons (as_set (i := 2) sc_load.nd rfl (.inl rfl) (ae_tup (aa_cons ae_int (aa_cons ae_non (aa_cons (ae_lst aa_nil) aa_nil)))))
      (ass_cons (as_for (q := true) PassesOwn.never rfl (ai_tup (ae_tup (aa_cons ae_int (aa_cons ae_int aa_nil)))) (ag_name (i := 3) sc_load.nd rfl (Or.inl rfl)) (ass_cons (as_set (i := 4) sc_load.nd rfl (.inl rfl) (ae_call (ok_read_file T) hr (by rfl) (aa_cons (ae_meth T.f_Disk (by decide +kernel) (ok_Disk_content T) (hr.mono (by decide)) (ae_var (pv 0)) (aa_cons (ae_var (pv 3)) aa_nil)) aa_nil)))
      (ass_one (as_if (PW.pt (aw_and (at_cmp y_notN k_notN (ae_var (pv 4)) ae_non (nomark _)) (aw_and1 (at_cmp op_gt k_gt (ae_ixT (ae_var (pv 4)) ae_int) (ae_ixT (ae_var (pv 2)) ae_int) (nomark _))))) (ass_cons (as_set (i := 1) sc_load.nd rfl (.inl rfl) (ae_var (pv 3)))
      (ass_one (as_set (i := 2) sc_load.nd rfl (.inl rfl) (ae_var (pv 4))))) ass_nil))))
      (ass_one (as_ret (ae_tup (aa_cons (ae_var (pv 1)) (aa_cons (ae_var (pv 2)) aa_nil))))))))
theorem ok_Journal_init (T : Tx K ⟨Nf, P, w⟩ mg c) : OkM P w K mg base CX0 51 c.Journal "__init__" ["self", "disk"] (spA K ⟨Nf, P, w⟩ (F_Journal_init c)) := okM0 T.m_Journal_init sc_Journal_init rfl rfl fun f cdv A outer s H E hr =>
    (ass_cons (as_asg (ae_call (ok_load T) hr (by rfl) (aa_cons (ae_var (pv 1)) aa_nil)) (AGw.ag (ag_tup (by rfl) (ags_cons (ag_name (i := 2) sc_Journal_init.nd rfl (Or.inl rfl)) (ags_cons (AGw.ag (ag_tup (by rfl) (ags_cons (ag_name (i := 3) sc_Journal_init.nd rfl (Or.inl rfl)) (ags_cons (ag_name (i := 4) sc_Journal_init.nd rfl (Or.inl rfl)) (ags_cons (ag_name (i := 5) sc_Journal_init.nd rfl (Or.inl rfl)) ags_nil))) (tgl_cons (tgl_cons (tgl_cons tgl_nil))))) ags_nil)) (tgl_cons (tgl_cons tgl_nil)))))
      (ass_cons (as_fld (i := 0) T.f_Journal rfl (ae_var (pv 0)) (ae_var (pv 3)) rfl)
      (ass_cons (as_fld (i := 1) T.f_Journal rfl (ae_var (pv 0)) (ae_var (pv 4)) rfl)
      (ass_cons (as_fld (i := 2) T.f_Journal rfl (ae_var (pv 0)) (ae_var (pv 5)) rfl)
      (ass_cons (as_fld (i := 3) T.f_Journal rfl (ae_var (pv 0)) (ae_var (pv 1)) rfl)
      (ass_cons (as_fld (i := 4) T.f_Journal rfl (ae_var (pv 0)) (ae_var (pv 2)) rfl)
      (ass_one (as_fld (i := 5) T.f_Journal rfl (ae_var (pv 0)) (ae_var (pv 3)) rfl))))))))
theorem ok_Lis_integer (T : Tx K ⟨Nf, P, w⟩ mg c) : OkD P w K mg base CX0 1 "_law_is_integer" ["actual"] (spA K ⟨Nf, P, w⟩ (F_Lis_integer c)) := okA0 T.d_Lis_integer sc_Lis_integer rfl rfl fun f cdv A outer s H E hr =>
    (ass_one (as_ret (ae_and (ae_cb k_isi (pe_callB call_isi (by rfl) T.z_isinstance (by decide +kernel) (aa_cons (ae_var (pv 0)) (aa_cons (ae_c (pe_bltn (v := .ty "int") (by rfl) T.z_int (by decide +kernel) rfl) (fun _ _ => rfl)) aa_nil)))) (ae_one (ae_not (ae_cb k_isi (pe_callB call_isi (by rfl) T.z_isinstance (by decide +kernel) (aa_cons (ae_var (pv 0)) (aa_cons (ae_c (pe_bltn (v := .ty "bool") (by rfl) T.z_bool (by decide +kernel) rfl) (fun _ _ => rfl)) aa_nil)))))))))
theorem ok_Journal_events (T : Tx K ⟨Nf, P, w⟩ mg c) : OkP P w K mg base 1 c.Journal "events" (spA K ⟨Nf, P, w⟩ (F_Journal_events c)) := okP0 T.p_Journal_events sc_Journal_events rfl fun f cdv A outer s H E hr =>
    (ass_one (as_ret (ae_cb k_listOf (pe_callTy y_listOf (by rfl) T.z_list (by decide +kernel) (aa_cons (ae_fld (i := 2) T.f_Journal rfl (ae_var (pv 0)) rfl) aa_nil)))))
theorem ok_Lstored (T : Tx K ⟨Nf, P, w⟩ mg c) : OkD P w K mg base CX0 50 "_law_stored" ["disk"] (spA K ⟨Nf, P, w⟩ (F_Lstored c)) := okA0 T.d_Lstored sc_Lstored rfl rfl fun f cdv A outer s H E hr =>
    (ass_cons (as_set (i := 1) sc_Lstored.nd rfl (.inl rfl) (ae_tup (aa_cons ae_int (aa_cons ae_non (aa_cons (ae_lst aa_nil) aa_nil)))))
      (ass_cons (as_for (q := true) PassesOwn.never rfl (ai_range1 (by rfl) T.z_range (aa_cons ae_int aa_nil)) (ag_name (i := 2) sc_Lstored.nd rfl (Or.inl rfl)) (ass_cons (as_set (i := 3) sc_Lstored.nd rfl (.inl rfl) (ae_call (ok_read_file T) hr (by rfl) (aa_cons (ae_meth T.f_Disk (by decide +kernel) (ok_Disk_content T) (hr.mono (by decide)) (ae_var (pv 0)) (aa_cons (ae_var (pv 2)) aa_nil)) aa_nil)))
      (ass_one (as_if (PW.pt (aw_and (at_cmp y_notN k_notN (ae_var (pv 3)) ae_non (nomark _)) (aw_and1 (at_cmp op_gt k_gt (ae_ixT (ae_var (pv 3)) ae_int) (ae_ixT (ae_var (pv 1)) ae_int) (nomark _))))) (ass_one (as_set (i := 1) sc_Lstored.nd rfl (.inl rfl) (ae_var (pv 3)))) ass_nil))))
      (ass_one (as_ret (ae_var (pv 1))))))
theorem ok_Lloaded (T : Tx K ⟨Nf, P, w⟩ mg c) : OkD P w K mg base CX0 53 "_law_loaded" ["disk"] (spA K ⟨Nf, P, w⟩ (F_Lloaded c)) := okA0 T.d_Lloaded sc_Lloaded rfl rfl fun f cdv A outer s H E hr =>
    (ass_cons (as_set (i := 1) sc_Lloaded.nd rfl (.inl rfl) (ae_make T.k_Journal (ok_Journal_init T) hr (by rfl) (aa_cons (ae_var (pv 0)) aa_nil)))
      (ass_cons (as_if (PW.pt (aw_or (at_not (at_val (ae_cb k_isi (pe_callB call_isi (by rfl) T.z_isinstance (by decide +kernel) (aa_cons (ae_prop T.f_Journal (by decide +kernel) (ok_Journal_events T) (hr.mono (by decide)) (ae_var (pv 1))) (aa_cons (ae_c (pe_bltn (v := .ty "list") (by rfl) T.z_list (by decide +kernel) rfl) (fun _ _ => rfl)) aa_nil)))))) (aw_or1 (at_not (at_val (ae_call (ok_Lis_integer T) (hr.mono (by decide)) (by rfl) (aa_cons (ae_fld (i := 0) T.f_Journal rfl (ae_var (pv 1)) rfl) aa_nil))))))) (ass_one (as_ret ae_non)) ass_nil)
      (ass_cons (as_if (at_cmp (op_neD hr.units) k_neD (ae_tup (aa_cons (ae_fld (i := 0) T.f_Journal rfl (ae_var (pv 1)) rfl) (aa_cons (ae_fld (i := 1) T.f_Journal rfl (ae_var (pv 1)) rfl) (aa_cons (ae_prop T.f_Journal (by decide +kernel) (ok_Journal_events T) (hr.mono (by decide)) (ae_var (pv 1))) aa_nil)))) (ae_call (ok_Lstored T) (hr.mono (by decide)) (by rfl) (aa_cons (ae_var (pv 0)) aa_nil)) (nomark _)) (ass_one (as_ret ae_non)) ass_nil)
      (ass_one (as_ret (ae_var (pv 1)))))))
theorem ok_Lrefill (T : Tx K ⟨Nf, P, w⟩ mg c) : OkD P w K mg base CX0 1 "_law_refill" ["script", "k"] (spA K ⟨Nf, P, w⟩ (F_Lrefill c)) := okA0 T.d_Lrefill sc_Lrefill rfl rfl fun f cdv A outer s H E hr =>
    (ass_cons (as_set (i := 2) sc_Lrefill.nd rfl (.inl rfl) ae_int)
      (ass_cons (as_if (at_truth (ae_var (pv 0)) (by intro _; rfl)) (ass_one (as_set (i := 2) sc_Lrefill.nd rfl (.inl rfl) (ae_ixR (ae_var (pv 0)) (ae_mod (ae_var (pv 1)) (ae_cb k_lenQ (pe_callB y_lenQ (by rfl) T.z_len (by decide +kernel) (aa_cons (ae_var (pv 0)) aa_nil))))))) ass_nil)
      (ass_cons (as_if (at_cmp op_lt k_lt (ae_var (pv 2)) ae_int (nomark _)) (ass_one (as_set (i := 2) sc_Lrefill.nd rfl (.inl rfl) (ae_sub ae_int (ae_mul ae_int (ae_var (pv 2)))))) ass_nil)
      (ass_cons (as_if (PW.pt (aw_and (at_cmp op_ge k_ge (ae_var (pv 2)) (ae_pow ae_int ae_int) (nomark _)) (aw_and1 (at_cmp op_lt k_lt (ae_var (pv 1)) (ae_cb k_lenQ (pe_callB y_lenQ (by rfl) T.z_len (by decide +kernel) (aa_cons (ae_var (pv 0)) aa_nil))) (nomark _))))) (ass_one (as_ret (ae_var (pv 2)))) ass_nil)
      (ass_one (as_ret (ae_mod (ae_cb q_int (pe_callTy y_int (by rfl) T.z_int (by decide +kernel) (aa_cons (ae_add (ae_mul (ae_cb q_int (pe_callTy y_int (by rfl) T.z_int (by decide +kernel) (aa_cons (ae_add (ae_add (ae_mul (ae_var (pv 2)) ae_int) (ae_mul (ae_var (pv 1)) ae_int)) ae_int) aa_nil))) ae_int) ae_int) aa_nil))) ae_int)))))))
theorem ok_Ldraw (T : Tx K ⟨Nf, P, w⟩ mg c) : OkD P w K mg base CX0 2 "_law_draw" ["state", "script", "size"] (spA K ⟨Nf, P, w⟩ (F_Ldraw c)) := okA0 T.d_Ldraw sc_Ldraw rfl rfl fun f cdv A outer s H E hr =>
    (ass_cons (as_if (at_cmp op_eq k_eq (ae_ixL (ae_var (pv 0)) ae_int) ae_int (nomark _)) (ass_cons (as_asg (ae_call (ok_Lrefill T) hr (by rfl) (aa_cons (ae_var (pv 1)) (aa_cons (ae_ixL (ae_var (pv 0)) ae_int) aa_nil))) (ag_sub (W := noW) (ae_var (pv 0)) ae_int set_list k_setL))
      (ass_one (as_asg (ae_add (ae_ixL (ae_var (pv 0)) ae_int) ae_int) (ag_sub (W := noW) (ae_var (pv 0)) ae_int set_list k_setL)))) ass_nil)
      (ass_cons (as_set (i := 3) sc_Ldraw.nd rfl (.inl rfl) (ae_mod (ae_cb q_int (pe_callTy y_int (by rfl) T.z_int (by decide +kernel) (aa_cons (ae_ixL (ae_var (pv 0)) ae_int) aa_nil))) (ae_var (pv 2))))
      (ass_cons (as_asg (ae_fdivW (ae_ixL (ae_var (pv 0)) ae_int) (ae_var (pv 2))) (ag_sub (W := noW) (ae_var (pv 0)) ae_int set_list k_setL))
      (ass_one (as_ret (ae_var (pv 3)))))))
theorem ok_Lpick (T : Tx K ⟨Nf, P, w⟩ mg c) : OkD P w K mg base CX0 3 "_law_pick" ["state", "script", "signs"] (spA K ⟨Nf, P, w⟩ (F_Lpick c)) := okA0 T.d_Lpick sc_Lpick rfl rfl fun f cdv A outer s H E hr =>
    (ass_cons (as_set (i := 3) sc_Lpick.nd rfl (.inl rfl) (ae_call (ok_Ldraw T) hr (by rfl) (aa_cons (ae_var (pv 0)) (aa_cons (ae_var (pv 1)) (aa_cons (ae_cb k_lenS (pe_callB y_lenS (by rfl) T.z_len (by decide +kernel) (aa_cons (ae_var (pv 2)) aa_nil))) aa_nil)))))
      (ass_one (as_ret (ae_slice sl_str k_slS (ae_var (pv 2)) (pox_some (W := noW) (ae_var (pv 3))) (pox_some (W := noW) (ae_add (ae_var (pv 3)) ae_int))))))
theorem ok_Lline (T : Tx K ⟨Nf, P, w⟩ mg c) : OkD P w K mg base CX0 4 "_law_line" ["state", "script"] (spA K ⟨Nf, P, w⟩ (F_Lline c)) := okA0 T.d_Lline sc_Lline rfl rfl fun f cdv A outer s H E hr =>
    (ass_cons (as_set (i := 2) sc_Lline.nd rfl (.inl rfl) (ae_lst (aa_cons ae_str (aa_cons ae_str (aa_cons ae_str (aa_cons ae_str (aa_cons ae_str (aa_cons ae_str (aa_cons ae_str (aa_cons ae_str (aa_cons ae_str (aa_cons ae_str aa_nil))))))))))))
      (ass_cons (as_set (i := 3) sc_Lline.nd rfl (.inl rfl) (ae_call (ok_Ldraw T) (hr.mono (by decide)) (by rfl) (aa_cons (ae_var (pv 0)) (aa_cons (ae_var (pv 1)) (aa_cons ae_int aa_nil)))))
      (ass_cons (as_if (at_cmp op_eq k_eq (ae_var (pv 3)) ae_int (nomark _)) (ass_one (as_ret (ae_ixL (ae_var (pv 2)) (ae_call (ok_Ldraw T) (hr.mono (by decide)) (by rfl) (aa_cons (ae_var (pv 0)) (aa_cons (ae_var (pv 1)) (aa_cons ae_int aa_nil))))))) ass_nil)
      (ass_cons (as_set (i := 4) sc_Lline.nd rfl (.inr rfl) ae_str)
      (ass_one (as_ret (ae_m1 PySem.F.slot_str_join PySem.F.type_str_join y_join k_join ae_str (ae_lc (t := (.one 5)) (own := [("k", 5)]) rfl sc_Lline.nd (ai_range1 (by rfl) T.z_range (aa_cons (ae_call (ok_Ldraw T) (hr.mono (by decide)) (by rfl) (aa_cons (ae_var (pv 0)) (aa_cons (ae_var (pv 1)) (aa_cons ae_int aa_nil)))) aa_nil)) (blkOk_by (N := N_Lline) (sc := defScope s_Lline) (by decide +kernel)) (fun _ _ _ _ _ => (ct_one (i := 5) sc_Lline.nd rfl (Or.inl rfl))) (fun _ _ _ _ _ => ats_nil) (fun _ _ _ _ _ => (ae_call (ok_Lpick T) hr (by rfl) (aa_cons (ae_var (pv 0)) (aa_cons (ae_var (pv 1)) (aa_cons (ae_var (pv 4)) aa_nil)))))))))))))
theorem ok_Levent (T : Tx K ⟨Nf, P, w⟩ mg c) : OkD P w K mg base CX0 5 "_law_event" ["state", "script"] (spA K ⟨Nf, P, w⟩ (F_Levent c)) := okA0 T.d_Levent sc_Levent rfl rfl fun f cdv A outer s H E hr =>
    (ass_one (as_ret (ae_tup (aa_cons (ae_adS ae_str (ae_cb k_strI (pe_callTy y_strI (by rfl) T.z_str (by decide +kernel) (aa_cons (ae_call (ok_Ldraw T) (hr.mono (by decide)) (by rfl) (aa_cons (ae_var (pv 0)) (aa_cons (ae_var (pv 1)) (aa_cons ae_int aa_nil)))) aa_nil)))) (aa_cons (ae_call (ok_Ldraw T) (hr.mono (by decide)) (by rfl) (aa_cons (ae_var (pv 0)) (aa_cons (ae_var (pv 1)) (aa_cons ae_int aa_nil)))) (aa_cons (ae_call (ok_Lline T) hr (by rfl) (aa_cons (ae_var (pv 0)) (aa_cons (ae_var (pv 1)) aa_nil))) aa_nil))))))
theorem ok_Lvalue (T : Tx K ⟨Nf, P, w⟩ mg c) : ∀ n, OkD P w K mg base CX0 (5 + n) "_law_value" ["state", "script", "depth"] (spA K ⟨Nf, P, w⟩ (F_Lvalue c n))
  | 0 => okD_bad0 T.d_Lvalue
  | n + 1 => okA0 T.d_Lvalue sc_Lvalue rfl rfl fun f cdv A outer s H E hr =>
    (ass_cons (as_set (i := 3) sc_Lvalue.nd rfl (.inl rfl) (ae_call (ok_Ldraw T) (hr.mono (Nat.le_trans (by decide : (2 : Nat) ≤ 5) (Nat.le_add_right 5 n))) (by rfl) (aa_cons (ae_var (pv 0)) (aa_cons (ae_var (pv 1)) (aa_cons ae_int aa_nil)))))
      (ass_cons (as_if (at_cmp op_eq k_eq (ae_var (pv 3)) ae_int (nomark _)) (ass_one (as_ret (ae_ixL (ae_lst (aa_cons ae_non (aa_cons ae_bl (aa_cons ae_bl aa_nil)))) (ae_call (ok_Ldraw T) (hr.mono (Nat.le_trans (by decide : (2 : Nat) ≤ 5) (Nat.le_add_right 5 n))) (by rfl) (aa_cons (ae_var (pv 0)) (aa_cons (ae_var (pv 1)) (aa_cons ae_int aa_nil))))))) ass_nil)
      (ass_cons (as_if (at_cmp op_eq k_eq (ae_var (pv 3)) ae_int (nomark _)) (ass_one (as_ret (ae_call (ok_Ldraw T) (hr.mono (Nat.le_trans (by decide : (2 : Nat) ≤ 5) (Nat.le_add_right 5 n))) (by rfl) (aa_cons (ae_var (pv 0)) (aa_cons (ae_var (pv 1)) (aa_cons ae_int aa_nil)))))) ass_nil)
      (ass_cons (as_if (at_cmp op_eq k_eq (ae_var (pv 3)) ae_int (nomark _)) (ass_one (as_ret (ae_neg (ae_call (ok_Ldraw T) (hr.mono (Nat.le_trans (by decide : (2 : Nat) ≤ 5) (Nat.le_add_right 5 n))) (by rfl) (aa_cons (ae_var (pv 0)) (aa_cons (ae_var (pv 1)) (aa_cons ae_int aa_nil))))))) ass_nil)
      (ass_cons (as_if (at_cmp op_eq k_eq (ae_var (pv 3)) ae_int (nomark _)) (ass_one (as_ret (ae_ixL (ae_lst (aa_cons ae_int (aa_cons ae_int (aa_cons ae_int (aa_cons ae_int (aa_cons (ae_neg ae_int) (aa_cons (ae_neg ae_int) (aa_cons (ae_neg ae_int) (aa_cons ae_int aa_nil))))))))) (ae_call (ok_Ldraw T) (hr.mono (Nat.le_trans (by decide : (2 : Nat) ≤ 5) (Nat.le_add_right 5 n))) (by rfl) (aa_cons (ae_var (pv 0)) (aa_cons (ae_var (pv 1)) (aa_cons ae_int aa_nil))))))) ass_nil)
      (ass_cons (as_if (at_cmp op_eq k_eq (ae_var (pv 3)) ae_int (nomark _)) (ass_one (as_ret (ae_sub (ae_call (ok_Ldraw T) (hr.mono (Nat.le_trans (by decide : (2 : Nat) ≤ 5) (Nat.le_add_right 5 n))) (by rfl) (aa_cons (ae_var (pv 0)) (aa_cons (ae_var (pv 1)) (aa_cons (ae_shl ae_int ae_int) aa_nil)))) (ae_shl ae_int ae_int)))) ass_nil)
      (ass_cons (as_if (PW.pt (aw_or (at_cmp op_le k_le (ae_var (pv 3)) ae_int (nomark _)) (aw_or1 (at_cmp op_eq k_eq (ae_var (pv 2)) ae_int (nomark _))))) (ass_one (as_ret (ae_call (ok_Lline T) (hr.mono (Nat.le_trans (by decide : (4 : Nat) ≤ 5) (Nat.le_add_right 5 n))) (by rfl) (aa_cons (ae_var (pv 0)) (aa_cons (ae_var (pv 1)) aa_nil))))) ass_nil)
      (ass_one (as_ret (ae_cb k_tup (pe_callTy y_tup (by rfl) T.z_tuple (by decide +kernel) (aa_cons (ae_lc (t := (.one 4)) (own := [("k", 4)]) rfl sc_Lvalue.nd (ai_range1 (by rfl) T.z_range (aa_cons (ae_call (ok_Ldraw T) (hr.mono (Nat.le_trans (by decide : (2 : Nat) ≤ 5) (Nat.le_add_right 5 n))) (by rfl) (aa_cons (ae_var (pv 0)) (aa_cons (ae_var (pv 1)) (aa_cons ae_int aa_nil)))) aa_nil)) (blkOk_by (N := N_Lvalue) (sc := defScope s_Lvalue) (by decide +kernel)) (fun _ _ _ _ _ => (ct_one (i := 4) sc_Lvalue.nd rfl (Or.inl rfl))) (fun _ _ _ _ _ => ats_nil) (fun _ _ _ _ _ => (ae_call (ok_Lvalue T n) hr (by rfl) (aa_cons (ae_var (pv 0)) (aa_cons (ae_var (pv 1)) (aa_cons (ae_sub (ae_var (pv 2)) ae_int) aa_nil)))))) aa_nil))))))))))))
theorem ok_Lneed (T : Tx K ⟨Nf, P, w⟩ mg c) : OkD P w K mg base CX0 28 "_law_need" ["generation", "act"] (spA K ⟨Nf, P, w⟩ (F_Lneed c)) := okA0 T.d_Lneed sc_Lneed rfl rfl fun f cdv A outer s H E hr =>
    (ass_cons (as_if (at_cmp op_eq k_eq (ae_ixT (ae_var (pv 1)) ae_int) ae_str (nomark _)) (ass_one (as_ret (ae_add ae_int (ae_cb k_lenQ (pe_callB y_lenQ (by rfl) T.z_len (by decide +kernel) (aa_cons (ae_call (ok_pack T 24) hr (by rfl) (aa_cons (ae_tup (aa_cons ae_str (aa_cons (ae_add (ae_var (pv 0)) ae_int) (aa_cons (ae_ixT (ae_var (pv 1)) ae_int) aa_nil)))) aa_nil)) aa_nil)))))) ass_nil)
      (ass_one (as_ret (ae_add ae_int (ae_cb k_lenQ (pe_callB y_lenQ (by rfl) T.z_len (by decide +kernel) (aa_cons (ae_call (ok_pack T 24) hr (by rfl) (aa_cons (ae_ixT (ae_var (pv 1)) ae_int) aa_nil)) aa_nil)))))))
theorem ok_Lafter (T : Tx K ⟨Nf, P, w⟩ mg c) : OkD P w K mg base CX0 1 "_law_after" ["content", "act"] (spA K ⟨Nf, P, w⟩ (F_Lafter c)) := okA0 T.d_Lafter sc_Lafter rfl rfl fun f cdv A outer s H E hr =>
    (ass_cons (as_if (at_cmp op_eq k_eq (ae_ixT (ae_var (pv 1)) ae_int) ae_str (nomark _)) (ass_one (as_ret (ae_tup (aa_cons (ae_ixT (ae_var (pv 1)) ae_int) (aa_cons (ae_lst aa_nil) aa_nil))))) ass_nil)
      (ass_one (as_ret (ae_tup (aa_cons (ae_ixT (ae_var (pv 0)) ae_int) (aa_cons (ae_cat (ae_ixT (ae_var (pv 0)) ae_int) (ae_lst (aa_cons (ae_ixT (ae_var (pv 1)) ae_int) aa_nil))) aa_nil))))))
theorem ok_Disk_spend (T : Tx K ⟨Nf, P, w⟩ mg c) : OkM P w K mg base CX0 1 c.Disk "_spend" ["self", "steps"] (spA K ⟨Nf, P, w⟩ (F_Disk_spend c)) := okM0 T.m_Disk_spend sc_Disk_spend rfl rfl fun f cdv A outer s H E hr =>
    (ass_cons (as_if (at_cmp y_isN k_isN (ae_fld (i := 2) T.f_Disk rfl (ae_var (pv 0)) rfl) ae_non (nomark _)) (ass_one (as_ret (ae_var (pv 1)))) ass_nil)
      (ass_cons (as_set (i := 2) sc_Disk_spend.nd rfl (.inl rfl) (ae_cb k_max2 (pe_callB (y_max2 rfl) (by rfl) T.z_max (by decide +kernel) (aa_cons ae_int (aa_cons (ae_cb k_min2 (pe_callB (y_min2 rfl) (by rfl) T.z_min (by decide +kernel) (aa_cons (ae_var (pv 1)) (aa_cons (ae_fld (i := 2) T.f_Disk rfl (ae_var (pv 0)) rfl) aa_nil)))) aa_nil)))))
      (ass_cons (as_fld (i := 2) T.f_Disk rfl (ae_var (pv 0)) (ae_sub (ae_fld (i := 2) T.f_Disk rfl (ae_var (pv 0)) rfl) (ae_var (pv 2))) rfl)
      (ass_one (as_ret (ae_var (pv 2)))))))
theorem ok_Disk_perform (T : Tx K ⟨Nf, P, w⟩ mg c) : OkM P w K mg base (L2.CX P w) 2 c.Disk "_perform" ["self", "file", "steps"] (spA K ⟨Nf, P, w⟩ (F_Disk_perform c)) := okMX T.m_Disk_perform sc_Disk_perform rfl rfl fun f cdv A outer s H E hr =>
    (ass_cons (as_set (i := 3) sc_Disk_perform.nd rfl (.inl rfl) (ae_meth T.f_Disk (by decide +kernel) (ok_Disk_spend T) hr (ae_var (pv 0)) (aa_cons (ae_cb k_lenQ (pe_callB y_lenQ (by rfl) T.z_len (by decide +kernel) (aa_cons (ae_var (pv 2)) aa_nil))) aa_nil)))
      (ass_cons (as_expr (ae_bmP k_extend (pe_bm PySem.F.plainAttrs_list PySem.F.slot_list_extend PySem.F.type_list_extend mt_extend (ae_ixL (ae_fld (i := 1) T.f_Disk rfl (ae_var (pv 0)) rfl) (ae_var (pv 1))) (aa_cons (ae_slice sl_list k_slL (ae_var (pv 2)) pox_none (pox_some (W := noW) (ae_var (pv 3)))) aa_nil))))
      (ass_one (as_if (at_cmp op_lt k_lt (ae_var (pv 3)) (ae_cb k_lenQ (pe_callB y_lenQ (by rfl) T.z_len (by decide +kernel) (aa_cons (ae_var (pv 2)) aa_nil))) (nomark _)) (ass_one (as_raise rfl (takes_of rfl rfl rfl rfl) T.x_PowerCut.xC T.x_PowerCut.gC T.x_PowerCut.kC (raises_own T.x_PowerCut.bC T.x_PowerCut.tC) (by rfl) ae_str)) ass_nil))))
theorem ok_Disk_clear (T : Tx K ⟨Nf, P, w⟩ mg c) : OkM P w K mg base (L2.CX P w) 3 c.Disk "clear" ["self", "file"] (spA K ⟨Nf, P, w⟩ (F_Disk_clear c)) := okMX T.m_Disk_clear sc_Disk_clear rfl rfl fun f cdv A outer s H E hr =>
    (ass_one (as_expr (ae_methX T.f_Disk (by decide +kernel) (ok_Disk_perform T) (takes_of rfl rfl rfl rfl) hr (ae_var (pv 0)) (aa_cons (ae_var (pv 1)) (aa_cons (ae_lst (aa_cons (ae_kI (by rfl) T.c_CLEARING) aa_nil)) aa_nil)))))
theorem ok_Disk_append (T : Tx K ⟨Nf, P, w⟩ mg c) : OkM P w K mg base (L2.CX P w) 3 c.Disk "append" ["self", "file", "data"] (spA K ⟨Nf, P, w⟩ (F_Disk_append c)) := okMX T.m_Disk_append sc_Disk_append rfl rfl fun f cdv A outer s H E hr =>
    (ass_one (as_expr (ae_methX T.f_Disk (by decide +kernel) (ok_Disk_perform T) (takes_of rfl rfl rfl rfl) hr (ae_var (pv 0)) (aa_cons (ae_var (pv 1)) (aa_cons (ae_var (pv 2)) aa_nil)))))
theorem ok_Disk_make_durable (T : Tx K ⟨Nf, P, w⟩ mg c) : OkM P w K mg base CX0 2 c.Disk "_make_durable" ["self", "file", "many"] (spA K ⟨Nf, P, w⟩ (F_Disk_make_durable c)) := okM0 T.m_Disk_make_durable sc_Disk_make_durable rfl rfl fun f cdv A outer s H E hr =>
    (ass_cons (as_asg (ae_call (ok_content_after T) hr (by rfl) (aa_cons (ae_ixL (ae_fld (i := 0) T.f_Disk rfl (ae_var (pv 0)) rfl) (ae_var (pv 1))) (aa_cons (ae_slice sl_list k_slL (ae_ixL (ae_fld (i := 1) T.f_Disk rfl (ae_var (pv 0)) rfl) (ae_var (pv 1))) pox_none (pox_some (W := noW) (ae_cb k_max2 (pe_callB (y_max2 rfl) (by rfl) T.z_max (by decide +kernel) (aa_cons ae_int (aa_cons (ae_var (pv 2)) aa_nil)))))) aa_nil))) (ag_sub (W := noW) (ae_fld (i := 0) T.f_Disk rfl (ae_var (pv 0)) rfl) (ae_var (pv 1)) set_list k_setL))
      (ass_one (as_asg (ae_lst aa_nil) (ag_sub (W := noW) (ae_fld (i := 1) T.f_Disk rfl (ae_var (pv 0)) rfl) (ae_var (pv 1)) set_list k_setL))))
theorem ok_Disk_sync (T : Tx K ⟨Nf, P, w⟩ mg c) : OkM P w K mg base (L2.CX P w) 3 c.Disk "sync" ["self", "file"] (spA K ⟨Nf, P, w⟩ (F_Disk_sync c)) := okMX T.m_Disk_sync sc_Disk_sync rfl rfl fun f cdv A outer s H E hr =>
    (ass_cons (as_if (at_cmp op_lt k_lt (ae_meth T.f_Disk (by decide +kernel) (ok_Disk_spend T) (hr.mono (by decide)) (ae_var (pv 0)) (aa_cons ae_int aa_nil)) ae_int (nomark _)) (ass_one (as_raise rfl (takes_of rfl rfl rfl rfl) T.x_PowerCut.xC T.x_PowerCut.gC T.x_PowerCut.kC (raises_own T.x_PowerCut.bC T.x_PowerCut.tC) (by rfl) ae_str)) ass_nil)
      (ass_one (as_expr (ae_meth T.f_Disk (by decide +kernel) (ok_Disk_make_durable T) hr (ae_var (pv 0)) (aa_cons (ae_var (pv 1)) (aa_cons (ae_cb k_lenQ (pe_callB y_lenQ (by rfl) T.z_len (by decide +kernel) (aa_cons (ae_ixL (ae_fld (i := 1) T.f_Disk rfl (ae_var (pv 0)) rfl) (ae_var (pv 1))) aa_nil))) aa_nil))))))
theorem ok_Journal_checkpoint (T : Tx K ⟨Nf, P, w⟩ mg c) : OkM P w K mg base (L2.CX P w) 28 c.Journal "checkpoint" ["self", "value"] (spA K ⟨Nf, P, w⟩ (F_Journal_checkpoint c)) := okMX T.m_Journal_checkpoint sc_Journal_checkpoint rfl rfl fun f cdv A outer s H E hr =>
    (ass_cons (as_set (i := 2) sc_Journal_checkpoint.nd rfl (.inl rfl) (ae_sub ae_int (ae_fld (i := 4) T.f_Journal rfl (ae_var (pv 0)) rfl)))
      (ass_cons (as_set (i := 3) sc_Journal_checkpoint.nd rfl (.inl rfl) (ae_add (ae_fld (i := 5) T.f_Journal rfl (ae_var (pv 0)) rfl) ae_int))
      (ass_cons (as_expr (ae_methX T.f_Disk (by decide +kernel) (ok_Disk_clear T) (takes_of rfl rfl rfl rfl) (hr.mono (by decide)) (ae_fld (i := 3) T.f_Journal rfl (ae_var (pv 0)) rfl) (aa_cons (ae_var (pv 2)) aa_nil)))
      (ass_cons (as_expr (ae_methX T.f_Disk (by decide +kernel) (ok_Disk_append T) (takes_of rfl rfl rfl rfl) (hr.mono (by decide)) (ae_fld (i := 3) T.f_Journal rfl (ae_var (pv 0)) rfl) (aa_cons (ae_var (pv 2)) (aa_cons (ae_call (ok_pack T 24) hr (by rfl) (aa_cons (ae_tup (aa_cons (ae_kS (by rfl) T.c_BEGIN) (aa_cons (ae_var (pv 3)) (aa_cons (ae_var (pv 1)) aa_nil)))) aa_nil)) aa_nil))))
      (ass_cons (as_expr (ae_methX T.f_Disk (by decide +kernel) (ok_Disk_sync T) (takes_of rfl rfl rfl rfl) (hr.mono (by decide)) (ae_fld (i := 3) T.f_Journal rfl (ae_var (pv 0)) rfl) (aa_cons (ae_var (pv 2)) aa_nil)))
      (ass_cons (as_fld (i := 4) T.f_Journal rfl (ae_var (pv 0)) (ae_var (pv 2)) rfl)
      (ass_one (as_fld (i := 5) T.f_Journal rfl (ae_var (pv 0)) (ae_var (pv 3)) rfl))))))))
theorem ok_Journal_add (T : Tx K ⟨Nf, P, w⟩ mg c) : OkM P w K mg base (L2.CX P w) 28 c.Journal "add" ["self", "event"] (spA K ⟨Nf, P, w⟩ (F_Journal_add c)) := okMX T.m_Journal_add sc_Journal_add rfl rfl fun f cdv A outer s H E hr =>
    (ass_cons (as_expr (ae_methX T.f_Disk (by decide +kernel) (ok_Disk_append T) (takes_of rfl rfl rfl rfl) (hr.mono (by decide)) (ae_fld (i := 3) T.f_Journal rfl (ae_var (pv 0)) rfl) (aa_cons (ae_fld (i := 4) T.f_Journal rfl (ae_var (pv 0)) rfl) (aa_cons (ae_call (ok_pack T 24) hr (by rfl) (aa_cons (ae_var (pv 1)) aa_nil)) aa_nil))))
      (ass_one (as_expr (ae_methX T.f_Disk (by decide +kernel) (ok_Disk_sync T) (takes_of rfl rfl rfl rfl) (hr.mono (by decide)) (ae_fld (i := 3) T.f_Journal rfl (ae_var (pv 0)) rfl) (aa_cons (ae_fld (i := 4) T.f_Journal rfl (ae_var (pv 0)) rfl) aa_nil)))))
theorem ok_Ltried (T : Tx K ⟨Nf, P, w⟩ mg c) : OkD P w K mg base CX0 29 "_law_tried" ["journal", "act"] (spA K ⟨Nf, P, w⟩ (F_Ltried c)) := okA0 T.d_Ltried sc_Ltried rfl rfl fun f cdv A outer s H E hr =>
    (ass_one (as_try (x := "PowerCut") (C := c.PowerCut) (xm := xm1 c.PowerCut) rfl rfl ⟨by rfl, by decide, .inl T.x_PowerCut.gC⟩ takes0 (xm1_ok T.x_PowerCut.exm) (fun W pn xe tk p => (ass_cons (as_if (at_cmp op_eq k_eq (ae_ixT (ae_var (pv 1)) ae_int) ae_str (nomark _)) (ass_one (as_expr (ae_methX T.f_Journal (by decide +kernel) (ok_Journal_checkpoint T) tk hr (ae_var (pv 0)) (aa_cons (ae_ixT (ae_var (pv 1)) ae_int) aa_nil)))) (ass_one (as_expr (ae_methX T.f_Journal (by decide +kernel) (ok_Journal_add T) tk hr (ae_var (pv 0)) (aa_cons (ae_ixT (ae_var (pv 1)) ae_int) aa_nil)))))
      (ass_one (as_ret ae_bl)))) (fun a oe cls d pn hz hf => (ass_one (as_ret ae_bl)))))
theorem ok_Disk_limit (T : Tx K ⟨Nf, P, w⟩ mg c) : OkM P w K mg base CX0 1 c.Disk "limit" ["self", "steps"] (spA K ⟨Nf, P, w⟩ (F_Disk_limit c)) := okM0 T.m_Disk_limit sc_Disk_limit rfl rfl fun f cdv A outer s H E hr =>
    (ass_one (as_fld (i := 2) T.f_Disk rfl (ae_var (pv 0)) (ae_var (pv 1)) rfl))
theorem ok_Disk_crash (T : Tx K ⟨Nf, P, w⟩ mg c) : OkM P w K mg base CX0 3 c.Disk "crash" ["self", "a", "b"] (spA K ⟨Nf, P, w⟩ (F_Disk_crash c)) := okM0 T.m_Disk_crash sc_Disk_crash rfl rfl fun f cdv A outer s H E hr =>
    (ass_cons (as_expr (ae_meth T.f_Disk (by decide +kernel) (ok_Disk_make_durable T) hr (ae_var (pv 0)) (aa_cons ae_int (aa_cons (ae_var (pv 1)) aa_nil))))
      (ass_cons (as_expr (ae_meth T.f_Disk (by decide +kernel) (ok_Disk_make_durable T) hr (ae_var (pv 0)) (aa_cons ae_int (aa_cons (ae_var (pv 2)) aa_nil))))
      (ass_one (as_fld (i := 2) T.f_Disk rfl (ae_var (pv 0)) ae_non rfl))))
theorem ok_Lkept (T : Tx K ⟨Nf, P, w⟩ mg c) : OkD P w K mg base CX0 3 "_law_kept" ["state", "script"] (spA K ⟨Nf, P, w⟩ (F_Lkept c)) := okA0 T.d_Lkept sc_Lkept rfl rfl fun f cdv A outer s H E hr =>
    (ass_one (as_ret (ae_ixL (ae_lst (aa_cons (ae_call (ok_Ldraw T) hr (by rfl) (aa_cons (ae_var (pv 0)) (aa_cons (ae_var (pv 1)) (aa_cons ae_int aa_nil)))) (aa_cons ae_int (aa_cons ae_int aa_nil)))) (ae_call (ok_Ldraw T) hr (by rfl) (aa_cons (ae_var (pv 0)) (aa_cons (ae_var (pv 1)) (aa_cons ae_int aa_nil)))))))
theorem ok_law (T : Tx K ⟨Nf, P, w⟩ mg c) {f : Addr} {fd : FuncData} (F : Fun K "law" "law" s_law f fd) : FnOk P w K mg base CX0 54 f fd ["script"] (spA K ⟨Nf, P, w⟩ (F_law c)) := okF0 F sc_law rfl rfl fun f cdv A outer s H E hr =>
    (ass_cons (as_set (i := 1) sc_law.nd rfl (.inl rfl) (ae_lst (aa_cons ae_int (aa_cons ae_int aa_nil))))
      (ass_cons (as_set (i := 2) sc_law.nd rfl (.inl rfl) (ae_make0 T.k_Disk (ok_Disk_init T) (hr.mono (by decide)) (by rfl)))
      (ass_cons (as_set (i := 3) sc_law.nd rfl (.inl rfl) (ae_call (ok_Lloaded T) hr (by rfl) (aa_cons (ae_var (pv 2)) aa_nil)))
      (ass_cons (as_if (PW.pt (aw_or (at_cmp y_isN k_isN (ae_var (pv 3)) ae_non (nomark _)) (aw_or1 (at_cmp op_ne k_ne (ae_fld (i := 0) T.f_Journal rfl (ae_var (pv 3)) rfl) ae_int (nomark _))))) (ass_one (as_ret ae_bl)) ass_nil)
      (ass_cons (as_set (i := 4) sc_law.nd rfl (.inl rfl) (ae_tup (aa_cons ae_non (aa_cons (ae_lst aa_nil) aa_nil))))
      (ass_cons (as_set (i := 5) sc_law.nd rfl (.inl rfl) ae_bl)
      (ass_cons (as_set (i := 6) sc_law.nd rfl (.inl rfl) ae_int)
      (ass_cons (as_set (i := 7) sc_law.nd rfl (.inl rfl) ae_non)
      (ass_cons (as_for (q := true) PassesOwn.never rfl (ai_range1 (by rfl) T.z_range (aa_cons (ae_call (ok_Ldraw T) (hr.mono (by decide)) (by rfl) (aa_cons (ae_var (pv 1)) (aa_cons (ae_var (pv 0)) (aa_cons ae_int aa_nil)))) aa_nil)) (ag_name (i := 8) sc_law.nd rfl (Or.inl rfl)) (ass_cons (as_set (i := 9) sc_law.nd rfl (.inl rfl) (ae_call (ok_Ldraw T) (hr.mono (by decide)) (by rfl) (aa_cons (ae_var (pv 1)) (aa_cons (ae_var (pv 0)) (aa_cons ae_int aa_nil)))))
      (ass_cons (as_set (i := 10) sc_law.nd rfl (.inl rfl) (ae_var (pv 4)))
      (ass_cons (as_set (i := 11) sc_law.nd rfl (.inl rfl) (ae_cmp op_eq k_eq (ae_var (pv 9)) ae_int (nomark _)))
      (ass_cons (as_if (at_cmp op_le k_le (ae_var (pv 9)) ae_int (nomark _)) (ass_cons (as_set (i := 12) sc_law.nd rfl (.inl rfl) (ae_tup (aa_cons ae_str (aa_cons (ae_call (ok_Levent T) (hr.mono (by decide)) (by rfl) (aa_cons (ae_var (pv 1)) (aa_cons (ae_var (pv 0)) aa_nil))) aa_nil))))
      (ass_cons (as_if (PW.pt (aw_or (at_cmp op_eq k_eq (ae_var (pv 9)) ae_int (nomark _)) (aw_or1 (at_not (at_val (ae_var (pv 5))))))) (ass_one (as_set (i := 12) sc_law.nd rfl (.inl rfl) (ae_tup (aa_cons ae_str (aa_cons (ae_call (ok_Lvalue T 4) (hr.mono (by decide)) (by rfl) (aa_cons (ae_var (pv 1)) (aa_cons (ae_var (pv 0)) (aa_cons ae_int aa_nil)))) aa_nil))))) ass_nil)
      (ass_cons (as_set (i := 13) sc_law.nd rfl (.inl rfl) (ae_call (ok_Lneed T) (hr.mono (by decide)) (by rfl) (aa_cons (ae_var (pv 6)) (aa_cons (ae_var (pv 12)) aa_nil))))
      (ass_cons (as_set (i := 10) sc_law.nd rfl (.inl rfl) (ae_call (ok_Lafter T) (hr.mono (by decide)) (by rfl) (aa_cons (ae_var (pv 4)) (aa_cons (ae_var (pv 12)) aa_nil))))
      (ass_cons (as_set (i := 14) sc_law.nd rfl (.inl rfl) (ae_call (ok_Ltried T) (hr.mono (by decide)) (by rfl) (aa_cons (ae_var (pv 3)) (aa_cons (ae_var (pv 12)) aa_nil))))
      (ass_cons (as_if (at_cmp op_ne k_ne (ae_var (pv 14)) (ae_or (ae_cmp y_isN k_isN (ae_var (pv 7)) ae_non (nomark _)) (ae_one (ae_cmp op_le k_le (ae_var (pv 13)) (ae_var (pv 7)) (nomark _)))) (nomark _)) (ass_one (as_ret ae_bl)) ass_nil)
      (ass_cons (as_set (i := 11) sc_law.nd rfl (.inl rfl) (ae_not (ae_var (pv 14))))
      (ass_one (as_if (at_val (ae_var (pv 14))) (ass_cons (as_set (i := 4) sc_law.nd rfl (.inl rfl) (ae_var (pv 10)))
      (ass_cons (as_set (i := 5) sc_law.nd rfl (.inl rfl) ae_bl)
      (ass_cons (as_set (i := 6) sc_law.nd rfl (.inl rfl) (ae_add (ae_var (pv 6)) (ae_cb q_int (pe_callTy y_int (by rfl) T.z_int (by decide +kernel) (aa_cons (ae_cmp op_eq k_eq (ae_ixT (ae_var (pv 12)) ae_int) ae_str (nomark _)) aa_nil)))))
      (ass_one (as_if (at_cmp y_notN k_notN (ae_var (pv 7)) ae_non (nomark _)) (ass_one (as_set (i := 7) sc_law.nd rfl (.inl rfl) (ae_sub (ae_var (pv 7)) (ae_var (pv 13))))) ass_nil))))) ass_nil))))))))) ass_nil)
      (ass_cons (as_if (at_cmp op_eq k_eq (ae_var (pv 9)) ae_int (nomark _)) (ass_cons (as_set (i := 7) sc_law.nd rfl (.inl rfl) (ae_ixL (ae_lst (aa_cons ae_non (aa_cons (ae_call (ok_Ldraw T) (hr.mono (by decide)) (by rfl) (aa_cons (ae_var (pv 1)) (aa_cons (ae_var (pv 0)) (aa_cons ae_int aa_nil)))) (aa_cons (ae_call (ok_Ldraw T) (hr.mono (by decide)) (by rfl) (aa_cons (ae_var (pv 1)) (aa_cons (ae_var (pv 0)) (aa_cons ae_int aa_nil)))) aa_nil)))) (ae_call (ok_Ldraw T) (hr.mono (by decide)) (by rfl) (aa_cons (ae_var (pv 1)) (aa_cons (ae_var (pv 0)) (aa_cons ae_int aa_nil))))))
      (ass_one (as_expr (ae_meth T.f_Disk (by decide +kernel) (ok_Disk_limit T) (hr.mono (by decide)) (ae_var (pv 2)) (aa_cons (ae_var (pv 7)) aa_nil))))) ass_nil)
      (ass_cons (as_if (at_val (ae_var (pv 11))) (ass_cons (as_expr (ae_meth T.f_Disk (by decide +kernel) (ok_Disk_crash T) (hr.mono (by decide)) (ae_var (pv 2)) (aa_cons (ae_call (ok_Lkept T) (hr.mono (by decide)) (by rfl) (aa_cons (ae_var (pv 1)) (aa_cons (ae_var (pv 0)) aa_nil))) (aa_cons (ae_call (ok_Lkept T) (hr.mono (by decide)) (by rfl) (aa_cons (ae_var (pv 1)) (aa_cons (ae_var (pv 0)) aa_nil))) aa_nil))))
      (ass_cons (as_set (i := 7) sc_law.nd rfl (.inl rfl) ae_non)
      (ass_cons (as_set (i := 3) sc_law.nd rfl (.inl rfl) (ae_call (ok_Lloaded T) hr (by rfl) (aa_cons (ae_var (pv 2)) aa_nil)))
      (ass_cons (as_if (PW.pt (aw_or (at_cmp y_isN k_isN (ae_var (pv 3)) ae_non (nomark _)) (aw_or1 (at_cmp op_lt k_lt (ae_fld (i := 0) T.f_Journal rfl (ae_var (pv 3)) rfl) (ae_var (pv 6)) (nomark _))))) (ass_one (as_ret ae_bl)) ass_nil)
      (ass_cons (as_set (i := 15) sc_law.nd rfl (.inl rfl) (ae_tup (aa_cons (ae_fld (i := 1) T.f_Journal rfl (ae_var (pv 3)) rfl) (aa_cons (ae_cb k_listOf (pe_callTy y_listOf (by rfl) T.z_list (by decide +kernel) (aa_cons (ae_prop T.f_Journal (by decide +kernel) (ok_Journal_events T) (hr.mono (by decide)) (ae_var (pv 3))) aa_nil))) aa_nil))))
      (ass_cons (as_if (PW.pt (aw_and (at_cmp (op_neD hr.units) k_neD (ae_var (pv 15)) (ae_var (pv 4)) (nomark _)) (aw_and1 (at_cmp (op_neD hr.units) k_neD (ae_var (pv 15)) (ae_var (pv 10)) (nomark _))))) (ass_one (as_ret ae_bl)) ass_nil)
      (ass_cons (as_set (i := 4) sc_law.nd rfl (.inl rfl) (ae_var (pv 15)))
      (ass_cons (as_set (i := 6) sc_law.nd rfl (.inl rfl) (ae_fld (i := 0) T.f_Journal rfl (ae_var (pv 3)) rfl))
      (ass_one (as_set (i := 5) sc_law.nd rfl (.inl rfl) ae_bl)))))))))) ass_nil)
      (ass_cons (as_set (i := 16) sc_law.nd rfl (.inl rfl) (ae_call (ok_Lloaded T) hr (by rfl) (aa_cons (ae_var (pv 2)) aa_nil)))
      (ass_one (as_if (PW.pt (aw_or (at_cmp y_isN k_isN (ae_var (pv 16)) ae_non (nomark _)) (aw_or (at_cmp (op_neD hr.units) k_neD (ae_tup (aa_cons (ae_fld (i := 1) T.f_Journal rfl (ae_var (pv 16)) rfl) (aa_cons (ae_prop T.f_Journal (by decide +kernel) (ok_Journal_events T) (hr.mono (by decide)) (ae_var (pv 16))) aa_nil))) (ae_var (pv 4)) (nomark _)) (aw_or1 (at_cmp op_ne k_ne (ae_fld (i := 0) T.f_Journal rfl (ae_var (pv 16)) rfl) (ae_var (pv 6)) (nomark _)))))) (ass_one (as_ret ae_bl)) ass_nil))))))))))
      (ass_one (as_ret ae_bl)))))))))))
end
theorem atI_0 {α : Type} (a : α) (l : List α) : atI (a :: l) 0 = some a := atI_nat (j := 0) rfl
theorem atI_1 {α : Type} (a b : α) (l : List α) : atI (a :: b :: l) 1 = some b := atI_nat (j := 1) rfl
theorem atI_2 {α : Type} (a b c : α) (l : List α) : atI (a :: b :: c :: l) 2 = some c := atI_nat (j := 2) rfl
theorem atI_3 {α : Type} (a b c d : α) (l : List α) : atI (a :: b :: c :: d :: l) 3 = some d := atI_nat (j := 3) rfl
theorem set_at {S : Sto} {n : Nat} {o x : O} (h : S[n]? = some x) : (S.set n o)[n]? = some o := List.getElem?_set_self (List.getElem?_eq_some_iff.mp h).1
theorem set_off {S : Sto} {n m : Nat} {o : O} (h : n ≠ m) : (S.set n o)[m]? = S[m]? := List.getElem?_set_ne h
theorem app_old {S : Sto} {m : Nat} {o x : O} (h : S[m]? = some x) : (S ++ [o])[m]? = some x := by
  rw [List.getElem?_append_left (List.getElem?_eq_some_iff.mp h).1]
  exact h
theorem app_new {S : Sto} {o : O} : (S ++ [o])[S.length]? = some o := by
  rw [List.getElem?_append_right (Nat.le_refl _), Nat.sub_self]
  rfl
theorem app_lt {S : Sto} {m : Nat} {x : O} (h : S[m]? = some x) : m < S.length := (List.getElem?_eq_some_iff.mp h).1
@[simp] theorem gd_pos {α : Type} {p : Prop} {x : Option α} (h : p) : gd p x = x := gd_ok h
theorem listAt_ref {S : Sto} {n : Nat} {ds : List D} (h : S[n]? = some (.lst ds)) : listAt S (.ref n) = some (n, ds) := by
  unfold listAt
  simp only [h]
theorem seqOf_ref {S : Sto} {n : Nat} {ds : List D} (h : S[n]? = some (.lst ds)) : seqOf (.ref n) S = some ds := by
  unfold seqOf
  simp only [h]
theorem dIxL_ref {S : Sto} {n : Nat} {ds : List D} {i : Int} (h : S[n]? = some (.lst ds)) : dIxL (.ref n) (.int i) S = (atI ds i).map fun d => (d, S) := by
  unfold dIxL
  simp only [h]
theorem dSetL_ref {S : Sto} {n : Nat} {ds : List D} {i : Int} {v : D} (h : S[n]? = some (.lst ds)) : dSetL (.ref n) (.int i) v S = (ixN ds.length i).map fun j => S.set n (.lst (ds.set j v)) := by
  unfold dSetL
  simp only [listAt_ref h, Option.bind_some]
theorem dFld_ref {S : Sto} {n : Nat} {C : Addr} {ds : List D} {i : Nat} (h : S[n]? = some (.obj C ds)) : dFld C i (.ref n) S = ds[i]?.map fun x => (x, S) := by
  unfold dFld
  simp only [h, if_true]
theorem dFldSet_ref {S : Sto} {n : Nat} {C : Addr} {ds : List D} {i : Nat} {d : D} (h : S[n]? = some (.obj C ds)) (hi : i < ds.length) : dFldSet C i (.ref n) d S = some (S.set n (.obj C (ds.set i d))) := by
  unfold dFldSet
  simp only [h, if_true, if_pos hi]
theorem dFldSet_new {S : Sto} {n : Nat} {C : Addr} {ds : List D} {d : D} (h : S[n]? = some (.obj C ds)) : dFldSet C ds.length (.ref n) d S = some (S.set n (.obj C (ds ++ [d]))) := by
  unfold dFldSet
  simp only [h, if_true, if_neg (Nat.lt_irrefl _)]
structure EndA where
  nx : Sl → Sto → Prop
  rt : D → Sto → Prop
  bk : Sl → Sto → Prop := fun _ _ => False
  ct : Sl → Sto → Prop := fun _ _ => False
  ex : Addr → Sl → Sto → Prop := fun _ _ _ => False
abbrev QA := D → Sto → Prop
abbrev XA := Addr → Sto → Prop
def wF (r : Res D) (Q : QA) (X : XA) : Prop := match r with
  | .ok d S => Q d S
  | .ex C S => X C S
  | .bad => False
def wE (m : M D) (σ : Sl) (S : Sto) (Q : QA) (X : XA) : Prop := wF (m σ S) Q X
def wB (m : M Bool) (σ : Sl) (S : Sto) (Q : Bool → Sto → Prop) (X : XA) : Prop := match m σ S with
  | .ok d S => Q d S
  | .ex C S => X C S
  | .bad => False
def wL (m : M (List D)) (σ : Sl) (S : Sto) (Q : List D → Sto → Prop) (X : XA) : Prop := match m σ S with
  | .ok d S => Q d S
  | .ex C S => X C S
  | .bad => False
def wI (m : M Src) (σ : Sl) (S : Sto) (Q : Src → Sto → Prop) (X : XA) : Prop := match m σ S with
  | .ok d S => Q d S
  | .ex C S => X C S
  | .bad => False
def wP (m : M (Option Int)) (σ : Sl) (S : Sto) (Q : Option Int → Sto → Prop) : Prop := match m σ S with
  | .ok d S => Q d S
  | _ => False
def wR (r : SRes) (T : EndA) : Prop := match r with
  | .nx σ S => T.nx σ S
  | .rt d S => T.rt d S
  | .bk σ S => T.bk σ S
  | .ct σ S => T.ct σ S
  | .ex C σ S => T.ex C σ S
  | .bad => False
def wS (c : Sm) (σ : Sl) (S : Sto) (T : EndA) : Prop := wR (c σ S) T
def wO (r : Option (D × Sto)) (Q : QA) : Prop := match r with
  | some p => Q p.1 p.2
  | none => False
def wG (r : Option (Sl × Sto)) (Q : Sl → Sto → Prop) : Prop := match r with
  | some p => Q p.1 p.2
  | none => False
def vBl (d : D) (P : Bool → Prop) : Prop := match d with
  | .bl b => P b
  | _ => False
def wObj (C : Addr) (d : D) (S : Sto) (P : Prop) : Prop := match d with
  | .ref n => (∃ ds, S[n]? = some (.obj C ds)) ∧ P
  | _ => False
def noX : XA := fun _ _ => False
theorem wF_to {r : Res D} {Q : QA} (h : wF r Q noX) : ∃ d S, r = .ok d S ∧ Q d S := by
  cases r with
  | ok e T => exact ⟨e, T, rfl, h⟩
  | ex C T => exact h.elim
  | bad => exact h.elim
section
variable {σ l : Sl} {S : Sto} {Q : QA} {QB : Bool → Sto → Prop} {QL : List D → Sto → Prop} {QI : Src → Sto → Prop} {QP : Option Int → Sto → Prop} {QG : Sl → Sto → Prop} {X : XA} {T : EndA} {nx bk ct : Sl → Sto → Prop} {rt : D → Sto → Prop} {ex : Addr → Sl → Sto → Prop}
  {m a b c : M D} {ml : M (List D)} {ba bb : M Bool} {x y d : D} {i j : Int} {s t : Str} {k : Bool} {F : Fn} {C : Addr} {f : Op2} {g : Op1} {fN : OpN} {p q : Sm} {tg : Tg} {tgs : Tgs} {P : Bool → Prop} {ds es : List D} {n : Nat}
theorem w_c (h : Q d S) : wE (eC d) σ S Q X := h
theorem w_e1 (h : wE a σ S (fun x S1 => wO (g x S1) Q) X) : wE (e1 g a) σ S Q X := by
  unfold wE at *
  unfold e1 eBind
  cases e : a σ S with
  | ok d S1 =>
    rw [e] at h
    show wF (ofO (g d S1)) Q X
    change wO (g d S1) Q at h
    cases e2 : g d S1 with
    | none => rw [e2] at h; exact h.elim
    | some p => rw [e2] at h; exact h
  | ex C S1 => rw [e] at h; exact h
  | bad => rw [e] at h; exact h
theorem w_eB {kk : D → M D} (h : wE a σ S (fun x S1 => wE (kk x) σ S1 Q X) X) : wE (eBind a kk) σ S Q X := by
  unfold wE at *
  unfold eBind
  cases e : a σ S with
  | ok d S1 => rw [e] at h; exact h
  | ex C S1 => rw [e] at h; exact h
  | bad => rw [e] at h; exact h
theorem w_e2 (h : wE a σ S (fun x S1 => wE b σ S1 (fun y S2 => wO (f x y S2) Q) X) X) : wE (e2 f a b) σ S Q X := by
  refine w_eB ?_
  unfold wE at *
  cases e : a σ S with
  | ok d S1 =>
    rw [e] at h
    exact w_e1 (g := fun y S2 => f d y S2) h
  | ex C S1 => rw [e] at h; exact h
  | bad => rw [e] at h; exact h
theorem w_eL {kk : List D → M D} (h : wL ml σ S (fun x S1 => wE (kk x) σ S1 Q X) X) : wE (eBind ml kk) σ S Q X := by
  unfold wL at h
  unfold wE eBind
  cases e : ml σ S with
  | ok d S1 => rw [e] at h; exact h
  | ex C S1 => rw [e] at h; exact h
  | bad => rw [e] at h; exact h
theorem w_o {r : Option (D × Sto)} (h : wO r Q) : wF (ofO r) Q X := by
  cases r with
  | none => exact h.elim
  | some p => exact h
theorem w_eN (h : wL ml σ S (fun ds S1 => wO (fN ds S1) Q) X) : wE (eN fN ml) σ S Q X := by
  refine w_eL ?_
  unfold wL at *
  cases e : ml σ S with
  | ok d S1 => rw [e] at h; exact w_o h
  | ex C S1 => rw [e] at h; exact h
  | bad => rw [e] at h; exact h
theorem w_f1 (h : wO (g d S) Q) : wO (f1 g [d] S) Q := h
theorem w_f2 (h : wO (f x y S) Q) : wO (f2 f [x, y] S) Q := h
theorem w_nil (h : QL [] S) : wL aNil σ S QL X := h
theorem w_cons (h : wE a σ S (fun x S1 => wL ml σ S1 (fun xs S2 => QL (x :: xs) S2) X) X) : wL (aCons a ml) σ S QL X := by
  unfold wE at h
  unfold wL aCons eBind
  cases e : a σ S with
  | ok d S1 =>
    rw [e] at h
    change wL ml σ S1 _ X at h
    unfold wL at h
    show match ((ml σ S1).bind fun ds S2 => Res.ok (d :: ds) S2) with
      | .ok d S => QL d S
      | .ex C S => X C S
      | .bad => False
    cases e2 : ml σ S1 with
    | ok ds S2 => rw [e2] at h; exact h
    | ex C S2 => rw [e2] at h; exact h
    | bad => rw [e2] at h; exact h
  | ex C S1 => rw [e] at h; exact h
  | bad => rw [e] at h; exact h
theorem w_tup (h : wL ml σ S (fun ds S1 => ds.length ≤ sizeLine ∧ Q (.tup ds) S1) X) : wE (eTup ml) σ S Q X := by
  refine w_eL ?_
  unfold wL at *
  cases e : ml σ S with
  | ok d S1 =>
    rw [e] at h
    show wF (ofO (gd _ _)) Q X
    rw [gd_ok h.1]
    exact h.2
  | ex C S1 => rw [e] at h; exact h
  | bad => rw [e] at h; exact h
theorem w_lst (h : wL ml σ S (fun ds S1 => ds.length ≤ sizeLine ∧ Q (.ref S1.length) (S1 ++ [.lst ds])) X) : wE (eLst ml) σ S Q X := by
  refine w_eL ?_
  unfold wL at *
  cases e : ml σ S with
  | ok d S1 =>
    rw [e] at h
    show wF (ofO (gd _ _)) Q X
    rw [gd_ok h.1]
    exact h.2
  | ex C S1 => rw [e] at h; exact h
  | bad => rw [e] at h; exact h
theorem w_call (h : wL ml σ S (fun ds S1 => wF (F ds S1) Q X) X) : wE (eCall F ml) σ S Q X := w_eL h
theorem w_meth (h : wE a σ S (fun o S1 => wObj C o S1 (wL ml σ S1 (fun ds S2 => wF (F (o :: ds) S2) Q X) X)) X) : wE (eMeth C F a ml) σ S Q X := by
  refine w_eB ?_
  unfold wE at *
  cases e : a σ S with
  | ok d S1 =>
    rw [e] at h
    cases d with
    | ref n =>
      obtain ⟨⟨ds, hd⟩, h2⟩ := h
      show wF _ Q X
      simp only [hd, if_true]
      exact w_eL h2
    | _ => exact h.elim
  | ex C S1 => rw [e] at h; exact h
  | bad => rw [e] at h; exact h
theorem w_obj {P : Prop} (h : S[n]? = some (.obj C ds)) (q : P) : wObj C (.ref n) S P := ⟨⟨ds, h⟩, q⟩
theorem w_make (h : wL ml σ S (fun ds S1 => wF (F (.ref S1.length :: ds) (S1 ++ [.obj C []])) (fun v S2 => v = .non ∧ Q (.ref S1.length) S2) noX) X) : wE (eMake C F ml) σ S Q X := by
  refine w_eL ?_
  unfold wL at *
  cases e : ml σ S with
  | ok d S1 =>
    rw [e] at h
    obtain ⟨v, S2, e2, rfl, q⟩ := wF_to h
    show wF (mkRes S1.length _) Q X
    rw [e2]
    exact q
  | ex C S1 => rw [e] at h; exact h
  | bad => rw [e] at h; exact h
theorem w_bB {kk : D → M Bool} (h : wE a σ S (fun x S1 => wB (kk x) σ S1 QB X) X) : wB (eBind a kk) σ S QB X := by
  unfold wE at h
  unfold wB eBind
  cases e : a σ S with
  | ok d S1 => rw [e] at h; exact h
  | ex C S1 => rw [e] at h; exact h
  | bad => rw [e] at h; exact h
theorem w_bBB {kk : Bool → M Bool} (h : wB ba σ S (fun x S1 => wB (kk x) σ S1 QB X) X) : wB (eBind ba kk) σ S QB X := by
  unfold wB at h
  unfold wB eBind
  cases e : ba σ S with
  | ok d S1 => rw [e] at h; exact h
  | ex C S1 => rw [e] at h; exact h
  | bad => rw [e] at h; exact h
theorem w_eBB {kk : Bool → M D} (h : wB ba σ S (fun x S1 => wE (kk x) σ S1 Q X) X) : wE (eBind ba kk) σ S Q X := by
  unfold wB at h
  unfold wE eBind
  cases e : ba σ S with
  | ok d S1 => rw [e] at h; exact h
  | ex C S1 => rw [e] at h; exact h
  | bad => rw [e] at h; exact h
theorem w_t (h : wE a σ S (fun d S1 => vBl d fun b => QB b S1) X) : wB (eT a) σ S QB X := by
  refine w_bB ?_
  unfold wE at *
  cases e : a σ S with
  | ok d S1 =>
    rw [e] at h
    cases d with
    | bl k => exact h
    | _ => exact h.elim
  | ex C S1 => rw [e] at h; exact h
  | bad => rw [e] at h; exact h
theorem w_bl (h : P k) : vBl (.bl k) P := h
theorem w_tru (h : wE a σ S (fun d S1 => ∃ b, dTru d S1 = some b ∧ QB b S1) X) : wB (bTru a) σ S QB X := by
  refine w_bB ?_
  unfold wE at *
  cases e : a σ S with
  | ok d S1 =>
    rw [e] at h
    obtain ⟨b, e2, q⟩ := h
    show wB (fun _ _ => _) σ S1 QB X
    unfold wB
    simp only [e2]
    exact q
  | ex C S1 => rw [e] at h; exact h
  | bad => rw [e] at h; exact h
theorem w_yes (h : QB true S) : wB bYes σ S QB X := h
theorem w_not (h : wB ba σ S (fun c S1 => QB (!c) S1) X) : wB (bNot ba) σ S QB X := w_bBB h
theorem w_and (h : wB ba σ S (fun c S1 => if c = true then wB bb σ S1 QB X else QB false S1) X) : wB (bAnd ba bb) σ S QB X := by
  refine w_bBB ?_
  unfold wB at h ⊢
  cases e : ba σ S with
  | ok k S1 =>
    rw [e] at h
    cases k with
    | true => exact h
    | false => exact h
  | ex C S1 => rw [e] at h; exact h
  | bad => rw [e] at h; exact h
theorem w_or (h : wB ba σ S (fun c S1 => if c = true then QB true S1 else wB bb σ S1 QB X) X) : wB (bOr ba bb) σ S QB X := by
  refine w_bBB ?_
  unfold wB at h ⊢
  cases e : ba σ S with
  | ok k S1 =>
    rw [e] at h
    cases k with
    | true => exact h
    | false => exact h
  | ex C S1 => rw [e] at h; exact h
  | bad => rw [e] at h; exact h
theorem w_ifE (h : wB ba σ S (fun c S1 => if c = true then wE a σ S1 Q X else wE b σ S1 Q X) X) : wE (eIf ba a b) σ S Q X := by
  refine w_eBB ?_
  unfold wB at h ⊢
  cases e : ba σ S with
  | ok k S1 =>
    rw [e] at h
    cases k with
    | true => exact h
    | false => exact h
  | ex C S1 => rw [e] at h; exact h
  | bad => rw [e] at h; exact h
theorem w_notE (h : wE a σ S (fun x S1 => vBl x fun c => Q (.bl (!c)) S1) X) : wE (eNot a) σ S Q X := by
  refine w_eB ?_
  unfold wE at *
  cases e : a σ S with
  | ok d S1 =>
    rw [e] at h
    cases d with
    | bl k => exact h
    | _ => exact h.elim
  | ex C S1 => rw [e] at h; exact h
  | bad => rw [e] at h; exact h
theorem w_andE (h : wE a σ S (fun x S1 => vBl x fun c => if c = true then wE b σ S1 Q X else Q (.bl false) S1) X) : wE (eAnd a b) σ S Q X := by
  refine w_eB ?_
  unfold wE at *
  cases e : a σ S with
  | ok d S1 =>
    rw [e] at h
    cases d with
    | bl k =>
      cases k with
      | true => exact h
      | false => exact h
    | _ => exact h.elim
  | ex C S1 => rw [e] at h; exact h
  | bad => rw [e] at h; exact h
theorem w_orE (h : wE a σ S (fun x S1 => vBl x fun c => if c = true then Q (.bl true) S1 else wE b σ S1 Q X) X) : wE (eOr a b) σ S Q X := by
  refine w_eB ?_
  unfold wE at *
  cases e : a σ S with
  | ok d S1 =>
    rw [e] at h
    cases d with
    | bl k =>
      cases k with
      | true => exact h
      | false => exact h
    | _ => exact h.elim
  | ex C S1 => rw [e] at h; exact h
  | bad => rw [e] at h; exact h
theorem w_chain {f f' : Op2} (h : wE a σ S (fun x S1 => wE b σ S1 (fun y S2 => wO (f x y S2) fun z S3 => vBl z fun k => if k = true then wE c σ S3 (fun w S4 => wO (f' y w S4) Q) X else Q (.bl false) S3) X) X) : wE (eChain f f' a b c) σ S Q X := by
  refine w_eB ?_
  unfold wE at *
  cases e : a σ S with
  | ok d S1 =>
    rw [e] at h
    refine w_eB ?_
    unfold wE at *
    change wF (b σ S1) _ X at h
    cases e2 : b σ S1 with
    | ok d2 S2 =>
      rw [e2] at h
      replace h : wO (f d d2 S2) (fun z S3 => vBl z fun k => if k = true then wE c σ S3 (fun w S4 => wO (f' d2 w S4) Q) X else Q (.bl false) S3) := h
      show wF ((ofO (f d d2 S2)).bind _) Q X
      cases e3 : f d d2 S2 with
      | none => rw [e3] at h; exact h.elim
      | some p =>
        obtain ⟨z, S3⟩ := p
        rw [e3] at h
        cases z with
        | bl k =>
          cases k with
          | true =>
            show wF ((eBind c fun w _ S => ofO (f' d2 w S)) σ S3) Q X
            exact w_e1 (g := fun y S2 => f' d2 y S2) h
          | false => exact h
        | _ => exact h.elim
    | ex C S2 => rw [e2] at h; exact h
    | bad => rw [e2] at h; exact h
  | ex C S1 => rw [e] at h; exact h
  | bad => rw [e] at h; exact h
theorem w_p0 (h : QP none S) : wP mP0 σ S QP := h
theorem w_p1 (h : wE a σ S (fun x S1 => ∃ i, x = .int i ∧ QP (some i) S1) noX) : wP (mP1 a) σ S QP := by
  unfold wE at h
  unfold wP mP1
  obtain ⟨d, S1, e, i, rfl, q⟩ := wF_to h
  rw [e]
  exact q
theorem w_sl {fs : OpSl} {lo hi : M (Option Int)} (h : wE a σ S (fun x S1 => wP lo σ S1 fun l S2 => wP hi σ S2 fun u S3 => wO (fs x l u S3) Q) X) : wE (eSl fs a lo hi) σ S Q X := by
  refine w_eB ?_
  unfold wE at *
  cases e : a σ S with
  | ok d S1 =>
    rw [e] at h
    change wP lo σ S1 _ at h
    unfold wP at h
    show wF (match lo σ S1 with
      | .ok lo S1 => match hi σ S1 with
        | .ok hi S2 => ofO (fs d lo hi S2)
        | _ => .bad
      | _ => .bad) Q X
    cases e1 : lo σ S1 with
    | ok l S2 =>
      rw [e1] at h
      change wP hi σ S2 _ at h
      unfold wP at h
      simp only
      cases e2 : hi σ S2 with
      | ok u S3 =>
        rw [e2] at h
        exact w_o h
      | ex C S3 => rw [e2] at h; exact h.elim
      | bad => rw [e2] at h; exact h.elim
    | ex C S2 => rw [e1] at h; exact h.elim
    | bad => rw [e1] at h; exact h.elim
  | ex C S1 => rw [e] at h; exact h
  | bad => rw [e] at h; exact h
theorem w_js0 {acc : Str} (h : Q (.str acc) S) : wE (jsA [] acc) σ S Q X := h
theorem w_js1 {acc : Str} {ms : List (M D)} (h : wE a σ S (fun x S1 => ∃ y, x = .str y ∧ (acc ++ y).length ≤ sizeLine ∧ wE (jsA ms (acc ++ y)) σ S1 Q X) X) : wE (jsA (a :: ms) acc) σ S Q X := by
  refine w_eB ?_
  unfold wE at *
  cases e : a σ S with
  | ok d S1 =>
    rw [e] at h
    obtain ⟨y, rfl, hl, q⟩ := h
    show wF _ Q X
    simp only [if_pos hl]
    exact q
  | ex C S1 => rw [e] at h; exact h
  | bad => rw [e] at h; exact h
theorem w_m1 (h : wE a σ S (fun o S1 => ∃ x, o = .str x ∧ wE b σ S1 (fun y S2 => wO (f (.str x) y S2) Q) X) X) : wE (eM1 f a b) σ S Q X := by
  refine w_eB ?_
  unfold wE at *
  cases e : a σ S with
  | ok d S1 =>
    rw [e] at h
    obtain ⟨x, rfl, q⟩ := h
    exact w_e1 (g := fun y S2 => f (.str x) y S2) q
  | ex C S1 => rw [e] at h; exact h
  | bad => rw [e] at h; exact h
theorem w_bm {fm : OpM} (h : wE a σ S (fun o S1 => ∃ p, listAt S1 o = some p ∧ wL ml σ S1 (fun ds S2 => wO (fm o ds S2) Q) X) X) : wE (eBM fm a ml) σ S Q X := by
  refine w_eB ?_
  unfold wE at *
  cases e : a σ S with
  | ok d S1 =>
    rw [e] at h
    obtain ⟨p, e1, q⟩ := h
    show wF _ Q X
    simp only [e1]
    refine w_eL ?_
    unfold wL at *
    cases e2 : ml σ S1 with
    | ok ds S2 => rw [e2] at q; exact w_o q
    | ex C S2 => rw [e2] at q; exact q
    | bad => rw [e2] at q; exact q
  | ex C S1 => rw [e] at h; exact h
  | bad => rw [e] at h; exact h
theorem w_sB {kk : D → Sm} (h : wE a σ S (fun x S1 => wS (kk x) σ S1 T) fun C S1 => T.ex C σ S1) : wS (sBind a kk) σ S T := by
  unfold wE at h
  unfold wS sBind
  cases e : a σ S with
  | ok d S1 => rw [e] at h; exact h
  | ex C S1 => rw [e] at h; exact h
  | bad => rw [e] at h; exact h
theorem w_sBB {kk : Bool → Sm} (h : wB ba σ S (fun x S1 => wS (kk x) σ S1 T) fun C S1 => T.ex C σ S1) : wS (sBind ba kk) σ S T := by
  unfold wB at h
  unfold wS sBind
  cases e : ba σ S with
  | ok d S1 => rw [e] at h; exact h
  | ex C S1 => rw [e] at h; exact h
  | bad => rw [e] at h; exact h
theorem w_seq (h : wS p σ S ⟨fun σ1 S1 => wS q σ1 S1 ⟨nx, rt, bk, ct, ex⟩, rt, bk, ct, ex⟩) : wS (cSeq p q) σ S ⟨nx, rt, bk, ct, ex⟩ := by
  unfold wS at *
  unfold cSeq
  cases e : p σ S with
  | nx σ1 S1 => rw [e] at h; exact h
  | rt _ _ => rw [e] at h; exact h
  | bk _ _ => rw [e] at h; exact h
  | ct _ _ => rw [e] at h; exact h
  | ex _ _ _ => rw [e] at h; exact h
  | bad => rw [e] at h; exact h
theorem w_qSet (h : wS (cSet n a) σ S ⟨fun σ1 S1 => wS q σ1 S1 ⟨nx, rt, bk, ct, ex⟩, rt, bk, ct, ex⟩) : wS (cSeq (cSet n a) q) σ S ⟨nx, rt, bk, ct, ex⟩ := w_seq h
theorem w_qDrop (h : wS (cDrop a) σ S ⟨fun σ1 S1 => wS q σ1 S1 ⟨nx, rt, bk, ct, ex⟩, rt, bk, ct, ex⟩) : wS (cSeq (cDrop a) q) σ S ⟨nx, rt, bk, ct, ex⟩ := w_seq h
theorem w_qAsg (h : wS (cAsg a tg) σ S ⟨fun σ1 S1 => wS q σ1 S1 ⟨nx, rt, bk, ct, ex⟩, rt, bk, ct, ex⟩) : wS (cSeq (cAsg a tg) q) σ S ⟨nx, rt, bk, ct, ex⟩ := w_seq h
theorem w_qFld (h : wS (cFld C n a b) σ S ⟨fun σ1 S1 => wS q σ1 S1 ⟨nx, rt, bk, ct, ex⟩, rt, bk, ct, ex⟩) : wS (cSeq (cFld C n a b) q) σ S ⟨nx, rt, bk, ct, ex⟩ := w_seq h
/-- a statement, then the rest once -/
theorem w_cut (Mid : Sl → Sto → Prop) (h1 : wS p σ S ⟨Mid, rt, bk, ct, ex⟩) (h2 : ∀ σ1 S1, Mid σ1 S1 → wS q σ1 S1 ⟨nx, rt, bk, ct, ex⟩) : wS (cSeq p q) σ S ⟨nx, rt, bk, ct, ex⟩ := by
  refine w_seq ?_
  unfold wS at *
  cases e : p σ S with
  | nx σ1 S1 => rw [e] at h1; exact h2 _ _ h1
  | rt _ _ => rw [e] at h1; exact h1
  | bk _ _ => rw [e] at h1; exact h1
  | ct _ _ => rw [e] at h1; exact h1
  | ex _ _ _ => rw [e] at h1; exact h1
  | bad => rw [e] at h1; exact h1
theorem w_next (h : nx σ S) : wS cNext σ S ⟨nx, rt, bk, ct, ex⟩ := h
theorem w_break (h : bk σ S) : wS cBreak σ S ⟨nx, rt, bk, ct, ex⟩ := h
theorem w_cont (h : ct σ S) : wS cCont σ S ⟨nx, rt, bk, ct, ex⟩ := h
theorem w_drop (h : wE a σ S (fun _ S1 => nx σ S1) fun C S1 => ex C σ S1) : wS (cDrop a) σ S ⟨nx, rt, bk, ct, ex⟩ := w_sB h
theorem w_ret (h : wE a σ S rt fun C S1 => ex C σ S1) : wS (cRet a) σ S ⟨nx, rt, bk, ct, ex⟩ := w_sB h
theorem w_retN (h : rt .non S) : wS cRetN σ S ⟨nx, rt, bk, ct, ex⟩ := h
theorem w_ifS (h : wB ba σ S (fun c S1 => if c = true then wS p σ S1 ⟨nx, rt, bk, ct, ex⟩ else wS q σ S1 ⟨nx, rt, bk, ct, ex⟩) fun C S1 => ex C σ S1) : wS (cIf ba p q) σ S ⟨nx, rt, bk, ct, ex⟩ := by
  refine w_sBB ?_
  unfold wB at h ⊢
  cases e : ba σ S with
  | ok k S1 =>
    rw [e] at h
    cases k with
    | true => exact h
    | false => exact h
  | ex C S1 => rw [e] at h; exact h
  | bad => rw [e] at h; exact h
theorem w_set (h : wE a σ S (fun d S1 => nx (σ.set n (some d)) S1) fun C S1 => ex C σ S1) : wS (cSet n a) σ S ⟨nx, rt, bk, ct, ex⟩ := w_sB h
theorem w_asg (h : wE a σ S (fun d S1 => wG (tg d σ S1) nx) fun C S1 => ex C σ S1) : wS (cAsg a tg) σ S ⟨nx, rt, bk, ct, ex⟩ := by
  refine w_sB ?_
  unfold wE at *
  cases e : a σ S with
  | ok d S1 =>
    rw [e] at h
    change wG (tg d σ S1) nx at h
    show wR (match tg d σ S1 with | some (σ1, S1) => .nx σ1 S1 | none => .bad) _
    cases e2 : tg d σ S1 with
    | none => rw [e2] at h; exact h.elim
    | some p => rw [e2] at h; exact h
  | ex C S1 => rw [e] at h; exact h
  | bad => rw [e] at h; exact h
theorem w_fld (h : wE b σ S (fun d S1 => wE a σ S1 (fun o S2 => ∃ S3, dFldSet C n o d S2 = some S3 ∧ nx σ S3) fun C S1 => ex C σ S1) fun C S1 => ex C σ S1) : wS (cFld C n a b) σ S ⟨nx, rt, bk, ct, ex⟩ := by
  refine w_sB ?_
  unfold wE at *
  cases e : b σ S with
  | ok d S1 =>
    rw [e] at h
    change wF (a σ S1) _ _ at h
    refine w_sB ?_
    unfold wE
    cases e2 : a σ S1 with
    | ok o S2 =>
      rw [e2] at h
      obtain ⟨S3, e3, q⟩ := h
      show wR (match dFldSet C n o d S2 with | some S1 => .nx σ S1 | none => .bad) _
      rw [e3]
      exact q
    | ex C S2 => rw [e2] at h; exact h
    | bad => rw [e2] at h; exact h
  | ex C S1 => rw [e] at h; exact h
  | bad => rw [e] at h; exact h
theorem w_raise (h : wE a σ S (fun _ S1 => ex C σ S1) fun C S1 => ex C σ S1) : wS (cRaise C a) σ S ⟨nx, rt, bk, ct, ex⟩ := w_sB h
theorem w_try {xm : Addr → Addr → Option Bool} (h : wS p σ S ⟨nx, rt, bk, ct, fun C' σ1 S1 => ∃ b, xm C' C = some b ∧ if b = true then wS q σ1 S1 ⟨nx, rt, bk, ct, ex⟩ else ex C' σ1 S1⟩) : wS (cTry xm C p q) σ S ⟨nx, rt, bk, ct, ex⟩ := by
  unfold wS at *
  unfold cTry
  cases e : p σ S with
  | nx σ1 S1 => rw [e] at h; exact h
  | rt _ _ => rw [e] at h; exact h
  | bk _ _ => rw [e] at h; exact h
  | ct _ _ => rw [e] at h; exact h
  | ex C' σ1 S1 =>
    rw [e] at h
    obtain ⟨b, e2, q⟩ := h
    simp only [e2]
    cases b with
    | true => exact q
    | false => exact q
  | bad => rw [e] at h; exact h
theorem g_tup (h : wG (tgs ds σ S) QG) : wG (tgTup tgs (.tup ds) σ S) QG := h
theorem g_nil (h : QG σ S) : wG (tgNil [] σ S) QG := h
theorem g_cons (h : wG (tg d σ S) fun σ1 S1 => wG (tgs ds σ1 S1) QG) : wG (tgCons tg tgs (d :: ds) σ S) QG := by
  show wG ((tg d σ S).bind fun p => tgs ds p.1 p.2) QG
  cases e : tg d σ S with
  | none => rw [e] at h; exact h.elim
  | some p => rw [e] at h; exact h
theorem g_sub {mo mi : M D} {fs : OpS} (h : wE mo σ S (fun o S1 => wE mi σ S1 (fun i S2 => ∃ S3, fs o i d S2 = some S3 ∧ QG σ S3) noX) noX) : wG (tgSub mo mi fs d σ S) QG := by
  obtain ⟨o, S1, e1, h⟩ := wF_to h
  obtain ⟨i, S2, e2, S3, e3, h⟩ := wF_to h
  unfold tgSub
  simp only [e1, e2, e3]
  exact h
theorem g_fld {mo : M D} (h : wE mo σ S (fun o S1 => ∃ S3, dFldSet C n o d S1 = some S3 ∧ QG σ S3) noX) : wG (tgFld C n mo d σ S) QG := by
  obtain ⟨o, S1, e1, S3, e3, h⟩ := wF_to h
  unfold tgFld
  simp only [e1, e3]
  exact h
theorem w_fn0 {np nn : Nat} (hn : ds.length = np) (h : wS p (startA nn ds) S ⟨fun _ S1 => Q .non S1, Q, fun _ _ => False, fun _ _ => False, fun _ _ _ => False⟩) : wF (fn0 np nn p ds S) Q X := by
  unfold fn0
  rw [if_pos hn]
  unfold wS at h
  cases e : p (startA nn ds) S with
  | nx σ1 S1 => rw [e] at h; exact h
  | rt _ _ => rw [e] at h; exact h
  | bk _ _ => rw [e] at h; exact h.elim
  | ct _ _ => rw [e] at h; exact h.elim
  | ex _ _ _ => rw [e] at h; exact h.elim
  | bad => rw [e] at h; exact h.elim
theorem w_fnX {np nn : Nat} (hn : ds.length = np) (h : wS p (startA nn ds) S ⟨fun _ S1 => Q .non S1, Q, fun _ _ => False, fun _ _ => False, fun C _ S1 => X C S1⟩) : wF (fnX np nn p ds S) Q X := by
  unfold fnX
  rw [if_pos hn]
  unfold wS at h
  cases e : p (startA nn ds) S with
  | nx σ1 S1 => rw [e] at h; exact h
  | rt _ _ => rw [e] at h; exact h
  | bk _ _ => rw [e] at h; exact h.elim
  | ct _ _ => rw [e] at h; exact h.elim
  | ex _ _ _ => rw [e] at h; exact h
  | bad => rw [e] at h; exact h.elim
theorem o_add (h : Q (.int (i + j)) S) : wO (dAdd (.int i) (.int j) S) Q := h
theorem o_sub (h : Q (.int (i - j)) S) : wO (dSub (.int i) (.int j) S) Q := h
theorem o_mul (h : Q (.int (i * j)) S) (c : CMul i j) : wO (dMul (.int i) (.int j) S) Q := by
  show wO (gd _ _) Q
  rw [gd_ok c]
  exact h
theorem o_mod (h : Q (.int (i % j)) S) (c : 0 < j) : wO (dMod (.int i) (.int j) S) Q := by
  show wO (gd _ _) Q
  rw [gd_ok c]
  exact h
theorem o_fdiv (h : Q (.int (i.fdiv j)) S) (c : CDivN i j) : wO (dFdiv (.int i) (.int j) S) Q := by
  show wO (gd _ _) Q
  rw [gd_ok c]
  exact h
theorem o_pow (h : Q (.int (i ^ j.toNat)) S) (c : CPow i j) : wO (dPow (.int i) (.int j) S) Q := by
  show wO (gd _ _) Q
  rw [gd_ok c]
  exact h
theorem o_neg (h : Q (.int (-i)) S) : wO (dNeg (.int i) S) Q := h
theorem o_lt (h : Q (.bl (decide (i < j))) S) : wO (dLt (.int i) (.int j) S) Q := h
theorem o_le (h : Q (.bl (decide (i ≤ j))) S) : wO (dLe (.int i) (.int j) S) Q := h
theorem o_gt (h : Q (.bl (decide (j < i))) S) : wO (dGt (.int i) (.int j) S) Q := h
theorem o_ge (h : Q (.bl (decide (j ≤ i))) S) : wO (dGe (.int i) (.int j) S) Q := h
theorem o_eqI (h : Q (.bl (decide (i = j))) S) : wO (dEq (.int i) (.int j) S) Q := h
theorem o_neI (h : Q (.bl (!decide (i = j))) S) : wO (dNe (.int i) (.int j) S) Q := h
theorem o_eqS (h : Q (.bl (decide (s = t))) S) : wO (dEq (.str s) (.str t) S) Q := h
theorem o_neS (h : Q (.bl (!decide (s = t))) S) : wO (dNe (.str s) (.str t) S) Q := h
theorem o_isN (h : Q (.bl (isNon x)) S) : wO (dIsN x .non S) Q := h
theorem o_notN (h : Q (.bl (!isNon x)) S) : wO (dNotN x .non S) Q := h
theorem o_adS (h : Q (.str (s ++ t)) S) (c : s.length + t.length ≤ sizeLine) : wO (dAdS (.str s) (.str t) S) Q := by
  show wO (gd _ _) Q
  rw [gd_ok c]
  exact h
theorem o_ixL (e : S[n]? = some (.lst ds)) (ei : atI ds i = some d) (h : Q d S) : wO (dIxL (.ref n) (.int i) S) Q := by
  rw [dIxL_ref e, ei]
  exact h
theorem o_ixT (ei : atI ds i = some d) (h : Q d S) : wO (dIxT (.tup ds) (.int i) S) Q := by
  show wO ((atI ds i).map _) Q
  rw [ei]
  exact h
theorem o_ixT0 {r : List D} (h : Q d S) : wO (dIxT (.tup (d :: r)) (.int 0) S) Q := o_ixT (atI_0 d r) h
theorem o_ixT1 {r : List D} {x0 : D} (h : Q d S) : wO (dIxT (.tup (x0 :: d :: r)) (.int 1) S) Q := o_ixT (atI_1 x0 d r) h
theorem o_ixT2 {r : List D} {x0 x1 : D} (h : Q d S) : wO (dIxT (.tup (x0 :: x1 :: d :: r)) (.int 2) S) Q := o_ixT (atI_2 x0 x1 d r) h
theorem o_ixT3 {r : List D} {x0 x1 x2 : D} (h : Q d S) : wO (dIxT (.tup (x0 :: x1 :: x2 :: d :: r)) (.int 3) S) Q := o_ixT (atI_3 x0 x1 x2 d r) h
theorem o_ixR {ns : List Int} {z : Int} (ei : atI ns i = some z) (h : Q (.int z) S) : wO (dIxR (.scr ns) (.int i) S) Q := by
  show wO ((atI ns i).map _) Q
  rw [ei]
  exact h
theorem o_fld (e : S[n]? = some (.obj C ds)) {z : Nat} (ei : ds[z]? = some d) (h : Q d S) : wO (dFld C z (.ref n) S) Q := by
  rw [dFld_ref e, ei]
  exact h
theorem o_int (h : Q (.int i) S) : wO (dInt (.int i) S) Q := h
theorem o_intB (h : Q (.int (if k then 1 else 0)) S) : wO (dInt (.bl k) S) Q := h
theorem o_lenQ (e : seqOf d S = some ds) (h : Q (.int (ds.length : Nat)) S) : wO (dLenQ d S) Q := by
  show wO ((seqOf d S).map _) Q
  rw [e]
  exact h
theorem o_lenS (c : s.length ≤ sizeLine) (h : Q (.int s.length) S) : wO (dLenS (.str s) S) Q := by
  show wO (gd _ _) Q
  rw [gd_ok c]
  exact h
theorem o_tupL (e : S[n]? = some (.lst ds)) (h : Q (.tup ds) S) : wO (dTupL (.ref n) S) Q := by
  show wO ((listAt S (.ref n)).map _) Q
  rw [listAt_ref e]
  exact h
theorem o_listOf (e : seqOf d S = some ds) (h : Q (.ref S.length) (S ++ [.lst ds])) : wO (dListOf d S) Q := by
  show wO ((seqOf d S).map _) Q
  rw [e]
  exact h
theorem o_cat {u : Nat} (e1 : S[n]? = some (.lst ds)) (e2 : S[u]? = some (.lst es)) (c : ds.length + es.length ≤ sizeLine) (h : Q (.ref S.length) (S ++ [.lst (ds ++ es)])) : wO (dCatL (.ref n) (.ref u) S) Q := by
  unfold dCatL
  rw [listAt_ref e1, listAt_ref e2]
  show wO (gd _ _) Q
  rw [gd_ok c]
  exact h
theorem o_append (e : S[n]? = some (.lst ds)) (c : ds.length < sizeLine) (h : Q .non (S.set n (.lst (ds ++ [d])))) : wO (dAppend (.ref n) [d] S) Q := by
  show wO ((listAt S (.ref n)).bind _) Q
  rw [listAt_ref e]
  show wO (gd _ _) Q
  rw [gd_ok c]
  exact h
theorem o_slS {lo hi : Option Int} (c : s.length ≤ sizeLine) (h : Q (.str (cutS s lo hi)) S) : wO (dSlS (.str s) lo hi S) Q := by
  show wO (gd _ _) Q
  rw [gd_ok c]
  exact h
theorem o_isi {nm kd : String} (e : tyN x S = some nm) (r : kitB nm kd = some k) (h : Q (.bl k) S) : wO (dIsi x (.ty kd) S) Q := by
  show wO ((tyN x S).bind _) Q
  rw [e]
  show wO ((kitB nm kd).map _) Q
  rw [r]
  exact h
theorem o_join {xs : List Str} (e : seqOf d S = some (xs.map .str)) (c : (xs.map (·.length)).sum + xs.length * s.length ≤ 16777216) (h : Q (.str (Txt.join s xs)) S) : wO (dJoin (.str s) d S) Q := by
  unfold dJoin
  rw [e]
  have : ∀ xs : List Str, strsOf (xs.map .str) = some xs := by
    intro xs
    induction xs with
    | nil => rfl
    | cons b bs ih => show (strsOf (bs.map .str)).map _ = _; rw [ih]; rfl
  show wO ((strsOf (xs.map .str)).bind _) Q
  rw [this]
  show wO (gd _ _) Q
  rw [gd_ok c]
  exact h
theorem o_neD {v : Bool} (e : dEqv x y S = some v) (h : Q (.bl (!v)) S) : wO (dNeD x y S) Q := by
  show wO ((dEqv x y S).map _) Q
  rw [e]
  exact h
theorem o_dec {A B : Prop} {cc : Prop} [Decidable cc] (h1 : cc → A) (h2 : ¬ cc → B) : if decide cc = true then A else B := if_dec h1 h2
/-- loops: an invariant by the turn -/
theorem w_loop {gd : Sto → Prop} {P : Nat → Sl → Sto → Prop} {body : Sm} : ∀ {ds : List D} {k : Nat} {σ : Sl} {S : Sto}, P k σ S → (∀ i d σ S, ds[i]? = some d → P (k + i) σ S → wG (tg d σ S) fun σ1 S1 => wS body σ1 S1 ⟨fun σ2 S2 => gd S2 ∧ P (k + i + 1) σ2 S2, rt, nx, fun σ2 S2 => gd S2 ∧ P (k + i + 1) σ2 S2, ex⟩) →
    (∀ σ S, P (k + ds.length) σ S → nx σ S) → wS (cLoop gd tg body ds) σ S ⟨nx, rt, bk, ct, ex⟩
  | [], k, σ, S, h0, hs, hd => hd σ S h0
  | d :: ds, k, σ, S, h0, hs, hd => by
    have h := hs 0 d σ S rfl h0
    unfold wS
    rw [cLoop]
    cases e : tg d σ S with
    | none => rw [e] at h; exact h.elim
    | some p =>
      rw [e] at h
      change wS body p.1 p.2 _ at h
      unfold wS at h
      simp only
      have go : ∀ σ2 S2, gd S2 ∧ P (k + 0 + 1) σ2 S2 → wR (open Classical in if gd S2 then cLoop gd tg body ds σ2 S2 else .bad) ⟨nx, rt, bk, ct, ex⟩ := fun σ2 S2 hp => by
        rw [if_pos hp.1]
        refine w_loop (k := k + 1) hp.2 (fun i d' σ' S' hi hP => ?_) (fun σ' S' hP => hd σ' S' (by rw [List.length_cons, show k + (ds.length + 1) = k + 1 + ds.length by omega]; exact hP))
        have q := hs (i + 1) d' σ' S' (by rw [List.getElem?_cons_succ]; exact hi) (by rw [show k + (i + 1) = k + 1 + i by omega]; exact hP)
        rw [show k + (i + 1) + 1 = k + 1 + i + 1 by omega] at q
        exact q
      cases eb : body p.1 p.2 with
      | nx σ2 S2 => rw [eb] at h; exact go _ _ h
      | ct σ2 S2 => rw [eb] at h; exact go _ _ h
      | bk σ2 S2 => rw [eb] at h; exact h
      | rt d2 S2 => rw [eb] at h; exact h
      | ex C σ2 S2 => rw [eb] at h; exact h
      | bad => rw [eb] at h; exact h
theorem w_for {mi : M Src} {body : Sm} (h : wI mi σ S (fun src S1 => src.gd S1 ∧ wS (cLoop src.gd tg body src.items) σ S1 ⟨nx, rt, bk, ct, ex⟩) fun C S1 => ex C σ S1) : wS (cFor mi tg body) σ S ⟨nx, rt, bk, ct, ex⟩ := by
  unfold wI at h
  unfold wS cFor sBind
  cases e : mi σ S with
  | ok src S1 =>
    rw [e] at h
    simp only
    rw [if_pos h.1]
    exact h.2
  | ex C S1 => rw [e] at h; exact h
  | bad => rw [e] at h; exact h
theorem i_eB {kk : D → M Src} (h : wE a σ S (fun x S1 => wI (kk x) σ S1 QI X) X) : wI (eBind a kk) σ S QI X := by
  unfold wE at h
  unfold wI eBind
  cases e : a σ S with
  | ok d S1 => rw [e] at h; exact h
  | ex C S1 => rw [e] at h; exact h
  | bad => rw [e] at h; exact h
theorem i_list (e : S[n]? = some (.lst ds)) (h : QI ⟨ds, fun S' => S'[n]? = some (.lst ds)⟩ S) : wI (sList (.ref n)) σ S QI X := by
  unfold wI sList
  simp only [e]
  exact h
theorem i_tup (h : QI ⟨ds, fun _ => True⟩ S) : wI (sTup (.tup ds)) σ S QI X := h
theorem i_str (h : QI ⟨(tl s).map fun c => .str ⟨#[c]⟩, fun _ => True⟩ S) : wI (sStr (.str s)) σ S QI X := h
theorem i_bL {kk : List D → M Src} (h : wL ml σ S (fun x S1 => wI (kk x) σ S1 QI X) X) : wI (eBind ml kk) σ S QI X := by
  unfold wL at h
  unfold wI eBind
  cases e : ml σ S with
  | ok d S1 => rw [e] at h; exact h
  | ex C S1 => rw [e] at h; exact h
  | bad => rw [e] at h; exact h
theorem i_r1 (h : wL ml σ S (fun x S1 => ∃ j, x = [.int j] ∧ RgOk 0 j ∧ QI ⟨(List.range j.toNat).map fun k => .int (0 + (k : Nat)), fun _ => True⟩ S1) X) : wI (sR1 ml) σ S QI X := by
  refine i_bL ?_
  unfold wL at *
  cases e : ml σ S with
  | ok d S1 =>
    rw [e] at h
    obtain ⟨j, rfl, c, q⟩ := h
    show wI (sRng 0 j) σ S1 QI X
    unfold wI sRng
    rw [if_pos c, Int.sub_zero]
    exact q
  | ex C S1 => rw [e] at h; exact h
  | bad => rw [e] at h; exact h
theorem rg_ok {j : Int} (h0 : 0 ≤ j) (h1 : j ≤ 1000000) : RgOk 0 j := ⟨by decide, by decide, by omega, by omega⟩
theorem c_gen {mi : M Src} {t : CTg} {vs : List Nat} {tt : M Bool} {te : M D} (h : wI mi σ S (fun src S0 => src.gd S0 ∧ src.gd (S0 ++ [.lst []]) ∧ ∃ P : Nat → Sto → Prop, P 0 (S0 ++ [.lst []]) ∧
      (∀ i d S, src.items[i]? = some d → P i S → ∃ σ2, cgs t d (wipeA σ vs) = some σ2 ∧ wB tt σ2 S (fun b S1 => if b = true then wE te σ2 S1 (fun y S2 => ∃ acc, S2[S0.length]? = some (.lst acc) ∧ acc.length < sizeLine ∧ src.gd (S2.set S0.length (.lst (acc ++ [y]))) ∧ P (i + 1) (S2.set S0.length (.lst (acc ++ [y])))) noX
        else src.gd S1 ∧ P (i + 1) S1) noX) ∧ ∀ S1, P src.items.length S1 → Q (.ref S0.length) S1) X) : wE (eLc mi t vs tt te) σ S Q X := by
  refine Dw.Qt.un ?_
  simp (disch := (with_unfolding_all
    (unfold wI at h
     unfold wE eLc
     cases e : mi σ S with
     | ex C S1 => rw [e] at h; exact h
     | bad => rw [e] at h; exact h
     | ok src S0 =>
       rw [e] at h
       obtain ⟨g0, g1, P, h0, hs, hd⟩ := h
       simp only
       rw [if_pos ⟨g0, g1⟩]
       have key : ∀ (ds : List D) (k : Nat) (S1 : Sto), (∀ i, ds[i]? = src.items[k + i]?) → P k S1 → ∃ S2, lcA src.gd t vs tt te S0.length σ ds S1 = some S2 ∧ P (k + ds.length) S2 := by
         intro ds
         induction ds with
         | nil => intro k S1 _ hP; exact ⟨S1, rfl, hP⟩
         | cons d ds ih =>
           intro k S1 hi hP
           obtain ⟨σ2, e2, hw⟩ := hs k d S1 (by have := hi 0; simpa using this.symm) hP
           have hi' : ∀ i, ds[i]? = src.items[k + 1 + i]? := fun i => by
             have := hi (i + 1)
             rw [List.getElem?_cons_succ] at this
             rw [this]
             congr 1
             omega
           rw [lcA, e2]
           simp only
           unfold wB at hw
           cases et : tt σ2 S1 with
           | ex C S2 => rw [et] at hw; exact hw.elim
           | bad => rw [et] at hw; exact hw.elim
           | ok b S2 =>
             rw [et] at hw
             cases b with
             | true =>
               obtain ⟨y, S3, e3, acc, ea, hl, hg, hp⟩ := wF_to (show wF (te σ2 S2) _ noX from hw)
               simp only [e3, ea]
               rw [if_pos ⟨hl, hg⟩]
               obtain ⟨S4, e4, h4⟩ := ih (k + 1) _ hi' hp
               exact ⟨S4, e4, by rw [List.length_cons, show k + (ds.length + 1) = k + 1 + ds.length by omega]; exact h4⟩
             | false =>
               simp only
               rw [if_pos hw.1]
               obtain ⟨S4, e4, h4⟩ := ih (k + 1) _ hi' hw.2
               exact ⟨S4, e4, by rw [List.length_cons, show k + (ds.length + 1) = k + 1 + ds.length by omega]; exact h4⟩
       obtain ⟨S2, e2, h2⟩ := key src.items 0 (S0 ++ [.lst []]) (fun i => by rw [Nat.zero_add]) h0
       rw [e2]
       exact hd S2 (by rw [Nat.zero_add] at h2; exact h2)))) only [↓Dw.Qt.tt]
theorem w_nT {A B : Prop} (h : B) : if (!true) = true then A else B := h
theorem w_nF {A B : Prop} (h : A) : if (!false) = true then A else B := h
theorem len_and {n : Nat} {P : Prop} (h : P) (c : n ≤ sizeLine) : n ≤ sizeLine ∧ P := ⟨c, h⟩
theorem w_iT {A B : Prop} (h : A) : if true = true then A else B := iteT h
theorem w_iF {A B : Prop} (h : B) : if false = true then A else B := iteF h
theorem w_v0 (h : Q d S) : wE (eV 0) (some d :: l) S Q X := h
theorem w_s0 {y : Option D} (h : wE a (y :: l) S (fun d S1 => nx (some d :: l) S1) fun C S1 => ex C (y :: l) S1) : wS (cSet 0 a) (y :: l) S ⟨nx, rt, bk, ct, ex⟩ := w_set h
theorem g_n0 {y : Option D} (h : QG (some d :: l) S) : wG (tgName 0 d (y :: l) S) QG := h
theorem w_v1 {x0 : Option D} (h : Q d S) : wE (eV 1) (x0 :: some d :: l) S Q X := h
theorem w_s1 {x0 : Option D} {y : Option D} (h : wE a (x0 :: y :: l) S (fun d S1 => nx (x0 :: some d :: l) S1) fun C S1 => ex C (x0 :: y :: l) S1) : wS (cSet 1 a) (x0 :: y :: l) S ⟨nx, rt, bk, ct, ex⟩ := w_set h
theorem g_n1 {x0 : Option D} {y : Option D} (h : QG (x0 :: some d :: l) S) : wG (tgName 1 d (x0 :: y :: l) S) QG := h
theorem w_v2 {x0 x1 : Option D} (h : Q d S) : wE (eV 2) (x0 :: x1 :: some d :: l) S Q X := h
theorem w_s2 {x0 x1 : Option D} {y : Option D} (h : wE a (x0 :: x1 :: y :: l) S (fun d S1 => nx (x0 :: x1 :: some d :: l) S1) fun C S1 => ex C (x0 :: x1 :: y :: l) S1) : wS (cSet 2 a) (x0 :: x1 :: y :: l) S ⟨nx, rt, bk, ct, ex⟩ := w_set h
theorem g_n2 {x0 x1 : Option D} {y : Option D} (h : QG (x0 :: x1 :: some d :: l) S) : wG (tgName 2 d (x0 :: x1 :: y :: l) S) QG := h
theorem w_v3 {x0 x1 x2 : Option D} (h : Q d S) : wE (eV 3) (x0 :: x1 :: x2 :: some d :: l) S Q X := h
theorem w_s3 {x0 x1 x2 : Option D} {y : Option D} (h : wE a (x0 :: x1 :: x2 :: y :: l) S (fun d S1 => nx (x0 :: x1 :: x2 :: some d :: l) S1) fun C S1 => ex C (x0 :: x1 :: x2 :: y :: l) S1) : wS (cSet 3 a) (x0 :: x1 :: x2 :: y :: l) S ⟨nx, rt, bk, ct, ex⟩ := w_set h
theorem g_n3 {x0 x1 x2 : Option D} {y : Option D} (h : QG (x0 :: x1 :: x2 :: some d :: l) S) : wG (tgName 3 d (x0 :: x1 :: x2 :: y :: l) S) QG := h
theorem w_v4 {x0 x1 x2 x3 : Option D} (h : Q d S) : wE (eV 4) (x0 :: x1 :: x2 :: x3 :: some d :: l) S Q X := h
theorem w_s4 {x0 x1 x2 x3 : Option D} {y : Option D} (h : wE a (x0 :: x1 :: x2 :: x3 :: y :: l) S (fun d S1 => nx (x0 :: x1 :: x2 :: x3 :: some d :: l) S1) fun C S1 => ex C (x0 :: x1 :: x2 :: x3 :: y :: l) S1) : wS (cSet 4 a) (x0 :: x1 :: x2 :: x3 :: y :: l) S ⟨nx, rt, bk, ct, ex⟩ := w_set h
theorem g_n4 {x0 x1 x2 x3 : Option D} {y : Option D} (h : QG (x0 :: x1 :: x2 :: x3 :: some d :: l) S) : wG (tgName 4 d (x0 :: x1 :: x2 :: x3 :: y :: l) S) QG := h
theorem w_v5 {x0 x1 x2 x3 x4 : Option D} (h : Q d S) : wE (eV 5) (x0 :: x1 :: x2 :: x3 :: x4 :: some d :: l) S Q X := h
theorem w_s5 {x0 x1 x2 x3 x4 : Option D} {y : Option D} (h : wE a (x0 :: x1 :: x2 :: x3 :: x4 :: y :: l) S (fun d S1 => nx (x0 :: x1 :: x2 :: x3 :: x4 :: some d :: l) S1) fun C S1 => ex C (x0 :: x1 :: x2 :: x3 :: x4 :: y :: l) S1) : wS (cSet 5 a) (x0 :: x1 :: x2 :: x3 :: x4 :: y :: l) S ⟨nx, rt, bk, ct, ex⟩ := w_set h
theorem g_n5 {x0 x1 x2 x3 x4 : Option D} {y : Option D} (h : QG (x0 :: x1 :: x2 :: x3 :: x4 :: some d :: l) S) : wG (tgName 5 d (x0 :: x1 :: x2 :: x3 :: x4 :: y :: l) S) QG := h
theorem w_v6 {x0 x1 x2 x3 x4 x5 : Option D} (h : Q d S) : wE (eV 6) (x0 :: x1 :: x2 :: x3 :: x4 :: x5 :: some d :: l) S Q X := h
theorem w_s6 {x0 x1 x2 x3 x4 x5 : Option D} {y : Option D} (h : wE a (x0 :: x1 :: x2 :: x3 :: x4 :: x5 :: y :: l) S (fun d S1 => nx (x0 :: x1 :: x2 :: x3 :: x4 :: x5 :: some d :: l) S1) fun C S1 => ex C (x0 :: x1 :: x2 :: x3 :: x4 :: x5 :: y :: l) S1) : wS (cSet 6 a) (x0 :: x1 :: x2 :: x3 :: x4 :: x5 :: y :: l) S ⟨nx, rt, bk, ct, ex⟩ := w_set h
theorem g_n6 {x0 x1 x2 x3 x4 x5 : Option D} {y : Option D} (h : QG (x0 :: x1 :: x2 :: x3 :: x4 :: x5 :: some d :: l) S) : wG (tgName 6 d (x0 :: x1 :: x2 :: x3 :: x4 :: x5 :: y :: l) S) QG := h
theorem w_v7 {x0 x1 x2 x3 x4 x5 x6 : Option D} (h : Q d S) : wE (eV 7) (x0 :: x1 :: x2 :: x3 :: x4 :: x5 :: x6 :: some d :: l) S Q X := h
theorem w_s7 {x0 x1 x2 x3 x4 x5 x6 : Option D} {y : Option D} (h : wE a (x0 :: x1 :: x2 :: x3 :: x4 :: x5 :: x6 :: y :: l) S (fun d S1 => nx (x0 :: x1 :: x2 :: x3 :: x4 :: x5 :: x6 :: some d :: l) S1) fun C S1 => ex C (x0 :: x1 :: x2 :: x3 :: x4 :: x5 :: x6 :: y :: l) S1) : wS (cSet 7 a) (x0 :: x1 :: x2 :: x3 :: x4 :: x5 :: x6 :: y :: l) S ⟨nx, rt, bk, ct, ex⟩ := w_set h
theorem g_n7 {x0 x1 x2 x3 x4 x5 x6 : Option D} {y : Option D} (h : QG (x0 :: x1 :: x2 :: x3 :: x4 :: x5 :: x6 :: some d :: l) S) : wG (tgName 7 d (x0 :: x1 :: x2 :: x3 :: x4 :: x5 :: x6 :: y :: l) S) QG := h
theorem w_v8 {x0 x1 x2 x3 x4 x5 x6 x7 : Option D} (h : Q d S) : wE (eV 8) (x0 :: x1 :: x2 :: x3 :: x4 :: x5 :: x6 :: x7 :: some d :: l) S Q X := h
theorem w_s8 {x0 x1 x2 x3 x4 x5 x6 x7 : Option D} {y : Option D} (h : wE a (x0 :: x1 :: x2 :: x3 :: x4 :: x5 :: x6 :: x7 :: y :: l) S (fun d S1 => nx (x0 :: x1 :: x2 :: x3 :: x4 :: x5 :: x6 :: x7 :: some d :: l) S1) fun C S1 => ex C (x0 :: x1 :: x2 :: x3 :: x4 :: x5 :: x6 :: x7 :: y :: l) S1) : wS (cSet 8 a) (x0 :: x1 :: x2 :: x3 :: x4 :: x5 :: x6 :: x7 :: y :: l) S ⟨nx, rt, bk, ct, ex⟩ := w_set h
theorem g_n8 {x0 x1 x2 x3 x4 x5 x6 x7 : Option D} {y : Option D} (h : QG (x0 :: x1 :: x2 :: x3 :: x4 :: x5 :: x6 :: x7 :: some d :: l) S) : wG (tgName 8 d (x0 :: x1 :: x2 :: x3 :: x4 :: x5 :: x6 :: x7 :: y :: l) S) QG := h
theorem w_v9 {x0 x1 x2 x3 x4 x5 x6 x7 x8 : Option D} (h : Q d S) : wE (eV 9) (x0 :: x1 :: x2 :: x3 :: x4 :: x5 :: x6 :: x7 :: x8 :: some d :: l) S Q X := h
theorem w_s9 {x0 x1 x2 x3 x4 x5 x6 x7 x8 : Option D} {y : Option D} (h : wE a (x0 :: x1 :: x2 :: x3 :: x4 :: x5 :: x6 :: x7 :: x8 :: y :: l) S (fun d S1 => nx (x0 :: x1 :: x2 :: x3 :: x4 :: x5 :: x6 :: x7 :: x8 :: some d :: l) S1) fun C S1 => ex C (x0 :: x1 :: x2 :: x3 :: x4 :: x5 :: x6 :: x7 :: x8 :: y :: l) S1) : wS (cSet 9 a) (x0 :: x1 :: x2 :: x3 :: x4 :: x5 :: x6 :: x7 :: x8 :: y :: l) S ⟨nx, rt, bk, ct, ex⟩ := w_set h
theorem g_n9 {x0 x1 x2 x3 x4 x5 x6 x7 x8 : Option D} {y : Option D} (h : QG (x0 :: x1 :: x2 :: x3 :: x4 :: x5 :: x6 :: x7 :: x8 :: some d :: l) S) : wG (tgName 9 d (x0 :: x1 :: x2 :: x3 :: x4 :: x5 :: x6 :: x7 :: x8 :: y :: l) S) QG := h
theorem w_v10 {x0 x1 x2 x3 x4 x5 x6 x7 x8 x9 : Option D} (h : Q d S) : wE (eV 10) (x0 :: x1 :: x2 :: x3 :: x4 :: x5 :: x6 :: x7 :: x8 :: x9 :: some d :: l) S Q X := h
theorem w_s10 {x0 x1 x2 x3 x4 x5 x6 x7 x8 x9 : Option D} {y : Option D} (h : wE a (x0 :: x1 :: x2 :: x3 :: x4 :: x5 :: x6 :: x7 :: x8 :: x9 :: y :: l) S (fun d S1 => nx (x0 :: x1 :: x2 :: x3 :: x4 :: x5 :: x6 :: x7 :: x8 :: x9 :: some d :: l) S1) fun C S1 => ex C (x0 :: x1 :: x2 :: x3 :: x4 :: x5 :: x6 :: x7 :: x8 :: x9 :: y :: l) S1) : wS (cSet 10 a) (x0 :: x1 :: x2 :: x3 :: x4 :: x5 :: x6 :: x7 :: x8 :: x9 :: y :: l) S ⟨nx, rt, bk, ct, ex⟩ := w_set h
theorem g_n10 {x0 x1 x2 x3 x4 x5 x6 x7 x8 x9 : Option D} {y : Option D} (h : QG (x0 :: x1 :: x2 :: x3 :: x4 :: x5 :: x6 :: x7 :: x8 :: x9 :: some d :: l) S) : wG (tgName 10 d (x0 :: x1 :: x2 :: x3 :: x4 :: x5 :: x6 :: x7 :: x8 :: x9 :: y :: l) S) QG := h
theorem w_v11 {x0 x1 x2 x3 x4 x5 x6 x7 x8 x9 x10 : Option D} (h : Q d S) : wE (eV 11) (x0 :: x1 :: x2 :: x3 :: x4 :: x5 :: x6 :: x7 :: x8 :: x9 :: x10 :: some d :: l) S Q X := h
theorem w_s11 {x0 x1 x2 x3 x4 x5 x6 x7 x8 x9 x10 : Option D} {y : Option D} (h : wE a (x0 :: x1 :: x2 :: x3 :: x4 :: x5 :: x6 :: x7 :: x8 :: x9 :: x10 :: y :: l) S (fun d S1 => nx (x0 :: x1 :: x2 :: x3 :: x4 :: x5 :: x6 :: x7 :: x8 :: x9 :: x10 :: some d :: l) S1) fun C S1 => ex C (x0 :: x1 :: x2 :: x3 :: x4 :: x5 :: x6 :: x7 :: x8 :: x9 :: x10 :: y :: l) S1) : wS (cSet 11 a) (x0 :: x1 :: x2 :: x3 :: x4 :: x5 :: x6 :: x7 :: x8 :: x9 :: x10 :: y :: l) S ⟨nx, rt, bk, ct, ex⟩ := w_set h
theorem g_n11 {x0 x1 x2 x3 x4 x5 x6 x7 x8 x9 x10 : Option D} {y : Option D} (h : QG (x0 :: x1 :: x2 :: x3 :: x4 :: x5 :: x6 :: x7 :: x8 :: x9 :: x10 :: some d :: l) S) : wG (tgName 11 d (x0 :: x1 :: x2 :: x3 :: x4 :: x5 :: x6 :: x7 :: x8 :: x9 :: x10 :: y :: l) S) QG := h
theorem w_v12 {x0 x1 x2 x3 x4 x5 x6 x7 x8 x9 x10 x11 : Option D} (h : Q d S) : wE (eV 12) (x0 :: x1 :: x2 :: x3 :: x4 :: x5 :: x6 :: x7 :: x8 :: x9 :: x10 :: x11 :: some d :: l) S Q X := h
theorem w_s12 {x0 x1 x2 x3 x4 x5 x6 x7 x8 x9 x10 x11 : Option D} {y : Option D} (h : wE a (x0 :: x1 :: x2 :: x3 :: x4 :: x5 :: x6 :: x7 :: x8 :: x9 :: x10 :: x11 :: y :: l) S (fun d S1 => nx (x0 :: x1 :: x2 :: x3 :: x4 :: x5 :: x6 :: x7 :: x8 :: x9 :: x10 :: x11 :: some d :: l) S1) fun C S1 => ex C (x0 :: x1 :: x2 :: x3 :: x4 :: x5 :: x6 :: x7 :: x8 :: x9 :: x10 :: x11 :: y :: l) S1) : wS (cSet 12 a) (x0 :: x1 :: x2 :: x3 :: x4 :: x5 :: x6 :: x7 :: x8 :: x9 :: x10 :: x11 :: y :: l) S ⟨nx, rt, bk, ct, ex⟩ := w_set h
theorem g_n12 {x0 x1 x2 x3 x4 x5 x6 x7 x8 x9 x10 x11 : Option D} {y : Option D} (h : QG (x0 :: x1 :: x2 :: x3 :: x4 :: x5 :: x6 :: x7 :: x8 :: x9 :: x10 :: x11 :: some d :: l) S) : wG (tgName 12 d (x0 :: x1 :: x2 :: x3 :: x4 :: x5 :: x6 :: x7 :: x8 :: x9 :: x10 :: x11 :: y :: l) S) QG := h
theorem w_v13 {x0 x1 x2 x3 x4 x5 x6 x7 x8 x9 x10 x11 x12 : Option D} (h : Q d S) : wE (eV 13) (x0 :: x1 :: x2 :: x3 :: x4 :: x5 :: x6 :: x7 :: x8 :: x9 :: x10 :: x11 :: x12 :: some d :: l) S Q X := h
theorem w_s13 {x0 x1 x2 x3 x4 x5 x6 x7 x8 x9 x10 x11 x12 : Option D} {y : Option D} (h : wE a (x0 :: x1 :: x2 :: x3 :: x4 :: x5 :: x6 :: x7 :: x8 :: x9 :: x10 :: x11 :: x12 :: y :: l) S (fun d S1 => nx (x0 :: x1 :: x2 :: x3 :: x4 :: x5 :: x6 :: x7 :: x8 :: x9 :: x10 :: x11 :: x12 :: some d :: l) S1) fun C S1 => ex C (x0 :: x1 :: x2 :: x3 :: x4 :: x5 :: x6 :: x7 :: x8 :: x9 :: x10 :: x11 :: x12 :: y :: l) S1) : wS (cSet 13 a) (x0 :: x1 :: x2 :: x3 :: x4 :: x5 :: x6 :: x7 :: x8 :: x9 :: x10 :: x11 :: x12 :: y :: l) S ⟨nx, rt, bk, ct, ex⟩ := w_set h
theorem g_n13 {x0 x1 x2 x3 x4 x5 x6 x7 x8 x9 x10 x11 x12 : Option D} {y : Option D} (h : QG (x0 :: x1 :: x2 :: x3 :: x4 :: x5 :: x6 :: x7 :: x8 :: x9 :: x10 :: x11 :: x12 :: some d :: l) S) : wG (tgName 13 d (x0 :: x1 :: x2 :: x3 :: x4 :: x5 :: x6 :: x7 :: x8 :: x9 :: x10 :: x11 :: x12 :: y :: l) S) QG := h
theorem w_v14 {x0 x1 x2 x3 x4 x5 x6 x7 x8 x9 x10 x11 x12 x13 : Option D} (h : Q d S) : wE (eV 14) (x0 :: x1 :: x2 :: x3 :: x4 :: x5 :: x6 :: x7 :: x8 :: x9 :: x10 :: x11 :: x12 :: x13 :: some d :: l) S Q X := h
theorem w_s14 {x0 x1 x2 x3 x4 x5 x6 x7 x8 x9 x10 x11 x12 x13 : Option D} {y : Option D} (h : wE a (x0 :: x1 :: x2 :: x3 :: x4 :: x5 :: x6 :: x7 :: x8 :: x9 :: x10 :: x11 :: x12 :: x13 :: y :: l) S (fun d S1 => nx (x0 :: x1 :: x2 :: x3 :: x4 :: x5 :: x6 :: x7 :: x8 :: x9 :: x10 :: x11 :: x12 :: x13 :: some d :: l) S1) fun C S1 => ex C (x0 :: x1 :: x2 :: x3 :: x4 :: x5 :: x6 :: x7 :: x8 :: x9 :: x10 :: x11 :: x12 :: x13 :: y :: l) S1) : wS (cSet 14 a) (x0 :: x1 :: x2 :: x3 :: x4 :: x5 :: x6 :: x7 :: x8 :: x9 :: x10 :: x11 :: x12 :: x13 :: y :: l) S ⟨nx, rt, bk, ct, ex⟩ := w_set h
theorem g_n14 {x0 x1 x2 x3 x4 x5 x6 x7 x8 x9 x10 x11 x12 x13 : Option D} {y : Option D} (h : QG (x0 :: x1 :: x2 :: x3 :: x4 :: x5 :: x6 :: x7 :: x8 :: x9 :: x10 :: x11 :: x12 :: x13 :: some d :: l) S) : wG (tgName 14 d (x0 :: x1 :: x2 :: x3 :: x4 :: x5 :: x6 :: x7 :: x8 :: x9 :: x10 :: x11 :: x12 :: x13 :: y :: l) S) QG := h
theorem w_v15 {x0 x1 x2 x3 x4 x5 x6 x7 x8 x9 x10 x11 x12 x13 x14 : Option D} (h : Q d S) : wE (eV 15) (x0 :: x1 :: x2 :: x3 :: x4 :: x5 :: x6 :: x7 :: x8 :: x9 :: x10 :: x11 :: x12 :: x13 :: x14 :: some d :: l) S Q X := h
theorem w_s15 {x0 x1 x2 x3 x4 x5 x6 x7 x8 x9 x10 x11 x12 x13 x14 : Option D} {y : Option D} (h : wE a (x0 :: x1 :: x2 :: x3 :: x4 :: x5 :: x6 :: x7 :: x8 :: x9 :: x10 :: x11 :: x12 :: x13 :: x14 :: y :: l) S (fun d S1 => nx (x0 :: x1 :: x2 :: x3 :: x4 :: x5 :: x6 :: x7 :: x8 :: x9 :: x10 :: x11 :: x12 :: x13 :: x14 :: some d :: l) S1) fun C S1 => ex C (x0 :: x1 :: x2 :: x3 :: x4 :: x5 :: x6 :: x7 :: x8 :: x9 :: x10 :: x11 :: x12 :: x13 :: x14 :: y :: l) S1) : wS (cSet 15 a) (x0 :: x1 :: x2 :: x3 :: x4 :: x5 :: x6 :: x7 :: x8 :: x9 :: x10 :: x11 :: x12 :: x13 :: x14 :: y :: l) S ⟨nx, rt, bk, ct, ex⟩ := w_set h
theorem g_n15 {x0 x1 x2 x3 x4 x5 x6 x7 x8 x9 x10 x11 x12 x13 x14 : Option D} {y : Option D} (h : QG (x0 :: x1 :: x2 :: x3 :: x4 :: x5 :: x6 :: x7 :: x8 :: x9 :: x10 :: x11 :: x12 :: x13 :: x14 :: some d :: l) S) : wG (tgName 15 d (x0 :: x1 :: x2 :: x3 :: x4 :: x5 :: x6 :: x7 :: x8 :: x9 :: x10 :: x11 :: x12 :: x13 :: x14 :: y :: l) S) QG := h
theorem w_v16 {x0 x1 x2 x3 x4 x5 x6 x7 x8 x9 x10 x11 x12 x13 x14 x15 : Option D} (h : Q d S) : wE (eV 16) (x0 :: x1 :: x2 :: x3 :: x4 :: x5 :: x6 :: x7 :: x8 :: x9 :: x10 :: x11 :: x12 :: x13 :: x14 :: x15 :: some d :: l) S Q X := h
theorem w_s16 {x0 x1 x2 x3 x4 x5 x6 x7 x8 x9 x10 x11 x12 x13 x14 x15 : Option D} {y : Option D} (h : wE a (x0 :: x1 :: x2 :: x3 :: x4 :: x5 :: x6 :: x7 :: x8 :: x9 :: x10 :: x11 :: x12 :: x13 :: x14 :: x15 :: y :: l) S (fun d S1 => nx (x0 :: x1 :: x2 :: x3 :: x4 :: x5 :: x6 :: x7 :: x8 :: x9 :: x10 :: x11 :: x12 :: x13 :: x14 :: x15 :: some d :: l) S1) fun C S1 => ex C (x0 :: x1 :: x2 :: x3 :: x4 :: x5 :: x6 :: x7 :: x8 :: x9 :: x10 :: x11 :: x12 :: x13 :: x14 :: x15 :: y :: l) S1) : wS (cSet 16 a) (x0 :: x1 :: x2 :: x3 :: x4 :: x5 :: x6 :: x7 :: x8 :: x9 :: x10 :: x11 :: x12 :: x13 :: x14 :: x15 :: y :: l) S ⟨nx, rt, bk, ct, ex⟩ := w_set h
theorem g_n16 {x0 x1 x2 x3 x4 x5 x6 x7 x8 x9 x10 x11 x12 x13 x14 x15 : Option D} {y : Option D} (h : QG (x0 :: x1 :: x2 :: x3 :: x4 :: x5 :: x6 :: x7 :: x8 :: x9 :: x10 :: x11 :: x12 :: x13 :: x14 :: x15 :: some d :: l) S) : wG (tgName 16 d (x0 :: x1 :: x2 :: x3 :: x4 :: x5 :: x6 :: x7 :: x8 :: x9 :: x10 :: x11 :: x12 :: x13 :: x14 :: x15 :: y :: l) S) QG := h
theorem w_v17 {x0 x1 x2 x3 x4 x5 x6 x7 x8 x9 x10 x11 x12 x13 x14 x15 x16 : Option D} (h : Q d S) : wE (eV 17) (x0 :: x1 :: x2 :: x3 :: x4 :: x5 :: x6 :: x7 :: x8 :: x9 :: x10 :: x11 :: x12 :: x13 :: x14 :: x15 :: x16 :: some d :: l) S Q X := h
theorem w_s17 {x0 x1 x2 x3 x4 x5 x6 x7 x8 x9 x10 x11 x12 x13 x14 x15 x16 : Option D} {y : Option D} (h : wE a (x0 :: x1 :: x2 :: x3 :: x4 :: x5 :: x6 :: x7 :: x8 :: x9 :: x10 :: x11 :: x12 :: x13 :: x14 :: x15 :: x16 :: y :: l) S (fun d S1 => nx (x0 :: x1 :: x2 :: x3 :: x4 :: x5 :: x6 :: x7 :: x8 :: x9 :: x10 :: x11 :: x12 :: x13 :: x14 :: x15 :: x16 :: some d :: l) S1) fun C S1 => ex C (x0 :: x1 :: x2 :: x3 :: x4 :: x5 :: x6 :: x7 :: x8 :: x9 :: x10 :: x11 :: x12 :: x13 :: x14 :: x15 :: x16 :: y :: l) S1) : wS (cSet 17 a) (x0 :: x1 :: x2 :: x3 :: x4 :: x5 :: x6 :: x7 :: x8 :: x9 :: x10 :: x11 :: x12 :: x13 :: x14 :: x15 :: x16 :: y :: l) S ⟨nx, rt, bk, ct, ex⟩ := w_set h
theorem g_n17 {x0 x1 x2 x3 x4 x5 x6 x7 x8 x9 x10 x11 x12 x13 x14 x15 x16 : Option D} {y : Option D} (h : QG (x0 :: x1 :: x2 :: x3 :: x4 :: x5 :: x6 :: x7 :: x8 :: x9 :: x10 :: x11 :: x12 :: x13 :: x14 :: x15 :: x16 :: some d :: l) S) : wG (tgName 17 d (x0 :: x1 :: x2 :: x3 :: x4 :: x5 :: x6 :: x7 :: x8 :: x9 :: x10 :: x11 :: x12 :: x13 :: x14 :: x15 :: x16 :: y :: l) S) QG := h
theorem w_v18 {x0 x1 x2 x3 x4 x5 x6 x7 x8 x9 x10 x11 x12 x13 x14 x15 x16 x17 : Option D} (h : Q d S) : wE (eV 18) (x0 :: x1 :: x2 :: x3 :: x4 :: x5 :: x6 :: x7 :: x8 :: x9 :: x10 :: x11 :: x12 :: x13 :: x14 :: x15 :: x16 :: x17 :: some d :: l) S Q X := h
theorem w_s18 {x0 x1 x2 x3 x4 x5 x6 x7 x8 x9 x10 x11 x12 x13 x14 x15 x16 x17 : Option D} {y : Option D} (h : wE a (x0 :: x1 :: x2 :: x3 :: x4 :: x5 :: x6 :: x7 :: x8 :: x9 :: x10 :: x11 :: x12 :: x13 :: x14 :: x15 :: x16 :: x17 :: y :: l) S (fun d S1 => nx (x0 :: x1 :: x2 :: x3 :: x4 :: x5 :: x6 :: x7 :: x8 :: x9 :: x10 :: x11 :: x12 :: x13 :: x14 :: x15 :: x16 :: x17 :: some d :: l) S1) fun C S1 => ex C (x0 :: x1 :: x2 :: x3 :: x4 :: x5 :: x6 :: x7 :: x8 :: x9 :: x10 :: x11 :: x12 :: x13 :: x14 :: x15 :: x16 :: x17 :: y :: l) S1) : wS (cSet 18 a) (x0 :: x1 :: x2 :: x3 :: x4 :: x5 :: x6 :: x7 :: x8 :: x9 :: x10 :: x11 :: x12 :: x13 :: x14 :: x15 :: x16 :: x17 :: y :: l) S ⟨nx, rt, bk, ct, ex⟩ := w_set h
theorem g_n18 {x0 x1 x2 x3 x4 x5 x6 x7 x8 x9 x10 x11 x12 x13 x14 x15 x16 x17 : Option D} {y : Option D} (h : QG (x0 :: x1 :: x2 :: x3 :: x4 :: x5 :: x6 :: x7 :: x8 :: x9 :: x10 :: x11 :: x12 :: x13 :: x14 :: x15 :: x16 :: x17 :: some d :: l) S) : wG (tgName 18 d (x0 :: x1 :: x2 :: x3 :: x4 :: x5 :: x6 :: x7 :: x8 :: x9 :: x10 :: x11 :: x12 :: x13 :: x14 :: x15 :: x16 :: x17 :: y :: l) S) QG := h
theorem w_v19 {x0 x1 x2 x3 x4 x5 x6 x7 x8 x9 x10 x11 x12 x13 x14 x15 x16 x17 x18 : Option D} (h : Q d S) : wE (eV 19) (x0 :: x1 :: x2 :: x3 :: x4 :: x5 :: x6 :: x7 :: x8 :: x9 :: x10 :: x11 :: x12 :: x13 :: x14 :: x15 :: x16 :: x17 :: x18 :: some d :: l) S Q X := h
theorem w_s19 {x0 x1 x2 x3 x4 x5 x6 x7 x8 x9 x10 x11 x12 x13 x14 x15 x16 x17 x18 : Option D} {y : Option D} (h : wE a (x0 :: x1 :: x2 :: x3 :: x4 :: x5 :: x6 :: x7 :: x8 :: x9 :: x10 :: x11 :: x12 :: x13 :: x14 :: x15 :: x16 :: x17 :: x18 :: y :: l) S (fun d S1 => nx (x0 :: x1 :: x2 :: x3 :: x4 :: x5 :: x6 :: x7 :: x8 :: x9 :: x10 :: x11 :: x12 :: x13 :: x14 :: x15 :: x16 :: x17 :: x18 :: some d :: l) S1) fun C S1 => ex C (x0 :: x1 :: x2 :: x3 :: x4 :: x5 :: x6 :: x7 :: x8 :: x9 :: x10 :: x11 :: x12 :: x13 :: x14 :: x15 :: x16 :: x17 :: x18 :: y :: l) S1) : wS (cSet 19 a) (x0 :: x1 :: x2 :: x3 :: x4 :: x5 :: x6 :: x7 :: x8 :: x9 :: x10 :: x11 :: x12 :: x13 :: x14 :: x15 :: x16 :: x17 :: x18 :: y :: l) S ⟨nx, rt, bk, ct, ex⟩ := w_set h
theorem g_n19 {x0 x1 x2 x3 x4 x5 x6 x7 x8 x9 x10 x11 x12 x13 x14 x15 x16 x17 x18 : Option D} {y : Option D} (h : QG (x0 :: x1 :: x2 :: x3 :: x4 :: x5 :: x6 :: x7 :: x8 :: x9 :: x10 :: x11 :: x12 :: x13 :: x14 :: x15 :: x16 :: x17 :: x18 :: some d :: l) S) : wG (tgName 19 d (x0 :: x1 :: x2 :: x3 :: x4 :: x5 :: x6 :: x7 :: x8 :: x9 :: x10 :: x11 :: x12 :: x13 :: x14 :: x15 :: x16 :: x17 :: x18 :: y :: l) S) QG := h
theorem w_v20 {x0 x1 x2 x3 x4 x5 x6 x7 x8 x9 x10 x11 x12 x13 x14 x15 x16 x17 x18 x19 : Option D} (h : Q d S) : wE (eV 20) (x0 :: x1 :: x2 :: x3 :: x4 :: x5 :: x6 :: x7 :: x8 :: x9 :: x10 :: x11 :: x12 :: x13 :: x14 :: x15 :: x16 :: x17 :: x18 :: x19 :: some d :: l) S Q X := h
theorem w_s20 {x0 x1 x2 x3 x4 x5 x6 x7 x8 x9 x10 x11 x12 x13 x14 x15 x16 x17 x18 x19 : Option D} {y : Option D} (h : wE a (x0 :: x1 :: x2 :: x3 :: x4 :: x5 :: x6 :: x7 :: x8 :: x9 :: x10 :: x11 :: x12 :: x13 :: x14 :: x15 :: x16 :: x17 :: x18 :: x19 :: y :: l) S (fun d S1 => nx (x0 :: x1 :: x2 :: x3 :: x4 :: x5 :: x6 :: x7 :: x8 :: x9 :: x10 :: x11 :: x12 :: x13 :: x14 :: x15 :: x16 :: x17 :: x18 :: x19 :: some d :: l) S1) fun C S1 => ex C (x0 :: x1 :: x2 :: x3 :: x4 :: x5 :: x6 :: x7 :: x8 :: x9 :: x10 :: x11 :: x12 :: x13 :: x14 :: x15 :: x16 :: x17 :: x18 :: x19 :: y :: l) S1) : wS (cSet 20 a) (x0 :: x1 :: x2 :: x3 :: x4 :: x5 :: x6 :: x7 :: x8 :: x9 :: x10 :: x11 :: x12 :: x13 :: x14 :: x15 :: x16 :: x17 :: x18 :: x19 :: y :: l) S ⟨nx, rt, bk, ct, ex⟩ := w_set h
theorem g_n20 {x0 x1 x2 x3 x4 x5 x6 x7 x8 x9 x10 x11 x12 x13 x14 x15 x16 x17 x18 x19 : Option D} {y : Option D} (h : QG (x0 :: x1 :: x2 :: x3 :: x4 :: x5 :: x6 :: x7 :: x8 :: x9 :: x10 :: x11 :: x12 :: x13 :: x14 :: x15 :: x16 :: x17 :: x18 :: x19 :: some d :: l) S) : wG (tgName 20 d (x0 :: x1 :: x2 :: x3 :: x4 :: x5 :: x6 :: x7 :: x8 :: x9 :: x10 :: x11 :: x12 :: x13 :: x14 :: x15 :: x16 :: x17 :: x18 :: x19 :: y :: l) S) QG := h
theorem w_v21 {x0 x1 x2 x3 x4 x5 x6 x7 x8 x9 x10 x11 x12 x13 x14 x15 x16 x17 x18 x19 x20 : Option D} (h : Q d S) : wE (eV 21) (x0 :: x1 :: x2 :: x3 :: x4 :: x5 :: x6 :: x7 :: x8 :: x9 :: x10 :: x11 :: x12 :: x13 :: x14 :: x15 :: x16 :: x17 :: x18 :: x19 :: x20 :: some d :: l) S Q X := h
theorem w_s21 {x0 x1 x2 x3 x4 x5 x6 x7 x8 x9 x10 x11 x12 x13 x14 x15 x16 x17 x18 x19 x20 : Option D} {y : Option D} (h : wE a (x0 :: x1 :: x2 :: x3 :: x4 :: x5 :: x6 :: x7 :: x8 :: x9 :: x10 :: x11 :: x12 :: x13 :: x14 :: x15 :: x16 :: x17 :: x18 :: x19 :: x20 :: y :: l) S (fun d S1 => nx (x0 :: x1 :: x2 :: x3 :: x4 :: x5 :: x6 :: x7 :: x8 :: x9 :: x10 :: x11 :: x12 :: x13 :: x14 :: x15 :: x16 :: x17 :: x18 :: x19 :: x20 :: some d :: l) S1) fun C S1 => ex C (x0 :: x1 :: x2 :: x3 :: x4 :: x5 :: x6 :: x7 :: x8 :: x9 :: x10 :: x11 :: x12 :: x13 :: x14 :: x15 :: x16 :: x17 :: x18 :: x19 :: x20 :: y :: l) S1) : wS (cSet 21 a) (x0 :: x1 :: x2 :: x3 :: x4 :: x5 :: x6 :: x7 :: x8 :: x9 :: x10 :: x11 :: x12 :: x13 :: x14 :: x15 :: x16 :: x17 :: x18 :: x19 :: x20 :: y :: l) S ⟨nx, rt, bk, ct, ex⟩ := w_set h
theorem g_n21 {x0 x1 x2 x3 x4 x5 x6 x7 x8 x9 x10 x11 x12 x13 x14 x15 x16 x17 x18 x19 x20 : Option D} {y : Option D} (h : QG (x0 :: x1 :: x2 :: x3 :: x4 :: x5 :: x6 :: x7 :: x8 :: x9 :: x10 :: x11 :: x12 :: x13 :: x14 :: x15 :: x16 :: x17 :: x18 :: x19 :: x20 :: some d :: l) S) : wG (tgName 21 d (x0 :: x1 :: x2 :: x3 :: x4 :: x5 :: x6 :: x7 :: x8 :: x9 :: x10 :: x11 :: x12 :: x13 :: x14 :: x15 :: x16 :: x17 :: x18 :: x19 :: x20 :: y :: l) S) QG := h
theorem w_v22 {x0 x1 x2 x3 x4 x5 x6 x7 x8 x9 x10 x11 x12 x13 x14 x15 x16 x17 x18 x19 x20 x21 : Option D} (h : Q d S) : wE (eV 22) (x0 :: x1 :: x2 :: x3 :: x4 :: x5 :: x6 :: x7 :: x8 :: x9 :: x10 :: x11 :: x12 :: x13 :: x14 :: x15 :: x16 :: x17 :: x18 :: x19 :: x20 :: x21 :: some d :: l) S Q X := h
theorem w_s22 {x0 x1 x2 x3 x4 x5 x6 x7 x8 x9 x10 x11 x12 x13 x14 x15 x16 x17 x18 x19 x20 x21 : Option D} {y : Option D} (h : wE a (x0 :: x1 :: x2 :: x3 :: x4 :: x5 :: x6 :: x7 :: x8 :: x9 :: x10 :: x11 :: x12 :: x13 :: x14 :: x15 :: x16 :: x17 :: x18 :: x19 :: x20 :: x21 :: y :: l) S (fun d S1 => nx (x0 :: x1 :: x2 :: x3 :: x4 :: x5 :: x6 :: x7 :: x8 :: x9 :: x10 :: x11 :: x12 :: x13 :: x14 :: x15 :: x16 :: x17 :: x18 :: x19 :: x20 :: x21 :: some d :: l) S1) fun C S1 => ex C (x0 :: x1 :: x2 :: x3 :: x4 :: x5 :: x6 :: x7 :: x8 :: x9 :: x10 :: x11 :: x12 :: x13 :: x14 :: x15 :: x16 :: x17 :: x18 :: x19 :: x20 :: x21 :: y :: l) S1) : wS (cSet 22 a) (x0 :: x1 :: x2 :: x3 :: x4 :: x5 :: x6 :: x7 :: x8 :: x9 :: x10 :: x11 :: x12 :: x13 :: x14 :: x15 :: x16 :: x17 :: x18 :: x19 :: x20 :: x21 :: y :: l) S ⟨nx, rt, bk, ct, ex⟩ := w_set h
theorem g_n22 {x0 x1 x2 x3 x4 x5 x6 x7 x8 x9 x10 x11 x12 x13 x14 x15 x16 x17 x18 x19 x20 x21 : Option D} {y : Option D} (h : QG (x0 :: x1 :: x2 :: x3 :: x4 :: x5 :: x6 :: x7 :: x8 :: x9 :: x10 :: x11 :: x12 :: x13 :: x14 :: x15 :: x16 :: x17 :: x18 :: x19 :: x20 :: x21 :: some d :: l) S) : wG (tgName 22 d (x0 :: x1 :: x2 :: x3 :: x4 :: x5 :: x6 :: x7 :: x8 :: x9 :: x10 :: x11 :: x12 :: x13 :: x14 :: x15 :: x16 :: x17 :: x18 :: x19 :: x20 :: x21 :: y :: l) S) QG := h
theorem w_v23 {x0 x1 x2 x3 x4 x5 x6 x7 x8 x9 x10 x11 x12 x13 x14 x15 x16 x17 x18 x19 x20 x21 x22 : Option D} (h : Q d S) : wE (eV 23) (x0 :: x1 :: x2 :: x3 :: x4 :: x5 :: x6 :: x7 :: x8 :: x9 :: x10 :: x11 :: x12 :: x13 :: x14 :: x15 :: x16 :: x17 :: x18 :: x19 :: x20 :: x21 :: x22 :: some d :: l) S Q X := h
theorem w_s23 {x0 x1 x2 x3 x4 x5 x6 x7 x8 x9 x10 x11 x12 x13 x14 x15 x16 x17 x18 x19 x20 x21 x22 : Option D} {y : Option D} (h : wE a (x0 :: x1 :: x2 :: x3 :: x4 :: x5 :: x6 :: x7 :: x8 :: x9 :: x10 :: x11 :: x12 :: x13 :: x14 :: x15 :: x16 :: x17 :: x18 :: x19 :: x20 :: x21 :: x22 :: y :: l) S (fun d S1 => nx (x0 :: x1 :: x2 :: x3 :: x4 :: x5 :: x6 :: x7 :: x8 :: x9 :: x10 :: x11 :: x12 :: x13 :: x14 :: x15 :: x16 :: x17 :: x18 :: x19 :: x20 :: x21 :: x22 :: some d :: l) S1) fun C S1 => ex C (x0 :: x1 :: x2 :: x3 :: x4 :: x5 :: x6 :: x7 :: x8 :: x9 :: x10 :: x11 :: x12 :: x13 :: x14 :: x15 :: x16 :: x17 :: x18 :: x19 :: x20 :: x21 :: x22 :: y :: l) S1) : wS (cSet 23 a) (x0 :: x1 :: x2 :: x3 :: x4 :: x5 :: x6 :: x7 :: x8 :: x9 :: x10 :: x11 :: x12 :: x13 :: x14 :: x15 :: x16 :: x17 :: x18 :: x19 :: x20 :: x21 :: x22 :: y :: l) S ⟨nx, rt, bk, ct, ex⟩ := w_set h
theorem g_n23 {x0 x1 x2 x3 x4 x5 x6 x7 x8 x9 x10 x11 x12 x13 x14 x15 x16 x17 x18 x19 x20 x21 x22 : Option D} {y : Option D} (h : QG (x0 :: x1 :: x2 :: x3 :: x4 :: x5 :: x6 :: x7 :: x8 :: x9 :: x10 :: x11 :: x12 :: x13 :: x14 :: x15 :: x16 :: x17 :: x18 :: x19 :: x20 :: x21 :: x22 :: some d :: l) S) : wG (tgName 23 d (x0 :: x1 :: x2 :: x3 :: x4 :: x5 :: x6 :: x7 :: x8 :: x9 :: x10 :: x11 :: x12 :: x13 :: x14 :: x15 :: x16 :: x17 :: x18 :: x19 :: x20 :: x21 :: x22 :: y :: l) S) QG := h
theorem w_v24 {x0 x1 x2 x3 x4 x5 x6 x7 x8 x9 x10 x11 x12 x13 x14 x15 x16 x17 x18 x19 x20 x21 x22 x23 : Option D} (h : Q d S) : wE (eV 24) (x0 :: x1 :: x2 :: x3 :: x4 :: x5 :: x6 :: x7 :: x8 :: x9 :: x10 :: x11 :: x12 :: x13 :: x14 :: x15 :: x16 :: x17 :: x18 :: x19 :: x20 :: x21 :: x22 :: x23 :: some d :: l) S Q X := h
theorem w_s24 {x0 x1 x2 x3 x4 x5 x6 x7 x8 x9 x10 x11 x12 x13 x14 x15 x16 x17 x18 x19 x20 x21 x22 x23 : Option D} {y : Option D} (h : wE a (x0 :: x1 :: x2 :: x3 :: x4 :: x5 :: x6 :: x7 :: x8 :: x9 :: x10 :: x11 :: x12 :: x13 :: x14 :: x15 :: x16 :: x17 :: x18 :: x19 :: x20 :: x21 :: x22 :: x23 :: y :: l) S (fun d S1 => nx (x0 :: x1 :: x2 :: x3 :: x4 :: x5 :: x6 :: x7 :: x8 :: x9 :: x10 :: x11 :: x12 :: x13 :: x14 :: x15 :: x16 :: x17 :: x18 :: x19 :: x20 :: x21 :: x22 :: x23 :: some d :: l) S1) fun C S1 => ex C (x0 :: x1 :: x2 :: x3 :: x4 :: x5 :: x6 :: x7 :: x8 :: x9 :: x10 :: x11 :: x12 :: x13 :: x14 :: x15 :: x16 :: x17 :: x18 :: x19 :: x20 :: x21 :: x22 :: x23 :: y :: l) S1) : wS (cSet 24 a) (x0 :: x1 :: x2 :: x3 :: x4 :: x5 :: x6 :: x7 :: x8 :: x9 :: x10 :: x11 :: x12 :: x13 :: x14 :: x15 :: x16 :: x17 :: x18 :: x19 :: x20 :: x21 :: x22 :: x23 :: y :: l) S ⟨nx, rt, bk, ct, ex⟩ := w_set h
theorem g_n24 {x0 x1 x2 x3 x4 x5 x6 x7 x8 x9 x10 x11 x12 x13 x14 x15 x16 x17 x18 x19 x20 x21 x22 x23 : Option D} {y : Option D} (h : QG (x0 :: x1 :: x2 :: x3 :: x4 :: x5 :: x6 :: x7 :: x8 :: x9 :: x10 :: x11 :: x12 :: x13 :: x14 :: x15 :: x16 :: x17 :: x18 :: x19 :: x20 :: x21 :: x22 :: x23 :: some d :: l) S) : wG (tgName 24 d (x0 :: x1 :: x2 :: x3 :: x4 :: x5 :: x6 :: x7 :: x8 :: x9 :: x10 :: x11 :: x12 :: x13 :: x14 :: x15 :: x16 :: x17 :: x18 :: x19 :: x20 :: x21 :: x22 :: x23 :: y :: l) S) QG := h
theorem w_v25 {x0 x1 x2 x3 x4 x5 x6 x7 x8 x9 x10 x11 x12 x13 x14 x15 x16 x17 x18 x19 x20 x21 x22 x23 x24 : Option D} (h : Q d S) : wE (eV 25) (x0 :: x1 :: x2 :: x3 :: x4 :: x5 :: x6 :: x7 :: x8 :: x9 :: x10 :: x11 :: x12 :: x13 :: x14 :: x15 :: x16 :: x17 :: x18 :: x19 :: x20 :: x21 :: x22 :: x23 :: x24 :: some d :: l) S Q X := h
theorem w_s25 {x0 x1 x2 x3 x4 x5 x6 x7 x8 x9 x10 x11 x12 x13 x14 x15 x16 x17 x18 x19 x20 x21 x22 x23 x24 : Option D} {y : Option D} (h : wE a (x0 :: x1 :: x2 :: x3 :: x4 :: x5 :: x6 :: x7 :: x8 :: x9 :: x10 :: x11 :: x12 :: x13 :: x14 :: x15 :: x16 :: x17 :: x18 :: x19 :: x20 :: x21 :: x22 :: x23 :: x24 :: y :: l) S (fun d S1 => nx (x0 :: x1 :: x2 :: x3 :: x4 :: x5 :: x6 :: x7 :: x8 :: x9 :: x10 :: x11 :: x12 :: x13 :: x14 :: x15 :: x16 :: x17 :: x18 :: x19 :: x20 :: x21 :: x22 :: x23 :: x24 :: some d :: l) S1) fun C S1 => ex C (x0 :: x1 :: x2 :: x3 :: x4 :: x5 :: x6 :: x7 :: x8 :: x9 :: x10 :: x11 :: x12 :: x13 :: x14 :: x15 :: x16 :: x17 :: x18 :: x19 :: x20 :: x21 :: x22 :: x23 :: x24 :: y :: l) S1) : wS (cSet 25 a) (x0 :: x1 :: x2 :: x3 :: x4 :: x5 :: x6 :: x7 :: x8 :: x9 :: x10 :: x11 :: x12 :: x13 :: x14 :: x15 :: x16 :: x17 :: x18 :: x19 :: x20 :: x21 :: x22 :: x23 :: x24 :: y :: l) S ⟨nx, rt, bk, ct, ex⟩ := w_set h
theorem g_n25 {x0 x1 x2 x3 x4 x5 x6 x7 x8 x9 x10 x11 x12 x13 x14 x15 x16 x17 x18 x19 x20 x21 x22 x23 x24 : Option D} {y : Option D} (h : QG (x0 :: x1 :: x2 :: x3 :: x4 :: x5 :: x6 :: x7 :: x8 :: x9 :: x10 :: x11 :: x12 :: x13 :: x14 :: x15 :: x16 :: x17 :: x18 :: x19 :: x20 :: x21 :: x22 :: x23 :: x24 :: some d :: l) S) : wG (tgName 25 d (x0 :: x1 :: x2 :: x3 :: x4 :: x5 :: x6 :: x7 :: x8 :: x9 :: x10 :: x11 :: x12 :: x13 :: x14 :: x15 :: x16 :: x17 :: x18 :: x19 :: x20 :: x21 :: x22 :: x23 :: x24 :: y :: l) S) QG := h
theorem w_v26 {x0 x1 x2 x3 x4 x5 x6 x7 x8 x9 x10 x11 x12 x13 x14 x15 x16 x17 x18 x19 x20 x21 x22 x23 x24 x25 : Option D} (h : Q d S) : wE (eV 26) (x0 :: x1 :: x2 :: x3 :: x4 :: x5 :: x6 :: x7 :: x8 :: x9 :: x10 :: x11 :: x12 :: x13 :: x14 :: x15 :: x16 :: x17 :: x18 :: x19 :: x20 :: x21 :: x22 :: x23 :: x24 :: x25 :: some d :: l) S Q X := h
theorem w_s26 {x0 x1 x2 x3 x4 x5 x6 x7 x8 x9 x10 x11 x12 x13 x14 x15 x16 x17 x18 x19 x20 x21 x22 x23 x24 x25 : Option D} {y : Option D} (h : wE a (x0 :: x1 :: x2 :: x3 :: x4 :: x5 :: x6 :: x7 :: x8 :: x9 :: x10 :: x11 :: x12 :: x13 :: x14 :: x15 :: x16 :: x17 :: x18 :: x19 :: x20 :: x21 :: x22 :: x23 :: x24 :: x25 :: y :: l) S (fun d S1 => nx (x0 :: x1 :: x2 :: x3 :: x4 :: x5 :: x6 :: x7 :: x8 :: x9 :: x10 :: x11 :: x12 :: x13 :: x14 :: x15 :: x16 :: x17 :: x18 :: x19 :: x20 :: x21 :: x22 :: x23 :: x24 :: x25 :: some d :: l) S1) fun C S1 => ex C (x0 :: x1 :: x2 :: x3 :: x4 :: x5 :: x6 :: x7 :: x8 :: x9 :: x10 :: x11 :: x12 :: x13 :: x14 :: x15 :: x16 :: x17 :: x18 :: x19 :: x20 :: x21 :: x22 :: x23 :: x24 :: x25 :: y :: l) S1) : wS (cSet 26 a) (x0 :: x1 :: x2 :: x3 :: x4 :: x5 :: x6 :: x7 :: x8 :: x9 :: x10 :: x11 :: x12 :: x13 :: x14 :: x15 :: x16 :: x17 :: x18 :: x19 :: x20 :: x21 :: x22 :: x23 :: x24 :: x25 :: y :: l) S ⟨nx, rt, bk, ct, ex⟩ := w_set h
theorem g_n26 {x0 x1 x2 x3 x4 x5 x6 x7 x8 x9 x10 x11 x12 x13 x14 x15 x16 x17 x18 x19 x20 x21 x22 x23 x24 x25 : Option D} {y : Option D} (h : QG (x0 :: x1 :: x2 :: x3 :: x4 :: x5 :: x6 :: x7 :: x8 :: x9 :: x10 :: x11 :: x12 :: x13 :: x14 :: x15 :: x16 :: x17 :: x18 :: x19 :: x20 :: x21 :: x22 :: x23 :: x24 :: x25 :: some d :: l) S) : wG (tgName 26 d (x0 :: x1 :: x2 :: x3 :: x4 :: x5 :: x6 :: x7 :: x8 :: x9 :: x10 :: x11 :: x12 :: x13 :: x14 :: x15 :: x16 :: x17 :: x18 :: x19 :: x20 :: x21 :: x22 :: x23 :: x24 :: x25 :: y :: l) S) QG := h
end
local macro_rules | `(tactic| walk_at "ww") => `(tactic| repeat (with_reducible first
  | refine w_qSet ?_ | refine w_qDrop ?_ | refine w_qAsg ?_ | refine w_qFld ?_ | refine w_cons ?_ | refine w_nil ?_ | refine w_c ?_ | refine w_e2 ?_ | refine w_e1 ?_ | refine w_eN ?_ | refine w_f1 ?_ | refine w_f2 ?_ | refine w_t ?_ | refine w_bl ?_ | refine w_ifS ?_ | refine w_ret ?_ | refine w_next ?_ | refine w_retN ?_ | refine w_drop ?_ | refine w_asg ?_ | refine w_call ?_ | refine w_tup ?_ | refine w_lst ?_ | refine len_and ?_ ?_ | refine w_bm ?_ | refine w_and ?_ | refine w_or ?_ | refine w_not ?_ | refine w_ifE ?_ | refine w_notE ?_ | refine w_andE ?_ | refine w_orE ?_ | refine w_chain ?_ | refine w_fld ?_ | refine w_sl ?_ | refine w_p0 ?_ | refine w_p1 ?_ | refine w_js1 ?_ | refine w_js0 ?_ | refine w_m1 ?_ | refine w_for ?_ | refine i_eB ?_ | refine i_tup ?_ | refine i_str ?_ | refine i_r1 ?_ | refine i_bL ?_ | refine w_meth ?_ | refine w_make ?_ | refine w_raise ?_ | refine w_try ?_ | refine w_tru ?_ | refine w_yes ?_ | refine g_tup ?_ | refine g_nil ?_ | refine g_cons ?_ | refine g_sub ?_ | refine g_fld ?_ | refine w_iT ?_ | refine w_iF ?_ | refine w_nT ?_ | refine w_nF ?_ | refine w_break ?_ | refine w_cont ?_ | refine o_add ?_ | refine o_sub ?_ | refine o_lt ?_ | refine o_le ?_ | refine o_gt ?_ | refine o_ge ?_ | refine o_eqI ?_ | refine o_neI ?_ | refine o_eqS ?_ | refine o_neS ?_ | refine o_isN ?_ | refine o_notN ?_ | refine o_int ?_ | refine o_intB ?_ | refine o_neg ?_ | refine o_ixT0 ?_ | refine o_ixT1 ?_ | refine o_ixT2 ?_ | refine o_ixT3 ?_
  | refine o_mul ?_ ?_ | refine o_mod ?_ ?_ | refine o_fdiv ?_ ?_ | refine o_pow ?_ ?_ | refine o_adS ?_ ?_
  | refine w_v0 ?_ | refine w_s0 ?_ | refine g_n0 ?_ | refine w_v1 ?_ | refine w_s1 ?_ | refine g_n1 ?_ | refine w_v2 ?_ | refine w_s2 ?_ | refine g_n2 ?_ | refine w_v3 ?_ | refine w_s3 ?_ | refine g_n3 ?_ | refine w_v4 ?_ | refine w_s4 ?_ | refine g_n4 ?_ | refine w_v5 ?_ | refine w_s5 ?_ | refine g_n5 ?_ | refine w_v6 ?_ | refine w_s6 ?_ | refine g_n6 ?_ | refine w_v7 ?_ | refine w_s7 ?_ | refine g_n7 ?_ | refine w_v8 ?_ | refine w_s8 ?_ | refine g_n8 ?_ | refine w_v9 ?_ | refine w_s9 ?_ | refine g_n9 ?_ | refine w_v10 ?_ | refine w_s10 ?_ | refine g_n10 ?_ | refine w_v11 ?_ | refine w_s11 ?_ | refine g_n11 ?_ | refine w_v12 ?_ | refine w_s12 ?_ | refine g_n12 ?_ | refine w_v13 ?_ | refine w_s13 ?_ | refine g_n13 ?_ | refine w_v14 ?_ | refine w_s14 ?_ | refine g_n14 ?_ | refine w_v15 ?_ | refine w_s15 ?_ | refine g_n15 ?_ | refine w_v16 ?_ | refine w_s16 ?_ | refine g_n16 ?_ | refine w_v17 ?_ | refine w_s17 ?_ | refine g_n17 ?_ | refine w_v18 ?_ | refine w_s18 ?_ | refine g_n18 ?_ | refine w_v19 ?_ | refine w_s19 ?_ | refine g_n19 ?_ | refine w_v20 ?_ | refine w_s20 ?_ | refine g_n20 ?_ | refine w_v21 ?_ | refine w_s21 ?_ | refine g_n21 ?_ | refine w_v22 ?_ | refine w_s22 ?_ | refine g_n22 ?_ | refine w_v23 ?_ | refine w_s23 ?_ | refine g_n23 ?_ | refine w_v24 ?_ | refine w_s24 ?_ | refine g_n24 ?_ | refine w_v25 ?_ | refine w_s25 ?_ | refine g_n25 ?_ | refine w_v26 ?_ | refine w_s26 ?_ | refine g_n26 ?_))
local macro_rules | `(tactic| walk_at "wd") => `(tactic| first | (with_reducible assumption) | (refine line_of ?_; decide) | (refine line_of ?_; simp only [List.length_cons, List.length_nil]; decide) | (refine line_of ?_; simp only [len_app, len_empty, len_lit0, len_dot, len_at, len_tr, len_rec, len_rea, len_lt, len_gt, len_mk, len_1]; omega) | ((show CPow _ _); exact ⟨by decide, by decide, by decide⟩) | ((show CMul _ _); first | exact .inl ⟨by decide, by decide⟩ | exact .inr ⟨by decide, by decide⟩) | ((show (0 : Int) < _); omega))
local macro_rules | `(tactic| walk_at "w") => `(tactic| (walk_at "ww"; all_goals try walk_at "wd"))
noncomputable def W_Lrefill : Fn := fn0 2 3
    (cSeq (cSet 2 (eC (.int 0)))
    (cSeq (cIf (bTru (eV 0)) (cSet 2 (e2 dIxR (eV 0) (e2 dMod (eV 1) (eN (f1 dLenQ) (aCons (eV 0) aNil))))) cNext)
    (cSeq (cIf (eT (e2 dLt (eV 2) (eC (.int 0)))) (cSet 2 (e2 dSub (eC (.int 1)) (e2 dMul (eC (.int 2)) (eV 2)))) cNext)
    (cSeq (cIf (bAnd (eT (e2 dGe (eV 2) (e2 dPow (eC (.int 10)) (eC (.int 18))))) (eT (e2 dLt (eV 1) (eN (f1 dLenQ) (aCons (eV 0) aNil))))) (cRet (eV 2)) cNext)
    (cRet (e2 dMod (eN (f1 dInt) (aCons (e2 dAdd (e2 dMul (eN (f1 dInt) (aCons (e2 dAdd (e2 dAdd (e2 dMul (eV 2) (eC (.int 48271))) (e2 dMul (eV 1) (eC (.int 69621)))) (eC (.int 12345))) aNil)) (eC (.int 40692))) (eC (.int 7))) aNil)) (eC (.int 2147483399))))))))
noncomputable def W_Lis_integer : Fn := fn0 1 1
    (cRet (eAnd (eN (f2 dIsi) (aCons (eV 0) (aCons (eC (.ty "int")) aNil))) (eNot (eN (f2 dIsi) (aCons (eV 0) (aCons (eC (.ty "bool")) aNil))))))
local macro_rules | `(tactic| walk_at "w0") => `(tactic| (refine w_fn0 rfl ?_; simp only [startA, List.map, List.length_cons, List.length_nil, Nat.reduceAdd, Nat.reduceSub, List.replicate, List.cons_append, List.nil_append]))
local macro_rules | `(tactic| walk_at "wX") => `(tactic| (refine w_fnX rfl ?_; simp only [startA, List.map, List.length_cons, List.length_nil, Nat.reduceAdd, Nat.reduceSub, List.replicate, List.cons_append, List.nil_append]))
/-- the state of the draws -/
def Stt2 (S : Sto) (st : Nat) : Prop := ∃ k v : Int, S[st]? = some (.lst [.int k, .int v])
section
variable {ns : List Int} {S : Sto} {Q : QA} {X : XA} {st : Nat}
theorem refill_w {k : Int} (hl : ns.length ≤ 63) (q : ∀ v, Q (.int v) S) : wF (W_Lrefill [.scr ns, .int k] S) Q X := by
  refine Dw.Qt.un ?_
  simp (disch := (with_unfolding_all
    (unfold W_Lrefill
     walk_at "w0"
     walk_at "w"
     refine w_cut (fun σ1 S1 => S = S1 ∧ ∃ z : Int, σ1 = [some (.scr ns), some (.int k), some (.int z)]) ?_ fun σ1 S1 ⟨e1, z, e2⟩ => ?_
     · walk_at "w"
       refine ⟨!ns.isEmpty, by cases ns <;> rfl, ?_⟩
       cases hn : ns with
       | nil =>
         refine iteF ?_
         walk_at "w"
         exact ⟨rfl, 0, rfl⟩
       | cons a r =>
         have hpos : (0 : Int) < ((ns.map D.int).length : Nat) := by rw [hn, List.length_map, List.length_cons]; omega
         refine iteT ?_
         walk_at "w"
         rw [← hn]
         refine o_lenQ (ds := ns.map .int) rfl ?_
         refine o_mod ?_ hpos
         have h1 := Int.emod_nonneg k (Int.ne_of_gt hpos)
         have h2 := Int.emod_lt_of_pos k hpos
         rw [List.length_map] at h1 h2 ⊢
         obtain ⟨v, _, ev⟩ := atI_in (xs := ns) h1 h2
         refine o_ixR ev ?_
         exact ⟨rfl, v, rfl⟩
     · subst e1 e2
       refine w_cut (fun σ1 S2 => S = S2 ∧ ∃ z : Int, σ1 = [some (.scr ns), some (.int k), some (.int z)]) ?_ fun σ1 S1 ⟨e1, z, e2⟩ => ?_
       · walk_at "w"
         refine o_dec (fun _ => ?_) (fun _ => ?_)
         · walk_at "w"
           exact ⟨rfl, _, rfl⟩
         · walk_at "w"
           all_goals exact ⟨rfl, _, rfl⟩
       · subst e1 e2
         refine w_seq ?_
         walk_at "w"
         refine o_dec (fun _ => ?_) (fun _ => ?_)
         · walk_at "w"
           refine o_lenQ (ds := ns.map .int) rfl ?_
           walk_at "w"
           refine o_dec (fun _ => ?_) (fun _ => ?_)
           · walk_at "w"
             exact q _
           · walk_at "w"
             exact q _
         · walk_at "w"
           exact q _))) only [↓Dw.Qt.tt]
end
structure Upto (o : List Nat) (S S' : Sto) : Prop where
  len : S.length ≤ S'.length
  eq : ∀ m, m ∉ o → m < S.length → S'[m]? = S[m]?
section
variable {o o' : List Nat} {S S1 S2 : Sto} {n m : Nat} {x y : O}
theorem Upto.refl (o : List Nat) (S : Sto) : Upto o S S := ⟨Nat.le_refl _, fun _ _ _ => rfl⟩
theorem Upto.trans (a : Upto o S S1) (b : Upto o S1 S2) : Upto o S S2 := ⟨Nat.le_trans a.len b.len, fun m hm hl => (b.eq m hm (Nat.lt_of_lt_of_le hl a.len)).trans (a.eq m hm hl)⟩
theorem Upto.app (a : Upto o S S1) : Upto o S (S1 ++ [x]) := ⟨by rw [List.length_append]; have := a.len; omega, fun m hm hl => by
  rw [List.getElem?_append_left (Nat.lt_of_lt_of_le hl a.len)]
  exact a.eq m hm hl⟩
theorem Upto.set (a : Upto o S S1) (h : n ∈ o ∨ S.length ≤ n) : Upto o S (S1.set n x) := ⟨by rw [List.length_set]; exact a.len, fun m hm hl => by
  rw [List.getElem?_set_ne]
  · exact a.eq m hm hl
  · intro e
    subst e
    rcases h with h | h
    · exact hm h
    · omega⟩
theorem Upto.get (a : Upto o S S1) (hm : m ∉ o) (e : S[m]? = some x) : S1[m]? = some x := (a.eq m hm (app_lt e)).trans e
theorem Upto.mono (a : Upto o S S1) (h : ∀ n ∈ o, n ∈ o' ∨ S.length ≤ n) : Upto o' S S1 := ⟨a.len, fun m hm hl => a.eq m (fun k => by
  rcases h m k with q | q
  · exact hm q
  · omega) hl⟩
theorem Upto.get0 (a : Upto [] S S1) (e : S[m]? = some x) : S1[m]? = some x := a.get (by simp) e
theorem Upto.any (a : Upto [] S S1) : Upto o S S1 := a.mono fun _ h => absurd h (by simp)
end
/-- draws: all but the state stays -/
structure Ev (st : Nat) (S S' : Sto) : Prop where
  up : Upto [st] S S'
  st : Stt2 S' st
section
variable {ns : List Int} {S S1 S2 : Sto} {Q : QA} {X : XA} {st m : Nat} {x : O}
theorem Ev.trans (a : Ev st S S1) (b : Ev st S1 S2) : Ev st S S2 := ⟨a.up.trans b.up, b.st⟩
theorem Ev.app (a : Ev st S S1) : Ev st S (S1 ++ [x]) := ⟨a.up.app, let ⟨k, v, e⟩ := a.st; ⟨k, v, app_old e⟩⟩
theorem Ev.refl (h : Stt2 S st) : Ev st S S := ⟨.refl _ _, h⟩
theorem Ev.set (a : Ev st S S1) (h : S.length ≤ m) (g : S[st]? ≠ none) : Ev st S (S1.set m x) := ⟨a.up.set (.inr h), let ⟨k, v, e⟩ := a.st; ⟨k, v, by
  rw [set_off (fun z => ?_)]
  · exact e
  · subst z
    exact g (List.getElem?_eq_none h)⟩⟩
theorem Stt2.some (h : Stt2 S st) : S[st]? ≠ none := let ⟨_, _, e⟩ := h; by rw [e]; simp
theorem Ev.get (a : Ev st S S1) (hm : m ≠ st) (e : S[m]? = some x) : S1[m]? = some x := a.up.get (by simpa using hm) e
theorem Stt2.up (h : Stt2 S st) {o : List Nat} (a : Upto o S S1) (n : st ∉ o) : Stt2 S1 st := let ⟨k, v, e⟩ := h; ⟨k, v, a.get n e⟩
theorem isint_w {i : Int} (q : Q (.bl true) S) : wF (W_Lis_integer [.int i] S) Q X := by
  unfold W_Lis_integer
  walk_at "w0"
  walk_at "w"
  refine o_isi (nm := "int") rfl (k := true) (by decide +kernel) ?_
  walk_at "w"
  refine o_isi (nm := "int") rfl (k := false) (by decide +kernel) ?_
  walk_at "w"
  exact q
theorem Stt2.lt (h : Stt2 S st) : st < S.length := let ⟨_, _, e⟩ := h; app_lt e
theorem Ev.len (a : Ev st S S1) : S.length ≤ S1.length := a.up.len
/-- [pick for k in range(n)] and its like: texts drawn one by one -/
theorem c_strs {mi : M Src} {σ : Sl} {te : M D} {j : Nat} {vs : List Nat} (G : Str → Prop) (hj : vs = [j]) (h : wI mi σ S (fun src S0 => (∃ n : Nat, n ≤ 1000 ∧ src = ⟨(List.range n).map fun k => .int (0 + (k : Nat)), fun _ => True⟩) ∧ Stt2 S0 st ∧
    (∀ (v : D) S1, Ev st S0 S1 → wE te ((σ.set j none).set j (some v)) S1 (fun y S2 => ∃ x, y = .str x ∧ G x ∧ Ev st S1 S2) noX) ∧
    ∀ (xs : List Str) S1, Ev st S0 S1 → (∀ x ∈ xs, G x) → xs.length = src.items.length → S1[S0.length]? = some (.lst (xs.map .str)) → Q (.ref S0.length) S1) X) : wE (eLc mi (.one j) vs bYes te) σ S Q X := by
  refine Dw.Qt.un ?_
  simp (disch := (with_unfolding_all
    (subst hj
     refine c_gen ?_
     unfold wI at *
     cases e : mi σ S with
     | ex C S0 => rw [e] at h; exact h
     | bad => rw [e] at h; exact h
     | ok src S0 =>
       rw [e] at h
       obtain ⟨⟨n, hn, rfl⟩, hs, hstep, q⟩ := h
       refine ⟨trivial, trivial, fun i S1 => Ev st S0 S1 ∧ ∃ xs : List Str, S1[S0.length]? = some (.lst (xs.map .str)) ∧ xs.length = i ∧ ∀ x ∈ xs, G x, ⟨(Ev.refl hs).app, [], app_new, rfl, fun x h => nomatch h⟩, fun i d S1 hi hP => ?_, fun S1 hP => ?_⟩
       · obtain ⟨ev, xs, ex, el, eg⟩ := hP
         refine ⟨_, rfl, ?_⟩
         show wB bYes _ S1 _ noX
         refine w_yes (iteT ?_)
         have hw := hstep d S1 ev
         obtain ⟨y, S2, e2, x, rfl, gx, ev2⟩ := wF_to (show wF (te _ S1) _ noX from hw)
         unfold wE
         show wF (te ((σ.set j none).set j (some d)) S1) _ _
         rw [e2]
         have nst : S0.length ≠ st := fun z => by have := hs.lt; omega
         have hi' : i < n := by have := (List.getElem?_eq_some_iff.mp hi).1; rw [List.length_map, List.length_range] at this; exact this
         refine ⟨xs.map .str, ev2.get nst ex, lt_line (by rw [List.length_map]; omega), trivial, (ev.trans ev2).set (Nat.le_refl _) hs.some, xs ++ [x], ?_, by rw [List.length_append, el]; rfl, fun z hz => ?_⟩
         · rw [set_at (ev2.get nst ex), List.map_append]
           rfl
         · rcases List.mem_append.mp hz with hz | hz
           · exact eg z hz
           · rw [List.mem_singleton.mp hz]
             exact gx
       · obtain ⟨ev, xs, ex, el, eg⟩ := hP
         exact q xs S1 ev eg el ex))) only [↓Dw.Qt.tt]
theorem sumS_le {xs : List Str} {k : Nat} (h : ∀ x ∈ xs, x.length ≤ k) : (xs.map (·.length)).sum ≤ xs.length * k := by
  induction xs with
  | nil => exact Nat.zero_le _
  | cons x r ih =>
    rw [List.map_cons, List.sum_cons, List.length_cons, Nat.succ_mul]
    have := h x (List.mem_cons_self ..)
    have := ih fun y hy => h y (List.mem_cons_of_mem _ hy)
    omega
theorem atI_mapD {α : Type} {xs : List α} (f : α → D) {i : Int} (h0 : 0 ≤ i) (h1 : i < xs.length) : ∃ x ∈ xs, atI (xs.map f) i = some (f x) := by
  obtain ⟨j, rfl⟩ := Int.eq_ofNat_of_zero_le h0
  have hj : j < xs.length := by omega
  exact ⟨xs[j], List.getElem_mem hj, atI_nat (by rw [List.getElem?_map, List.getElem?_eq_getElem hj]; rfl)⟩
def lns0 : List Str := ["", ".", "..", ". x", "Received: by ", "Received: by q.r", "received: by x", " Received: by y", "To: a", "~"].map Str.ofString
theorem lns0_len : ∀ x ∈ lns0, x.length ≤ 20 := by
  intro x hx
  obtain ⟨s, hs, rfl⟩ := List.mem_map.mp hx
  rw [len_of]
  revert s
  decide +kernel
end
structure Pd (S : Sto) (n : Nat) (d : D) (p : PyData) : Prop where
  py : ∀ m, n ≤ m → toPy S (m + 1) d = some p
  sh : Sh n p
def PdL (S : Sto) (n : Nat) : List D → List PyData → Prop
  | [], [] => True
  | d :: ds, p :: ps => Pd S n d p ∧ PdL S n ds ps
  | _, _ => False
section
variable {S : Sto} {n m : Nat} {d x y : D} {p : PyData} {ds : List D} {ps : List PyData} {Q : QA} {X : XA} {σ : Sl}
theorem Pd.non : Pd S 0 .non .none := ⟨fun _ _ => rfl, .none⟩
theorem Pd.bl (b : Bool) : Pd S 0 (.bl b) (.bool b) := ⟨fun _ _ => rfl, .bool b⟩
theorem Pd.int (i : Int) : Pd S 0 (.int i) (.int i) := ⟨fun _ _ => rfl, .int i⟩
theorem Pd.str {x : Str} (h : Asc x) : Pd S 0 (.str x) (.str x) := ⟨fun _ _ => rfl, .str h⟩
theorem Pd.mono (h : Pd S n d p) (l : n ≤ m) : Pd S m d p := ⟨fun k hk => h.py k (Nat.le_trans l hk), h.sh.mono l⟩
theorem PdL.py : ∀ {ds : List D} {ps : List PyData}, PdL S n ds ps → ∀ m, n ≤ m → allPy (toPy S (m + 1)) ds = some ps
  | [], [], _, _, _ => rfl
  | d :: ds, p :: ps, h, m, hm => by
    unfold allPy
    rw [h.1.py m hm, h.2.py m hm]
    rfl
theorem PdL.sh : ∀ {ds : List D} {ps : List PyData}, PdL S n ds ps → ∀ p ∈ ps, Sh n p
  | [], [], _, p, hp => nomatch hp
  | d :: ds, p :: ps, h, q, hq => by
    rcases List.mem_cons.mp hq with e | e
    · rw [e]
      exact h.1.sh
    · exact h.2.sh q e
theorem Pd.tup (h : PdL S n ds ps) : Pd S (n + 1) (.tup ds) (.tuple ps) := ⟨fun m hm => by
  obtain ⟨k, rfl⟩ : ∃ k, m = k + 1 := ⟨m - 1, by omega⟩
  show (allPy (toPy S (k + 1)) ds).map _ = _
  rw [h.py k (by omega)]
  rfl, Sh.tuple h.sh⟩
theorem Pd.lst {k : Nat} (e : S[k]? = some (.lst ds)) (h : PdL S n ds ps) : Pd S (n + 1) (.ref k) (.list ps) := ⟨fun m hm => by
  obtain ⟨j, rfl⟩ : ∃ k, m = k + 1 := ⟨m - 1, by omega⟩
  unfold toPy
  simp only [e]
  rw [h.py j (by omega)]
  rfl, Sh.list h.sh⟩
theorem PdL.nil : PdL S n [] [] := trivial
theorem PdL.cons (h : Pd S n d p) (g : PdL S n ds ps) : PdL S n (d :: ds) (p :: ps) := ⟨h, g⟩
theorem PdL.map {α : Type} {f : α → D} {g : α → PyData} : ∀ {xs : List α}, (∀ x ∈ xs, Pd S n (f x) (g x)) → PdL S n (xs.map f) (xs.map g)
  | [], _ => trivial
  | x :: xs, h => ⟨h x (List.mem_cons_self ..), PdL.map fun y hy => h y (List.mem_cons_of_mem _ hy)⟩
theorem Pd.eq (h : Pd S n x p) (g : Pd S n y p) (l : n ≤ 64 := by decide) : dEqv x y S = some true := by
  unfold dEqv
  rw [h.py 69 (by omega), g.py 69 (by omega)]
  show gd _ _ = _
  rw [gd_ok ⟨h.sh.shaped l, h.sh.shaped l⟩, h.sh.refl]
theorem o_neSame (h : Pd S n x p) (g : Pd S n y p) (q : Q (.bl false) S) (l : n ≤ 64 := by decide) : wO (dNeD x y S) Q := o_neD (h.eq g l) q
theorem c_list {α : Type} {mi : M Src} {t : CTg} {vs : List Nat} {tt : M Bool} {te : M D} (f : α → D) (xs : List α) (keep : α → Bool) (fx : α → D) (h : wI mi σ S (fun src S0 => src.items = xs.map f ∧ xs.length ≤ 1000000 ∧ (∀ acc, src.gd S0 ∧ src.gd (S0 ++ [.lst acc])) ∧
      (∀ x ∈ xs, ∀ acc, ∃ σ2, cgs t (f x) (wipeA σ vs) = some σ2 ∧ wB tt σ2 (S0 ++ [.lst acc]) (fun b S1 => b = keep x ∧ S1 = S0 ++ [.lst acc]) noX ∧ (keep x = true → wE te σ2 (S0 ++ [.lst acc]) (fun y S1 => y = fx x ∧ S1 = S0 ++ [.lst acc]) noX)) ∧
      Q (.ref S0.length) (S0 ++ [.lst ((xs.filter keep).map fx)])) X) : wE (eLc mi t vs tt te) σ S Q X := by
  refine Dw.Qt.un ?_
  simp (disch := (with_unfolding_all
    (refine c_gen ?_
     unfold wI at *
     cases e : mi σ S with
     | ex C S1 => rw [e] at h; exact h
     | bad => rw [e] at h; exact h
     | ok src S0 =>
       rw [e] at h
       obtain ⟨hi0, hl, hg, hs, q⟩ := h
       refine ⟨(hg []).1, (hg []).2, fun i S1 => S1 = S0 ++ [.lst (((xs.take i).filter keep).map fx)], rfl, fun i d S1 hi hP => ?_, fun S1 hP => ?_⟩
       · subst hP
         rw [hi0, List.getElem?_map] at hi
         cases hx : xs[i]? with
         | none => rw [hx] at hi; cases hi
         | some x =>
           rw [hx] at hi
           cases hi
           obtain ⟨σ2, e2, hb, he⟩ := hs x (List.mem_of_getElem? hx) (((xs.take i).filter keep).map fx)
           refine ⟨σ2, e2, ?_⟩
           have et : xs.take (i + 1) = xs.take i ++ [x] := by rw [List.take_add_one, hx]; rfl
           unfold wB at hb ⊢
           cases eb : tt σ2 (S0 ++ [.lst (((xs.take i).filter keep).map fx)]) with
           | ex C S2 => rw [eb] at hb; exact hb.elim
           | bad => rw [eb] at hb; exact hb.elim
           | ok b S2 =>
             rw [eb] at hb
             obtain ⟨rfl, rfl⟩ := hb
             cases hk : keep x with
             | true =>
               refine iteT ?_
               have he' := he hk
               obtain ⟨y, S3, e3, rfl, rfl⟩ := wF_to (show wF (te σ2 _) _ noX from he')
               unfold wE
               rw [e3]
               have hset : (S0 ++ [O.lst (((xs.take i).filter keep).map fx)]).set S0.length (.lst (((xs.take i).filter keep).map fx ++ [fx x])) = S0 ++ [.lst (((xs.take i).filter keep).map fx ++ [fx x])] := by
                 rw [List.set_append_right _ _ (Nat.le_refl _), Nat.sub_self]
                 rfl
               refine ⟨_, app_new, lt_line ?_, ?_, ?_⟩
               · rw [List.length_map]
                 have q1 := List.length_filter_le keep (xs.take i)
                 rw [List.length_take] at q1
                 omega
               · rw [hset]
                 exact (hg _).2
               · show _ = S0 ++ [O.lst (((xs.take (i + 1)).filter keep).map fx)]
                 rw [hset, et, List.filter_append, List.map_append, List.filter_cons, if_pos hk]
                 rfl
             | false =>
               refine iteF ⟨(hg _).2, ?_⟩
               show _ = S0 ++ [O.lst (((xs.take (i + 1)).filter keep).map fx)]
               rw [et, List.filter_append, List.map_append, List.filter_cons, if_neg (by rw [hk]; exact Bool.false_ne_true)]
               simp
       · subst hP
         rw [hi0, List.length_map, List.take_length]
         exact q))) only [↓Dw.Qt.tt]
theorem o_isiL {k : Nat} (e : S[k]? = some (.lst ds)) (h : Q (.bl true) S) : wO (dIsi (.ref k) (.ty "list") S) Q := by
  refine o_isi (nm := "list") ?_ (k := true) (by decide +kernel) h
  unfold tyN
  simp only [e]
end
structure En where
  n : Int
  ls : List Str
  fl : List Str
  ch : Int
def En.d (e : En) : D := .tup [.int e.n, .tup (e.ls.map .str), .tup (e.fl.map .str), .int e.ch]
def goneD (g : Int × Int) : D := .tup [.int g.1, .int g.2]
structure BoxAt (B : Addr) (S : Sto) (p e g : Nat) (num ch : Int) (es : List En) (gs : List (Int × Int)) : Prop where
  ob : S[p]? = some (.obj B [.int num, .int ch, .ref e, .ref g])
  en : S[e]? = some (.lst (es.map En.d))
  gn : S[g]? = some (.lst (gs.map goneD))
  ne : e ≠ g
section
variable {B Ne : Addr} {S S' : Sto} {p e g : Nat} {num ch num' ch' : Int} {es : List En} {gs : List (Int × Int)} {Q : QA} {X : XA} {o : List Nat}
theorem BoxAt.up (h : BoxAt B S p e g num ch es gs) (u : Upto o S S') (n : ∀ x ∈ [p, e, g], x ∉ o) : BoxAt B S' p e g num ch es gs :=
  ⟨u.get (n p (by simp)) h.ob, u.get (n e (by simp)) h.en, u.get (n g (by simp)) h.gn, h.ne⟩
theorem BoxAt.up0 (h : BoxAt B S p e g num ch es gs) (u : Upto [] S S') : BoxAt B S' p e g num ch es gs := h.up u fun _ _ => by simp
theorem BoxAt.app (h : BoxAt B S p e g num ch es gs) {x : O} : BoxAt B (S ++ [x]) p e g num ch es gs := h.up0 (Upto.refl _ _).app
theorem Upto.w {S S1 : Sto} {o o2 : List Nat} (a : Upto o S S1) (h : ∀ x ∈ o, x ∈ o2) : Upto o2 S S1 := a.mono fun x hx => .inl (h x hx)
def Dst (es : List En) : Prop := (es.map (·.n)).Nodup
theorem Dst.tail {x : En} {es : List En} (h : Dst (x :: es)) : Dst es ∧ ∀ y ∈ es, y.n ≠ x.n := by
  obtain ⟨a, b⟩ := List.nodup_cons.mp h
  exact ⟨b, fun y hy z => a (List.mem_map.mpr ⟨y, hy, z⟩)⟩
end
section
variable {σ l : Sl} {S : Sto} {Q : QA} {QB : Bool → Sto → Prop} {QL : List D → Sto → Prop} {QI : Src → Sto → Prop} {X : XA} {nx bk ct : Sl → Sto → Prop} {rt : D → Sto → Prop} {ex : Addr → Sl → Sto → Prop}
  {m a b c : M D} {ml : M (List D)} {x y z d v : D} {F : Fn} {C g : Addr} {f : Op2} {p q : Sm} {ds es : List D} {n : Nat} {kvs : List (Key × D)} {tvs : List (List Key × D)} {k : Key} {ks : List Key}
theorem w_star (h : wE a σ S (fun x S1 => ∃ ds, seqOf x S1 = some ds ∧ wL ml σ S1 (fun es S2 => QL (ds ++ es) S2) X) X) : wL (aStar a ml) σ S QL X := by
  unfold wE at h
  unfold wL aStar eBind
  cases e : a σ S with
  | ok d S1 =>
    rw [e] at h
    obtain ⟨ds, e1, h⟩ := h
    simp only [Res.bind, e1]
    change wL ml σ S1 _ X at h
    unfold wL at h
    cases e2 : ml σ S1 with
    | ok ds S2 => rw [e2] at h; exact h
    | ex C S2 => rw [e2] at h; exact h
    | bad => rw [e2] at h; exact h
  | ex C S1 => rw [e] at h; exact h
  | bad => rw [e] at h; exact h
theorem w_tab1 (h : wE a σ S (fun o S1 => ∃ p, tabRd S1 o = some p ∧ wE b σ S1 (fun y S2 => wO (f o y S2) Q) X) X) : wE (eTab1 f a b) σ S Q X := by
  refine w_eB ?_
  unfold wE at *
  cases e : a σ S with
  | ok d S1 =>
    rw [e] at h
    obtain ⟨p, e1, h⟩ := h
    show wF _ Q X
    simp only [e1]
    exact w_e1 (g := fun y S2 => f d y S2) h
  | ex C S1 => rw [e] at h; exact h
  | bad => rw [e] at h; exact h
theorem w_tab2 {f3 : D → D → D → Sto → Option (D × Sto)} (h : wE a σ S (fun o S1 => ∃ p, tabRd S1 o = some p ∧ wE b σ S1 (fun y S2 => wE c σ S2 (fun z S3 => wO (f3 o y z S3) Q) X) X) X) : wE (eTab2 f3 a b c) σ S Q X := by
  refine w_eB ?_
  unfold wE at *
  cases e : a σ S with
  | ok d S1 =>
    rw [e] at h
    obtain ⟨p, e1, h⟩ := h
    show wF _ Q X
    simp only [e1]
    exact w_e2 (f := fun y z S2 => f3 d y z S2) h
  | ex C S1 => rw [e] at h; exact h
  | bad => rw [e] at h; exact h
theorem w_dk2 {f3 : D → D → D → Sto → Option (D × Sto)} (h : wE a σ S (fun o S1 => ∃ p, dictRd S1 o = some p ∧ wE b σ S1 (fun y S2 => wE c σ S2 (fun z S3 => wO (f3 o y z S3) Q) X) X) X) : wE (eDk2 f3 a b c) σ S Q X := by
  refine w_eB ?_
  unfold wE at *
  cases e : a σ S with
  | ok d S1 =>
    rw [e] at h
    obtain ⟨p, e1, h⟩ := h
    show wF _ Q X
    simp only [e1]
    exact w_e2 (f := fun y z S2 => f3 d y z S2) h
  | ex C S1 => rw [e] at h; exact h
  | bad => rw [e] at h; exact h
def wPs (ms : List (M D × M D)) (σ : Sl) (S : Sto) (Q : List (D × D) → Sto → Prop) (X : XA) : Prop := match pairsA ms σ S with
  | .ok d S => Q d S
  | .ex C S => X C S
  | .bad => False
theorem w_pn {Qp : List (D × D) → Sto → Prop} (h : Qp [] S) : wPs [] σ S Qp X := h
theorem w_pc {Qp : List (D × D) → Sto → Prop} {ms : List (M D × M D)} (h : wE a σ S (fun x S1 => wE b σ S1 (fun y S2 => wPs ms σ S2 (fun ps S3 => Qp ((x, y) :: ps) S3) X) X) X) : wPs ((a, b) :: ms) σ S Qp X := by
  refine Dw.Qt.un ?_
  simp (disch := (with_unfolding_all
    (unfold wE at h
     unfold wPs pairsA
     cases e : a σ S with
     | ok d S1 =>
       rw [e] at h
       change wE b σ S1 _ X at h
       unfold wE at h
       simp only [Res.bind]
       cases e2 : b σ S1 with
       | ok d2 S2 =>
         rw [e2] at h
         change wPs ms σ S2 _ X at h
         unfold wPs at h
         simp only
         cases e3 : pairsA ms σ S2 with
         | ok ps S3 => rw [e3] at h; exact h
         | ex C S3 => rw [e3] at h; exact h
         | bad => rw [e3] at h; exact h
       | ex C S2 => rw [e2] at h; exact h
       | bad => rw [e2] at h; exact h
     | ex C S1 => rw [e] at h; exact h
     | bad => rw [e] at h; exact h))) only [↓Dw.Qt.tt]
theorem w_disp {ms : List (M D × M D)} (h : wPs ms σ (S ++ [.dK []]) (fun ps S1 => S1[S.length]? = some (.dK []) ∧ ∃ kvs, kvOf ps = some kvs ∧ kvs.length ≤ 15 ∧ Q (.ref S.length) (S1.set S.length (.dK (mergeD [] kvs)))) X) : wE (eDisp ms) σ S Q X := by
  unfold wPs at h
  unfold wE eDisp
  cases e : pairsA ms σ (S ++ [.dK []]) with
  | ok ps S1 =>
    rw [e] at h
    obtain ⟨e1, kvs, e2, e3, h⟩ := h
    show wF (dispFin S.length ps S1) Q X
    unfold dispFin
    simp only [e1, e2, if_pos e3]
    exact h
  | ex C S1 => rw [e] at h; exact h
  | bad => rw [e] at h; exact h
theorem w_truT (h : wE a σ S (fun d S1 => ∃ p, tabRd S1 d = some p ∧ QB (!p.2.isEmpty) S1) X) : wB (bTruT a) σ S QB X := by
  refine w_bB ?_
  unfold wE at *
  cases e : a σ S with
  | ok d S1 =>
    rw [e] at h
    obtain ⟨p, e1, q⟩ := h
    show wB (fun _ _ => _) σ S1 QB X
    unfold wB
    simp only [e1]
    exact q
  | ex C S1 => rw [e] at h; exact h
  | bad => rw [e] at h; exact h
theorem o_slT {lo hi : Option Int} (h : Q (.tup (cutD ds lo hi)) S) : wO (dSlT2 (.tup ds) lo hi S) Q := h
end
local macro_rules | `(tactic| walk_at "ww") => `(tactic| repeat (with_reducible first
  | refine w_star ?_ | refine w_tab1 ?_ | refine w_tab2 ?_ | refine w_dk2 ?_ | refine w_disp ?_ | refine w_pc ?_ | refine w_pn ?_ | refine w_truT ?_ | refine o_slT ?_ | refine w_qSet ?_ | refine w_qDrop ?_ | refine w_qAsg ?_ | refine w_qFld ?_ | refine w_cons ?_ | refine w_nil ?_ | refine w_c ?_ | refine w_e2 ?_ | refine w_e1 ?_ | refine w_eN ?_ | refine w_f1 ?_ | refine w_f2 ?_ | refine w_t ?_ | refine w_bl ?_ | refine w_ifS ?_ | refine w_ret ?_ | refine w_next ?_ | refine w_retN ?_ | refine w_drop ?_ | refine w_asg ?_ | refine w_call ?_ | refine w_tup ?_ | refine w_lst ?_ | refine len_and ?_ ?_ | refine w_bm ?_ | refine w_and ?_ | refine w_or ?_ | refine w_not ?_ | refine w_ifE ?_ | refine w_notE ?_ | refine w_andE ?_ | refine w_orE ?_ | refine w_chain ?_ | refine w_fld ?_ | refine w_sl ?_ | refine w_p0 ?_ | refine w_p1 ?_ | refine w_js1 ?_ | refine w_js0 ?_ | refine w_m1 ?_ | refine w_for ?_ | refine i_eB ?_ | refine i_tup ?_ | refine i_str ?_ | refine i_r1 ?_ | refine i_bL ?_ | refine w_meth ?_ | refine w_make ?_ | refine w_raise ?_ | refine w_try ?_ | refine w_tru ?_ | refine w_yes ?_ | refine g_tup ?_ | refine g_nil ?_ | refine g_cons ?_ | refine g_sub ?_ | refine g_fld ?_ | refine w_iT ?_ | refine w_iF ?_ | refine w_nT ?_ | refine w_nF ?_ | refine w_break ?_ | refine w_cont ?_ | refine o_add ?_ | refine o_sub ?_ | refine o_lt ?_ | refine o_le ?_ | refine o_gt ?_ | refine o_ge ?_ | refine o_eqI ?_ | refine o_neI ?_ | refine o_eqS ?_ | refine o_neS ?_ | refine o_isN ?_ | refine o_notN ?_ | refine o_int ?_ | refine o_intB ?_ | refine o_neg ?_ | refine o_ixT0 ?_ | refine o_ixT1 ?_ | refine o_ixT2 ?_ | refine o_ixT3 ?_
  | refine o_mul ?_ ?_ | refine o_mod ?_ ?_ | refine o_fdiv ?_ ?_ | refine o_pow ?_ ?_ | refine o_adS ?_ ?_
  | refine w_v0 ?_ | refine w_s0 ?_ | refine g_n0 ?_ | refine w_v1 ?_ | refine w_s1 ?_ | refine g_n1 ?_ | refine w_v2 ?_ | refine w_s2 ?_ | refine g_n2 ?_ | refine w_v3 ?_ | refine w_s3 ?_ | refine g_n3 ?_ | refine w_v4 ?_ | refine w_s4 ?_ | refine g_n4 ?_ | refine w_v5 ?_ | refine w_s5 ?_ | refine g_n5 ?_ | refine w_v6 ?_ | refine w_s6 ?_ | refine g_n6 ?_ | refine w_v7 ?_ | refine w_s7 ?_ | refine g_n7 ?_ | refine w_v8 ?_ | refine w_s8 ?_ | refine g_n8 ?_ | refine w_v9 ?_ | refine w_s9 ?_ | refine g_n9 ?_ | refine w_v10 ?_ | refine w_s10 ?_ | refine g_n10 ?_ | refine w_v11 ?_ | refine w_s11 ?_ | refine g_n11 ?_ | refine w_v12 ?_ | refine w_s12 ?_ | refine g_n12 ?_ | refine w_v13 ?_ | refine w_s13 ?_ | refine g_n13 ?_ | refine w_v14 ?_ | refine w_s14 ?_ | refine g_n14 ?_ | refine w_v15 ?_ | refine w_s15 ?_ | refine g_n15 ?_ | refine w_v16 ?_ | refine w_s16 ?_ | refine g_n16 ?_ | refine w_v17 ?_ | refine w_s17 ?_ | refine g_n17 ?_ | refine w_v18 ?_ | refine w_s18 ?_ | refine g_n18 ?_ | refine w_v19 ?_ | refine w_s19 ?_ | refine g_n19 ?_ | refine w_v20 ?_ | refine w_s20 ?_ | refine g_n20 ?_ | refine w_v21 ?_ | refine w_s21 ?_ | refine g_n21 ?_ | refine w_v22 ?_ | refine w_s22 ?_ | refine g_n22 ?_ | refine w_v23 ?_ | refine w_s23 ?_ | refine g_n23 ?_ | refine w_v24 ?_ | refine w_s24 ?_ | refine g_n24 ?_ | refine w_v25 ?_ | refine w_s25 ?_ | refine g_n25 ?_ | refine w_v26 ?_ | refine w_s26 ?_ | refine g_n26 ?_))
abbrev Tag := Str × Int × Int
abbrev Adr := Str × Str
def tgK (t : Tag) : List Key := [.inr t.1, .inl t.2.1, .inl t.2.2]
def tgD (t : Tag) : D := .tup [.str t.1, .int t.2.1, .int t.2.2]
def adD (a : Adr) : D := .tup [.str a.1, .str a.2]
def snD : Option Adr → D
  | none => .non
  | some a => adD a
def odD : Option Str → D
  | none => .non
  | some a => .str a
structure Row where
  tag : Tag
  sn : Option Adr
  rc : Adr
  ls : List Str
  via : List Adr
  born : Int
  tries : Int
  due : Int
  db : Option Str
def Row.fl (r : Row) : List D := [tgD r.tag, snD r.sn, adD r.rc, .tup (r.ls.map .str), .tup (r.via.map adD), .int r.born, .int r.tries, .int r.due, odD r.db]
def Row.d (r : Row) : D := .tup r.fl
structure Bp where
  u : Str
  num : Int
  ch : Int
  es : List En
  gs : List (Int × Int)
structure Ps where
  dom : Str
  cnt : Int
  ser : Int
  rows : List Row
  bs : List Bp
  tk : List (Tag × Str)
  ow : List (Tag × Str)
def newRow (p : Ps) (sn : Option Adr) (rc : Adr) (ls : List Str) (via : List Adr) (t : Int) : Row := ⟨(p.dom, p.ser + 1, 0), sn, rc, ls, via, t, 0, t, none⟩
def mkRow (p : Ps) (sn : Option Adr) (rc : Adr) (ls : List Str) (via : List Adr) (t : Int) : Ps := { p with ser := p.ser + 1, rows := p.rows ++ [newRow p sn rc ls via t] }
def mkRows (sn : Option Adr) (ls : List Str) (via : List Adr) (t : Int) (p : Ps) (rs : List Adr) : Ps := rs.foldl (fun p r => mkRow p sn r ls via t) p
def trc (p : Ps) (ls : List Str) : List Str := (Str.ofString "Received: by " ++ p.dom) :: ls
def putL {α : Type} [DecidableEq α] (l : List (α × Str)) (k : α) (v : Str) : List (α × Str) :=
  if (l.any fun x => decide (x.1 = k)) = true then l.map (fun x => if x.1 = k then (x.1, v) else x) else l ++ [(k, v)]
/-- an item anew under its tag, or behind the others -/
def putR (l : List Row) (r : Row) : List Row := if (l.any fun x => decide (x.tag = r.tag)) = true then l.map (fun x => if x.tag = r.tag then r else x) else l ++ [r]
def dropRow (p : Ps) (t : Tag) : Ps := { p with rows := p.rows.filter fun r => decide (r.tag ≠ t) }
def onRow (p : Ps) (t : Tag) (f : Row → Row) : Ps := { p with rows := p.rows.map fun r => if r.tag = t then f r else r }
def nxt (t : Tag) : Tag := (t.1, t.2.1, t.2.2 + 1)
def Bp.deliver (b : Bp) (ls : List Str) : Bp := { b with num := b.num + 1, ch := b.ch + 1, es := b.es ++ [⟨b.num + 1, ls, [], b.ch + 1⟩] }
def Bp.flag (b : Bp) (n : Int) (fl : List Str) : Bp := { b with ch := b.ch + 1, es := b.es.map fun x => if x.n = n then ⟨n, x.ls, fl, b.ch + 1⟩ else x }
def Bp.expunge (b : Bp) (n : Int) : Bp := { b with ch := b.ch + 1, es := b.es.filter (fun x => !decide (x.n = n)), gs := b.gs ++ [(n, b.ch + 1)] }
def onBox (p : Ps) (u : Str) (f : Bp → Bp) : Ps := { p with bs := p.bs.map fun b => if b.u = u then f b else b }
def giveBox (p : Ps) (u : Str) : Ps := if (p.bs.any fun b => decide (b.u = u)) = true then p else { p with bs := p.bs ++ [⟨u, 0, 0, [], []⟩] }
def rep (rc : Adr) (reason : Str) : List Str := [Str.ofString "Subject: undelivered", Str.ofString "", Str.ofString "Recipient: " ++ (rc.1 ++ Str.ofString "@" ++ rc.2), Str.ofString "Reason: " ++ reason]
inductive Evt where
  | submit (sn : Option Adr) (rs : List Adr) (ls : List Str) (t : Int)
  | take (peer : Str) (tag : Tag) (sn : Option Adr) (rc : Adr) (via : List Adr) (ls : List Str) (t : Int)
  | doubt (r : Row) (peer : Str)
  | retry (r : Row) (n due : Int)
  | passed (r : Row) (peer : Str)
  | forgotten (tag : Tag)
  | forget (tag : Tag)
  | deliver (r : Row) (u : Str)
  | expand (r : Row) (ow : Option Adr) (ms : List Adr) (t : Int)
  | bounce (r : Row) (reason : Str) (t : Int)
  | flag (u : Str) (n : Int) (fl : List Str)
  | expunge (u : Str) (n : Int)
def sL (s : String) : D := .str (Str.ofString s)
def tlD (l : List Adr) : D := .tup (l.map adD)
def lsD (l : List Str) : D := .tup (l.map .str)
def Evt.nm : Evt → String
  | .submit .. => "submit" | .take .. => "take" | .doubt .. => "doubt" | .retry .. => "retry" | .passed .. => "passed" | .forgotten .. => "forgotten" | .forget .. => "forget" | .deliver .. => "deliver" | .expand .. => "expand" | .bounce .. => "bounce" | .flag .. => "flag" | .expunge .. => "expunge"
def Evt.args : Evt → List D
  | .submit sn rs ls t => [snD sn, tlD rs, lsD ls, .int t]
  | .take peer tag sn rc via ls t => [.str peer, tgD tag, snD sn, adD rc, tlD via, lsD ls, .int t]
  | .doubt r peer => [tgD r.tag, .str peer]
  | .retry r n due => [tgD r.tag, .int n, .int due]
  | .passed r peer => [tgD r.tag, .str peer]
  | .forgotten tag => [tgD tag]
  | .forget tag => [tgD tag]
  | .deliver r u => [tgD r.tag, .str u]
  | .expand r ow ms t => [tgD r.tag, snD ow, tlD ms, .int t]
  | .bounce r reason t => [tgD r.tag, .str reason, .int t]
  | .flag u n fl => [.str u, .int n, lsD fl]
  | .expunge u n => [.str u, .int n]
def Evt.d (e : Evt) : D := .tup (sL e.nm :: e.args)
def esn (r : Row) (ow : Option Adr) : Option Adr := match ow, r.sn with
  | some a, some _ => some a
  | _, s => s
/-- without the count -/
def Evt.go (p : Ps) : Evt → Ps
  | .submit sn rs ls t => mkRows sn (trc p ls) [] t p rs
  | .take peer tag sn rc via ls t => { p with tk := putL p.tk tag peer, rows := putR p.rows ⟨tag, sn, rc, trc p ls, via, t, 0, t, none⟩ }
  | .doubt r peer => onRow p r.tag fun r => { r with db := some peer }
  | .retry r n due => onRow p r.tag fun r => { r with tries := n, due := due, db := none }
  | .passed r peer => { dropRow p r.tag with ow := putL p.ow (nxt r.tag) peer }
  | .forgotten tag => { p with ow := p.ow.filter fun x => decide (x.1 ≠ tag) }
  | .forget tag => { p with tk := p.tk.filter fun x => decide (x.1 ≠ tag) }
  | .deliver r u => onBox (giveBox (dropRow p r.tag) u) u fun b => b.deliver r.ls
  | .expand r ow ms t => mkRows (esn r ow) r.ls (r.via ++ [r.rc]) t (dropRow p r.tag) ms
  | .bounce r reason t => match r.sn with
    | none => dropRow p r.tag
    | some a => mkRow (dropRow p r.tag) none a (trc p (rep r.rc reason)) [] t
  | .flag u n fl => onBox p u fun b => b.flag n fl
  | .expunge u n => onBox p u fun b => b.expunge n
structure Fr (W : Nat → Prop) (S S' : Sto) : Prop where
  len : S.length ≤ S'.length
  eq : ∀ m, ¬ W m → S'[m]? = S[m]?
theorem Fr.refl (W : Nat → Prop) (S : Sto) : Fr W S S := ⟨Nat.le_refl _, fun _ _ => rfl⟩
section
variable {W : Nat → Prop} {S S1 S2 : Sto} {n m : Nat} {x y : O} {o : List Nat}
theorem Fr.trans (a : Fr W S S1) (b : Fr W S1 S2) : Fr W S S2 := ⟨Nat.le_trans a.len b.len, fun m h => (b.eq m h).trans (a.eq m h)⟩
theorem Fr.app (a : Fr W S S1) (h : W S1.length) : Fr W S (S1 ++ [x]) := ⟨by rw [List.length_append]; have := a.len; omega, fun m hm => by
  rw [← a.eq m hm]
  by_cases c : m < S1.length
  · rw [List.getElem?_append_left c]
  · by_cases c2 : m = S1.length
    · rw [c2] at hm
      exact (hm h).elim
    · rw [List.getElem?_eq_none (by rw [List.length_append, List.length_singleton]; omega), List.getElem?_eq_none (by omega)]⟩
theorem Fr.set (a : Fr W S S1) (h : W n) : Fr W S (S1.set n x) := ⟨by rw [List.length_set]; exact a.len, fun m hm => by
  rw [List.getElem?_set_ne (fun e => hm (by rw [← e]; exact h))]
  exact a.eq m hm⟩
theorem Fr.upto (a : Fr W S S1) (u : Upto o S1 S2) (h : ∀ n ∈ o, W n) (hW : ∀ n, S1.length ≤ n → W n) : Fr W S S2 := ⟨Nat.le_trans a.len u.len, fun m hm => by
  rw [← a.eq m hm]
  refine u.eq m (fun z => hm (h m z)) ?_
  have : ¬ S1.length ≤ m := fun z => hm (hW m z)
  omega⟩
theorem Fr.get (a : Fr W S S1) (hm : ¬ W m) (e : S[m]? = some x) : S1[m]? = some x := (a.eq m hm).trans e
theorem Upto.up (u : Upto o S S1) (e : S[m]? = some x) (h : m ∉ o) : S1[m]? = some x := u.get h e
theorem at_ne (h : S[n]? = some x) (g : S[m]? = some y) (k : x ≠ y) : n ≠ m := fun z => k (by rw [z, g] at h; exact (Option.some.inj h).symm)
end
/-- where the classes and the methods stand -/
structure CS where
  State : Addr
  Item : Addr
  Box : Addr
  NoSuchEntry : Addr
  m_State_submit : Addr
  m_State_take : Addr
  m_State_doubt : Addr
  m_State_retry : Addr
  m_State_passed : Addr
  m_State_forgotten : Addr
  m_State_forget : Addr
  m_State_deliver : Addr
  m_State_expand : Addr
  m_State_bounce : Addr
  m_State_flag : Addr
  m_State_expunge : Addr
structure Bq where
  b : Bp
  p : Nat
  e : Nat
  g : Nat
structure St where
  dom : Str
  cnt : Int
  ser : Int
  a : Nat
  b : Nat
  t : Nat
  w : Nat
  q : List (Row × Nat)
  bx : List Bq
  tk : List (Tag × Str)
  ow : List (Tag × Str)
def St.ps (s : St) : Ps := ⟨s.dom, s.cnt, s.ser, s.q.map (·.1), s.bx.map (·.b), s.tk, s.ow⟩
def tkv (x : Tag × Str) : List Key × D := (tgK x.1, .str x.2)
def qkv (x : Row × Nat) : List Key × D := (tgK x.1.tag, .ref x.2)
def bkv (x : Bq) : Key × D := (.inr x.b.u, .ref x.p)
def BqAt (B : Addr) (S : Sto) (x : Bq) : Prop := BoxAt B S x.p x.e x.g x.b.num x.b.ch x.b.es x.b.gs
def Apart (x y : Bq) : Prop := ∀ i ∈ [x.p, x.e, x.g], i ∉ [y.p, y.e, y.g]
structure RS (c : CS) (S : Sto) (W : Nat → Prop) (p : Nat) (s : St) : Prop where
  ob : S[p]? = some (.obj c.State [.str s.dom, .int s.cnt, .int s.ser, .ref s.a, .ref s.b, .ref s.t, .ref s.w])
  qu : S[s.a]? = some (.dT (s.q.map qkv))
  bo : S[s.b]? = some (.dK (s.bx.map bkv))
  ta : S[s.t]? = some (.dT (s.tk.map tkv))
  wo : S[s.w]? = some (.dT (s.ow.map tkv))
  it : ∀ x ∈ s.q, S[x.2]? = some (.obj c.Item x.1.fl)
  bt : ∀ x ∈ s.bx, BqAt c.Box S x
  n1 : s.a ≠ s.t
  n2 : s.a ≠ s.w
  n3 : s.t ≠ s.w
  ni : (s.q.map (·.2)).Nodup
  nb : s.bx.Pairwise Apart
  nt : (s.q.map (·.1.tag)).Nodup
  nu : (s.bx.map (·.b.u)).Nodup
  nk : (s.tk.map (·.1)).Nodup
  nw : (s.ow.map (·.1)).Nodup
  wp : W p
  wa : W s.a
  wb : W s.b
  wt : W s.t
  ww : W s.w
  wi : ∀ x ∈ s.q, W x.2
  wx : ∀ x ∈ s.bx, W x.p ∧ W x.e ∧ W x.g
theorem Apart.symm {x y : Bq} (h : Apart x y) : Apart y x := fun i hi hj => h i hj hi
theorem len_ne {S : Sto} {i j : Nat} {C C' : Addr} {ds es : List D} (h : S[i]? = some (.obj C ds)) (g : S[j]? = some (.obj C' es)) (k : (ds.length == es.length) = false) : i ≠ j := fun z => by
  subst z
  rw [h] at g
  cases g
  simp at k
section
variable {c : CS} {S S' : Sto} {W : Nat → Prop} {p : Nat} {s : St} {x : O} {Q : QA} {X : XA}
theorem RS.app (h : RS c S W p s) : RS c (S ++ [x]) W p s :=
  { h with ob := app_old h.ob, qu := app_old h.qu, bo := app_old h.bo, ta := app_old h.ta, wo := app_old h.wo, it := fun y hy => app_old (h.it y hy), bt := fun y hy => BoxAt.app (h.bt y hy) }
/-- all its objects stay -/
theorem RS.keep (h : RS c S W p s) (k : ∀ n, W n → ∀ o, S[n]? = some o → S'[n]? = some o) : RS c S' W p s :=
  { h with ob := k _ h.wp _ h.ob, qu := k _ h.wa _ h.qu, bo := k _ h.wb _ h.bo, ta := k _ h.wt _ h.ta, wo := k _ h.ww _ h.wo, it := fun y hy => k _ (h.wi y hy) _ (h.it y hy), bt := fun y hy => ⟨k _ (h.wx y hy).1 _ (h.bt y hy).ob, k _ (h.wx y hy).2.1 _ (h.bt y hy).en, k _ (h.wx y hy).2.2 _ (h.bt y hy).gn, (h.bt y hy).ne⟩ }
theorem RS.wide {W' : Nat → Prop} (h : RS c S W p s) (k : ∀ n, W n → n < S.length → W' n) : RS c S W' p s :=
  { h with wp := k _ h.wp (app_lt h.ob), wa := k _ h.wa (app_lt h.qu), wb := k _ h.wb (app_lt h.bo), wt := k _ h.wt (app_lt h.ta), ww := k _ h.ww (app_lt h.wo), wi := fun y hy => k _ (h.wi y hy) (app_lt (h.it y hy)), wx := fun y hy => ⟨k _ (h.wx y hy).1 (app_lt (h.bt y hy).ob), k _ (h.wx y hy).2.1 (app_lt (h.bt y hy).en), k _ (h.wx y hy).2.2 (app_lt (h.bt y hy).gn)⟩ }
end
def Gr (W : Nat → Prop) (S : Sto) : Nat → Prop := fun n => W n ∨ S.length ≤ n
section
variable {c : CS} {S S' : Sto} {W W' : Nat → Prop} {p : Nat} {s : St} {x : O} {Q : QA} {X : XA}
theorem Gr.new {n : Nat} (h : S.length ≤ n) : Gr W S n := .inr h
theorem Fr.mono (a : Fr W S S') (h : ∀ n, W n → W' n) : Fr W' S S' := ⟨a.len, fun m hm => a.eq m fun z => hm (h m z)⟩
theorem Gr.sub (l : S.length ≤ S'.length) : ∀ n, Gr (Gr W S) S' n → Gr W S n := fun n h => by
  rcases h with h | h
  · exact h
  · exact .inr (Nat.le_trans l h)
end
def Fresh (p : Ps) : Prop := ∀ r ∈ p.rows, r.tag.1 = p.dom → r.tag.2.2 = 0 → r.tag.2.1 ≤ p.ser
theorem Fresh.ne {p : Ps} (h : Fresh p) {r : Row} (hr : r ∈ p.rows) : r.tag ≠ (p.dom, p.ser + 1, 0) := fun e => by
  have h1 := h r hr (by rw [e]) (by rw [e])
  have h2 : r.tag.2.1 = p.ser + 1 := by rw [e]
  omega
section
variable {c : CS} {S S' : Sto} {W W' : Nat → Prop} {p : Nat} {s : St} {x : O} {Q : QA} {X : XA} {σ : Sl}
theorem RS.fresh (h : Fresh s.ps) {y : Row × Nat} (hy : y ∈ s.q) : y.1.tag ≠ (s.dom, s.ser + 1, 0) := Fresh.ne h (List.mem_map.mpr ⟨y, hy, rfl⟩)
end
def Evt.ix : Evt → Nat
  | .submit .. => 0 | .take .. => 1 | .doubt .. => 2 | .retry .. => 3 | .passed .. => 4 | .forgotten .. => 5 | .forget .. => 6 | .deliver .. => 7 | .expand .. => 8 | .bounce .. => 9 | .flag .. => 10 | .expunge .. => 11
section
variable {c : CS} {S S' : Sto} {W W' : Nat → Prop} {p : Nat} {s : St} {Q : QA} {X : XA} {n : Nat}
/-- what an event may be applied to -/
def Evt.pre (p : Ps) : Evt → Prop
  | .submit sn rs ls t => p.rows.length + rs.length < 100000 ∧ ls.length < 100000
  | .take peer tag sn rc via ls t => p.rows.length < 100000 ∧ p.tk.length < 100000 ∧ ls.length < 100000
  | .doubt r peer => r ∈ p.rows
  | .retry r n due => r ∈ p.rows
  | .passed r peer => r ∈ p.rows ∧ p.ow.length < 100000
  | .forgotten tag => True
  | .forget tag => True
  | .deliver r u => r ∈ p.rows ∧ p.bs.length < 100000 ∧ ∀ b ∈ p.bs, b.es.length < 100000
  | .expand r own ms t => r ∈ p.rows ∧ p.rows.length + ms.length < 100000 ∧ r.via.length < 100000
  | .bounce r reason t => r ∈ p.rows ∧ p.rows.length < 100000 ∧ reason.length ≤ 1000 ∧ r.rc.1.length ≤ 1000 ∧ r.rc.2.length ≤ 1000
  | .flag u k fl => ∃ b ∈ p.bs, b.u = u ∧ 0 ≤ k ∧ k < 200 ∧ b.es.length < 100000 ∧ fl.length < 60 ∧ srtS fl = fl ∧ Dst b.es ∧ ∃ en ∈ b.es, en.n = k
  | .expunge u k => ∃ b ∈ p.bs, b.u = u ∧ 0 ≤ k ∧ k < 200 ∧ b.es.length < 100000 ∧ b.gs.length < 100000 ∧ Dst b.es ∧ ∃ en ∈ b.es, en.n = k
end
def bD (b : Bp) : D := .tup [.str b.u, .tup [.int b.num, .int b.ch, .tup (b.es.map En.d), .tup (b.gs.map goneD)]]
def tkD (x : Tag × Str) : D := .tup [tgD x.1, .str x.2]
def Ps.d (q : Ps) : D := .tup [.str q.dom, .int q.cnt, .int q.ser, .tup (q.rows.map Row.d), .tup (q.bs.map bD), .tup (q.tk.map tkD), .tup (q.ow.map tkD)]
/-- the same, in another order -/
structure Sim (p q : Ps) : Prop where
  dom : q.dom = p.dom
  cnt : q.cnt = p.cnt
  ser : q.ser = p.ser
  pr : q.rows.Perm p.rows
  pb : q.bs.Perm p.bs
  pt : q.tk.Perm p.tk
  pw : q.ow.Perm p.ow
theorem Sim.refl (p : Ps) : Sim p p := ⟨rfl, rfl, rfl, .refl _, .refl _, .refl _, .refl _⟩
theorem Sim.symm {p q : Ps} (h : Sim p q) : Sim q p := ⟨h.dom.symm, h.cnt.symm, h.ser.symm, h.pr.symm, h.pb.symm, h.pt.symm, h.pw.symm⟩
theorem Sim.trans {p q r : Ps} (h : Sim p q) (g : Sim q r) : Sim p r := ⟨g.dom.trans h.dom, g.cnt.trans h.cnt, g.ser.trans h.ser, g.pr.trans h.pr, g.pb.trans h.pb, g.pt.trans h.pt, g.pw.trans h.pw⟩
def tgP (t : Tag) : PyData := .tuple [.str t.1, .int t.2.1, .int t.2.2]
def adP (a : Adr) : PyData := .tuple [.str a.1, .str a.2]
def snP : Option Adr → PyData
  | none => .none
  | some a => adP a
def odP : Option Str → PyData
  | none => .none
  | some a => .str a
def Row.py (r : Row) : PyData := .tuple [tgP r.tag, snP r.sn, adP r.rc, .tuple (r.ls.map .str), .tuple (r.via.map adP), .int r.born, .int r.tries, .int r.due, odP r.db]
structure TxA (a : Adr) : Prop where
  a1 : Asc a.1
  a2 : Asc a.2
  l1 : a.1.length ≤ 1000
  l2 : a.2.length ≤ 1000
section
variable {S : Sto}
def enP (e : En) : PyData := .tuple [.int e.n, .tuple (e.ls.map .str), .tuple (e.fl.map .str), .int e.ch]
def goP (g : Int × Int) : PyData := .tuple [.int g.1, .int g.2]
def bP (b : Bp) : PyData := .tuple [.str b.u, .tuple [.int b.num, .int b.ch, .tuple (b.es.map enP), .tuple (b.gs.map goP)]]
def tkP (x : Tag × Str) : PyData := .tuple [tgP x.1, .str x.2]
def Ps.py (q : Ps) : PyData := .tuple [.str q.dom, .int q.cnt, .int q.ser, .tuple (q.rows.map Row.py), .tuple (q.bs.map bP), .tuple (q.tk.map tkP), .tuple (q.ow.map tkP)]
end
inductive Pt where
  | fr (a : Option Adr) | to (a : Adr) | via (l : List Adr)
def Pt.nm : Pt → String
  | .fr _ => "FROM" | .to _ => "TO" | .via _ => "VIA"
def Pt.d : Pt → D
  | .fr a => snD a | .to a => adD a | .via l => tlD l
inductive Cmd where
  | helo (x : Str) | quit | data | offer (t : Tag) | ask (t : Tag) | forget (t : Tag) | part (p : Pt)
def Cmd.d : Cmd → D
  | .helo x => .tup [sL "HELO", .str x]
  | .quit => .tup [sL "QUIT", .non]
  | .data => .tup [sL "DATA", .non]
  | .offer t => .tup [sL "OFFER", tgD t]
  | .ask t => .tup [sL "ASK", tgD t]
  | .forget t => .tup [sL "FORGET", tgD t]
  | .part p => .tup [sL p.nm, p.d]
theorem w_noEx {cs : Sm} {σ : Sl} {S : Sto} {nx bk ct : Sl → Sto → Prop} {rt : D → Sto → Prop} {ex : Addr → Sl → Sto → Prop} (h : wS cs σ S ⟨nx, rt, bk, ct, fun _ _ _ => False⟩) : wS (noEx cs) σ S ⟨nx, rt, bk, ct, ex⟩ := by
  unfold wS noEx at *
  cases e : cs σ S with
  | ex C σ1 S1 => rw [e] at h; exact h.elim
  | nx σ1 S1 => rw [e] at h; exact h
  | rt d S1 => rw [e] at h; exact h
  | bk σ1 S1 => rw [e] at h; exact h
  | ct σ1 S1 => rw [e] at h; exact h
  | bad => rw [e] at h; exact h
structure Sn where
  peer : Option Str
  over : Bool
  tag : Option Tag
  parts : List Pt
  lines : Option (List Str)
def otD : Option Tag → D
  | none => .non
  | some t => tgD t
def liD : Option (List Str) → Nat → D
  | none, _ => .non
  | some _, b => .ref b
def Pt.w (x : Pt) : Str := Str.ofString x.nm
def Pt.kv (x : Pt) : Key × D := (.inr x.w, x.d)
def Sn.drop (s : Sn) : Sn := { s with tag := none, parts := [], lines := none }
def oeD : Option Evt → D
  | none => .non
  | some e => e.d
def orD : Option Str → D
  | none => .non
  | some e => .str e
structure SeP (C : Addr) (S : Sto) (W : Nat → Prop) (q : Nat) (dom : Str) (s : Sn) (a b : Nat) : Prop where
  ob : S[q]? = some (.obj C [odD s.peer, .bl s.over, .str dom, otD s.tag, .ref a, liD s.lines b])
  pa : S[a]? = some (.dK (s.parts.map Pt.kv))
  li : ∀ l, s.lines = some l → S[b]? = some (.lst (l.map .str)) ∧ W b
  wa : W a
  wq : W q
structure Dy where
  dom : Str
  users : List Str
  lists : List (Str × Option Adr × List Adr)
inductive Lk where
  | remote | box (x : Str) | list (o : Option Adr) (m : List Adr) | unknown
def Lk.d : Lk → D
  | .remote => .tup [sL "remote"]
  | .box x => .tup [sL "box", .str x]
  | .list o m => .tup [sL "list", snD o, tlD m]
  | .unknown => .tup [sL "unknown"]
def lookL (l : List (Str × Option Adr × List Adr)) (x : Str) : Lk := match l with
  | [] => .unknown
  | y :: r => if y.1 = x then .list y.2.1 y.2.2 else lookL r x
def look (y : Dy) (a : Adr) : Lk := if a.2 ≠ y.dom then .remote else if a.1 ∈ y.users then .box a.1 else lookL y.lists a.1
def Lk.ok : Lk → Prop
  | .box x => Asc x
  | .list o m => (∀ a, o = some a → TxA a) ∧ ∀ a ∈ m, TxA a
  | _ => True
theorem if_no {k : Bool} {A B : Prop} (e : k = false) (h : B) : if k = true then A else B := by rw [e]; exact iteF h
theorem if_yes {k : Bool} {A B : Prop} (e : k = true) (h : A) : if k = true then A else B := by rw [e]; exact iteT h
section
variable {S : Sto} {Q : QA}
def Lk.py : Lk → PyData
  | .remote => .tuple [.str (Str.ofString "remote")]
  | .box x => .tuple [.str (Str.ofString "box"), .str x]
  | .list o m => .tuple [.str (Str.ofString "list"), snP o, .tuple (m.map adP)]
  | .unknown => .tuple [.str (Str.ofString "unknown")]
end
section
variable {C : Addr} {S S' : Sto} {W W' : Nat → Prop} {q a b : Nat} {dom : Str} {s : Sn} {x : O}
theorem SeP.keep (h : SeP C S W q dom s a b) (k : ∀ n, W n → ∀ o, S[n]? = some o → S'[n]? = some o) : SeP C S' W q dom s a b := ⟨k _ h.wq _ h.ob, k _ h.wa _ h.pa, fun l e => ⟨k _ (h.li l e).2 _ (h.li l e).1, (h.li l e).2⟩, h.wa, h.wq⟩
theorem SeP.wide (h : SeP C S W q dom s a b) (k : ∀ n, W n → n < S.length → W' n) : SeP C S W' q dom s a b := ⟨h.ob, h.pa, fun l e => ⟨(h.li l e).1, k _ (h.li l e).2 (app_lt (h.li l e).1)⟩, k _ h.wa (app_lt h.pa), k _ h.wq (app_lt h.ob)⟩
theorem SeP.app (h : SeP C S W q dom s a b) : SeP C (S ++ [x]) W q dom s a b := h.keep fun _ _ _ e => app_old e
theorem SeP.up (h : SeP C S W q dom s a b) (u : Upto [] S S') : SeP C S' W q dom s a b := h.keep fun _ _ _ e => u.get0 e
end
abbrev Rep3 := Sn × Option Evt × Option Str
def Rep3.d (r : Rep3) : D := .tup [oeD r.2.1, orD r.2.2]
section
variable {t : M Bool} {b : Sm} {nx bk ct : Sl → Sto → Prop} {rt : D → Sto → Prop} {ex : Addr → Sl → Sto → Prop}
theorem w_while (P : Nat → Sl → Sto → Prop) (step : ∀ m σ S, P m σ S → wB t σ S (fun c S1 => if c = true then wS b σ S1 ⟨fun σ2 S2 => ∃ j, j < m ∧ P j σ2 S2, rt, nx, fun σ2 S2 => ∃ j, j < m ∧ P j σ2 S2, ex⟩ else nx σ S1) fun C S1 => ex C σ S1) {m : Nat} {σ : Sl} {S : Sto} (h0 : P m σ S) : wS (cWhile t b) σ S ⟨nx, rt, bk, ct, ex⟩ := by
  refine Dw.Qt.un ?_
  simp (disch := (with_unfolding_all
    (have key : ∀ m σ S, P m σ S → ∀ n, m < n → wR (wlF t b n σ S) ⟨nx, rt, bk, ct, ex⟩ ∧ wlF t b n σ S ≠ .bad := by
       intro m
       induction m using Nat.strongRecOn with
       | ind m ih =>
         intro σ S hP n hn
         obtain ⟨n, rfl⟩ : ∃ k, n = k + 1 := ⟨n - 1, by omega⟩
         have st := step m σ S hP
         unfold wlF
         unfold wB at st
         cases et : t σ S with
         | ok c S1 =>
           rw [et] at st
           cases c with
           | false => exact ⟨st, nofun⟩
           | true =>
             have st2 : wR (b σ S1) _ := st
             simp only
             cases eb : b σ S1 with
             | nx σ2 S2 =>
               rw [eb] at st2
               obtain ⟨j, hj, hP2⟩ := st2
               exact ih j hj σ2 S2 hP2 n (by omega)
             | ct σ2 S2 =>
               rw [eb] at st2
               obtain ⟨j, hj, hP2⟩ := st2
               exact ih j hj σ2 S2 hP2 n (by omega)
             | bk σ2 S2 => rw [eb] at st2; exact ⟨st2, nofun⟩
             | rt d S2 => rw [eb] at st2; exact ⟨st2, nofun⟩
             | ex C σ2 S2 => rw [eb] at st2; exact ⟨st2, nofun⟩
             | bad => rw [eb] at st2; exact st2.elim
         | ex C S1 => rw [et] at st; exact ⟨st, nofun⟩
         | bad => rw [et] at st; exact st.elim
     obtain ⟨k1, k2⟩ := key m σ S h0 (m + 1) (Nat.lt_succ_self m)
     unfold wS
     rw [cWhile_of k2]
     exact k1))) only [↓Dw.Qt.tt]
end
noncomputable def W_pack_count : Fn := fn0 1 2
    (cSeq (cSet 1 (eLst aNil))
    (cSeq (cWhile (eT (e2 dGt (eV 0) (eC (.int 127)))) (cSeq (cDrop (eBM dAppend (eV 1) (aCons (e2 dAdd (eC (.int 128)) (e2 dAnd (eV 0) (eC (.int 127)))) aNil)))
    (cSet 0 (e2 dShr (eV 0) (eC (.int 7))))))
    (cSeq (cDrop (eBM dAppend (eV 1) (aCons (eV 0) aNil)))
    (cRet (eV 1)))))
noncomputable def W_pack_integer : Fn := fn0 1 1
    (cSeq (cIf (eT (e2 dLt (eV 0) (eC (.int 0)))) (cRet (e2 dCatL (eLst (aCons (eC (.int (4))) aNil)) (eCall (W_pack_count) (aCons (e2 dSub (e1 dNeg (eV 0)) (eC (.int 1))) aNil)))) cNext)
    (cRet (e2 dCatL (eLst (aCons (eC (.int (3))) aNil)) (eCall (W_pack_count) (aCons (eV 0) aNil)))))
noncomputable def W_pack : Nat → Fn
  | 0 => fun _ _ => .bad
  | n + 1 => fn0 1 4
    (cSeq (cIf (eT (e2 dIsN (eV 0) (eC .non))) (cRet (eLst (aCons (eC (.int (0))) aNil))) cNext)
    (cSeq (cIf (eT (eN (f2 dIsi) (aCons (eV 0) (aCons (eC (.ty "bool")) aNil)))) (cRet (eLst (aCons (eIf (eT (eV 0)) (eC (.int (2))) (eC (.int (1)))) aNil))) cNext)
    (cSeq (cIf (eT (eN (f2 dIsi) (aCons (eV 0) (aCons (eC (.ty "int")) aNil)))) (cRet (eCall (W_pack_integer) (aCons (eV 0) aNil))) cNext)
    (cSeq (cIf (eT (eN (f2 dIsi) (aCons (eV 0) (aCons (eC (.ty "str")) aNil)))) (cRet (e2 dCatL (e2 dCatL (eLst (aCons (eC (.int (5))) aNil)) (eCall (W_pack_count) (aCons (eN (f1 dLenS) (aCons (eV 0) aNil)) aNil))) (eLc (eBind (eV 0) sStr) (.one 3) [3] bYes (eN (f1 dOrd) (aCons (eV 3) aNil))))) cNext)
    (cSeq (cSet 1 (e2 dCatL (eLst (aCons (eC (.int (6))) aNil)) (eCall (W_pack_count) (aCons (eN (f1 dLenQ) (aCons (eV 0) aNil)) aNil))))
    (cSeq (cFor (eBind (eV 0) sTup) (tgName 2) (cDrop (eBM dExtend (eV 1) (aCons (eCall (W_pack n) (aCons (eV 2) aNil)) aNil))))
    (cRet (eV 1))))))))
mutual
def dvp : D → PyData
  | .non => .none
  | .bl b => .bool b
  | .int i => .int i
  | .str x => .str x
  | .tup ds => .tuple (dvps ds)
  | _ => .none
def dvps : List D → List PyData
  | [] => []
  | d :: ds => dvp d :: dvps ds
end
mutual
def flat : D → Bool
  | .non => true
  | .bl _ => true
  | .int _ => true
  | .str _ => true
  | .tup ds => flats ds
  | _ => false
def flats : List D → Bool
  | [] => true
  | d :: ds => flat d && flats ds
end
theorem dvps_map : ∀ ds : List D, dvps ds = ds.map dvp
  | [] => rfl
  | d :: ds => by rw [dvps, dvps_map ds]; rfl
theorem flats_all : ∀ ds : List D, flats ds = ds.all flat
  | [] => rfl
  | d :: ds => by rw [flats, flats_all ds]; rfl
theorem and127 {n : Nat} : Builtin.bitAnd (n : Int) 127 = ((n % 128 : Nat) : Int) := by
  have h := Bits.bitAnd_mask (x := (n : Int)) 7 (by omega)
  rw [show (2 : Int) ^ 7 - 1 = 127 by decide, show (2 : Int) ^ 7 = 128 by decide] at h
  rw [h]
  omega
theorem shr7 {n : Nat} : (n : Int) / 2 ^ (7 : Int).toNat = ((n / 128 : Nat) : Int) := by
  show (n : Int) / 2 ^ 7 = _
  rw [show (2 : Int) ^ 7 = 128 by decide]
  omega
section
variable {S : Sto} {Q : QA} {X : XA}
theorem o_and {i j : Int} (h : Q (.int (Builtin.bitAnd i j)) S) : wO (dAnd (.int i) (.int j) S) Q := h
theorem o_shr {i j : Int} (c : 0 ≤ j) (h : Q (.int (i / 2 ^ j.toNat)) S) : wO (dShr (.int i) (.int j) S) Q := by
  show wO (gd _ _) Q
  rw [gd_ok c]
  exact h
theorem o_extend {n k : Nat} {ds es : List D} (e1 : S[n]? = some (.lst ds)) (e2 : S[k]? = some (.lst es)) (c : ds.length + es.length ≤ sizeLine) (h : Q .non (S.set n (.lst (ds ++ es)))) : wO (dExtend (.ref n) [.ref k] S) Q := by
  show wO ((listAt S (.ref n)).bind fun p => (listAt S (.ref k)).bind fun q => gd (p.2.length + q.2.length ≤ sizeLine) (some (.non, S.set p.1 (.lst (p.2 ++ q.2))))) Q
  rw [listAt_ref e1, Option.bind_some, listAt_ref e2, Option.bind_some, gd_ok c]
  exact h
theorem o_ord {z : Str} (c : z.length = 1) (h : Q (.int (z.cps.getD 0 0 : Nat)) S) : wO (dOrd (.str z) S) Q := by
  show wO (gd _ _) Q
  rw [gd_ok c]
  exact h
theorem pcount_w {n : Nat} (hn : (cnt n).length ≤ 1000000) (f : ∀ S' k, Upto [] S S' → S.length ≤ k → S'[k]? = some (.lst ((cnt n).map .int)) → Q (.ref k) S') : wF (W_pack_count [.int n] S) Q X := by
  refine Dw.Qt.un ?_
  simp (disch := (with_unfolding_all
    (unfold W_pack_count
     walk_at "w0"
     walk_at "w"
     have e0 : (S ++ [O.lst []])[S.length]? = some (.lst []) := app_new
     have u0 : Upto [] S (S ++ [O.lst []]) := (Upto.refl _ _).app
     generalize S ++ [O.lst []] = S0 at *
     refine w_cut (fun σ1 S1 => Upto [] S S1 ∧ ∃ (m : Nat) (acc : List Int), σ1 = [some (.int m), some (.ref S.length)] ∧ m < 128 ∧ S1[S.length]? = some (.lst (acc.map .int)) ∧ acc ++ [(m : Int)] = cnt n) ?_ fun σ1 S1 ⟨u1, m, acc, e2, hm, e1, ec⟩ => ?_
     · refine w_while (fun m σ S1 => Upto [] S S1 ∧ ∃ acc : List Int, σ = [some (.int m), some (.ref S.length)] ∧ S1[S.length]? = some (.lst (acc.map .int)) ∧ acc ++ cnt m = cnt n) (fun m σ S1 ⟨u1, acc, e1, e2, ec⟩ => ?_) (m := n) ⟨u0, [], rfl, e0, rfl⟩
       subst e1
       have al : acc.length + (cnt m).length = (cnt n).length := by rw [← ec, List.length_append]
       walk_at "w"
       refine o_dec (fun c => ?_) fun c => ?_
       · have ge : 128 ≤ m := by omega
         walk_at "w"
         refine ⟨_, listAt_ref e2, ?_⟩
         walk_at "w"
         refine o_and ?_
         walk_at "w"
         refine o_append e2 (lt_line (by rw [List.length_map]; omega)) ?_
         walk_at "w"
         refine o_shr (by decide) ?_
         walk_at "w"
         refine ⟨m / 128, by omega, u1.set (.inr (Nat.le_refl _)), acc ++ [((128 + (m % 128 : Nat) : Int))], ?_, ?_, ?_⟩
         · rw [shr7]
         · rw [set_at e2, and127, List.map_append]
           rfl
         · rw [List.append_assoc, List.singleton_append, ← cnt_ge ge]
           exact ec
       · walk_at "w"
         exact ⟨u1, m, acc, rfl, by omega, e2, by rw [← ec, cnt_lt (by omega)]⟩
     · subst e2
       have al : acc.length + 1 = (cnt n).length := by rw [← ec, List.length_append]; rfl
       walk_at "w"
       refine ⟨_, listAt_ref e1, ?_⟩
       walk_at "w"
       refine o_append e1 (lt_line (by rw [List.length_map]; omega)) ?_
       walk_at "w"
       refine f _ S.length (u1.set (.inr (Nat.le_refl _))) (Nat.le_refl _) ?_
       rw [set_at e1, ← ec, List.map_append]
       rfl))) only [↓Dw.Qt.tt]
theorem pint_w {i : Int} (hn : (rcd (.int i)).length ≤ 1000000) (f : ∀ S' k, Upto [] S S' → S.length ≤ k → S'[k]? = some (.lst ((rcd (.int i)).map .int)) → Q (.ref k) S') : wF (W_pack_integer [.int i] S) Q X := by
  refine Dw.Qt.un ?_
  simp (disch := (with_unfolding_all
    (unfold W_pack_integer
     walk_at "w0"
     refine w_seq ?_
     walk_at "w"
     refine o_dec (fun c => ?_) fun c => ?_
     · have er : rcd (.int i) = 4 :: cnt (-i - 1).toNat := by rw [rcd, if_neg (by omega)]
       rw [er] at f hn
       rw [List.length_cons] at hn
       walk_at "w"
       have e0 : (S ++ [O.lst [.int 4]])[S.length]? = some (.lst [.int 4]) := app_new
       have u0 : Upto [] S (S ++ [O.lst [.int 4]]) := (Upto.refl _ _).app
       generalize S ++ [O.lst [.int 4]] = S0 at *
       rw [show -i - 1 = (((-i - 1).toNat : Nat) : Int) from (Int.toNat_of_nonneg (by omega)).symm]
       refine pcount_w (by omega) fun S1 k u1 l1 e1 => ?_
       refine o_cat (u1.get0 e0) e1 (line_of (by rw [List.length_map]; show 1 + _ ≤ _; omega)) ?_
       have l0 := u0.len
       have l2 := u1.len
       exact f _ _ ((u0.trans u1).app) (by omega) app_new
     · have er : rcd (.int i) = 3 :: cnt i.toNat := by rw [rcd, if_pos (by omega)]
       rw [er] at f hn
       rw [List.length_cons] at hn
       refine w_next ?_
       walk_at "w"
       have e0 : (S ++ [O.lst [.int 3]])[S.length]? = some (.lst [.int 3]) := app_new
       have u0 : Upto [] S (S ++ [O.lst [.int 3]]) := (Upto.refl _ _).app
       generalize S ++ [O.lst [.int 3]] = S0 at *
       rw [show i = ((i.toNat : Nat) : Int) from (Int.toNat_of_nonneg (by omega)).symm]
       refine pcount_w (by omega) fun S1 k u1 l1 e1 => ?_
       refine o_cat (u1.get0 e0) e1 (line_of (by rw [List.length_map]; show 1 + _ ≤ _; omega)) ?_
       have l0 := u0.len
       have l2 := u1.len
       exact f _ _ ((u0.trans u1).app) (by omega) app_new))) only [↓Dw.Qt.tt]
theorem one_len (c : Nat) : (⟨#[c]⟩ : Str).length = 1 := rfl
theorem sgn_tl (x : Str) : ((tl x).map fun c => D.int ((⟨#[c]⟩ : Str).cps.getD 0 0 : Nat)) = (sgn x).map .int := by
  unfold sgn
  rw [List.map_map]
  rfl
theorem sgn_len (x : Str) : (sgn x).length = x.length := by
  unfold sgn
  rw [List.length_map, len_tl]
theorem flats_mem {ds : List D} (h : flats ds = true) {d : D} (hd : d ∈ ds) : flat d = true := by
  rw [flats_all] at h
  exact List.all_eq_true.mp h d hd
theorem depth_mem : ∀ {ds : List PyData} {d : PyData}, d ∈ ds → d.depth ≤ PyData.depthAll ds
  | e :: ds, d, h => by
    rw [PyData.depthAll]
    rcases List.mem_cons.mp h with q | q
    · rw [q]; exact Nat.le_max_left _ _
    · exact Nat.le_trans (depth_mem q) (Nat.le_max_right _ _)
theorem rcdL_take : ∀ {ds : List PyData} {i : Nat}, (rcdL (ds.take i)).length ≤ (rcdL ds).length
  | [], i => by simp
  | d :: ds, 0 => by simp [rcdL]
  | d :: ds, i + 1 => by
    rw [List.take_succ_cons, rcdL, rcdL, List.length_append, List.length_append]
    have := rcdL_take (ds := ds) (i := i)
    omega
theorem dvps_take (ds : List D) (i : Nat) : dvps (ds.take i) = (dvps ds).take i := by rw [dvps_map, dvps_map, List.map_take]
theorem dvps_snoc (a : List D) (v : D) : dvps (a ++ [v]) = dvps a ++ [dvp v] := by
  rw [dvps_map, dvps_map, List.map_append]
  rfl
theorem rcd_mem : ∀ {ds : List PyData} {d : PyData}, d ∈ ds → (rcd d).length ≤ (rcdL ds).length
  | e :: ds, d, h => by
    rw [rcdL, List.length_append]
    rcases List.mem_cons.mp h with q | q
    · rw [q]; omega
    · have := rcd_mem q
      omega
set_option maxHeartbeats 1000000 in
theorem pack_w : ∀ {n : Nat} {d : D} {S : Sto} {Q : QA} {X : XA}, flat d = true → (dvp d).depth < n → (rcd (dvp d)).length ≤ 1000000 → (∀ S' k, Upto [] S S' → S.length ≤ k → S'[k]? = some (.lst ((rcd (dvp d)).map .int)) → Q (.ref k) S') → wF (W_pack n [d] S) Q X
  | 0, d, S, Q, X, _, h, _, _ => absurd h (Nat.not_lt_zero _)
  | n + 1, d, S, Q, X, hf, hd, hl, f => by
    rw [W_pack]
    walk_at "w0"
    cases d with
    | non =>
      refine w_seq ?_
      walk_at "w"
      refine if_yes rfl ?_
      walk_at "w"
      exact f _ _ (Upto.refl _ _).app (Nat.le_refl _) app_new
    | bl b =>
      refine w_seq ?_
      walk_at "w"
      refine if_no rfl ?_
      refine w_next ?_
      refine w_seq ?_
      walk_at "w"
      refine o_isi (nm := "bool") (k := true) rfl (by decide +kernel) ?_
      walk_at "w"
      cases b with
      | true =>
        walk_at "w"
        exact f _ _ (Upto.refl _ _).app (Nat.le_refl _) app_new
      | false =>
        walk_at "w"
        exact f _ _ (Upto.refl _ _).app (Nat.le_refl _) app_new
    | int i =>
      refine w_seq ?_
      walk_at "w"
      refine if_no rfl ?_
      refine w_next ?_
      refine w_seq ?_
      walk_at "w"
      refine o_isi (nm := "int") (k := false) rfl (by decide +kernel) ?_
      walk_at "w"
      refine w_seq ?_
      walk_at "w"
      refine o_isi (nm := "int") (k := true) rfl (by decide +kernel) ?_
      walk_at "w"
      exact pint_w hl f
    | str x =>
      have er : rcd (dvp (.str x)) = 5 :: (cnt x.length ++ sgn x) := by rw [dvp, rcd]
      rw [er] at f hl
      rw [List.length_cons, List.length_append, sgn_len] at hl
      refine w_seq ?_
      walk_at "w"
      refine if_no rfl ?_
      refine w_next ?_
      refine w_seq ?_
      walk_at "w"
      refine o_isi (nm := "str") (k := false) rfl (by decide +kernel) ?_
      walk_at "w"
      refine w_seq ?_
      walk_at "w"
      refine o_isi (nm := "str") (k := false) rfl (by decide +kernel) ?_
      walk_at "w"
      refine w_seq ?_
      walk_at "w"
      refine o_isi (nm := "str") (k := true) rfl (by decide +kernel) ?_
      walk_at "w"
      have e0 : (S ++ [O.lst [.int 5]])[S.length]? = some (.lst [.int 5]) := app_new
      have u0 : Upto [] S (S ++ [O.lst [.int 5]]) := (Upto.refl _ _).app
      generalize S ++ [O.lst [.int 5]] = S0 at *
      refine o_lenS (line_of (by omega)) ?_
      walk_at "w"
      refine pcount_w (n := x.length) (by omega) fun S1 k u1 l1 e1 => ?_
      refine o_cat (u1.get0 e0) e1 (line_of (by rw [List.length_map]; show 1 + _ ≤ _; omega)) ?_
      have u2 : Upto [] S (S1 ++ [O.lst ([D.int 5] ++ (cnt x.length).map .int)]) := (u0.trans u1).app
      have e2 : (S1 ++ [O.lst ([D.int 5] ++ (cnt x.length).map .int)])[S1.length]? = some (O.lst ([D.int 5] ++ (cnt x.length).map .int)) := app_new
      generalize S1 ++ [O.lst ([D.int 5] ++ (cnt x.length).map .int)] = S2 at *
      refine c_list (fun c => .str ⟨#[c]⟩) (tl x) (fun _ => true) (fun c => D.int ((⟨#[c]⟩ : Str).cps.getD 0 0 : Nat)) ?_
      walk_at "w"
      refine ⟨rfl, by rw [← len_tl]; omega, fun _ => ⟨trivial, trivial⟩, fun y hy acc => ⟨_, rfl, ?_, fun _ => ?_⟩, ?_⟩
      · simp only [wipeA, List.foldl, List.set]
        walk_at "w"
        exact ⟨rfl, rfl⟩
      · simp only [wipeA, List.foldl, List.set]
        walk_at "w"
        exact o_ord (one_len y) ⟨rfl, rfl⟩
      · rw [List.filter_eq_self.mpr (fun _ _ => rfl), sgn_tl]
        refine o_cat (app_old e2) app_new (line_of (by rw [List.length_append, List.length_map, List.length_map, sgn_len]; show 1 + _ + _ ≤ _; omega)) ?_
        have := u2.len
        refine f _ _ ((u2.app).app) (by rw [List.length_append]; omega) ?_
        refine app_new.trans ?_
        rw [List.map_cons, List.map_append]
        rfl
    | tup ds =>
      have er : rcd (dvp (.tup ds)) = 6 :: (cnt ds.length ++ rcdL (dvps ds)) := by
        rw [dvp, rcd, dvps_map, List.length_map]
      rw [er] at f hl
      rw [List.length_cons, List.length_append] at hl
      have hf' : flats ds = true := hf
      have hd' : PyData.depthAll (dvps ds) < n := by
        rw [dvp, PyData.depth] at hd
        omega
      refine w_seq ?_
      walk_at "w"
      refine if_no rfl ?_
      refine w_next ?_
      refine w_seq ?_
      walk_at "w"
      refine o_isi (nm := "tuple") (k := false) rfl (by decide +kernel) ?_
      walk_at "w"
      refine w_seq ?_
      walk_at "w"
      refine o_isi (nm := "tuple") (k := false) rfl (by decide +kernel) ?_
      walk_at "w"
      refine w_seq ?_
      walk_at "w"
      refine o_isi (nm := "tuple") (k := false) rfl (by decide +kernel) ?_
      walk_at "w"
      have e0 : (S ++ [O.lst [.int 6]])[S.length]? = some (.lst [.int 6]) := app_new
      have u0 : Upto [] S (S ++ [O.lst [.int 6]]) := (Upto.refl _ _).app
      generalize S ++ [O.lst [.int 6]] = S0 at *
      refine o_lenQ rfl ?_
      walk_at "w"
      refine pcount_w (n := ds.length) (by omega) fun S1 k u1 l1 e1 => ?_
      refine o_cat (u1.get0 e0) e1 (line_of (by rw [List.length_map]; show 1 + _ ≤ _; omega)) ?_
      walk_at "w"
      have u2 : Upto [] S (S1 ++ [O.lst ([D.int 6] ++ (cnt ds.length).map .int)]) := (u0.trans u1).app
      have e2 : (S1 ++ [O.lst ([D.int 6] ++ (cnt ds.length).map .int)])[S1.length]? = some (O.lst ((6 :: (cnt ds.length ++ rcdL (dvps (ds.take 0)))).map .int)) := by
        refine app_new.trans ?_
        rw [List.take_zero, dvps, rcdL, List.append_nil]
        rfl
      have l2 : S.length ≤ S1.length := (u0.trans u1).len
      generalize S1 ++ [O.lst ([D.int 6] ++ (cnt ds.length).map .int)] = S2 at *
      generalize S1.length = kk at *
      refine w_cut (fun σ1 S3 => ∃ x2, σ1 = [some (.tup ds), some (.ref kk), x2, none] ∧ Upto [] S S3 ∧ S3[kk]? = some (O.lst ((6 :: (cnt ds.length ++ rcdL (dvps ds))).map .int))) ?_ fun σ1 S3 ⟨x2, e3, u3, g3⟩ => ?_
      · walk_at "w"
        refine ⟨trivial, w_loop (k := 0) (P := fun i σ1 S3 => ∃ x2, σ1 = [some (.tup ds), some (.ref kk), x2, none] ∧ Upto [] S S3 ∧ S3[kk]? = some (O.lst ((6 :: (cnt ds.length ++ rcdL (dvps (ds.take i)))).map .int))) ⟨none, rfl, u2, e2⟩ (fun i v σ S3 hi hP => ?_) fun σ S3 hP => ?_⟩
        · obtain ⟨x2, rfl, u3, g3⟩ := hP
          rw [Nat.zero_add] at g3 ⊢
          have hm := List.mem_of_getElem? hi
          have lt := rcdL_take (ds := dvps ds) (i := i)
          have mv : dvp v ∈ dvps ds := by rw [dvps_map]; exact List.mem_map.mpr ⟨v, hm, rfl⟩
          have lv := rcd_mem mv
          walk_at "w"
          refine ⟨_, listAt_ref g3, ?_⟩
          walk_at "w"
          refine pack_w (n := n) (flats_mem hf' hm) (Nat.lt_of_le_of_lt (depth_mem mv) hd') (by omega) fun S4 j u4 l4 e4 => ?_
          walk_at "w"
          refine o_extend (u4.get0 g3) e4 (line_of (by rw [List.length_map, List.length_map, List.length_cons, List.length_append, dvps_take]; omega)) ?_
          refine ⟨trivial, _, rfl, (u3.trans u4).set (.inr l2), ?_⟩
          rw [set_at (u4.get0 g3), ← List.map_append]
          congr 3
          have et : ds.take (i + 1) = ds.take i ++ [v] := by rw [List.take_add_one, hi]; rfl
          rw [et, dvps_snoc, rcdL_snoc, List.cons_append, List.append_assoc]
        · obtain ⟨x2, rfl, u3, g3⟩ := hP
          rw [Nat.zero_add, List.take_length] at g3
          exact ⟨x2, rfl, u3, g3⟩
      · subst e3
        walk_at "w"
        exact f _ _ u3 l2 g3
    | _ => cases hf
end
/-- where the classes stand -/
structure CD where
  Disk : Addr
  PowerCut : Addr
  Journal : Addr
  rd : Fn
noncomputable def W_content_after (c : CD) : Fn := fn0 2 4
    (cSeq (cSet 2 (eN (f1 dListOf) (aCons (eV 0) aNil)))
    (cSeq (cFor (eBind (eV 1) sList) (tgName 3) (cIf (eT (e2 dEq (eV 3) (eC (.int (-1))))) (cDrop (eBM dClear (eV 2) aNil)) (cDrop (eBM dAppend (eV 2) (aCons (eV 3) aNil)))))
    (cRet (eV 2))))
noncomputable def W_Disk_init (c : CD) : Fn := fn0 1 1
    (cSeq (cFld c.Disk 0 (eV 0) (eLst (aCons (eLst aNil) (aCons (eLst aNil) aNil))))
    (cSeq (cFld c.Disk 1 (eV 0) (eLst (aCons (eLst aNil) (aCons (eLst aNil) aNil))))
    (cFld c.Disk 2 (eV 0) (eC .non))))
noncomputable def W_Disk_spend (c : CD) : Fn := fn0 2 3
    (cSeq (cIf (eT (e2 dIsN (e1 (dFld c.Disk 2) (eV 0)) (eC .non))) (cRet (eV 1)) cNext)
    (cSeq (cSet 2 (eN (f2 dMax2) (aCons (eC (.int 0)) (aCons (eN (f2 dMin2) (aCons (eV 1) (aCons (e1 (dFld c.Disk 2) (eV 0)) aNil))) aNil))))
    (cSeq (cFld c.Disk 2 (eV 0) (e2 dSub (e1 (dFld c.Disk 2) (eV 0)) (eV 2)))
    (cRet (eV 2)))))
noncomputable def W_Disk_make_durable (c : CD) : Fn := fn0 3 3
    (cSeq (cAsg (eCall (W_content_after c) (aCons (e2 dIxL (e1 (dFld c.Disk 0) (eV 0)) (eV 1)) (aCons (eSl dSlL (e2 dIxL (e1 (dFld c.Disk 1) (eV 0)) (eV 1)) mP0 (mP1 (eN (f2 dMax2) (aCons (eC (.int 0)) (aCons (eV 2) aNil))))) aNil))) (tgSub (e1 (dFld c.Disk 0) (eV 0)) (eV 1) dSetL))
    (cAsg (eLst aNil) (tgSub (e1 (dFld c.Disk 1) (eV 0)) (eV 1) dSetL)))
noncomputable def W_Disk_perform (c : CD) : Fn := fnX 3 4
    (cSeq (cSet 3 (eMeth c.Disk (W_Disk_spend c) (eV 0) (aCons (eN (f1 dLenQ) (aCons (eV 2) aNil)) aNil)))
    (cSeq (cDrop (eBM dExtend (e2 dIxL (e1 (dFld c.Disk 1) (eV 0)) (eV 1)) (aCons (eSl dSlL (eV 2) mP0 (mP1 (eV 3))) aNil)))
    (cIf (eT (e2 dLt (eV 3) (eN (f1 dLenQ) (aCons (eV 2) aNil)))) (cRaise c.PowerCut (eC (.str (Str.ofString "the power ended before all steps were performed")))) cNext)))
noncomputable def W_Disk_append (c : CD) : Fn := fnX 3 3
    (cDrop (eMeth c.Disk (W_Disk_perform c) (eV 0) (aCons (eV 1) (aCons (eV 2) aNil))))
noncomputable def W_Disk_clear (c : CD) : Fn := fnX 2 2
    (cDrop (eMeth c.Disk (W_Disk_perform c) (eV 0) (aCons (eV 1) (aCons (eLst (aCons (eC (.int (-1))) aNil)) aNil))))
noncomputable def W_Disk_sync (c : CD) : Fn := fnX 2 2
    (cSeq (cIf (eT (e2 dLt (eMeth c.Disk (W_Disk_spend c) (eV 0) (aCons (eC (.int 1)) aNil)) (eC (.int 1)))) (cRaise c.PowerCut (eC (.str (Str.ofString "the power ended before the file was synced")))) cNext)
    (cDrop (eMeth c.Disk (W_Disk_make_durable c) (eV 0) (aCons (eV 1) (aCons (eN (f1 dLenQ) (aCons (e2 dIxL (e1 (dFld c.Disk 1) (eV 0)) (eV 1)) aNil)) aNil)))))
noncomputable def W_Disk_content (c : CD) : Fn := fn0 2 2
    (cRet (eCall (W_content_after c) (aCons (e2 dIxL (e1 (dFld c.Disk 0) (eV 0)) (eV 1)) (aCons (e2 dIxL (e1 (dFld c.Disk 1) (eV 0)) (eV 1)) aNil))))
structure Dq where
  f : Nat → List Int
  p : Nat → List Int
  w : Option Int
def oiD : Option Int → D
  | none => .non
  | some i => .int i
def up1 {α : Type} (g : Nat → α) (k : Nat) (x : α) : Nat → α := fun j => if j = k then x else g j
theorem up1_at {α : Type} {g : Nat → α} {k : Nat} {x : α} : up1 g k x k = x := if_pos rfl
theorem up1_ne {α : Type} {g : Nat → α} {k j : Nat} {x : α} (h : j ≠ k) : up1 g k x j = g j := if_neg h
/-- a content after these steps -/
def aftI (c steps : List Int) : List Int := steps.foldl (fun a s => if s = -1 then [] else a ++ [s]) c
theorem aftI_snoc (c l : List Int) (s : Int) : aftI c (l ++ [s]) = if s = -1 then [] else aftI c l ++ [s] := by
  unfold aftI
  rw [List.foldl_append]
  rfl
theorem aftI_len : ∀ (l c : List Int), (aftI c l).length ≤ c.length + l.length
  | [], c => Nat.le_refl _
  | s :: l, c => by
    show (aftI (if s = -1 then [] else c ++ [s]) l).length ≤ _
    have := aftI_len l (if s = -1 then [] else c ++ [s])
    rw [List.length_cons]
    split at this
    · simp only [List.length_nil] at this
      split <;> omega
    · rename_i h
      rw [if_neg h]
      rw [List.length_append] at this
      simp only [List.length_cons, List.length_nil] at this
      omega
structure DkA (C : Addr) (S : Sto) (W : Nat → Prop) (d : Nat) (v : Dq) (du sp : Nat) (a b : Nat → Nat) : Prop where
  ob : S[d]? = some (.obj C [.ref du, .ref sp, oiD v.w])
  hu : S[du]? = some (.lst [.ref (a 0), .ref (a 1)])
  hp : S[sp]? = some (.lst [.ref (b 0), .ref (b 1)])
  fa : ∀ k, k < 2 → S[a k]? = some (.lst ((v.f k).map .int))
  pb : ∀ k, k < 2 → S[b k]? = some (.lst ((v.p k).map .int))
  n1 : du ≠ sp
  n2 : ∀ k, k < 2 → a k ≠ du ∧ a k ≠ sp ∧ b k ≠ du ∧ b k ≠ sp
  n3 : ∀ j k, j < 2 → k < 2 → a j ≠ b k
  n4 : ∀ j k, j < 2 → k < 2 → j ≠ k → a j ≠ a k ∧ b j ≠ b k
  wd : W d
  wu : W du
  wp : W sp
  wa : ∀ k, k < 2 → W (a k)
  wb : ∀ k, k < 2 → W (b k)
def DkP (C : Addr) (S : Sto) (W : Nat → Prop) (d : Nat) (v : Dq) : Prop := ∃ du sp a b, DkA C S W d v du sp a b
section
variable {c : CD} {S S' : Sto} {Q : QA} {X : XA} {W W' : Nat → Prop} {d k : Nat} {v : Dq} {du sp : Nat} {a b : Nat → Nat}
theorem DkA.keep {C : Addr} (h : DkA C S W d v du sp a b) (g : ∀ n, W n → ∀ o, S[n]? = some o → S'[n]? = some o) : DkA C S' W d v du sp a b :=
  { h with ob := g _ h.wd _ h.ob, hu := g _ h.wu _ h.hu, hp := g _ h.wp _ h.hp, fa := fun k hk => g _ (h.wa k hk) _ (h.fa k hk), pb := fun k hk => g _ (h.wb k hk) _ (h.pb k hk) }
theorem DkA.wide {C : Addr} (h : DkA C S W d v du sp a b) (g : ∀ n, W n → n < S.length → W' n) : DkA C S W' d v du sp a b :=
  { h with wd := g _ h.wd (app_lt h.ob), wu := g _ h.wu (app_lt h.hu), wp := g _ h.wp (app_lt h.hp), wa := fun k hk => g _ (h.wa k hk) (app_lt (h.fa k hk)), wb := fun k hk => g _ (h.wb k hk) (app_lt (h.pb k hk)) }
theorem DkA.up {C : Addr} (h : DkA C S W d v du sp a b) (u : Upto [] S S') : DkA C S' W d v du sp a b := h.keep fun _ _ _ e => u.get0 e
theorem DkP.keep {C : Addr} (h : DkP C S W d v) (g : ∀ n, W n → ∀ o, S[n]? = some o → S'[n]? = some o) : DkP C S' W d v := let ⟨du, sp, a, b, h⟩ := h; ⟨du, sp, a, b, h.keep g⟩
theorem DkP.wide {C : Addr} (h : DkP C S W d v) (g : ∀ n, W n → n < S.length → W' n) : DkP C S W' d v := let ⟨du, sp, a, b, h⟩ := h; ⟨du, sp, a, b, h.wide g⟩
theorem DkP.up {C : Addr} (h : DkP C S W d v) (u : Upto [] S S') : DkP C S' W d v := h.keep fun _ _ _ e => u.get0 e
theorem at2 {g : Nat → D} (hk : k < 2) : atI [g 0, g 1] ((k : Nat) : Int) = some (g k) := by
  obtain rfl | rfl : k = 0 ∨ k = 1 := by omega
  · exact atI_0 _ _
  · exact atI_1 _ _ _
theorem o_ix2 {n : Nat} {g : Nat → D} (hk : k < 2) (e : S[n]? = some (.lst [g 0, g 1])) (q : Q (g k) S) : wO (dIxL (.ref n) (.int (k : Nat)) S) Q := o_ixL e (at2 hk) q
theorem s_set2 {n m : Nat} {g : Nat → Nat} {P : Sto → Prop} (hk : k < 2) (e : S[n]? = some (.lst [.ref (g 0), .ref (g 1)])) (q : P (S.set n (.lst [.ref (up1 g k m 0), .ref (up1 g k m 1)]))) : ∃ S3, dSetL (.ref n) (.int (k : Nat)) (.ref m) S = some S3 ∧ P S3 := by
  refine ⟨_, ?_, q⟩
  rw [dSetL_ref e]
  obtain rfl | rfl : k = 0 ∨ k = 1 := by omega
  · rfl
  · rfl
theorem o_clear {n : Nat} {ds : List D} (e : S[n]? = some (.lst ds)) (h : Q .non (S.set n (.lst []))) : wO (dClear (.ref n) [] S) Q := by
  show wO ((listAt S (.ref n)).map _) Q
  rw [listAt_ref e]
  exact h
theorem o_max2 {i j : Int} (h : Q (.int (if j > i then j else i)) S) : wO (dMax2 (.int i) (.int j) S) Q := h
theorem o_min2' {i j : Int} (h : Q (.int (if j < i then j else i)) S) : wO (dMin2 (.int i) (.int j) S) Q := h
theorem o_slLs {n : Nat} {ds : List D} {lo hi : Option Int} (e : S[n]? = some (.lst ds)) (h : Q (.ref S.length) (S ++ [.lst (cutD ds lo hi)])) : wO (dSlL (.ref n) lo hi S) Q := by
  unfold dSlL
  rw [listAt_ref e]
  exact h
theorem cut_take {ds : List D} {n : Nat} : cutD ds none (some ((n : Nat) : Int)) = ds.take n := by
  unfold cutD
  rw [HT.sIx_none, HT.sIx_nat, List.drop_zero, Nat.sub_zero]
  rw [List.take_eq_take_iff]
  omega
theorem content_after_w {x y : Nat} {cs st : List Int} (e1 : S[x]? = some (.lst (cs.map .int))) (e2 : S[y]? = some (.lst (st.map .int))) (hl : cs.length + st.length ≤ 9000000) (f : ∀ S' k, Upto [] S S' → S.length ≤ k → S'[k]? = some (.lst ((aftI cs st).map .int)) → Q (.ref k) S') : wF (W_content_after c [.ref x, .ref y] S) Q X := by
  refine Dw.Qt.un ?_
  simp (disch := (with_unfolding_all
    (unfold W_content_after
     walk_at "w0"
     walk_at "w"
     refine o_listOf (seqOf_ref e1) ?_
     have u0 : Upto [] S (S ++ [O.lst (cs.map .int)]) := (Upto.refl _ _).app
     have e0 : (S ++ [O.lst (cs.map .int)])[S.length]? = some (.lst (cs.map .int)) := app_new
     generalize S ++ [O.lst (cs.map .int)] = S0 at *
     walk_at "w"
     have ly := app_lt e2
     refine w_cut (fun σ1 S1 => ∃ x3, σ1 = [some (.ref x), some (.ref y), some (.ref S.length), x3] ∧ Upto [] S S1 ∧ S1[S.length]? = some (.lst ((aftI cs st).map .int))) ?_ fun σ1 S1 ⟨x3, e3, u1, g1⟩ => ?_
     · walk_at "w"
       refine i_list (u0.get0 e2) ?_
       refine ⟨u0.get0 e2, w_loop (k := 0) (P := fun i σ1 S1 => ∃ x3, σ1 = [some (.ref x), some (.ref y), some (.ref S.length), x3] ∧ Upto [] S S1 ∧ S1[S.length]? = some (.lst ((aftI cs (st.take i)).map .int))) ⟨none, rfl, u0, e0⟩ (fun i d σ S1 hi hP => ?_) fun σ S1 hP => ?_⟩
       · obtain ⟨x3, rfl, u1, g1⟩ := hP
         rw [Nat.zero_add] at g1 ⊢
         rw [List.getElem?_map] at hi
         cases hs : st[i]? with
         | none => rw [hs] at hi; cases hi
         | some s =>
           rw [hs] at hi
           cases hi
           have et : st.take (i + 1) = st.take i ++ [s] := by rw [List.take_add_one, hs]; rfl
           have la := aftI_len (st.take i) cs
           have lt : (st.take i).length ≤ st.length := by rw [List.length_take]; omega
           rw [et, aftI_snoc]
           walk_at "w"
           refine o_dec (fun h => ?_) fun h => ?_
           · rw [if_pos h]
             walk_at "w"
             refine ⟨_, listAt_ref g1, ?_⟩
             walk_at "w"
             refine o_clear g1 ?_
             have u2 : Upto [] S (S1.set S.length (.lst [])) := u1.set (.inr (Nat.le_refl _))
             exact ⟨u2.get0 e2, _, rfl, u2, set_at g1⟩
           · rw [if_neg h]
             walk_at "w"
             refine ⟨_, listAt_ref g1, ?_⟩
             walk_at "w"
             refine o_append g1 (lt_line (by rw [List.length_map]; omega)) ?_
             have u2 : Upto [] S (S1.set S.length (.lst ((aftI cs (st.take i)).map .int ++ [.int s]))) := u1.set (.inr (Nat.le_refl _))
             refine ⟨u2.get0 e2, _, rfl, u2, ?_⟩
             rw [set_at g1, List.map_append]
             rfl
       · obtain ⟨x3, rfl, u1, g1⟩ := hP
         rw [List.length_map, Nat.zero_add, List.take_length] at g1
         exact ⟨x3, rfl, u1, g1⟩
     · subst e3
       walk_at "w"
       exact f S1 S.length u1 (Nat.le_refl _) g1))) only [↓Dw.Qt.tt]
/-- power spent -/
def spn (w : Option Int) (n : Int) : Int × Option Int := match w with
  | none => (n, none)
  | some p => let l := if (if p < n then p else n) > 0 then (if p < n then p else n) else 0; (l, some (p - l))
theorem spn_le {w : Option Int} {n : Int} (h : 0 ≤ n) : 0 ≤ (spn w n).1 ∧ (spn w n).1 ≤ n := by
  cases w with
  | none => exact ⟨h, Int.le_refl _⟩
  | some p =>
    unfold spn
    simp only
    split <;> split <;> omega
theorem spend_w {n : Int} (h : DkA c.Disk S W d v du sp a b) (f : ∀ S', DkA c.Disk S' W d { v with w := (spn v.w n).2 } du sp a b → Upto [d] S S' → Q (.int (spn v.w n).1) S') : wF (W_Disk_spend c [.ref d, .int n] S) Q X := by
  refine Dw.Qt.un ?_
  simp (disch := (with_unfolding_all
    (unfold W_Disk_spend
     have n1 : ∀ {m : Nat} {l : List D}, S[m]? = some (.lst l) → d ≠ m := fun e => at_ne h.ob e nofun
     walk_at "w0"
     refine w_seq ?_
     walk_at "w"
     refine o_fld h.ob (z := 2) rfl ?_
     walk_at "w"
     cases hw : v.w with
     | none =>
       rw [hw] at f
       refine if_yes rfl ?_
       walk_at "w"
       exact f S { h with ob := by rw [h.ob, hw]; rfl } (Upto.refl _ _)
     | some p =>
       rw [hw] at f
       have ob := h.ob
       rw [hw] at ob
       refine if_no rfl ?_
       walk_at "w"
       refine o_fld ob (z := 2) rfl ?_
       walk_at "w"
       refine o_min2' ?_
       walk_at "w"
       refine o_max2 ?_
       walk_at "w"
       refine o_fld ob (z := 2) rfl ?_
       walk_at "w"
       refine ⟨_, dFldSet_ref ob (show 2 < 3 by decide), ?_⟩
       walk_at "w"
       refine f _ ⟨set_at ob, (set_off (n1 h.hu)).trans h.hu, (set_off (n1 h.hp)).trans h.hp, fun k hk => (set_off (n1 (h.fa k hk))).trans (h.fa k hk), fun k hk => (set_off (n1 (h.pb k hk))).trans (h.pb k hk), h.n1, h.n2, h.n3, h.n4, h.wd, h.wu, h.wp, h.wa, h.wb⟩ ((Upto.refl _ _).set (.inl (List.mem_singleton.mpr rfl)))))) only [↓Dw.Qt.tt]
end
/-- for how many of so many steps the power lasts -/
def Dq.last (v : Dq) (n : Nat) : Nat := (spn v.w n).1.toNat
theorem Dq.last_eq (v : Dq) (n : Nat) : (spn v.w n).1 = ((v.last n : Nat) : Int) := (Int.toNat_of_nonneg (spn_le (by omega)).1).symm
theorem Dq.last_le (v : Dq) (n : Nat) : v.last n ≤ n := by
  have := (spn_le (w := v.w) (n := (n : Int)) (by omega)).2
  rw [v.last_eq] at this
  omega
def Dq.spend (v : Dq) (n : Nat) : Dq := { v with w := (spn v.w n).2 }
/-- these steps performed, as far as the power lasts -/
def Dq.add (v : Dq) (k : Nat) (ls : List Int) : Dq := { v.spend ls.length with p := up1 v.p k (v.p k ++ ls.take (v.last ls.length)) }
def Dq.hard (v : Dq) (k m : Nat) : Dq := { v with f := up1 v.f k (aftI (v.f k) ((v.p k).take m)), p := up1 v.p k [] }
def Dq.sync (v : Dq) (k : Nat) : Dq := if v.last 1 < 1 then v.spend 1 else (v.spend 1).hard k (v.p k).length
def dq0 : Dq := ⟨fun _ => [], fun _ => [], none⟩
section
variable {c : CD} {S S' : Sto} {Q : QA} {X : XA} {W W' : Nat → Prop} {d k : Nat} {v : Dq} {du sp : Nat} {a b : Nat → Nat}
theorem DkA.add {C : Addr} (h : DkA C S W d v du sp a b) (hk : k < 2) {ls : List Int} (u : Upto [b k] S S') (e : S'[b k]? = some (.lst ((v.p k ++ ls).map .int))) : DkA C S' W d { v with p := up1 v.p k (v.p k ++ ls) } du sp a b := by
  refine Dw.Qt.un ?_
  simp (disch := (with_unfolding_all
    (have n2 := h.n2 k hk
     refine ⟨u.get (by simpa using at_ne h.ob (h.pb k hk) nofun) h.ob, u.get (by simpa using fun z => n2.2.2.1 z.symm) h.hu, u.get (by simpa using fun z => n2.2.2.2 z.symm) h.hp, fun j hj => u.get (by simpa using h.n3 j k hj hk) (h.fa j hj), fun j hj => ?_, h.n1, h.n2, h.n3, h.n4, h.wd, h.wu, h.wp, h.wa, h.wb⟩
     show _ = some (O.lst ((up1 v.p k (v.p k ++ ls) j).map .int))
     by_cases ej : j = k
     · subst ej
       rw [up1_at]
       exact e
     · rw [up1_ne ej]
       exact u.get (by simpa using (h.n4 j k hj hk ej).2) (h.pb j hj)))) only [↓Dw.Qt.tt]
theorem perform_w {y : Nat} {ls : List Int} (h : DkP c.Disk S W d v) (hk : k < 2) (e : S[y]? = some (.lst (ls.map .int))) (hy : ¬ W y) (hl : (v.p k).length + ls.length ≤ 9000000) (f : ∀ S', DkP c.Disk S' W d (v.add k ls) → Fr (Gr W S) S S' → (v.last ls.length < ls.length → X c.PowerCut S') ∧ (¬ v.last ls.length < ls.length → Q .non S')) : wF (W_Disk_perform c [.ref d, .int (k : Nat), .ref y] S) Q X := by
  refine Dw.Qt.un ?_
  simp (disch := (with_unfolding_all
    (obtain ⟨du, sp, a, b, h⟩ := h
     unfold W_Disk_perform
     have ld : d < S.length := app_lt h.ob
     walk_at "wX"
     walk_at "w"
     refine w_obj h.ob ?_
     walk_at "w"
     refine o_lenQ (seqOf_ref e) ?_
     walk_at "w"
     rw [List.length_map]
     refine spend_w h fun S1 h1 u1 => ?_
     have ey : y ≠ d := fun z => hy (z ▸ h.wd)
     have e1 := u1.get (by simpa using ey) e
     rw [v.last_eq]
     walk_at "w"
     refine o_fld h1.ob (z := 1) rfl ?_
     walk_at "w"
     refine o_ix2 (g := fun k => .ref (b k)) hk h1.hp ?_
     walk_at "w"
     refine ⟨_, listAt_ref (h1.pb k hk), ?_⟩
     walk_at "w"
     refine ⟨_, rfl, ?_⟩
     refine o_slLs e1 ?_
     rw [cut_take, ← List.map_take]
     have e2 := app_old (o := O.lst ((ls.take (v.last ls.length)).map .int)) e1
     have e3 : (S1 ++ [O.lst ((ls.take (v.last ls.length)).map .int)])[S1.length]? = some (.lst ((ls.take (v.last ls.length)).map .int)) := app_new
     have u2 : Upto [d] S (S1 ++ [O.lst ((ls.take (v.last ls.length)).map .int)]) := u1.app
     have h2 := h1.up (S' := S1 ++ [O.lst ((ls.take (v.last ls.length)).map .int)]) (Upto.refl _ _).app
     have l1 := u1.len
     generalize S1 ++ [O.lst ((ls.take (v.last ls.length)).map .int)] = S2 at *
     walk_at "w"
     refine o_extend (h2.pb k hk) e3 (line_of (by rw [List.length_map, List.length_map, List.length_take]; show (v.p k).length + _ ≤ _; omega)) ?_
     rw [← List.map_append]
     have h3 : DkA c.Disk (S2.set (b k) (.lst ((v.p k ++ ls.take (v.last ls.length)).map .int))) W d (v.add k ls) du sp a b := h2.add hk ((Upto.refl _ _).set (.inl (by simp))) (set_at (h2.pb k hk))
     have f3 : Fr (Gr W S) S (S2.set (b k) (.lst ((v.p k ++ ls.take (v.last ls.length)).map .int))) := ((Fr.refl _ _).upto u2 (fun n hn => by rw [List.mem_singleton.mp hn]; exact .inl h.wd) fun n hn => .inr hn).set (.inl (h.wb k hk))
     have e4 : (S2.set (b k) (.lst ((v.p k ++ ls.take (v.last ls.length)).map .int)))[y]? = some (.lst (ls.map .int)) := (set_off (fun (z : b k = y) => hy (z ▸ h.wb k hk))).trans e2
     obtain ⟨q1, q2⟩ := f _ ⟨du, sp, a, b, h3⟩ f3
     walk_at "w"
     refine o_lenQ (seqOf_ref e4) ?_
     rw [List.length_map]
     walk_at "w"
     refine o_dec (fun hc => ?_) fun hc => ?_
     · walk_at "w"
       exact q1 (by omega)
     · walk_at "w"
       exact q2 (by omega)))) only [↓Dw.Qt.tt]
theorem append_w {y : Nat} {ls : List Int} (h : DkP c.Disk S W d v) (hk : k < 2) (e : S[y]? = some (.lst (ls.map .int))) (hy : ¬ W y) (hl : (v.p k).length + ls.length ≤ 9000000) (f : ∀ S', DkP c.Disk S' W d (v.add k ls) → Fr (Gr W S) S S' → (v.last ls.length < ls.length → X c.PowerCut S') ∧ (¬ v.last ls.length < ls.length → Q .non S')) : wF (W_Disk_append c [.ref d, .int (k : Nat), .ref y] S) Q X := by
  unfold W_Disk_append
  obtain ⟨du, sp, a, b, h0⟩ := id h
  walk_at "wX"
  walk_at "w"
  refine w_obj h0.ob ?_
  walk_at "w"
  refine perform_w h hk e hy hl fun S' h' f' => ⟨(f S' h' f').1, fun hc => ?_⟩
  walk_at "w"
  exact (f S' h' f').2 hc
theorem clear_w (h : DkP c.Disk S W d v) (hk : k < 2) (hW : ∀ n, W n → n < S.length) (hl : (v.p k).length ≤ 8000000) (f : ∀ S', DkP c.Disk S' W d (v.add k [-1]) → Fr (Gr W S) S S' → (v.last 1 < 1 → X c.PowerCut S') ∧ (¬ v.last 1 < 1 → Q .non S')) : wF (W_Disk_clear c [.ref d, .int (k : Nat)] S) Q X := by
  refine Dw.Qt.un ?_
  simp (disch := (with_unfolding_all
    (unfold W_Disk_clear
     obtain ⟨du, sp, a, b, h0⟩ := id h
     walk_at "wX"
     walk_at "w"
     refine w_obj h0.ob ?_
     walk_at "w"
     refine perform_w (ls := [-1]) (h.up (Upto.refl _ _).app) hk app_new (fun z => Nat.lt_irrefl _ (hW _ z)) (by show _ + 1 ≤ _; omega) fun S' h' f' => ?_
     have f2 : Fr (Gr W S) S S' := ((Fr.refl _ S).app (x := O.lst (([-1] : List Int).map .int)) (.inr (Nat.le_refl _))).trans (f'.mono fun n hn => hn.imp id fun z => by rw [List.length_append] at z; omega)
     refine ⟨(f S' h' f2).1, fun hc => ?_⟩
     walk_at "w"
     exact (f S' h' f2).2 hc))) only [↓Dw.Qt.tt]
theorem durable_w {m : Int} (h : DkP c.Disk S W d v) (hk : k < 2) (hW : ∀ n, W n → n < S.length) (hl : (v.f k).length + (v.p k).length ≤ 9000000) (f : ∀ S' W', DkP c.Disk S' W' d (v.hard k (if m > 0 then m else 0).toNat) → Fr (Gr W S) S S' → (∀ n, W' n → n < S'.length ∧ Gr W S n) → Q .non S') : wF (W_Disk_make_durable c [.ref d, .int (k : Nat), .int m] S) Q X := by
  refine Dw.Qt.un ?_
  simp (disch := (with_unfolding_all
    (unfold W_Disk_make_durable
     obtain ⟨du, sp, a, b, h⟩ := h
     walk_at "w0"
     refine w_seq ?_
     walk_at "w"
     refine o_fld h.ob (z := 0) rfl ?_
     walk_at "w"
     refine o_ix2 (g := fun k => .ref (a k)) hk h.hu ?_
     walk_at "w"
     refine o_fld h.ob (z := 1) rfl ?_
     walk_at "w"
     refine o_ix2 (g := fun k => .ref (b k)) hk h.hp ?_
     walk_at "w"
     refine o_max2 ?_
     walk_at "w"
     refine ⟨_, rfl, ?_⟩
     refine o_slLs (h.pb k hk) ?_
     have em : (if m > 0 then m else 0) = (((if m > 0 then m else 0).toNat : Nat) : Int) := by split <;> omega
     generalize (if m > 0 then m else 0).toNat = j at *
     rw [em, cut_take, ← List.map_take]
     have e1 : (S ++ [O.lst (((v.p k).take j).map .int)])[S.length]? = some (.lst (((v.p k).take j).map .int)) := app_new
     have u1 : Upto [] S (S ++ [O.lst (((v.p k).take j).map .int)]) := (Upto.refl _ _).app
     generalize S ++ [O.lst (((v.p k).take j).map .int)] = S1 at *
     walk_at "w"
     refine content_after_w (cs := v.f k) (st := (v.p k).take j) (u1.get0 (h.fa k hk)) e1 (by rw [List.length_take]; omega) fun S2 n u2 l2 e2 => ?_
     have u := u1.trans u2
     have h2 := h.up u
     have l1 := u1.len
     have n0 : ∀ x, W x → x ≠ n := fun x hx z => by have := hW x hx; omega
     walk_at "w"
     refine o_fld h2.ob (z := 0) rfl ?_
     walk_at "w"
     refine s_set2 hk h2.hu ?_
     have hd : d ≠ du := at_ne h2.ob h2.hu nofun
     have v2 : Upto [du] S (S2.set du (.lst [.ref (up1 a k n 0), .ref (up1 a k n 1)])) := u.any.set (.inl (by simp))
     have du2 := set_at (o := O.lst [.ref (up1 a k n 0), .ref (up1 a k n 1)]) h2.hu
     have en : (S2.set du (.lst [.ref (up1 a k n 0), .ref (up1 a k n 1)]))[n]? = some (.lst ((aftI (v.f k) ((v.p k).take j)).map .int)) := (set_off (fun z => n0 du h.wu z)).trans e2
     have ob2 : (S2.set du (.lst [.ref (up1 a k n 0), .ref (up1 a k n 1)]))[d]? = some (.obj c.Disk [.ref du, .ref sp, oiD v.w]) := (set_off (fun z => hd z.symm)).trans h2.ob
     generalize S2.set du (.lst [.ref (up1 a k n 0), .ref (up1 a k n 1)]) = S3 at *
     walk_at "w"
     have l3 := app_lt en
     have e5 : (S3 ++ [O.lst []])[S3.length]? = some (.lst []) := app_new
     refine o_fld (app_old ob2) (z := 1) rfl ?_
     walk_at "w"
     have sp3 : (S3 ++ [O.lst []])[sp]? = some (.lst [.ref (b 0), .ref (b 1)]) := app_old (v2.get (by simpa using fun z => h.n1 z.symm) h.hp)
     refine s_set2 hk sp3 ?_
     have v4 : Upto [du, sp] S ((S3 ++ [O.lst []]).set sp (.lst [.ref (up1 b k S3.length 0), .ref (up1 b k S3.length 1)])) := ((v2.mono (o' := [du, sp]) fun n hn => .inl (by simp at hn ⊢; exact .inl hn)).app).set (.inl (by simp))
     have l4 : ((S3 ++ [O.lst []]).set sp (.lst [.ref (up1 b k S3.length 0), .ref (up1 b k S3.length 1)])).length = S3.length + 1 := by rw [List.length_set, List.length_append]; rfl
     have g5 : ((S3 ++ [O.lst []]).set sp (.lst [.ref (up1 b k S3.length 0), .ref (up1 b k S3.length 1)]))[S3.length]? = some (.lst []) := (set_off (fun z => by have := hW sp h.wp; have := v2.len; omega)).trans e5
     have gn : ((S3 ++ [O.lst []]).set sp (.lst [.ref (up1 b k S3.length 0), .ref (up1 b k S3.length 1)]))[n]? = some (.lst ((aftI (v.f k) ((v.p k).take j)).map .int)) := (set_off (fun z => n0 sp h.wp z)).trans (app_old en)
     have gu : ((S3 ++ [O.lst []]).set sp (.lst [.ref (up1 b k S3.length 0), .ref (up1 b k S3.length 1)]))[du]? = some (.lst [.ref (up1 a k n 0), .ref (up1 a k n 1)]) := (set_off (fun z => h.n1 z.symm)).trans (app_old du2)
     have gp := set_at (o := O.lst [.ref (up1 b k S3.length 0), .ref (up1 b k S3.length 1)]) sp3
     have gd : ((S3 ++ [O.lst []]).set sp (.lst [.ref (up1 b k S3.length 0), .ref (up1 b k S3.length 1)]))[d]? = some (.obj c.Disk [.ref du, .ref sp, oiD v.w]) := (set_off (at_ne h2.hp h2.ob nofun)).trans (app_old ob2)
     generalize (S3 ++ [O.lst []]).set sp (.lst [.ref (up1 b k S3.length 0), .ref (up1 b k S3.length 1)]) = S4 at *
     have ls3 := v2.len
     have f4 : Fr (Gr W S) S S4 := (Fr.refl _ _).upto v4 (fun x hx => by
       simp only [List.mem_cons, List.not_mem_nil, or_false] at hx
       rcases hx with rfl | rfl
       · exact .inl h.wu
       · exact .inl h.wp) fun n hn => .inr hn
     have old : ∀ x, W x → x ≠ du → x ≠ sp → ∀ o, S[x]? = some o → S4[x]? = some o := fun x hx h1 h2 o e => v4.get (by simp [h1, h2]) e
     refine f S4 (fun x => Gr W S x ∧ x < S4.length) ⟨du, sp, up1 a k n, up1 b k S3.length, ⟨gd, gu, gp, fun i hi => ?_, fun i hi => ?_, h.n1, fun i hi => ?_, fun i j2 hi hj => ?_, fun i j2 hi hj ne => ?_, ⟨.inl h.wd, app_lt gd⟩, ⟨.inl h.wu, app_lt gu⟩, ⟨.inl h.wp, app_lt gp⟩, fun i hi => ?_, fun i hi => ?_⟩⟩ f4 fun x hx => ⟨hx.2, hx.1⟩
     · show S4[up1 a k n i]? = some (O.lst ((up1 v.f k (aftI (v.f k) ((v.p k).take j)) i).map .int))
       by_cases ei : i = k
       · subst ei; rw [up1_at, up1_at]; exact gn
       · rw [up1_ne ei, up1_ne ei]
         exact old _ (h.wa i hi) (h.n2 i hi).1 (h.n2 i hi).2.1 _ (h.fa i hi)
     · show S4[up1 b k S3.length i]? = some (O.lst ((up1 v.p k [] i).map .int))
       by_cases ei : i = k
       · subst ei; rw [up1_at, up1_at]; exact g5
       · rw [up1_ne ei, up1_ne ei]
         exact old _ (h.wb i hi) (h.n2 i hi).2.2.1 (h.n2 i hi).2.2.2 _ (h.pb i hi)
     · have m2 := h.n2 i hi
       have w1 := hW du h.wu
       have w2 := hW sp h.wp
       by_cases ei : i = k
       · subst ei; rw [up1_at, up1_at]; exact ⟨by omega, by omega, by omega, by omega⟩
       · rw [up1_ne ei, up1_ne ei]; exact m2
     · have w1 := hW _ (h.wa i hi)
       have w2 := hW _ (h.wb j2 hj)
       by_cases ei : i = k
       · subst ei
         rw [up1_at]
         by_cases ej : j2 = i
         · subst ej; rw [up1_at]; omega
         · rw [up1_ne ej]; omega
       · rw [up1_ne ei]
         by_cases ej : j2 = k
         · subst ej; rw [up1_at]; omega
         · rw [up1_ne ej]; exact h.n3 i j2 hi hj
     · have w1 := hW _ (h.wa i hi)
       have w2 := hW _ (h.wb i hi)
       have w3 := hW _ (h.wa j2 hj)
       have w4 := hW _ (h.wb j2 hj)
       by_cases ei : i = k
       · subst ei
         rw [up1_at, up1_at, up1_ne (fun z => ne z.symm), up1_ne (fun z => ne z.symm)]
         exact ⟨by omega, by omega⟩
       · rw [up1_ne ei, up1_ne ei]
         by_cases ej : j2 = k
         · subst ej; rw [up1_at, up1_at]; exact ⟨by omega, by omega⟩
         · rw [up1_ne ej, up1_ne ej]; exact h.n4 i j2 hi hj ne
     · by_cases ei : i = k
       · subst ei; rw [up1_at]; exact ⟨.inr (by omega), app_lt gn⟩
       · rw [up1_ne ei]; exact ⟨.inl (h.wa i hi), by have := hW _ (h.wa i hi); omega⟩
     · by_cases ei : i = k
       · subst ei; rw [up1_at]; exact ⟨.inr (by omega), by omega⟩
       · rw [up1_ne ei]; exact ⟨.inl (h.wb i hi), by have := hW _ (h.wb i hi); omega⟩))) only [↓Dw.Qt.tt]
end
section
variable {c : CD} {S S' : Sto} {Q : QA} {X : XA} {W W' : Nat → Prop} {d k : Nat} {v : Dq} {du sp : Nat} {a b : Nat → Nat}
theorem dsync_w (h : DkP c.Disk S W d v) (hk : k < 2) (hW : ∀ n, W n → n < S.length) (hl : (v.f k).length + (v.p k).length ≤ 9000000) (f : ∀ S' W', DkP c.Disk S' W' d (v.sync k) → Fr (Gr W S) S S' → (∀ n, W' n → n < S'.length ∧ Gr W S n) → (v.last 1 < 1 → X c.PowerCut S') ∧ (¬ v.last 1 < 1 → Q .non S')) : wF (W_Disk_sync c [.ref d, .int (k : Nat)] S) Q X := by
  refine Dw.Qt.un ?_
  simp (disch := (with_unfolding_all
    (obtain ⟨du, sp, a, b, h⟩ := h
     unfold W_Disk_sync
     walk_at "wX"
     refine w_seq ?_
     walk_at "w"
     refine w_obj h.ob ?_
     walk_at "w"
     refine spend_w (n := ((1 : Nat) : Int)) h fun S1 h1 u1 => ?_
     rw [v.last_eq]
     have hd : Fr (Gr W S) S S1 := (Fr.refl _ _).upto u1 (fun n hn => by rw [List.mem_singleton.mp hn]; exact .inl h.wd) fun n hn => .inr hn
     have l1 := u1.len
     walk_at "w"
     refine o_dec (fun hc => ?_) fun hc => ?_
     · have lt : v.last 1 < 1 := by omega
       walk_at "w"
       have eS : v.sync k = v.spend 1 := if_pos lt
       exact (f S1 (fun n => W n) (by rw [eS]; exact ⟨du, sp, a, b, h1⟩) hd fun n hn => ⟨by have := hW n hn; omega, .inl hn⟩).1 lt
     · have lt : ¬ v.last 1 < 1 := by omega
       have eS : v.sync k = (v.spend 1).hard k (v.p k).length := if_neg lt
       rw [eS] at f
       walk_at "w"
       refine w_obj h1.ob ?_
       walk_at "w"
       refine o_fld h1.ob (z := 1) rfl ?_
       walk_at "w"
       refine o_ix2 (g := fun k => .ref (b k)) hk h1.hp ?_
       walk_at "w"
       refine o_lenQ (seqOf_ref (h1.pb k hk)) ?_
       rw [List.length_map]
       walk_at "w"
       refine durable_w (v := v.spend 1) ⟨du, sp, a, b, h1⟩ hk (fun n hn => by have := hW n hn; omega) hl fun S2 W2 h2 f2 w2 => ?_
       walk_at "w"
       have em : (if (((v.spend 1).p k).length : Int) > 0 then (((v.spend 1).p k).length : Int) else 0).toNat = (v.p k).length := by
         show (if ((v.p k).length : Int) > 0 then ((v.p k).length : Int) else 0).toNat = _
         split <;> omega
       have h2' : DkP c.Disk S2 W2 d ((v.spend 1).hard k (v.p k).length) := by
         have h2 : DkP c.Disk S2 W2 d ((v.spend 1).hard k (if (((v.spend 1).p k).length : Int) > 0 then (((v.spend 1).p k).length : Int) else 0).toNat) := h2
         rw [em] at h2
         exact h2
       exact (f S2 W2 h2' (hd.trans (f2.mono fun n hn => hn.imp id fun z => by omega)) fun n hn => ⟨(w2 n hn).1, (w2 n hn).2.imp id fun z => by omega⟩).2 lt))) only [↓Dw.Qt.tt]
theorem content_w (h : DkP c.Disk S W d v) (hk : k < 2) (hl : (v.f k).length + (v.p k).length ≤ 9000000) (f : ∀ S' n, Upto [] S S' → S.length ≤ n → S'[n]? = some (.lst ((aftI (v.f k) (v.p k)).map .int)) → Q (.ref n) S') : wF (W_Disk_content c [.ref d, .int (k : Nat)] S) Q X := by
  obtain ⟨du, sp, a, b, h⟩ := h
  unfold W_Disk_content
  walk_at "w0"
  walk_at "w"
  refine o_fld h.ob (z := 0) rfl ?_
  walk_at "w"
  refine o_ix2 (g := fun k => .ref (a k)) hk h.hu ?_
  walk_at "w"
  refine o_fld h.ob (z := 1) rfl ?_
  walk_at "w"
  refine o_ix2 (g := fun k => .ref (b k)) hk h.hp ?_
  walk_at "w"
  exact content_after_w (h.fa k hk) (h.pb k hk) hl f
theorem s_new0 {C : Addr} {n i : Nat} {ds : List D} {d : D} {P : Sto → Prop} (h : S[n]? = some (.obj C ds)) (hi : ds.length = i) (f : P (S.set n (.obj C (ds ++ [d])))) : ∃ S3, dFldSet C i (.ref n) d S = some S3 ∧ P S3 := ⟨_, by rw [← hi]; exact dFldSet_new h, f⟩
theorem dinit_w (h : S[d]? = some (.obj c.Disk [])) (f : ∀ S', DkP c.Disk S' (fun n => n = d ∨ S.length ≤ n) d dq0 → Upto [d] S S' → Q .non S') : wF (W_Disk_init c [.ref d] S) Q X := by
  refine Dw.Qt.un ?_
  simp (disch := (with_unfolding_all
    (unfold W_Disk_init
     have ld := app_lt h
     walk_at "w0"
     walk_at "w"
     have e1 : (S ++ [O.lst []] ++ [O.lst []] ++ [O.lst [.ref S.length, .ref (S ++ [O.lst []]).length]])[S.length]? = some (.lst []) := app_old (app_old app_new)
     have e2 : (S ++ [O.lst []] ++ [O.lst []] ++ [O.lst [.ref S.length, .ref (S ++ [O.lst []]).length]])[(S ++ [O.lst []]).length]? = some (.lst []) := app_old app_new
     have e3 : (S ++ [O.lst []] ++ [O.lst []] ++ [O.lst [.ref S.length, .ref (S ++ [O.lst []]).length]])[(S ++ [O.lst []] ++ [O.lst []]).length]? = some (.lst [.ref S.length, .ref (S ++ [O.lst []]).length]) := app_new
     have u1 : Upto [d] S (S ++ [O.lst []] ++ [O.lst []] ++ [O.lst [.ref S.length, .ref (S ++ [O.lst []]).length]]) := ((Upto.refl _ _).app).app.app
     have h1 : (S ++ [O.lst []] ++ [O.lst []] ++ [O.lst [.ref S.length, .ref (S ++ [O.lst []]).length]])[d]? = some (.obj c.Disk []) := app_old (app_old (app_old h))
     have l1 : (S ++ [O.lst []]).length = S.length + 1 := by rw [List.length_append]; rfl
     have l2 : (S ++ [O.lst []] ++ [O.lst []]).length = S.length + 2 := by rw [List.length_append, l1]; rfl
     have l3 : (S ++ [O.lst []] ++ [O.lst []] ++ [O.lst [.ref S.length, .ref (S ++ [O.lst []]).length]]).length = S.length + 3 := by rw [List.length_append, l2]; rfl
     generalize S ++ [O.lst []] ++ [O.lst []] ++ [O.lst [.ref S.length, .ref (S ++ [O.lst []]).length]] = S1 at *
     rw [l1] at e2 e3
     rw [l2] at e3
     rw [l2]
     refine s_new0 h1 rfl ?_
     have g1 := (set_off (o := .obj c.Disk [.ref (S.length + 2)]) (Nat.ne_of_lt ld)).trans e1
     have g2 := (set_off (o := .obj c.Disk [.ref (S.length + 2)]) (show d ≠ S.length + 1 by omega)).trans e2
     have g3 := (set_off (o := .obj c.Disk [.ref (S.length + 2)]) (show d ≠ S.length + 2 by omega)).trans e3
     have g0 := set_at (o := .obj c.Disk [.ref (S.length + 2)]) h1
     have v1 : Upto [d] S (S1.set d (.obj c.Disk [.ref (S.length + 2)])) := u1.set (.inl (by simp))
     have m1 : (S1.set d (.obj c.Disk [.ref (S.length + 2)])).length = S.length + 3 := by rw [List.length_set]; exact l3
     change wS _ _ (S1.set d (.obj c.Disk [.ref (S.length + 2)])) _
     generalize S1.set d (.obj c.Disk [.ref (S.length + 2)]) = S2 at *
     clear e1 e2 e3 h1 u1 l3
     walk_at "w"
     have a1 : (S2 ++ [O.lst []] ++ [O.lst []] ++ [O.lst [.ref S2.length, .ref (S2 ++ [O.lst []]).length]])[S2.length]? = some (.lst []) := app_old (app_old app_new)
     have a2 : (S2 ++ [O.lst []] ++ [O.lst []] ++ [O.lst [.ref S2.length, .ref (S2 ++ [O.lst []]).length]])[(S2 ++ [O.lst []]).length]? = some (.lst []) := app_old app_new
     have a3 : (S2 ++ [O.lst []] ++ [O.lst []] ++ [O.lst [.ref S2.length, .ref (S2 ++ [O.lst []]).length]])[(S2 ++ [O.lst []] ++ [O.lst []]).length]? = some (.lst [.ref S2.length, .ref (S2 ++ [O.lst []]).length]) := app_new
     have k1 : (S2 ++ [O.lst []]).length = S.length + 4 := by rw [List.length_append, m1]; rfl
     have k2 : (S2 ++ [O.lst []] ++ [O.lst []]).length = S.length + 5 := by rw [List.length_append, k1]; rfl
     have v2 : Upto [d] S (S2 ++ [O.lst []] ++ [O.lst []] ++ [O.lst [.ref S2.length, .ref (S2 ++ [O.lst []]).length]]) := v1.app.app.app
     have b0 := app_old (o := O.lst [.ref S2.length, .ref (S2 ++ [O.lst []]).length]) (app_old (o := O.lst []) (app_old (o := O.lst []) g0))
     have b1 := app_old (o := O.lst [.ref S2.length, .ref (S2 ++ [O.lst []]).length]) (app_old (o := O.lst []) (app_old (o := O.lst []) g1))
     have b2 := app_old (o := O.lst [.ref S2.length, .ref (S2 ++ [O.lst []]).length]) (app_old (o := O.lst []) (app_old (o := O.lst []) g2))
     have b3 := app_old (o := O.lst [.ref S2.length, .ref (S2 ++ [O.lst []]).length]) (app_old (o := O.lst []) (app_old (o := O.lst []) g3))
     generalize S2 ++ [O.lst []] ++ [O.lst []] ++ [O.lst [.ref S2.length, .ref (S2 ++ [O.lst []]).length]] = S3 at *
     rw [k1] at a2 a3
     rw [k2] at a3
     rw [m1] at a1 a3
     rw [k2]
     refine s_new0 b0 rfl ?_
     walk_at "w"
     refine s_new0 (set_at b0) rfl ?_
     rw [List.set_set]
     have ne : ∀ j, S.length ≤ j → d ≠ j := fun j hj => by omega
     refine f _ ⟨S.length + 2, S.length + 5, fun i => S.length + i, fun i => S.length + 3 + i, ⟨set_at b0, (set_off (ne _ (by omega))).trans b3, (set_off (ne _ (by omega))).trans a3, fun i hi => ?_, fun i hi => ?_, by omega, fun i hi => ⟨by omega, by omega, by omega, by omega⟩, fun i j hi hj => by omega, fun i j hi hj h => ⟨by omega, by omega⟩, .inl rfl, .inr (by omega), .inr (by omega), fun i hi => .inr (by omega), fun i hi => .inr (by omega)⟩⟩ (v2.set (.inl (by simp)))
     · obtain rfl | rfl : i = 0 ∨ i = 1 := by omega
       · exact (set_off (ne _ (by omega))).trans b1
       · exact (set_off (ne _ (by omega))).trans b2
     · obtain rfl | rfl : i = 0 ∨ i = 1 := by omega
       · exact (set_off (ne _ (by omega))).trans a1
       · exact (set_off (ne _ (by omega))).trans a2))) only [↓Dw.Qt.tt]
end
noncomputable def W_Disk_limit (c : CD) : Fn := fn0 2 2
    (cFld c.Disk 2 (eV 0) (eV 1))
noncomputable def W_Disk_crash (c : CD) : Fn := fn0 3 3
    (cSeq (cDrop (eMeth c.Disk (W_Disk_make_durable c) (eV 0) (aCons (eC (.int 0)) (aCons (eV 1) aNil))))
    (cSeq (cDrop (eMeth c.Disk (W_Disk_make_durable c) (eV 0) (aCons (eC (.int 1)) (aCons (eV 2) aNil))))
    (cFld c.Disk 2 (eV 0) (eC .non))))
def Dq.lim (v : Dq) (x : Option Int) : Dq := { v with w := x }
def n0 (m : Int) : Nat := (if m > 0 then m else 0).toNat
section
variable {c : CD} {S S' : Sto} {Q : QA} {X : XA} {W W' : Nat → Prop} {d k : Nat} {v : Dq}
theorem DkP.lim {x : Option Int} (h : DkP c.Disk S W d v) (f : ∀ S', DkP c.Disk S' W d (v.lim x) → Fr W S S' → Upto [d] S S' → Q .non S') (ds : List D) (ob : S[d]? = some (.obj c.Disk ds)) : ∃ du sp, ds = [.ref du, .ref sp, oiD v.w] ∧ Q .non (S.set d (.obj c.Disk [.ref du, .ref sp, oiD x])) := by
  refine Dw.Qt.un ?_
  simp (disch := (with_unfolding_all
    (obtain ⟨du, sp, a, b, h⟩ := h
     have n1 : ∀ {m : Nat} {l : List D}, S[m]? = some (.lst l) → d ≠ m := fun e => at_ne h.ob e nofun
     have e := Option.some.inj (ob.symm.trans h.ob)
     cases e
     refine ⟨du, sp, rfl, f _ ⟨du, sp, a, b, ⟨set_at h.ob, (set_off (n1 h.hu)).trans h.hu, (set_off (n1 h.hp)).trans h.hp, fun k hk => (set_off (n1 (h.fa k hk))).trans (h.fa k hk), fun k hk => (set_off (n1 (h.pb k hk))).trans (h.pb k hk), h.n1, h.n2, h.n3, h.n4, h.wd, h.wu, h.wp, h.wa, h.wb⟩⟩ ((Fr.refl _ _).set h.wd) ((Upto.refl _ _).set (.inl (List.mem_singleton.mpr rfl)))⟩))) only [↓Dw.Qt.tt]
theorem limit_w {x : Option Int} (h : DkP c.Disk S W d v) (f : ∀ S', DkP c.Disk S' W d (v.lim x) → Fr W S S' → Upto [d] S S' → Q .non S') : wF (W_Disk_limit c [.ref d, oiD x] S) Q X := by
  unfold W_Disk_limit
  obtain ⟨du, sp, a, b, hA⟩ := id h
  obtain ⟨du', sp', e, q⟩ := h.lim (x := x) f _ hA.ob
  cases e
  walk_at "w0"
  walk_at "w"
  refine ⟨_, dFldSet_ref hA.ob (show 2 < 3 by decide), ?_⟩
  exact q
theorem crash_w {m n : Int} (h : DkP c.Disk S W d v) (hW : ∀ n, W n → n < S.length) (hl : ∀ k, k < 2 → (v.f k).length + (v.p k).length ≤ 9000000) (f : ∀ S' W', DkP c.Disk S' W' d (((v.hard 0 (n0 m)).hard 1 (n0 n)).lim none) → Fr (Gr W S) S S' → (∀ n, W' n → n < S'.length ∧ Gr W S n) → Q .non S') : wF (W_Disk_crash c [.ref d, .int m, .int n] S) Q X := by
  refine Dw.Qt.un ?_
  simp (disch := (with_unfolding_all
    (unfold W_Disk_crash
     walk_at "w0"
     obtain ⟨du, sp, a, b, hA⟩ := id h
     walk_at "w"
     refine w_obj hA.ob ?_
     walk_at "w"
     refine durable_w (k := 0) h (by decide) hW (hl 0 (by decide)) fun S1 W1 h1 f1 w1 => ?_
     obtain ⟨du1, sp1, a1, b1, hA1⟩ := id h1
     walk_at "w"
     refine w_obj hA1.ob ?_
     walk_at "w"
     refine durable_w (k := 1) h1 (by decide) (fun n hn => (w1 n hn).1) (hl 1 (by decide)) fun S2 W2 h2 f2 w2 => ?_
     obtain ⟨du2, sp2, a2, b2, hA2⟩ := id h2
     have l1 := f1.len
     have f12 : Fr (Gr W S) S S2 := f1.trans (f2.mono fun n hn => hn.elim (fun z => (w1 n z).2) fun z => .inr (by omega))
     have w12 : ∀ n, W2 n → n < S2.length ∧ Gr W S n := fun n hn => ⟨(w2 n hn).1, (w2 n hn).2.elim (fun z => (w1 n z).2) fun z => .inr (by omega)⟩
     walk_at "w"
     obtain ⟨du', sp', e, q⟩ := h2.lim (x := none) (Q := Q) (fun S3 h3 f3 u3 => f S3 W2 h3 (f12.trans (f3.mono fun n hn => (w12 n hn).2)) fun n hn => ⟨Nat.lt_of_lt_of_le (w12 n hn).1 u3.len, (w12 n hn).2⟩) _ hA2.ob
     cases e
     refine ⟨_, dFldSet_ref hA2.ob (show 2 < 3 by decide), ?_⟩
     exact q))) only [↓Dw.Qt.tt]
end
inductive Rd1 (α : Type) where
  | ok (a : α) (rest : List Int) (e : Nat)
  | inc (k : Nat)
  | inv (k : Nat)
/-- a count: the groups, the first of them at the place where f is true -/
def rdC : List Int → Nat → Bool → Nat → Nat → Rd1 Nat
  | [], p, _, _, _ => .inc p
  | b :: r, p, f, acc, w =>
    if b < 128 then (if b = 0 ∧ f = false then .inv p else .ok (acc + w * b.toNat) r (p + 1))
    else rdC r (p + 1) false (acc + w * (b.toNat % 128)) (w * 128)
/-- the signs of a text -/
def rdS : Nat → List Int → Nat → Rd1 (List Nat)
  | 0, l, p => .ok [] l p
  | n + 1, [], p => .inc p
  | n + 1, b :: r, p =>
    if 32 ≤ b ∧ b ≤ 126 ∧ b ≠ 37 then
      (match rdS n r (p + 1) with
        | .ok xs r' e => .ok (b.toNat :: xs) r' e
        | .inc k => .inc k
        | .inv k => .inv k)
    else .inv p
/-- items one behind the other -/
def rdI (f : List Int → Nat → Rd1 PyData) : Nat → List Int → Nat → Rd1 (List PyData)
  | 0, l, p => .ok [] l p
  | n + 1, l, p =>
    match f l p with
      | .ok d r e =>
        (match rdI f n r e with
          | .ok ds r' e' => .ok (d :: ds) r' e'
          | .inc k => .inc k
          | .inv k => .inv k)
      | .inc k => .inc k
      | .inv k => .inv k
/-- behind the count -/
def rdB (it : Option (List Int → Nat → Rd1 PyData)) (b : Int) (c : Nat) (r : List Int) (e p : Nat) : Rd1 PyData :=
  if b = 3 then .ok (.int c) r e
  else if b = 4 then .ok (.int (-(c : Int) - 1)) r e
  else if b = 5 then
    (match rdS c r e with
      | .ok xs r' e' => .ok (.str ⟨xs.toArray⟩) r' e'
      | .inc k => .inc k
      | .inv k => .inv k)
  else
    (match it with
      | some f =>
        (match rdI f c r e with
          | .ok ds r' e' => .ok (.tuple ds) r' e'
          | .inc k => .inc k
          | .inv k => .inv k)
      | Option.none => .inv p)
def unp1 (it : Option (List Int → Nat → Rd1 PyData)) : List Int → Nat → Rd1 PyData
  | [], p => .inc p
  | b :: r, p =>
    if 6 < b ∨ (b = 6 ∧ it.isNone = true) then .inv p
    else if b = 0 then .ok .none r (p + 1)
    else if b ≤ 2 then .ok (.bool (decide (b = 2))) r (p + 1)
    else
      (match rdC r (p + 1) true 0 1 with
        | .ok c r' e => rdB it b c r' e p
        | .inc k => .inc k
        | .inv k => .inv k)
/-- a value inside of tuples; L more of them may stand within one another -/
def unp : Nat → List Int → Nat → Rd1 PyData
  | 0 => unp1 Option.none
  | L + 1 => unp1 (some (unp L))
theorem rdC_cnt (n : Nat) : ∀ (r : List Int) (p : Nat) (f : Bool) (acc w : Nat), (f = true ∨ n ≠ 0) → rdC (cnt n ++ r) p f acc w = .ok (acc + w * n) r (p + (cnt n).length) := by
  refine Dw.Qt.un ?_
  simp (disch := (with_unfolding_all
    (induction n using Nat.strongRecOn with
     | ind n ih =>
       intro r p f acc w h
       by_cases c : n < 128
       · rw [cnt_lt c]
         show rdC ((n : Int) :: r) p f acc w = _
         rw [rdC, if_pos (by omega), if_neg (by
           rintro ⟨a, b⟩
           rcases h with h | h
           · rw [h] at b; cases b
           · omega)]
         rfl
       · rw [cnt_ge (by omega)]
         show rdC ((128 + (n % 128 : Nat) : Int) :: (cnt (n / 128) ++ r)) p f acc w = _
         rw [rdC, if_neg (by omega), ih (n / 128) (by omega) r (p + 1) false _ _ (.inr (by omega))]
         have e1 : ((128 + (n % 128 : Nat) : Int)).toNat % 128 = n % 128 := by omega
         rw [e1, List.length_cons]
         have e2 : acc + w * (n % 128) + w * 128 * (n / 128) = acc + w * n := by
           have : n = n % 128 + 128 * (n / 128) := by omega
           have q : w * n = w * (n % 128) + w * (128 * (n / 128)) := by rw [← Nat.mul_add, ← this]
           rw [q, Nat.mul_assoc, Nat.add_assoc]
         rw [e2, show p + 1 + (cnt (n / 128)).length = p + ((cnt (n / 128)).length + 1) by omega]))) only [↓Dw.Qt.tt]
theorem rdC_cut (n : Nat) : ∀ (k p : Nat) (f : Bool) (acc w : Nat), k < (cnt n).length → rdC ((cnt n).take k) p f acc w = .inc (p + k) := by
  induction n using Nat.strongRecOn with
  | ind n ih =>
    intro k p f acc w h
    by_cases c : n < 128
    · rw [cnt_lt c] at h ⊢
      have : k = 0 := by simpa using h
      rw [this]
      rfl
    · rw [cnt_ge (by omega)] at h ⊢
      cases k with
      | zero => rfl
      | succ k =>
        rw [List.take_succ_cons, rdC, if_neg (by omega), ih (n / 128) (by omega) k (p + 1) false _ _ (by rw [List.length_cons] at h; omega)]
        rw [show p + 1 + k = p + (k + 1) by omega]
theorem rdS_sgn : ∀ (xs : List Nat) (r : List Int) (p : Nat), (∀ c ∈ xs, okSign c) → rdS xs.length (xs.map (fun c : Nat => (c : Int)) ++ r) p = .ok xs r (p + xs.length)
  | [], r, p, _ => rfl
  | c :: xs, r, p, h => by
    have hc := h c List.mem_cons_self
    have hr := rdS_sgn xs r (p + 1) fun d hd => h d (List.mem_cons_of_mem _ hd)
    unfold okSign at hc
    show rdS (xs.length + 1) ((c : Int) :: (xs.map (fun c : Nat => (c : Int)) ++ r)) p = _
    rw [rdS, if_pos (by omega), hr]
    show Rd1.ok ((c : Int).toNat :: xs) r (p + 1 + xs.length) = _
    rw [Int.toNat_natCast, List.length_cons, show p + 1 + xs.length = p + (xs.length + 1) by omega]
theorem rdS_cut : ∀ (xs : List Nat) (k p : Nat), (∀ c ∈ xs, okSign c) → k < xs.length → rdS xs.length ((xs.map (fun c : Nat => (c : Int))).take k) p = .inc (p + k)
  | c :: xs, 0, p, _, _ => rfl
  | c :: xs, k + 1, p, h, hk => by
    have hc := h c List.mem_cons_self
    have hr := rdS_cut xs k (p + 1) (fun d hd => h d (List.mem_cons_of_mem _ hd)) (by simpa using hk)
    unfold okSign at hc
    show rdS (xs.length + 1) ((c : Int) :: ((xs.map (fun c : Nat => (c : Int))).take k)) p = _
    rw [rdS, if_pos (by omega), hr]
    show Rd1.inc (p + 1 + k) = _
    rw [show p + 1 + k = p + (k + 1) by omega]
theorem unp1_cons (it : Option (List Int → Nat → Rd1 PyData)) (b : Int) (r : List Int) (p : Nat) : unp1 it (b :: r) p = if 6 < b ∨ (b = 6 ∧ it.isNone = true) then .inv p
    else if b = 0 then .ok .none r (p + 1)
    else if b ≤ 2 then .ok (.bool (decide (b = 2))) r (p + 1)
    else (match rdC r (p + 1) true 0 1 with | .ok c r' e => rdB it b c r' e p | .inc k => .inc k | .inv k => .inv k) := rfl
theorem unp_step (L : Nat) : ∃ it : Option (List Int → Nat → Rd1 PyData), unp L = unp1 it ∧ (∀ L', L = L' + 1 → it = some (unp L')) := by
  cases L with
  | zero => exact ⟨Option.none, rfl, fun L' h => by omega⟩
  | succ L => exact ⟨some (unp L), rfl, fun L' h => by cases h; rfl⟩
/-- the head of a record: a first byte from 3 to 5, or 6 where a level is left -/
theorem unp_head {L : Nat} {b : Int} {r : List Int} {p : Nat} (h0 : 3 ≤ b) (h1 : b ≤ 6) (h2 : b = 6 → L ≠ 0) :
    ∃ it, (∀ L', L = L' + 1 → it = some (unp L')) ∧ unp L (b :: r) p = (match rdC r (p + 1) true 0 1 with | .ok c r' e => rdB it b c r' e p | .inc k => .inc k | .inv k => .inv k) := by
  obtain ⟨it, e, hL⟩ := unp_step L
  refine ⟨it, hL, ?_⟩
  rw [e]
  have no : ¬ (6 < b ∨ (b = 6 ∧ it.isNone = true)) := by
    rintro (h | ⟨h, hn⟩)
    · omega
    · cases L with
      | zero => exact h2 h rfl
      | succ L =>
        rw [hL L rfl] at hn
        cases hn
  show (if 6 < b ∨ (b = 6 ∧ it.isNone = true) then Rd1.inv p else if b = 0 then _ else if b ≤ 2 then _ else _) = _
  rw [if_neg no, if_neg (by omega), if_neg (by omega)]
theorem sgn_lenU (x : Str) : (sgn x).length = x.length := by unfold sgn; rw [List.length_map]; rfl
mutual
theorem unp_rcd : ∀ (d : PyData) (L : Nat) (r : List Int) (p : Nat), OkV d → d.depth ≤ L → unp L (rcd d ++ r) p = .ok d r (p + (rcd d).length)
  | .none, L, r, p, _, _ => by
    obtain ⟨it, e, _⟩ := unp_step L
    rw [e, rcd]
    show unp1 it ((0 : Int) :: r) p = Rd1.ok .none r (p + 1)
    rw [unp1_cons, if_neg (by rintro (h | ⟨h, _⟩) <;> omega), if_pos rfl]
  | .bool b, L, r, p, _, _ => by
    obtain ⟨it, e, _⟩ := unp_step L
    rw [e, rcd]
    cases b
    · show unp1 it ((1 : Int) :: r) p = Rd1.ok (.bool false) r (p + 1)
      rw [unp1_cons, if_neg (by rintro (h | ⟨h, _⟩) <;> omega), if_neg (by decide), if_pos (by decide)]
      rfl
    · show unp1 it ((2 : Int) :: r) p = Rd1.ok (.bool true) r (p + 1)
      rw [unp1_cons, if_neg (by rintro (h | ⟨h, _⟩) <;> omega), if_neg (by decide), if_pos (by decide)]
      rfl
  | .int i, L, r, p, _, _ => by
    rw [rcd]
    split
    · obtain ⟨it, _, e⟩ := unp_head (L := L) (b := 3) (r := cnt i.toNat ++ r) (p := p) (by decide) (by decide) (fun h => absurd h (by decide))
      show unp L (3 :: (cnt i.toNat ++ r)) p = _
      rw [e, rdC_cnt _ _ _ _ _ _ (.inl rfl)]
      show rdB it 3 _ r _ p = _
      unfold rdB
      rw [if_pos rfl, List.length_cons, Nat.zero_add, Nat.one_mul, Int.toNat_of_nonneg (by assumption), show p + 1 + (cnt i.toNat).length = p + ((cnt i.toNat).length + 1) by omega]
    · obtain ⟨it, _, e⟩ := unp_head (L := L) (b := 4) (r := cnt (-i - 1).toNat ++ r) (p := p) (by decide) (by decide) (fun h => absurd h (by decide))
      show unp L (4 :: (cnt (-i - 1).toNat ++ r)) p = _
      rw [e, rdC_cnt _ _ _ _ _ _ (.inl rfl)]
      show rdB it 4 _ r _ p = _
      unfold rdB
      rw [if_neg (by decide), if_pos rfl, List.length_cons, Nat.zero_add, Nat.one_mul, Int.toNat_of_nonneg (by omega), show p + 1 + (cnt (-i - 1).toNat).length = p + ((cnt (-i - 1).toNat).length + 1) by omega, show -(-i - 1) - 1 = i by omega]
  | .str x, L, r, p, ok, _ => by
    rw [rcd]
    obtain ⟨it, _, e⟩ := unp_head (L := L) (b := 5) (r := cnt x.length ++ (sgn x ++ r)) (p := p) (by decide) (by decide) (fun h => absurd h (by decide))
    rw [List.cons_append, List.append_assoc, e, rdC_cnt _ _ _ _ _ _ (.inl rfl)]
    show rdB it 5 _ _ _ p = _
    unfold rdB
    unfold OkV at ok
    rw [if_neg (by decide), if_neg (by decide), if_pos rfl, Nat.zero_add, Nat.one_mul]
    have q := rdS_sgn x.cps.toList r (p + 1 + (cnt x.length).length) ok.2
    have ex : rdS x.length (sgn x ++ r) (p + 1 + (cnt x.length).length) = .ok x.cps.toList r (p + 1 + (cnt x.length).length + x.length) := q
    rw [ex]
    show Rd1.ok (PyData.str ⟨x.cps.toList.toArray⟩) r _ = _
    rw [List.length_cons, List.length_append, sgn_lenU, show p + 1 + (cnt x.length).length + x.length = p + ((cnt x.length).length + x.length + 1) by omega]
  | .tuple ds, L, r, p, ok, hd => by
    rw [PyData.depth] at hd
    cases L with
    | zero => omega
    | succ L =>
      rw [rcd]
      obtain ⟨it, hit, e⟩ := unp_head (L := L + 1) (b := 6) (r := cnt ds.length ++ (rcdL ds ++ r)) (p := p) (by decide) (by decide) (fun _ => by omega)
      rw [List.cons_append, List.append_assoc, e, rdC_cnt _ _ _ _ _ _ (.inl rfl)]
      show rdB it 6 _ _ _ p = _
      unfold rdB
      unfold OkV at ok
      rw [if_neg (by decide), if_neg (by decide), if_neg (by decide), hit L rfl, Nat.zero_add, Nat.one_mul]
      show (match rdI (unp L) ds.length (rcdL ds ++ r) (p + 1 + (cnt ds.length).length) with | .ok ds r' e' => Rd1.ok (PyData.tuple ds) r' e' | .inc k => .inc k | .inv k => .inv k) = _
      rw [unp_rcdL ds L r _ ok.2 (by omega)]
      show Rd1.ok (PyData.tuple ds) r _ = _
      rw [List.length_cons, List.length_append, show p + 1 + (cnt ds.length).length + (rcdL ds).length = p + ((cnt ds.length).length + (rcdL ds).length + 1) by omega]
  | .list _, L, r, p, ok, _ => by unfold OkV at ok; exact ok.elim
  | .dict _, L, r, p, ok, _ => by unfold OkV at ok; exact ok.elim
theorem unp_rcdL : ∀ (ds : List PyData) (L : Nat) (r : List Int) (p : Nat), OkL ds → PyData.depthAll ds ≤ L → rdI (unp L) ds.length (rcdL ds ++ r) p = .ok ds r (p + (rcdL ds).length)
  | [], L, r, p, _, _ => by
    rw [rcdL]
    rfl
  | d :: ds, L, r, p, ok, hd => by
    rw [PyData.depthAll] at hd
    unfold OkL at ok
    rw [rcdL, List.append_assoc]
    show rdI (unp L) (ds.length + 1) _ p = _
    rw [rdI, unp_rcd d L (rcdL ds ++ r) p ok.1 (by omega)]
    show (match rdI (unp L) ds.length (rcdL ds ++ r) (p + (rcd d).length) with | .ok ds r' e' => Rd1.ok (d :: ds) r' e' | .inc k => .inc k | .inv k => .inv k) = _
    rw [unp_rcdL ds L r _ ok.2 (by omega)]
    show Rd1.ok (d :: ds) r _ = _
    rw [List.length_append, Nat.add_assoc]
end
theorem unp_nil (L p : Nat) : unp L [] p = .inc p := by
  obtain ⟨it, e, _⟩ := unp_step L
  rw [e]
  rfl
theorem take_le {a b : List Int} {k : Nat} (h : k < a.length) : (a ++ b).take k = a.take k := List.take_append_of_le_length (Nat.le_of_lt h)
theorem take_ge {a b : List Int} {k : Nat} (h : a.length ≤ k) : (a ++ b).take k = a ++ b.take (k - a.length) := by
  rw [List.take_append, List.take_of_length_le h]
mutual
theorem unp_cut : ∀ (d : PyData) (L k p : Nat), OkV d → d.depth ≤ L → k < (rcd d).length → unp L ((rcd d).take k) p = .inc (p + k)
  | d, L, 0, p, _, _, _ => by
    rw [List.take_zero]
    exact unp_nil L p
  | .none, L, k + 1, p, _, _, h => by
    rw [rcd] at h
    simp at h
  | .bool b, L, k + 1, p, _, _, h => by
    rw [rcd] at h
    simp at h
  | .int i, L, k + 1, p, _, _, h => by
    rw [rcd] at h ⊢
    split at h
    · rename_i c
      rw [if_pos c, List.take_succ_cons]
      obtain ⟨it, _, e⟩ := unp_head (L := L) (b := 3) (r := (cnt i.toNat).take k) (p := p) (by decide) (by decide) (fun h => absurd h (by decide))
      rw [e, rdC_cut _ _ _ _ _ _ (by rw [List.length_cons] at h; omega)]
      show Rd1.inc (p + 1 + k) = _
      rw [show p + 1 + k = p + (k + 1) by omega]
    · rename_i c
      rw [if_neg c, List.take_succ_cons]
      obtain ⟨it, _, e⟩ := unp_head (L := L) (b := 4) (r := (cnt (-i - 1).toNat).take k) (p := p) (by decide) (by decide) (fun h => absurd h (by decide))
      rw [e, rdC_cut _ _ _ _ _ _ (by rw [List.length_cons] at h; omega)]
      show Rd1.inc (p + 1 + k) = _
      rw [show p + 1 + k = p + (k + 1) by omega]
  | .str x, L, k + 1, p, ok, _, h => by
    rw [rcd] at h ⊢
    rw [List.take_succ_cons]
    obtain ⟨it, _, e⟩ := unp_head (L := L) (b := 5) (r := (cnt x.length ++ sgn x).take k) (p := p) (by decide) (by decide) (fun h => absurd h (by decide))
    rw [List.length_cons, List.length_append] at h
    rw [e]
    by_cases c : k < (cnt x.length).length
    · rw [take_le c, rdC_cut _ _ _ _ _ _ c]
      show Rd1.inc (p + 1 + k) = _
      rw [show p + 1 + k = p + (k + 1) by omega]
    · rw [take_ge (by omega), rdC_cnt _ _ _ _ _ _ (.inl rfl)]
      show rdB it 5 _ _ _ p = _
      unfold rdB
      unfold OkV at ok
      rw [if_neg (by decide), if_neg (by decide), if_pos rfl, Nat.zero_add, Nat.one_mul]
      have hk : k - (cnt x.length).length < x.cps.toList.length := by
        have := sgn_lenU x
        have e2 : x.cps.toList.length = x.length := rfl
        omega
      have q := rdS_cut x.cps.toList (k - (cnt x.length).length) (p + 1 + (cnt x.length).length) ok.2 hk
      have ex : rdS x.length ((sgn x).take (k - (cnt x.length).length)) (p + 1 + (cnt x.length).length) = .inc (p + 1 + (cnt x.length).length + (k - (cnt x.length).length)) := q
      rw [ex]
      show Rd1.inc _ = _
      rw [show p + 1 + (cnt x.length).length + (k - (cnt x.length).length) = p + (k + 1) by omega]
  | .tuple ds, L, k + 1, p, ok, hd, h => by
    rw [PyData.depth] at hd
    cases L with
    | zero => omega
    | succ L =>
      rw [rcd] at h ⊢
      rw [List.take_succ_cons]
      obtain ⟨it, hit, e⟩ := unp_head (L := L + 1) (b := 6) (r := (cnt ds.length ++ rcdL ds).take k) (p := p) (by decide) (by decide) (fun _ => by omega)
      rw [List.length_cons, List.length_append] at h
      rw [e]
      by_cases c : k < (cnt ds.length).length
      · rw [take_le c, rdC_cut _ _ _ _ _ _ c]
        show Rd1.inc (p + 1 + k) = _
        rw [show p + 1 + k = p + (k + 1) by omega]
      · rw [take_ge (by omega), rdC_cnt _ _ _ _ _ _ (.inl rfl)]
        show rdB it 6 _ _ _ p = _
        unfold rdB
        unfold OkV at ok
        rw [if_neg (by decide), if_neg (by decide), if_neg (by decide), hit L rfl, Nat.zero_add, Nat.one_mul]
        show (match rdI (unp L) ds.length ((rcdL ds).take (k - (cnt ds.length).length)) (p + 1 + (cnt ds.length).length) with | .ok ds r' e' => Rd1.ok (PyData.tuple ds) r' e' | .inc k => .inc k | .inv k => .inv k) = _
        rw [unp_cutL ds L _ _ ok.2 (by omega) (by omega)]
        show Rd1.inc _ = _
        rw [show p + 1 + (cnt ds.length).length + (k - (cnt ds.length).length) = p + (k + 1) by omega]
  | .list _, L, k + 1, p, ok, _, _ => by unfold OkV at ok; exact ok.elim
  | .dict _, L, k + 1, p, ok, _, _ => by unfold OkV at ok; exact ok.elim
theorem unp_cutL : ∀ (ds : List PyData) (L k p : Nat), OkL ds → PyData.depthAll ds ≤ L → k < (rcdL ds).length → rdI (unp L) ds.length ((rcdL ds).take k) p = .inc (p + k)
  | [], L, k, p, _, _, h => by
    rw [rcdL] at h
    cases h
  | d :: ds, L, k, p, ok, hd, h => by
    rw [PyData.depthAll] at hd
    unfold OkL at ok
    rw [rcdL] at h ⊢
    rw [List.length_append] at h
    show rdI (unp L) (ds.length + 1) _ p = _
    by_cases c : k < (rcd d).length
    · rw [take_le c, rdI, unp_cut d L k p ok.1 (by omega) c]
    · rw [take_ge (by omega), rdI, unp_rcd d L _ p ok.1 (by omega)]
      show (match rdI (unp L) ds.length ((rcdL ds).take (k - (rcd d).length)) (p + (rcd d).length) with | .ok ds r' e' => Rd1.ok (d :: ds) r' e' | .inc k => .inc k | .inv k => .inv k) = _
      rw [unp_cutL ds L _ _ ok.2 (by omega) (by omega)]
      show Rd1.inc _ = _
      rw [show p + (rcd d).length + (k - (rcd d).length) = p + k by omega]
end
def By (l : List Int) : Prop := ∀ b ∈ l, 0 ≤ b ∧ b < 256
theorem by_tail {b : Int} {l : List Int} (h : By (b :: l)) : By l := fun c hc => h c (List.mem_cons_of_mem _ hc)
theorem by_right : ∀ {a r : List Int}, By (a ++ r) → By r := fun h c hc => h c (List.mem_append_right _ hc)
theorem rdC_ok : ∀ (l : List Int) (p : Nat) (f : Bool) (acc w c e : Nat) (r : List Int), By l → rdC l p f acc w = .ok c r e → ∃ n, l = cnt n ++ r ∧ c = acc + w * n ∧ e = p + (cnt n).length ∧ (f = false → n ≠ 0)
  | [], p, f, acc, w, c, e, r, _, h => by cases h
  | b :: l, p, f, acc, w, c, e, r, hb, h => by
    have b0 := hb b List.mem_cons_self
    rw [rdC] at h
    by_cases c1 : b < 128
    · rw [if_pos c1] at h
      by_cases c2 : b = 0 ∧ f = false
      · rw [if_pos c2] at h
        cases h
      · rw [if_neg c2] at h
        cases h
        refine ⟨b.toNat, ?_, rfl, ?_, fun hf hz => c2 ⟨by omega, hf⟩⟩
        · rw [cnt_lt (by omega), Int.toNat_of_nonneg b0.1]
          rfl
        · rw [cnt_lt (by omega)]
          rfl
    · rw [if_neg c1] at h
      obtain ⟨n, e1, e2, e3, e4⟩ := rdC_ok l (p + 1) false _ _ c e r (by_tail hb) h
      have nz := e4 rfl
      have g : 128 ≤ b.toNat % 128 + 128 * n := by omega
      refine ⟨b.toNat % 128 + 128 * n, ?_, ?_, ?_, fun _ => by omega⟩
      · rw [cnt_ge g, show (b.toNat % 128 + 128 * n) / 128 = n by omega, show (128 + ((b.toNat % 128 + 128 * n) % 128 : Nat) : Int) = b by omega, e1]
        rfl
      · rw [e2, Nat.mul_add, Nat.mul_assoc, Nat.add_assoc]
      · rw [cnt_ge g, show (b.toNat % 128 + 128 * n) / 128 = n by omega, List.length_cons]
        omega
theorem rdS_ok : ∀ (n : Nat) (l : List Int) (p e : Nat) (xs : List Nat) (r : List Int), rdS n l p = .ok xs r e → l = xs.map (fun c : Nat => (c : Int)) ++ r ∧ xs.length = n ∧ e = p + n ∧ ∀ c ∈ xs, okSign c
  | 0, l, p, e, xs, r, h => by
    cases h
    exact ⟨rfl, rfl, rfl, fun _ h => nomatch h⟩
  | n + 1, [], p, e, xs, r, h => by cases h
  | n + 1, b :: l, p, e, xs, r, h => by
    rw [rdS] at h
    split at h
    · rename_i c
      cases q : rdS n l (p + 1) with
      | ok ys r' e' =>
        rw [q] at h
        cases h
        obtain ⟨e1, e2, e3, e4⟩ := rdS_ok n l (p + 1) _ _ _ q
        refine ⟨?_, by rw [List.length_cons, e2], by omega, fun d hd => ?_⟩
        · rw [List.map_cons, Int.toNat_of_nonneg (by omega), e1]
          rfl
        · rcases List.mem_cons.mp hd with rfl | hd
          · unfold okSign
            omega
          · exact e4 d hd
      | inc k => rw [q] at h; cases h
      | inv k => rw [q] at h; cases h
    · cases h
theorem rdI_ok {f : List Int → Nat → Rd1 PyData} (hf : ∀ l p d r e, By l → f l p = .ok d r e → l = rcd d ++ r ∧ e = p + (rcd d).length) :
    ∀ (n : Nat) (l : List Int) (p e : Nat) (ds : List PyData) (r : List Int), By l → rdI f n l p = .ok ds r e → l = rcdL ds ++ r ∧ ds.length = n ∧ e = p + (rcdL ds).length
  | 0, l, p, e, ds, r, _, h => by
    cases h
    rw [rcdL]
    exact ⟨rfl, rfl, rfl⟩
  | n + 1, l, p, e, ds, r, hb, h => by
    rw [rdI] at h
    cases q : f l p with
    | ok d r1 e1 =>
      rw [q] at h
      obtain ⟨a1, a2⟩ := hf _ _ _ _ _ hb q
      subst a1
      cases q2 : rdI f n r1 e1 with
      | ok ds2 r2 e2 =>
        simp only [q2] at h
        cases h
        obtain ⟨b1, b2, b3⟩ := rdI_ok hf n r1 e1 _ _ _ (by_right hb) q2
        refine ⟨?_, by rw [List.length_cons, b2], ?_⟩
        · rw [rcdL, b1, List.append_assoc]
        · rw [rcdL, List.length_append, b3, a2]
          omega
      | inc k => simp only [q2] at h; cases h
      | inv k => simp only [q2] at h; cases h
    | inc k => rw [q] at h; cases h
    | inv k => rw [q] at h; cases h
theorem unp1_ok {it : Option (List Int → Nat → Rd1 PyData)} (hf : ∀ f, it = some f → ∀ l p d r e, By l → f l p = .ok d r e → l = rcd d ++ r ∧ e = p + (rcd d).length) :
    ∀ (l : List Int) (p : Nat) (d : PyData) (r : List Int) (e : Nat), By l → unp1 it l p = .ok d r e → l = rcd d ++ r ∧ e = p + (rcd d).length
  | [], p, d, r, e, _, h => by cases h
  | b :: l, p, d, r, e, hb, h => by
    have b0 := hb b List.mem_cons_self
    rw [unp1_cons] at h
    by_cases c1 : 6 < b ∨ (b = 6 ∧ it.isNone = true)
    · rw [if_pos c1] at h
      cases h
    rw [if_neg c1] at h
    by_cases c2 : b = 0
    · rw [if_pos c2] at h
      cases h
      rw [rcd, c2]
      exact ⟨rfl, rfl⟩
    rw [if_neg c2] at h
    by_cases c3 : b ≤ 2
    · rw [if_pos c3] at h
      cases h
      rw [rcd]
      have : b = 1 ∨ b = 2 := by omega
      rcases this with rfl | rfl
      · exact ⟨rfl, rfl⟩
      · exact ⟨rfl, rfl⟩
    rw [if_neg c3] at h
    cases q : rdC l (p + 1) true 0 1 with
    | inc k => rw [q] at h; cases h
    | inv k => rw [q] at h; cases h
    | ok c r1 e1 =>
      simp only [q] at h
      obtain ⟨n, a1, a2, a3, _⟩ := rdC_ok l (p + 1) true 0 1 c e1 r1 (by_tail hb) q
      rw [Nat.zero_add, Nat.one_mul] at a2
      subst a2
      subst a1
      have hr1 : By r1 := by_right (by_tail hb)
      unfold rdB at h
      by_cases k3 : b = 3
      · rw [if_pos k3] at h
        cases h
        rw [rcd, if_pos (by omega), Int.toNat_natCast, k3, List.length_cons]
        exact ⟨rfl, by omega⟩
      rw [if_neg k3] at h
      by_cases k4 : b = 4
      · rw [if_pos k4] at h
        cases h
        rw [rcd, if_neg (by omega), show (-(-(c : Int) - 1) - 1).toNat = c by omega, k4, List.length_cons]
        exact ⟨rfl, by omega⟩
      rw [if_neg k4] at h
      by_cases k5 : b = 5
      · rw [if_pos k5] at h
        cases q2 : rdS c r1 e1 with
        | inc k => simp only [q2] at h; cases h
        | inv k => simp only [q2] at h; cases h
        | ok xs r2 e2 =>
          simp only [q2] at h
          cases h
          obtain ⟨s1, s2, s3, _⟩ := rdS_ok c r1 e1 _ _ _ q2
          have el : (⟨xs.toArray⟩ : Str).length = c := by
            rw [← s2]
            show xs.toArray.size = _
            simp
          have es : sgn ⟨xs.toArray⟩ = xs.map (fun c : Nat => (c : Int)) := by
            unfold sgn
            rfl
          rw [rcd, el, es, k5, List.cons_append, List.append_assoc, ← s1, List.length_cons, List.length_append, List.length_map]
          exact ⟨rfl, by omega⟩
      rw [if_neg k5] at h
      have k6 : b = 6 := by omega
      cases it with
      | none => exact absurd (.inr ⟨k6, rfl⟩) c1
      | some f =>
        cases q2 : rdI f c r1 e1 with
        | inc k => simp only [q2] at h; cases h
        | inv k => simp only [q2] at h; cases h
        | ok ds r2 e2 =>
          simp only [q2] at h
          cases h
          obtain ⟨s1, s2, s3⟩ := rdI_ok (hf f rfl) c r1 e1 _ _ _ hr1 q2
          rw [rcd, s2, k6, List.cons_append, List.append_assoc, ← s1, List.length_cons, List.length_append]
          exact ⟨rfl, by omega⟩
theorem unp_ok : ∀ (L : Nat) (l : List Int) (p : Nat) (d : PyData) (r : List Int) (e : Nat), By l → unp L l p = .ok d r e → l = rcd d ++ r ∧ e = p + (rcd d).length
  | 0 => unp1_ok fun f h => by cases h
  | L + 1 => unp1_ok fun f h => by
    cases h
    exact unp_ok L
def okC (b : Int) : Prop := 32 ≤ b ∧ b ≤ 126 ∧ b ≠ 37
instance (b : Int) : Decidable (okC b) := by unfold okC; infer_instance
theorem rdS_bad : ∀ (i c : Nat) (l : List Int) (p : Nat), (∀ j, j < i → ∀ b, l[j]? = some b → okC b) → (∃ b, l[i]? = some b ∧ ¬ okC b) → i < c → rdS c l p = .inv (p + i)
  | i, 0, l, p, _, _, h => absurd h (Nat.not_lt_zero _)
  | i, c + 1, [], p, _, ⟨b, e, _⟩, _ => by simp at e
  | 0, c + 1, b :: r, p, _, ⟨b', e, n⟩, _ => by
    cases Option.some.inj e
    unfold okC at n
    rw [rdS, if_neg n]
    rfl
  | i + 1, c + 1, b :: r, p, g, ⟨b', e, n⟩, h => by
    have g0 : okC b := g 0 (Nat.succ_pos _) b rfl
    unfold okC at g0
    rw [rdS, if_pos g0, rdS_bad i c r (p + 1) (fun j hj b hb => g (j + 1) (Nat.succ_lt_succ hj) b hb) ⟨b', e, n⟩ (Nat.lt_of_succ_lt_succ h)]
    show Rd1.inv (p + 1 + i) = _
    rw [show p + 1 + i = p + (i + 1) by omega]
theorem rdS_short : ∀ (c : Nat) (l : List Int) (p : Nat), (∀ b ∈ l, okC b) → l.length < c → rdS c l p = .inc (p + l.length)
  | 0, l, p, _, h => absurd h (Nat.not_lt_zero _)
  | c + 1, [], p, _, _ => rfl
  | c + 1, b :: r, p, g, h => by
    have g0 : okC b := g b List.mem_cons_self
    unfold okC at g0
    rw [rdS, if_pos g0, rdS_short c r (p + 1) (fun b hb => g b (List.mem_cons_of_mem _ hb)) (Nat.lt_of_succ_lt_succ h), List.length_cons]
    show Rd1.inc (p + 1 + r.length) = _
    rw [show p + 1 + r.length = p + (r.length + 1) by omega]
theorem rdS_good : ∀ (c : Nat) (l : List Int) (p : Nat), (∀ b ∈ l.take c, okC b) → c ≤ l.length → rdS c l p = .ok ((l.take c).map Int.toNat) (l.drop c) (p + c)
  | 0, l, p, _, _ => rfl
  | c + 1, [], p, _, h => absurd h (Nat.not_succ_le_zero _)
  | c + 1, b :: r, p, g, h => by
    have g0 : okC b := g b (by rw [List.take_succ_cons]; exact List.mem_cons_self)
    unfold okC at g0
    rw [rdS, if_pos g0, rdS_good c r (p + 1) (fun b hb => g b (by rw [List.take_succ_cons]; exact List.mem_cons_of_mem _ hb)) (Nat.le_of_succ_le_succ h), List.take_succ_cons, List.drop_succ_cons]
    show Rd1.ok _ _ (p + 1 + c) = _
    rw [show p + 1 + c = p + (c + 1) by omega]
    rfl
def SGN : Str := Str.ofString " !\"#$ &'()*+,-./0123456789:;<=>?@ABCDEFGHIJKLMNOPQRSTUVWXYZ[\\]^_`abcdefghijklmnopqrstuvwxyz{|}~"
theorem sgn_k : (List.range 95).all (fun n => n == 5 || decide ((tl SGN)[n]? = some (n + 32))) = true := by decide +kernel
theorem sgn_at {b : Int} (h : okC b) : atI (tl SGN) (b - 32) = some b.toNat := by
  obtain ⟨h1, h2, h3⟩ := h
  have q := List.all_eq_true.mp sgn_k (b.toNat - 32) (List.mem_range.mpr (by omega))
  rw [show b - 32 = ((b.toNat - 32 : Nat) : Int) by omega]
  refine atI_nat ?_
  rw [Bool.or_eq_true] at q
  rcases q with q | q
  · have := eq_of_beq q
    omega
  · have := of_decide_eq_true q
    rw [this, show b.toNat - 32 + 32 = b.toNat by omega]
theorem ones_join (cs : List Int) : Txt.join (Str.ofString "") (cs.map fun b => (⟨#[b.toNat]⟩ : Str)) = ⟨(cs.map Int.toNat).toArray⟩ := by
  refine ext_tl ?_
  rw [tl_joined, tl_lit0, joinL_nil, List.map_map]
  show _ = cs.map Int.toNat
  induction cs with
  | nil => rfl
  | cons b r ih => rw [List.map_cons, List.flatten_cons, ih]; rfl
theorem unp1_ne {it : Option (List Int → Nat → Rd1 PyData)} : ∀ (l : List Int) (p : Nat) (d : PyData) (r : List Int) (e : Nat), unp1 it l p = .ok d r e → 1 ≤ (rcd d).length
  | [], p, d, r, e, h => by cases h
  | b :: l, p, d, r, e, h => by
    rw [unp1_cons] at h
    split at h
    · cases h
    split at h
    · cases h; simp [rcd]
    split at h
    · cases h; simp [rcd]
    split at h
    · unfold rdB at h
      split at h
      · cases h
        rw [rcd]
        split <;> rw [List.length_cons] <;> omega
      split at h
      · cases h
        rw [rcd]
        split <;> rw [List.length_cons] <;> omega
      split at h
      · split at h
        · cases h
          rw [rcd, List.length_cons]
          omega
        · cases h
        · cases h
      split at h
      · split at h
        · cases h
          rw [rcd, List.length_cons]
          omega
        · cases h
        · cases h
      · cases h
    · cases h
    · cases h
theorem unp_ne (L : Nat) (l : List Int) (p : Nat) (d : PyData) (r : List Int) (e : Nat) (h : unp L l p = .ok d r e) : 1 ≤ (rcd d).length := by
  cases L with
  | zero => exact unp1_ne _ _ _ _ _ h
  | succ L => exact unp1_ne _ _ _ _ _ h
theorem unp_rest {L : Nat} {l : List Int} {p : Nat} {d : PyData} {r : List Int} {e : Nat} (hb : By l) (h : unp L l p = .ok d r e) : p < e ∧ e - p ≤ l.length ∧ r = l.drop (e - p) := by
  obtain ⟨h1, h2⟩ := unp_ok L l p d r e hb h
  have h3 := unp_ne L l p d r e h
  refine ⟨by omega, ?_, ?_⟩
  · rw [h1, List.length_append]; omega
  · rw [show e - p = (rcd d).length by omega, h1, List.drop_left]
theorem rdC_rest {l : List Int} {p c e : Nat} {r : List Int} (hb : By l) (h : rdC l p true 0 1 = .ok c r e) : p < e ∧ e - p ≤ l.length ∧ r = l.drop (e - p) := by
  obtain ⟨n, h1, _, h3, _⟩ := rdC_ok l p true 0 1 c e r hb h
  have h4 := cnt_pos n
  refine ⟨by omega, ?_, ?_⟩
  · rw [h1, List.length_append]
    omega
  · rw [show e - p = (cnt n).length by omega, h1, List.drop_left]
theorem By.drop {L : List Int} (h : By L) (n : Nat) : By (L.drop n) := fun b hb => h b (List.mem_of_mem_drop hb)
theorem drop_rest {L : List Int} {p e : Nat} (h : p < e) : (L.drop p).drop (e - p) = L.drop e := by rw [List.drop_drop, show p + (e - p) = e by omega]
/-- what stands ahead of the items that are read -/
def preI (ds : List PyData) : Rd1 (List PyData) → Rd1 (List PyData)
  | .ok es r e => .ok (ds ++ es) r e
  | .inc k => .inc k
  | .inv k => .inv k
theorem preI_nil (r : Rd1 (List PyData)) : preI [] r = r := by
  cases r <;> rfl
theorem rdI_step {f : List Int → Nat → Rd1 PyData} {n : Nat} {l : List Int} {p : Nat} {ds : List PyData} : preI ds (rdI f (n + 1) l p) = match f l p with
    | .ok d r e => preI (ds ++ [d]) (rdI f n r e)
    | .inc k => .inc k
    | .inv k => .inv k := by
  rw [rdI]
  cases f l p with
  | ok d r e =>
    show preI ds (match rdI f n r e with
        | .ok ds r' e' => .ok (d :: ds) r' e'
        | .inc k => .inc k
        | .inv k => .inv k) = preI (ds ++ [d]) (rdI f n r e)
    cases rdI f n r e with
    | ok es r' e' =>
      show Rd1.ok (ds ++ d :: es) r' e' = Rd1.ok (ds ++ [d] ++ es) r' e'
      rw [List.append_assoc]
      rfl
    | inc k => rfl
    | inv k => rfl
  | inc k => rfl
  | inv k => rfl
/-- where the classes stand -/
structure CU where
  Incomplete : Addr
  InvalidRecord : Addr
noncomputable def W_byte_at (c : CU) : Fn := fnX 2 2
    (cSeq (cIf (eT (e2 dGe (eV 1) (eN (f1 dLenQ) (aCons (eV 0) aNil)))) (cRaiseI c.Incomplete (eN (f1 dLenQ) (aCons (eV 0) aNil))) cNext)
    (cRet (e2 dIxL (eV 0) (eV 1))))
noncomputable def W_unpack_count (c : CU) : Fn := fnX 2 5
    (cSeq (cSet 2 (eC (.int 0)))
    (cSeq (cSet 3 (eC (.int 1)))
    (cSeq (cSet 4 (eV 1))
    (cSeq (cWhile (eT (e2 dGt (eCall (W_byte_at c) (aCons (eV 0) (aCons (eV 4) aNil))) (eC (.int 127)))) (cSeq (cSet 2 (e2 dAdd (eV 2) (e2 dMul (e2 dAnd (e2 dIxL (eV 0) (eV 4)) (eC (.int 127))) (eV 3))))
    (cSeq (cSet 3 (e2 dMul (eV 3) (eC (.int 128))))
    (cSet 4 (e2 dAdd (eV 4) (eC (.int 1)))))))
    (cSeq (cIf (bAnd (eT (e2 dEq (e2 dIxL (eV 0) (eV 4)) (eC (.int 0)))) (eT (e2 dGt (eV 4) (eV 1)))) (cRaiseI c.InvalidRecord (eV 4)) cNext)
    (cRet (eTup (aCons (e2 dAdd (eV 2) (e2 dMul (e2 dIxL (eV 0) (eV 4)) (eV 3))) (aCons (e2 dAdd (eV 4) (eC (.int 1))) aNil)))))))))
noncomputable def W_is_code (c : CU) : Fn := fn0 1 1
    (cRet (eAnd (eChain dLe dLt (eC (.int 0)) (e2 dSub (eV 0) (eC (.int (32)))) (eN (f1 dLenS) (aCons (eC (.str (Str.ofString " !\"#$ &'()*+,-./0123456789:;<=>?@ABCDEFGHIJKLMNOPQRSTUVWXYZ[\\]^_`abcdefghijklmnopqrstuvwxyz{|}~"))) aNil))) (e2 dNe (eV 0) (eC (.int (37))))))
noncomputable def W_unpack_string (c : CU) : Fn := fnX 3 6
    (cSeq (cSet 3 (eSl dSlL (eV 0) (mP1 (eV 1)) (mP1 (e2 dAdd (eV 1) (eV 2)))))
    (cSeq (cFor (eBind (eV 3) (sEnF (eV 1))) (tgTup (tgCons (tgName 4) (tgCons (tgName 5) tgNil))) (cIf (bNot (eT (eCall (W_is_code c) (aCons (eV 5) aNil)))) (cRaiseI c.InvalidRecord (eV 4)) cNext))
    (cSeq (cIf (eT (e2 dLt (eN (f1 dLenQ) (aCons (eV 3) aNil)) (eV 2))) (cRaiseI c.Incomplete (eN (f1 dLenQ) (aCons (eV 0) aNil))) cNext)
    (cRet (eTup (aCons (eM1 dJoin (eC (.str (Str.ofString ""))) (eLc (eBind (eV 3) sList) (.one 5) [5] bYes (e2 dIxS (eC (.str (Str.ofString " !\"#$ &'()*+,-./0123456789:;<=>?@ABCDEFGHIJKLMNOPQRSTUVWXYZ[\\]^_`abcdefghijklmnopqrstuvwxyz{|}~"))) (e2 dSub (eV 5) (eC (.int (32))))))) (aCons (e2 dAdd (eV 1) (eV 2)) aNil)))))))
noncomputable def W_unpack_tuple (c : CU) (g : Fn) : Fn := fnX 4 7
    (cSeq (cSet 4 (eLst aNil))
    (cSeq (cSet 5 (eV 1))
    (cSeq (cWhile (eT (e2 dLt (eN (f1 dLenQ) (aCons (eV 4) aNil)) (eV 2))) (cSeq (cAsg (eCall g (aCons (eV 0) (aCons (eV 5) (aCons (eV 3) aNil)))) (tgTup (tgCons (tgName 6) (tgCons (tgName 5) tgNil))))
    (cDrop (eBM dAppend (eV 4) (aCons (eV 6) aNil)))))
    (cRet (eTup (aCons (eN (f1 dTupL) (aCons (eV 4) aNil)) (aCons (eV 5) aNil)))))))
noncomputable def W_unpack_inside (c : CU) : Nat → Fn
  | 0 => fun _ _ => .bad
  | n + 1 => fnX 3 6
    (cSeq (cSet 3 (eCall (W_byte_at c) (aCons (eV 0) (aCons (eV 1) aNil))))
    (cSeq (cIf (bOr (eT (e2 dGt (eV 3) (eC (.int (6))))) (bAnd (eT (e2 dEq (eV 3) (eC (.int (6))))) (eT (e2 dEq (eV 2) (eC (.int (20))))))) (cRaiseI c.InvalidRecord (eV 1)) cNext)
    (cSeq (cIf (eT (e2 dEq (eV 3) (eC (.int (0))))) (cRet (eTup (aCons (eC .non) (aCons (e2 dAdd (eV 1) (eC (.int 1))) aNil)))) cNext)
    (cSeq (cIf (eT (e2 (dIn false) (eV 3) (eTup (aCons (eC (.int (1))) (aCons (eC (.int (2))) aNil))))) (cRet (eTup (aCons (e2 dEq (eV 3) (eC (.int (2)))) (aCons (e2 dAdd (eV 1) (eC (.int 1))) aNil)))) cNext)
    (cSeq (cAsg (eCall (W_unpack_count c) (aCons (eV 0) (aCons (e2 dAdd (eV 1) (eC (.int 1))) aNil))) (tgTup (tgCons (tgName 4) (tgCons (tgName 5) tgNil))))
    (cSeq (cIf (eT (e2 dEq (eV 3) (eC (.int (3))))) (cRet (eTup (aCons (eV 4) (aCons (eV 5) aNil)))) cNext)
    (cSeq (cIf (eT (e2 dEq (eV 3) (eC (.int (4))))) (cRet (eTup (aCons (e2 dSub (e1 dNeg (eV 4)) (eC (.int 1))) (aCons (eV 5) aNil)))) cNext)
    (cSeq (cIf (eT (e2 dEq (eV 3) (eC (.int (5))))) (cRet (eCall (W_unpack_string c) (aCons (eV 0) (aCons (eV 5) (aCons (eV 4) aNil))))) cNext)
    (cRet (eCall (W_unpack_tuple c (W_unpack_inside c n)) (aCons (eV 0) (aCons (eV 5) (aCons (eV 4) (aCons (e2 dAdd (eV 2) (eC (.int 1))) aNil))))))))))))))
noncomputable def W_unpack (c : CU) : Fn := fnX 2 2
    (cRet (eCall (W_unpack_inside c 21) (aCons (eV 0) (aCons (eV 1) (aCons (eC (.int 0)) aNil)))))
noncomputable def W_is_generation (c : CU) : Fn := fn0 1 1
    (cRet (eAnd (eN (f2 dIsi) (aCons (eV 0) (aCons (eC (.ty "int")) aNil))) (eAnd (eNot (eN (f2 dIsi) (aCons (eV 0) (aCons (eC (.ty "bool")) aNil)))) (e2 dGe (eV 0) (eC (.int 1))))))
noncomputable def W_read_begin (c : CU) : Fn := fn0 1 5
    (cSeq (cSet 1 (e2 dCatL (eLst (aCons (eC (.int (6))) (aCons (eC (.int 3)) aNil))) (eCall (W_pack 24) (aCons (eC (.str (Str.ofString "begin"))) aNil))))
    (cSeq (cIf (eT (e2 dNeD (eSl dSlL (eV 0) mP0 (mP1 (eN (f1 dLenQ) (aCons (eV 1) aNil)))) (eV 1))) (cRet (eC .non)) cNext)
    (cSeq (cTryT (xmT c.Incomplete c.InvalidRecord) (cSeq (cAsg (eCall (W_unpack c) (aCons (eV 0) (aCons (eN (f1 dLenQ) (aCons (eV 1) aNil)) aNil))) (tgTup (tgCons (tgName 2) (tgCons (tgName 3) tgNil))))
    (cAsg (eCall (W_unpack c) (aCons (eV 0) (aCons (eV 3) aNil))) (tgTup (tgCons (tgName 4) (tgCons (tgName 3) tgNil))))) (noEx (cRet (eC .non))))
    (cSeq (cIf (bNot (eT (eCall (W_is_generation c) (aCons (eV 2) aNil)))) (cRet (eC .non)) cNext)
    (cRet (eTup (aCons (eV 2) (aCons (eV 4) (aCons (eV 3) aNil)))))))))
noncomputable def W_read_events (c : CU) : Fn := fn0 2 5
    (cSeq (cSet 2 (eLst aNil))
    (cSeq (cSet 3 (eV 1))
    (cSeq (cWhile (eT (e2 dLt (eV 3) (eN (f1 dLenQ) (aCons (eV 0) aNil)))) (cSeq (cTryT (xmT c.Incomplete c.InvalidRecord) (cAsg (eCall (W_unpack c) (aCons (eV 0) (aCons (eV 3) aNil))) (tgTup (tgCons (tgName 4) (tgCons (tgName 3) tgNil)))) (noEx (cRet (eV 2))))
    (cDrop (eBM dAppend (eV 2) (aCons (eV 4) aNil)))))
    (cRet (eV 2)))))
noncomputable def W_read_file (c : CU) : Fn := fn0 1 5
    (cSeq (cSet 1 (eCall (W_read_begin c) (aCons (eV 0) aNil)))
    (cSeq (cIf (eT (e2 dIsN (eV 1) (eC .non))) (cRet (eC .non)) cNext)
    (cSeq (cAsg (eV 1) (tgTup (tgCons (tgName 2) (tgCons (tgName 3) (tgCons (tgName 4) tgNil)))))
    (cRet (eTup (aCons (eV 2) (aCons (eV 3) (aCons (eCall (W_read_events c) (aCons (eV 0) (aCons (eV 4) aNil))) aNil))))))))
section
variable {m : M D} {p q : Sm} {σ : Sl} {S : Sto} {nx bk ct : Sl → Sto → Prop} {rt : D → Sto → Prop} {ex : Addr → Sl → Sto → Prop} {C : Addr}
theorem w_raiseI (h : wE m σ S (fun d S1 => ∃ i : Int, d = .int i ∧ i.natAbs < 10 ^ 100 ∧ ex C σ S1) fun C S1 => ex C σ S1) : wS (cRaiseI C m) σ S ⟨nx, rt, bk, ct, ex⟩ := by
  refine w_sB ?_
  unfold wE at *
  cases e : m σ S with
  | ok d S1 =>
    rw [e] at h
    obtain ⟨i, rfl, hi, q⟩ := h
    show wS (fun σ S => if i.natAbs < 10 ^ 100 then SRes.ex C σ S else .bad) σ S1 _
    unfold wS
    simp only
    rw [if_pos hi]
    exact q
  | ex C S1 => rw [e] at h; exact h
  | bad => rw [e] at h; exact h
theorem w_tryT {xm : Addr → Option Bool} (h : wS p σ S ⟨nx, rt, bk, ct, fun C' σ1 S1 => ∃ b, xm C' = some b ∧ if b = true then wS q σ1 S1 ⟨nx, rt, bk, ct, ex⟩ else ex C' σ1 S1⟩) : wS (cTryT xm p q) σ S ⟨nx, rt, bk, ct, ex⟩ := by
  unfold wS at *
  unfold cTryT
  cases e : p σ S with
  | nx σ1 S1 => rw [e] at h; exact h
  | rt _ _ => rw [e] at h; exact h
  | bk _ _ => rw [e] at h; exact h
  | ct _ _ => rw [e] at h; exact h
  | ex C' σ1 S1 =>
    rw [e] at h
    obtain ⟨b, e2, q⟩ := h
    simp only [e2]
    cases b with
    | true => exact q
    | false => exact q
  | bad => rw [e] at h; exact h
end
theorem sgn_len95 : SGN.length = 95 := by decide +kernel
theorem byte_at {L : List Int} (h : By L) {p : Nat} {b : Int} (e : L[p]? = some b) : ∃ n : Nat, b = n ∧ n < 256 := by
  have := h b (List.mem_of_getElem? e)
  exact ⟨b.toNat, by omega, by omega⟩
theorem drop_at {α : Type} {L : List α} {p : Nat} {b : α} (e : L[p]? = some b) : L.drop p = b :: L.drop (p + 1) := by
  obtain ⟨h1, h2⟩ := List.getElem?_eq_some_iff.mp e
  rw [List.drop_eq_getElem_cons h1, h2]
theorem at_int {L : List Int} {p : Nat} {b : Int} (e : L[p]? = some b) : atI (L.map D.int) (p : Int) = some (.int b) := atI_nat (by rw [List.getElem?_map, e]; rfl)
theorem place_ok {p : Nat} (h : p ≤ 9000000) : ((p : Nat) : Int).natAbs < 10 ^ 100 := Nat.lt_of_le_of_lt (show _ ≤ 9000000 by omega) (by decide)
section
variable {c : CU} {S : Sto} {Q : QA} {X : XA} {a p : Nat} {L : List Int}
theorem byte_at_w (e : S[a]? = some (.lst (L.map .int))) (hl : L.length ≤ 9000000) (f1 : ∀ b, L[p]? = some b → Q (.int b) S) (f2 : L.length ≤ p → X c.Incomplete S) : wF (W_byte_at c [.ref a, .int p] S) Q X := by
  unfold W_byte_at
  walk_at "wX"
  refine w_seq ?_
  walk_at "w"
  refine o_lenQ (seqOf_ref e) ?_
  rw [List.length_map]
  walk_at "w"
  refine o_dec (fun h => ?_) fun h => ?_
  · refine w_raiseI ?_
    walk_at "w"
    refine o_lenQ (seqOf_ref e) ?_
    rw [List.length_map]
    exact ⟨_, rfl, place_ok hl, f2 (by omega)⟩
  · have hp : p < L.length := by omega
    walk_at "w"
    exact o_ixL e (at_int (List.getElem?_eq_getElem hp)) (f1 _ (List.getElem?_eq_getElem hp))
theorem ucount_w (e : S[a]? = some (.lst (L.map .int))) (hB : By L) (hl : L.length ≤ 9000000) (hp : p ≤ L.length) (f1 : ∀ n r k, rdC (L.drop p) p true 0 1 = .ok n r k → Q (.tup [.int n, .int k]) S) (f2 : ∀ k, rdC (L.drop p) p true 0 1 = .inc k → X c.Incomplete S) (f3 : ∀ k, rdC (L.drop p) p true 0 1 = .inv k → X c.InvalidRecord S) : wF (W_unpack_count c [.ref a, .int p] S) Q X := by
  refine Dw.Qt.un ?_
  simp (disch := (with_unfolding_all
    (unfold W_unpack_count
     walk_at "wX"
     walk_at "w"
     refine w_cut (fun σ1 S1 => S1 = S ∧ ∃ (q acc w n : Nat) (f : Bool), σ1 = [some (.ref a), some (.int p), some (.int acc), some (.int w), some (.int q)] ∧ p ≤ q ∧ L[q]? = some ((n : Nat) : Int) ∧ n < 128 ∧ (f = false ↔ p < q) ∧ (if n = 0 ∧ f = false then Rd1.inv q else .ok (acc + w * n) (L.drop (q + 1)) (q + 1)) = rdC (L.drop p) p true 0 1) ?_ fun σ1 S1 ⟨e1, q, acc, w, n, f, e2, hpq, hq, hn, hf, hrd⟩ => ?_
     · refine w_while (fun m σ S1 => S1 = S ∧ ∃ (q acc w : Nat) (f : Bool), m = L.length - q ∧ σ = [some (.ref a), some (.int p), some (.int acc), some (.int w), some (.int q)] ∧ p ≤ q ∧ q ≤ L.length ∧ (f = false ↔ p < q) ∧ rdC (L.drop q) q f acc w = rdC (L.drop p) p true 0 1) (fun m σ S1 hP => ?_) (m := L.length - p) ⟨rfl, p, 0, 1, true, rfl, rfl, Nat.le_refl _, hp, ⟨(fun h => by cases h), (fun h => absurd h (Nat.lt_irrefl _))⟩, rfl⟩
       obtain ⟨rfl, q, acc, w, f, rfl, rfl, hpq, hqL, hf, hrd⟩ := hP
       walk_at "w"
       refine byte_at_w e hl (fun b hb => ?_) fun h => ?_
       · obtain ⟨n, rfl, hn⟩ := byte_at hB hb
         have hq := (List.getElem?_eq_some_iff.mp hb).1
         rw [drop_at hb, rdC] at hrd
         walk_at "w"
         refine o_dec (fun c1 => ?_) fun c1 => ?_
         · rw [if_neg (by omega), Int.toNat_natCast] at hrd
           walk_at "w"
           refine o_ixL e (at_int hb) ?_
           walk_at "w"
           refine o_and ?_
           rw [and127]
           walk_at "w"
           · refine ⟨L.length - (q + 1), by omega, rfl, q + 1, acc + w * (n % 128), w * 128, false, rfl, ?_, by omega, by omega, ⟨(fun _ => by omega), (fun _ => rfl)⟩, hrd⟩
             rw [show (acc : Int) + ((n % 128 : Nat) : Int) * (w : Int) = ((acc + w * (n % 128) : Nat) : Int) by rw [Int.natCast_add, Int.natCast_mul, Int.mul_comm], show (w : Int) * 128 = ((w * 128 : Nat) : Int) by omega]
             rfl
           all_goals first | exact .inl ⟨by omega, by omega⟩ | exact .inr ⟨by decide, by decide⟩
         · rw [if_pos (by omega), Int.toNat_natCast] at hrd
           walk_at "w"
           refine ⟨rfl, q, acc, w, n, f, rfl, hpq, hb, by omega, hf, ?_⟩
           rw [← hrd]
           congr 1
           exact propext ⟨fun z => ⟨by omega, z.2⟩, fun z => ⟨by omega, z.2⟩⟩
       · have eq : q = L.length := by omega
         rw [eq, List.drop_length, rdC] at hrd
         exact f2 _ hrd.symm
     · subst e1 e2
       have last : ¬ (n = 0 ∧ f = false) → wS (cRet (eTup (aCons (e2 dAdd (eV 2) (e2 dMul (e2 dIxL (eV 0) (eV 4)) (eV 3))) (aCons (e2 dAdd (eV 4) (eC (.int 1))) aNil)))) [some (.ref a), some (.int p), some (.int acc), some (.int w), some (.int q)] S1 ⟨fun _ S1 => Q .non S1, Q, fun _ _ => False, fun _ _ => False, fun C _ S1 => X C S1⟩ := fun no => by
         rw [if_neg no] at hrd
         walk_at "w"
         refine o_ixL e (at_int hq) ?_
         walk_at "w"
         · have := f1 _ _ _ hrd.symm
           rw [show ((acc + w * n : Nat) : Int) = (acc : Int) + (n : Int) * (w : Int) by rw [Int.natCast_add, Int.natCast_mul, Int.mul_comm]] at this
           exact this
         · exact .inl ⟨by omega, by omega⟩
       refine w_seq ?_
       walk_at "w"
       refine o_ixL e (at_int hq) ?_
       walk_at "w"
       refine o_dec (fun c0 => ?_) fun c0 => ?_
       · walk_at "w"
         refine o_dec (fun c1 => ?_) fun c1 => ?_
         · have lq := (List.getElem?_eq_some_iff.mp hq).1
           refine w_raiseI ?_
           walk_at "w"
           rw [if_pos ⟨by omega, hf.mpr (by omega)⟩] at hrd
           exact ⟨_, rfl, place_ok (by omega), f3 _ hrd.symm⟩
         · refine w_next ?_
           exact last fun z => c1 (by have := hf.mp z.2; omega)
       · refine w_next ?_
         exact last fun z => c0 (by rw [z.1]; rfl)))) only [↓Dw.Qt.tt]
theorem is_code_w {b : Int} (f1 : okC b → Q (.bl true) S) (f2 : ¬ okC b → Q (.bl false) S) : wF (W_is_code c [.int b] S) Q X := by
  refine Dw.Qt.un ?_
  simp (disch := (with_unfolding_all
    (unfold W_is_code
     walk_at "w0"
     walk_at "w"
     refine o_dec (fun c1 => ?_) fun c1 => ?_
     · walk_at "w"
       rw [show Str.ofString " !\"#$ &'()*+,-./0123456789:;<=>?@ABCDEFGHIJKLMNOPQRSTUVWXYZ[\\]^_`abcdefghijklmnopqrstuvwxyz{|}~" = SGN from rfl]
       refine o_lenS (by rw [sgn_len95]; decide) ?_
       rw [sgn_len95]
       walk_at "w"
       refine o_dec (fun c2 => ?_) fun c2 => ?_
       · walk_at "w"
         by_cases c3 : b = 37
         · rw [decide_eq_true c3]
           exact f2 fun z => z.2.2 c3
         · rw [decide_eq_false c3]
           exact f1 ⟨by omega, by omega, c3⟩
       · walk_at "w"
         exact f2 fun z => c2 (by have := z.2.1; omega)
     · walk_at "w"
       exact f2 fun z => c1 (by have := z.1; omega)))) only [↓Dw.Qt.tt]
theorem cut_mid {ds : List D} {i n : Nat} : cutD ds (some (i : Int)) (some ((i : Int) + (n : Int))) = (ds.drop i).take n := by
  refine Dw.Qt.un ?_
  simp (disch := (with_unfolding_all
    (unfold cutD
     rw [show (i : Int) + (n : Int) = ((i + n : Nat) : Int) by omega, HT.sIx_nat, HT.sIx_nat]
     by_cases g : i ≤ ds.length
     · rw [Nat.min_eq_left g]
       by_cases g2 : i + n ≤ ds.length
       · rw [Nat.min_eq_left g2, Nat.add_sub_cancel_left]
       · rw [Nat.min_eq_right (by omega), List.take_of_length_le (by rw [List.length_drop]; exact Nat.le_refl _), List.take_of_length_le (by rw [List.length_drop]; omega)]
     · rw [List.drop_eq_nil_of_le (show ds.length ≤ i by omega), List.drop_eq_nil_of_le (by omega)]
       simp))) only [↓Dw.Qt.tt]
theorem i_enF {n : Nat} {js : List Int} {mk : M D} {σ : Sl} {QI : Src → Sto → Prop} (e : S[n]? = some (.lst (js.map .int))) (h : wE mk σ S (fun d S1 => ∃ z : Int, d = .int z ∧ (0 ≤ z ∧ z ≤ 1000000000) ∧ S1[n]? = some (.lst (js.map .int)) ∧ QI ⟨js.zipIdx.map fun p => .tup [.int (z + (p.2 : Nat)), .int p.1], fun S' => S'[n]? = some (.lst (js.map .int))⟩ S1) X) : wI (sEnF mk (.ref n)) σ S QI X := by
  refine Dw.Qt.un ?_
  simp (disch := (with_unfolding_all
    (have ej : intsOfD (js.map .int) = some js := by
       induction js with
       | nil => rfl
       | cons b bs ih =>
         have : ∀ bs : List Int, intsOfD (bs.map .int) = some bs := by
           intro bs
           induction bs with
           | nil => rfl
           | cons c cs ih => show (intsOfD (cs.map .int)).map _ = _; rw [ih]; rfl
         exact this (b :: bs)
     unfold wI sEnF
     simp only [e, ej]
     unfold wE at h
     unfold eBind
     cases em : mk σ S with
     | ok d S1 =>
       rw [em] at h
       obtain ⟨z, rfl, hz, e1, q⟩ := h
       dsimp only [Res.bind]
       rw [if_pos ⟨hz, e1⟩]
       exact q
     | ex C S1 => rw [em] at h; exact h
     | bad => rw [em] at h; exact h))) only [↓Dw.Qt.tt]
theorem o_ixS {z : Str} {i : Int} {c : Nat} (hl : z.length ≤ sizeLine) (e : atI (tl z) i = some c) (h : Q (.str ⟨#[c]⟩) S) : wO (dIxS (.str z) (.int i) S) Q := by
  unfold dIxS
  simp only
  rw [gd_ok hl, e]
  exact h
theorem ustr_w {n : Nat} (e : S[a]? = some (.lst (L.map .int))) (hl : L.length ≤ 1000000) (hp : p ≤ L.length)
    (f1 : ∀ xs r k, rdS n (L.drop p) p = .ok xs r k → ∀ S', Upto [] S S' → Q (.tup [.str ⟨xs.toArray⟩, .int k]) S') (f2 : ∀ k, rdS n (L.drop p) p = .inc k → ∀ S', Upto [] S S' → X c.Incomplete S') (f3 : ∀ k, rdS n (L.drop p) p = .inv k → ∀ S', Upto [] S S' → X c.InvalidRecord S') : wF (W_unpack_string c [.ref a, .int p, .int n] S) Q X := by
  refine Dw.Qt.un ?_
  simp (disch := (with_unfolding_all
    (unfold W_unpack_string
     walk_at "wX"
     walk_at "w"
     refine ⟨_, rfl, ?_⟩
     walk_at "w"
     refine ⟨_, rfl, ?_⟩
     refine o_slLs e ?_
     rw [cut_mid, ← List.map_drop, ← List.map_take]
     have hlc : ((L.drop p).take n).length ≤ L.length := by
       rw [List.length_take, List.length_drop]
       omega
     have e1 : (S ++ [O.lst (((L.drop p).take n).map .int)])[S.length]? = some (.lst (((L.drop p).take n).map .int)) := app_new
     have u1 : Upto [] S (S ++ [O.lst (((L.drop p).take n).map .int)]) := (Upto.refl _ _).app
     generalize S ++ [O.lst (((L.drop p).take n).map .int)] = S1 at *
     refine w_cut (fun σ1 S2 => S2 = S1 ∧ (∀ b ∈ (L.drop p).take n, okC b) ∧ ∃ x4 x5, σ1 = [some (.ref a), some (.int p), some (.int n), some (.ref S.length), x4, x5]) ?_ fun σ1 S2 ⟨e2, hg, x4, x5, e3⟩ => ?_
     · walk_at "w"
       refine i_enF e1 ?_
       walk_at "w"
       refine ⟨p, rfl, ⟨by omega, by omega⟩, e1, ?_⟩
       refine ⟨e1, w_loop (k := 0) (P := fun i σ1 S2 => S2 = S1 ∧ (∀ j, j < i → ∀ b, ((L.drop p).take n)[j]? = some b → okC b) ∧ ∃ x4 x5, σ1 = [some (.ref a), some (.int p), some (.int n), some (.ref S.length), x4, x5]) ⟨rfl, fun j h => absurd h (Nat.not_lt_zero _), none, none, rfl⟩ (fun i dd σ1 S2 hi hP => ?_) fun σ1 S2 hP => ?_⟩
       · obtain ⟨rfl, hg, x4, x5, rfl⟩ := hP
         rw [Nat.zero_add] at hg ⊢
         rw [List.getElem?_map, List.getElem?_zipIdx] at hi
         cases hb : ((L.drop p).take n)[i]? with
         | none => rw [hb] at hi; cases hi
         | some b =>
           rw [hb] at hi
           cases hi
           rw [Nat.zero_add]
           have hic : i < n := by
             have := (List.getElem?_eq_some_iff.mp hb).1
             rw [List.length_take] at this
             omega
           have hil : i < L.length := Nat.lt_of_lt_of_le (List.getElem?_eq_some_iff.mp hb).1 hlc
           walk_at "w"
           refine is_code_w (fun hc => ?_) fun hc => ?_
           · walk_at "w"
             refine ⟨e1, rfl, fun j hj b' hb' => ?_, _, _, rfl⟩
             by_cases e : j = i
             · rw [e, hb] at hb'
               cases Option.some.inj hb'
               exact hc
             · exact hg j (by omega) b' hb'
           · walk_at "w"
             refine w_raiseI ?_
             walk_at "w"
             refine ⟨_, rfl, ?_, f3 (p + i) (rdS_bad i n _ p (fun j hj b' hb' => hg j hj b' ?_) ⟨b, ?_, hc⟩ hic) _ u1⟩
             · rw [show (p : Int) + (i : Int) = ((p + i : Nat) : Int) by omega]
               exact Nat.lt_of_le_of_lt (show p + i ≤ 18000000 by omega) (by decide)
             · rw [List.getElem?_take_of_lt (by omega)]
               exact hb'
             · rw [List.getElem?_take_of_lt hic] at hb
               exact hb
       · obtain ⟨rfl, hg, x4, x5, rfl⟩ := hP
         rw [Nat.zero_add, List.length_map, List.length_zipIdx] at hg
         refine ⟨rfl, fun b hb => ?_, _, _, rfl⟩
         obtain ⟨j, hj⟩ := List.getElem?_of_mem hb
         exact hg j (List.getElem?_eq_some_iff.mp hj).1 b hj
     · subst e2 e3
       have hld : (L.drop p).length = L.length - p := List.length_drop
       refine w_seq ?_
       walk_at "w"
       refine o_lenQ (seqOf_ref e1) ?_
       rw [List.length_map]
       walk_at "w"
       refine o_dec (fun cl => ?_) fun cl => ?_
       · refine w_raiseI ?_
         walk_at "w"
         refine o_lenQ (seqOf_ref (u1.get0 e)) ?_
         rw [List.length_map]
         have hlt : (L.drop p).length < n := by
           rw [List.length_take] at cl
           omega
         have etk : (L.drop p).take n = L.drop p := List.take_of_length_le (by omega)
         exact ⟨_, rfl, place_ok (by omega), f2 _ (rdS_short n (L.drop p) p (fun b hb => hg b (by rw [etk]; exact hb)) hlt) _ u1⟩
       · have hle : n ≤ (L.drop p).length := by
           rw [List.length_take] at cl
           omega
         refine w_next ?_
         walk_at "w"
         refine ⟨_, rfl, ?_⟩
         refine c_list D.int ((L.drop p).take n) (fun _ => true) (fun b => .str ⟨#[b.toNat]⟩) ?_
         walk_at "w"
         refine i_list e1 ?_
         refine ⟨rfl, by omega, fun acc => ⟨e1, app_old e1⟩, fun b hb acc => ⟨_, rfl, ?_, fun _ => ?_⟩, ?_⟩
         · simp only [wipeA, List.foldl, List.set]
           walk_at "w"
           exact ⟨rfl, rfl⟩
         · simp only [wipeA, List.foldl, List.set]
           walk_at "w"
           rw [show Str.ofString " !\"#$ &'()*+,-./0123456789:;<=>?@ABCDEFGHIJKLMNOPQRSTUVWXYZ[\\]^_`abcdefghijklmnopqrstuvwxyz{|}~" = SGN from rfl]
           exact o_ixS (by rw [sgn_len95]; decide) (sgn_at (hg b hb)) ⟨rfl, rfl⟩
         rw [List.filter_eq_self.mpr fun _ _ => rfl]
         rw [show ((L.drop p).take n).map (fun b => D.str ⟨#[b.toNat]⟩) = (((L.drop p).take n).map fun b => (⟨#[b.toNat]⟩ : Str)).map D.str by rw [List.map_map]; rfl]
         have e5 : (S2 ++ [O.lst ((((L.drop p).take n).map fun b => (⟨#[b.toNat]⟩ : Str)).map D.str)])[S2.length]? = some (.lst ((((L.drop p).take n).map fun b => (⟨#[b.toNat]⟩ : Str)).map D.str)) := app_new
         have u5 : Upto [] S (S2 ++ [O.lst ((((L.drop p).take n).map fun b => (⟨#[b.toNat]⟩ : Str)).map D.str)]) := u1.app
         generalize S2 ++ [O.lst ((((L.drop p).take n).map fun b => (⟨#[b.toNat]⟩ : Str)).map D.str)] = S5 at *
         have hs := lens_le (B := 1) (xs := ((L.drop p).take n).map fun b => (⟨#[b.toNat]⟩ : Str)) fun x hx => by
           obtain ⟨b, _, rfl⟩ := List.mem_map.mp hx
           exact Nat.le_refl _
         rw [List.length_map] at hs
         walk_at "w"
         refine o_join (seqOf_ref e5) (by rw [len_lit0, List.length_map]; omega) ?_
         rw [ones_join]
         walk_at "w"
         have := f1 _ _ _ (rdS_good n _ p hg hle) S5 u5
         rw [show ((p + n : Nat) : Int) = (p : Int) + (n : Int) by omega] at this
         exact this))) only [↓Dw.Qt.tt]
end
mutual
def pdv : PyData → D
  | .bool b => .bl b
  | .int i => .int i
  | .str x => .str x
  | .tuple ds => .tup (pdvs ds)
  | _ => .non
def pdvs : List PyData → List D
  | [] => []
  | d :: ds => pdv d :: pdvs ds
end
theorem pdvs_map : ∀ ds : List PyData, pdvs ds = ds.map pdv
  | [] => rfl
  | d :: ds => by rw [pdvs, pdvs_map ds]; rfl
/-- a reading's answers -/
def RdQ (c : CU) (Q : QA) (X : XA) (S : Sto) (r : Rd1 PyData) : Prop := (∀ d l e, r = .ok d l e → ∀ S', Upto [] S S' → Q (.tup [pdv d, .int e]) S') ∧ (∀ k, r = .inc k → ∀ S', Upto [] S S' → X c.Incomplete S') ∧ (∀ k, r = .inv k → ∀ S', Upto [] S S' → X c.InvalidRecord S')
section
variable {c : CU} {S : Sto} {Q : QA} {X : XA} {a p : Nat} {L : List Int}
/-- a def that reads a value inside of so many tuples -/
def InsOk (c : CU) (g : Fn) (n : Nat) (dp : Int) (a : Nat) (L : List Int) : Prop := ∀ {S : Sto} {p : Nat} {Q : QA} {X : XA}, S[a]? = some (.lst (L.map .int)) → p ≤ L.length → RdQ c Q X S (unp n (L.drop p) p) → wF (g [.ref a, .int p, .int dp] S) Q X
theorem utup_w {g : Fn} {n m : Nat} {dp : Int} (hg : InsOk c g n dp a L) (e : S[a]? = some (.lst (L.map .int))) (hB : By L) (hl : L.length ≤ 1000000) (hp : p ≤ L.length)
    (f1 : ∀ ds r k, rdI (unp n) m (L.drop p) p = .ok ds r k → ∀ S', Upto [] S S' → Q (.tup [.tup (pdvs ds), .int k]) S') (f2 : ∀ k, rdI (unp n) m (L.drop p) p = .inc k → ∀ S', Upto [] S S' → X c.Incomplete S') (f3 : ∀ k, rdI (unp n) m (L.drop p) p = .inv k → ∀ S', Upto [] S S' → X c.InvalidRecord S') : wF (W_unpack_tuple c g [.ref a, .int p, .int m, .int dp] S) Q X := by
  refine Dw.Qt.un ?_
  simp (disch := (with_unfolding_all
    (unfold W_unpack_tuple
     walk_at "wX"
     walk_at "w"
     have e0 : (S ++ [O.lst []])[S.length]? = some (.lst []) := app_new
     have u0 : Upto [] S (S ++ [O.lst []]) := (Upto.refl _ _).app
     generalize S ++ [O.lst []] = S0 at *
     refine w_cut (fun σ1 S1 => Upto [] S S1 ∧ ∃ (ds : List PyData) (q : Nat) (x6 : Option D), σ1 = [some (.ref a), some (.int p), some (.int m), some (.int dp), some (.ref S.length), some (.int q), x6] ∧ S1[S.length]? = some (.lst (pdvs ds)) ∧ rdI (unp n) m (L.drop p) p = .ok ds (L.drop q) q) ?_ fun σ1 S1 ⟨u1, ds, q, x6, e2, e3, hr⟩ => ?_
     · refine w_while (fun j σ S1 => Upto [] S S1 ∧ ∃ (ds : List PyData) (q : Nat) (x6 : Option D), ds.length + j = m ∧ σ = [some (.ref a), some (.int p), some (.int m), some (.int dp), some (.ref S.length), some (.int q), x6] ∧ S1[S.length]? = some (.lst (pdvs ds)) ∧ q ≤ L.length ∧ ds.length ≤ q ∧ preI ds (rdI (unp n) j (L.drop q) q) = rdI (unp n) m (L.drop p) p) (fun j σ S1 hP => ?_) (m := m) ⟨u0, [], p, none, by simp, rfl, e0, hp, Nat.zero_le _, preI_nil _⟩
       obtain ⟨u1, ds, q, x6, hj, rfl, e2, hq, hdq, hr⟩ := hP
       have hdl : (pdvs ds).length = ds.length := by rw [pdvs_map, List.length_map]
       walk_at "w"
       refine o_lenQ (seqOf_ref e2) ?_
       rw [hdl]
       walk_at "w"
       refine o_dec (fun c1 => ?_) fun c1 => ?_
       · obtain ⟨j, rfl⟩ : ∃ i, j = i + 1 := ⟨j - 1, by omega⟩
         rw [rdI_step] at hr
         walk_at "w"
         refine hg (u1.get0 e) hq ⟨fun d l k hk S2 u2 => ?_, fun k hk S2 u2 => ?_, fun k hk S2 u2 => ?_⟩
         · rw [hk] at hr
           obtain ⟨h1, h2, h3⟩ := unp_rest (hB.drop q) hk
           rw [List.length_drop] at h2
           have e4 := u2.get0 e2
           walk_at "w"
           refine ⟨_, listAt_ref e4, ?_⟩
           walk_at "w"
           refine o_append e4 (lt_line (by rw [hdl]; omega)) ?_
           walk_at "w"
           refine ⟨j, by omega, (u1.trans u2).set (.inr (Nat.le_refl _)), ds ++ [d], k, _, by rw [List.length_append, List.length_singleton]; omega, rfl, ?_, by omega, by rw [List.length_append, List.length_singleton]; omega, ?_⟩
           · rw [set_at e4, pdvs_map, pdvs_map, List.map_append]
             rfl
           · rw [h3, drop_rest h1] at hr
             exact hr
         · rw [hk] at hr
           exact f2 k hr.symm S2 (u1.trans u2)
         · rw [hk] at hr
           exact f3 k hr.symm S2 (u1.trans u2)
       · have hj0 : j = 0 := by omega
         subst hj0
         walk_at "w"
         refine ⟨u1, ds, q, _, rfl, e2, ?_⟩
         rw [← hr, rdI]
         show Rd1.ok (ds ++ []) _ _ = _
         rw [List.append_nil]
     · subst e2
       walk_at "w"
       refine o_tupL e3 ?_
       walk_at "w"
       exact f1 _ _ _ hr S1 u1))) only [↓Dw.Qt.tt]
def itU : Nat → Option (List Int → Nat → Rd1 PyData)
  | 0 => none
  | n + 1 => some (unp n)
theorem unp_itU (n : Nat) : unp n = unp1 (itU n) := by cases n <;> rfl
theorem o_in12 {b : Int} (h : Q (.bl (decide (b = 1 ∨ b = 2))) S) : wO (dIn false (.int b) (.tup [.int 1, .int 2]) S) Q := by
  have e : inV (V.int b) [V.int 1, V.int 2] = decide (b = 1 ∨ b = 2) := by
    rw [Bool.eq_iff_iff]
    simp [inV, eqV]
    omega
  show Q (.bl (inV (V.int b) [V.int 1, V.int 2])) S
  rw [e]
  exact h
theorem inside1_w (hB : By L) (hl : L.length ≤ 1000000) {n : Nat} (hn : n ≤ 20) (ih : ∀ k, n = k + 1 → InsOk c (W_unpack_inside c n) k (20 - (k : Int)) a L) : InsOk c (W_unpack_inside c (n + 1)) n (20 - (n : Int)) a L := by
  intro S p Q X e hp ⟨f1, f2, f3⟩
  rw [unp_itU] at f1 f2 f3
  unfold W_unpack_inside
  walk_at "wX"
  walk_at "w"
  refine byte_at_w e (by omega) (fun b hb => ?_) fun h => ?_
  · obtain ⟨b0, hb0⟩ := byte_at hB hb
    have hq := (List.getElem?_eq_some_iff.mp hb).1
    rw [drop_at hb, unp1_cons] at f1 f2 f3
    have raise : ∀ nx, (6 < b ∨ (b = 6 ∧ (itU n).isNone = true)) → wS (cRaiseI c.InvalidRecord (eV 1)) [some (.ref a), some (.int p), some (.int (20 - (n : Int))), some (.int b), none, none] S ⟨nx, Q, fun _ _ => False, fun _ _ => False, fun C _ S1 => X C S1⟩ := fun nx h => by
      rw [if_pos h] at f3
      refine w_raiseI ?_
      walk_at "w"
      exact ⟨_, rfl, place_ok (by omega), f3 _ rfl S (Upto.refl _ _)⟩
    have isn : (itU n).isNone = true ↔ (20 - (n : Int)) = 20 := by
      cases n with
      | zero => exact ⟨fun _ => rfl, fun _ => rfl⟩
      | succ k => exact ⟨fun z => (by cases z), fun z => by omega⟩
    walk_at "w"
    refine w_cut (fun σ1 S1 => S1 = S ∧ ¬ (6 < b ∨ (b = 6 ∧ (itU n).isNone = true)) ∧ σ1 = [some (.ref a), some (.int p), some (.int (20 - (n : Int))), some (.int b), none, none]) ?_ fun σ1 S1 ⟨e1, hno, e2⟩ => ?_
    · walk_at "w"
      refine o_dec (fun c1 => ?_) fun c1 => ?_
      · exact raise _ (.inl c1)
      · walk_at "w"
        refine o_dec (fun c2 => ?_) fun c2 => ?_
        · walk_at "w"
          refine o_dec (fun c3 => ?_) fun c3 => ?_
          · exact raise _ (.inr ⟨c2, isn.mpr c3⟩)
          · walk_at "w"
            exact ⟨rfl, fun z => z.elim c1 fun z => c3 (isn.mp z.2), rfl⟩
        · walk_at "w"
          exact ⟨rfl, fun z => z.elim c1 fun z => c2 z.1, rfl⟩
    subst e1 e2
    rw [if_neg hno] at f1 f2 f3
    clear raise
    refine w_seq ?_
    walk_at "w"
    refine o_dec (fun c1 => ?_) fun c1 => ?_
    · rw [if_pos c1] at f1
      walk_at "w"
      exact f1 _ _ _ rfl S1 (Upto.refl _ _)
    rw [if_neg c1] at f1 f2 f3
    refine w_next ?_
    refine w_seq ?_
    walk_at "w"
    refine o_in12 ?_
    walk_at "w"
    refine o_dec (fun c2 => ?_) fun c2 => ?_
    · rw [if_pos (by omega)] at f1
      walk_at "w"
      exact f1 _ _ _ rfl S1 (Upto.refl _ _)
    rw [if_neg (by omega)] at f1 f2 f3
    refine w_next ?_
    walk_at "w"
    rw [show (p : Int) + 1 = ((p + 1 : Nat) : Int) from rfl]
    refine ucount_w e hB (by omega) (by omega) (fun m r k hk => ?_) (fun k hk => ?_) fun k hk => ?_
    · obtain ⟨k1, k2, k3⟩ := rdC_rest (hB.drop (p + 1)) hk
      rw [List.length_drop] at k2
      rw [drop_rest k1] at k3
      rw [hk] at f1 f2 f3
      dsimp only at f1 f2 f3
      unfold rdB at f1 f2 f3
      walk_at "w"
      refine w_seq ?_
      walk_at "w"
      refine o_dec (fun c3 => ?_) fun c3 => ?_
      · rw [if_pos c3] at f1
        walk_at "w"
        exact f1 _ _ _ rfl S1 (Upto.refl _ _)
      rw [if_neg c3] at f1 f2 f3
      refine w_next ?_
      refine w_seq ?_
      walk_at "w"
      refine o_dec (fun c4 => ?_) fun c4 => ?_
      · rw [if_pos c4] at f1
        walk_at "w"
        exact f1 _ _ _ rfl S1 (Upto.refl _ _)
      rw [if_neg c4] at f1 f2 f3
      refine w_next ?_
      refine w_seq ?_
      walk_at "w"
      refine o_dec (fun c5 => ?_) fun c5 => ?_
      · rw [if_pos c5, k3] at f1 f2 f3
        walk_at "w"
        refine ustr_w e hl (by omega) (fun xs r' k' h' S2 u2 => ?_) (fun k' h' S2 u2 => ?_) fun k' h' S2 u2 => ?_
        · rw [h'] at f1
          exact f1 _ _ _ rfl S2 u2
        · rw [h'] at f2
          exact f2 _ rfl S2 u2
        · rw [h'] at f3
          exact f3 _ rfl S2 u2
      rw [if_neg c5, k3] at f1 f2 f3
      refine w_next ?_
      walk_at "w"
      obtain ⟨j, rfl⟩ : ∃ j, n = j + 1 := by
        cases n with
        | zero => exact (hno (by
            by_cases z : b = 6
            · exact .inr ⟨z, rfl⟩
            · exact .inl (by omega))).elim
        | succ j => exact ⟨j, rfl⟩
      rw [show (20 : Int) - ((j + 1 : Nat) : Int) + 1 = 20 - (j : Int) by omega]
      refine utup_w (ih j rfl) e hB hl (by omega) (fun ds r' k' h' S2 u2 => ?_) (fun k' h' S2 u2 => ?_) fun k' h' S2 u2 => ?_
      · dsimp only [itU] at f1
        rw [h'] at f1
        exact f1 _ _ _ rfl S2 u2
      · dsimp only [itU] at f2
        rw [h'] at f2
        exact f2 _ rfl S2 u2
      · dsimp only [itU] at f3
        rw [h'] at f3
        exact f3 _ rfl S2 u2
    · rw [hk] at f2
      exact f2 _ rfl S1 (Upto.refl _ _)
    · rw [hk] at f3
      exact f3 _ rfl S1 (Upto.refl _ _)
  · have eL : L.drop p = [] := List.drop_eq_nil_of_le h
    rw [eL] at f2
    exact f2 p rfl S (Upto.refl _ _)
theorem inside_w (hB : By L) (hl : L.length ≤ 1000000) : ∀ n, n ≤ 20 → InsOk c (W_unpack_inside c (n + 1)) n (20 - (n : Int)) a L
  | 0, h => inside1_w hB hl h nofun
  | n + 1, h => inside1_w hB hl h fun k hk => by cases hk; exact inside_w hB hl n (by omega)
theorem unpack_w (hB : By L) (hl : L.length ≤ 1000000) (e : S[a]? = some (.lst (L.map .int))) (hp : p ≤ L.length) (h : RdQ c Q X S (unp 20 (L.drop p) p)) : wF (W_unpack c [.ref a, .int p] S) Q X := by
  unfold W_unpack
  walk_at "wX"
  walk_at "w"
  exact inside_w hB hl 20 (Nat.le_refl _) e hp h
end
noncomputable def W_load (c : CD) : Fn := fn0 1 5
    (cSeq (cSet 1 (eC (.int 1)))
    (cSeq (cSet 2 (eTup (aCons (eC (.int 0)) (aCons (eC .non) (aCons (eLst aNil) aNil)))))
    (cSeq (cFor (eBind (eTup (aCons (eC (.int 0)) (aCons (eC (.int 1)) aNil))) sTup) (tgName 3) (cSeq (cSet 4 (eCall c.rd (aCons (eMeth c.Disk (W_Disk_content c) (eV 0) (aCons (eV 3) aNil)) aNil)))
    (cIf (bAnd (eT (e2 dNotN (eV 4) (eC .non))) (eT (e2 dGt (e2 dIxT (eV 4) (eC (.int 0))) (e2 dIxT (eV 2) (eC (.int 0)))))) (cSeq (cSet 1 (eV 3))
    (cSet 2 (eV 4))) cNext)))
    (cRet (eTup (aCons (eV 1) (aCons (eV 2) aNil)))))))
noncomputable def W_Journal_init (c : CD) : Fn := fn0 2 6
    (cSeq (cAsg (eCall (W_load c) (aCons (eV 1) aNil)) (tgTup (tgCons (tgName 2) (tgCons (tgTup (tgCons (tgName 3) (tgCons (tgName 4) (tgCons (tgName 5) tgNil)))) tgNil))))
    (cSeq (cFld c.Journal 0 (eV 0) (eV 3))
    (cSeq (cFld c.Journal 1 (eV 0) (eV 4))
    (cSeq (cFld c.Journal 2 (eV 0) (eV 5))
    (cSeq (cFld c.Journal 3 (eV 0) (eV 1))
    (cSeq (cFld c.Journal 4 (eV 0) (eV 2))
    (cFld c.Journal 5 (eV 0) (eV 3))))))))
noncomputable def W_Journal_events (c : CD) : Fn := fn0 1 1
    (cRet (eN (f1 dListOf) (aCons (e1 (dFld c.Journal 2) (eV 0)) aNil)))
noncomputable def W_Journal_checkpoint (c : CD) : Fn := fnX 2 4
    (cSeq (cSet 2 (e2 dSub (eC (.int 1)) (e1 (dFld c.Journal 4) (eV 0))))
    (cSeq (cSet 3 (e2 dAdd (e1 (dFld c.Journal 5) (eV 0)) (eC (.int 1))))
    (cSeq (cDrop (eMeth c.Disk (W_Disk_clear c) (e1 (dFld c.Journal 3) (eV 0)) (aCons (eV 2) aNil)))
    (cSeq (cDrop (eMeth c.Disk (W_Disk_append c) (e1 (dFld c.Journal 3) (eV 0)) (aCons (eV 2) (aCons (eCall (W_pack 24) (aCons (eTup (aCons (eC (.str (Str.ofString "begin"))) (aCons (eV 3) (aCons (eV 1) aNil)))) aNil)) aNil))))
    (cSeq (cDrop (eMeth c.Disk (W_Disk_sync c) (e1 (dFld c.Journal 3) (eV 0)) (aCons (eV 2) aNil)))
    (cSeq (cFld c.Journal 4 (eV 0) (eV 2))
    (cFld c.Journal 5 (eV 0) (eV 3))))))))
noncomputable def W_Journal_add (c : CD) : Fn := fnX 2 2
    (cSeq (cDrop (eMeth c.Disk (W_Disk_append c) (e1 (dFld c.Journal 3) (eV 0)) (aCons (e1 (dFld c.Journal 4) (eV 0)) (aCons (eCall (W_pack 24) (aCons (eV 1) aNil)) aNil))))
    (cDrop (eMeth c.Disk (W_Disk_sync c) (e1 (dFld c.Journal 3) (eV 0)) (aCons (e1 (dFld c.Journal 4) (eV 0)) aNil))))
/-- what is owned behind a call -/
def Gb (W : Nat → Prop) (S S' : Sto) : Nat → Prop := fun n => Gr W S n ∧ n < S'.length
structure JrP (c : CD) (S : Sto) (W : Nat → Prop) (j d cur : Nat) (nw : Int) (v : Dq) : Prop where
  ob : ∃ g vl e, S[j]? = some (.obj c.Journal [g, vl, e, .ref d, .int (cur : Nat), .int nw])
  dk : DkP c.Disk S W d v
  wj : W j
  wl : ∀ n, W n → n < S.length
  hc : cur < 2
/-- an event added: the disk, and whether the call returns -/
def jad (v : Dq) (k : Nat) (r : List Int) : Dq × Bool := if v.last r.length < r.length then (v.add k r, false) else ((v.add k r).sync k, !decide ((v.add k r).last 1 < 1))
def jck (v : Dq) (k : Nat) (r : List Int) : Dq × Bool := if v.last 1 < 1 then (v.add k [-1], false) else jad (v.add k [-1]) k r
section
variable {c : CD} {S S' : Sto} {Q : QA} {X : XA} {W W' : Nat → Prop} {j d k cur : Nat} {nw : Int} {v : Dq}
theorem Gb.sub {S1 S2 : Sto} (l : S.length ≤ S1.length) (h : ∀ n, W' n → Gb W S S1 n) : ∀ n, Gr W' S1 n → Gr W S n := fun n hn => by
  rcases hn with hn | hn
  · exact (h n hn).1
  · exact .inr (by omega)
theorem JrP.up (h : JrP c S W j d cur nw v) (u : Upto [] S S') : JrP c S' W j d cur nw v := by
  obtain ⟨g, vl, e, ob⟩ := h.ob
  refine ⟨⟨g, vl, e, u.get0 ob⟩, h.dk.up u, h.wj, fun n hn => Nat.lt_of_lt_of_le (h.wl n hn) u.len, h.hc⟩
theorem JrP.keep (h : JrP c S W j d cur nw v) (l : S.length ≤ S'.length) (g : ∀ n, W n → ∀ o, S[n]? = some o → S'[n]? = some o) : JrP c S' W j d cur nw v := by
  obtain ⟨a, vl, e, ob⟩ := h.ob
  refine ⟨⟨a, vl, e, g _ h.wj _ ob⟩, h.dk.keep g, h.wj, fun n hn => Nat.lt_of_lt_of_le (h.wl n hn) l, h.hc⟩
/-- the journal's own object is no part of its disk -/
theorem DkA.not {C : Addr} {du sp : Nat} {a b : Nat → Nat} (h : DkA C S W d v du sp a b) {o : O} (e : S[j]? = some o) (n1 : ∀ x y z, o ≠ .obj C [x, y, z]) (n2 : ∀ ds, o ≠ .lst ds) : j ∉ [d, du, sp, a 0, a 1, b 0, b 1] := by
  refine Dw.Qt.un ?_
  simp (disch := (with_unfolding_all
    (intro z
     simp only [List.mem_cons, List.not_mem_nil, or_false] at z
     have f0 := h.fa 0 (by decide)
     have f1 := h.fa 1 (by decide)
     have p0 := h.pb 0 (by decide)
     have p1 := h.pb 1 (by decide)
     rcases z with rfl | rfl | rfl | rfl | rfl | rfl | rfl
     · exact n1 _ _ _ (Option.some.inj (e.symm.trans h.ob))
     · exact n2 _ (Option.some.inj (e.symm.trans h.hu))
     · exact n2 _ (Option.some.inj (e.symm.trans h.hp))
     · exact n2 _ (Option.some.inj (e.symm.trans f0))
     · exact n2 _ (Option.some.inj (e.symm.trans f1))
     · exact n2 _ (Option.some.inj (e.symm.trans p0))
     · exact n2 _ (Option.some.inj (e.symm.trans p1))))) only [↓Dw.Qt.tt]
/-- the disk's own indices -/
theorem DkA.own {C : Addr} {du sp : Nat} {a b : Nat → Nat} (h : DkA C S W d v du sp a b) : DkA C S (fun n => n ∈ [d, du, sp, a 0, a 1, b 0, b 1]) d v du sp a b :=
  { h with wd := by simp, wu := by simp, wp := by simp, wa := fun i hi => by (obtain rfl | rfl : i = 0 ∨ i = 1 := by omega) <;> simp, wb := fun i hi => by (obtain rfl | rfl : i = 0 ∨ i = 1 := by omega) <;> simp }
/-- a disk apart from what is not of it -/
theorem DkP.split {C : Addr} (h : DkP C S W d v) : ∃ D : Nat → Prop, DkP C S D d v ∧ (∀ n, D n → W n ∧ n < S.length) ∧ ∀ j o, S[j]? = some o → (∀ x y z, o ≠ .obj C [x, y, z]) → (∀ ds, o ≠ .lst ds) → ¬ D j := by
  refine Dw.Qt.un ?_
  simp (disch := (with_unfolding_all
    (obtain ⟨du, sp, a, b, h⟩ := h
     refine ⟨fun n => n ∈ [d, du, sp, a 0, a 1, b 0, b 1], ⟨du, sp, a, b, h.own⟩, fun n hn => ?_, fun j o e n1 n2 => h.not e n1 n2⟩
     simp only [List.mem_cons, List.not_mem_nil, or_false] at hn
     rcases hn with rfl | rfl | rfl | rfl | rfl | rfl | rfl
     · exact ⟨h.wd, app_lt h.ob⟩
     · exact ⟨h.wu, app_lt h.hu⟩
     · exact ⟨h.wp, app_lt h.hp⟩
     · exact ⟨h.wa 0 (by decide), app_lt (h.fa 0 (by decide))⟩
     · exact ⟨h.wa 1 (by decide), app_lt (h.fa 1 (by decide))⟩
     · exact ⟨h.wb 0 (by decide), app_lt (h.pb 0 (by decide))⟩
     · exact ⟨h.wb 1 (by decide), app_lt (h.pb 1 (by decide))⟩))) only [↓Dw.Qt.tt]
theorem add_p {r : List Int} : ((v.add k r).p k).length ≤ (v.p k).length + r.length ∧ (v.add k r).f = v.f := by
  refine ⟨?_, rfl⟩
  show (up1 v.p k (v.p k ++ r.take (v.last r.length)) k).length ≤ _
  rw [up1_at, List.length_append, List.length_take]
  omega
set_option maxHeartbeats 1000000 in
theorem jadd_w {x : D} (h : JrP c S W j d cur nw v) (hf : flat x = true) (hd : (dvp x).depth < 24) (hr : (rcd (dvp x)).length ≤ 1000000) (hl : (v.f cur).length + (v.p cur).length ≤ 7000000)
    (f : ∀ S', JrP c S' (Gb W S S') j d cur nw (jad v cur (rcd (dvp x))).1 → Fr (Gr W S) S S' → ((jad v cur (rcd (dvp x))).2 = false → X c.PowerCut S') ∧ ((jad v cur (rcd (dvp x))).2 = true → Q .non S')) : wF (W_Journal_add c [.ref j, x] S) Q X := by
  refine Dw.Qt.un ?_
  simp (disch := (with_unfolding_all
    (unfold W_Journal_add
     obtain ⟨⟨g, vl, e, ob⟩, dk, wj, wl, hc⟩ := h
     obtain ⟨D, hD, dW, nD⟩ := dk.split
     have nj : ¬ D j := nD j _ ob (fun _ _ _ z => by simp at z) nofun
     have fin : ∀ {S1 : Sto} {D1 : Nat → Prop} {v1 : Dq}, DkP c.Disk S1 D1 d v1 → (∀ n, D1 n → Gr D S n ∧ n < S1.length) → Fr (Gr D S) S S1 → JrP c S1 (Gb W S S1) j d cur nw v1 ∧ Fr (Gr W S) S S1 := fun {S1 D1 v1} h1 w1 f1 => by
       have nj1 : ¬ Gr D S j := fun z => z.elim nj fun z => absurd (app_lt ob) (by omega)
       have sub : ∀ n, Gr D S n → Gr W S n := fun n hn => hn.imp (fun z => (dW n z).1) id
       exact ⟨⟨⟨g, vl, e, f1.get nj1 ob⟩, h1.wide fun n hn hl => ⟨sub n (w1 n hn).1, hl⟩, ⟨.inl wj, Nat.lt_of_lt_of_le (app_lt ob) f1.len⟩, fun n hn => hn.2, hc⟩, f1.mono sub⟩
     walk_at "wX"
     refine w_seq ?_
     walk_at "w"
     refine o_fld ob (z := 3) rfl ?_
     obtain ⟨du, sp, a, b, hA⟩ := id hD
     refine w_obj hA.ob ?_
     walk_at "w"
     refine o_fld ob (z := 4) rfl ?_
     walk_at "w"
     refine pack_w (n := 24) hf hd hr fun S1 y u1 l1 e1 => ?_
     generalize rcd (dvp x) = r at *
     have ny : ¬ D y := fun z => by have := (dW y z).2; omega
     have f01 : Fr (Gr D S) S S1 := (Fr.refl _ _).upto u1 nofun fun n hn => .inr hn
     have l01 := u1.len
     refine append_w (hD.up u1) hc e1 ny (by omega) fun S2 h2 f2 => ⟨fun hcut => ?_, fun hok => ?_⟩
     · have ej : jad v cur r = (v.add cur r, false) := if_pos hcut
       rw [ej] at f
       obtain ⟨r1, r2⟩ := fin h2 (fun n hn => ⟨.inl hn, by have := (dW n hn).2; have := f2.len; omega⟩) (f01.trans (f2.mono fun n hn => hn.imp id fun z => by omega))
       exact (f S2 r1 r2).1 rfl
     · have ej : jad v cur r = ((v.add cur r).sync cur, !decide ((v.add cur r).last 1 < 1)) := if_neg hok
       rw [ej] at f
       have f02 : Fr (Gr D S) S S2 := f01.trans (f2.mono fun n hn => hn.imp id fun z => by omega)
       have nj1 : ¬ Gr D S j := fun z => z.elim nj fun z => absurd (app_lt ob) (by omega)
       have ob2 := f02.get nj1 ob
       have l02 := f02.len
       walk_at "w"
       refine o_fld ob2 (z := 3) rfl ?_
       obtain ⟨du2, sp2, a2, b2, hA2⟩ := id h2
       refine w_obj hA2.ob ?_
       walk_at "w"
       refine o_fld ob2 (z := 4) rfl ?_
       walk_at "w"
       have ap := add_p (v := v) (k := cur) (r := r)
       refine dsync_w h2 hc (fun n hn => by have := (dW n hn).2; omega) (by rw [ap.2]; omega) fun S3 W3 h3 f3 w3 => ?_
       obtain ⟨r1, r2⟩ := fin h3 (fun n hn => ⟨(w3 n hn).2.imp id fun z => by omega, (w3 n hn).1⟩) (f02.trans (f3.mono fun n hn => hn.imp id fun z => by omega))
       obtain ⟨q1, q2⟩ := f S3 r1 r2
       refine ⟨fun hcut => ?_, fun hok2 => ?_⟩
       · exact q1 (by rw [decide_eq_true hcut]; rfl)
       · walk_at "w"
         exact q2 (by rw [decide_eq_false hok2]; rfl)))) only [↓Dw.Qt.tt]
/-- the value of a begin record -/
def begD (g : Int) (x : D) : D := .tup [.str (Str.ofString "begin"), .int g, x]
set_option maxHeartbeats 1000000 in
theorem jchk_w {x : D} (h : JrP c S W j d cur nw v) (hf : flat x = true) (hd : (dvp (begD (nw + 1) x)).depth < 24) (hr : (rcd (dvp (begD (nw + 1) x))).length ≤ 1000000) (hl : ∀ k, k < 2 → (v.f k).length + (v.p k).length ≤ 6000000)
    (f : ∀ S' cur' nw', JrP c S' (Gb W S S') j d cur' nw' (jck v (1 - cur) (rcd (dvp (begD (nw + 1) x)))).1 → Fr (Gr W S) S S' → ((jck v (1 - cur) (rcd (dvp (begD (nw + 1) x)))).2 = false → cur' = cur → nw' = nw → X c.PowerCut S') ∧ ((jck v (1 - cur) (rcd (dvp (begD (nw + 1) x)))).2 = true → cur' = 1 - cur → nw' = nw + 1 → Q .non S')) : wF (W_Journal_checkpoint c [.ref j, x] S) Q X := by
  refine Dw.Qt.un ?_
  simp (disch := (with_unfolding_all
    (unfold W_Journal_checkpoint
     obtain ⟨⟨g, vl, e, ob⟩, dk, wj, wl, hc⟩ := h
     obtain ⟨D, hD, dW, nD⟩ := dk.split
     have nj : ¬ D j := nD j _ ob (fun _ _ _ z => by simp at z) nofun
     have nj1 : ¬ Gr D S j := fun z => z.elim nj fun z => absurd (app_lt ob) (by omega)
     have sub : ∀ n, Gr D S n → Gr W S n := fun n hn => hn.imp (fun z => (dW n z).1) id
     have fin : ∀ {S1 : Sto} {D1 : Nat → Prop} {v1 : Dq}, DkP c.Disk S1 D1 d v1 → (∀ n, D1 n → Gr D S n ∧ n < S1.length) → Fr (Gr D S) S S1 → JrP c S1 (Gb W S S1) j d cur nw v1 ∧ Fr (Gr W S) S S1 := fun {S1 D1 v1} h1 w1 f1 => by
       exact ⟨⟨⟨g, vl, e, f1.get nj1 ob⟩, h1.wide fun n hn hl => ⟨sub n (w1 n hn).1, hl⟩, ⟨.inl wj, Nat.lt_of_lt_of_le (app_lt ob) f1.len⟩, fun n hn => hn.2, hc⟩, f1.mono sub⟩
     have hk : 1 - cur < 2 := by omega
     have ek : (1 : Int) - (cur : Nat) = ((1 - cur : Nat) : Int) := by omega
     have hlk := hl (1 - cur) hk
     walk_at "wX"
     walk_at "w"
     refine o_fld ob (z := 4) rfl ?_
     walk_at "w"
     rw [ek]
     refine o_fld ob (z := 5) rfl ?_
     walk_at "w"
     refine o_fld ob (z := 3) rfl ?_
     obtain ⟨du, sp, a, b, hA⟩ := id hD
     refine w_obj hA.ob ?_
     walk_at "w"
     generalize 1 - cur = k at *
     refine clear_w hD hk (fun n hn => (dW n hn).2) (by omega) fun S1 h1 f1 => ⟨fun hcut => ?_, fun hok => ?_⟩
     · have ej : jck v k (rcd (dvp (begD (nw + 1) x))) = (v.add k [-1], false) := if_pos hcut
       rw [ej] at f
       obtain ⟨r1, r2⟩ := fin h1 (fun n hn => ⟨.inl hn, by have := (dW n hn).2; have := f1.len; omega⟩) f1
       exact (f S1 cur nw r1 r2).1 rfl rfl rfl
     · have ej : jck v k (rcd (dvp (begD (nw + 1) x))) = jad (v.add k [-1]) k (rcd (dvp (begD (nw + 1) x))) := if_neg hok
       rw [ej] at f
       clear ej
       have ap := add_p (v := v) (k := k) (r := [-1])
       generalize v.add k [-1] = v1 at *
       have ob1 := f1.get nj1 ob
       have l01 := f1.len
       walk_at "w"
       refine o_fld ob1 (z := 3) rfl ?_
       obtain ⟨du, sp, a, b, hA1⟩ := id h1
       refine w_obj hA1.ob ?_
       walk_at "w"
       refine pack_w (n := 24) (d := begD (nw + 1) x) (by simp [begD, flat, flats, hf]) hd hr fun S2 y u2 l2 e2 => ?_
       generalize rcd (dvp (begD (nw + 1) x)) = r at *
       have ny : ¬ D y := fun z => by have := (dW y z).2; omega
       have f02 : Fr (Gr D S) S S2 := f1.upto u2 nofun fun n hn => .inr (by omega)
       have l02 := f02.len
       refine append_w (h1.up u2) hk e2 ny (by have := ap.1; simp only [List.length_cons, List.length_nil] at this; omega) fun S3 h3 f3 => ⟨fun hcut => ?_, fun hok => ?_⟩
       · have ej : jad v1 k r = (v1.add k r, false) := if_pos hcut
         rw [ej] at f
         obtain ⟨r1, r2⟩ := fin h3 (fun n hn => ⟨.inl hn, by have := (dW n hn).2; have := f3.len; omega⟩) (f02.trans (f3.mono fun n hn => hn.imp id fun z => by omega))
         exact (f S3 cur nw r1 r2).1 rfl rfl rfl
       · have ej : jad v1 k r = ((v1.add k r).sync k, !decide ((v1.add k r).last 1 < 1)) := if_neg hok
         rw [ej] at f
         have f03 : Fr (Gr D S) S S3 := f02.trans (f3.mono fun n hn => hn.imp id fun z => by omega)
         have ob3 := f03.get nj1 ob
         have l03 := f03.len
         walk_at "w"
         refine o_fld ob3 (z := 3) rfl ?_
         obtain ⟨du2, sp2, a2, b2, hA2⟩ := id h3
         refine w_obj hA2.ob ?_
         walk_at "w"
         have ap2 := add_p (v := v1) (k := k) (r := r)
         have ap3 := ap.1
         simp only [List.length_cons, List.length_nil] at ap3
         refine dsync_w h3 hk (fun n hn => by have := (dW n hn).2; omega) (by rw [ap2.2, ap.2]; omega) fun S4 W4 h4 f4 w4 => ⟨fun hcut => ?_, fun hok2 => ?_⟩
         · obtain ⟨r1, r2⟩ := fin h4 (fun n hn => ⟨(w4 n hn).2.imp id fun z => by omega, (w4 n hn).1⟩) (f03.trans (f4.mono fun n hn => hn.imp id fun z => by omega))
           exact (f S4 cur nw r1 r2).1 (by rw [decide_eq_true hcut]; rfl) rfl rfl
         · have f04 : Fr (Gr D S) S S4 := f03.trans (f4.mono fun n hn => hn.imp id fun z => by omega)
           have ob4 := f04.get nj1 ob
           have l04 := f04.len
           have njW : ¬ W4 j := fun z => nj1 ((w4 j z).2.imp id fun z => by omega)
           walk_at "w"
           refine ⟨_, dFldSet_ref ob4 (show 4 < 6 by decide), ?_⟩
           have ob5 := set_at (o := .obj c.Journal ([g, vl, e, .ref d, .int (cur : Nat), .int nw].set 4 (.int (k : Nat)))) ob4
           have h5 : DkP c.Disk (S4.set j (.obj c.Journal ([g, vl, e, .ref d, .int (cur : Nat), .int nw].set 4 (.int (k : Nat))))) W4 d ((v1.add k r).sync k) := h4.keep fun n hn o eo => (set_off (fun (z : j = n) => njW (z ▸ hn))).trans eo
           have l5 : (S4.set j (.obj c.Journal ([g, vl, e, .ref d, .int (cur : Nat), .int nw].set 4 (.int (k : Nat))))).length = S4.length := List.length_set
           have f5 : Fr (Gr W S) S (S4.set j (.obj c.Journal ([g, vl, e, .ref d, .int (cur : Nat), .int nw].set 4 (.int (k : Nat))))) := (f04.mono sub).set (.inl wj)
           generalize S4.set j (.obj c.Journal ([g, vl, e, .ref d, .int (cur : Nat), .int nw].set 4 (.int (k : Nat)))) = S5 at *
           walk_at "w"
           refine ⟨_, dFldSet_ref ob5 (show 5 < 6 by decide), ?_⟩
           have ob6 := set_at (o := .obj c.Journal (([g, vl, e, .ref d, .int (cur : Nat), .int nw].set 4 (.int (k : Nat))).set 5 (.int (nw + 1)))) ob5
           have h6 : DkP c.Disk (S5.set j (.obj c.Journal (([g, vl, e, .ref d, .int (cur : Nat), .int nw].set 4 (.int (k : Nat))).set 5 (.int (nw + 1))))) W4 d ((v1.add k r).sync k) := h5.keep fun n hn o eo => (set_off (fun (z : j = n) => njW (z ▸ hn))).trans eo
           have l6 : (S5.set j (.obj c.Journal (([g, vl, e, .ref d, .int (cur : Nat), .int nw].set 4 (.int (k : Nat))).set 5 (.int (nw + 1))))).length = S5.length := List.length_set
           have f6 : Fr (Gr W S) S (S5.set j (.obj c.Journal (([g, vl, e, .ref d, .int (cur : Nat), .int nw].set 4 (.int (k : Nat))).set 5 (.int (nw + 1))))) := f5.set (.inl wj)
           refine (f _ k (nw + 1) ⟨⟨g, vl, e, ob6⟩, h6.wide fun n hn hl => ⟨?_, hl⟩, ⟨.inl wj, app_lt ob6⟩, fun n hn => hn.2, hk⟩ f6).2 (by rw [decide_eq_false hok2]; rfl) rfl rfl
           exact sub n ((w4 n hn).2.imp id fun z => by omega)))) only [↓Dw.Qt.tt]
end
abbrev Rdr := List Int → Option (Int × D × List D)
/-- the def that reads a file keeps this function -/
def RdOk (c : CD) (G : List Int → Prop) (R : Rdr) : Prop := ∀ {S : Sto} {k : Nat} {cs : List Int} {Q : QA} {X : XA}, G cs → S[k]? = some (.lst (cs.map .int)) → cs.length ≤ 9000000 → (R cs = none → ∀ S', Upto [] S S' → Q .non S') → (∀ g x es, R cs = some (g, x, es) → ∀ S' n, Upto [] S S' → S.length ≤ n → S'[n]? = some (.lst es) → Q (.tup [.int g, x, .ref n]) S') → wF (c.rd [.ref k] S) Q X
def Dq.con (v : Dq) (k : Nat) : List Int := aftI (v.f k) (v.p k)
def ldS (R : Rdr) (v : Dq) : Nat → Nat × Int × D × List D
  | 0 => (1, 0, .non, [])
  | i + 1 => match R (v.con i) with
    | some (g, x, es) => if g > (ldS R v i).2.1 then (i, g, x, es) else ldS R v i
    | none => ldS R v i
section
variable {c : CD} {S S' : Sto} {Q : QA} {X : XA} {W W' : Nat → Prop} {j d k cur : Nat} {nw : Int} {v : Dq} {R : Rdr} {G : List Int → Prop}
theorem load_w (hR : RdOk c G R) (h : DkP c.Disk S W d v) (hG : ∀ k, k < 2 → G (v.con k)) (hl : ∀ k, k < 2 → (v.f k).length + (v.p k).length ≤ 8000000) (f : ∀ S' e, Upto [] S S' → S.length ≤ e → S'[e]? = some (.lst (ldS R v 2).2.2.2) → Q (.tup [.int ((ldS R v 2).1 : Nat), .tup [.int (ldS R v 2).2.1, (ldS R v 2).2.2.1, .ref e]]) S') : wF (W_load c [.ref d] S) Q X := by
  refine Dw.Qt.un ?_
  simp (disch := (with_unfolding_all
    (unfold W_load
     walk_at "w0"
     walk_at "w"
     have e0 : (S ++ [O.lst []])[S.length]? = some (.lst []) := app_new
     have u0 : Upto [] S (S ++ [O.lst []]) := (Upto.refl _ _).app
     generalize S ++ [O.lst []] = S0 at *
     refine w_cut (fun σ1 S1 => ∃ x3 x4 e, σ1 = [some (.ref d), some (.int ((ldS R v 2).1 : Nat)), some (.tup [.int (ldS R v 2).2.1, (ldS R v 2).2.2.1, .ref e]), x3, x4] ∧ Upto [] S S1 ∧ S.length ≤ e ∧ S1[e]? = some (.lst (ldS R v 2).2.2.2)) ?_ fun σ1 S1 ⟨x3, x4, e, e3, u1, l1, g1⟩ => ?_
     · walk_at "w"
       refine ⟨trivial, w_loop (k := 0) (P := fun i σ1 S1 => ∃ x3 x4 e, σ1 = [some (.ref d), some (.int ((ldS R v i).1 : Nat)), some (.tup [.int (ldS R v i).2.1, (ldS R v i).2.2.1, .ref e]), x3, x4] ∧ Upto [] S S1 ∧ S.length ≤ e ∧ S1[e]? = some (.lst (ldS R v i).2.2.2)) ⟨none, none, S.length, rfl, u0, Nat.le_refl _, e0⟩ (fun i x σ S1 hi hP => ?_) fun σ S1 hP => hP⟩
       obtain ⟨x3, x4, e, rfl, u1, l1, g1⟩ := hP
       rw [Nat.zero_add] at g1 ⊢
       have hi2 : i < 2 := (List.getElem?_eq_some_iff.mp hi).1
       have ex : x = .int ((i : Nat) : Int) := by
         obtain rfl | rfl : i = 0 ∨ i = 1 := by omega
         · cases hi; rfl
         · cases hi; rfl
       subst ex
       obtain ⟨du, sp, a, b, hA⟩ := h.up u1
       walk_at "w"
       refine w_obj hA.ob ?_
       walk_at "w"
       have lk := hl i hi2
       refine content_w (h.up u1) hi2 (by omega) fun S2 n u2 l2 e2 => ?_
       walk_at "w"
       have la := aftI_len (v.p i) (v.f i)
       have g2 := u2.get0 g1
       have eq1 : ldS R v (i + 1) = match R (v.con i) with
         | some (g, x, es) => if g > (ldS R v i).2.1 then (i, g, x, es) else ldS R v i
         | none => ldS R v i := rfl
       refine hR (cs := v.con i) (hG i hi2) e2 (by show (aftI _ _).length ≤ _; omega) (fun hn S3 u3 => ?_) fun g y es hs S3 m u3 l3 e3 => ?_
       · rw [hn] at eq1
         walk_at "w"
         refine if_no rfl ?_
         walk_at "w"
         rw [eq1]
         exact ⟨trivial, _, _, e, rfl, (u1.trans u2).trans u3, l1, u3.get0 g2⟩
       · rw [hs] at eq1
         walk_at "w"
         refine if_yes rfl ?_
         walk_at "w"
         refine o_dec (fun hc => ?_) fun hc => ?_
         · have eq2 : ldS R v (i + 1) = (i, g, y, es) := eq1.trans (if_pos (show g > (ldS R v i).2.1 from hc))
           walk_at "w"
           rw [eq2]
           have z1 := u1.len
           have z2 := u2.len
           exact ⟨trivial, _, _, m, rfl, (u1.trans u2).trans u3, by omega, e3⟩
         · have eq2 : ldS R v (i + 1) = ldS R v i := eq1.trans (if_neg (show ¬ g > (ldS R v i).2.1 from hc))
           walk_at "w"
           rw [eq2]
           exact ⟨trivial, _, _, e, rfl, (u1.trans u2).trans u3, l1, u3.get0 g2⟩
     · subst e3
       walk_at "w"
       exact f S1 e u1 l1 g1))) only [↓Dw.Qt.tt]
theorem jinit_w (hR : RdOk c G R) (ho : S[j]? = some (.obj c.Journal [])) (h : DkP c.Disk S W d v) (hG : ∀ k, k < 2 → G (v.con k)) (hl : ∀ k, k < 2 → (v.f k).length + (v.p k).length ≤ 8000000) (f : ∀ S' e, Upto [j] S S' → S.length ≤ e → S'[e]? = some (.lst (ldS R v 2).2.2.2) → S'[j]? = some (.obj c.Journal [.int (ldS R v 2).2.1, (ldS R v 2).2.2.1, .ref e, .ref d, .int ((ldS R v 2).1 : Nat), .int (ldS R v 2).2.1]) → Q .non S') : wF (W_Journal_init c [.ref j, .ref d] S) Q X := by
  refine Dw.Qt.un ?_
  simp (disch := (with_unfolding_all
    (unfold W_Journal_init
     walk_at "w0"
     walk_at "w"
     refine load_w hR h hG hl fun S1 e u1 l1 e1 => ?_
     generalize ldS R v 2 = r at *
     have h1 := u1.get0 ho
     have ne : j ≠ e := at_ne h1 e1 nofun
     walk_at "w"
     refine s_new0 h1 rfl ?_
     walk_at "w"
     refine s_new0 (set_at h1) rfl ?_
     simp only [List.set_set, List.nil_append, List.cons_append]
     walk_at "w"
     refine s_new0 (set_at h1) rfl ?_
     simp only [List.set_set, List.nil_append, List.cons_append]
     walk_at "w"
     refine s_new0 (set_at h1) rfl ?_
     simp only [List.set_set, List.nil_append, List.cons_append]
     walk_at "w"
     refine s_new0 (set_at h1) rfl ?_
     simp only [List.set_set, List.nil_append, List.cons_append]
     walk_at "w"
     refine s_new0 (set_at h1) rfl ?_
     simp only [List.set_set, List.nil_append, List.cons_append]
     exact f _ e (u1.any.set (.inl (by simp))) l1 ((set_off ne).trans e1) (set_at h1)))) only [↓Dw.Qt.tt]
theorem jevents_w {x1 x2 x4 x5 x6 : D} {e : Nat} {es : List D} (ho : S[j]? = some (.obj c.Journal [x1, x2, .ref e, x4, x5, x6])) (he : S[e]? = some (.lst es)) (f : Q (.ref S.length) (S ++ [.lst es])) : wF (W_Journal_events c [.ref j] S) Q X := by
  unfold W_Journal_events
  walk_at "w0"
  walk_at "w"
  refine o_fld ho (z := 2) rfl ?_
  walk_at "w"
  exact o_listOf (seqOf_ref he) f
end
/-- the events behind index p -/
def evs : Nat → List Int → Nat → List PyData
  | 0, _, _ => []
  | n + 1, L, p => if p < L.length then (match unp 20 (L.drop p) p with | .ok d _ e => d :: evs n L e | _ => []) else []
def genOk : PyData → Bool
  | .int i => decide (1 ≤ i)
  | _ => false
def begB : List Int := [6, 3, 5, 5, 98, 101, 103, 105, 110]
/-- the begin record: generation, value, the index behind it -/
def rbeg (L : List Int) : Option (Int × PyData × Nat) :=
  if L.take 9 = begB then
    (match unp 20 (L.drop 9) 9 with
      | .ok g _ p =>
        (match unp 20 (L.drop p) p with
          | .ok d _ e => (match g with | .int i => if 1 ≤ i then some (i, d, e) else none | _ => none)
          | _ => none)
      | _ => none)
  else none
theorem rcd_begin : rcd (.str (Str.ofString "begin")) = [5, 5, 98, 101, 103, 105, 110] := by
  rw [rcd]
  decide +kernel
def rdF : Rdr := fun cs => (rbeg cs).map fun x => (x.1, pdv x.2.1, pdvs (evs (cs.length - x.2.2) cs x.2.2))
theorem eqv_intsL : ∀ xs ys : List Int, PyData.eqvAll (xs.map PyData.int) (ys.map PyData.int) = decide (xs = ys)
  | [], [] => by simp [PyData.eqvAll]
  | [], _ :: _ => by simp [PyData.eqvAll]
  | _ :: _, [] => by simp [PyData.eqvAll]
  | x :: xs, y :: ys => by
    simp only [List.map_cons, PyData.eqvAll, PyData.eqv, eqv_intsL xs ys]
    by_cases h : x = y <;> by_cases h' : xs = ys <;> simp [h, h']
section
variable {c : CU} {S : Sto} {Q : QA} {X : XA} {a p : Nat} {L : List Int}
theorem o_neInts {m n : Nat} {xs ys : List Int} (e1 : S[m]? = some (.lst (xs.map .int))) (e2 : S[n]? = some (.lst (ys.map .int))) (h : Q (.bl (!decide (xs = ys))) S) : wO (dNeD (.ref m) (.ref n) S) Q := by
  refine Dw.Qt.un ?_
  simp (disch := (with_unfolding_all
    (have p1 : Pd S 1 (.ref m) (.list (xs.map .int)) := .lst (n := 0) e1 (.map fun x _ => .int x)
     have p2 : Pd S 1 (.ref n) (.list (ys.map .int)) := .lst (n := 0) e2 (.map fun x _ => .int x)
     refine o_neD (v := decide (xs = ys)) ?_ h
     unfold dEqv
     rw [p1.py 69 (by decide), p2.py 69 (by decide)]
     show gd _ _ = _
     rw [gd_ok ⟨p1.sh.shaped, p2.sh.shaped⟩]
     show some (PyData.eqv (.list _) (.list _)) = _
     rw [show PyData.eqv (.list (xs.map PyData.int)) (.list (ys.map PyData.int)) = PyData.eqvAll (xs.map PyData.int) (ys.map PyData.int) by rw [PyData.eqv], eqv_intsL]))) only [↓Dw.Qt.tt]
theorem is_gen_w {d : PyData} (f : Q (.bl (genOk d)) S) : wF (W_is_generation c [pdv d] S) Q X := by
  refine Dw.Qt.un ?_
  simp (disch := (with_unfolding_all
    (unfold W_is_generation
     walk_at "w0"
     walk_at "w"
     have no : pdv d = .non → genOk d = false → Q (.bl false) S := fun _ h => by rw [h] at f; exact f
     cases d with
     | none =>
       refine o_isi (nm := "NoneType") (k := false) rfl (by decide +kernel) ?_
       walk_at "w"
       exact f
     | bool b =>
       refine o_isi (nm := "bool") (k := true) rfl (by decide +kernel) ?_
       walk_at "w"
       refine o_isi (nm := "bool") (k := true) rfl (by decide +kernel) ?_
       walk_at "w"
       exact f
     | int i =>
       refine o_isi (nm := "int") (k := true) rfl (by decide +kernel) ?_
       walk_at "w"
       refine o_isi (nm := "int") (k := false) rfl (by decide +kernel) ?_
       walk_at "w"
       exact f
     | str x =>
       refine o_isi (nm := "str") (k := false) rfl (by decide +kernel) ?_
       walk_at "w"
       exact f
     | tuple ds =>
       refine o_isi (nm := "tuple") (k := false) rfl (by decide +kernel) ?_
       walk_at "w"
       exact f
     | list ds =>
       refine o_isi (nm := "NoneType") (k := false) rfl (by decide +kernel) ?_
       walk_at "w"
       exact f
     | dict ds =>
       refine o_isi (nm := "NoneType") (k := false) rfl (by decide +kernel) ?_
       walk_at "w"
       exact f))) only [↓Dw.Qt.tt]
theorem xmT_l {A B : Addr} : xmT A B A = some true := by unfold xmT; rw [if_pos (.inl rfl)]
theorem xmT_r {A B : Addr} : xmT A B B = some true := by unfold xmT; rw [if_pos (.inr rfl)]
theorem revents_w (hB : By L) (hl : L.length ≤ 1000000) (e : S[a]? = some (.lst (L.map .int))) (hp : p ≤ L.length) (f : ∀ S' n, Upto [] S S' → S.length ≤ n → S'[n]? = some (.lst (pdvs (evs (L.length - p) L p))) → Q (.ref n) S') : wF (W_read_events c [.ref a, .int p] S) Q X := by
  refine Dw.Qt.un ?_
  simp (disch := (with_unfolding_all
    (unfold W_read_events
     walk_at "w0"
     walk_at "w"
     have e0 : (S ++ [O.lst []])[S.length]? = some (.lst []) := app_new
     have u0 : Upto [] S (S ++ [O.lst []]) := (Upto.refl _ _).app
     generalize S ++ [O.lst []] = S0 at *
     refine w_cut (fun σ1 S1 => Upto [] S S1 ∧ S1[S.length]? = some (.lst (pdvs (evs (L.length - p) L p))) ∧ ∃ x3 x4, σ1 = [some (.ref a), some (.int p), some (.ref S.length), x3, x4]) ?_ fun σ1 S1 ⟨u1, e1, x3, x4, e2⟩ => ?_
     · refine w_while (fun m σ S1 => Upto [] S S1 ∧ ∃ (ds : List PyData) (q n : Nat) (x4 : Option D), m = L.length - q ∧ σ = [some (.ref a), some (.int p), some (.ref S.length), some (.int q), x4] ∧ S1[S.length]? = some (.lst (pdvs ds)) ∧ ds.length ≤ q ∧ q ≤ L.length ∧ L.length - q ≤ n ∧ ds ++ evs n L q = evs (L.length - p) L p) (fun m σ S1 hP => ?_) (m := L.length - p) ⟨u0, [], p, L.length - p, none, rfl, rfl, e0, Nat.zero_le _, hp, Nat.le_refl _, rfl⟩
       obtain ⟨u1, ds, q, n, x4, rfl, rfl, e1, hdq, hq, hn, hev⟩ := hP
       have hdl : (pdvs ds).length = ds.length := by rw [pdvs_map, List.length_map]
       walk_at "w"
       refine o_lenQ (seqOf_ref (u1.get0 e)) ?_
       rw [List.length_map]
       walk_at "w"
       refine o_dec (fun c1 => ?_) fun c1 => ?_
       · obtain ⟨n, rfl⟩ : ∃ m, n = m + 1 := ⟨n - 1, by omega⟩
         rw [evs, if_pos (by omega)] at hev
         refine w_seq ?_
         refine w_tryT ?_
         walk_at "w"
         refine unpack_w hB hl (u1.get0 e) hq ⟨fun d l k hk S2 u2 => ?_, fun k hk S2 u2 => ⟨true, xmT_l, ?_⟩, fun k hk S2 u2 => ⟨true, xmT_r, ?_⟩⟩
         · rw [hk] at hev
           obtain ⟨h1, h2, h3⟩ := unp_rest (hB.drop q) hk
           rw [List.length_drop] at h2
           have e4 := u2.get0 e1
           walk_at "w"
           refine ⟨_, listAt_ref e4, ?_⟩
           walk_at "w"
           refine o_append e4 (lt_line (by rw [hdl]; omega)) ?_
           walk_at "w"
           refine ⟨L.length - k, by omega, (u1.trans u2).set (.inr (Nat.le_refl _)), ds ++ [d], k, n, _, rfl, rfl, ?_, by rw [List.length_append, List.length_singleton]; omega, by omega, by omega, ?_⟩
           · rw [set_at e4, pdvs_map, pdvs_map, List.map_append]
             rfl
           · rw [List.append_assoc]
             exact hev
         · rw [hk] at hev
           rw [List.append_nil] at hev
           rw [if_pos rfl]
           refine w_noEx ?_
           walk_at "w"
           exact f S2 _ (u1.trans u2) (Nat.le_refl _) (by rw [← hev]; exact u2.get0 e1)
         · rw [hk] at hev
           rw [List.append_nil] at hev
           rw [if_pos rfl]
           refine w_noEx ?_
           walk_at "w"
           exact f S2 _ (u1.trans u2) (Nat.le_refl _) (by rw [← hev]; exact u2.get0 e1)
       · walk_at "w"
         refine ⟨u1, ?_, _, _, rfl⟩
         cases n with
         | zero => rw [evs, List.append_nil] at hev; rw [← hev]; exact e1
         | succ n => rw [evs, if_neg (by omega), List.append_nil] at hev; rw [← hev]; exact e1
     · subst e2
       walk_at "w"
       exact f S1 _ u1 (Nat.le_refl _) e1))) only [↓Dw.Qt.tt]
theorem beg_lit : (6 :: 3 :: rcd (dvp (.str (Str.ofString "begin")))) = begB := by
  rw [show dvp (.str (Str.ofString "begin")) = .str (Str.ofString "begin") from rfl, rcd_begin]
  rfl
theorem rbegin_w (hB : By L) (hl : L.length ≤ 1000000) (e : S[a]? = some (.lst (L.map .int))) (f1 : rbeg L = none → ∀ S', Upto [] S S' → Q .non S') (f2 : ∀ g d k, rbeg L = some (g, d, k) → k ≤ L.length → ∀ S', Upto [] S S' → Q (.tup [.int g, pdv d, .int (k : Nat)]) S') : wF (W_read_begin c [.ref a] S) Q X := by
  refine Dw.Qt.un ?_
  simp (disch := (with_unfolding_all
    (unfold W_read_begin
     walk_at "w0"
     walk_at "w"
     have e0 : (S ++ [O.lst [.int 6, .int 3]])[S.length]? = some (.lst [.int 6, .int 3]) := app_new
     have u0 : Upto [] S (S ++ [O.lst [.int 6, .int 3]]) := (Upto.refl _ _).app
     generalize S ++ [O.lst [.int 6, .int 3]] = S0 at *
     have bl : (rcd (dvp (.str (Str.ofString "begin")))).length ≤ 100 := by decide +kernel
     refine pack_w (n := 24) rfl (by decide +kernel) (by omega) fun S1 y u1 l1 e1 => ?_
     refine o_cat (u1.get0 e0) e1 (line_of (by rw [List.length_map]; show 2 + _ ≤ _; omega)) ?_
     rw [show [D.int 6, .int 3] ++ (rcd (dvp (.str (Str.ofString "begin")))).map .int = begB.map .int by rw [← beg_lit]; rfl]
     have e2 : (S1 ++ [O.lst (begB.map .int)])[S1.length]? = some (.lst (begB.map .int)) := app_new
     have u2 : Upto [] S (S1 ++ [O.lst (begB.map .int)]) := (u0.trans u1).app
     generalize S1 ++ [O.lst (begB.map .int)] = S2 at *
     generalize S1.length = b at *
     clear u0 u1 e0 e1 bl
     walk_at "w"
     refine w_seq ?_
     walk_at "w"
     refine o_lenQ (seqOf_ref e2) ?_
     rw [List.length_map]
     walk_at "w"
     refine ⟨_, rfl, ?_⟩
     refine o_slLs (u2.get0 e) ?_
     rw [cut_take, ← List.map_take]
     have u3 : Upto [] S (S2 ++ [O.lst ((L.take begB.length).map .int)]) := u2.app
     have e4 : (S2 ++ [O.lst ((L.take begB.length).map .int)])[S2.length]? = some (.lst ((L.take begB.length).map .int)) := app_new
     have e5 := app_old (o := O.lst ((L.take begB.length).map .int)) e2
     generalize S2 ++ [O.lst ((L.take begB.length).map .int)] = S3 at *
     walk_at "w"
     refine o_neInts e4 e5 ?_
     walk_at "w"
     unfold rbeg at f1 f2
     rw [show begB.length = 9 from rfl]
     by_cases c1 : L.take 9 = begB
     rotate_left
     · rw [if_neg c1] at f1
       refine if_yes (by rw [decide_eq_false c1]; rfl) ?_
       walk_at "w"
       exact f1 rfl S3 u3
     rw [if_pos c1] at f1 f2
     refine if_no (by rw [decide_eq_true c1]; rfl) ?_
     refine w_next ?_
     have l9 : 9 ≤ L.length := by
       have := congrArg List.length c1
       rw [List.length_take] at this
       have e9 : begB.length = 9 := rfl
       omega
     refine w_cut (fun σ1 S4 => Upto [] S S4 ∧ ∃ (g d : PyData) (k : Nat) (l1 : List Int) (k1 : Nat) (l2 : List Int), unp 20 (L.drop 9) 9 = .ok g l1 k1 ∧ unp 20 (L.drop k1) k1 = .ok d l2 k ∧ k ≤ L.length ∧ σ1 = [some (.ref a), some (.ref b), some (pdv g), some (.int k), some (pdv d)]) ?_ fun σ1 S4 ⟨u4, g, d, k, l1, k1, l2, h1, h2, hk, e6⟩ => ?_
     · refine w_tryT ?_
       walk_at "w"
       refine o_lenQ (seqOf_ref e5) ?_
       rw [List.length_map, show begB.length = 9 from rfl]
       walk_at "w"
       refine unpack_w hB hl (u3.get0 e) l9 ⟨fun d l k hk S4 u4 => ?_, fun k hk S4 u4 => ⟨true, xmT_l, ?_⟩, fun k hk S4 u4 => ⟨true, xmT_r, ?_⟩⟩
       · obtain ⟨h1, h2, h3⟩ := unp_rest (hB.drop 9) hk
         rw [List.length_drop] at h2
         walk_at "w"
         refine unpack_w hB hl ((u3.trans u4).get0 e) (by omega) ⟨fun d2 l2 k2 hk2 S5 u5 => ?_, fun k2 hk2 S5 u5 => ⟨true, xmT_l, ?_⟩, fun k2 hk2 S5 u5 => ⟨true, xmT_r, ?_⟩⟩
         · obtain ⟨g1, g2, g3⟩ := unp_rest (hB.drop k) hk2
           rw [List.length_drop] at g2
           walk_at "w"
           exact ⟨(u3.trans u4).trans u5, d, d2, k2, l, k, l2, hk, hk2, by omega, rfl⟩
         · rw [if_pos rfl]
           refine w_noEx ?_
           walk_at "w"
           rw [hk] at f1
           dsimp only at f1
           rw [hk2] at f1
           exact f1 rfl S5 ((u3.trans u4).trans u5)
         · rw [if_pos rfl]
           refine w_noEx ?_
           walk_at "w"
           rw [hk] at f1
           dsimp only at f1
           rw [hk2] at f1
           exact f1 rfl S5 ((u3.trans u4).trans u5)
       · rw [if_pos rfl]
         refine w_noEx ?_
         walk_at "w"
         rw [hk] at f1
         exact f1 rfl S4 (u3.trans u4)
       · rw [if_pos rfl]
         refine w_noEx ?_
         walk_at "w"
         rw [hk] at f1
         exact f1 rfl S4 (u3.trans u4)
     · subst e6
       rw [h1] at f1 f2
       dsimp only at f1 f2
       rw [h2] at f1 f2
       dsimp only at f1 f2
       refine w_seq ?_
       walk_at "w"
       refine is_gen_w ?_
       cases hg : genOk g with
       | false =>
         walk_at "w"
         refine f1 ?_ S4 u4
         cases g with
         | int i =>
           have : ¬ 1 ≤ i := of_decide_eq_false hg
           exact if_neg this
         | _ => rfl
       | true =>
         walk_at "w"
         cases g with
         | int i =>
           have : 1 ≤ i := of_decide_eq_true hg
           exact f2 i d k (if_pos this) hk S4 u4
         | _ => cases hg))) only [↓Dw.Qt.tt]
theorem rfile_w (hB : By L) (hl : L.length ≤ 1000000) (e : S[a]? = some (.lst (L.map .int))) (f1 : rdF L = none → ∀ S', Upto [] S S' → Q .non S') (f2 : ∀ g x es, rdF L = some (g, x, es) → ∀ S' n, Upto [] S S' → S.length ≤ n → S'[n]? = some (.lst es) → Q (.tup [.int g, x, .ref n]) S') : wF (W_read_file c [.ref a] S) Q X := by
  refine Dw.Qt.un ?_
  simp (disch := (with_unfolding_all
    (unfold W_read_file
     unfold rdF at f1 f2
     walk_at "w0"
     walk_at "w"
     refine rbegin_w hB hl e (fun h S1 u1 => ?_) fun g d k h hk S1 u1 => ?_
     · rw [h] at f1
       refine w_seq ?_
       walk_at "w"
       refine if_yes rfl ?_
       walk_at "w"
       exact f1 rfl S1 u1
     · rw [h] at f2
       refine w_seq ?_
       walk_at "w"
       refine if_no rfl ?_
       walk_at "w"
       refine revents_w hB hl (u1.get0 e) hk fun S2 n u2 l2 e2 => ?_
       walk_at "w"
       have := u1.len
       exact f2 _ _ _ rfl S2 n (u1.trans u2) (by omega) e2))) only [↓Dw.Qt.tt]
end
theorem okvS {x : Str} (h : OkV (.str x)) : x.length ≤ 1000 ∧ ∀ c ∈ x.cps.toList, okSign c := by unfold OkV at h; exact h
theorem okvT {ds : List PyData} (h : OkV (.tuple ds)) : ds.length ≤ 1000 ∧ OkL ds := by unfold OkV at h; exact h
mutual
theorem rcd_by : ∀ (d : PyData), OkV d → By (rcd d)
  | .none, _ => by
    rw [rcd]
    intro b hb
    rw [List.mem_singleton.mp hb]
    decide
  | .bool k, _ => by
    rw [rcd]
    intro b hb
    rw [List.mem_singleton.mp hb]
    cases k <;> decide
  | .int i, _ => by
    rw [rcd]
    intro b hb
    split at hb
    · rcases List.mem_cons.mp hb with rfl | hb
      · decide
      · exact cnt_byte _ b hb
    · rcases List.mem_cons.mp hb with rfl | hb
      · decide
      · exact cnt_byte _ b hb
  | .str x, h => by
    obtain ⟨_, g⟩ := okvS h
    rw [rcd]
    intro b hb
    rcases List.mem_cons.mp hb with rfl | hb
    · decide
    · rcases List.mem_append.mp hb with hb | hb
      · exact cnt_byte _ b hb
      · unfold sgn at hb
        obtain ⟨c, hc, rfl⟩ := List.mem_map.mp hb
        have := (g c hc).2.1
        omega
  | .tuple ds, h => by
    obtain ⟨_, g⟩ := okvT h
    rw [rcd]
    intro b hb
    rcases List.mem_cons.mp hb with rfl | hb
    · decide
    · rcases List.mem_append.mp hb with hb | hb
      · exact cnt_byte _ b hb
      · exact rcdL_by ds g b hb
  | .list _, h => by
    unfold OkV at h
    exact h.elim
  | .dict _, h => by
    unfold OkV at h
    exact h.elim
theorem rcdL_by : ∀ (ds : List PyData), OkL ds → By (rcdL ds)
  | [], _ => by
    rw [rcdL]
    exact fun b hb => nomatch hb
  | d :: ds, h => by
    unfold OkL at h
    rw [rcdL]
    intro b hb
    rcases List.mem_append.mp hb with hb | hb
    · exact rcd_by d h.1 b hb
    · exact rcdL_by ds h.2 b hb
end
theorem rcd_pos : ∀ (d : PyData), OkV d → 1 ≤ (rcd d).length
  | .none, _ => by rw [rcd]; exact Nat.le_refl _
  | .bool b, _ => by rw [rcd]; exact Nat.le_refl _
  | .int i, _ => by rw [rcd]; split <;> exact Nat.succ_le_succ (Nat.zero_le _)
  | .str x, _ => by rw [rcd]; exact Nat.succ_le_succ (Nat.zero_le _)
  | .tuple ds, _ => by rw [rcd]; exact Nat.succ_le_succ (Nat.zero_le _)
  | .list _, h => by unfold OkV at h; exact h.elim
  | .dict _, h => by unfold OkV at h; exact h.elim
/-- a value that a record may hold -/
structure Vd (d : PyData) : Prop where
  ok : OkV d
  dp : d.depth ≤ 20
structure Gn (g : Int) : Prop where
  lo : 1 ≤ g
  hi : g ≤ 1000000000
theorem Gn.vd {g : Int} (h : Gn g) : Vd (.int g) := by
  have h1 := h.lo
  have h2 := h.hi
  refine ⟨?_, by rw [PyData.depth]; exact Nat.zero_le _⟩
  unfold OkV
  exact Nat.lt_of_le_of_lt (show g.natAbs ≤ 1000000000 by omega) (by decide)
def begP (g : Int) (d : PyData) : PyData := .tuple [.str (Str.ofString "begin"), .int g, d]
theorem rcd_begP (g : Int) (d : PyData) : rcd (begP g d) = begB ++ (rcd (.int g) ++ rcd d) := by
  refine Dw.Qt.un ?_
  simp (disch := (with_unfolding_all
    (have e3 : rcdL [PyData.str (Str.ofString "begin"), .int g, d] = rcd (.str (Str.ofString "begin")) ++ (rcd (.int g) ++ (rcd d ++ [])) := by simp only [rcdL]
     have e4 : rcd (.tuple [PyData.str (Str.ofString "begin"), .int g, d]) = 6 :: (cnt [PyData.str (Str.ofString "begin"), .int g, d].length ++ rcdL [PyData.str (Str.ofString "begin"), .int g, d]) := by simp only [rcd]
     unfold begP
     rw [e4, e3, rcd_begin, show cnt ([PyData.str (Str.ofString "begin"), .int g, d] : List PyData).length = [3] from cnt_lt (show 3 < 128 by decide), List.append_nil]
     rfl))) only [↓Dw.Qt.tt]
theorem begB_len : begB.length = 9 := rfl
theorem begB_by : By begB := by
  intro b hb
  have : ∀ b ∈ begB, 0 ≤ b ∧ b < 256 := by decide
  exact this b hb
theorem By.app {a b : List Int} (h : By a) (g : By b) : By (a ++ b) := fun c hc => (List.mem_append.mp hc).elim (h c) (g c)
theorem By.tak {a : List Int} (h : By a) (k : Nat) : By (a.take k) := fun c hc => h c (List.mem_of_mem_take hc)
theorem rbeg_full {g : Int} {d : PyData} (hg : Gn g) (hd : Vd d) (t : List Int) : rbeg (rcd (begP g d) ++ t) = some (g, d, (rcd (begP g d)).length) := by
  refine Dw.Qt.un ?_
  simp (disch := (with_unfolding_all
    (have e0 : rcd (begP g d) ++ t = begB ++ (rcd (.int g) ++ (rcd d ++ t)) := by rw [rcd_begP, List.append_assoc, List.append_assoc]
     have e1 : (rcd (begP g d) ++ t).take 9 = begB := by rw [e0]; exact List.take_left' rfl
     have e2 : (rcd (begP g d) ++ t).drop 9 = rcd (.int g) ++ (rcd d ++ t) := by rw [e0]; exact List.drop_left' rfl
     have e3 : (rcd (begP g d) ++ t).drop (9 + (rcd (.int g)).length) = rcd d ++ t := by rw [← List.drop_drop, e2]; exact List.drop_left' rfl
     unfold rbeg
     rw [if_pos e1, e2, unp_rcd (.int g) 20 _ 9 hg.vd.ok hg.vd.dp]
     dsimp only
     rw [e3, unp_rcd d 20 t _ hd.ok hd.dp]
     dsimp only
     rw [if_pos hg.lo, rcd_begP, List.length_append, List.length_append, begB_len]
     congr 3
     omega))) only [↓Dw.Qt.tt]
theorem rbeg_cut {g : Int} {d : PyData} {k : Nat} (hg : Gn g) (hd : Vd d) (hk : k < (rcd (begP g d)).length) : rbeg ((rcd (begP g d)).take k) = none := by
  refine Dw.Qt.un ?_
  simp (disch := (with_unfolding_all
    (unfold rbeg
     by_cases c : k < 9
     · refine if_neg fun e => ?_
       have := congrArg List.length e
       rw [List.length_take, List.length_take, begB_len] at this
       omega
     have e0 : (rcd (begP g d)).take k = begB ++ ((rcd (.int g) ++ rcd d).take (k - 9)) := by
       rw [rcd_begP, take_ge (by rw [begB_len]; omega), begB_len]
     rw [rcd_begP, List.length_append, List.length_append, begB_len] at hk
     have e1 : (begB ++ ((rcd (.int g) ++ rcd d).take (k - 9))).take 9 = begB := List.take_left' rfl
     have e2 : (begB ++ ((rcd (.int g) ++ rcd d).take (k - 9))).drop 9 = (rcd (.int g) ++ rcd d).take (k - 9) := List.drop_left' rfl
     rw [e0, if_pos e1, e2]
     by_cases c2 : k - 9 < (rcd (.int g)).length
     · rw [take_le c2, unp_cut (.int g) 20 _ 9 hg.vd.ok hg.vd.dp c2]
     · rw [take_ge (by omega), unp_rcd (.int g) 20 _ 9 hg.vd.ok hg.vd.dp]
       dsimp only
       rw [show (begB ++ (rcd (.int g) ++ (rcd d).take (k - 9 - (rcd (.int g)).length))).drop (9 + (rcd (.int g)).length) = (rcd d).take (k - 9 - (rcd (.int g)).length) by rw [← List.drop_drop, show (begB ++ (rcd (.int g) ++ (rcd d).take (k - 9 - (rcd (.int g)).length))).drop 9 = rcd (.int g) ++ (rcd d).take (k - 9 - (rcd (.int g)).length) from List.drop_left' rfl]; exact List.drop_left' rfl, unp_cut d 20 _ _ hd.ok hd.dp (by omega)]))) only [↓Dw.Qt.tt]
/-- the beginning of a record -/
def Tl (t : List Int) : Prop := ∃ e k, Vd e ∧ k < (rcd e).length ∧ t = (rcd e).take k
theorem Tl.nil : Tl [] := ⟨.none, 0, ⟨trivial, Nat.zero_le _⟩, rcd_pos _ trivial, rfl⟩
theorem evs_full {L t : List Int} (ht : Tl t) : ∀ (es : List PyData) (n p : Nat), (∀ e ∈ es, Vd e) → L.drop p = rcdL es ++ t → L.length - p ≤ n → evs n L p = es
  | [], 0, p, _, _, _ => rfl
  | [], n + 1, p, _, h, _ => by
    obtain ⟨e, k, he, hk, rfl⟩ := ht
    rw [evs]
    split
    · rw [h, rcdL, List.nil_append, unp_cut e 20 k p he.ok he.dp hk]
    · rfl
  | e :: es, n, p, hv, h, hn => by
    have he := hv e (List.mem_cons_self ..)
    have hl := rcd_pos e he.ok
    rw [rcdL, List.append_assoc] at h
    have h2 := congrArg List.length h
    rw [List.length_drop, List.length_append] at h2
    obtain ⟨m, rfl⟩ : ∃ m, n = m + 1 := ⟨n - 1, by omega⟩
    rw [evs, if_pos (by omega), h, unp_rcd e 20 _ p he.ok he.dp]
    dsimp only
    rw [evs_full ht es m (p + (rcd e).length) (fun x hx => hv x (List.mem_cons_of_mem _ hx)) ?_ (by omega)]
    rw [← List.drop_drop, h]
    exact List.drop_left' rfl
/-- what a file tells -/
def Fst (c : List Int) : Option (Int × PyData × List PyData) → Prop
  | none => ∃ g d k, Gn g ∧ Vd d ∧ k < (rcd (begP g d)).length ∧ c = (rcd (begP g d)).take k
  | some (g, d, es) => Gn g ∧ Vd d ∧ (∀ e ∈ es, Vd e) ∧ ∃ t, Tl t ∧ c = rcd (begP g d) ++ (rcdL es ++ t)
def Whl (c : List Int) (g : Int) (d : PyData) (es : List PyData) : Prop := Gn g ∧ Vd d ∧ (∀ e ∈ es, Vd e) ∧ c = rcd (begP g d) ++ rcdL es
theorem Whl.fst {c : List Int} {g : Int} {d : PyData} {es : List PyData} (h : Whl c g d es) : Fst c (some (g, d, es)) := ⟨h.1, h.2.1, h.2.2.1, [], Tl.nil, by rw [List.append_nil]; exact h.2.2.2⟩
def toD (x : Int × PyData × List PyData) : Int × D × List D := (x.1, pdv x.2.1, pdvs x.2.2)
theorem Fst.rd {c : List Int} {o : Option (Int × PyData × List PyData)} (h : Fst c o) : rdF c = o.map toD := by
  cases o with
  | none =>
    obtain ⟨g, d, k, hg, hd, hk, rfl⟩ := h
    unfold rdF
    rw [rbeg_cut hg hd hk]
    rfl
  | some x =>
    obtain ⟨g, d, es⟩ := x
    obtain ⟨hg, hd, he, t, ht, rfl⟩ := h
    unfold rdF
    rw [rbeg_full hg hd]
    show some (g, pdv d, pdvs _) = some (g, pdv d, pdvs es)
    rw [evs_full ht es _ _ he (List.drop_left' rfl) (Nat.le_refl _)]
theorem begP_by {g : Int} {d : PyData} (hg : Gn g) (hd : Vd d) : By (rcd (begP g d)) := by
  rw [rcd_begP]
  exact begB_by.app ((rcd_by _ hg.vd.ok).app (rcd_by _ hd.ok))
theorem rcdL_byV : ∀ {es : List PyData}, (∀ e ∈ es, Vd e) → By (rcdL es)
  | [], _ => by rw [rcdL]; exact fun b hb => nomatch hb
  | e :: es, h => by rw [rcdL]; exact (rcd_by e (h e (List.mem_cons_self ..)).ok).app (rcdL_byV fun x hx => h x (List.mem_cons_of_mem _ hx))
theorem Fst.by {c : List Int} {o : Option (Int × PyData × List PyData)} (h : Fst c o) : By c := by
  cases o with
  | none =>
    obtain ⟨g, d, k, hg, hd, hk, rfl⟩ := h
    exact (begP_by hg hd).tak k
  | some x =>
    obtain ⟨g, d, es⟩ := x
    obtain ⟨hg, hd, he, t, ⟨e, k, h1, h2, rfl⟩, rfl⟩ := h
    exact (begP_by hg hd).app ((rcdL_byV he).app ((rcd_by e h1.ok).tak k))
theorem Fst.nil : Fst [] none := ⟨1, .none, 0, ⟨by decide, by decide⟩, ⟨trivial, Nat.zero_le _⟩, by rw [rcd_begP, List.length_append, begB_len]; omega, rfl⟩
theorem Fst.beg {g : Int} {d : PyData} (hg : Gn g) (hd : Vd d) (k : Nat) : Fst ((rcd (begP g d)).take k) none ∨ Whl ((rcd (begP g d)).take k) g d [] := by
  by_cases c : k < (rcd (begP g d)).length
  · exact .inl ⟨g, d, k, hg, hd, c, rfl⟩
  · refine .inr ⟨hg, hd, nofun, ?_⟩
    rw [List.take_of_length_le (by omega), rcdL, List.append_nil]
theorem Whl.add {c : List Int} {g : Int} {d e : PyData} {es : List PyData} (h : Whl c g d es) (he : Vd e) : Whl (c ++ rcd e) g d (es ++ [e]) := by
  obtain ⟨hg, hd, hv, rfl⟩ := h
  refine ⟨hg, hd, fun x hx => ?_, ?_⟩
  · rcases List.mem_append.mp hx with hx | hx
    · exact hv x hx
    · rw [List.mem_singleton.mp hx]; exact he
  · rw [rcdL_snoc, List.append_assoc]
theorem Whl.part {c : List Int} {g : Int} {d e : PyData} {es : List PyData} (h : Whl c g d es) (he : Vd e) (k : Nat) : Fst (c ++ (rcd e).take k) (some (g, d, es)) ∨ Fst (c ++ (rcd e).take k) (some (g, d, es ++ [e])) := by
  by_cases q : k < (rcd e).length
  · obtain ⟨hg, hd, hv, rfl⟩ := h
    exact .inl ⟨hg, hd, hv, _, ⟨e, k, he, q, rfl⟩, by rw [List.append_assoc]⟩
  · rw [List.take_of_length_le (by omega)]
    exact .inr (h.add he).fst
def Dq.crash (v : Dq) (a b : Nat) : Dq := { (v.hard 0 a).hard 1 b with w := none }
theorem aftI_app : ∀ (l c : List Int), (∀ x ∈ l, x ≠ -1) → aftI c l = c ++ l
  | [], c, _ => (List.append_nil c).symm
  | s :: l, c, h => by
    show aftI (if s = -1 then [] else c ++ [s]) l = _
    rw [if_neg (h s (List.mem_cons_self ..)), aftI_app l _ fun x hx => h x (List.mem_cons_of_mem _ hx), List.append_assoc]
    rfl
theorem By.no {l : List Int} (h : By l) : ∀ x ∈ l, x ≠ -1 := fun x hx => by have := h x hx; omega
theorem crash_f {v : Dq} {a b k : Nat} (hk : k < 2) : (v.crash a b).f k = aftI (v.f k) ((v.p k).take (if k = 0 then a else b)) ∧ (v.crash a b).p k = [] := by
  obtain rfl | rfl : k = 0 ∨ k = 1 := by omega
  · exact ⟨rfl, rfl⟩
  · exact ⟨rfl, rfl⟩
theorem last_none {v : Dq} {n : Nat} (h : v.w = none) : v.last n = n := by
  unfold Dq.last spn
  rw [h]
  exact Int.toNat_natCast n
/-- steps performed at a file, and whether the call returns -/
theorem jad_ok {v : Dq} {k : Nat} {r : List Int} (h : (jad v k r).2 = true) : (∀ j, (jad v k r).1.f j = if j = k then aftI (v.f k) (v.p k ++ r) else v.f j) ∧ (∀ j, (jad v k r).1.p j = if j = k then [] else v.p j) := by
  refine Dw.Qt.un ?_
  simp (disch := (with_unfolding_all
    (unfold jad at h ⊢
     by_cases c : v.last r.length < r.length
     · rw [if_pos c] at h; cases h
     rw [if_neg c] at h ⊢
     have hl : v.last r.length = r.length := by have := v.last_le r.length; omega
     have h2 : ¬ (v.add k r).last 1 < 1 := by simpa using h
     unfold Dq.sync
     rw [if_neg h2]
     have ep : (v.add k r).p k = v.p k ++ r := by
       show up1 v.p k (v.p k ++ r.take (v.last r.length)) k = _
       rw [up1_at, hl, List.take_length]
     refine ⟨fun j => ?_, fun j => ?_⟩
     · show up1 v.f k (aftI (v.f k) (((v.add k r).p k).take ((v.add k r).p k).length)) j = _
       rw [List.take_length, ep]
       rfl
     · show up1 (up1 v.p k (v.p k ++ r.take (v.last r.length))) k [] j = _
       unfold up1
       by_cases e : j = k
       · rw [if_pos e, if_pos e]
       · rw [if_neg e, if_neg e, if_neg e]))) only [↓Dw.Qt.tt]
theorem jad_no {v : Dq} {k : Nat} {r : List Int} (h : (jad v k r).2 = false) : (jad v k r).1.f = v.f ∧ ∃ m, ∀ j, (jad v k r).1.p j = if j = k then v.p k ++ r.take m else v.p j := by
  unfold jad at h ⊢
  by_cases c : v.last r.length < r.length
  · rw [if_pos c]
    exact ⟨rfl, v.last r.length, fun j => rfl⟩
  rw [if_neg c] at h ⊢
  have h2 : (v.add k r).last 1 < 1 := by simpa using h
  unfold Dq.sync
  rw [if_pos h2]
  exact ⟨rfl, v.last r.length, fun j => rfl⟩
theorem jck_ok {v : Dq} {k : Nat} {r : List Int} (h : (jck v k r).2 = true) : (∀ j, (jck v k r).1.f j = if j = k then aftI (v.f k) (v.p k ++ -1 :: r) else v.f j) ∧ (∀ j, (jck v k r).1.p j = if j = k then [] else v.p j) := by
  refine Dw.Qt.un ?_
  simp (disch := (with_unfolding_all
    (unfold jck at h ⊢
     by_cases c : v.last 1 < 1
     · rw [if_pos c] at h; cases h
     rw [if_neg c] at h ⊢
     have hl : v.last 1 = 1 := by have := v.last_le 1; omega
     obtain ⟨h1, h2⟩ := jad_ok h
     have ep : (v.add k [-1]).p k = v.p k ++ [-1] := by
       show up1 v.p k (v.p k ++ [(-1 : Int)].take (v.last 1)) k = _
       rw [up1_at, hl]
       rfl
     refine ⟨fun j => ?_, fun j => ?_⟩
     · rw [h1 j, ep, List.append_assoc]
       rfl
     · rw [h2 j]
       by_cases e : j = k
       · rw [if_pos e, if_pos e]
       · rw [if_neg e, if_neg e]
         exact up1_ne e))) only [↓Dw.Qt.tt]
theorem jck_no {v : Dq} {k : Nat} {r : List Int} (h : (jck v k r).2 = false) : (jck v k r).1.f = v.f ∧ ∃ m, ∀ j, (jck v k r).1.p j = if j = k then v.p k ++ (-1 :: r).take m else v.p j := by
  refine Dw.Qt.un ?_
  simp (disch := (with_unfolding_all
    (unfold jck at h ⊢
     by_cases c : v.last 1 < 1
     · rw [if_pos c]
       refine ⟨rfl, 0, fun j => ?_⟩
       have hl : v.last 1 = 0 := by omega
       show up1 v.p k (v.p k ++ [(-1 : Int)].take (v.last 1)) j = _
       rw [hl]
       rfl
     rw [if_neg c] at h ⊢
     have hl : v.last 1 = 1 := by have := v.last_le 1; omega
     obtain ⟨h1, m, h2⟩ := jad_no h
     have ep : (v.add k [-1]).p k = v.p k ++ [-1] := by
       show up1 v.p k (v.p k ++ [(-1 : Int)].take (v.last 1)) k = _
       rw [up1_at, hl]
       rfl
     refine ⟨h1, m + 1, fun j => ?_⟩
     rw [h2 j, ep, List.append_assoc]
     by_cases e : j = k
     · rw [if_pos e, if_pos e]
       rfl
     · rw [if_neg e, if_neg e]
       exact up1_ne e))) only [↓Dw.Qt.tt]
abbrev Jo := Option (PyData × List PyData)
structure Jn (v : Dq) (cur : Nat) (g : Int) (o : Jo) (b : Bool) : Prop where
  p : ∀ k, k < 2 → v.p k = []
  hc : cur < 2
  st : match o with
    | none => g = 0 ∧ cur = 1 ∧ b = false ∧ ∀ k, k < 2 → Fst (v.f k) none
    | some x => Fst (v.f cur) (some (g, x.1, x.2)) ∧ (b = true → Whl (v.f cur) g x.1 x.2) ∧ ∃ o', Fst (v.f (1 - cur)) o' ∧ ∀ y, o' = some y → y.1 < g
def Jo.x : Jo → D
  | none => .non
  | some x => pdv x.1
def Jo.es : Jo → List D
  | none => []
  | some x => pdvs x.2
theorem Jn.fst {v : Dq} {cur k : Nat} {g : Int} {o : Jo} {b : Bool} (h : Jn v cur g o b) (hk : k < 2) : ∃ o', Fst (v.f k) o' := by
  have hc := h.hc
  have st := h.st
  cases o with
  | none => exact ⟨_, st.2.2.2 k hk⟩
  | some x =>
    obtain ⟨h1, _, o', h2, _⟩ := st
    by_cases e : k = cur
    · rw [e]; exact ⟨_, h1⟩
    · rw [show k = 1 - cur by omega]; exact ⟨_, h2⟩
theorem Jn.con {v : Dq} {cur k : Nat} {g : Int} {o : Jo} {b : Bool} (h : Jn v cur g o b) (hk : k < 2) : v.con k = v.f k := by
  unfold Dq.con
  rw [h.p k hk]
  rfl
theorem Jn.ld {v : Dq} {cur : Nat} {g : Int} {o : Jo} {b : Bool} (h : Jn v cur g o b) : ldS rdF v 2 = (cur, g, o.x, o.es) := by
  refine Dw.Qt.un ?_
  simp (disch := (with_unfolding_all
    (have c0 := h.con (k := 0) (by decide)
     have c1 := h.con (k := 1) (by decide)
     have hc := h.hc
     have st := h.st
     have e1 : ldS rdF v 1 = match rdF (v.f 0) with
         | some (g, x, es) => if g > 0 then (0, g, x, es) else (1, 0, .non, [])
         | none => (1, 0, .non, []) := by rw [← c0]; rfl
     have e2 : ldS rdF v 2 = match rdF (v.f 1) with
         | some (g, x, es) => if g > (ldS rdF v 1).2.1 then (1, g, x, es) else ldS rdF v 1
         | none => ldS rdF v 1 := by rw [← c1]; rfl
     cases o with
     | none =>
       obtain ⟨rfl, rfl, _, hf⟩ := st
       rw [(hf 0 (by decide)).rd] at e1
       rw [(hf 1 (by decide)).rd] at e2
       rw [e2, show Option.map toD none = none from rfl]
       dsimp only
       rw [e1]
       rfl
     | some x =>
       obtain ⟨h1, _, o', h2, h3⟩ := st
       have hg : 1 ≤ g := h1.1.lo
       obtain rfl | rfl : cur = 0 ∨ cur = 1 := by omega
       · rw [h1.rd] at e1
         dsimp only [Option.map, toD] at e1
         rw [if_pos (by omega)] at e1
         rw [e1, show v.f 1 = v.f (1 - 0) from rfl, h2.rd] at e2
         rw [e2]
         cases o' with
         | none => rfl
         | some y =>
           have := h3 y rfl
           dsimp only [Option.map, toD]
           rw [if_neg (by omega)]
           rfl
       · rw [h1.rd] at e2
         dsimp only [Option.map, toD] at e2
         rw [e2, if_pos]
         · rfl
         rw [e1, show v.f 0 = v.f (1 - 1) from rfl, h2.rd]
         cases o' with
         | none => show g > 0; omega
         | some y =>
           have := h3 y rfl
           dsimp only [Option.map, toD]
           split
           · exact this
           · show g > 0; omega))) only [↓Dw.Qt.tt]
theorem Jn.crash0 {v : Dq} {cur : Nat} {g : Int} {o : Jo} {b : Bool} (h : Jn v cur g o b) (x y : Nat) : Jn (v.crash x y) cur g o b := by
  have hf : ∀ k, k < 2 → (v.crash x y).f k = v.f k := fun k hk => by rw [(crash_f hk).1, h.p k hk, List.take_nil]; rfl
  have hc := h.hc
  have st := h.st
  refine ⟨fun k hk => (crash_f hk).2, hc, ?_⟩
  cases o with
  | none =>
    obtain ⟨a1, a2, a3, a4⟩ := st
    exact ⟨a1, a2, a3, fun k hk => by rw [hf k hk]; exact a4 k hk⟩
  | some x =>
    obtain ⟨a1, a2, o', a3, a4⟩ := st
    rw [← hf cur hc] at a1 a2
    rw [← hf (1 - cur) (by omega)] at a3
    exact ⟨a1, a2, o', a3, a4⟩
theorem Jn.low {v : Dq} {cur : Nat} {g : Int} {o : Jo} {b : Bool} (h : Jn v cur g o b) : Jn v cur g o false := by
  have st := h.st
  refine ⟨h.p, h.hc, ?_⟩
  cases o with
  | none => exact ⟨st.1, st.2.1, rfl, st.2.2.2⟩
  | some x => exact ⟨st.1, nofun, st.2.2⟩
theorem Jn.add {v : Dq} {cur : Nat} {g : Int} {d e : PyData} {es : List PyData} (h : Jn v cur g (some (d, es)) true) (he : Vd e) :
    ((jad v cur (rcd e)).2 = true → Jn (jad v cur (rcd e)).1 cur g (some (d, es ++ [e])) true) ∧
    ((jad v cur (rcd e)).2 = false → ∀ x y, Jn ((jad v cur (rcd e)).1.crash x y) cur g (some (d, es)) false ∨ Jn ((jad v cur (rcd e)).1.crash x y) cur g (some (d, es ++ [e])) false) := by
  refine Dw.Qt.un ?_
  simp (disch := (with_unfolding_all
    (have hc := h.hc
     obtain ⟨a1, a2, o', a3, a4⟩ := h.st
     have w := a2 rfl
     have no := (rcd_by e he.ok).no
     have ne : 1 - cur ≠ cur := by omega
     constructor
     · intro ok
       obtain ⟨f1, p1⟩ := jad_ok ok
       refine ⟨fun k hk => ?_, hc, ?_⟩
       · rw [p1 k]
         split
         · rfl
         · exact h.p k hk
       · have ef : (jad v cur (rcd e)).1.f cur = v.f cur ++ rcd e := by rw [f1 cur, if_pos rfl, h.p cur hc, List.nil_append, aftI_app _ _ no]
         have w2 := w.add he
         rw [← ef] at w2
         refine ⟨w2.fst, fun _ => w2, o', ?_, a4⟩
         rw [f1, if_neg ne]
         exact a3
     · intro bad x y
       obtain ⟨f1, m, p1⟩ := jad_no bad
       have ef : ∀ k, k < 2 → ((jad v cur (rcd e)).1.crash x y).f k = if k = cur then v.f cur ++ (rcd e).take (min (if k = 0 then x else y) m) else v.f k := fun k hk => by
         rw [(crash_f hk).1, f1, p1 k]
         by_cases c : k = cur
         · rw [if_pos c, if_pos c, h.p cur hc, List.nil_append, List.take_take, aftI_app _ _ fun z hz => no z (List.mem_of_mem_take hz), c]
         · rw [if_neg c, if_neg c, h.p k hk, List.take_nil]
           rfl
       have mk : ∀ es', Fst (((jad v cur (rcd e)).1.crash x y).f cur) (some (g, d, es')) → Jn ((jad v cur (rcd e)).1.crash x y) cur g (some (d, es')) false := fun es' q => by
         refine ⟨fun k hk => (crash_f hk).2, hc, q, nofun, o', ?_, a4⟩
         rw [ef _ (by omega), if_neg ne]
         exact a3
       have q := w.part he (min (if cur = 0 then x else y) m)
       have ec := ef cur hc
       rw [if_pos rfl] at ec
       rw [← ec] at q
       exact q.imp (mk _) (mk _)))) only [↓Dw.Qt.tt]
theorem Jn.chk {v : Dq} {cur : Nat} {g : Int} {o : Jo} {b : Bool} {d : PyData} (h : Jn v cur g o b) (hg : Gn (g + 1)) (hd : Vd d) :
    ((jck v (1 - cur) (rcd (begP (g + 1) d))).2 = true → Jn (jck v (1 - cur) (rcd (begP (g + 1) d))).1 (1 - cur) (g + 1) (some (d, [])) true) ∧
    ((jck v (1 - cur) (rcd (begP (g + 1) d))).2 = false → ∀ x y, Jn ((jck v (1 - cur) (rcd (begP (g + 1) d))).1.crash x y) cur g o false ∨ Jn ((jck v (1 - cur) (rcd (begP (g + 1) d))).1.crash x y) (1 - cur) (g + 1) (some (d, [])) false) := by
  refine Dw.Qt.un ?_
  simp (disch := (with_unfolding_all
    (have hc := h.hc
     have hk : 1 - cur < 2 := by omega
     have e2 : 1 - (1 - cur) = cur := by omega
     have no := (begP_by hg hd).no
     have aft : ∀ (c l : List Int), (∀ x ∈ l, x ≠ -1) → aftI c (-1 :: l) = l := fun c l hl => by
       show aftI [] l = l
       rw [aftI_app _ _ hl]
       rfl
     have other : ∃ o', Fst (v.f cur) o' ∧ ∀ y, o' = some y → y.1 < g + 1 := by
       have st := h.st
       cases o with
       | none =>
         obtain ⟨_, rfl, _, hf⟩ := st
         exact ⟨none, hf 1 (by decide), nofun⟩
       | some x => exact ⟨_, st.1, fun y e => by cases e; show g < g + 1; omega⟩
     obtain ⟨o', p1, p2⟩ := other
     have ne : cur ≠ 1 - cur := by omega
     constructor
     · intro ok
       obtain ⟨f1, q1⟩ := jck_ok ok
       have ef : (jck v (1 - cur) (rcd (begP (g + 1) d))).1.f (1 - cur) = rcd (begP (g + 1) d) := by rw [f1, if_pos rfl, h.p _ hk, List.nil_append, aft _ _ no]
       have w : Whl ((jck v (1 - cur) (rcd (begP (g + 1) d))).1.f (1 - cur)) (g + 1) d [] := ⟨hg, hd, nofun, by rw [ef, rcdL, List.append_nil]⟩
       refine ⟨fun k hk => ?_, hk, w.fst, fun _ => w, o', ?_, p2⟩
       · rw [q1 k]
         split
         · rfl
         · exact h.p k hk
       · rw [e2, f1, if_neg ne]
         exact p1
     · intro bad x y
       obtain ⟨f1, m, q1⟩ := jck_no bad
       have ef : ∀ k, k < 2 → ((jck v (1 - cur) (rcd (begP (g + 1) d))).1.crash x y).f k = if k = 1 - cur then aftI (v.f (1 - cur)) ((-1 :: rcd (begP (g + 1) d)).take (min (if k = 0 then x else y) m)) else v.f k := fun k hk => by
         rw [(crash_f hk).1, f1, q1 k]
         by_cases c : k = 1 - cur
         · rw [if_pos c, if_pos c, h.p (1 - cur) (by omega), List.nil_append, List.take_take, c]
         · rw [if_neg c, if_neg c, h.p k hk, List.take_nil]
           rfl
       have fc : ((jck v (1 - cur) (rcd (begP (g + 1) d))).1.crash x y).f cur = v.f cur := by rw [ef cur hc, if_neg ne]
       have fk := ef (1 - cur) hk
       rw [if_pos rfl] at fk
       have pp : ∀ k, k < 2 → ((jck v (1 - cur) (rcd (begP (g + 1) d))).1.crash x y).p k = [] := fun k hk => (crash_f hk).2
       generalize ((jck v (1 - cur) (rcd (begP (g + 1) d))).1.crash x y) = v' at *
       clear ef f1 q1
       have left : ∀ o2, Fst (v'.f (1 - cur)) o2 → (∀ z, o2 = some z → ∃ x, o = some x ∧ z.1 < g) → (o = none → o2 = none) → Jn v' cur g o false := fun o2 q1 q2 q3 => by
         have st := h.st
         refine ⟨pp, hc, ?_⟩
         cases o with
         | none =>
           obtain ⟨a1, rfl, a3, a4⟩ := st
           refine ⟨a1, rfl, rfl, fun k hk => ?_⟩
           obtain rfl | rfl : k = 0 ∨ k = 1 := by omega
           · have := q3 rfl
             rw [this] at q1
             exact q1
           · rw [fc]; exact a4 1 (by decide)
         | some x =>
           refine ⟨by rw [fc]; exact st.1, nofun, o2, q1, fun z e => ?_⟩
           obtain ⟨_, _, q⟩ := q2 z e
           exact q
       cases hj : min (if 1 - cur = 0 then x else y) m with
       | zero =>
         rw [hj] at fk
         have fk : v'.f (1 - cur) = v.f (1 - cur) := fk
         refine .inl ?_
         have st := h.st
         cases o with
         | none => exact left none (by rw [fk]; exact st.2.2.2 _ hk) nofun fun _ => rfl
         | some x =>
           obtain ⟨_, _, o2, q1, q2⟩ := st
           exact left o2 (by rw [fk]; exact q1) (fun z e => ⟨x, rfl, q2 z e⟩) nofun
       | succ i =>
         rw [hj, List.take_succ_cons, aft _ _ fun z hz => no z (List.mem_of_mem_take hz)] at fk
         rcases Fst.beg hg hd i with q | q
         · rw [← fk] at q
           exact .inl (left none q nofun fun _ => rfl)
         · rw [← fk] at q
           exact .inr ⟨pp, hk, q.fst, nofun, o', by rw [e2, fc]; exact p1, p2⟩))) only [↓Dw.Qt.tt]
noncomputable def V_Ldraw : Fn := fn0 3 4
    (cSeq (cIf (eT (e2 dEq (e2 dIxL (eV 0) (eC (.int 1))) (eC (.int 0)))) (cSeq (cAsg (eCall W_Lrefill (aCons (eV 1) (aCons (e2 dIxL (eV 0) (eC (.int 0))) aNil))) (tgSub (eV 0) (eC (.int 1)) dSetL))
    (cAsg (e2 dAdd (e2 dIxL (eV 0) (eC (.int 0))) (eC (.int 1))) (tgSub (eV 0) (eC (.int 0)) dSetL))) cNext)
    (cSeq (cSet 3 (e2 dMod (eN (f1 dInt) (aCons (e2 dIxL (eV 0) (eC (.int 1))) aNil)) (eV 2)))
    (cSeq (cAsg (e2 dFdivW (e2 dIxL (eV 0) (eC (.int 1))) (eV 2)) (tgSub (eV 0) (eC (.int 1)) dSetL))
    (cRet (eV 3)))))
noncomputable def V_Lpick : Fn := fn0 3 4
    (cSeq (cSet 3 (eCall V_Ldraw (aCons (eV 0) (aCons (eV 1) (aCons (eN (f1 dLenS) (aCons (eV 2) aNil)) aNil)))))
    (cRet (eSl dSlS (eV 2) (mP1 (eV 3)) (mP1 (e2 dAdd (eV 3) (eC (.int 1)))))))
noncomputable def V_Lline : Fn := fn0 2 6
    (cSeq (cSet 2 (eLst (aCons (eC (.str (Str.ofString ""))) (aCons (eC (.str (Str.ofString "."))) (aCons (eC (.str (Str.ofString ".."))) (aCons (eC (.str (Str.ofString ". x"))) (aCons (eC (.str (Str.ofString "Received: by "))) (aCons (eC (.str (Str.ofString "Received: by q.r"))) (aCons (eC (.str (Str.ofString "received: by x"))) (aCons (eC (.str (Str.ofString " Received: by y"))) (aCons (eC (.str (Str.ofString "To: a"))) (aCons (eC (.str (Str.ofString "~"))) aNil))))))))))))
    (cSeq (cSet 3 (eCall V_Ldraw (aCons (eV 0) (aCons (eV 1) (aCons (eC (.int 3)) aNil)))))
    (cSeq (cIf (eT (e2 dEq (eV 3) (eC (.int 0)))) (cRet (e2 dIxL (eV 2) (eCall V_Ldraw (aCons (eV 0) (aCons (eV 1) (aCons (eC (.int 10)) aNil)))))) cNext)
    (cSeq (cSet 4 (eC (.str (Str.ofString " !\"#$&'()*+,-./0123456789:;<=>?@ABCDEFGHIJKLMNOPQRSTUVWXYZ[\\]^_`abcdefghijklmnopqrstuvwxyz{|}~"))))
    (cRet (eM1 dJoin (eC (.str (Str.ofString ""))) (eLc (sR1 (aCons (eCall V_Ldraw (aCons (eV 0) (aCons (eV 1) (aCons (eC (.int 6)) aNil)))) aNil)) (.one 5) [5] bYes (eCall V_Lpick (aCons (eV 0) (aCons (eV 1) (aCons (eV 4) aNil)))))))))))
instance (c : Nat) : Decidable (okSign c) := by unfold okSign; infer_instance
def Sgn (x : Str) : Prop := ∀ c ∈ tl x, okSign c
theorem sgn_of {x : Str} (h : x.cps.all (fun c => decide (32 ≤ c ∧ c ≤ 126 ∧ c ≠ 37)) = true) : Sgn x := fun c hc => by
  have hc : c ∈ x.cps.toList := hc
  have := Array.all_eq_true_iff_forall_mem.mp h c (Array.mem_toList_iff.mp hc)
  exact of_decide_eq_true this
theorem sgn_one {c : Nat} (h : okSign c) : Sgn ⟨#[c]⟩ := fun d hd => by
  have : d = c := by simpa [tl] using hd
  rw [this]
  exact h
theorem sgn_join {a : Str} {xs : List Str} (h : Sgn a) (g : ∀ x ∈ xs, Sgn x) : Sgn (Txt.join a xs) := fun c hc => by
  rcases mem_joined hc with hc | ⟨x, hx, hc⟩
  · exact h c hc
  · exact g x hx c hc
theorem sgn_lns : Sgn (Str.ofString " !\"#$&'()*+,-./0123456789:;<=>?@ABCDEFGHIJKLMNOPQRSTUVWXYZ[\\]^_`abcdefghijklmnopqrstuvwxyz{|}~") := sgn_of (by decide +kernel)
theorem lns0_sgn : ∀ x ∈ lns0, Sgn x := by
  intro x hx
  obtain ⟨s, hs, rfl⟩ := List.mem_map.mp hx
  apply sgn_of
  revert s
  decide +kernel
def LnS (x : Str) : Prop := x.length ≤ 20 ∧ Sgn x
section
variable {ns : List Int} {S S1 S2 : Sto} {Q : QA} {X : XA} {st m : Nat} {x : O}
theorem o_fdivW {i j : Int} (h : Q (.int (i / j)) S) (c : CDivW i j) : wO (dFdivW (.int i) (.int j) S) Q := by
  show wO (gd _ _) Q
  rw [gd_ok c]
  exact h
theorem drawV_w {n : Int} (hl : ns.length ≤ 63) (hs : Stt2 S st) (h0 : 0 < n) (h1 : n.natAbs < 2 ^ 100) (q : ∀ d k v : Int, 0 ≤ d → d < n → Q (.int d) (S.set st (.lst [.int k, .int v]))) : wF (V_Ldraw [.ref st, .scr ns, .int n] S) Q X := by
  refine Dw.Qt.un ?_
  simp (disch := (with_unfolding_all
    (obtain ⟨k, v, e⟩ := hs
     unfold V_Ldraw
     walk_at "w0"
     refine w_cut (fun σ1 S1 => σ1 = [some (.ref st), some (.scr ns), some (.int n), none] ∧ ∃ k v : Int, S1[st]? = some (.lst [.int k, .int v]) ∧ ∀ o, S1.set st o = S.set st o) ?_ fun σ1 S1 ⟨e1, k, v, e2, e3⟩ => ?_
     · walk_at "w"
       refine o_ixL e (atI_1 _ _ _) ?_
       walk_at "w"
       refine o_dec (fun _ => ?_) (fun _ => ?_)
       · walk_at "w"
         refine o_ixL e (atI_0 _ _) ?_
         refine refill_w hl fun z => ?_
         walk_at "w"
         refine ⟨S.set st (.lst [.int k, .int z]), by rw [dSetL_ref e]; rfl, ?_⟩
         have e5 := set_at (o := .lst [.int k, .int z]) e
         walk_at "w"
         refine o_ixL e5 (atI_0 _ _) ?_
         walk_at "w"
         refine ⟨_, by rw [dSetL_ref e5]; rfl, rfl, k + 1, z, set_at e5, fun o => by rw [List.set_set, List.set_set]⟩
       · walk_at "w"
         exact ⟨rfl, k, v, e, fun o => rfl⟩
     · subst e1
       walk_at "w"
       refine o_ixL e2 (atI_1 _ _ _) ?_
       walk_at "w"
       refine o_ixL e2 (atI_1 _ _ _) ?_
       walk_at "w"
       refine o_fdivW ?_ (wide_div h0 h1 (by decide) (by decide))
       walk_at "w"
       refine ⟨_, by rw [dSetL_ref e2]; rfl, ?_⟩
       walk_at "w"
       show Q _ (S1.set st (.lst [.int k, .int (v / n)]))
       rw [e3]
       exact q _ _ _ (Int.emod_nonneg _ (by omega)) (Int.emod_lt_of_pos _ h0)))) only [↓Dw.Qt.tt]
theorem drawV_e {n : Int} (hl : ns.length ≤ 63) (hs : Stt2 S st) (h0 : 0 < n) (h1 : n.natAbs < 2 ^ 100) (q : ∀ (d : Int) S', Ev st S S' → 0 ≤ d → d < n → Q (.int d) S') : wF (V_Ldraw [.ref st, .scr ns, .int n] S) Q X :=
  drawV_w hl hs h0 h1 fun d k v a b => q d _ ⟨(Upto.refl _ _).set (.inl (by simp)), k, v, let ⟨_, _, e⟩ := hs; set_at e⟩ a b
theorem pickV_w {z : Str} (hl : ns.length ≤ 63) (hs : Stt2 S st) (h0 : 0 < z.length) (h1 : z.length ≤ 100000) (q : ∀ c S', Ev st S S' → c ∈ tl z → Q (.str ⟨#[c]⟩) S') : wF (V_Lpick [.ref st, .scr ns, .str z] S) Q X := by
  unfold V_Lpick
  walk_at "w0"
  walk_at "w"
  refine o_lenS (line_of (by omega)) ?_
  refine drawV_e hl hs (by omega) (Nat.lt_of_le_of_lt (show _ ≤ 100000 by omega) (by decide)) fun d S' ev d0 d1 => ?_
  walk_at "w"
  refine ⟨d, rfl, ?_⟩
  walk_at "w"
  refine ⟨d + 1, rfl, ?_⟩
  refine o_slS (line_of (by omega)) ?_
  obtain ⟨c, hc, e⟩ := cut_one (z := z) d0 d1
  rw [e]
  exact q c _ ev hc
theorem lineV_w (hl : ns.length ≤ 63) (hs : Stt2 S st) (q : ∀ x S', Ev st S S' → LnS x → Q (.str x) S') : wF (V_Lline [.ref st, .scr ns] S) Q X := by
  refine Dw.Qt.un ?_
  simp (disch := (with_unfolding_all
    (unfold V_Lline
     walk_at "w0"
     walk_at "w"
     have e0 := (Ev.refl hs).app (x := .lst (lns0.map .str))
     walk_at "w"
     refine drawV_e hl e0.st (by omega) (by decide) fun d S1 e1 d0 d1 => ?_
     walk_at "w"
     refine w_seq ?_
     walk_at "w"
     refine o_dec (fun _ => ?_) (fun _ => ?_)
     · walk_at "w"
       refine drawV_e hl e1.st (by omega) (by decide) fun d S2 e2 d0 d1 => ?_
       obtain ⟨x, hx, ex⟩ := atI_mapD (xs := lns0) D.str d0 d1
       have nst : S.length ≠ st := fun z => by have := hs.lt; omega
       refine o_ixL ((e1.trans e2).get nst app_new) ex ?_
       exact q _ _ (e0.trans (e1.trans e2)) ⟨lns0_len x hx, lns0_sgn x hx⟩
     · walk_at "w"
       refine ⟨_, rfl, ?_⟩
       refine c_strs (st := st) (fun x => x.length ≤ 1 ∧ Sgn x) rfl ?_
       walk_at "w"
       refine drawV_e hl e1.st (by omega) (by decide) fun d S2 e2 d0 d1 => ?_
       refine ⟨d, rfl, rg_ok d0 (by omega), ⟨d.toNat, by omega, rfl⟩, e2.st, fun v S3 e3 => ?_, fun xs S3 e3 g3 l3 a3 => ?_⟩
       · walk_at "w"
         refine pickV_w hl e3.st (by decide +kernel) (by decide +kernel) fun c S4 e4 hc => ?_
         exact ⟨_, rfl, ⟨Nat.le_refl _, sgn_one (sgn_lns c hc)⟩, e4⟩
       · have hn : xs.length ≤ 6 := by rw [l3, List.length_map, List.length_range]; omega
         have hz := sumS_le fun x hx => (g3 x hx).1
         have he : (Str.ofString "").length = 0 := by decide +kernel
         refine o_join (seqOf_ref a3) (by rw [he]; omega) ?_
         refine q _ _ (e0.trans (e1.trans (e2.trans e3))) ?_
         have := len_joined (Str.ofString "") xs
         rw [he] at this
         exact ⟨by omega, sgn_join (sgn_of (by decide +kernel)) fun x hx => (g3 x hx).2⟩))) only [↓Dw.Qt.tt]
end
noncomputable def CA.cd (c : CA) : CD := ⟨c.Disk, c.PowerCut, c.Journal, F_read_file c⟩
def CA.cu (c : CA) : CU := ⟨c.Incomplete, c.InvalidRecord⟩
theorem f_pack (c : CA) : F_pack c = W_pack := by
  funext n
  induction n with
  | zero => rfl
  | succ n ih => rw [F_pack, W_pack, ih]; rfl
theorem f_read (c : CA) : F_read_file c = W_read_file c.cu := rfl
theorem f_cont (c : CA) : F_Disk_content c = W_Disk_content c.cd := rfl
theorem f_jinit (c : CA) : F_Journal_init c = W_Journal_init c.cd := rfl
theorem f_jev (c : CA) : F_Journal_events c = W_Journal_events c.cd := rfl
theorem f_jadd (c : CA) : F_Journal_add c = W_Journal_add c.cd := rfl
theorem f_jchk (c : CA) : F_Journal_checkpoint c = W_Journal_checkpoint c.cd := rfl
theorem f_crash (c : CA) : F_Disk_crash c = W_Disk_crash c.cd := rfl
theorem f_limit (c : CA) : F_Disk_limit c = W_Disk_limit c.cd := rfl
theorem f_dinit (c : CA) : F_Disk_init c = W_Disk_init c.cd := rfl
theorem f_draw (c : CA) : F_Ldraw c = V_Ldraw := rfl
theorem f_line (c : CA) : F_Lline c = V_Lline := rfl
theorem f_isint (c : CA) : F_Lis_integer c = W_Lis_integer := rfl
mutual
theorem flat_pdv : ∀ d : PyData, OkV d → flat (pdv d) = true
  | .none, _ => rfl
  | .bool _, _ => rfl
  | .int _, _ => rfl
  | .str _, _ => rfl
  | .tuple ds, h => by rw [pdv, flat]; exact flats_pdvs ds (okvT h).2
  | .list _, h => by unfold OkV at h; exact h.elim
  | .dict _, h => by unfold OkV at h; exact h.elim
theorem flats_pdvs : ∀ ds : List PyData, OkL ds → flats (pdvs ds) = true
  | [], _ => rfl
  | d :: ds, h => by
    unfold OkL at h
    rw [pdvs, flats, flat_pdv d h.1, flats_pdvs ds h.2]
    rfl
end
mutual
theorem dvp_pdv : ∀ d : PyData, OkV d → dvp (pdv d) = d
  | .none, _ => rfl
  | .bool _, _ => rfl
  | .int _, _ => rfl
  | .str _, _ => rfl
  | .tuple ds, h => by rw [pdv, dvp, dvps_pdvs ds (okvT h).2]
  | .list _, h => by unfold OkV at h; exact h.elim
  | .dict _, h => by unfold OkV at h; exact h.elim
theorem dvps_pdvs : ∀ ds : List PyData, OkL ds → dvps (pdvs ds) = ds
  | [], _ => rfl
  | d :: ds, h => by
    unfold OkL at h
    rw [pdvs, dvps, dvp_pdv d h.1, dvps_pdvs ds h.2]
end
theorem asc_sgn {x : Str} (h : ∀ c ∈ x.cps.toList, okSign c) : Asc x := fun c hc => by
  have := (h c hc).2.1
  omega
mutual
theorem pd_pdv {S : Sto} : ∀ (d : PyData) (n : Nat), OkV d → d.depth ≤ n → Pd S n (pdv d) d
  | .none, n, _, _ => Pd.non.mono (Nat.zero_le _)
  | .bool b, n, _, _ => (Pd.bl b).mono (Nat.zero_le _)
  | .int i, n, _, _ => (Pd.int i).mono (Nat.zero_le _)
  | .str x, n, h, _ => (Pd.str (asc_sgn (okvS h).2)).mono (Nat.zero_le _)
  | .tuple ds, n, h, hn => by
    rw [PyData.depth] at hn
    obtain ⟨m, rfl⟩ : ∃ m, n = m + 1 := ⟨n - 1, by omega⟩
    rw [pdv]
    exact .tup (pdl_pdvs ds m (okvT h).2 (by omega))
  | .list _, n, h, _ => by unfold OkV at h; exact h.elim
  | .dict _, n, h, _ => by unfold OkV at h; exact h.elim
theorem pdl_pdvs {S : Sto} : ∀ (ds : List PyData) (n : Nat), OkL ds → PyData.depthAll ds ≤ n → PdL S n (pdvs ds) ds
  | [], n, _, _ => trivial
  | d :: ds, n, h, hn => by
    unfold OkL at h
    rw [PyData.depthAll] at hn
    rw [pdvs]
    exact ⟨pd_pdv d n h.1 (Nat.le_trans (Nat.le_max_left _ _) hn), pdl_pdvs ds n h.2 (Nat.le_trans (Nat.le_max_right _ _) hn)⟩
end
theorem pdl_vd {S : Sto} : ∀ {es : List PyData}, (∀ e ∈ es, Vd e) → PdL S 20 (pdvs es) es
  | [], _ => trivial
  | e :: es, h => by
    have he := h e (List.mem_cons_self ..)
    rw [pdvs]
    exact ⟨pd_pdv e 20 he.ok he.dp, pdl_vd fun x hx => h x (List.mem_cons_of_mem _ hx)⟩
def Jo.px : Jo → PyData
  | none => .none
  | some x => x.1
def Jo.pes : Jo → List PyData
  | none => []
  | some x => x.2
/-- what a journal tells: its value and its events -/
structure JoV (o : Jo) : Prop where
  v : Vd o.px
  e : ∀ e ∈ o.pes, Vd e
theorem JoV.none : JoV none := ⟨⟨trivial, Nat.zero_le _⟩, nofun⟩
theorem Jo.x_eq (o : Jo) : o.x = pdv o.px := by cases o <;> rfl
theorem Jo.es_eq (o : Jo) : o.es = pdvs o.pes := by cases o <;> rfl
theorem JoV.pdx {o : Jo} {S : Sto} (h : JoV o) : Pd S 20 o.x o.px := by rw [o.x_eq]; exact pd_pdv _ _ h.v.ok h.v.dp
theorem JoV.pde {o : Jo} {S : Sto} {n : Nat} (h : JoV o) (e : S[n]? = some (.lst o.es)) : Pd S 21 (.ref n) (.list o.pes) := by
  rw [o.es_eq] at e
  exact .lst e (pdl_vd h.e)
section
variable {c : CA} {S S' : Sto} {Q : QA} {X : XA} {W : Nat → Prop} {d cur st : Nat} {g : Int} {o : Jo} {b : Bool} {v : Dq} {ns : List Int}
theorem rdOk : RdOk c.cd (fun cs => By cs ∧ cs.length ≤ 1000000) rdF := fun {S k cs Q X} hG e hl f1 f2 => by
  show wF (F_read_file c [.ref k] S) Q X
  rw [f_read]
  exact rfile_w hG.1 hG.2 e f1 f2
theorem lstored_w (h : DkP c.cd.Disk S W d v) (hG : ∀ k, k < 2 → By (v.con k) ∧ (v.con k).length ≤ 1000000) (hl : ∀ k, k < 2 → (v.f k).length + (v.p k).length ≤ 8000000) (f : ∀ S' e, Upto [] S S' → S'[e]? = some (.lst (ldS rdF v 2).2.2.2) → Q (.tup [.int (ldS rdF v 2).2.1, (ldS rdF v 2).2.2.1, .ref e]) S') : wF (F_Lstored c [.ref d] S) Q X := by
  refine Dw.Qt.un ?_
  simp (disch := (with_unfolding_all
    (unfold F_Lstored
     rw [f_cont, f_read]
     walk_at "w0"
     walk_at "w"
     have e0 : (S ++ [O.lst []])[S.length]? = some (.lst []) := app_new
     have u0 : Upto [] S (S ++ [O.lst []]) := (Upto.refl _ _).app
     generalize S ++ [O.lst []] = S0 at *
     refine w_cut (fun σ1 S1 => ∃ x2 x3 e, σ1 = [some (.ref d), some (.tup [.int (ldS rdF v 2).2.1, (ldS rdF v 2).2.2.1, .ref e]), x2, x3] ∧ Upto [] S S1 ∧ S1[e]? = some (.lst (ldS rdF v 2).2.2.2)) ?_ fun σ1 S1 ⟨x2, x3, e, e3, u1, g1⟩ => ?_
     · walk_at "w"
       refine ⟨_, rfl, rg_ok (by omega) (by omega), trivial, w_loop (k := 0) (P := fun i σ1 S1 => ∃ x2 x3 e, σ1 = [some (.ref d), some (.tup [.int (ldS rdF v i).2.1, (ldS rdF v i).2.2.1, .ref e]), x2, x3] ∧ Upto [] S S1 ∧ S1[e]? = some (.lst (ldS rdF v i).2.2.2)) ⟨none, none, S.length, rfl, u0, e0⟩ (fun i x σ S1 hi hP => ?_) fun σ S1 hP => hP⟩
       obtain ⟨x2, x3, e, rfl, u1, g1⟩ := hP
       rw [Nat.zero_add] at g1 ⊢
       have hi2 : i < 2 := (List.getElem?_eq_some_iff.mp hi).1
       have ex : x = .int ((i : Nat) : Int) := by
         obtain rfl | rfl : i = 0 ∨ i = 1 := by omega
         · cases hi; rfl
         · cases hi; rfl
       subst ex
       obtain ⟨du, sp, a, b, hA⟩ := h.up u1
       walk_at "w"
       refine w_obj hA.ob ?_
       walk_at "w"
       have lk := hl i hi2
       refine content_w (h.up u1) hi2 (by omega) fun S2 n u2 l2 e2 => ?_
       walk_at "w"
       have g2 := u2.get0 g1
       have eq1 : ldS rdF v (i + 1) = match rdF (v.con i) with
         | some (g, x, es) => if g > (ldS rdF v i).2.1 then (i, g, x, es) else ldS rdF v i
         | none => ldS rdF v i := rfl
       refine rfile_w (L := v.con i) (hG i hi2).1 (hG i hi2).2 e2 (fun hn S3 u3 => ?_) fun g y es hs S3 m u3 l3 e3 => ?_
       · rw [hn] at eq1
         walk_at "w"
         refine if_no rfl ?_
         walk_at "w"
         rw [eq1]
         exact ⟨trivial, _, _, e, rfl, (u1.trans u2).trans u3, u3.get0 g2⟩
       · rw [hs] at eq1
         walk_at "w"
         refine if_yes rfl ?_
         walk_at "w"
         refine o_dec (fun hc => ?_) fun hc => ?_
         · have eq2 : ldS rdF v (i + 1) = (i, g, y, es) := eq1.trans (if_pos (show g > (ldS rdF v i).2.1 from hc))
           walk_at "w"
           rw [eq2]
           exact ⟨trivial, _, _, m, rfl, (u1.trans u2).trans u3, e3⟩
         · have eq2 : ldS rdF v (i + 1) = ldS rdF v i := eq1.trans (if_neg (show ¬ g > (ldS rdF v i).2.1 from hc))
           walk_at "w"
           rw [eq2]
           exact ⟨trivial, _, _, e, rfl, (u1.trans u2).trans u3, u3.get0 g2⟩
     · subst e3
       walk_at "w"
       exact f S1 e u1 g1))) only [↓Dw.Qt.tt]
/-- a loaded journal -/
structure LdA (c : CA) (S : Sto) (j e d cur : Nat) (g : Int) (o : Jo) : Prop where
  ob : S[j]? = some (.obj c.Journal [.int g, o.x, .ref e, .ref d, .int (cur : Nat), .int g])
  es : S[e]? = some (.lst o.es)
theorem lloaded_w (h : DkP c.cd.Disk S W d v) (hJ : Jn v cur g o b) (ho : JoV o) (hl : ∀ k, k < 2 → (v.f k).length ≤ 900000) (f : ∀ S' j e, Upto [] S S' → S.length ≤ j → S.length ≤ e → LdA c S' j e d cur g o → Q (.ref j) S') : wF (F_Lloaded c [.ref d] S) Q X := by
  refine Dw.Qt.un ?_
  simp (disch := (with_unfolding_all
    (unfold F_Lloaded
     rw [f_jinit, f_jev, f_isint]
     have hl2 : ∀ k, k < 2 → (v.f k).length + (v.p k).length ≤ 8000000 := fun k hk => by rw [hJ.p k hk]; have := hl k hk; simp only [List.length_nil]; omega
     have hG : ∀ k, k < 2 → By (v.con k) ∧ (v.con k).length ≤ 1000000 := fun k hk => by
       rw [hJ.con hk]
       obtain ⟨o', q⟩ := hJ.fst hk
       exact ⟨q.by, by have := hl k hk; omega⟩
     walk_at "w0"
     walk_at "w"
     refine jinit_w (c := c.cd) (j := S.length) rdOk app_new (h.up ((Upto.refl _ _).app)) hG hl2 fun S1 e u1 l1 e1 o1 => ⟨rfl, ?_⟩
     rw [hJ.ld] at e1 o1
     rw [List.length_append, List.length_singleton] at l1
     have v1 : Upto [] S S1 := ⟨by have := u1.len; rw [List.length_append] at this; omega, fun x _ hx => (u1.eq x (by simp only [List.mem_singleton]; omega) (by rw [List.length_append]; omega)).trans (List.getElem?_append_left hx)⟩
     have o1 : S1[S.length]? = some (.obj c.cd.Journal [.int g, o.x, .ref e, .ref d, .int (cur : Nat), .int g]) := o1
     have e1 : S1[e]? = some (.lst o.es) := e1
     clear u1
     walk_at "w"
     refine w_seq ?_
     walk_at "w"
     refine w_obj o1 ?_
     walk_at "w"
     refine jevents_w (c := c.cd) o1 e1 ?_
     have u2 : Upto [] S (S1 ++ [O.lst o.es]) := v1.app
     have e2 : (S1 ++ [O.lst o.es])[S1.length]? = some (.lst o.es) := app_new
     have o2 := app_old (o := O.lst o.es) o1
     have e1' := app_old (o := O.lst o.es) e1
     generalize S1 ++ [O.lst o.es] = S2 at *
     walk_at "w"
     refine o_isiL e2 ?_
     walk_at "w"
     refine o_fld o2 (z := 0) rfl ?_
     walk_at "w"
     refine isint_w ?_
     walk_at "w"
     refine w_seq ?_
     walk_at "w"
     refine o_fld o2 (z := 0) rfl ?_
     walk_at "w"
     refine o_fld o2 (z := 1) rfl ?_
     walk_at "w"
     refine w_obj o2 ?_
     walk_at "w"
     refine jevents_w (c := c.cd) o2 e1' ?_
     have u3 : Upto [] S (S2 ++ [O.lst o.es]) := u2.app
     have e3 : (S2 ++ [O.lst o.es])[S2.length]? = some (.lst o.es) := app_new
     have o3 := app_old (o := O.lst o.es) o2
     have e1' := app_old (o := O.lst o.es) e1'
     generalize S2 ++ [O.lst o.es] = S3 at *
     walk_at "w"
     refine lstored_w (h.up u3) hG hl2 fun S4 k u4 e4 => ?_
     rw [hJ.ld] at e4 ⊢
     have p1 : Pd S4 22 (.tup [.int g, o.x, .ref S2.length]) (.tuple [.int g, o.px, .list o.pes]) := .tup (.cons ((Pd.int g).mono (by omega)) (.cons (ho.pdx.mono (by omega)) (.cons (ho.pde (u4.get0 e3)) .nil)))
     have p2 : Pd S4 22 (.tup [.int g, o.x, .ref k]) (.tuple [.int g, o.px, .list o.pes]) := .tup (.cons ((Pd.int g).mono (by omega)) (.cons (ho.pdx.mono (by omega)) (.cons (ho.pde e4) .nil)))
     walk_at "w"
     refine o_neSame p1 p2 ?_
     walk_at "w"
     exact f S4 S.length e (u3.trans u4) (Nat.le_refl _) (by omega) ⟨u4.get0 o3, u4.get0 e1'⟩))) only [↓Dw.Qt.tt]
end
theorem o_strI {S : Sto} {Q : QA} {k : Int} (h0 : 0 ≤ k) (h1 : k < 200) (h : Q (.str (toString k)) S) : wO (dStr (.int k) S) Q := by
  show wO (gd _ _) Q
  rw [gd_ok (Nat.lt_of_le_of_lt (Nat.log2_le_self _) (by omega))]
  exact h
theorem o_pick {α : Type} {L : List α} {f : α → D} {S : Sto} {Q : QA} {n : Nat} {i : Int} (e : S[n]? = some (.lst (L.map f))) (h0 : 0 ≤ i) (h1 : i < L.length) (q : ∀ (j : Nat) y, L[j]? = some y → i = (j : Int) → Q (f y) S) : wO (dIxL (.ref n) (.int i) S) Q := by
  obtain ⟨j, rfl⟩ := Int.eq_ofNat_of_zero_le h0
  have hj : j < L.length := by omega
  refine o_ixL e (atI_nat (j := j) ?_) (q j L[j] (List.getElem?_eq_getElem hj) rfl)
  rw [List.getElem?_map, List.getElem?_eq_getElem hj]
  rfl
theorem c_dat {α : Type} {st : Nat} {S : Sto} {Q : QA} {X : XA} {mi : M Src} {σ : Sl} {te : M D} {j : Nat} {vs : List Nat} (f : α → D) (G : α → Prop) (hj : vs = [j]) (h : wI mi σ S (fun src S0 => (∃ n : Nat, n ≤ 1000 ∧ src = ⟨(List.range n).map fun k => .int (0 + (k : Nat)), fun _ => True⟩) ∧ Stt2 S0 st ∧
    (∀ (v : D) S1, Ev st S0 S1 → wE te ((σ.set j none).set j (some v)) S1 (fun y S2 => ∃ x, y = f x ∧ G x ∧ Ev st S1 S2) noX) ∧
    ∀ (xs : List α) S1, Ev st S0 S1 → (∀ x ∈ xs, G x) → xs.length = src.items.length → S1[S0.length]? = some (.lst (xs.map f)) → Q (.ref S0.length) S1) X) : wE (eLc mi (.one j) vs bYes te) σ S Q X := by
  refine Dw.Qt.un ?_
  simp (disch := (with_unfolding_all
    (subst hj
     refine c_gen ?_
     unfold wI at *
     cases e : mi σ S with
     | ex C S0 => rw [e] at h; exact h
     | bad => rw [e] at h; exact h
     | ok src S0 =>
       rw [e] at h
       obtain ⟨⟨n, hn, rfl⟩, hs, hstep, q⟩ := h
       refine ⟨trivial, trivial, fun i S1 => Ev st S0 S1 ∧ ∃ xs : List α, S1[S0.length]? = some (.lst (xs.map f)) ∧ xs.length = i ∧ ∀ x ∈ xs, G x, ⟨(Ev.refl hs).app, [], app_new, rfl, fun x h => nomatch h⟩, fun i d S1 hi hP => ?_, fun S1 hP => ?_⟩
       · obtain ⟨ev, xs, ex, el, eg⟩ := hP
         refine ⟨_, rfl, ?_⟩
         show wB bYes _ S1 _ noX
         refine w_yes (iteT ?_)
         have hw := hstep d S1 ev
         obtain ⟨y, S2, e2, x, rfl, gx, ev2⟩ := wF_to (show wF (te _ S1) _ noX from hw)
         unfold wE
         show wF (te ((σ.set j none).set j (some d)) S1) _ _
         rw [e2]
         have nst : S0.length ≠ st := fun z => by have := hs.lt; omega
         have hi' : i < n := by have := (List.getElem?_eq_some_iff.mp hi).1; rw [List.length_map, List.length_range] at this; exact this
         refine ⟨xs.map f, ev2.get nst ex, lt_line (by rw [List.length_map]; omega), trivial, (ev.trans ev2).set (Nat.le_refl _) hs.some, xs ++ [x], ?_, by rw [List.length_append, el]; rfl, fun z hz => ?_⟩
         · rw [set_at (ev2.get nst ex), List.map_append]
           rfl
         · rcases List.mem_append.mp hz with hz | hz
           · exact eg z hz
           · rw [List.mem_singleton.mp hz]
             exact gx
       · obtain ⟨ev, xs, ex, el, eg⟩ := hP
         exact q xs S1 ev eg el ex))) only [↓Dw.Qt.tt]
structure Vn (d : PyData) (k n : Nat) : Prop where
  ok : OkV d
  dp : d.depth ≤ k
  ln : (rcd d).length ≤ n
theorem Vn.mono {d : PyData} {k n k' n' : Nat} (h : Vn d k n) (a : k ≤ k') (b : n ≤ n') : Vn d k' n' := ⟨h.ok, Nat.le_trans h.dp a, Nat.le_trans h.ln b⟩
theorem Vn.vd {d : PyData} {k n : Nat} (h : Vn d k n) (a : k ≤ 20) : Vd d := ⟨h.ok, Nat.le_trans h.dp a⟩
theorem Vn.int {i : Int} (h : i.natAbs < 2 ^ 70) : Vn (.int i) 0 40 := by
  refine ⟨by unfold OkV; exact Nat.lt_trans h (by decide), by rw [PyData.depth]; exact Nat.le_refl _, ?_⟩
  have e : (2 : Nat) ^ 70 = 128 ^ (9 + 1) := by decide
  rw [rcd]
  split
  · have := cnt_len 9 i.toNat (by omega)
    rw [List.length_cons]
    omega
  · have := cnt_len 9 (-i - 1).toNat (by omega)
    rw [List.length_cons]
    omega
theorem Vn.none : Vn .none 0 40 := ⟨trivial, Nat.zero_le _, by rw [rcd]; decide⟩
theorem Vn.bool (b : Bool) : Vn (.bool b) 0 40 := ⟨trivial, Nat.zero_le _, by rw [rcd]; exact (by decide : 1 ≤ 40)⟩
theorem Vn.str {x : Str} (h : LnS x) : Vn (.str x) 0 40 := by
  obtain ⟨h1, h2⟩ := h
  refine ⟨by unfold OkV; exact ⟨by omega, h2⟩, Nat.zero_le _, ?_⟩
  rw [rcd, List.length_cons, List.length_append, sgn_lenU, cnt_lt (show x.length < 128 by omega)]
  show 1 + x.length + 1 ≤ 40
  omega
theorem okL_of : ∀ {ds : List PyData}, (∀ d ∈ ds, OkV d) → OkL ds
  | [], _ => by unfold OkL; trivial
  | d :: ds, h => by unfold OkL; exact ⟨h d (List.mem_cons_self ..), okL_of fun x hx => h x (List.mem_cons_of_mem _ hx)⟩
theorem depL_of {k : Nat} : ∀ {ds : List PyData}, (∀ d ∈ ds, d.depth ≤ k) → PyData.depthAll ds ≤ k
  | [], _ => by rw [PyData.depthAll]; exact Nat.zero_le _
  | d :: ds, h => by rw [PyData.depthAll]; exact Nat.max_le.mpr ⟨h d (List.mem_cons_self ..), depL_of fun x hx => h x (List.mem_cons_of_mem _ hx)⟩
theorem lenL_of {n : Nat} : ∀ {ds : List PyData}, (∀ d ∈ ds, (rcd d).length ≤ n) → (rcdL ds).length ≤ ds.length * n
  | [], _ => by rw [rcdL]; exact Nat.zero_le _
  | d :: ds, h => by
    rw [rcdL, List.length_append, List.length_cons, Nat.succ_mul]
    have := h d (List.mem_cons_self ..)
    have := lenL_of (n := n) (ds := ds) fun x hx => h x (List.mem_cons_of_mem _ hx)
    omega
theorem Vn.tup {ds : List PyData} {k n m : Nat} (h : ∀ d ∈ ds, Vn d k n) (hl : ds.length ≤ m) (hm : m ≤ 100) : Vn (.tuple ds) (k + 1) (2 + m * n) := by
  refine ⟨by unfold OkV; exact ⟨by omega, okL_of fun d hd => (h d hd).ok⟩, ?_, ?_⟩
  · rw [PyData.depth]
    have := depL_of (k := k) fun d hd => (h d hd).dp
    omega
  · have := lenL_of (n := n) fun d hd => (h d hd).ln
    have := Nat.mul_le_mul_right n hl
    rw [rcd, List.length_cons, List.length_append, cnt_lt (show ds.length < 128 by omega)]
    show 1 + _ + 1 ≤ _
    omega
section
variable {c : CA} {S S' : Sto} {Q : QA} {X : XA} {st : Nat} {ns : List Int}
theorem sgn_eI {k : Int} (h0 : 0 ≤ k) (h1 : k < 5) : LnS (Str.ofString "e" ++ toString k) := by
  obtain ⟨j, rfl⟩ := Int.eq_ofNat_of_zero_le h0
  have hj : j < 5 := by omega
  have key : ∀ j : Nat, j < 5 → (Str.ofString "e" ++ (toString (j : Int) : Str)).length ≤ 20 ∧ (Str.ofString "e" ++ (toString (j : Int) : Str)).cps.all (fun c => decide (32 ≤ c ∧ c ≤ 126 ∧ c ≠ 37)) = true := by decide +kernel
  exact ⟨(key j hj).1, sgn_of (key j hj).2⟩
theorem o_shl {i j : Int} (c : CPow i j) (h : Q (.int (i * 2 ^ j.toNat)) S) : wO (dShl (.int i) (.int j) S) Q := by
  show wO (gd _ _) Q
  rw [gd_ok c]
  exact h
theorem levent_w (hl : ns.length ≤ 63) (hs : Stt2 S st) (q : ∀ d S', Ev st S S' → Vn d 1 130 → Q (pdv d) S') : wF (F_Levent c [.ref st, .scr ns] S) Q X := by
  refine Dw.Qt.un ?_
  simp (disch := (with_unfolding_all
    (unfold F_Levent
     rw [f_draw, f_line]
     walk_at "w0"
     walk_at "w"
     refine drawV_e hl hs (by omega) (by decide) fun k S1 e1 k0 k1 => ?_
     walk_at "w"
     refine o_strI k0 (by omega) ?_
     walk_at "w"
     rotate_left
     · have := (sgn_eI k0 k1).1
       rw [len_app] at this
       exact line_of (by omega)
     refine drawV_e hl e1.st (by omega) (by decide) fun i S2 e2 i0 i1 => ?_
     walk_at "w"
     refine lineV_w hl e2.st fun x S3 e3 hx => ?_
     walk_at "w"
     refine q (.tuple [.str (Str.ofString "e" ++ toString k), .int i, .str x]) S3 ((e1.trans e2).trans e3) ((Vn.tup (k := 0) (n := 40) (m := 3) (fun d hd => ?_) (Nat.le_refl _) (by decide)).mono (Nat.le_refl _) (by decide))
     simp only [List.mem_cons, List.not_mem_nil, or_false] at hd
     rcases hd with rfl | rfl | rfl
     · exact .str (sgn_eI k0 k1)
     · exact .int (Nat.lt_of_le_of_lt (show i.natAbs ≤ 400 by omega) (by decide))
     · exact .str hx))) only [↓Dw.Qt.tt]
def vB : Nat → Nat
  | 0 => 40
  | n + 1 => 2 + 3 * vB n
theorem vB_ge (n : Nat) : 40 ≤ vB n := by
  induction n with
  | zero => exact Nat.le_refl _
  | succ n ih => unfold vB; omega
theorem pdvs_m (ds : List PyData) : D.tup (ds.map pdv) = pdv (.tuple ds) := by rw [pdv, pdvs_map]
abbrev VSp (c : CA) (g : Fn) (st : Nat) (ns : List Int) (dp : Nat) : Prop := ∀ {S : Sto} {Q : QA} {X : XA}, Stt2 S st → (∀ d S', Ev st S S' → Vn d dp (vB dp) → Q (pdv d) S') → wF (g [.ref st, .scr ns, .int dp] S) Q X
def nbb : List PyData := [.none, .bool false, .bool true]
def edges : List PyData := [.int 127, .int 128, .int 16383, .int 16384, .int (-1), .int (-128), .int (-129), .int 2097151]
theorem nbb_vn : ∀ d ∈ nbb, Vn d 0 40 := fun d hd => by
  unfold nbb at hd
  simp only [List.mem_cons, List.not_mem_nil, or_false] at hd
  rcases hd with rfl | rfl | rfl
  · exact .none
  · exact .bool _
  · exact .bool _
theorem edges_vn : ∀ d ∈ edges, Vn d 0 40 := fun d hd => by
  unfold edges at hd
  simp only [List.mem_cons, List.not_mem_nil, or_false] at hd
  rcases hd with rfl | rfl | rfl | rfl | rfl | rfl | rfl | rfl <;> exact .int (by decide)
theorem lvalue1_w {k dp : Nat} (hl : ns.length ≤ 63) (ih : ∀ j, dp = j + 1 → VSp c (F_Lvalue c k) st ns j) : VSp c (F_Lvalue c (k + 1)) st ns dp := by
  intro S Q X hs q
  have qb : ∀ d S', Ev st S S' → Vn d 0 40 → Q (pdv d) S' := fun d S' e h => q d S' e (h.mono (Nat.zero_le _) (vB_ge dp))
  unfold F_Lvalue
  rw [f_draw, f_line]
  walk_at "w0"
  walk_at "w"
  refine drawV_e hl hs (by omega) (by decide) fun z S1 e1 z0 z1 => ?_
  have lt := hs.lt
  have l1 := e1.len
  walk_at "w"
  refine w_seq ?_
  walk_at "w"
  refine o_dec (fun _ => ?_) fun _ => ?_
  · walk_at "w"
    have ex : (S1 ++ [O.lst (nbb.map pdv)])[S1.length]? = some (.lst (nbb.map pdv)) := app_new
    have v2 := e1.app (x := O.lst (nbb.map pdv))
    change wF (V_Ldraw _ (S1 ++ [O.lst (nbb.map pdv)])) _ _
    generalize S1 ++ [O.lst (nbb.map pdv)] = S2 at *
    refine drawV_e hl v2.st (by omega) (by decide) fun i S3 e3 i0 i1 => ?_
    refine o_pick (L := nbb) (f := pdv) (e3.get (by omega) ex) i0 i1 fun _ d hd _ => ?_
    exact qb d S3 (v2.trans e3) (nbb_vn d (List.mem_of_getElem? hd))
  refine w_next ?_
  refine w_seq ?_
  walk_at "w"
  refine o_dec (fun _ => ?_) fun _ => ?_
  · walk_at "w"
    refine drawV_e hl e1.st (by omega) (by decide) fun i S3 e3 i0 i1 => ?_
    exact qb (.int i) S3 (e1.trans e3) (.int (Nat.lt_of_le_of_lt (show i.natAbs ≤ 300 by omega) (by decide)))
  refine w_next ?_
  refine w_seq ?_
  walk_at "w"
  refine o_dec (fun _ => ?_) fun _ => ?_
  · walk_at "w"
    refine drawV_e hl e1.st (by omega) (by decide) fun i S3 e3 i0 i1 => ?_
    walk_at "w"
    exact qb (.int (-i)) S3 (e1.trans e3) (.int (Nat.lt_of_le_of_lt (show (-i).natAbs ≤ 300 by omega) (by decide)))
  refine w_next ?_
  refine w_seq ?_
  walk_at "w"
  refine o_dec (fun _ => ?_) fun _ => ?_
  · walk_at "w"
    have ex : (S1 ++ [O.lst (edges.map pdv)])[S1.length]? = some (.lst (edges.map pdv)) := app_new
    have v2 := e1.app (x := O.lst (edges.map pdv))
    change wF (V_Ldraw _ (S1 ++ [O.lst (edges.map pdv)])) _ _
    generalize S1 ++ [O.lst (edges.map pdv)] = S2 at *
    refine drawV_e hl v2.st (by omega) (by decide) fun i S3 e3 i0 i1 => ?_
    refine o_pick (L := edges) (f := pdv) (e3.get (by omega) ex) i0 i1 fun _ d hd _ => ?_
    exact qb d S3 (v2.trans e3) (edges_vn d (List.mem_of_getElem? hd))
  refine w_next ?_
  refine w_seq ?_
  walk_at "w"
  refine o_dec (fun _ => ?_) fun _ => ?_
  · walk_at "w"
    refine o_shl ⟨by decide, by decide, by decide⟩ ?_
    rw [show (1 : Int) * 2 ^ (70 : Int).toNat = 1180591620717411303424 by decide]
    walk_at "w"
    refine drawV_e hl e1.st (by omega) (by decide) fun i S3 e3 i0 i1 => ?_
    walk_at "w"
    refine o_shl ⟨by decide, by decide, by decide⟩ ?_
    rw [show (1 : Int) * 2 ^ (69 : Int).toNat = 590295810358705651712 by decide]
    walk_at "w"
    exact qb (.int (i - 590295810358705651712)) S3 (e1.trans e3) (.int (Nat.lt_of_le_of_lt (show (i - 590295810358705651712).natAbs ≤ 590295810358705651712 by omega) (by decide)))
  refine w_next ?_
  have fin : ∀ nx, wS (cRet (eCall V_Lline (aCons (eV 0) (aCons (eV 1) aNil)))) [some (.ref st), some (.scr ns), some (.int dp), some (.int z), none] S1 ⟨nx, Q, fun _ _ => False, fun _ _ => False, fun _ _ _ => False⟩ := fun nx => by
    walk_at "w"
    refine lineV_w hl e1.st fun x S2 e2 hx => ?_
    exact qb (.str x) S2 (e1.trans e2) (.str hx)
  refine w_seq ?_
  walk_at "w"
  refine o_dec (fun _ => ?_) fun _ => ?_
  · exact fin _
  walk_at "w"
  refine o_dec (fun _ => ?_) fun h0 => ?_
  · exact fin _
  refine w_next ?_
  obtain ⟨j, rfl⟩ : ∃ j, dp = j + 1 := ⟨dp - 1, by omega⟩
  walk_at "w"
  refine c_dat (st := st) pdv (fun d => Vn d j (vB j)) rfl ?_
  walk_at "w"
  refine drawV_e hl e1.st (by omega) (by decide) fun i S2 e2 i0 i1 => ?_
  refine ⟨_, rfl, rg_ok (by omega) (by omega), ⟨_, by omega, rfl⟩, e2.st, fun vv S3 e3 => ?_, fun ds S3 e3 hG hlen h3 => ?_⟩
  · simp only [List.set]
    walk_at "w"
    rw [show ((j + 1 : Nat) : Int) - 1 = (j : Int) by omega]
    refine ih j rfl e3.st fun d S4 e4 hd => ?_
    exact ⟨d, rfl, hd, e4⟩
  · rw [List.length_map, List.length_range] at hlen
    walk_at "w"
    refine o_tupL h3 ?_
    rw [pdvs_m]
    exact q (.tuple ds) S3 ((e1.trans e2).trans e3) ((Vn.tup (m := 3) hG (by omega) (by decide)).mono (Nat.le_refl _) (Nat.le_refl _))
theorem lvalue_w (hl : ns.length ≤ 63) : ∀ (dp k : Nat), dp ≤ k → VSp c (F_Lvalue c (k + 1)) st ns dp
  | 0, k, _ => lvalue1_w hl fun j hj => absurd hj (by omega)
  | dp + 1, k, h => lvalue1_w hl fun j hj => by
    cases hj
    obtain ⟨m, rfl⟩ : ∃ m, k = m + 1 := ⟨k - 1, by omega⟩
    exact lvalue_w hl dp m (by omega)
theorem lkept_w (hl : ns.length ≤ 63) (hs : Stt2 S st) (q : ∀ (m : Int) S', Ev st S S' → Q (.int m) S') : wF (F_Lkept c [.ref st, .scr ns] S) Q X := by
  refine Dw.Qt.un ?_
  simp (disch := (with_unfolding_all
    (unfold F_Lkept
     rw [f_draw]
     have lt := hs.lt
     walk_at "w0"
     walk_at "w"
     refine drawV_e hl hs (by omega) (by decide) fun i S1 e1 i0 i1 => ?_
     have l1 := e1.len
     walk_at "w"
     have ex : (S1 ++ [O.lst ([i, 100000, 0].map .int)])[S1.length]? = some (.lst ([i, 100000, 0].map .int)) := app_new
     have v2 := e1.app (x := O.lst ([i, 100000, 0].map .int))
     change wF (V_Ldraw _ (S1 ++ [O.lst ([i, 100000, 0].map .int)])) _ _
     generalize S1 ++ [O.lst ([i, 100000, 0].map .int)] = S2 at *
     refine drawV_e hl v2.st (by omega) (by decide) fun j S3 e3 j0 j1 => ?_
     refine o_pick (L := [i, 100000, 0]) (f := .int) (e3.get (by omega) ex) j0 j1 fun _ m _ _ => ?_
     exact q m S3 (v2.trans e3)))) only [↓Dw.Qt.tt]
end
def PwOk (w : Option Int) : Prop := ∀ p, w = some p → 0 ≤ p
def pwB (w : Option Int) (n : Int) : Bool := match w with
  | none => true
  | some p => decide (n ≤ p)
theorem last_some {v : Dq} {n : Nat} {p : Int} (h : v.w = some p) (hp : 0 ≤ p) : v.last n = min p.toNat n := by
  unfold Dq.last spn
  rw [h]
  dsimp only
  split <;> split <;> omega
theorem spn_some {p : Int} {n : Nat} (hp : 0 ≤ p) (h : (n : Int) ≤ p) : (spn (some p) n).2 = some (p - n) := by
  unfold spn
  dsimp only
  congr 2
  split <;> split <;> omega
theorem jad_pw {v : Dq} {k : Nat} {r : List Int} (hp : PwOk v.w) : (jad v k r).2 = pwB v.w (1 + r.length) ∧ ((jad v k r).2 = true → (jad v k r).1.w = v.w.map (· - (1 + (r.length : Int)))) := by
  refine Dw.Qt.un ?_
  simp (disch := (with_unfolding_all
    (cases hw : v.w with
     | none =>
       have hl : v.last r.length = r.length := last_none hw
       have w1 : (v.add k r).w = none := by
         show (spn v.w r.length).2 = none
         rw [hw]
         rfl
       have h2 : ¬ (v.add k r).last 1 < 1 := by rw [last_none w1]; omega
       unfold jad
       rw [if_neg (by omega)]
       refine ⟨by rw [decide_eq_false h2]; rfl, fun _ => ?_⟩
       unfold Dq.sync
       rw [if_neg h2]
       show (spn (v.add k r).w 1).2 = none
       rw [w1]
       rfl
     | some p =>
       have p0 := hp p hw
       have hl := last_some (n := r.length) hw p0
       unfold jad pwB
       by_cases c : v.last r.length < r.length
       · rw [if_pos c]
         refine ⟨(decide_eq_false (by omega)).symm, fun h => by cases h⟩
       rw [if_neg c]
       have w1 : (v.add k r).w = some (p - r.length) := by
         show (spn v.w r.length).2 = _
         rw [hw]
         exact spn_some p0 (by omega)
       have l1 := last_some (n := 1) w1 (by omega)
       refine ⟨?_, fun h => ?_⟩
       · show (!decide ((v.add k r).last 1 < 1)) = decide ((1 : Int) + r.length ≤ p)
         rw [l1]
         by_cases q : (1 : Int) + r.length ≤ p
         · rw [decide_eq_true q, decide_eq_false (by omega)]; rfl
         · rw [decide_eq_false q, decide_eq_true (by omega)]; rfl
       · have h2 : ¬ (v.add k r).last 1 < 1 := by simpa using h
         unfold Dq.sync
         rw [if_neg h2]
         show (spn (v.add k r).w 1).2 = some _
         have : (spn (some (p - (r.length : Int))) ((1 : Nat) : Int)).2 = some (p - r.length - ((1 : Nat) : Int)) := spn_some (by omega) (by omega)
         rw [w1]
         refine this.trans ?_
         show some _ = some (p - (1 + (r.length : Int)))
         congr 1
         omega))) only [↓Dw.Qt.tt]
theorem jck_pw {v : Dq} {k : Nat} {r : List Int} (hp : PwOk v.w) : (jck v k r).2 = pwB v.w (2 + r.length) ∧ ((jck v k r).2 = true → (jck v k r).1.w = v.w.map (· - (2 + (r.length : Int)))) := by
  refine Dw.Qt.un ?_
  simp (disch := (with_unfolding_all
    (cases hw : v.w with
     | none =>
       have hl : v.last 1 = 1 := last_none hw
       have w1 : (v.add k [-1]).w = none := by
         show (spn v.w 1).2 = none
         rw [hw]
         rfl
       obtain ⟨a, b⟩ := jad_pw (v := v.add k [-1]) (k := k) (r := r) (by rw [w1]; nofun)
       unfold jck
       rw [if_neg (by omega)]
       rw [w1] at a b
       exact ⟨a, b⟩
     | some p =>
       have p0 := hp p hw
       have hl := last_some (n := 1) hw p0
       unfold jck
       by_cases c : v.last 1 < 1
       · rw [if_pos c]
         refine ⟨(decide_eq_false (by omega)).symm, fun h => by cases h⟩
       rw [if_neg c]
       have w1 : (v.add k [-1]).w = some (p - 1) := by
         show (spn v.w ((1 : Nat) : Int)).2 = _
         rw [hw]
         exact spn_some p0 (by omega)
       obtain ⟨a, b⟩ := jad_pw (v := v.add k [-1]) (k := k) (r := r) (by rw [w1]; intro q e; cases e; omega)
       rw [w1] at a b
       refine ⟨a.trans ?_, fun h => (b h).trans ?_⟩
       · unfold pwB
         exact decide_eq_decide.mpr (by omega)
       · show some (p - 1 - (1 + (r.length : Int))) = some (p - (2 + (r.length : Int)))
         congr 1
         omega))) only [↓Dw.Qt.tt]
theorem PwOk.sub {w : Option Int} {n : Int} (h : pwB w n = true) : PwOk (w.map (· - n)) := by
  intro p e
  cases w with
  | none => cases e
  | some q =>
    have : n ≤ q := of_decide_eq_true h
    cases e
    show 0 ≤ q - n
    omega
def actD (ck : Bool) (d : PyData) : D := .tup [.str (if ck = true then Str.ofString "checkpoint" else Str.ofString "add"), pdv d]
def aftJ (o : Jo) (ck : Bool) (d : PyData) : Jo := if ck = true then some (d, []) else o.map fun x => (x.1, x.2 ++ [d])
def need (g : Int) (ck : Bool) (d : PyData) : Int := if ck = true then 2 + ((rcd (begP (g + 1) d)).length : Int) else 1 + ((rcd d).length : Int)
theorem ne_ac : ¬ (Str.ofString "add" = Str.ofString "checkpoint") := by decide +kernel
theorem okv_beg {g : Int} {d : PyData} (hg : Gn g) (hd : Vd d) (hl : True := trivial) : OkV (begP g d) := by
  unfold begP OkV
  refine ⟨show 3 ≤ 1000 by decide, okL_of fun x hx => ?_⟩
  simp only [List.mem_cons, List.not_mem_nil, or_false] at hx
  rcases hx with rfl | rfl | rfl
  · unfold OkV
    exact ⟨by decide +kernel, sgn_of (by decide +kernel)⟩
  · exact hg.vd.ok
  · exact hd.ok
theorem dep_beg {g : Int} {d : PyData} (hd : Vd d) : (begP g d).depth ≤ 21 := by
  unfold begP
  rw [PyData.depth]
  have : PyData.depthAll [.str (Str.ofString "begin"), .int g, d] ≤ 20 := depL_of fun x hx => by
    simp only [List.mem_cons, List.not_mem_nil, or_false] at hx
    rcases hx with rfl | rfl | rfl
    · exact Nat.zero_le _
    · exact Nat.zero_le _
    · exact hd.dp
  omega
section
variable {c : CA} {S S' : Sto} {Q : QA} {X : XA} {W : Nat → Prop} {j dk cur st : Nat} {g : Int} {o : Jo} {v : Dq} {ns : List Int} {d : PyData} {ck : Bool}
theorem lneed_w (hg : Gn (g + 1)) (hd : Vd d) (hl : (rcd d).length ≤ 1000) (hb : (rcd (begP (g + 1) d)).length ≤ 2000) (f : ∀ S', Upto [] S S' → Q (.int (need g ck d)) S') : wF (F_Lneed c [.int g, actD ck d] S) Q X := by
  refine Dw.Qt.un ?_
  simp (disch := (with_unfolding_all
    (unfold F_Lneed actD
     rw [f_pack]
     unfold need at f
     walk_at "w0"
     refine w_seq ?_
     walk_at "w"
     cases ck with
     | true =>
       refine if_yes (by rw [if_pos rfl]; exact decide_eq_true rfl) ?_
       walk_at "w"
       have ob := okv_beg hg hd
       refine pack_w (n := 24) (d := pdv (begP (g + 1) d)) (flat_pdv _ ob) (by rw [dvp_pdv _ ob]; have := dep_beg (g := g + 1) hd; omega) (by rw [dvp_pdv _ ob]; omega) fun S1 y u1 l1 e1 => ?_
       rw [dvp_pdv _ ob] at e1
       walk_at "w"
       refine o_lenQ (seqOf_ref e1) ?_
       rw [List.length_map]
       walk_at "w"
       exact f S1 u1
     | false =>
       refine if_no (by rw [if_neg Bool.false_ne_true]; exact decide_eq_false ne_ac) ?_
       refine w_next ?_
       walk_at "w"
       refine pack_w (n := 24) (d := pdv d) (flat_pdv _ hd.ok) (by rw [dvp_pdv _ hd.ok]; have := hd.dp; omega) (by rw [dvp_pdv _ hd.ok]; omega) fun S1 y u1 l1 e1 => ?_
       rw [dvp_pdv _ hd.ok] at e1
       walk_at "w"
       refine o_lenQ (seqOf_ref e1) ?_
       rw [List.length_map]
       walk_at "w"
       exact f S1 u1))) only [↓Dw.Qt.tt]
theorem lafter_w {k : Nat} (e : S[k]? = some (.lst o.es)) (ho : ck = false → ∃ x, o = some x) (hl : o.es.length ≤ 1000) (f : ∀ S' n, Upto [] S S' → S.length ≤ n → S'[n]? = some (.lst (aftJ o ck d).es) → Q (.tup [(aftJ o ck d).x, .ref n]) S') : wF (F_Lafter c [.tup [o.x, .ref k], actD ck d] S) Q X := by
  refine Dw.Qt.un ?_
  simp (disch := (with_unfolding_all
    (unfold F_Lafter actD
     walk_at "w0"
     refine w_seq ?_
     walk_at "w"
     cases ck with
     | true =>
       refine if_yes (by rw [if_pos rfl]; exact decide_eq_true rfl) ?_
       walk_at "w"
       exact f _ S.length ((Upto.refl _ _).app) (Nat.le_refl _) app_new
     | false =>
       obtain ⟨x, rfl⟩ := ho rfl
       refine if_no (by rw [if_neg Bool.false_ne_true]; exact decide_eq_false ne_ac) ?_
       refine w_next ?_
       walk_at "w"
       refine o_cat (app_old e) app_new (line_of (by rw [List.length_singleton]; omega)) ?_
       walk_at "w"
       refine f _ _ ((Upto.refl _ _).app.app) (by simp) ?_
       show _ = some (O.lst (pdvs (x.2 ++ [d])))
       rw [app_new, pdvs_map, List.map_append, ← pdvs_map]
       rfl))) only [↓Dw.Qt.tt]
def actR (v : Dq) (cur : Nat) (g : Int) (ck : Bool) (d : PyData) : Dq × Bool := if ck = true then jck v (1 - cur) (rcd (begP (g + 1) d)) else jad v cur (rcd d)
theorem ltried_w (h : JrP c.cd S W j dk cur g v) (hg : Gn (g + 1)) (hd : Vd d) (hl : (rcd d).length ≤ 1000) (hb : (rcd (begP (g + 1) d)).length ≤ 2000) (hv : ∀ k, k < 2 → (v.f k).length + (v.p k).length ≤ 6000000)
    (f : ∀ S' cur' g', JrP c.cd S' (Gb W S S') j dk cur' g' (actR v cur g ck d).1 → Fr (Gr W S) S S' → ((actR v cur g ck d).2 = false → cur' = cur ∧ g' = g) → ((actR v cur g ck d).2 = true → cur' = (if ck = true then 1 - cur else cur) ∧ g' = if ck = true then g + 1 else g) → Q (.bl (actR v cur g ck d).2) S') : wF (F_Ltried c [.ref j, actD ck d] S) Q X := by
  refine Dw.Qt.un ?_
  simp (disch := (with_unfolding_all
    (unfold F_Ltried actD
     rw [f_jadd, f_jchk]
     walk_at "w0"
     refine w_try ?_
     refine w_seq ?_
     walk_at "w"
     obtain ⟨g0, vl, e0, ob⟩ := h.ob
     cases ck with
     | true =>
       unfold actR at f
       rw [if_pos rfl] at f
       simp only [if_pos] at f
       refine if_yes (by rw [if_pos rfl]; exact decide_eq_true rfl) ?_
       walk_at "w"
       refine w_obj ob ?_
       walk_at "w"
       have obb := okv_beg hg hd
       have eb : dvp (begD (g + 1) (pdv d)) = begP (g + 1) d := by
         rw [show begD (g + 1) (pdv d) = pdv (begP (g + 1) d) from rfl, dvp_pdv _ obb]
       refine jchk_w (c := c.cd) (x := pdv d) h (flat_pdv _ hd.ok) (by rw [eb]; have := dep_beg (g := g + 1) hd; omega) (by rw [eb]; omega) hv fun S1 cur' g' h1 f1 => ⟨fun hf e1 e2 => ?_, fun ht e1 e2 => ?_⟩
       · rw [eb] at h1 hf
         refine ⟨true, if_pos rfl, ?_⟩
         rw [if_pos rfl]
         refine w_noEx ?_
         walk_at "w"
         have := f S1 cur' g' h1 f1 (fun _ => ⟨e1, e2⟩) (fun z => by rw [hf] at z; cases z)
         rw [hf] at this
         exact this
       · rw [eb] at h1 ht
         walk_at "w"
         have := f S1 cur' g' h1 f1 (fun z => by rw [ht] at z; cases z) (fun _ => ⟨e1, e2⟩)
         rw [ht] at this
         exact this
     | false =>
       unfold actR at f
       rw [if_neg Bool.false_ne_true] at f
       refine if_no (by rw [if_neg Bool.false_ne_true]; exact decide_eq_false ne_ac) ?_
       walk_at "w"
       refine w_obj ob ?_
       walk_at "w"
       refine jadd_w (c := c.cd) (x := pdv d) h (flat_pdv _ hd.ok) (by rw [dvp_pdv _ hd.ok]; have := hd.dp; omega) (by rw [dvp_pdv _ hd.ok]; omega) (by have := hv cur h.hc; omega) fun S1 h1 f1 => ⟨fun hf => ?_, fun ht => ?_⟩
       · rw [dvp_pdv _ hd.ok] at h1 hf
         refine ⟨true, if_pos rfl, ?_⟩
         rw [if_pos rfl]
         refine w_noEx ?_
         walk_at "w"
         have := f S1 cur g h1 f1 (fun _ => ⟨rfl, rfl⟩) (fun z => by rw [hf] at z; cases z)
         rw [hf] at this
         exact this
       · rw [dvp_pdv _ hd.ok] at h1 ht
         walk_at "w"
         have := f S1 cur g h1 f1 (fun z => by rw [ht] at z; cases z) (fun _ => ⟨(if_neg Bool.false_ne_true).symm, (if_neg Bool.false_ne_true).symm⟩)
         rw [ht] at this
         exact this))) only [↓Dw.Qt.tt]
end
def joD (o : Jo) (k : Nat) : D := .tup [o.x, .ref k]
structure CW (c : CA) (S : Sto) (W : Nat → Prop) (d j st k4 cur : Nat) (g : Int) (o : Jo) (v : Dq) : Prop where
  jr : JrP c.cd S W j d cur g v
  sd : Stt2 S st
  ns : ¬ W st
  ov : JoV o
  ek : S[k4]? = some (.lst o.es)
  nk : ¬ W k4
  n0 : k4 ≠ st
structure LW (c : CA) (S : Sto) (W : Nat → Prop) (d j st k4 cur : Nat) (g : Int) (o : Jo) (b : Bool) (v : Dq) (i : Nat) : Prop extends CW c S W d j st k4 cur g o v where
  jn : Jn v cur g o b
  pw : PwOk v.w
  g0 : 0 ≤ g
  g1 : g ≤ i
  ln : ∀ k, k < 2 → (v.f k).length ≤ 3000 * i
  el : o.es.length ≤ i
  bo : b = true → ∃ x, o = some x
/-- behind a call that ran out of power, or before a crash -/
structure BW (c : CA) (S : Sto) (W : Nat → Prop) (d j st k4 km cur : Nat) (g' g : Int) (o om : Jo) (v : Dq) (i : Nat) : Prop extends CW c S W d j st k4 cur g' o v where
  vm : JoV om
  em : S[km]? = some (.lst om.es)
  nm : ¬ W km
  m0 : km ≠ st
  ln : ∀ k, k < 2 → (v.f k).length + (v.p k).length ≤ 3000 * i
  cr : ∀ x y, ∃ cur g2 o2, (o2 = o ∨ o2 = om) ∧ Jn (v.crash x y) cur g2 o2 false ∧ g ≤ g2 ∧ g2 ≤ i
  e1 : o.es.length ≤ i
  e2 : om.es.length ≤ i
  gz : 0 ≤ g
section
variable {c : CA} {S S' : Sto} {W W' : Nat → Prop} {d j st k4 km cur i : Nat} {g g' : Int} {o om : Jo} {b : Bool} {v : Dq}
theorem CW.up (h : CW c S W d j st k4 cur g o v) (u : Upto [] S S') : CW c S' W d j st k4 cur g o v := ⟨h.jr.up u, h.sd.up u nofun, h.ns, h.ov, u.get0 h.ek, h.nk, h.n0⟩
theorem CW.ev (h : CW c S W d j st k4 cur g o v) (e : Ev st S S') : CW c S' W d j st k4 cur g o v := ⟨h.jr.keep e.len fun n hn q eq => e.get (fun z => h.ns (z ▸ hn)) eq, e.st, h.ns, h.ov, e.get h.n0 h.ek, h.nk, h.n0⟩
theorem LW.up (h : LW c S W d j st k4 cur g o b v i) (u : Upto [] S S') : LW c S' W d j st k4 cur g o b v i := { h with toCW := h.toCW.up u }
theorem LW.ev (h : LW c S W d j st k4 cur g o b v i) (e : Ev st S S') : LW c S' W d j st k4 cur g o b v i := { h with toCW := h.toCW.ev e }
theorem LW.mono {i' : Nat} (h : LW c S W d j st k4 cur g o b v i) (l : i ≤ i') : LW c S W d j st k4 cur g o b v i' := { h with g1 := (by have := h.g1; omega), ln := fun k hk => Nat.le_trans (h.ln k hk) (Nat.mul_le_mul_left _ l), el := Nat.le_trans h.el l }
theorem BW.up (h : BW c S W d j st k4 km cur g' g o om v i) (u : Upto [] S S') : BW c S' W d j st k4 km cur g' g o om v i := { h with toCW := h.toCW.up u, em := u.get0 h.em }
theorem BW.ev (h : BW c S W d j st k4 km cur g' g o om v i) (e : Ev st S S') : BW c S' W d j st k4 km cur g' g o om v i := { h with toCW := h.toCW.ev e, em := e.get h.m0 h.em }
/-- a good state may crash as well -/
theorem LW.bad (h : LW c S W d j st k4 cur g o b v i) : BW c S W d j st k4 k4 cur g g o o v i :=
  ⟨h.toCW, h.ov, h.ek, h.nk, h.n0, fun k hk => (by rw [h.jn.p k hk]; exact h.ln k hk), fun x y => ⟨cur, g, o, .inl rfl, (h.jn.crash0 x y).low, Int.le_refl _, h.g1⟩, h.el, h.el, h.g0⟩
theorem aftJ_v {d0 : PyData} {ck : Bool} (h : JoV o) (hd : Vd d0) : JoV (aftJ o ck d0) := by
  unfold aftJ
  split
  · exact ⟨hd, nofun⟩
  · cases o with
    | none => exact .none
    | some x =>
      refine ⟨h.v, fun e he => ?_⟩
      rcases List.mem_append.mp (show e ∈ x.2 ++ [d0] from he) with he | he
      · exact h.e e he
      · rw [List.mem_singleton.mp he]; exact hd
theorem aftJ_len {d0 : PyData} {ck : Bool} (h : o.es.length ≤ i) : (aftJ o ck d0).es.length ≤ i + 1 := by
  unfold aftJ
  split
  · exact Nat.zero_le _
  · cases o with
    | none => exact Nat.zero_le _
    | some x =>
      show (pdvs (x.2 ++ [d0])).length ≤ _
      have : (pdvs x.2).length ≤ i := h
      rw [pdvs_map, List.length_map] at this ⊢
      rw [List.length_append, List.length_singleton]
      omega
theorem jad_len {k : Nat} {r : List Int} (q : Nat) : ((jad v k r).1.f q).length + ((jad v k r).1.p q).length ≤ (v.f q).length + (v.p q).length + r.length := by
  cases h : (jad v k r).2 with
  | true =>
    obtain ⟨a, b⟩ := jad_ok h
    rw [a, b]
    by_cases e : q = k
    · rw [if_pos e, if_pos e, e]
      have := aftI_len (v.p k ++ r) (v.f k)
      rw [List.length_append] at this
      simp only [List.length_nil]
      omega
    · rw [if_neg e, if_neg e]; omega
  | false =>
    obtain ⟨a, m, b⟩ := jad_no h
    rw [a, b]
    by_cases e : q = k
    · rw [if_pos e, e, List.length_append, List.length_take]; omega
    · rw [if_neg e]; omega
theorem jck_len {k : Nat} {r : List Int} (q : Nat) : ((jck v k r).1.f q).length + ((jck v k r).1.p q).length ≤ (v.f q).length + (v.p q).length + (r.length + 1) := by
  refine Dw.Qt.un ?_
  simp (disch := (with_unfolding_all
    (cases h : (jck v k r).2 with
     | true =>
       obtain ⟨a, b⟩ := jck_ok h
       rw [a, b]
       by_cases e : q = k
       · rw [if_pos e, if_pos e, e]
         have := aftI_len (v.p k ++ -1 :: r) (v.f k)
         rw [List.length_append, List.length_cons] at this
         simp only [List.length_nil]
         omega
       · rw [if_neg e, if_neg e]; omega
     | false =>
       obtain ⟨a, m, b⟩ := jck_no h
       rw [a, b]
       by_cases e : q = k
       · rw [if_pos e, e, List.length_append, List.length_take, List.length_cons]; omega
       · rw [if_neg e]; omega))) only [↓Dw.Qt.tt]
theorem actR_len {d0 : PyData} {ck : Bool} (hl : (rcd d0).length ≤ 1000) (hb : (rcd (begP (g + 1) d0)).length ≤ 2000) (q : Nat) : ((actR v cur g ck d0).1.f q).length + ((actR v cur g ck d0).1.p q).length ≤ (v.f q).length + (v.p q).length + 3000 := by
  unfold actR
  split
  · have := jck_len (v := v) (k := 1 - cur) (r := rcd (begP (g + 1) d0)) q
    omega
  · have := jad_len (v := v) (k := cur) (r := rcd d0) q
    omega
theorem crash_len {x y k : Nat} (hk : k < 2) : ((v.crash x y).f k).length ≤ (v.f k).length + (v.p k).length := by
  rw [(crash_f hk).1]
  have := aftI_len ((v.p k).take (if k = 0 then x else y)) (v.f k)
  rw [List.length_take] at this
  omega
/-- an act that returns -/
theorem act_ok {d0 : PyData} {ck : Bool} (h : Jn v cur g o b) (hg : Gn (g + 1)) (hd : Vd d0) (hc : ck = false → b = true ∧ ∃ x, o = some x) (ok : (actR v cur g ck d0).2 = true) : Jn (actR v cur g ck d0).1 (if ck = true then 1 - cur else cur) (if ck = true then g + 1 else g) (aftJ o ck d0) true := by
  cases ck with
  | true => exact (h.chk hg hd).1 ok
  | false =>
    obtain ⟨rfl, ⟨x, es⟩, rfl⟩ := hc rfl
    exact (h.add hd).1 ok
theorem act_no {d0 : PyData} {ck : Bool} (h : Jn v cur g o b) (hg : Gn (g + 1)) (hd : Vd d0) (hc : ck = false → b = true ∧ ∃ x, o = some x) (no : (actR v cur g ck d0).2 = false) (x y : Nat) : ∃ cur' g2 o2, (o2 = o ∨ o2 = aftJ o ck d0) ∧ Jn ((actR v cur g ck d0).1.crash x y) cur' g2 o2 false ∧ g ≤ g2 ∧ g2 ≤ g + 1 := by
  cases ck with
  | true =>
    rcases (h.chk hg hd).2 no x y with q | q
    · exact ⟨_, _, _, .inl rfl, q, by omega, by omega⟩
    · exact ⟨_, _, _, .inr rfl, q, by omega, by omega⟩
  | false =>
    obtain ⟨rfl, ⟨z, es⟩, rfl⟩ := hc rfl
    rcases (h.add hd).2 no x y with q | q
    · exact ⟨_, _, _, .inl rfl, q, by omega, by omega⟩
    · exact ⟨_, _, _, .inr rfl, q, by omega, by omega⟩
theorem act_pw {d0 : PyData} {ck : Bool} (hp : PwOk v.w) : (actR v cur g ck d0).2 = pwB v.w (need g ck d0) ∧ ((actR v cur g ck d0).2 = true → (actR v cur g ck d0).1.w = v.w.map (· - need g ck d0)) := by
  unfold actR need
  cases ck with
  | true => exact jck_pw hp
  | false => exact jad_pw hp
end
theorem o_neBl {a : Bool} {S : Sto} {Q : QA} (h : Q (.bl false) S) : wO (dNe (.bl a) (.bl a) S) Q := by
  cases a <;> exact h
variable {c : CA} {ns : List Int}
theorem LW.lim {S S' : Sto} {W : Nat → Prop} {d j st k4 cur i : Nat} {g : Int} {o : Jo} {b : Bool} {v : Dq} {x : Option Int} (h : LW c S W d j st k4 cur g o b v i) (hk : DkP c.cd.Disk S' W d (v.lim x)) (u : Upto [d] S S') (hp : PwOk x) : LW c S' W d j st k4 cur g o b (v.lim x) i := by
  refine Dw.Qt.un ?_
  simp (disch := (with_unfolding_all
    (obtain ⟨du, sp, a, b', hA⟩ := h.jr.dk
     obtain ⟨g0, vl, e0, ob⟩ := h.jr.ob
     have nj : j ≠ d := len_ne ob hA.ob rfl
     have no : ∀ n, n ≠ d → n ∉ [d] := fun n q z => q (List.mem_singleton.mp z)
     have nst : st ≠ d := fun z => h.ns (z ▸ hA.wd)
     have nk : k4 ≠ d := fun z => h.nk (z ▸ hA.wd)
     exact ⟨⟨⟨⟨g0, vl, e0, u.get (no j nj) ob⟩, hk, h.jr.wj, fun n hn => Nat.lt_of_lt_of_le (h.jr.wl n hn) u.len, h.jr.hc⟩, h.sd.up u (no st nst), h.ns, h.ov, u.get (no k4 nk) h.ek, h.nk, h.n0⟩, ⟨h.jn.p, h.jn.hc, h.jn.st⟩, hp, h.g0, h.g1, h.ln, h.el, h.bo⟩))) only [↓Dw.Qt.tt]
theorem JoV.pd {S : Sto} {n : Nat} {o : Jo} (h : JoV o) (e : S[n]? = some (.lst o.es)) : Pd S 22 (joD o n) (.tuple [o.px, .list o.pes]) := .tup (.cons (h.pdx.mono (by omega)) (.cons (h.pde e) .nil))
theorem o_neAny {n : Nat} {x y : D} {p q : PyData} {S : Sto} {Q : QA} (h : Pd S n x p) (g : Pd S n y q) (f : ∀ b, Q (.bl b) S) (l : n ≤ 64 := by decide) : wO (dNeD x y S) Q := by
  refine o_neD (v := PyData.eqv p q) ?_ (f _)
  unfold dEqv
  rw [h.py 69 (by omega), g.py 69 (by omega)]
  show gd _ _ = _
  rw [gd_ok ⟨h.sh.shaped l, g.sh.shaped l⟩]
theorem LdA.jr {S : Sto} {W : Nat → Prop} {j e d cur : Nat} {g : Int} {o : Jo} {v : Dq} (ld : LdA c S j e d cur g o) (h : DkP c.cd.Disk S W d v) (wl : ∀ n, W n → n < S.length) (hc : cur < 2) : JrP c.cd S (fun n => W n ∨ n = j) j d cur g v :=
  ⟨⟨_, _, _, ld.ob⟩, h.wide fun n hn _ => .inl hn, .inr rfl, fun n hn => hn.elim (wl n) fun z => z ▸ app_lt ld.ob, hc⟩
set_option maxHeartbeats 8000000 in
theorem law_w (hns : ns.length ≤ 63) : wF (F_law c [.scr ns] []) (fun d _ => d = .bl true) noX := by
  refine Dw.Qt.un ?_
  simp (disch := (with_unfolding_all
    (unfold F_law
     rw [f_draw, f_jev, f_crash, f_limit, f_dinit]
     walk_at "w0"
     walk_at "w"
     have s0 : Stt2 ([] ++ [O.lst [.int 0, .int 0]]) 0 := ⟨0, 0, rfl⟩
     have z0 : ([] : Sto).length = 0 := rfl
     rw [z0]
     generalize ([] ++ [O.lst [.int 0, .int 0]] : Sto) = S0 at *
     refine dinit_w (c := c.cd) app_new fun S1 h1 u1 => ⟨rfl, ?_⟩
     have l1 := u1.len
     rw [List.length_append, List.length_singleton] at l1
     have lt0 := s0.lt
     have s1 : Stt2 S1 0 := by
       obtain ⟨a, b, e⟩ := s0
       exact ⟨a, b, u1.get (by simp only [List.mem_singleton]; omega) (app_old e)⟩
     have h1 : DkP c.cd.Disk S1 (fun n => n = S0.length ∨ (S0 ++ [O.obj c.Disk []]).length ≤ n) S0.length dq0 := h1
     have h1 : DkP c.cd.Disk S1 (fun n => S0.length ≤ n ∧ n < S1.length) S0.length dq0 := h1.wide fun n hn hl => ⟨by rw [List.length_append, List.length_singleton] at hn; omega, hl⟩
     generalize S0.length = d at *
     clear u1 s0 z0
     have j1 : Jn dq0 1 0 none false := ⟨fun _ _ => rfl, by decide, rfl, rfl, rfl, fun _ _ => .nil⟩
     walk_at "w"
     refine lloaded_w (c := c) h1 j1 .none (fun _ _ => Nat.zero_le _) fun S2 j e u2 lj le ld => ?_
     walk_at "w"
     refine w_seq ?_
     walk_at "w"
     refine if_no rfl ?_
     walk_at "w"
     refine o_fld ld.ob (z := 0) rfl ?_
     walk_at "w"
     refine if_no rfl ?_
     walk_at "w"
     change wS _ _ (S2 ++ [O.lst (Jo.es none)]) _
     have k3 : (S2 ++ [O.lst (Jo.es none)])[S2.length]? = some (.lst (Jo.es none)) := app_new
     have u3 : Upto [] S1 (S2 ++ [O.lst (Jo.es none)]) := u2.app
     have ld3 : LdA c (S2 ++ [O.lst (Jo.es none)]) j e d 1 0 none := ⟨app_old ld.ob, app_old ld.es⟩
     have l2 := u2.len
     have lj2 := app_lt ld.ob
     have w0 : LW c (S2 ++ [O.lst (Jo.es none)]) (fun n => (d ≤ n ∧ n < S1.length) ∨ n = j) d j 0 S2.length 1 0 none false dq0 0 :=
       ⟨⟨ld3.jr (h1.up u3) (fun n hn => by have := u3.len; omega) (by decide), s1.up u3 nofun, fun z => by omega, .none, k3, fun z => by omega, by omega⟩, j1, nofun, Int.le_refl _, Int.le_refl _, fun _ _ => Nat.le_refl _, Nat.le_refl _, nofun⟩
     generalize S2 ++ [O.lst (Jo.es none)] = S3 at *
     generalize S2.length = k4 at *
     clear ld3 ld k3 u3 u2 h1 s1 j1
     refine w_cut (fun _ _ => True) ?_ fun σ1 S8 _ => ?_
     rotate_left
     · walk_at "w"
       rfl
     walk_at "w"
     refine drawV_e hns w0.sd (by omega) (by decide) fun d0 S4 v4 d00 d01 => ?_
     refine ⟨d0, rfl, rg_ok (by omega) (by omega), trivial, w_loop (k := 0) (P := fun i σ1 S5 => ∃ (W : Nat → Prop) (j k4 cur : Nat) (g : Int) (o : Jo) (b : Bool) (v : Dq) (x8 x9 x10 x11 x12 x13 x14 x15 x16 : Option D), LW c S5 W d j 0 k4 cur g o b v i ∧ σ1 = [some (.scr ns), some (.ref 0), some (.ref d), some (.ref j), some (joD o k4), some (.bl b), some (.int g), some (oiD v.w), x8, x9, x10, x11, x12, x13, x14, x15, x16]) ⟨_, j, k4, 1, 0, none, false, dq0, _, _, _, _, _, _, _, _, _, w0.ev v4, rfl⟩ (fun i vv σ S5 hi hP => ?_) fun σ S5 hP => trivial⟩
     have hi' : i < 24 := by
       have := (List.getElem?_eq_some_iff.mp hi).1
       rw [List.length_map, List.length_range] at this
       omega
     clear w0 v4 hi
     obtain ⟨W, j, k4, cur, g, o, b, v, x8, x9, x10, x11, x12, x13, x14, x15, x16, t5, rfl⟩ := hP
     rw [Nat.zero_add] at t5 ⊢
     walk_at "w"
     refine drawV_e hns t5.sd (by omega) (by decide) fun kind S6 v6 kd0 kd1 => ?_
     have t6 := t5.ev v6
     clear t5 v6
     walk_at "w"
     refine w_cut (fun σ1 S7 => ∃ (W : Nat → Prop) (j k4 km cur : Nat) (g' g : Int) (o om : Jo) (b dn : Bool) (v : Dq) (pw : D) (x12 x13 x14 : Option D), (dn = true → BW c S7 W d j 0 k4 km cur g' g o om v (i + 1)) ∧ (dn = false → LW c S7 W d j 0 k4 cur g o b v (i + 1) ∧ pw = oiD v.w) ∧ (kind = 4 → dn = false) ∧ σ1 = [some (.scr ns), some (.ref 0), some (.ref d), some (.ref j), some (joD o k4), some (.bl b), some (.int g), some pw, some vv, some (.int kind), some (joD om km), some (.bl dn), x12, x13, x14, x15, x16]) ?_ fun σ1 S7 hM => ?_
     · walk_at "w"
       refine o_dec (fun c1 => ?_) fun c1 => ?_
       rotate_left
       · walk_at "w"
         have t7 := t6.mono (i' := i + 1) (by omega)
         exact ⟨W, j, k4, k4, cur, g, g, o, o, b, decide (kind = 5), v, oiD v.w, _, _, _, fun _ => t7.bad, fun _ => ⟨t7, rfl⟩, fun z => decide_eq_false (by omega), rfl⟩
       walk_at "w"
       refine levent_w hns t6.sd fun da S8 v8 hda => ?_
       have t8 := t6.ev v8
       clear t6 v8
       walk_at "w"
       refine w_cut (fun σ1 S9 => ∃ (ck : Bool) (d1 : PyData), LW c S9 W d j 0 k4 cur g o b v i ∧ Vn d1 20 400 ∧ (ck = false → b = true) ∧ σ1 = [some (.scr ns), some (.ref 0), some (.ref d), some (.ref j), some (joD o k4), some (.bl b), some (.int g), some (oiD v.w), some vv, some (.int kind), some (joD o k4), some (.bl (decide (kind = 5))), some (actD ck d1), x13, x14, x15, x16]) ?_ fun σ1 S9 ⟨ck, d1, t9, hd1, hck, e9⟩ => ?_
       · walk_at "w"
         have mk : ∀ (nx bk ct : Sl → Sto → Prop) (rt : D → Sto → Prop) (ex : Addr → Sl → Sto → Prop), (∀ S9 d1, LW c S9 W d j 0 k4 cur g o b v i → Vn d1 20 400 → nx [some (.scr ns), some (.ref 0), some (.ref d), some (.ref j), some (joD o k4), some (.bl b), some (.int g), some (oiD v.w), some vv, some (.int kind), some (joD o k4), some (.bl (decide (kind = 5))), some (actD true d1), x13, x14, x15, x16] S9) → wS (cSet 12 (eTup (aCons (eC (.str (Str.ofString "checkpoint"))) (aCons (eCall (F_Lvalue c 4) (aCons (eV 1) (aCons (eV 0) (aCons (eC (.int 2)) aNil)))) aNil)))) [some (.scr ns), some (.ref 0), some (.ref d), some (.ref j), some (joD o k4), some (.bl b), some (.int g), some (oiD v.w), some vv, some (.int kind), some (joD o k4), some (.bl (decide (kind = 5))), some (actD false da), x13, x14, x15, x16] S8 ⟨nx, rt, bk, ct, ex⟩ := fun nx bk ct rt ex q => by
           walk_at "w"
           refine lvalue_w (c := c) hns 2 3 (by omega) t8.sd fun d2 S9 v9 hd2 => ?_
           walk_at "w"
           exact q S9 d2 (t8.ev v9) (hd2.mono (by omega) (by decide))
         refine o_dec (fun _ => ?_) fun _ => ?_
         · refine iteT ?_
           exact mk _ _ _ _ _ fun S9 d1 t9 h => ⟨true, d1, t9, h, nofun, rfl⟩
         · walk_at "w"
           cases b with
           | true =>
             walk_at "w"
             exact ⟨false, da, t8, hda.mono (by omega) (by omega), fun _ => rfl, rfl⟩
           | false =>
             walk_at "w"
             refine lvalue_w (c := c) hns 2 3 (by omega) t8.sd fun d2 S9 v9 hd2 => ?_
             walk_at "w"
             exact ⟨true, d2, t8.ev v9, hd2.mono (by omega) (by decide), nofun, rfl⟩
       · subst e9
         clear t8 hda
         have g0 := t9.g0
         have g1 := t9.g1
         have hg1 : Gn (g + 1) := ⟨by omega, by omega⟩
         have vd1 := hd1.vd (Nat.le_refl _)
         have hl1 : (rcd d1).length ≤ 1000 := by have := hd1.ln; omega
         have hb1 : (rcd (begP (g + 1) d1)).length ≤ 2000 := by
           have q1 := hd1.ln
           have q2 := (Vn.int (i := g + 1) (Nat.lt_of_le_of_lt (show (g + 1).natAbs ≤ 1000 by omega) (by decide))).ln
           rw [rcd_begP, List.length_append, List.length_append, begB_len]
           omega
         have hc1 : ck = false → b = true ∧ ∃ x, o = some x := fun z => ⟨hck z, t9.bo (hck z)⟩
         walk_at "w"
         refine lneed_w (c := c) hg1 vd1 hl1 hb1 fun S10 u10 => ?_
         have t10 := t9.up u10
         walk_at "w"
         refine lafter_w (c := c) (o := o) t10.ek (fun z => (hc1 z).2) (by have := t10.el; omega) fun S11 km u11 l11 e11 => ?_
         have t11 := t10.up u11
         have lb := t10.jr.wl
         have lt10 := t10.sd.lt
         clear t9 t10
         walk_at "w"
         refine ltried_w (c := c) t11.jr hg1 vd1 hl1 hb1 (fun k hk => by rw [t11.jn.p k hk]; have := t11.ln k hk; simp only [List.length_nil]; omega) fun S12 cur' g' j12 f12 hno hok => ?_
         obtain ⟨pw1, pw2⟩ := act_pw (cur := cur) (g := g) (d0 := d1) (ck := ck) t11.pw
         have nkm : ¬ W km := fun z => by have := lb km z; omega
         have kp : ∀ {n : Nat} {q : O}, S11[n]? = some q → ¬ W n → S12[n]? = some q := fun {n q} e nw => f12.get (fun z => z.elim nw fun z => absurd (app_lt e) (by omega)) e
         have ng : ∀ {n : Nat} {q : O}, S11[n]? = some q → ¬ W n → ¬ Gb W S11 S12 n := fun {n q} e nw z => z.1.elim nw fun z => absurd (app_lt e) (by omega)
         have sd12 : Stt2 S12 0 := by
           obtain ⟨a1, a2, a3⟩ := t11.sd
           exact ⟨a1, a2, kp a3 t11.ns⟩
         have ns12 : ¬ Gb W S11 S12 0 := by
           obtain ⟨a1, a2, a3⟩ := t11.sd
           exact ng a3 t11.ns
         have km0 : km ≠ 0 := by omega
         have len12 : ∀ k, k < 2 → ((actR v cur g ck d1).1.f k).length + ((actR v cur g ck d1).1.p k).length ≤ 3000 * (i + 1) := fun k hk => by
           have := actR_len (v := v) (cur := cur) (g := g) (ck := ck) hl1 hb1 k
           have q := t11.ln k hk
           rw [t11.jn.p k hk] at this
           simp only [List.length_nil] at this
           omega
         have wk : CW c S12 (Gb W S11 S12) d j 0 k4 cur' g' o (actR v cur g ck d1).1 := ⟨j12, sd12, ns12, t11.ov, kp t11.ek t11.nk, ng t11.ek t11.nk, t11.n0⟩
         refine w_cut (fun σ1 S13 => S13 = S12 ∧ σ1 = [some (.scr ns), some (.ref 0), some (.ref d), some (.ref j), some (joD o k4), some (.bl b), some (.int g), some (oiD v.w), some vv, some (.int kind), some (joD (aftJ o ck d1) km), some (.bl (decide (kind = 5))), some (actD ck d1), some (.int (need g ck d1)), some (.bl (actR v cur g ck d1).2), x15, x16]) ?_ fun σ1 S13 ⟨es, e13⟩ => ?_
         · walk_at "w"
           cases hw : v.w with
           | none =>
             rw [hw] at pw1
             refine if_yes rfl ?_
             rw [pw1]
             refine o_neBl ?_
             walk_at "w"
             exact ⟨rfl, rfl⟩
           | some p =>
             rw [hw] at pw1
             refine if_no rfl ?_
             rw [pw1, show oiD (some p) = D.int p from rfl]
             walk_at "w"
             refine o_neBl ?_
             walk_at "w"
             exact ⟨rfl, rfl⟩
         · subst es e13
           walk_at "w"
           cases ok : (actR v cur g ck d1).2 with
           | false =>
             walk_at "w"
             refine ⟨Gb W S11 S13, j, k4, km, cur', g', g, o, aftJ o ck d1, b, true, (actR v cur g ck d1).1, oiD v.w, _, _, _, fun _ => ⟨wk, aftJ_v t11.ov vd1, kp e11 nkm, ng e11 nkm, km0, len12, fun x y => ?_, by have := t11.el; omega, aftJ_len t11.el, g0⟩, nofun, fun z => by omega, rfl⟩
             obtain ⟨c2, g2, o2, a1, a2, a3, a4⟩ := act_no t11.jn hg1 vd1 hc1 ok x y
             exact ⟨c2, g2, o2, a1, a2, a3, by omega⟩
           | true =>
             obtain ⟨rfl, rfl⟩ := hok ok
             have wq := pw2 ok
             have jn12 := act_ok t11.jn hg1 vd1 hc1 ok
             rw [ok] at pw1
             have pwo : PwOk (actR v cur g ck d1).1.w := by rw [wq]; exact .sub pw1.symm
             have w12 : LW c S13 (Gb W S11 S13) d j 0 km (if ck = true then 1 - cur else cur) (if ck = true then g + 1 else g) (aftJ o ck d1) true (actR v cur g ck d1).1 (i + 1) :=
               ⟨⟨j12, sd12, ns12, aftJ_v t11.ov vd1, kp e11 nkm, ng e11 nkm, km0⟩, jn12, pwo, by split <;> omega, by split <;> omega, fun k hk => by have := len12 k hk; omega, aftJ_len t11.el, fun _ => by
                 cases ck with
                 | true => exact ⟨_, rfl⟩
                 | false => obtain ⟨x, rfl⟩ := (hc1 rfl).2; exact ⟨_, rfl⟩⟩
             walk_at "w"
             have eg : ∀ z : Int, z = (if ck = true then g + 1 else g) → ∀ pwd : D, pwd = oiD (actR v cur g ck d1).1.w → ∃ (W : Nat → Prop) (j' k4' km' cur' : Nat) (g'' g3 : Int) (o' om : Jo) (b' dn : Bool) (v' : Dq) (pw : D) (x12 x13 x14 : Option D), (dn = true → BW c S13 W d j' 0 k4' km' cur' g'' g3 o' om v' (i + 1)) ∧ (dn = false → LW c S13 W d j' 0 k4' cur' g3 o' b' v' (i + 1) ∧ pw = oiD v'.w) ∧ (kind = 4 → dn = false) ∧ [some (.scr ns), some (.ref 0), some (.ref d), some (.ref j), some (joD (aftJ o ck d1) km), some (.bl true), some (.int z), some pwd, some vv, some (.int kind), some (joD (aftJ o ck d1) km), some (.bl !true), some (actD ck d1), some (.int (need g ck d1)), some (.bl true), x15, x16] = [some (.scr ns), some (.ref 0), some (.ref d), some (.ref j'), some (joD o' k4'), some (.bl b'), some (.int g3), some pw, some vv, some (.int kind), some (joD om km'), some (.bl dn), x12, x13, x14, x15, x16] := fun z ez pwd ep => by
               subst ez ep
               exact ⟨_, j, km, km, _, 0, _, _, _, true, false, _, _, _, _, _, nofun, fun _ => ⟨w12, rfl⟩, fun _ => rfl, rfl⟩
             cases ck with
             | true =>
               unfold actD
               walk_at "w"
               cases hw : v.w with
               | none =>
                 rw [hw] at wq
                 refine if_no rfl ?_
                 walk_at "w"
                 exact eg _ rfl _ (by rw [wq]; rfl)
               | some p =>
                 rw [hw] at wq
                 refine if_yes rfl ?_
                 rw [show oiD (some p) = D.int p from rfl]
                 walk_at "w"
                 exact eg _ rfl _ (by rw [wq]; rfl)
             | false =>
               unfold actD
               walk_at "w"
               have ez : (if decide ((if false = true then Str.ofString "checkpoint" else Str.ofString "add") = Str.ofString "checkpoint") = true then (1 : Int) else 0) = 0 := if_neg (by rw [if_neg Bool.false_ne_true]; exact fun z => ne_ac (of_decide_eq_true z))
               rw [ez]
               cases hw : v.w with
               | none =>
                 rw [hw] at wq
                 refine if_no rfl ?_
                 walk_at "w"
                 exact eg _ (Int.add_zero _) _ (by rw [wq]; rfl)
               | some p =>
                 rw [hw] at wq
                 refine if_yes rfl ?_
                 rw [show oiD (some p) = D.int p from rfl]
                 walk_at "w"
                 exact eg _ (Int.add_zero _) _ (by rw [wq]; rfl)
     · obtain ⟨W, j, k4, km, cur, g', g, o, om, b, dn, v, pw, x12, x13, x14, hb, hg, hk, rfl⟩ := hM
       clear t6
       have i24 : 3000 * (i + 1) ≤ 72000 := by omega
       refine w_cut (fun σ1 S8 => ∃ (v : Dq) (pw : D) (x12 x13 x14 : Option D), (dn = true → BW c S8 W d j 0 k4 km cur g' g o om v (i + 1)) ∧ (dn = false → LW c S8 W d j 0 k4 cur g o b v (i + 1) ∧ pw = oiD v.w) ∧ σ1 = [some (.scr ns), some (.ref 0), some (.ref d), some (.ref j), some (joD o k4), some (.bl b), some (.int g), some pw, some vv, some (.int kind), some (joD om km), some (.bl dn), x12, x13, x14, x15, x16]) ?_ fun σ1 S8 ⟨v, pw, x12, x13, x14, hb, hg, e8⟩ => ?_
       · walk_at "w"
         refine o_dec (fun c4 => ?_) fun c4 => ?_
         · obtain rfl := hk c4
           obtain ⟨t7, rfl⟩ := hg rfl
           clear hb hg hk
           walk_at "w"
           refine drawV_e hns t7.sd (by omega) (by decide) fun p1 S8 v8 p10 p11 => ?_
           have t8 := t7.ev v8
           walk_at "w"
           refine drawV_e hns t8.sd (by omega) (by decide) fun p2 S9 v9 p20 p21 => ?_
           have t9 := t8.ev v9
           walk_at "w"
           have ex : (S9 ++ [O.lst ([none, some p1, some p2].map oiD)])[S9.length]? = some (.lst ([none, some p1, some p2].map oiD)) := app_new
           have t10 := t9.up (S' := S9 ++ [O.lst ([none, some p1, some p2].map oiD)]) (Upto.refl _ _).app
           have l9 := t9.sd.lt
           change wF (V_Ldraw _ (S9 ++ [O.lst ([none, some p1, some p2].map oiD)])) _ _
           generalize S9 ++ [O.lst ([none, some p1, some p2].map oiD)] = S10 at *
           refine drawV_e hns t10.sd (by omega) (by decide) fun ix S11 v11 ix0 ix1 => ?_
           have t11 := t10.ev v11
           refine o_pick (L := [none, some p1, some p2]) (f := oiD) (v11.get (by omega) ex) ix0 ix1 fun _ pp hpp _ => ?_
           have hpp := List.mem_of_getElem? hpp
           have pok : PwOk pp := by
             simp only [List.mem_cons, List.not_mem_nil, or_false] at hpp
             rcases hpp with rfl | rfl | rfl
             · nofun
             · intro q e; cases e; omega
             · intro q e; cases e; omega
           clear t7 t8 t9 t10 v8 v9 v11 ex
           walk_at "w"
           obtain ⟨du, sp, aa, bb, hA⟩ := id t11.jr.dk
           refine w_obj hA.ob ?_
           walk_at "w"
           refine limit_w (c := c.cd) (x := pp) t11.jr.dk fun S12 h12 f12 u12 => ?_
           walk_at "w"
           exact ⟨v.lim pp, oiD pp, _, _, _, nofun, fun _ => ⟨t11.lim h12 u12 pok, rfl⟩, rfl⟩
         · walk_at "w"
           exact ⟨v, pw, _, _, _, hb, hg, rfl⟩
       subst e8
       refine w_cut (fun σ1 S9 => ∃ (W : Nat → Prop) (j k4 cur : Nat) (g : Int) (o : Jo) (b : Bool) (v : Dq) (x10 x11 x12 x13 x14 x15 x16 : Option D), LW c S9 W d j 0 k4 cur g o b v (i + 1) ∧ σ1 = [some (.scr ns), some (.ref 0), some (.ref d), some (.ref j), some (joD o k4), some (.bl b), some (.int g), some (oiD v.w), some vv, some (.int kind), x10, x11, x12, x13, x14, x15, x16]) ?_ fun σ1 S9 ⟨W, j, k4, cur, g, o, b, v, x10, x11, x12, x13, x14, x15, x16, t9, e9⟩ => ?_
       · walk_at "w"
         cases dn with
         | false =>
           obtain ⟨t8, rfl⟩ := hg rfl
           walk_at "w"
           exact ⟨W, j, k4, cur, g, o, b, v, _, _, _, _, _, _, _, t8, rfl⟩
         | true =>
           have t8 := hb rfl
           clear hb hg hk
           walk_at "w"
           obtain ⟨du, sp, aa, bb, hA⟩ := id t8.jr.dk
           refine w_obj hA.ob ?_
           walk_at "w"
           refine lkept_w (c := c) hns t8.sd fun m S9 v9 => ?_
           have t9 := t8.ev v9
           walk_at "w"
           refine lkept_w (c := c) hns t9.sd fun n S10 v10 => ?_
           have t10 := t9.ev v10
           clear t8 t9 v9 v10 hA
           walk_at "w"
           refine crash_w (c := c.cd) t10.jr.dk t10.jr.wl (fun k hk => by have := t10.ln k hk; omega) fun S11 W' h11 f11 w11 => ?_
           have h11 : DkP c.cd.Disk S11 W' d (v.crash (n0 m) (n0 n)) := h11
           obtain ⟨cur2, g2, o2, ho, jn2, gg, gi⟩ := t10.cr (n0 m) (n0 n)
           have ov2 : JoV o2 := ho.elim (fun z => z ▸ t10.ov) fun z => z ▸ t10.vm
           have el2 : o2.es.length ≤ i + 1 := ho.elim (fun z => z ▸ t10.e1) fun z => z ▸ t10.e2
           have ln2 : ∀ k, k < 2 → ((v.crash (n0 m) (n0 n)).f k).length ≤ 3000 * (i + 1) := fun k hk => Nat.le_trans (crash_len hk) (t10.ln k hk)
           have kp : ∀ {n : Nat} {q : O}, S10[n]? = some q → ¬ W n → S11[n]? = some q := fun {n q} e nw => f11.get (fun z => z.elim nw fun z => absurd (app_lt e) (by omega)) e
           have ng : ∀ {n : Nat} {q : O}, S10[n]? = some q → ¬ W n → ¬ W' n := fun {n q} e nw z => (w11 n z).2.elim nw fun z => absurd (app_lt e) (by omega)
           obtain ⟨a1, a2, a3⟩ := t10.sd
           have sd11 : Stt2 S11 0 := ⟨a1, a2, kp a3 t10.ns⟩
           have ns11 := ng a3 t10.ns
           have ek11 := kp t10.ek t10.nk
           have em11 := kp t10.em t10.nm
           have ov := t10.ov
           have vm := t10.vm
           have gz := t10.gz
           clear t10 kp ng
           walk_at "w"
           refine lloaded_w (c := c) h11 jn2 ov2 (fun k hk => by have := ln2 k hk; omega) fun S12 j2 e2 u12 lj le ld => ?_
           have lj2 := app_lt ld.ob
           walk_at "w"
           refine w_seq ?_
           walk_at "w"
           refine if_no rfl ?_
           walk_at "w"
           refine o_fld ld.ob (z := 0) rfl ?_
           walk_at "w"
           refine if_no (decide_eq_false (by omega)) ?_
           refine w_next ?_
           walk_at "w"
           refine o_fld ld.ob (z := 1) rfl ?_
           walk_at "w"
           refine w_obj ld.ob ?_
           walk_at "w"
           refine jevents_w (c := c.cd) ld.ob ld.es ?_
           have u13 : Upto [] S11 (S12 ++ [O.lst o2.es]) := u12.app
           have e13 : (S12 ++ [O.lst o2.es])[S12.length]? = some (.lst o2.es) := app_new
           have ld13 : LdA c (S12 ++ [O.lst o2.es]) j2 e2 d cur2 g2 o2 := ⟨app_old ld.ob, app_old ld.es⟩
           generalize S12 ++ [O.lst o2.es] = S13 at *
           walk_at "w"
           refine o_listOf (seqOf_ref e13) ?_
           have u14 : Upto [] S11 (S13 ++ [O.lst o2.es]) := u13.app
           have e14 : (S13 ++ [O.lst o2.es])[S13.length]? = some (.lst o2.es) := app_new
           have ld14 : LdA c (S13 ++ [O.lst o2.es]) j2 e2 d cur2 g2 o2 := ⟨app_old ld13.ob, app_old ld13.es⟩
           have l13 := u13.len
           generalize S13 ++ [O.lst o2.es] = S14 at *
           generalize S13.length = k2 at *
           clear ld ld13 e13 u13 u12
           walk_at "w"
           change wS _ _ _ _
           have q2 := ov2.pd e14
           have q4 := ov.pd (u14.get0 ek11)
           have qm := vm.pd (u14.get0 em11)
           have nj : k2 ≠ j2 := fun z => by
             have := ld14.ob
             rw [← z, e14] at this
             cases this
           have lt2 := sd11.lt
           have fin : LW c S14 (fun n => W' n ∨ n = j2) d j2 0 k2 cur2 g2 o2 false (v.crash (n0 m) (n0 n)) (i + 1) :=
             ⟨⟨ld14.jr (h11.up u14) (fun n hn => by have := (w11 n hn).1; have := u14.len; omega) jn2.hc, sd11.up u14 nofun, fun z => z.elim ns11 fun z => by omega, ov2, e14, fun z => z.elim (fun z => (by have := (w11 k2 z).1; omega)) nj, by omega⟩, jn2, nofun, by omega, gi, ln2, el2, nofun⟩
           refine w_seq ?_
           walk_at "w"
           rcases ho with rfl | rfl
           · refine o_neSame q2 q4 ?_
             walk_at "w"
             refine o_fld ld14.ob (z := 0) rfl ?_
             exact ⟨_, j2, k2, cur2, g2, _, false, _, _, _, _, _, _, _, _, fin, rfl⟩
           · refine o_neAny q2 q4 fun b2 => ?_
             cases b2 with
             | false =>
               walk_at "w"
               refine o_fld ld14.ob (z := 0) rfl ?_
               exact ⟨_, j2, k2, cur2, g2, _, false, _, _, _, _, _, _, _, _, fin, rfl⟩
             | true =>
               walk_at "w"
               refine o_neSame q2 qm ?_
               walk_at "w"
               refine o_fld ld14.ob (z := 0) rfl ?_
               exact ⟨_, j2, k2, cur2, g2, _, false, _, _, _, _, _, _, _, _, fin, rfl⟩
       · subst e9
         clear hb hg hk
         walk_at "w"
         refine lloaded_w (c := c) t9.jr.dk t9.jn t9.ov (fun k hk => by have := t9.ln k hk; omega) fun S10 j2 e2 u10 lj le ld => ?_
         have t10 := t9.up u10
         clear t9
         walk_at "w"
         refine if_no rfl ?_
         walk_at "w"
         refine o_fld ld.ob (z := 1) rfl ?_
         walk_at "w"
         refine w_obj ld.ob ?_
         walk_at "w"
         refine jevents_w (c := c.cd) ld.ob ld.es ?_
         have e11 : (S10 ++ [O.lst o.es])[S10.length]? = some (.lst o.es) := app_new
         have t11 := t10.up (S' := S10 ++ [O.lst o.es]) (Upto.refl _ _).app
         have ld11 := app_old (o := O.lst o.es) ld.ob
         generalize S10 ++ [O.lst o.es] = S11 at *
         clear t10 ld
         walk_at "w"
         refine o_neSame (t11.ov.pd e11) (t11.ov.pd t11.ek) ?_
         walk_at "w"
         refine o_fld ld11 (z := 0) rfl ?_
         walk_at "w"
         refine if_no (by rw [decide_eq_true rfl]; rfl) ?_
         walk_at "w"
         exact ⟨trivial, W, j, k4, cur, g, o, b, v, _, _, _, _, _, _, _, _, _, t11, rfl⟩))) only [↓Dw.Qt.tt]
/-- the law's promise -/
def spLaw (K : PySem.W.Frag) : Sp := fun vs H Q _ => ∃ (sc : Addr) (ns : List Int), vs = [.ref sc] ∧ ns.length ≤ 63 ∧ Only H ∧ SqL K H sc (ns.map V.int) ∧ ∀ H', Q (.bl true) H'
theorem spLaw_of {K : PySem.W.Frag} {N : Nms} {F : Fn} (h : ∀ ns : List Int, ns.length ≤ 63 → wF (F [.scr ns] []) (fun d _ => d = .bl true) noX) : ∀ vs H Q E, spLaw K vs H Q E → spA K N F vs H Q E := by
  intro vs H Q E ⟨sc, ns, e, hl, hO, hS, q⟩
  subst e
  refine ⟨[], [.scr ns], [], RepL.cons ⟨sc, rfl, ScrR.of hO hS⟩ rfl, ⟨rfl, List.nodup_nil, fun n o e => by simp at e⟩, ?_⟩
  obtain ⟨d, S, e, rfl⟩ := wF_to (h ns hl)
  rw [e]
  intro ι' H' v _ _ r
  rw [show v = .bl true from r]
  exact q H'
theorem fa_nil {p : Str → Prop} : ∀ f ∈ ([] : List Str), p f := fun _ h => nomatch h
theorem fa_cons {p : Str → Prop} {x : Str} {xs : List Str} (a : p x) (b : ∀ f ∈ xs, p f) : ∀ f ∈ x :: xs, p f := fun f h => by
  rcases List.mem_cons.mp h with e | e
  · exact e ▸ a
  · exact b f e
end Dw
set_option autoImplicit true
open PySem PySem.W PyProof.Rows
theorem Dw.end_mk {l : PySem.W.OpenLaw} {w : World} {K : PySem.W.Frag} {mg : Str → Option Value} {fa a0 a1 a2 a3 a4 a5 : Addr} (hfa : mg "law" = some (.ref fa)) (g0 : PySem.W.nsIn K mainGlobals "Disk" = some (some (.ref a0))) (g1 : PySem.W.nsIn K mainGlobals "Incomplete" = some (some (.ref a1))) (g2 : PySem.W.nsIn K mainGlobals "InvalidRecord" = some (some (.ref a2))) (g3 : PySem.W.nsIn K mainGlobals "Journal" = some (some (.ref a3))) (g4 : PySem.W.nsIn K mainGlobals "PowerCut" = some (some (.ref a4))) (g5 : PySem.W.nsIn K mainGlobals "MailError" = some (some (.ref a5))) (T : Dw.Tx K ⟨Dw.nmsF ⟨a0, a1, a2, a3, a4, a5⟩, l.prog, w⟩ mg ⟨a0, a1, a2, a3, a4, a5⟩) :
    ∃ fd : FuncData, (∀ (s : Shared) (v : Value), BindsTo s fd ⟨[v], []⟩ [("script", v)]) ∧ ∀ base : Heap, K.In base → base.Ns mainGlobals mg → L2.FnOk l.prog w K mg base L2.CX0 54 fa fd ["script"] (Dw.spLaw K) := by
  obtain ⟨f, fd, m, F, hb⟩ := T.d_law
  rw [hfa] at m
  cases m
  exact ⟨fd, fun s v => hb s [v] rfl, fun base _ _ => (Dw.ok_law T F).imp (Dw.spLaw_of fun ns h => Dw.law_w h)⟩
theorem PySem.W.Fast.tw11192064060196054132 : True := trivial
theorem PySem.W.Fast.tw5433419518020152934 : True := trivial
theorem PySem.W.Fast.tw3016865283709153265 : True := trivial
set_option maxHeartbeats 0 in
theorem PySem.Challenge.cw_dawkline_k08_whole_journals_survive_cras_holds : PySem.Challenge.rw_dawkline_k08_whole_journals_survive_cras.Holds := by
  w_on; o_law; k_head; (case hw => w_witness2)
  k_fill
  refine L2.walk_of (l := PySem.Challenge.rw_dawkline_k08_whole_journals_survive_cras) (n := 63) (k := 54) (x := "script") (CX := fun _ => L2.CX0) (sp := fun w => Dw.spLaw _) rfl (by decide) rfl ⟨rfl, by decide, by decide⟩ (fun w h Y => PySem.W.kIn_of Y) ?F (fun _ _ a ns hl hO hS => ⟨a, ns, rfl, hl, hO, hS, fun _ => rfl⟩) (fun _ _ _ _ _ h => h)
  case F =>
    intro w mg fa h KX G hmg
    refine' Dw.end_mk hmg ?ca0 ?ca1 ?ca2 ?ca3 ?ca4 ?ca5 ?T
    (case ca0 => k_is)
    (case ca1 => k_is)
    (case ca2 => k_is)
    (case ca3 => k_is)
    (case ca4 => k_is)
    (case ca5 => k_is)
    case T => exact ⟨(by (refine' Dw.mn_mk ?a ?i ?l ?c ?k (fun _ _ _ _ _ _ us hl => match us, hl with | [_], _ => rfl); (case a => k_is); (case i => k_is); (case l => k_is); (case c => k_is); (case k => k_is))),
(by (refine' Dw.dn_mk KX G ?a ?l ?c ?k (fun _ _ _ _ _ _ us hl => match us, hl with | [_, _], _ => rfl); (case a => k_is); (case l => k_is); (case c => k_is); (case k => k_is))),
(by (refine' Dw.mn_mk ?a ?i ?l ?c ?k (fun _ _ _ _ _ _ us hl => match us, hl with | [_, _], _ => rfl); (case a => k_is); (case i => k_is); (case l => k_is); (case c => k_is); (case k => k_is))),
(by (refine' Dw.dn_mk KX G ?a ?l ?c ?k (fun _ _ _ _ _ _ us hl => match us, hl with | [_], _ => rfl); (case a => k_is); (case l => k_is); (case c => k_is); (case k => k_is))),
(by (refine' Dw.dn_mk KX G ?a ?l ?c ?k (fun _ _ _ _ _ _ us hl => match us, hl with | [_], _ => rfl); (case a => k_is); (case l => k_is); (case c => k_is); (case k => k_is))),
(by (refine' Dw.dn_mk KX G ?a ?l ?c ?k (fun _ _ _ _ _ _ us hl => match us, hl with | [_], _ => rfl); (case a => k_is); (case l => k_is); (case c => k_is); (case k => k_is))),
(by (refine' Dw.dn_mk KX G ?a ?l ?c ?k (fun _ _ _ _ _ _ us hl => match us, hl with | [_, _], _ => rfl); (case a => k_is); (case l => k_is); (case c => k_is); (case k => k_is))),
(by (refine' Dw.dn_mk KX G ?a ?l ?c ?k (fun _ _ _ _ _ _ us hl => match us, hl with | [_, _], _ => rfl); (case a => k_is); (case l => k_is); (case c => k_is); (case k => k_is))),
(by (refine' Dw.dn_mk KX G ?a ?l ?c ?k (fun _ _ _ _ _ _ us hl => match us, hl with | [_], _ => rfl); (case a => k_is); (case l => k_is); (case c => k_is); (case k => k_is))),
(by (refine' Dw.dn_mk KX G ?a ?l ?c ?k (fun _ _ _ _ _ _ us hl => match us, hl with | [_, _, _], _ => rfl); (case a => k_is); (case l => k_is); (case c => k_is); (case k => k_is))),
(by (refine' Dw.dn_mk KX G ?a ?l ?c ?k (fun _ _ _ _ _ _ us hl => match us, hl with | [_, _, _, _], _ => rfl); (case a => k_is); (case l => k_is); (case c => k_is); (case k => k_is))),
(by (refine' Dw.dn_mk KX G ?a ?l ?c ?k (fun _ _ _ _ _ _ us hl => match us, hl with | [_, _, _], _ => rfl); (case a => k_is); (case l => k_is); (case c => k_is); (case k => k_is))),
(by (refine' Dw.dnd_mk KX G ?a ?l ?t ?d ?c ?k; (case a => k_is); (case l => k_is); (case t => k_is); (case d => rfl); (case c => k_is); (case k => k_is))),
(by (refine' Dw.dn_mk KX G ?a ?l ?c ?k (fun _ _ _ _ _ _ us hl => match us, hl with | [_], _ => rfl); (case a => k_is); (case l => k_is); (case c => k_is); (case k => k_is))),
(by (refine' Dw.dn_mk KX G ?a ?l ?c ?k (fun _ _ _ _ _ _ us hl => match us, hl with | [_], _ => rfl); (case a => k_is); (case l => k_is); (case c => k_is); (case k => k_is))),
(by (refine' Dw.dn_mk KX G ?a ?l ?c ?k (fun _ _ _ _ _ _ us hl => match us, hl with | [_, _], _ => rfl); (case a => k_is); (case l => k_is); (case c => k_is); (case k => k_is))),
(by (refine' Dw.dn_mk KX G ?a ?l ?c ?k (fun _ _ _ _ _ _ us hl => match us, hl with | [_], _ => rfl); (case a => k_is); (case l => k_is); (case c => k_is); (case k => k_is))),
(by (refine' Dw.dn_mk KX G ?a ?l ?c ?k (fun _ _ _ _ _ _ us hl => match us, hl with | [_], _ => rfl); (case a => k_is); (case l => k_is); (case c => k_is); (case k => k_is))),
(by (refine' Dw.mn_mk ?a ?i ?l ?c ?k (fun _ _ _ _ _ _ us hl => match us, hl with | [_, _], _ => rfl); (case a => k_is); (case i => k_is); (case l => k_is); (case c => k_is); (case k => k_is))),
(by (refine' Dw.dn_mk KX G ?a ?l ?c ?k (fun _ _ _ _ _ _ us hl => match us, hl with | [_], _ => rfl); (case a => k_is); (case l => k_is); (case c => k_is); (case k => k_is))),
(by (refine' Dw.pn_mk ?a ?b ?t ?r ?l ?c ?k (fun _ _ _ _ _ _ us hl => match us, hl with | [_], _ => rfl); (case a => k_is); (case b => k_is); (case t => k_is); (case r => k_is); (case l => k_is); (case c => k_is); (case k => k_is))),
(by (refine' Dw.dn_mk KX G ?a ?l ?c ?k (fun _ _ _ _ _ _ us hl => match us, hl with | [_], _ => rfl); (case a => k_is); (case l => k_is); (case c => k_is); (case k => k_is))),
(by (refine' Dw.dn_mk KX G ?a ?l ?c ?k (fun _ _ _ _ _ _ us hl => match us, hl with | [_], _ => rfl); (case a => k_is); (case l => k_is); (case c => k_is); (case k => k_is))),
(by (refine' Dw.dn_mk KX G ?a ?l ?c ?k (fun _ _ _ _ _ _ us hl => match us, hl with | [_, _], _ => rfl); (case a => k_is); (case l => k_is); (case c => k_is); (case k => k_is))),
(by (refine' Dw.dn_mk KX G ?a ?l ?c ?k (fun _ _ _ _ _ _ us hl => match us, hl with | [_, _, _], _ => rfl); (case a => k_is); (case l => k_is); (case c => k_is); (case k => k_is))),
(by (refine' Dw.dn_mk KX G ?a ?l ?c ?k (fun _ _ _ _ _ _ us hl => match us, hl with | [_, _, _], _ => rfl); (case a => k_is); (case l => k_is); (case c => k_is); (case k => k_is))),
(by (refine' Dw.dn_mk KX G ?a ?l ?c ?k (fun _ _ _ _ _ _ us hl => match us, hl with | [_, _], _ => rfl); (case a => k_is); (case l => k_is); (case c => k_is); (case k => k_is))),
(by (refine' Dw.dn_mk KX G ?a ?l ?c ?k (fun _ _ _ _ _ _ us hl => match us, hl with | [_, _], _ => rfl); (case a => k_is); (case l => k_is); (case c => k_is); (case k => k_is))),
(by (refine' Dw.dn_mk KX G ?a ?l ?c ?k (fun _ _ _ _ _ _ us hl => match us, hl with | [_, _, _], _ => rfl); (case a => k_is); (case l => k_is); (case c => k_is); (case k => k_is))),
(by (refine' Dw.dn_mk KX G ?a ?l ?c ?k (fun _ _ _ _ _ _ us hl => match us, hl with | [_, _], _ => rfl); (case a => k_is); (case l => k_is); (case c => k_is); (case k => k_is))),
(by (refine' Dw.dn_mk KX G ?a ?l ?c ?k (fun _ _ _ _ _ _ us hl => match us, hl with | [_, _], _ => rfl); (case a => k_is); (case l => k_is); (case c => k_is); (case k => k_is))),
(by (refine' Dw.mn_mk ?a ?i ?l ?c ?k (fun _ _ _ _ _ _ us hl => match us, hl with | [_, _], _ => rfl); (case a => k_is); (case i => k_is); (case l => k_is); (case c => k_is); (case k => k_is))),
(by (refine' Dw.mn_mk ?a ?i ?l ?c ?k (fun _ _ _ _ _ _ us hl => match us, hl with | [_, _, _], _ => rfl); (case a => k_is); (case i => k_is); (case l => k_is); (case c => k_is); (case k => k_is))),
(by (refine' Dw.mn_mk ?a ?i ?l ?c ?k (fun _ _ _ _ _ _ us hl => match us, hl with | [_, _], _ => rfl); (case a => k_is); (case i => k_is); (case l => k_is); (case c => k_is); (case k => k_is))),
(by (refine' Dw.mn_mk ?a ?i ?l ?c ?k (fun _ _ _ _ _ _ us hl => match us, hl with | [_, _, _], _ => rfl); (case a => k_is); (case i => k_is); (case l => k_is); (case c => k_is); (case k => k_is))),
(by (refine' Dw.mn_mk ?a ?i ?l ?c ?k (fun _ _ _ _ _ _ us hl => match us, hl with | [_, _, _], _ => rfl); (case a => k_is); (case i => k_is); (case l => k_is); (case c => k_is); (case k => k_is))),
(by (refine' Dw.mn_mk ?a ?i ?l ?c ?k (fun _ _ _ _ _ _ us hl => match us, hl with | [_, _], _ => rfl); (case a => k_is); (case i => k_is); (case l => k_is); (case c => k_is); (case k => k_is))),
(by (refine' Dw.mn_mk ?a ?i ?l ?c ?k (fun _ _ _ _ _ _ us hl => match us, hl with | [_, _], _ => rfl); (case a => k_is); (case i => k_is); (case l => k_is); (case c => k_is); (case k => k_is))),
(by (refine' Dw.mn_mk ?a ?i ?l ?c ?k (fun _ _ _ _ _ _ us hl => match us, hl with | [_, _], _ => rfl); (case a => k_is); (case i => k_is); (case l => k_is); (case c => k_is); (case k => k_is))),
(by (refine' Dw.dn_mk KX G ?a ?l ?c ?k (fun _ _ _ _ _ _ us hl => match us, hl with | [_, _], _ => rfl); (case a => k_is); (case l => k_is); (case c => k_is); (case k => k_is))),
(by (refine' Dw.mn_mk ?a ?i ?l ?c ?k (fun _ _ _ _ _ _ us hl => match us, hl with | [_, _], _ => rfl); (case a => k_is); (case i => k_is); (case l => k_is); (case c => k_is); (case k => k_is))),
(by (refine' Dw.mn_mk ?a ?i ?l ?c ?k (fun _ _ _ _ _ _ us hl => match us, hl with | [_, _, _], _ => rfl); (case a => k_is); (case i => k_is); (case l => k_is); (case c => k_is); (case k => k_is))),
(by (refine' Dw.dn_mk KX G ?a ?l ?c ?k (fun _ _ _ _ _ _ us hl => match us, hl with | [_, _], _ => rfl); (case a => k_is); (case l => k_is); (case c => k_is); (case k => k_is))),
(by (refine' Dw.dn_mk KX G ?a ?l ?c ?k (fun _ _ _ _ _ _ us hl => match us, hl with | [_], _ => rfl); (case a => k_is); (case l => k_is); (case c => k_is); (case k => k_is))),
(by (refine' Dw.k_int (PySem.W.mg_of KX G ?a) ?e; (case a => k_is); (case e => decide +kernel))),
(by (refine' Dw.k_int (PySem.W.mg_of KX G ?a) ?e; (case a => k_is); (case e => decide +kernel))),
(by (refine' Dw.k_int (PySem.W.mg_of KX G ?a) ?e; (case a => k_is); (case e => decide +kernel))),
(by (refine' Dw.k_int (PySem.W.mg_of KX G ?a) ?e; (case a => k_is); (case e => decide +kernel))),
(by (refine' Dw.k_int (PySem.W.mg_of KX G ?a) ?e; (case a => k_is); (case e => decide +kernel))),
(by (refine' Dw.k_int (PySem.W.mg_of KX G ?a) ?e; (case a => k_is); (case e => decide +kernel))),
(by (refine' Dw.k_int (PySem.W.mg_of KX G ?a) ?e; (case a => k_is); (case e => decide +kernel))),
(by (refine' Dw.k_int (PySem.W.mg_of KX G ?a) ?e; (case a => k_is); (case e => decide +kernel))),
(by (refine' Dw.k_int (PySem.W.mg_of KX G ?a) ?e; (case a => k_is); (case e => decide +kernel))),
(by (refine' Dw.k_int (PySem.W.mg_of KX G ?a) ?e; (case a => k_is); (case e => decide +kernel))),
(by (refine' Dw.k_str (PySem.W.mg_of KX G ?a) ?e; (case a => k_is); (case e => decide +kernel))),
(by (refine' Dw.k_int (PySem.W.mg_of KX G ?a) ?e; (case a => k_is); (case e => decide +kernel))),
(by (refine' Dw.k_str (PySem.W.mg_of KX G ?a) ?e; (case a => k_is); (case e => decide +kernel))),
(by (refine' PySem.W.mg_none_of KX G ?a; (case a => k_is))),
(by (refine' PySem.W.mg_none_of KX G ?a; (case a => k_is))),
(by (refine' PySem.W.mg_none_of KX G ?a; (case a => k_is))),
(by (refine' PySem.W.mg_none_of KX G ?a; (case a => k_is))),
(by (refine' PySem.W.mg_none_of KX G ?a; (case a => k_is))),
(by (refine' PySem.W.mg_none_of KX G ?a; (case a => k_is))),
(by (refine' PySem.W.mg_none_of KX G ?a; (case a => k_is))),
(by (refine' PySem.W.mg_none_of KX G ?a; (case a => k_is))),
(by (refine' PySem.W.mg_none_of KX G ?a; (case a => k_is))),
(by (refine' PySem.W.mg_none_of KX G ?a; (case a => k_is))),
(by (refine' PySem.W.mg_none_of KX G ?a; (case a => k_is))),
(by (refine' PySem.W.mg_none_of KX G ?a; (case a => k_is))),
(by (refine' Dw.cs_mk KX G ?a ?b ?c ?d ?e ?f ?g; (case a => k_is); (case b => k_is); (case c => k_is); (case d => k_is); (case e => k_is); (case f => k_is); (case g => k_is))),
(by (refine' ⟨⟨?b, ?c, ?d, ?e⟩, ?n, by decide +kernel, ?x, by decide⟩; (case b => k_is); (case c => k_is); (case d => k_is); (case e => k_is); (case n => (dsimp only [Dw.nmsF];  exact if_pos rfl)); (case x => (refine' Dw.fa_cons ?z0 (Dw.fa_cons ?z1 (Dw.fa_cons ?z2 (Dw.fa_nil))); (case z0 => (show PySem.W.findIn _ _ _ = _; k_is)); (case z1 => (show PySem.W.findIn _ _ _ = _; k_is)); (case z2 => (show PySem.W.findIn _ _ _ = _; k_is)))))),
(by (refine' Dw.cs_mk KX G ?a ?b ?c ?d ?e ?f ?g; (case a => k_is); (case b => k_is); (case c => k_is); (case d => k_is); (case e => k_is); (case f => k_is); (case g => k_is))),
(by (refine' ⟨⟨?b, ?c, ?d, ?e⟩, ?n, by decide +kernel, ?x, by decide⟩; (case b => k_is); (case c => k_is); (case d => k_is); (case e => k_is); (case n => (dsimp only [Dw.nmsF]; rw [if_neg (by decide)];  exact if_pos rfl)); (case x => (refine' Dw.fa_cons ?z0 (Dw.fa_cons ?z1 (Dw.fa_cons ?z2 (Dw.fa_cons ?z3 (Dw.fa_cons ?z4 (Dw.fa_cons ?z5 (Dw.fa_nil)))))); (case z0 => (show PySem.W.findIn _ _ _ = _; k_is)); (case z1 => (show PySem.W.findIn _ _ _ = _; k_is)); (case z2 => (show PySem.W.findIn _ _ _ = _; k_is)); (case z3 => (show PySem.W.findIn _ _ _ = _; k_is)); (case z4 => (show PySem.W.findIn _ _ _ = _; k_is)); (case z5 => (show PySem.W.findIn _ _ _ = _; k_is)))))),
(by (refine' (Dw.exn_mk KX G ?gC ?gM ?xC ?kC ?bC ?tC ?sC ?kM ?e1 ?e2 ?e4 ?e5 ?e6 ?e7 ?e8); (case gC => k_is); (case gM => k_is); (case xC => k_exc); (case kC => k_is); (case bC => k_is); (case tC => k_is); (case sC => first | k_is | rfl); (case kM => first | k_is | rfl); (case e1 => k_is); (case e2 => k_is); (case e4 => k_is); (case e5 => k_is); (case e6 => first | rfl | k_is); (case e7 => first | rfl | k_is); (case e8 => first | k_is | rfl))),
(by (refine' Dw.ern_mk (PySem.ErX.er_mk (nm := "Incomplete") (qI := "Incomplete.__init__") KX G ?aC ?xL ?hbm ?xi ?sa ?ga ?gg ?nb ?ii ?tC ?kC ?eC ?vC ?mC ?yC ?hC ?te ?up ?opq ?noS ?fl ?fc ?lc ?lx ?cv ?cf ?cp ?top ?pv ?pn); (case aC => k_is); (case xL => k_is); (case hbm => decide +kernel); (case xi => kernel_rfl); (case sa => k_is); (case ga => k_is); (case gg => k_is); (case nb => k_is); (case ii => k_is); (case tC => k_is); (case kC => k_is); (case eC => k_is); (case vC => k_is); (case mC => k_is); (case yC => k_is); (case hC => k_is); (case te => first | k_is | rfl); (case up => ks_is); (case opq => k_is); (case noS => k_is); (case fl => k_is); (case fc => k_is); (case lc => k_is); (case lx => k_is); (case cv => rfl); (case cf => dsimp only; decide +kernel); (case cp => decide); (case top => dsimp only; decide +kernel); (case pv => exact PySem.ErX.parts_of (by decide +kernel)); (case pn => exact ⟨_, _, _, rfl, by decide⟩))),
(by (refine' Dw.ern_mk (PySem.ErX.er_mk (nm := "InvalidRecord") (qI := "InvalidRecord.__init__") KX G ?aC ?xL ?hbm ?xi ?sa ?ga ?gg ?nb ?ii ?tC ?kC ?eC ?vC ?mC ?yC ?hC ?te ?up ?opq ?noS ?fl ?fc ?lc ?lx ?cv ?cf ?cp ?top ?pv ?pn); (case aC => k_is); (case xL => k_is); (case hbm => decide +kernel); (case xi => kernel_rfl); (case sa => k_is); (case ga => k_is); (case gg => k_is); (case nb => k_is); (case ii => k_is); (case tC => k_is); (case kC => k_is); (case eC => k_is); (case vC => k_is); (case mC => k_is); (case yC => k_is); (case hC => k_is); (case te => first | k_is | rfl); (case up => ks_is); (case opq => k_is); (case noS => k_is); (case fl => k_is); (case fc => k_is); (case lc => k_is); (case lx => k_is); (case cv => rfl); (case cf => dsimp only; decide +kernel); (case cp => decide); (case top => dsimp only; decide +kernel); (case pv => exact PySem.ErX.parts_of (by decide +kernel)); (case pn => exact ⟨_, _, _, rfl, by decide⟩))),
(by (refine' Dw.xmT_ok ?a ?b ?c ?d; (case a => first | k_is | rfl); (case b => first | k_is | rfl); (case c => first | k_is | rfl); (case d => first | k_is | rfl)))⟩
