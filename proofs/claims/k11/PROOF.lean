import PyProof.Rows.All
import HandS.ForMost
import HandS.FStr
import HandS.IsInst
import HandS.TupAny
import HandS.Style
import HandS.StrMore
import HandS.Strs
import Open.Row
import HandS.SetTxt0
import HandS.SetFor
import PyProof.Rows.SortStr
import HandS.ForExc
import HandS.ExcOwn
import HandS.TryOnly
import HandS.ExcIs
import HandS.RaiseMore
import KE.KAssignIn
import HandS.Iter
import KE.GoesEnumKw
import PyProof.Rows.CallKwBuiltin
import HandS.DictComp
import HandS.SortInts
import HandS.More
import PySem.Challenge.RW_dawkline_k11_copies_follow_boxes
set_option Elab.async false
set_option linter.all false
set_option maxRecDepth 100000
set_option autoImplicit false
namespace Dw
open PySem PySem.Spec PyProof.Rows L2 TL
/-! ### the state of the heap between two draws -/
def Keep (st : Addr) (H H' : Hp) : Prop := ∀ a o, a ≠ st → H a = some o → H' a = some o
def Stt (H : Hp) (st : Addr) : Prop := ∃ k v : Int, H st = some (.lst [.int k, .int v])
def Dr (st : Addr) (H H' : Hp) : Prop := Keep st H H' ∧ Stt H' st
def Wd (K : PySem.W.Frag) (st sc : Addr) (ns : List Int) (H : Hp) : Prop :=
  Stt H st ∧ ∀ H', Keep st H H' → SqL K H' sc (ns.map V.int)
section
variable {K : PySem.W.Frag} {st sc p D : Addr} {ns : List Int} {H H1 H2 H3 : Hp} {o : HO}
theorem Keep.refl (st : Addr) (H : Hp) : Keep st H H := fun _ _ _ h => h
theorem Keep.trans (a : Keep st H H1) (b : Keep st H1 H2) : Keep st H H2 := fun x o n h => b x o n (a x o n h)
theorem Keep.of (a : Same H H1) : Keep st H H1 := fun x o _ h => a x o h
theorem Wd.next (w : Wd K st sc ns H) (d : Dr st H H1) : Wd K st sc ns H1 := ⟨d.2, fun H' k => w.2 H' (d.1.trans k)⟩
theorem Wd.list (w : Wd K st sc ns H) : SqL K H sc (ns.map V.int) := w.2 H (Keep.refl st H)
theorem Wd.dr (w : Wd K st sc ns H) : Dr st H H := ⟨Keep.refl st H, w.1⟩
theorem Dr.trans (a : Dr st H H1) (b : Dr st H1 H2) : Dr st H H2 := ⟨a.1.trans b.1, b.2⟩
theorem Stt.ne (s : Stt H st) (h : H p = none) : p ≠ st := fun e => by
  obtain ⟨k, v, q⟩ := s
  rw [e, q] at h
  cases h
theorem Stt.upd (s : Stt H st) (h : p ≠ st) : Stt (upd H p o) st := by
  obtain ⟨k, v, q⟩ := s
  exact ⟨k, v, by rw [upd_ne h.symm]; exact q⟩
theorem same_new (h : H p = none) : Same H (upd H p o) := fun b x e => by
  rw [upd_ne (ne_of_none e h)]
  exact e
theorem Dr.same (w : Stt H st) (a : Same H H1) : Dr st H H1 := ⟨Keep.of a, by
  obtain ⟨k, v, q⟩ := w
  exact ⟨k, v, a _ _ q⟩⟩
theorem Dr.new (d : Dr st H H1) (h : H1 p = none) : Dr st H (upd H1 p o) := d.trans (Dr.same d.2 (same_new h))
theorem Dr.put (w : Stt H st) (d : Dr st H H1) (h : H p = none) : Dr st H (upd H1 p o) :=
  ⟨fun a x n e => by
    rw [upd_ne (ne_of_none e h)]
    exact d.1 a x n e, d.2.upd (w.ne h)⟩
theorem Wd.new (w : Wd K st sc ns H) (h : H p = none) : Wd K st sc ns (upd H p o) := w.next (Dr.same w.1 (same_new h))
theorem Wd.same (w : Wd K st sc ns H) (h : Same H H1) : Wd K st sc ns H1 := w.next (Dr.same w.1 h)
theorem Dr.at (d : Dr st H H1) (n : p ≠ st) (h : H p = some o) : H1 p = some o := d.1 p o n h
end
/-! ### tuples whose object has no dict -/
def Tk (H : Hp) (p : Addr) (xs : List V) : Prop := ∃ o : Obj, o.dict = Option.none ∧ H p = some (.frz o (.tup xs))
section
variable {K : PySem.W.Frag} {st sc p : Addr} {H H1 : Hp} {xs : List V}
theorem Tk.seq (h : Tk H p xs) : SqT K H p xs := let ⟨o, _, e⟩ := h; .inl (.inr ⟨o, e⟩)
theorem Tk.ne (h : Tk H p xs) (s : Stt H st) : p ≠ st := fun e => by
  obtain ⟨o, _, q⟩ := h
  obtain ⟨k, v, r⟩ := s
  rw [e, r] at q
  cases q
theorem Tk.next (h : Tk H p xs) (s : Stt H st) (d : Dr st H H1) : Tk H1 p xs := by
  have n := h.ne s
  obtain ⟨o, a, e⟩ := h
  exact ⟨o, a, d.1 _ _ n e⟩
theorem Tk.same (h : Tk H p xs) (d : Same H H1) : Tk H1 p xs := let ⟨o, a, e⟩ := h; ⟨o, a, d _ _ e⟩
theorem Tk.mk {o : Obj} (h : o.dict = Option.none) : Tk (upd H p (.frz o (.tup xs))) p xs := ⟨o, h, upd_same⟩
end
section
variable {X : Cx}
def zTup (K : PySem.W.Frag) : List V → Hp → VK → Prop := fun xs H Q => ∃ p ys, xs = [V.ref p] ∧ SqL K H p ys ∧
  ∀ (l : Addr) (o : Obj), H l = none → o.dict = Option.none → Q (.ref l) (upd H l (.frz o (.tup ys)))
theorem y_tup : CallR X (.type "tuple") (zTup X.K) := by
  intro pins s σ H xs us Q I r h
  obtain ⟨p, ys, rfl, hq, q⟩ := h
  obtain ⟨u, rfl, rx⟩ := vals1 r
  cases rx
  obtain ⟨its, r', pl, hz⟩ := I.list hq
  have hlen := r'.length
  refine call_tuple_list pl.isList (fun h' kp => ?_) (by simp only [List.size_toArray] <;> omega)
  have I1 : Inv X pins σ H { s with heap := h' } := I.kept (t' := s.toks) kp
  refine ⟨.ref h'.objs.size, _, I1.laid (t' := s.toks) (o := .frz { cls := .type "tuple", data := .seq its.toArray } (.tup ys)) (fun b o e => Heap.get?_push_of_some _ e) (Nat.le_refl _) ?_, rfl, q _ _ (I1.hok.fresh (Nat.le_refl _)) rfl⟩
  exact ⟨Heap.get?_push_size _ rfl, hz, its, r', IsTup.new _ _⟩
def zTT (t : TA) : TE := fun σ H Q => t σ H fun xs H1 => xs.length ≤ sizeLine ∧ ∀ (p : Addr) (o : Obj), H1 p = none → o.dict = Option.none → Q (.ref p) (upd H1 p (.frz o (.tup xs)))
theorem y_tt {es : List Expr} {t : TA} {pos : Pos} {x1} (h : PA X es t) : PE X (.Tuple es x1 pos) (zTT t) := by
  refine ⟨fun pins s σ H Q I hq => ?_⟩
  refine wpAny_Tuple_spliced (thn (h.run pos pins s σ H _ I hq) fun us s1 ⟨xs, H1, I1, r, z, q⟩ => ⟨by rw [← r.length]; exact z, ?_⟩)
  refine ⟨.ref s1.heap.objs.size, _, I1.laid (t' := s1.toks) (o := .frz { cls := .type "tuple", data := .seq us.toArray } (.tup xs)) (fun b u e => Heap.get?_push_of_some _ e) (Nat.le_refl _) ?_, rfl, q _ _ (I1.hok.fresh (Nat.le_refl _)) rfl⟩
  exact ⟨Heap.get?_push_size _ rfl, z, us, r, IsTup.new _ _⟩
def zCat : R2 := fun x y H Q => ∃ a b xs ys, x = .ref a ∧ y = .ref b ∧ Tk H a xs ∧ Tk H b ys ∧ xs ≠ [] ∧ xs.length + ys.length ≤ sizeLine ∧
  ∀ (p : Addr) (H' : Hp), Same H H' → Tk H' p (xs ++ ys) → Q (.ref p) H'
theorem y_cat : OpR X (binaryOp .Add) zCat := by
  intro pins s σ H x y v u Q I rx ry h
  obtain ⟨a, b, xs, ys, rfl, rfl, ha, hb, hx, hz, q⟩ := h
  cases rx
  cases ry
  have ha' : SqT X.K H a xs := ha.seq
  have hb' : SqT X.K H b ys := hb.seq
  obtain ⟨its, r1, p1, _⟩ := I.tuple ha'
  obtain ⟨its2, r2, p2, _⟩ := I.tuple hb'
  refine HT.cat_tup p1 p2 (fun z => hx (r1.nil_iff.mp z)) (fun z => ?_) (fun z => ?_) (by rw [← r1.length, ← r2.length]; exact hz)
  · have e := r2.nil_iff.mp z
    subst e
    exact ⟨.ref a, H, I, rfl, q a H (Same.refl H) (by rw [List.append_nil]; exact ha)⟩
  · refine ⟨.ref s.heap.objs.size, _, I.laid (t' := s.toks) (o := .frz { cls := .type "tuple", data := .seq (its ++ its2).toArray } (.tup (xs ++ ys))) (fun b ob q => Heap.get?_push_of_some _ q) (Nat.le_refl _) ?_, rfl, q _ _ (same_new (I.hok.fresh (Nat.le_refl _))) (Tk.mk rfl)⟩
    exact ⟨Heap.get?_push_size _ rfl, by rw [List.length_append]; exact hz, _, r1.append r2, IsTup.new _ _⟩
/-- t.index(z), z in t -/
def zTIx (to te : TE) : TE := fun σ H Q => to σ H fun x H1 => ∃ (p : Addr) (ys : List Str), x = .ref p ∧ Tk H1 p (ys.map V.str) ∧ te σ H1 fun y H2 => ∃ (z : Str) (j : Nat), y = .str z ∧ Tk H2 p (ys.map V.str) ∧
  ys[j]? = some z ∧ (∀ m, m < j → ys[m]? ≠ some z) ∧ Q (.int (j : Nat)) H2
theorem y_tix {o e : Expr} {to te : TE} {apos cpos : Pos} (ho : PE X o to) (he : PE X e te)
    (hbase : attributeBase o "index" X.env (eval o X.env) = eval o X.env := by rfl)
    (hfew : ((backTo cpos (starEach [e] X.env)).all (fun x => !x.1) && (backToKw cpos (keywordEach [] X.env)).all (fun x => x.1.isSome)
      && decide ([e].length + ([] : List Keyword).length + (if ([] : List Keyword).isEmpty then 0 else 1) < 30)) = true := by rfl)
    (hline : (apos.endLine == cpos.line) = true := by rfl) (hs : starEach [e] X.env = (false, eval e X.env) :: starEach [] X.env := by rfl) (hplain : (backTo cpos (starEach [] X.env)).any (·.1) = false := by rfl) :
    PE X (.Call (.Attribute o "index" apos) [e] [] cpos) (zTIx to te) := by
  refine ⟨fun pins s σ H Q I h => ?_⟩
  refine wpAny_Call_method_late hbase hfew hline rfl (thn (ho.run pins s σ H _ I h) fun v s1 ⟨x, H1, I1, r1, q1⟩ => ?_)
  obtain ⟨p, ys, rfl, tk, q1⟩ := q1
  cases r1
  obtain ⟨o, od, oe⟩ := tk
  obtain ⟨e1, z1, its1, r1', o2, e2, c2, n2, d2⟩ := I1.hok p _ oe
  have hA := (pa_cons he (pa_nil (X := X)) hs).run cpos pins s1 σ H1 (fun vs H2 => match vs with
    | [y] => ∃ (z : Str) (j : Nat), y = .str z ∧ Tk H2 p (ys.map V.str) ∧ ys[j]? = some z ∧ (∀ m, m < j → ys[m]? ≠ some z) ∧ Q (.int (j : Nat)) H2
    | _ => False) I1 q1
  rw [hs] at hA ⊢
  refine ⟨"tuple", "tuple.index", PySem.F.plainAttrs_tuple, PySem.F.slot_tuple_index, PySem.F.type_tuple_index, ⟨o2, e2, c2⟩, fun a ea => ?_, ?_⟩
  · cases ea
    exact ⟨o, e1, od⟩
  refine Calls.callWith_builtin (by show (false || (backTo cpos (starEach [] X.env)).any (·.1)) = false; rw [hplain] <;> rfl) (Calls.evalArgs_plain ?_)
  refine thn hA fun us s2 ⟨vs, H2, I2, r2, q2⟩ => ?_
  match vs, q2, r2 with
  | [y], q2, r2 =>
  obtain ⟨z, j, rfl, tk2, hj, hm, q⟩ := q2
  exact mt_tup_index pins s2 σ H2 (.ref p) [.str z] _ us Q I2 rfl r2 ⟨p, ys, z, j, rfl, rfl, tk2.seq, hj, hm, q⟩
end
/-! ### readings, one step at a time -/
def wBl (x : V) (H : Hp) (Q : Bool → Hp → Prop) : Prop := ∃ k, x = .bl k ∧ Q k H
def wPart (x : V) (H : Hp) (Q : Option Int → Hp → Prop) : Prop := ∃ i, x = V.int i ∧ Q (some i) H
def wM (x : V) (P : Prop) : Prop := (∃ a, x = V.str a) ∧ P
def zLenS : List V → Hp → VK → Prop := fun xs H Q => ∃ z, xs = [V.str z] ∧ z.length ≤ sizeLine ∧ Q (.int z.length) H
def zLenQ (K : PySem.W.Frag) : List V → Hp → VK → Prop := fun xs H Q => ∃ p ys, xs = [V.ref p] ∧ (SqL K H p ys ∨ SqT K H p ys) ∧ Q (.int ys.length) H
def zInt : List V → Hp → VK → Prop := fun xs H Q => (∃ i, xs = [V.int i] ∧ Q (.int i) H) ∨ ∃ k, xs = [V.bl k] ∧ Q (.int (if k then 1 else 0)) H
def zJoin (K : PySem.W.Frag) : V → List V → Hp → VK → Prop := fun x xs H Q => ∃ a p, ∃ ys : List Str, x = .str a ∧ xs = [V.ref p] ∧ (SqL K H p (ys.map V.str) ∨ SqT K H p (ys.map V.str)) ∧
    (ys.map (·.length)).sum + ys.length * a.length ≤ 16777216 ∧ Q (.str (Txt.join a ys)) H
def zStarts : V → List V → Hp → VK → Prop := fun x xs H Q => ∃ a b, x = .str a ∧ xs = [V.str b] ∧ Q (.bl (Txt.startswith a b)) H
def zEnds : V → List V → Hp → VK → Prop := fun x xs H Q => ∃ a b, x = .str a ∧ xs = [V.str b] ∧ Q (.bl (Txt.endswith a b)) H
def zRstrip : V → List V → Hp → VK → Prop := fun x xs H Q => ∃ a b, x = .str a ∧ xs = [V.str b] ∧ a.length ≤ sizeLine ∧ Q (.str (Txt.rstripChars a b)) H
def zSplit : V → List V → Hp → VK → Prop := fun x xs H Q => ∃ a b, x = .str a ∧ xs = [V.str b] ∧ (b.length == 0) = false ∧ a.length + 2 ≤ sizeLine ∧ rNewStrs (Txt.split a b) H Q
def zPartition : V → List V → Hp → VK → Prop := fun x xs H Q => ∃ a b, x = .str a ∧ xs = [V.str b] ∧ (b.length == 0) = false ∧ a.length ≤ sizeLine ∧
    ∀ p, H p = none → Q (.ref p) (upd H p (.tup [.str (Txt.partition a b).1, .str (Txt.partition a b).2.1, .str (Txt.partition a b).2.2]))
def zAdS : R2 := fun x y H Q => ∃ i j, x = .str i ∧ y = .str j ∧ i.length + j.length ≤ sizeLine ∧ Q (.str (i ++ j)) H
def zIn1 : R2 := fun x y H Q => ∃ (c : Nat) (z : Str), x = .str ⟨#[c]⟩ ∧ y = .str z ∧ Q (.bl (decide (c ∈ z.cps.toList))) H
def zInS (neg : Bool) : R2 := fun x y H Q => ∃ i j, x = .str i ∧ y = .str j ∧ Q (.bl (if neg then !(!(Builtin.Str.occurrences j i 0 j.length 1).isEmpty) else !(Builtin.Str.occurrences j i 0 j.length 1).isEmpty)) H
def zIsN (neg : Bool) : R2 := fun x y H Q => y = .non ∧ Q (.bl (if neg then !decide (x = .non) else decide (x = .non))) H
def zRepS : R2 := fun x y H Q => ∃ (z : Str) (k : Int), x = .str z ∧ y = .int k ∧ 0 ≤ k ∧ z.length * k.toNat ≤ sizeLine ∧ Q (.str ⟨((List.replicate k.toNat (tl z)).flatten).toArray⟩) H
def zTruth (K : PySem.W.Frag) (ta : TE) : TT := fun σ H Q => ta σ H fun x H' => ∃ k, TruV K x H' k ∧ Q k H'
def zJs (ts : List TE) : TE := fun σ H Q => tJs ts Str.empty σ H fun out H1 => Q (.str out) H1
def wJs (ts : List TE) (acc : Str) (σ : L2.St) (Q : Str → Hp → Prop) (x : V) (H : Hp) : Prop := ∃ y : Str, x = .str y ∧ (acc ++ y).length ≤ sizeLine ∧ tJs ts (acc ++ y) σ H Q
def wFmt (x : V) (H : Hp) (Q : VK) : Prop := (∃ y : Str, x = .str y ∧ y.length ≤ sizeLine ∧ Q (.str y) H) ∨ ∃ i : Int, x = .int i ∧ i.natAbs.log2 < 1920 ∧ Q (.str (toString i)) H
def wFmtR (x : V) (H : Hp) (Q : VK) : Prop := (∃ y : Str, x = .str y ∧ (reprText y).length ≤ sizeLine ∧ Q (.str (reprText y)) H) ∨ ∃ i : Int, x = .int i ∧ i.natAbs.log2 < 1920 ∧ Q (.str (toString i)) H
def wCh (r' : R2) (tc : TE) (σ : L2.St) (Q : VK) (y z : V) (H : Hp) : Prop := ∃ k, z = .bl k ∧ if k = true then tc σ H fun w H1 => r' y w H1 Q else Q (.bl false) H
section
variable {X : Cx}
theorem y_lenS : CallR X (.builtin "len") zLenS := call_len_str
theorem y_lenQ : CallR X (.builtin "len") (zLenQ X.K) := call_len_seq
theorem y_int : CallR X (.type "int") zInt := call_int1
theorem y_join : MtR X "str.join" (zJoin X.K) := mt_join
theorem y_starts : MtR X "str.startswith" zStarts := mt_startswith
theorem y_ends : MtR X "str.endswith" zEnds := mt_endswith
theorem y_rstrip : MtR X "str.rstrip" zRstrip := mt_rstripChars
theorem y_split : MtR X "str.split" zSplit := mt_split
theorem y_partition : MtR X "str.partition" zPartition := mt_partition
theorem y_adS : OpR X (binaryOp .Add) zAdS := op_add_str
theorem y_in1 : OpR X (compareOp .In) zIn1 := op_in_sign
theorem y_inS : OpR X (compareOp .In) (zInS false) := op_in_str
theorem y_ninS : OpR X (compareOp .NotIn) (zInS true) := op_notIn_str
theorem y_isN : OpR X (compareOp .Is) (zIsN false) := op_isN
theorem y_notN : OpR X (compareOp .IsNot) (zIsN true) := op_notN
theorem y_truth {a : Expr} {ta : TE} (ha : PE X a ta) (he : ∀ whole, isTrue a X.env whole = (do let v ← whole; standAt a.pos; holding [v] (truthy v))) : PT X a (zTruth X.K ta) := pt_truth ha he
theorem y_joined {v1 v2 : Expr} {rest : List Expr} {ts : List TE} {pos : Pos} (h : PJ X (v1 :: v2 :: rest) ts) : PE X (.JoinedStr (v1 :: v2 :: rest) pos) (zJs ts) := pe_joined h
end
section
variable {σ : L2.St} {H : Hp} {Q : VK} {QB : Bool → Hp → Prop} {QA : List V → Hp → Prop} {QO : Option Int → Hp → Prop} {QS : Str → Hp → Prop} {QG : L2.St → Hp → Prop}
  {nx bk ct : L2.St → Hp → Prop} {rt : VK} {t u : TS} {ta tb tc : TE} {tA tB' : TT} {as : TA} {g : TG} {v : V} {i j : Int} {x y : Str} {b : Bool} {r r' : R2} {P : Prop} {E : XK} {K : PySem.W.Frag}
theorem rd_seq (h : t ⟨u ⟨nx, rt, bk, ct⟩, rt, bk, ct⟩ σ H) : tSeq t u ⟨nx, rt, bk, ct⟩ σ H := h
theorem rd_next (h : nx σ H) : tNext ⟨nx, rt, bk, ct⟩ σ H := h
theorem rd_asg (h : ta σ H fun x H1 => g x σ H1 nx) : tAsg ta g ⟨nx, rt, bk, ct⟩ σ H := h
theorem rd_ifS (h : tA σ H fun b H1 => if b = true then t ⟨nx, rt, bk, ct⟩ σ H1 else u ⟨nx, rt, bk, ct⟩ σ H1) : tIfS tA t u ⟨nx, rt, bk, ct⟩ σ H := h
theorem rd_ret (h : ta σ H rt) : tRet ta ⟨nx, rt, bk, ct⟩ σ H := h
theorem rd_retN (h : rt .non H) : tRetN ⟨nx, rt, bk, ct⟩ σ H := h
theorem rd_drop (h : ta σ H fun _ H1 => nx σ H1) : tDrop ta ⟨nx, rt, bk, ct⟩ σ H := h
theorem rd_n0 {a} {l : L2.St} (h : QG (some v :: l) H) : gName 0 v (a :: l) H QG := h
theorem rd_n1 {a a1} {l : L2.St} (h : QG (a :: some v :: l) H) : gName 1 v (a :: a1 :: l) H QG := h
theorem rd_n2 {a a1 a2} {l : L2.St} (h : QG (a :: a1 :: some v :: l) H) : gName 2 v (a :: a1 :: a2 :: l) H QG := h
theorem rd_n3 {a a1 a2 a3} {l : L2.St} (h : QG (a :: a1 :: a2 :: some v :: l) H) : gName 3 v (a :: a1 :: a2 :: a3 :: l) H QG := h
theorem rd_n4 {a a1 a2 a3 a4} {l : L2.St} (h : QG (a :: a1 :: a2 :: a3 :: some v :: l) H) : gName 4 v (a :: a1 :: a2 :: a3 :: a4 :: l) H QG := h
theorem rd_n5 {a a1 a2 a3 a4 a5} {l : L2.St} (h : QG (a :: a1 :: a2 :: a3 :: a4 :: some v :: l) H) : gName 5 v (a :: a1 :: a2 :: a3 :: a4 :: a5 :: l) H QG := h
theorem rd_n6 {a a1 a2 a3 a4 a5 a6} {l : L2.St} (h : QG (a :: a1 :: a2 :: a3 :: a4 :: a5 :: some v :: l) H) : gName 6 v (a :: a1 :: a2 :: a3 :: a4 :: a5 :: a6 :: l) H QG := h
theorem rd_n7 {a a1 a2 a3 a4 a5 a6 a7} {l : L2.St} (h : QG (a :: a1 :: a2 :: a3 :: a4 :: a5 :: a6 :: some v :: l) H) : gName 7 v (a :: a1 :: a2 :: a3 :: a4 :: a5 :: a6 :: a7 :: l) H QG := h
theorem rd_n8 {a a1 a2 a3 a4 a5 a6 a7 a8} {l : L2.St} (h : QG (a :: a1 :: a2 :: a3 :: a4 :: a5 :: a6 :: a7 :: some v :: l) H) : gName 8 v (a :: a1 :: a2 :: a3 :: a4 :: a5 :: a6 :: a7 :: a8 :: l) H QG := h
theorem rd_n9 {a a1 a2 a3 a4 a5 a6 a7 a8 a9} {l : L2.St} (h : QG (a :: a1 :: a2 :: a3 :: a4 :: a5 :: a6 :: a7 :: a8 :: some v :: l) H) : gName 9 v (a :: a1 :: a2 :: a3 :: a4 :: a5 :: a6 :: a7 :: a8 :: a9 :: l) H QG := h
theorem rd_n10 {a a1 a2 a3 a4 a5 a6 a7 a8 a9 b0} {l : L2.St} (h : QG (a :: a1 :: a2 :: a3 :: a4 :: a5 :: a6 :: a7 :: a8 :: a9 :: some v :: l) H) : gName 10 v (a :: a1 :: a2 :: a3 :: a4 :: a5 :: a6 :: a7 :: a8 :: a9 :: b0 :: l) H QG := h
theorem rd_n11 {a a1 a2 a3 a4 a5 a6 a7 a8 a9 b0 b1} {l : L2.St} (h : QG (a :: a1 :: a2 :: a3 :: a4 :: a5 :: a6 :: a7 :: a8 :: a9 :: b0 :: some v :: l) H) : gName 11 v (a :: a1 :: a2 :: a3 :: a4 :: a5 :: a6 :: a7 :: a8 :: a9 :: b0 :: b1 :: l) H QG := h
theorem rd_v0 {l : L2.St} (h : Q v H) : tVar 0 (some v :: l) H Q := ⟨v, rfl, h⟩
theorem rd_v1 {a} {l : L2.St} (h : Q v H) : tVar 1 (a :: some v :: l) H Q := ⟨v, rfl, h⟩
theorem rd_v2 {a a1} {l : L2.St} (h : Q v H) : tVar 2 (a :: a1 :: some v :: l) H Q := ⟨v, rfl, h⟩
theorem rd_v3 {a a1 a2} {l : L2.St} (h : Q v H) : tVar 3 (a :: a1 :: a2 :: some v :: l) H Q := ⟨v, rfl, h⟩
theorem rd_v4 {a a1 a2 a3} {l : L2.St} (h : Q v H) : tVar 4 (a :: a1 :: a2 :: a3 :: some v :: l) H Q := ⟨v, rfl, h⟩
theorem rd_v5 {a a1 a2 a3 a4} {l : L2.St} (h : Q v H) : tVar 5 (a :: a1 :: a2 :: a3 :: a4 :: some v :: l) H Q := ⟨v, rfl, h⟩
theorem rd_v6 {a a1 a2 a3 a4 a5} {l : L2.St} (h : Q v H) : tVar 6 (a :: a1 :: a2 :: a3 :: a4 :: a5 :: some v :: l) H Q := ⟨v, rfl, h⟩
theorem rd_v7 {a a1 a2 a3 a4 a5 a6} {l : L2.St} (h : Q v H) : tVar 7 (a :: a1 :: a2 :: a3 :: a4 :: a5 :: a6 :: some v :: l) H Q := ⟨v, rfl, h⟩
theorem rd_v8 {a a1 a2 a3 a4 a5 a6 a7} {l : L2.St} (h : Q v H) : tVar 8 (a :: a1 :: a2 :: a3 :: a4 :: a5 :: a6 :: a7 :: some v :: l) H Q := ⟨v, rfl, h⟩
theorem rd_v9 {a a1 a2 a3 a4 a5 a6 a7 a8} {l : L2.St} (h : Q v H) : tVar 9 (a :: a1 :: a2 :: a3 :: a4 :: a5 :: a6 :: a7 :: a8 :: some v :: l) H Q := ⟨v, rfl, h⟩
theorem rd_v10 {a a1 a2 a3 a4 a5 a6 a7 a8 a9} {l : L2.St} (h : Q v H) : tVar 10 (a :: a1 :: a2 :: a3 :: a4 :: a5 :: a6 :: a7 :: a8 :: a9 :: some v :: l) H Q := ⟨v, rfl, h⟩
theorem rd_v11 {a a1 a2 a3 a4 a5 a6 a7 a8 a9 b0} {l : L2.St} (h : Q v H) : tVar 11 (a :: a1 :: a2 :: a3 :: a4 :: a5 :: a6 :: a7 :: a8 :: a9 :: b0 :: some v :: l) H Q := ⟨v, rfl, h⟩
theorem rd_c (h : Q v H) : tC v σ H Q := h
theorem rd_op (h : ta σ H fun x H1 => tb σ H1 fun y H2 => r x y H2 Q) : tOp r ta tb σ H Q := h
theorem rd_i0 {f : Int → Int → V} (h : Q (f i j) H) : rI0 f (.int i) (.int j) H Q := ⟨i, j, rfl, rfl, h⟩
theorem rd_iC {f : Int → Int → V} {C : Int → Int → Prop} (h : Q (f i j) H) (c : C i j) : rI C f (.int i) (.int j) H Q := ⟨i, j, rfl, rfl, c, h⟩
theorem rd_un {f : V → Hp → VK → Prop} (h : ta σ H fun x H1 => f x H1 Q) : tUn f ta σ H Q := h
theorem rd_u {f : Int → V} (h : Q (f i) H) : rU f (.int i) H Q := ⟨i, rfl, h⟩
theorem rd_eqI (h : Q (.bl (decide (i = j))) H) : rEq (.int i) (.int j) H Q := ⟨rfl, by
  rw [show decide (V.int i = V.int j) = decide (i = j) by simp only [V.int.injEq]]
  exact h⟩
theorem rd_neI (h : Q (.bl (!decide (i = j))) H) : rNe (.int i) (.int j) H Q := ⟨rfl, by
  rw [show decide (V.int i = V.int j) = decide (i = j) by simp only [V.int.injEq]]
  exact h⟩
theorem rd_eqS (h : Q (.bl (decide (x = y))) H) : rEq (.str x) (.str y) H Q := ⟨rfl, by
  rw [show decide (V.str x = V.str y) = decide (x = y) by simp only [V.str.injEq]]
  exact h⟩
theorem rd_neS (h : Q (.bl (!decide (x = y))) H) : rNe (.str x) (.str y) H Q := ⟨rfl, by
  rw [show decide (V.str x = V.str y) = decide (x = y) by simp only [V.str.injEq]]
  exact h⟩
theorem rd_test (h : ta σ H fun x H1 => wBl x H1 QB) : tTest ta σ H QB := h
theorem rd_tB (h : ta σ H fun x H1 => wBl x H1 QB) : tB ta σ H QB := h
theorem rd_wBl (h : QB b H) : wBl (.bl b) H QB := ⟨b, rfl, h⟩
theorem rd_and (h : tA σ H fun c H1 => if c = true then tB' σ H1 QB else QB false H1) : tAnd tA tB' σ H QB := h
theorem rd_or (h : tA σ H fun c H1 => if c = true then QB true H1 else tB' σ H1 QB) : tOr tA tB' σ H QB := h
theorem rd_not (h : tA σ H fun c H1 => QB (!c) H1) : tNot tA σ H QB := h
theorem rd_notV (h : ta σ H fun x H1 => wBl x H1 fun c H2 => Q (.bl (!c)) H2) : tNotV ta σ H Q := h
theorem rd_andV (h : ta σ H fun x H1 => wBl x H1 fun c H2 => if c = true then tb σ H2 Q else Q (.bl false) H2) : tAndV ta tb σ H Q := h
theorem rd_orV (h : ta σ H fun x H1 => wBl x H1 fun c H2 => if c = true then Q (.bl true) H2 else tb σ H2 Q) : tOrV ta tb σ H Q := h
theorem rd_ifE (h : tA σ H fun c H1 => if c = true then ta σ H1 Q else tb σ H1 Q) : tIf tA ta tb σ H Q := h
theorem rd_ch (h : ta σ H fun x H1 => tb σ H1 fun y H2 => r x y H2 fun z H3 => wCh r' tc σ Q y z H3) : tChain r r' ta tb tc σ H Q := h
theorem rd_wCh {y : V} (h : if b = true then tc σ H fun w H1 => r' y w H1 Q else Q (.bl false) H) : wCh r' tc σ Q y (.bl b) H := ⟨b, rfl, h⟩
theorem rd_cb {f : List V → Hp → VK → Prop} (h : as σ H fun vs H1 => f vs H1 Q) : tCB f as σ H Q := h
theorem rd_call {sp : Sp} (h : as σ H fun vs H1 => sp vs H1 Q E) : tCall sp [] E as σ H Q := by
  unfold tCall
  simpa only [List.append_nil] using h
theorem rd_cons {tr : TA} (h : ta σ H fun x H1 => tr σ H1 fun xs H2 => QA (x :: xs) H2) : tCons ta tr σ H QA := h
theorem rd_nil (h : QA [] H) : tNil σ H QA := h
def wTT (xs : List V) (H : Hp) (Q : VK) : Prop := xs.length ≤ sizeLine ∧ ∀ (p : Addr) (o : Obj), H p = none → o.dict = Option.none → Q (.ref p) (upd H p (.frz o (.tup xs)))
def wLs (xs : List V) (H : Hp) (Q : VK) : Prop := xs.length ≤ sizeLine ∧ ∀ (p : Addr), H p = none → Q (.ref p) (upd H p (.lst xs))
theorem rd_tt (h : as σ H fun xs H1 => wTT xs H1 Q) : zTT as σ H Q := h
theorem rd_ls (h : as σ H fun xs H1 => wLs xs H1 Q) : tLst as σ H Q := h
theorem rd_sl {f : V → Option Int → Option Int → Hp → VK → Prop} {tl' th : TO} (h : ta σ H fun x H1 => tl' σ H1 fun l H2 => th σ H2 fun u H3 => f x l u H3 Q) : tSl f ta tl' th σ H Q := h
theorem rd_noP (h : QO none H) : tNoPart σ H QO := h
theorem rd_part (h : ta σ H fun x H1 => wPart x H1 QO) : tPart ta σ H QO := h
theorem rd_wPart (h : QO (some i) H) : wPart (.int i) H QO := ⟨i, rfl, h⟩
theorem rd_m1 {f : V → List V → Hp → VK → Prop} (h : ta σ H fun x H1 => wM x (tb σ H1 fun y H2 => f x [y] H2 Q)) : tM1 f ta tb σ H Q := h
theorem rd_wM (h : P) : wM (.str x) P := ⟨⟨x, rfl⟩, h⟩
theorem rd_js {ts : List TE} (h : tJs (ta :: ts) Str.empty σ H fun out H1 => Q (.str out) H1) : zJs (ta :: ts) σ H Q := h
theorem rd_jc {ts : List TE} {acc : Str} (h : ta σ H fun x H1 => wJs ts acc σ QS x H1) : tJs (ta :: ts) acc σ H QS := h
theorem rd_jn {acc : Str} (h : QS acc H) : tJs [] acc σ H QS := h
theorem rd_wJs {ts : List TE} {acc : Str} (h : tJs ts (acc ++ x) σ H QS) (c : (acc ++ x).length ≤ sizeLine) : wJs ts acc σ QS (.str x) H := ⟨x, rfl, c, h⟩
theorem rd_fmt (h : ta σ H fun x H1 => wFmt x H1 Q) : tFmt ta σ H Q := h
theorem rd_fmtR (h : ta σ H fun x H1 => wFmtR x H1 Q) : tFmtR ta σ H Q := h
theorem rd_wFmt (h : Q (.str x) H) (c : x.length ≤ sizeLine) : wFmt (.str x) H Q := .inl ⟨x, rfl, c, h⟩
theorem rd_wFmtR (h : Q (.str (reprText x)) H) (c : (reprText x).length ≤ sizeLine) : wFmtR (.str x) H Q := .inl ⟨x, rfl, c, h⟩
theorem rd_lenS (h : Q (.int x.length) H) (c : x.length ≤ sizeLine) : zLenS [.str x] H Q := ⟨x, rfl, c, h⟩
theorem rd_int (h : Q (.int i) H) : zInt [.int i] H Q := .inl ⟨i, rfl, h⟩
theorem rd_intB (h : Q (.int (if b then 1 else 0)) H) : zInt [.bl b] H Q := .inr ⟨b, rfl, h⟩
theorem rd_starts (h : Q (.bl (Txt.startswith x y)) H) : zStarts (.str x) [.str y] H Q := ⟨x, y, rfl, rfl, h⟩
theorem rd_ends (h : Q (.bl (Txt.endswith x y)) H) : zEnds (.str x) [.str y] H Q := ⟨x, y, rfl, rfl, h⟩
theorem rd_rstrip (h : Q (.str (Txt.rstripChars x y)) H) (c : x.length ≤ sizeLine) : zRstrip (.str x) [.str y] H Q := ⟨x, y, rfl, rfl, c, h⟩
theorem rd_adS (h : Q (.str (x ++ y)) H) (c : x.length + y.length ≤ sizeLine) : zAdS (.str x) (.str y) H Q := ⟨x, y, rfl, rfl, c, h⟩
theorem rd_slS {lo hi : Option Int} (h : Q (.str (cutS x lo hi)) H) (c : x.length ≤ sizeLine) : rSlS (.str x) lo hi H Q := ⟨x, rfl, c, h⟩
theorem rd_in1 {c : Nat} (h : Q (.bl (decide (c ∈ tl y))) H) : zIn1 (.str ⟨#[c]⟩) (.str y) H Q := ⟨c, y, rfl, rfl, h⟩
theorem rd_isB {c : Bool} (h : Q (.bl (decide (b = c))) H) : rIsB (.bl b) (.bl c) H Q := ⟨b, c, rfl, rfl, h⟩
theorem rd_isN (h : Q (.bl (decide (v = .non))) H) : zIsN false v .non H Q := ⟨rfl, h⟩
theorem rd_notN (h : Q (.bl (!decide (v = .non))) H) : zIsN true v .non H Q := ⟨rfl, h⟩
theorem rd_iT {A B : Prop} (h : A) : if true = true then A else B := iteT h
theorem rd_iF {A B : Prop} (h : B) : if false = true then A else B := iteF h
theorem rd_yes (h : QB true H) : tYes σ H QB := h
theorem if_dec {c A B : Prop} [Decidable c] (h1 : c → A) (h2 : ¬ c → B) : if decide c = true then A else B := ite2 (fun e => h1 (of_decide_eq_true e)) (fun e => h2 fun z => e (decide_eq_true z))
theorem if_ndec {c A B : Prop} [Decidable c] (h1 : ¬ c → A) (h2 : c → B) : if (!decide c) = true then A else B := by
  by_cases e : c
  · rw [decide_eq_true e]
    exact iteF (h2 e)
  · rw [decide_eq_false e]
    exact iteT (h1 e)
theorem if_b {A B : Prop} (h1 : b = true → A) (h2 : b = false → B) : if b = true then A else B := by
  cases b
  · exact iteF (h2 rfl)
  · exact iteT (h1 rfl)
end
theorem line_of {n : Nat} (h : n ≤ 10000000) : n ≤ sizeLine := Nat.le_trans h (by decide)
theorem lt_line {n : Nat} (h : n < 10000000) : n < sizeLine := Nat.lt_of_lt_of_le h (by decide)
theorem len_app (x y : Str) : (x ++ y).length = x.length + y.length := by rw [len_tl, len_tl, len_tl, tl_append, List.length_append]
theorem len_cut (z : Str) (lo hi : Option Int) : (cutS z lo hi).length ≤ z.length := cutS_length z lo hi
theorem len_of (s : String) : (Str.ofString s).length = s.length := by rw [len_tl, tl_ofString, List.length_map]; rfl
theorem tl_empty : tl Str.empty = [] := rfl
theorem len_empty : Str.empty.length = 0 := rfl
/-! ### a def of the top -/
def Dn (K : PySem.W.Frag) (mg : Str → Option Value) (x : Str) (st : Stmt) (ps : List Str) : Prop := ∃ f fd, mg x = some (.ref f) ∧ Fun K x x st f fd ∧ ∀ (s : Shared) (us : List Value), us.length = ps.length → BindsTo s fd ⟨us, []⟩ (ps.zip us)
def OkD (P : Program) (w : World) (K : PySem.W.Frag) (mg : Str → Option Value) (base : Heap) (CX : CXT) (k : Nat) (x : Str) (ps : List Str) (sp : Sp) : Prop :=
  ∃ f fd, mg x = some (.ref f) ∧ PySem.W.keepIn K (.ref f) = true ∧ Binds K fd ps [] ∧ FnOk P w K mg base CX k f fd ps sp
theorem dn_mk {K : PySem.W.Frag} {h : Heap} {mg : Str → Option Value} {x : Str} {st : Stmt} {ps : List Str} {f : Addr} {oc kV doc pm cdv ct : Value} {od an : Option Addr} {osl : Array (Option Value)} (X : K.In h) (G : h.Ns mainGlobals mg)
    (a : PySem.W.nsIn K mainGlobals x = some (some (.ref f))) (l : K.lookup f = some ⟨oc, od, .func (PySem.W.fnOf x x (defArgs st) (defBody st) (defScope st) .none kV doc pm an cdv ct), osl⟩)
    (c : PySem.W.codeIn K cdv x = true) (k : PySem.W.keepIn K (.ref f) = true)
    (b : ∀ (kV doc pm : Value) (an : Option Addr) (cdv ct : Value) (us : List Value), us.length = ps.length → bindArgs (PySem.W.fnOf x x (defArgs st) (defBody st) (defScope st) .none kV doc pm an cdv ct) ⟨us, []⟩ = pure (ps.zip us)) : Dn K mg x st ps :=
  ⟨f, _, PySem.W.mg_of X G a, fun_mk l c k, fun s us hl => .of_eq (b kV doc pm an cdv ct us hl)⟩
theorem binds_of {K : PySem.W.Frag} {fd : FuncData} {ps : List Str} (b : ∀ (s : Shared) (us : List Value), us.length = ps.length → BindsTo s fd ⟨us, []⟩ (ps.zip us)) : Binds K fd ps [] := fun s us _ hl => by
  rw [List.append_nil] at hl ⊢
  exact b s us hl
theorem ok_F {P : Program} {w : World} {K : PySem.W.Frag} {mg : Str → Option Value} {base : Heap} {k : Nat} {x : Str} {st : Stmt} {ps N : List Str} {sp : Sp} {f : Addr} {fd : FuncData} (F : Fun K x x st f fd) (S : FnScope N ps (defScope st))
    (len : ∀ vs H Q E, sp vs H Q E → vs.length = ps.length)
    (hbody : ∀ (cdv : Value) (A : Around) (outer : List Env) (s : Shared) (H : Hp) (vs : List V) (Q : VK) (E : XK), Room k (A.deeper (envOfC x (defScope st) s.heap.objs.size f cdv)) → sp vs H Q E →
      ∃ t, PSs (cxOf CX0 P w K mg base N x (defScope st) f cdv A outer s H E).nox (defBody st) t ∧ t ⟨fun _ H' => Q .non H', Q, fun _ _ => False, fun _ _ => False⟩ (start N vs) H) : FnOk P w K mg base CX0 (k + 1) f fd ps sp :=
  F.ok S len fun cdv A outer s H vs Q E hr h => hbody cdv A outer s H vs Q E hr h
theorem ok_mk {P : Program} {w : World} {K : PySem.W.Frag} {mg : Str → Option Value} {base : Heap} {k : Nat} {x : Str} {st : Stmt} {ps N : List Str} {sp : Sp} (d : Dn K mg x st ps) (S : FnScope N ps (defScope st))
    (len : ∀ vs H Q E, sp vs H Q E → vs.length = ps.length)
    (hbody : ∀ (f : Addr) (cdv : Value) (A : Around) (outer : List Env) (s : Shared) (H : Hp) (vs : List V) (Q : VK) (E : XK), Room k (A.deeper (envOfC x (defScope st) s.heap.objs.size f cdv)) → sp vs H Q E →
      ∃ t, PSs (cxOf CX0 P w K mg base N x (defScope st) f cdv A outer s H E).nox (defBody st) t ∧ t ⟨fun _ H' => Q .non H', Q, fun _ _ => False, fun _ _ => False⟩ (start N vs) H) : OkD P w K mg base CX0 (k + 1) x ps sp := by
  obtain ⟨f, fd, m, F, b⟩ := d
  exact ⟨f, fd, m, F.kp, binds_of b, F.ok S len fun cdv A outer s H vs Q E hr h => hbody f cdv A outer s H vs Q E hr h⟩
section
variable {X : Cx}
theorem pe_callD {k : Nat} {x : Str} {ps : List Str} {sp : Sp} {t : TA} {e : Expr} {es : List Expr} {p pos : Pos} {E : XK} (O : OkD X.prog X.w X.K X.mg X.base CX0 k x ps sp) (hr : Room k X.A) (hg : Gl X x) (hx : Passes CX0 X E) (ha : PA X (e :: es) t)
    (hdb : (x == ("__debug__" : Str)) = false := by decide) (he : starEach (e :: es) X.env = (false, eval e X.env) :: starEach es X.env := by rfl) (hpl : (backTo pos (starEach es X.env)).any (·.1) = false := by rfl) :
    PE X (.Call (.Name x p) (e :: es) [] pos) (tCall sp [] E t) := by
  obtain ⟨f, fd, m, kp, b, F⟩ := O
  exact pe_call F hr hg m kp b .nil hx ha hdb he hpl
end
def wTru (K : PySem.W.Frag) (x : V) (H : Hp) (Q : Bool → Hp → Prop) : Prop := ∃ k, TruV K x H k ∧ Q k H
section
variable {σ : L2.St} {H : Hp} {Q : VK} {QB : Bool → Hp → Prop} {K : PySem.W.Frag} {a : Addr} {xs : List V} {i k : Int} {ta : TE}
theorem rd_truth (h : ta σ H fun x H1 => wTru K x H1 QB) : zTruth K ta σ H QB := h
theorem rd_truL (c : SqL K H a xs) (h : QB (!xs.isEmpty) H) : wTru K (.ref a) H QB := ⟨_, .inl ⟨xs, c, rfl⟩, h⟩
theorem rd_lenL (c : SqL K H a xs) (h : Q (.int xs.length) H) : zLenQ K [.ref a] H Q := ⟨a, xs, rfl, .inl c, h⟩
theorem rd_lenT (c : SqT K H a xs) (h : Q (.int xs.length) H) : zLenQ K [.ref a] H Q := ⟨a, xs, rfl, .inr c, h⟩
theorem rd_ixL {v : V} (c : SqL K H a xs) (e : atI xs i = some v) (h : Q v H) : rIxL K (.ref a) (.int i) H Q := ⟨a, xs, i, v, rfl, rfl, c, e, h⟩
theorem rd_ixT {v : V} (c : SqT K H a xs) (e : atI xs i = some v) (h : Q v H) : rIxT K (.ref a) (.int i) H Q := ⟨a, xs, i, v, rfl, rfl, c, e, h⟩
theorem atI_in {α : Type} {xs : List α} {i : Int} (h0 : 0 ≤ i) (h1 : i < xs.length) : ∃ v, v ∈ xs ∧ atI xs i = some v := by
  obtain ⟨j, rfl⟩ := Int.eq_ofNat_of_zero_le h0
  have hj : j < xs.length := by omega
  exact ⟨xs[j], List.getElem_mem hj, atI_nat (List.getElem?_eq_getElem hj)⟩
end
/-! ### comprehensions and loops over a range -/
def LcR (n : Nat) (g : TG) (te : TE) (vs : List Nat) (σ : L2.St) (H1 : Hp) (D : Addr) (Qd : Hp → Prop) : Prop := ∃ W : Nat → Nat → Hp → Prop, (∃ m, W 0 m (upd H1 D (.lst []))) ∧ ∀ i m H, W i m H →
  ((Itr 0 n).stop i H ∧ Qd H) ∨ ((Itr 0 n).go i H ∧ ∃ Nx : Hp → Prop, (∀ H', Nx H' → ∃ m', m' < m ∧ W (i + 1) m' H') ∧ ∀ x H', (Itr 0 n).yld i H x H' → g x (wipe σ vs) H' fun σ2 H2 => wipe σ2 vs = wipe σ vs ∧ tYes σ2 H2 fun b H3 =>
    if b = true then te σ2 H3 fun y H4 => ∃ acc, H4 D = some (.lst acc) ∧ acc.length < sizeLine ∧ Nx (upd H4 D (.lst (acc ++ [y]))) else Nx H3)
def wRg (zs : List V) (H : Hp) (R : Nat → Hp → Prop) : Prop := ∃ j : Int, zs = [V.int j] ∧ -(2 ^ 62) ≤ j ∧ j < 2 ^ 62 ∧ R j.toNat H
section
variable {σ : L2.St} {H H1 : Hp} {Q : VK} {QG : L2.St → Hp → Prop} {K : PySem.W.Frag} {st sc D : Addr} {ns : List Int} {as : TA} {g : TG} {te ta tb : TE} {vs : List Nat} {n : Nat} {G : V → Prop} {Qd : Hp → Prop}
theorem rd_lcR (h : as σ H fun zs H1 => wRg zs H1 fun n H2 => ∀ D, H2 D = none → LcR n g te vs σ H2 D (Q (.ref D))) : tLc (iRng1 as) g tYes te vs σ H Q := by
  unfold tLc iRng1
  exact h
theorem rd_wRg {j : Int} {R : Nat → Hp → Prop} (h0 : 0 ≤ j) (h1 : j ≤ 1000000) (h : R j.toNat H) : wRg [.int j] H R := ⟨j, rfl, by omega, by omega, h⟩
theorem lcR (W : Wd K st sc ns H1) (nD : H1 D = none) (hn : n ≤ 1000)
    (hs : ∀ (i : Nat) H (R : VK), i < n → Wd K st sc ns H → Dr st H1 H → (∀ y H', Dr st H H' → G y → R y H') → g (.int (0 + (i : Nat))) (wipe σ vs) H fun σ2 H2 => wipe σ2 vs = wipe σ vs ∧ te σ2 H2 R)
    (hd : ∀ H' ys, Dr st H1 H' → Wd K st sc ns H' → D ≠ st → H' D = some (.lst ys) → ys.length = n → (∀ y ∈ ys, G y) → Qd H') : LcR n g te vs σ H1 D Qd := by
  have nS : D ≠ st := W.1.ne nD
  refine lc_range (Pv := fun i H => Dr st H1 H ∧ ∃ ys, H D = some (.lst ys) ∧ ys.length = i ∧ ∀ y ∈ ys, G y) ?_ (fun i H hi hP => ?_) (fun H hP => ?_)
  · exact ⟨W.dr.new nD, [], upd_same, rfl, fun _ h => nomatch h⟩
  · obtain ⟨d, ys, e, el, eg⟩ := hP
    have q := hs i H (fun y H4 => ∃ acc, H4 D = some (.lst acc) ∧ acc.length < sizeLine ∧ (Dr st H1 (upd H4 D (.lst (acc ++ [y]))) ∧ ∃ ys, (upd H4 D (.lst (acc ++ [y]))) D = some (.lst ys) ∧ ys.length = i + 1 ∧ ∀ y ∈ ys, G y)) hi (W.next d) d (fun y H' d' gy => by
      have e' : H' D = some (.lst ys) := d'.1 _ _ nS e
      refine ⟨ys, e', lt_line (by omega), Dr.put W.1 (d.trans d') nD, ys ++ [y], upd_same, by rw [List.length_append, el]; rfl, fun z hz => ?_⟩
      rcases List.mem_append.mp hz with hz | hz
      · exact eg z hz
      · rw [List.mem_singleton.mp hz]
        exact gy)
    exact q
  · obtain ⟨d, ys, e, el, eg⟩ := hP
    exact hd H ys d (W.next d) nS e el eg
def wSet (t : TSet) (o i v : V) (H : Hp) (Q : Hp → Prop) : Prop := t o i v H Q
theorem rd_gSub {v : V} {t : TSet} (h : ta σ H fun o H1 => tb σ H1 fun i H2 => t o i v H2 fun H3 => QG σ H3) : gSub ta tb t v σ H QG := h
theorem rd_setL {a : Addr} {k : Int} {v : V} {xs : List V} {j : Nat} {QH : Hp → Prop} (e : H a = some (.lst xs)) (hj : ixN xs.length k = some j) (h : QH (upd H a (.lst (xs.set j v)))) : rSetL (.ref a) (.int k) v H QH := ⟨a, xs, k, j, rfl, rfl, e, hj, h⟩
theorem Dr.upds (d : Dr st H H1) {k v : Int} : Dr st H (upd H1 st (.lst [.int k, .int v])) :=
  ⟨fun a x n e => by
    rw [upd_ne n]
    exact d.1 a x n e, k, v, upd_same⟩
end
theorem cut_one {z : Str} {k : Int} (h0 : 0 ≤ k) (h1 : k < z.length) : ∃ c, c ∈ tl z ∧ cutS z (some k) (some (k + 1)) = ⟨#[c]⟩ := by
  obtain ⟨j, rfl⟩ := Int.eq_ofNat_of_zero_le h0
  have hj : j < (tl z).length := by rw [← len_tl]; omega
  have hz : z.length = (tl z).length := len_tl z
  refine ⟨(tl z)[j], List.getElem_mem hj, ?_⟩
  unfold cutS
  rw [show ((j : Int) + 1) = ((j + 1 : Nat) : Int) by omega, HT.sIx_nat, HT.sIx_nat, Nat.min_eq_left (by omega), Nat.min_eq_left (by omega), show j + 1 - j = 1 by omega]
  show (⟨(List.take 1 (List.drop j (tl z))).toArray⟩ : Str) = _
  rw [List.drop_eq_getElem_cons hj]
  rfl
/-! ### texts put together -/
theorem strs_of {G : Str → Prop} : ∀ {ys : List V}, (∀ y ∈ ys, ∃ x, y = .str x ∧ G x) → ∃ xs : List Str, ys = xs.map V.str ∧ ∀ x ∈ xs, G x
  | [], _ => ⟨[], rfl, fun _ h => nomatch h⟩
  | y :: ys, h => by
    obtain ⟨x, rfl, g⟩ := h y List.mem_cons_self
    obtain ⟨xs, rfl, gs⟩ := strs_of (ys := ys) fun z hz => h z (List.mem_cons_of_mem _ hz)
    refine ⟨x :: xs, rfl, fun z hz => ?_⟩
    rcases List.mem_cons.mp hz with rfl | hz
    · exact g
    · exact gs z hz
theorem joinL_len (S : List Nat) : ∀ ps : List (List Nat), (joinL S ps).length ≤ (ps.map (·.length)).sum + ps.length * S.length
  | [] => Nat.zero_le _
  | [p] => by simp [joinL]
  | p :: q :: r => by
    have h := joinL_len S (q :: r)
    have e : joinL S (p :: q :: r) = p ++ (S ++ joinL S (q :: r)) := by first | rfl | simp [joinL]
    rw [e, List.length_append, List.length_append]
    simp only [List.map_cons, List.sum_cons, List.length_cons] at h ⊢
    rw [Nat.succ_mul]
    omega
theorem joinL_mem {S : List Nat} {c : Nat} : ∀ {ps : List (List Nat)}, c ∈ joinL S ps → c ∈ S ∨ ∃ p ∈ ps, c ∈ p
  | [], h => by simp [joinL] at h
  | [p], h => .inr ⟨p, by simp, by simpa [joinL] using h⟩
  | p :: q :: r, h => by
    have e : joinL S (p :: q :: r) = p ++ (S ++ joinL S (q :: r)) := by first | rfl | simp [joinL]
    rw [e] at h
    rcases List.mem_append.mp h with h | h
    · exact .inr ⟨p, by simp, h⟩
    · rcases List.mem_append.mp h with h | h
      · exact .inl h
      · rcases joinL_mem h with h | ⟨p', hp, h⟩
        · exact .inl h
        · exact .inr ⟨p', List.mem_cons_of_mem _ hp, h⟩
theorem joinL_nil : ∀ ps : List (List Nat), joinL [] ps = ps.flatten
  | [] => rfl
  | [p] => by simp [joinL]
  | p :: q :: r => by
    have e : joinL [] (p :: q :: r) = p ++ ([] ++ joinL [] (q :: r)) := by first | rfl | simp [joinL]
    rw [e, joinL_nil (q :: r)]
    rfl
theorem sum_le {B : Nat} : ∀ {l : List Nat}, (∀ x ∈ l, x ≤ B) → l.sum ≤ l.length * B
  | [], _ => Nat.zero_le _
  | x :: l, h => by
    have h1 := h x List.mem_cons_self
    have h2 := sum_le (l := l) fun y hy => h y (List.mem_cons_of_mem _ hy)
    rw [List.sum_cons, List.length_cons, Nat.succ_mul]
    omega
theorem lens_le {B : Nat} {xs : List Str} (h : ∀ x ∈ xs, x.length ≤ B) : (xs.map (·.length)).sum ≤ xs.length * B := by
  have q := sum_le (B := B) (l := xs.map (·.length)) fun n hn => by
    obtain ⟨x, hx, rfl⟩ := List.mem_map.mp hn
    exact h x hx
  rwa [List.length_map] at q
theorem tl_joined (a : Str) (xs : List Str) : tl (Txt.join a xs) = joinL (tl a) (xs.map tl) := by rw [join_eq, tl_join]
theorem len_joined (a : Str) (xs : List Str) : (Txt.join a xs).length ≤ (xs.map (·.length)).sum + xs.length * a.length := by
  rw [len_tl, tl_joined, len_tl a]
  have h := joinL_len (tl a) (xs.map tl)
  rw [List.length_map, List.map_map] at h
  have e : (xs.map (·.length)) = xs.map ((·.length) ∘ tl) := List.map_congr_left fun x _ => len_tl x
  rw [e]
  exact h
theorem mem_joined {a : Str} {xs : List Str} {c : Nat} (h : c ∈ tl (Txt.join a xs)) : c ∈ tl a ∨ ∃ x ∈ xs, c ∈ tl x := by
  rw [tl_joined] at h
  rcases joinL_mem h with h | ⟨p, hp, h⟩
  · exact .inl h
  · obtain ⟨x, hx, rfl⟩ := List.mem_map.mp hp
    exact .inr ⟨x, hx, h⟩
theorem tl_lit0 : tl (Str.ofString "") = [] := by rw [tl_ofString]; rfl
theorem len_ones : ∀ {xs : List Str}, (∀ x ∈ xs, ∃ c, x = ⟨#[c]⟩) → ((xs.map tl).flatten).length = xs.length
  | [], _ => rfl
  | x :: xs, h => by
    obtain ⟨c, rfl⟩ := h x List.mem_cons_self
    rw [List.map_cons, List.flatten_cons, List.length_append, len_ones fun y hy => h y (List.mem_cons_of_mem _ hy)]
    exact Nat.add_comm 1 _
section
variable {H : Hp} {Q : VK} {K : PySem.W.Frag} {p : Addr} {xs : List Str} {a : Str}
theorem rd_joinL (c : SqL K H p (xs.map V.str)) (b : (xs.map (·.length)).sum + xs.length * a.length ≤ 16777216) (h : Q (.str (Txt.join a xs)) H) : zJoin K (.str a) [.ref p] H Q := ⟨a, p, xs, rfl, rfl, .inl c, b, h⟩
end
theorem len_lit0 : (Str.ofString "").length = 0 := by rw [len_of]; rfl
theorem len_dot : (Str.ofString ".").length = 1 := by rw [len_of]; rfl
theorem tl_dot : tl (Str.ofString ".") = [46] := by rw [tl_ofString]; rfl
theorem rep_one {α : Type} (x : α) : ∀ k : Nat, (List.replicate k [x]).flatten = List.replicate k x
  | 0 => rfl
  | k + 1 => by rw [List.replicate_succ, List.flatten_cons, rep_one x k]; rfl
theorem len_ends : (Str.ofString "abcdefghijklmnopqrstuvwxyz0123456789-_+").length = 39 := by rw [len_of]; rfl
theorem len_ends2 : (Str.ofString "abcdefghijklmnopqrstuvwxyz0123456789").length = 36 := by rw [len_of]; rfl
theorem len_rs (x y : Str) : (Txt.rstripChars x y).length ≤ x.length := by first | exact PyProof.Rows.len_rstripChars x y | exact len_rstripChars x y | exact Txt.len_rstripChars x y
theorem rd_wLs {xs : List V} {H : Hp} {Q : VK} (c : xs.length ≤ 1000) (h : ∀ (p : Addr), H p = none → Q (.ref p) (upd H p (.lst xs))) : wLs xs H Q := ⟨line_of (by omega), h⟩
theorem rd_wTT {xs : List V} {H : Hp} {Q : VK} (c : xs.length ≤ 1000) (h : ∀ (p : Addr) (H' : Hp), H p = none → Same H H' → Tk H' p xs → Q (.ref p) H') : wTT xs H Q := ⟨line_of (by omega), fun p o n d => h p _ n (same_new n) (Tk.mk d)⟩
theorem rd_rep {p : Addr} {k : Int} {xs : List V} {H : Hp} {Q : VK} (e : H p = some (.lst xs)) (k0 : 0 ≤ k) (k1 : k ≤ 1000) (c : xs.length ≤ 1000) (h : ∀ q, H q = none → Q (.ref q) (upd H q (.lst (List.replicate k.toNat xs).flatten))) : rRep (.ref p) (.int k) H Q :=
  ⟨p, k, xs, rfl, rfl, e, by omega, by omega, line_of (Nat.le_trans (Nat.mul_le_mul c (show k.toNat ≤ 1000 by omega)) (by decide)), h⟩
def FrR (n : Nat) (g : TG) (tb : TS) (D : Ends) (σ : L2.St) (H : Hp) : Prop := ∃ W : Nat → Nat → L2.St → Hp → Prop, (∃ m, W 0 m σ H) ∧ ∀ i m σ H, W i m σ H →
  ((Itr 0 n).stop i H ∧ D.nx σ H) ∨ ((Itr 0 n).go i H ∧ ∃ N : L2.St → Hp → Prop, (∀ σ' H', N σ' H' → ∃ m', m' < m ∧ W (i + 1) m' σ' H') ∧ ∀ x H', (Itr 0 n).yld i H x H' → g x σ H' fun σ2 H2 => tb { D with nx := N, ct := N, bk := D.nx } σ2 H2)
def wTy (K : PySem.W.Frag) (T : String) (x : V) (H : Hp) (P : Prop) : Prop := tyV K T x H ∧ P
section
variable {σ : L2.St} {H : Hp} {Q : VK} {nx bk ct : L2.St → Hp → Prop} {rt : VK} {K : PySem.W.Frag} {as : TA} {ta : TE} {g : TG} {tb : TS} {n : Nat} {T : String} {f : V → List V → Hp → VK → Prop} {a : Addr} {xs : List V} {y : V} {P : Prop}
theorem rd_forR (h : as σ H fun zs H1 => wRg zs H1 fun n H2 => FrR n g tb ⟨nx, rt, bk, ct⟩ σ H2) : tFor (iRng1 as) g tb ⟨nx, rt, bk, ct⟩ σ H := by
  unfold tFor iRng1
  exact h
theorem forR (Pv : Nat → L2.St → Hp → Prop) (h0 : Pv 0 σ H) (hs : ∀ (i : Nat) σ H, i < n → Pv i σ H → g (.int (0 + (i : Nat))) σ H fun σ2 H2 => tb ⟨Pv (i + 1), rt, nx, Pv (i + 1)⟩ σ2 H2) (hd : ∀ σ H, Pv n σ H → nx σ H) :
    FrR n g tb ⟨nx, rt, bk, ct⟩ σ H := for_range (D := ⟨nx, rt, bk, ct⟩) Pv h0 hs hd
theorem rd_bm (h : ta σ H fun x H1 => wTy K T x H1 (as σ H1 fun xs H2 => f x xs H2 Q)) : tBM K T f ta as σ H Q := h
theorem rd_wTyL (c : SqL K H a xs) (h : P) : wTy K "list" (.ref a) H P := ⟨.inl ⟨rfl, _, c⟩, h⟩
theorem rd_append (e : H a = some (.lst xs)) (c : xs.length ≤ 1000) (h : Q .non (upd H a (.lst (xs ++ [y])))) : rAppend (.ref a) [y] H Q := ⟨a, xs, y, rfl, rfl, e, lt_line (by omega), h⟩
end
/-! ### signs below 128 -/
def Asc (x : Str) : Prop := ∀ c ∈ tl x, c < 128
theorem asc_app {x y : Str} (h : Asc x) (g : Asc y) : Asc (x ++ y) := fun c hc => by
  rw [tl_append] at hc
  rcases List.mem_append.mp hc with hc | hc
  · exact h c hc
  · exact g c hc
theorem asc_cut {x : Str} {lo hi : Option Int} (h : Asc x) : Asc (cutS x lo hi) := fun c hc => h c (List.mem_of_mem_drop (List.mem_of_mem_take (show c ∈ List.take _ (List.drop _ (tl x)) from hc)))
theorem asc_rs {x y : Str} (h : Asc x) : Asc (Txt.rstripChars x y) := fun c hc => by
  obtain ⟨j, _, e⟩ := PyProof.Rows.stripBy_right y.cps.contains x
  rw [show Txt.rstripChars x y = Builtin.Str.strSub x 0 j from e, tl_strSub] at hc
  exact h c (List.mem_of_mem_drop (List.mem_of_mem_take hc))
theorem asc_join {a : Str} {xs : List Str} (h : Asc a) (g : ∀ x ∈ xs, Asc x) : Asc (Txt.join a xs) := fun c hc => by
  rcases mem_joined hc with hc | ⟨x, hx, hc⟩
  · exact h c hc
  · exact g x hx c hc
theorem asc_of {x : Str} (h : x.cps.all (fun c => decide (c < 128)) = true) : Asc x := fun c hc => by
  rw [Array.all_eq_true'] at h
  exact of_decide_eq_true (h c (Array.mem_def.mpr hc))
theorem asc_one {c : Nat} (h : c < 128) : Asc ⟨#[c]⟩ := fun d hd => by
  rw [List.mem_singleton.mp hd]
  exact h
theorem asc_ends : Asc (Str.ofString "abcdefghijklmnopqrstuvwxyz0123456789-_+") := asc_of (by decide +kernel)
theorem asc_ends2 : Asc (Str.ofString "abcdefghijklmnopqrstuvwxyz0123456789") := asc_of (by decide +kernel)
theorem asc_dot : Asc (Str.ofString ".") := asc_of (by decide +kernel)
theorem asc_lit0 : Asc (Str.ofString "") := asc_of (by decide +kernel)
theorem ok_asc {x : Str} (h : Asc x) : PyData.strOk x = true := by
  unfold PyData.strOk
  rw [Array.all_eq_true']
  exact fun c hc => decide_eq_true (Nat.lt_trans (h c (Array.mem_def.mp hc)) (by decide))
theorem canLay_strs : ∀ {xs : List Str}, (∀ x ∈ xs, Asc x) → PyData.canLayAll0 (xs.map PyData.str) = true
  | [], _ => by simp [PyData.canLayAll0]
  | x :: xs, h => by
    simp only [List.map_cons, PyData.canLayAll0, PyData.canLay0, ok_asc (h x List.mem_cons_self), canLay_strs fun y hy => h y (List.mem_cons_of_mem _ hy), Bool.and_self]
theorem depth_strs : ∀ xs : List Str, PyData.depthAll (xs.map PyData.str) = 0
  | [] => by simp [PyData.depthAll]
  | x :: xs => by
    rw [List.map_cons, PyData.depthAll, PyData.depth, depth_strs xs]
    rfl
theorem shaped_strs {xs : List Str} (h : ∀ x ∈ xs, Asc x) : SeqAt.shaped (.tuple (xs.map PyData.str)) = true := by
  simp only [SeqAt.shaped, PyData.canLay0, PyData.depth, canLay_strs h, depth_strs]
  decide
theorem eqv_strs : ∀ xs ys : List Str, PyData.eqvAll (xs.map PyData.str) (ys.map PyData.str) = decide (xs = ys)
  | [], [] => by simp [PyData.eqvAll]
  | [], _ :: _ => by simp [PyData.eqvAll]
  | _ :: _, [] => by simp [PyData.eqvAll]
  | x :: xs, y :: ys => by
    simp only [List.map_cons, PyData.eqvAll, PyData.eqv, eqv_strs xs ys]
    by_cases h : x = y <;> by_cases h' : xs = ys <;> simp [h, h']
theorem dp_strs {K : PySem.W.Frag} {H : Hp} : ∀ xs : List Str, DpAll K H (xs.map V.str) (xs.map PyData.str)
  | [] => .nil
  | x :: xs => .cons (.str x) (dp_strs xs)
section
variable {K : PySem.W.Frag} {H : Hp} {Q : VK} {p q : Addr} {xs ys : List Str} {v : V} {t : Value} {a b : String} {r : Bool} {zs : List V}
theorem rd_neT (h1 : SqT K H p (xs.map V.str)) (h2 : SqT K H q (ys.map V.str)) (a1 : ∀ x ∈ xs, Asc x) (a2 : ∀ x ∈ ys, Asc x) (h : Q (.bl (!decide (xs = ys))) H) : rNeD K (.ref p) (.ref q) H Q :=
  ⟨_, _, .tup h1 (dp_strs xs), .tup h2 (dp_strs ys), shaped_strs a1, shaped_strs a2, by
    rw [show PyData.eqv (.tuple (xs.map PyData.str)) (.tuple (ys.map PyData.str)) = PyData.eqvAll (xs.map PyData.str) (ys.map PyData.str) by rw [PyData.eqv], eqv_strs]
    exact h⟩
theorem rd_eqT (h1 : SqT K H p (xs.map V.str)) (h2 : SqT K H q (ys.map V.str)) (a1 : ∀ x ∈ xs, Asc x) (a2 : ∀ x ∈ ys, Asc x) (h : Q (.bl (decide (xs = ys))) H) : rEqD K (.ref p) (.ref q) H Q :=
  ⟨_, _, .tup h1 (dp_strs xs), .tup h2 (dp_strs ys), shaped_strs a1, shaped_strs a2, by
    rw [show PyData.eqv (.tuple (xs.map PyData.str)) (.tuple (ys.map PyData.str)) = PyData.eqvAll (xs.map PyData.str) (ys.map PyData.str) by rw [PyData.eqv], eqv_strs]
    exact h⟩
theorem rd_isi (c : TyX K H v (.type a)) (e : kitB a b = some r) (h : Q (.bl r) H) : rIsi K [v, .ty b] H Q := ⟨v, .ty b, .type a, .type b, r, rfl, .ty b, c, kit_ty e, h⟩
theorem Tk.ty {p : Addr} {zs : List V} (h : Tk H p zs) : TyX K H (.ref p) (.type "tuple") := let ⟨_, _, e⟩ := h; .fTuple e
theorem inV_strs (z : Str) : ∀ xs : List Str, inV (.str z) (xs.map V.str) = decide (z ∈ xs)
  | [] => by simp [inV]
  | x :: xs => by
    have h := inV_strs z xs
    unfold inV at h ⊢
    rw [List.map_cons, List.any_cons, h]
    show ((x == z) || _) = _
    by_cases e : x = z
    · simp [e]
    · have e' : ¬ z = x := fun q => e q.symm
      simp [e, e']
theorem flat_strs' : ∀ xs : List Str, (xs.map V.str).all flatV = true
  | [] => rfl
  | x :: xs => by rw [List.map_cons, List.all_cons, flat_strs' xs]; rfl
theorem rd_inT {z : Str} (c : SqT K H p (xs.map V.str)) (h : Q (.bl (decide (z ∈ xs))) H) : rIn K false (.str z) (.ref p) H Q := ⟨p, _, rfl, .inr c, rfl, flat_strs' xs, by
  rw [inV_strs]
  exact h⟩
theorem rd_tup (c : SqL K H p zs) (h : ∀ (l : Addr) (H' : Hp), H l = none → Same H H' → Tk H' l zs → Q (.ref l) H') : zTup K [.ref p] H Q := ⟨p, zs, rfl, c, fun l o n d => h l _ n (same_new n) (Tk.mk d)⟩
end
/-! ### what is walked: a list, a tuple, a text -/
def WalkOf (J : It) (R : Hp → Prop) (xs : List V) : Prop := ∀ H, R H → (∀ i, i < xs.length → J.go i H) ∧ (∀ i x H', i < xs.length → J.yld i H x H' → H' = H ∧ xs[i]? = some x) ∧ ∀ i, xs.length ≤ i → J.stop i H
def oneS (c : Nat) : V := .str ⟨#[c]⟩
theorem walk_l {K : PySem.W.Frag} {a : Addr} {xs : List V} : WalkOf (Itl K a) (fun H => SqL K H a xs) xs := fun H h =>
  ⟨fun i hi => ⟨xs, xs[i], h, List.getElem?_eq_getElem hi⟩, fun i x H' hi y => ⟨y.1, y.2 xs h⟩, fun i hi => ⟨xs, h, hi⟩⟩
theorem walk_t {K : PySem.W.Frag} {a : Addr} {xs : List V} : WalkOf (Itt K a) (fun H => SqT K H a xs) xs := fun H h =>
  ⟨fun i hi => ⟨xs, xs[i], h, List.getElem?_eq_getElem hi⟩, fun i x H' hi y => ⟨y.1, y.2 xs h⟩, fun i hi => ⟨xs, h, hi⟩⟩
theorem walk_s {z : Str} : WalkOf (Its z) (fun _ => True) ((tl z).map oneS) := fun H _ => by
  have e : ((tl z).map oneS).length = z.cps.size := by rw [List.length_map, Array.length_toList]
  refine ⟨fun i hi => ?_, fun i x H' hi y => ?_, fun i hi => ?_⟩
  · rw [e] at hi
    exact hi
  · obtain ⟨e1, c, hc, rfl⟩ := y
    refine ⟨e1, ?_⟩
    rw [List.getElem?_map, Array.getElem?_toList, hc]
    rfl
  · rw [e] at hi
    exact hi
def LcJ (J : It) (g : TG) (tt : TT) (te : TE) (vs : List Nat) (σ : L2.St) (H1 : Hp) (D : Addr) (Qd : Hp → Prop) : Prop := ∃ W : Nat → Nat → Hp → Prop, (∃ m, W 0 m (upd H1 D (.lst []))) ∧ ∀ i m H, W i m H →
  (J.stop i H ∧ Qd H) ∨ (J.go i H ∧ ∃ Nx : Hp → Prop, (∀ H', Nx H' → ∃ m', m' < m ∧ W (i + 1) m' H') ∧ ∀ x H', J.yld i H x H' → g x (wipe σ vs) H' fun σ2 H2 => wipe σ2 vs = wipe σ vs ∧ tt σ2 H2 fun b H3 =>
    if b = true then te σ2 H3 fun y H4 => ∃ acc, H4 D = some (.lst acc) ∧ acc.length < sizeLine ∧ Nx (upd H4 D (.lst (acc ++ [y]))) else Nx H3)
def FrJ (J : It) (g : TG) (tb : TS) (D : Ends) (σ : L2.St) (H : Hp) : Prop := ∃ W : Nat → Nat → L2.St → Hp → Prop, (∃ m, W 0 m σ H) ∧ ∀ i m σ H, W i m σ H →
  (J.stop i H ∧ D.nx σ H) ∨ (J.go i H ∧ ∃ N : L2.St → Hp → Prop, (∀ σ' H', N σ' H' → ∃ m', m' < m ∧ W (i + 1) m' σ' H') ∧ ∀ x H', J.yld i H x H' → g x σ H' fun σ2 H2 => tb { D with nx := N, ct := N, bk := D.nx } σ2 H2)
def wSq (P : Hp → Addr → List V → Prop) (x : V) (H : Hp) (R : Addr → Hp → Prop) : Prop := ∃ a, x = V.ref a ∧ (∃ xs, P H a xs) ∧ R a H
def wStr (x : V) (H : Hp) (R : Str → Hp → Prop) : Prop := ∃ z, x = V.str z ∧ R z H
section
variable {σ : L2.St} {H H1 : Hp} {Q : VK} {nx bk ct : L2.St → Hp → Prop} {rt : VK} {K : PySem.W.Frag} {ta : TE} {g : TG} {tt : TT} {te : TE} {vs : List Nat} {tb : TS} {n j : Nat} {a D : Addr} {xs : List V} {J : It} {Rl : Hp → Prop} {Qd : Hp → Prop}
theorem rd_lcT (h : ta σ H fun x H1 => wSq (SqT K) x H1 fun a H2 => ∀ D, H2 D = none → LcJ (Itt K a) g tt te vs σ H2 D (Q (.ref D))) : tLc (iTup K ta) g tt te vs σ H Q := by
  unfold tLc iTup
  exact h
theorem rd_lcL (h : ta σ H fun x H1 => wSq (SqL K) x H1 fun a H2 => ∀ D, H2 D = none → LcJ (Itl K a) g tt te vs σ H2 D (Q (.ref D))) : tLc (iList K ta) g tt te vs σ H Q := by
  unfold tLc iList
  exact h
theorem rd_lcS (h : ta σ H fun x H1 => wStr x H1 fun z H2 => ∀ D, H2 D = none → LcJ (Its z) g tt te vs σ H2 D (Q (.ref D))) : tLc (iStr ta) g tt te vs σ H Q := by
  unfold tLc iStr
  exact h
theorem rd_frT (h : ta σ H fun x H1 => wSq (SqT K) x H1 fun a H2 => FrJ (Itt K a) g tb ⟨nx, rt, bk, ct⟩ σ H2) : tFor (iTup K ta) g tb ⟨nx, rt, bk, ct⟩ σ H := by
  unfold tFor iTup
  exact h
theorem rd_frL (h : ta σ H fun x H1 => wSq (SqL K) x H1 fun a H2 => FrJ (Itl K a) g tb ⟨nx, rt, bk, ct⟩ σ H2) : tFor (iList K ta) g tb ⟨nx, rt, bk, ct⟩ σ H := by
  unfold tFor iList
  exact h
theorem rd_wSq {P : Hp → Addr → List V → Prop} {R : Addr → Hp → Prop} (c : P H a xs) (h : R a H) : wSq P (.ref a) H R := ⟨a, rfl, ⟨xs, c⟩, h⟩
theorem rd_wStr {z : Str} {R : Str → Hp → Prop} (h : R z H) : wStr (.str z) H R := ⟨z, rfl, h⟩
theorem lcJ (Wk : WalkOf J Rl xs) (Pv : Nat → Hp → Prop) (h0 : Pv 0 (upd H1 D (.lst []))) (hl : ∀ i H, i ≤ xs.length → Pv i H → Rl H)
    (hs : ∀ i x H, xs[i]? = some x → Pv i H → g x (wipe σ vs) H fun σ2 H2 => wipe σ2 vs = wipe σ vs ∧ tt σ2 H2 fun b H3 =>
      if b = true then te σ2 H3 fun y H4 => ∃ acc, H4 D = some (.lst acc) ∧ acc.length < sizeLine ∧ Pv (i + 1) (upd H4 D (.lst (acc ++ [y]))) else Pv (i + 1) H3)
    (hd : ∀ H, Pv xs.length H → Qd H) : LcJ J g tt te vs σ H1 D Qd := by
  refine ⟨fun i m H => m = xs.length - i ∧ i ≤ xs.length ∧ Pv i H, ⟨xs.length, rfl, Nat.zero_le _, h0⟩, ?_⟩
  intro i m H hW
  obtain ⟨em, hi, p⟩ := hW
  obtain ⟨w1, w2, w3⟩ := Wk H (hl i H hi p)
  by_cases hlt : i < xs.length
  · refine .inr ⟨w1 i hlt, Pv (i + 1), fun H' p' => ⟨xs.length - (i + 1), by omega, rfl, hlt, p'⟩, fun x H' y => ?_⟩
    obtain ⟨e, y⟩ := w2 i x H' hlt y
    rw [e]
    exact hs i x H y p
  · have e : i = xs.length := by omega
    rw [e] at p
    exact .inl ⟨w3 i (by omega), hd H p⟩
theorem frJ (Wk : WalkOf J Rl xs) (Pv : Nat → L2.St → Hp → Prop) (h0 : Pv 0 σ H) (hl : ∀ i σ H, i ≤ xs.length → Pv i σ H → Rl H)
    (hs : ∀ i x σ H, xs[i]? = some x → Pv i σ H → g x σ H fun σ2 H2 => tb ⟨Pv (i + 1), rt, nx, Pv (i + 1)⟩ σ2 H2)
    (hd : ∀ σ H, Pv xs.length σ H → nx σ H) : FrJ J g tb ⟨nx, rt, bk, ct⟩ σ H := by
  refine ⟨fun i m σ H => m = xs.length - i ∧ i ≤ xs.length ∧ Pv i σ H, ⟨xs.length, rfl, Nat.zero_le _, h0⟩, ?_⟩
  intro i m σ H hW
  obtain ⟨em, hi, p⟩ := hW
  obtain ⟨w1, w2, w3⟩ := Wk H (hl i σ H hi p)
  by_cases hlt : i < xs.length
  · refine .inr ⟨w1 i hlt, Pv (i + 1), fun σ' H' p' => ⟨xs.length - (i + 1), by omega, rfl, hlt, p'⟩, fun x H' y => ?_⟩
    obtain ⟨e, y⟩ := w2 i x H' hlt y
    rw [e]
    exact hs i x σ H y p
  · have e : i = xs.length := by omega
    rw [e] at p
    exact .inl ⟨w3 i (by omega), hd σ H p⟩
theorem lcM (Wk : WalkOf J Rl xs) (hR : ∀ H, Same H1 H → Rl H) (nD : H1 D = none) (hn : xs.length ≤ 1000000) (keep : V → Bool) (f : V → V)
    (hs : ∀ x ∈ xs, ∀ H, Same H1 H → wipe ((wipe σ vs).set j (some x)) vs = wipe σ vs ∧ (∀ B : Bool → Hp → Prop, (∀ H', Same H H' → B (keep x) H') → tt ((wipe σ vs).set j (some x)) H B) ∧
      (keep x = true → ∀ H' (R : VK), Same H H' → (∀ H'', Same H' H'' → R (f x) H'') → te ((wipe σ vs).set j (some x)) H' R))
    (hd : ∀ H', Same H1 H' → H' D = some (.lst ((xs.filter keep).map f)) → Qd H') : LcJ J (gName j) tt te vs σ H1 D Qd := by
  refine lcJ Wk (fun i H => Same H1 H ∧ H D = some (.lst (((xs.take i).filter keep).map f))) ⟨same_new nD, by rw [upd_same]; rfl⟩ (fun i H _ p => hR H p.1) (fun i x H hx p => ?_) (fun H p => ?_)
  · obtain ⟨sm, e⟩ := p
    obtain ⟨h1, h2, h3⟩ := hs x (List.mem_of_getElem? hx) H sm
    refine ⟨h1, h2 _ fun H' s2 => ?_⟩
    have et : xs.take (i + 1) = xs.take i ++ [x] := by rw [List.take_add_one, hx]; rfl
    have hk : ∀ b, keep x = b → if b = true then te ((wipe σ vs).set j (some x)) H' fun y H4 => ∃ acc, H4 D = some (.lst acc) ∧ acc.length < sizeLine ∧ (Same H1 (upd H4 D (.lst (acc ++ [y]))) ∧ (upd H4 D (.lst (acc ++ [y]))) D = some (.lst (((xs.take (i + 1)).filter keep).map f)))
        else (Same H1 H' ∧ H' D = some (.lst (((xs.take (i + 1)).filter keep).map f))) := fun b hb => by
      cases b with
      | true =>
        refine iteT (h3 hb H' _ s2 fun H'' s3 => ?_)
        have eD : H'' D = some _ := s3 _ _ (s2 _ _ e)
        refine ⟨_, eD, ?_, fun b o eb => ?_, ?_⟩
        · refine lt_line ?_
          rw [List.length_map]
          have q1 := List.length_filter_le keep (xs.take i)
          rw [List.length_take] at q1
          omega
        · rw [upd_ne (ne_of_none eb nD)]
          exact s3 _ _ (s2 _ _ (sm _ _ eb))
        · rw [upd_same, et, List.filter_append, List.map_append, List.filter_cons, hb]
          rfl
      | false =>
        refine iteF ⟨sm.trans s2, ?_⟩
        rw [et, List.filter_append, List.map_append, List.filter_cons, hb, s2 _ _ e]
        simp
    exact hk (keep x) rfl
  · rw [List.take_length] at p
    exact hd H p.1 p.2
theorem lcM1 (Wk : WalkOf J Rl xs) (hR : ∀ H, Same H1 H → Rl H) (nD : H1 D = none) (hn : xs.length ≤ 1000000) (f : V → V)
    (hs : ∀ x ∈ xs, ∀ H (R : VK), Same H1 H → (∀ H'', Same H H'' → R (f x) H'') → wipe ((wipe σ vs).set j (some x)) vs = wipe σ vs ∧ te ((wipe σ vs).set j (some x)) H R)
    (hd : ∀ H', Same H1 H' → H' D = some (.lst (xs.map f)) → Qd H') : LcJ J (gName j) tYes te vs σ H1 D Qd := by
  refine lcM Wk hR nD hn (fun _ => true) f (fun x hx H sm => ⟨(hs x hx H (fun _ _ => True) sm fun _ _ => trivial).1, fun B h => h H (Same.refl H), fun _ H' R s2 q => (hs x hx H' R (sm.trans s2) q).2⟩) (fun H' sm e => hd H' sm ?_)
  rw [e, List.filter_eq_self.mpr fun _ _ => rfl]
theorem pe_kS {X : Cx} {x z : Str} {p : Pos} (hg : Gl X x) (hm : ∃ t, X.mg x = some (.str z t)) (hd : (x == ("__debug__" : Str)) = false := by decide) : PE X (.Name x p) (tC (.str z)) := by
  obtain ⟨t, e⟩ := hm
  exact pe_glob hg e ⟨t, rfl⟩ hd
theorem pe_kI {X : Cx} {x : Str} {z : Int} {p : Pos} (hg : Gl X x) (hm : ∃ t, X.mg x = some (.int z t)) (hd : (x == ("__debug__" : Str)) = false := by decide) : PE X (.Name x p) (tC (.int z)) := by
  obtain ⟨t, e⟩ := hm
  exact pe_glob hg e ⟨t, rfl⟩ hd
theorem rd_gTup {v : Addr} {gs : TGs} {QG : L2.St → Hp → Prop} (c : SqT K H v xs) (e : xs.length = n) (h : gs xs σ H QG) : gTup K n gs (.ref v) σ H QG := ⟨v, xs, rfl, c, e, h⟩
theorem rd_gCons {v : V} {r : List V} {gs : TGs} {QG : L2.St → Hp → Prop} (h : g v σ H fun σ' H' => gs r σ' H' QG) : gCons g gs (v :: r) σ H QG := ⟨v, r, rfl, h⟩
theorem rd_gNil {QG : L2.St → Hp → Prop} (h : QG σ H) : gNil [] σ H QG := ⟨rfl, h⟩
theorem rd_tix {tb : TE} (h : ta σ H fun x H1 => ∃ (p : Addr) (ys : List Str), x = .ref p ∧ Tk H1 p (ys.map V.str) ∧ tb σ H1 fun y H2 => ∃ (z : Str) (j : Nat), y = .str z ∧ Tk H2 p (ys.map V.str) ∧
  ys[j]? = some z ∧ (∀ m, m < j → ys[m]? ≠ some z) ∧ Q (.int (j : Nat)) H2) : zTIx ta tb σ H Q := h
end
/-! ### beginnings -/
theorem starts_tl (x y : Str) : Txt.startswith x y = ((tl x).take y.length == tl y) := by
  unfold Txt.startswith
  rw [StrLaws.subAt_eq, List.drop_zero]
  by_cases h : ((tl x).take y.length == tl y) = true
  · have e : (tl x).take y.length = tl y := eq_of_beq h
    have l := congrArg List.length e
    rw [List.length_take, ← len_tl, ← len_tl] at l
    rw [h, Bool.and_true]
    exact decide_eq_true (by omega)
  · rw [Bool.not_eq_true] at h
    rw [h, Bool.and_false]
theorem tl_cutTo (x : Str) (k : Nat) : tl (cutS x none (some (k : Int))) = (tl x).take k := by
  unfold cutS
  rw [tl_mk, HT.sIx_nat, HT.sIx_none, Nat.sub_zero, List.drop_zero]
  have e : x.length = (tl x).length := len_tl x
  rw [e]
  by_cases h : k ≤ (tl x).length
  · rw [Nat.min_eq_left h]
  · rw [Nat.min_eq_right (by omega), List.take_of_length_le (Nat.le_refl _), List.take_of_length_le (by omega)]
theorem tl_cutFrom (x : Str) (k : Nat) : tl (cutS x (some (k : Int)) none) = (tl x).drop k := by
  unfold cutS
  rw [tl_mk, HT.sIx_nat, HT.sIx_none]
  have e : x.length = (tl x).length := len_tl x
  rw [e]
  by_cases h : k ≤ (tl x).length
  · rw [Nat.min_eq_left h]
    exact List.take_of_length_le (by rw [List.length_drop]; exact Nat.le_refl _)
  · rw [Nat.min_eq_right (by omega), Nat.sub_self, List.take_zero]
    exact (List.drop_of_length_le (by omega)).symm
theorem len_at : (Str.ofString "@").length = 1 := by rw [len_of]; rfl
theorem len_tr : (Str.ofString "Received: by ").length = 13 := by rw [len_of]; rfl
theorem len_rec : (Str.ofString "Recipient: ").length = 11 := by rw [len_of]; rfl
theorem len_rea : (Str.ofString "Reason: ").length = 8 := by rw [len_of]; rfl
theorem len_lt : (Str.ofString "<").length = 1 := by rw [len_of]; rfl
theorem len_gt : (Str.ofString ">").length = 1 := by rw [len_of]; rfl
theorem len_mk (l : List Nat) : (⟨l.toArray⟩ : Str).length = l.length := by rw [len_tl]
theorem len_1 (c : Nat) : (⟨#[c]⟩ : Str).length = 1 := rfl
theorem take_none {ls : List Str} {z : Str} (h : z ∉ ls) : ls.takeWhile (fun x => !decide (x = z)) = ls := by
  induction ls with
  | nil => rfl
  | cons x xs ih =>
    have hx : ¬ x = z := fun e => h (e ▸ List.mem_cons_self)
    rw [List.takeWhile_cons, decide_eq_false hx, Bool.not_false, if_pos rfl, ih fun m => h (List.mem_cons_of_mem _ m)]
theorem take_at {z : Str} : ∀ {ls : List Str}, z ∈ ls → ∃ j, j < ls.length ∧ ls[j]? = some z ∧ (∀ m, m < j → ls[m]? ≠ some z) ∧ ls.takeWhile (fun x => !decide (x = z)) = ls.take j
  | [], h => nomatch h
  | x :: xs, h => by
    by_cases e : x = z
    · refine ⟨0, Nat.succ_pos _, by rw [e]; rfl, fun m hm => absurd hm (Nat.not_lt_zero m), ?_⟩
      rw [List.takeWhile_cons, decide_eq_true e, Bool.not_true, if_neg Bool.false_ne_true, List.take_zero]
    · obtain ⟨j, h1, h2, h3, h4⟩ := take_at (ls := xs) (by
        rcases List.mem_cons.mp h with q | q
        · exact absurd q.symm e
        · exact q)
      refine ⟨j + 1, Nat.succ_lt_succ h1, h2, fun m hm => ?_, ?_⟩
      · cases m with
        | zero => exact fun q => e (Option.some.inj q)
        | succ m => exact h3 m (Nat.lt_of_succ_lt_succ hm)
      · rw [List.takeWhile_cons, decide_eq_false e, Bool.not_false, if_pos rfl, h4, List.take_succ_cons]
theorem rd_slTto {K : PySem.W.Frag} {p : Addr} {xs : List V} {k : Nat} {H : Hp} {Q : VK} (c : SqT K H p xs) (hk : k < xs.length) (h : ∀ q, H q = none → Q (.ref q) (upd H q (.tup (xs.take k)))) : rSlT K (.ref p) none (some (k : Int)) H Q := by
  refine ⟨p, xs, rfl, c, fun z => ?_, fun q n => ?_⟩
  · have z2 := z.2
    rw [HT.sIx_nat] at z2
    omega
  · have e : cutV xs none (some (k : Int)) = xs.take k := by
      unfold cutV
      rw [HT.sIx_nat, HT.sIx_none, Nat.sub_zero, List.drop_zero, Nat.min_eq_left (by omega)]
    rw [e]
    exact h q n
theorem same_tup {K : PySem.W.Frag} {H H' : Hp} {a : Addr} {xs : List V} (e : Same H H') (h : SqT K H a xs) : SqT K H' a xs := by
  rcases h with (h | ⟨o, h⟩) | h
  · exact .inl (.inl (e _ _ h))
  · exact .inl (.inr ⟨o, e _ _ h⟩)
  · exact .inr h
theorem rd_iNT {A B : Prop} (h : B) : if (!true) = true then A else B := iteF h
theorem rd_iNF {A B : Prop} (h : A) : if (!false) = true then A else B := iteT h
theorem k_str {mg : Str → Option Value} {x y z : Str} {t : Tok} (a : mg x = some (.str z t)) (e : z = y) : ∃ t, mg x = some (.str y t) := ⟨t, by rw [a, e]⟩
theorem k_int {mg : Str → Option Value} {x : Str} {y z : Int} {t : Tok} (a : mg x = some (.int z t)) (e : z = y) : ∃ t, mg x = some (.int y t) := ⟨t, by rw [a, e]⟩
section
open PySem.Froz
/-! ### sets of texts, made of a tuple, then sorted -/
section
variable {P : Program} {w : World} {A : Around} {E : Value → Shared → Prop} {s : Shared}
/-- the set's payload D holds the texts l, each once; its places rise -/
structure TxS (P : Program) (w : World) (D : SD) (l : List Str) : Prop where
  ok : TxOk P w D l
  nd : l.Nodup
  ris : Ris D.2.2.place.toList
  led : w.params.followText "set-order" = true ∨ D.2.2.led = true
theorem tail_ris {ep : Nat} {es1 : Array (Int × Value)} {t2 : SetTable} {wd : Bool} (h : Ris t2.place.toList) : Ris (tailTx ep es1 t2 wd).2.2.place.toList := by
  unfold tailTx
  split
  · exact relayAll_ris _ _ _
  · exact h
theorem tail_led {ep : Nat} {es1 : Array (Int × Value)} {t2 : SetTable} {wd : Bool} (h : t2.led = true) : (tailTx ep es1 t2 wd).2.2.led = true := by
  unfold tailTx
  split
  · exact (relayAll_led _ _ _).trans h
  · exact h
theorem TxS.add {D : SD} {l : List Str} {k : Str} (T : TxS P w D l) (u : Tok) (hk : k ∉ l) : TxS P w (addTx (hashStr w k) (.str k u) D) (k :: l) := by
  refine ⟨add_ok u T.ok, List.nodup_cons.mpr ⟨hk, T.nd⟩, ?_, ?_⟩
  · have r1 := layNew_ris D.2.2 D.1 (hashStr w k) (.str k u) T.ris
    unfold addTx
    refine tail_ris ?_
    split
    · exact r1
    · exact r1
  · rcases T.led with h | h
    · exact .inl h
    · have r2 := (layNew_led D.2.2 D.1 (hashStr w k) (.str k u)).trans h
      refine .inr ?_
      unfold addTx
      refine tail_led ?_
      split
      · exact r2
      · exact r2
/-- a text that is there is not added again -/
theorem dup_x {a : Addr} {D : SD} {l : List Str} {k : Str} {u : Tok} {Q : Bool → Shared → Prop} (ho : s.heap.get? a = some (sObj "set" D)) (F : TxOk P w D l) (hk : k ∈ l) (hb : l.length < scanBound) (h : Q false s) :
    wpAny (model P w) A (setAddHashed a (.str k u) (hashStr w k)) Q E s := by
  have hsize : D.1.size < scanBound := by rw [F.sz]; exact hb
  have hthere : List.findIdx? (fun e => (PySem.strKind P w).is k e.2) D.1.toList ≠ none := fun c => by
    obtain ⟨e, he, q⟩ := (F.mem k).mp hk
    have := List.findIdx?_eq_none_iff.mp c e he
    rw [q] at this
    exact Bool.noConfusion this
  unfold setAddHashed
  refine wpAny_holding ?_
  unfold setAddHashedIn
  refine wpAny_bind (wpAny_setState_of ho (show (sObj "set" D).data = .set D.1 D.2.1 D.2.2 from rfl) F.fit ?_)
  dsimp only
  rw [byScan_of (show (Value.str k u).scannable = true from rfl) hsize F.el, if_pos rfl]
  unfold setAddByScan
  refine wpAny_bind (wpAny_bind (wpAny_rule (wpAny_bind (wpAny_setScan_of (knd := PySem.strKind P w) (k := k) (is_str k u) ho rfl F.fit F.el ?_))))
  cases hf : List.findIdx? (fun e => (PySem.strKind P w).is k e.2) D.1.toList with
  | none => exact absurd hf hthere
  | some j =>
    dsimp only
    exact wpAny_pure (wpAny_pure h)
/-- what the set's object is after i turns -/
def SetAfter (P : Program) (w : World) (xs : List Str) (i : Nat) (o : Obj) : Prop := ∃ D l, o = sObj "set" D ∧ TxS P w D l ∧ l.length ≤ i ∧ ∀ x, x ∈ l ↔ x ∈ xs.take i
theorem SetAfter.step {xs : List Str} {i : Nat} {o : Obj} {a : Addr} {k : Str} {u : Tok} {Q : Bool → Shared → Prop} (J : SetAfter P w xs i o) (ho : s.heap.get? a = some o) (hx : xs[i]? = some k) (hb : xs.length + 1 < scanBound)
    (q : ∀ b h' o', Heap.SameBut a s.heap h' → h'.get? a = some o' → SetAfter P w xs (i + 1) o' → Q b { s with heap := h', toks := s.toks + 1 }) : wpAny (model P w) A (setAdd a (.str k u)) Q E s := by
  obtain ⟨D, l, rfl, T, hl, hm⟩ := J
  have hi : i < xs.length := (List.getElem?_eq_some_iff.mp hx).1
  have et : xs.take (i + 1) = xs.take i ++ [k] := by rw [List.take_add_one, hx]; rfl
  unfold setAdd
  refine wpAny_holding (wpAny_bind ((PySem.strKind P w).pyHash (k := k) (is_str k u) ?_))
  by_cases hk : k ∈ l
  · refine dup_x (s := { s with toks := s.toks + 1 }) ho T.ok hk (by omega) ?_
    refine q false s.heap _ (Heap.SameBut.refl a s.heap) ho ⟨D, l, rfl, T, by omega, fun x => ?_⟩
    rw [et, List.mem_append, hm x, List.mem_singleton]
    exact ⟨.inl, fun z => z.elim id fun e => e ▸ (hm k).mp hk⟩
  · refine add_x (s := { s with toks := s.toks + 1 }) ho T.ok hk (by omega) ?_
    refine q true _ (sObj "set" (addTx (hashStr w k) (.str k u) D)) ?_ (get_upd _ ho rfl) ⟨_, k :: l, rfl, T.add u hk, by rw [List.length_cons]; omega, fun x => ?_⟩
    · exact ⟨by simp [Heap.update], fun b hbn => Heap.get?_update_other _ _ (Ne.symm hbn)⟩
    · rw [et, List.mem_append, List.mem_cons, hm x, List.mem_singleton]
      exact Or.comm
/-- the loop that fills the set, the items read one by one -/
theorem fill_loop {I S : Addr} {fp wr : List Addr} {G : Array GenState → Array GenState → Prop} {n : Nat} {Pv : Nat → Value → Prop} {St : Nat → Shared → Prop} {R : Result → Shared → Prop} {xs : List Str}
    (W : WalksS P w A.in1 I fp wr G n Pv St) (out : S ∉ fp) (len : xs.length = n) (room : xs.length + 1 < scanBound) (val : ∀ i v, Pv i v → ∃ k t, xs[i]? = some k ∧ v = .str k t)
    (fin : ∀ s' o, Moved (S :: wr) G s s' → s'.heap.get? S = some o → SetAfter P w xs n o → R (.ok (.ret .none)) s') :
    ∀ (d i : Nat) (s1 : Shared) (o : Obj), i + d = n → St i s1 → s1.heap.get? S = some o → SetAfter P w xs i o → Moved (S :: wr) G s s1 → codeAny (model P w) A (.builtin "set.update.loop" ⟨[.ref S, .ref I], []⟩) R s1 := by
  have nw : S ∉ wr := fun h => out (W.sub S h)
  have up : ∀ b ∈ wr, b ∈ S :: wr := fun _ h => .tail _ h
  intro d
  induction d with
  | zero =>
    intro i s1 o hi st ho J mv
    obtain rfl : i = n := by omega
    refine codeAny_builtin F.entry_set_update_loop ?_
    rw [Around.under_plainId F.plain_set_update_loop _]
    refine wpAny_bind (m := pyNext (.ref I)) (W.done s1 _ _ st fun s2 m2 => ?_)
    exact wpAny_pure (fin s2 o (Moved.trans W.gtrans mv (m2.mono up)) (m2.heap S o nw ho) J)
  | succ d ih =>
    intro i s1 o hi st ho J mv
    refine codeAny_builtin F.entry_set_update_loop ?_
    rw [Around.under_plainId F.plain_set_update_loop _]
    refine wpAny_bind (m := pyNext (.ref I)) (W.item i s1 _ _ (by omega) st fun v s2 hv st2 m2 => ?_)
    obtain ⟨k, tk, ek, rfl⟩ := val i v hv
    refine wpAny_bind (m := holding [Value.str k tk] (setAdd S (.str k tk))) (wpAny_holding ?_)
    refine J.step (m2.heap S o nw ho) ek room fun b h3 o3 sb ho3 J3 => ?_
    refine wpAny_pure ⟨plainId_quiet F.plain_set_update_loop _, ih (i + 1) _ o3 (by omega) (W.frame _ s2 _ _ st2 (Nat.le_succ _) fun c hc u hu => ?_) ho3 J3 ?_⟩
    · rw [sb.2 c (fun z => out (z ▸ hc))]
      exact hu
    · refine Moved.trans W.gtrans mv ((m2.mono up).then_heap (Nat.le_succ _) fun c u hc hu => ?_)
      rw [sb.2 c (fun z => hc (z ▸ .head _))]
      exact hu
/-- an empty set's object -/
abbrev set0 (w : World) : Obj := { cls := .type "set", dict := none, data := .set #[] 0 (.fresh 0 0 (!w.params.followText "set-order")) }
theorem set0_after (P : Program) (w : World) (xs : List Str) : SetAfter P w xs 0 (set0 w) := by
  refine ⟨(#[], 0, .fresh 0 0 (!w.params.followText "set-order")), [], rfl, ⟨.nil rfl, List.nodup_nil, List.Pairwise.nil, ?_⟩, Nat.le_refl 0, fun x => by simp⟩
  show _ ∨ (!w.params.followText "set-order") = true
  cases w.params.followText "set-order"
  · exact .inr rfl
  · exact .inl rfl
set_option maxHeartbeats 3200000 in
theorem set_of_tup {l : Addr} {items : Array Value} {xs : List Str} {Q : Value → Shared → Prop} (quiet : A.handled = none) (tup : s.heap.IsTuple l items) (txt : StrsAre items.toList xs) (room : xs.length + 1 < scanBound)
    (q : ∀ h' tk o, h'.get? s.heap.objs.size = some o → SetAfter P w xs xs.length o → (∀ b u, s.heap.get? b = some u → h'.get? b = some u) → Q (.ref s.heap.objs.size) { s with heap := h', toks := tk }) :
    wpAny (model P w) A (call (.type "set") [.ref l]) Q E s := by
  have len : items.size = xs.length := by
    have e := txt.strs
    rw [← e, List.length_map, Array.length_toList]
  obtain ⟨c, tl, hmro⟩ := F.called_set.mro
  have b1 := F.called_set.made
  have b2 := F.called_set.sub
  have b3 := F.called_set.notType
  have b4 := F.called_set.canCreate
  have b5 := F.typeCall_set_1 (.ref l)
  have at0 : (s.heap.push (set0 w)).get? s.heap.objs.size = some (set0 w) := Heap.get?_push_size _ rfl
  have ty0 : Shared.TypeIs { s with heap := s.heap.push (set0 w) } (.ref s.heap.objs.size) "set" := ⟨_, at0, rfl⟩
  refine wpAny_call (codeAny_of_tree ?_)
  show wpAny _ _ (callAny (.type "set") _) _ _ _
  refine wpAny_pure ⟨Code.quiet_builtin _ (by decide +kernel), codeAny_builtin F.entry_type_call ?_⟩
  rw [Around.under_plain (weight_type_call_type "set" [.ref l] []) rfl]
  repeat any_goals first | assumption | wp_step
  refine codeAny_mono (code_set_led1 (.ref l) (E := E) (Q₁ := fun v s1 => v = .ref s.heap.objs.size ∧ s1 = { s with heap := s.heap.push (set0 w) }) ⟨rfl, rfl⟩) fun r s1 hr => ?_
  cases r with
  | error e => exact hr
  | ok fl => cases fl with
    | ret v =>
      obtain ⟨rfl, rfl⟩ := hr
      have b6 := F.called_set.init.lookup
      have b7 := F.called_set.init.bind (.ref s.heap.objs.size)
      repeat any_goals first | assumption | wp_step
      refine codeAny_mono (codeAny_call_builtin (R := wants (fun v s2 => v = .none ∧ ∃ h' tk o, s2 = { s with heap := h', toks := tk } ∧ h'.get? s.heap.objs.size = some o ∧ SetAfter P w xs xs.length o ∧ ∀ b u, s.heap.get? b = some u → h'.get? b = some u) E) F.called_set.init.plain F.entry_set_init (check_set_init_1 ty0 ?_)) fun r2 s2 h2 => ?_
      · have tup1 := tup.push (set0 w)
        obtain ⟨⟨oc, od, odt, osl⟩, ho, hc, n0, hd⟩ := tup1
        simp only at hc hd
        subst hc hd
        have c1 := F.sub_tuple_set
        have c2 := F.sub_tuple_frozenset
        have c3 : (Value.type "tuple" == Value.type "dict") = false := by decide
        unfold Builtin.«set.__init__» noKeywords Builtin.Frozenset.updateFrom
        generalize hp : pyIter = PI
        wp_walk
        subst hp
        refine wpAny_pyIter_tuple (tup.push (set0 w)) ?_
        refine wpAny_bind (wpAny_runValue ?_)
        have lt0 : l < s.heap.objs.size := Heap.lt_size (tup.choose_spec.1)
        have sz : (s.heap.push (set0 w)).objs.size = s.heap.objs.size + 1 := Heap.size_push ..
        have ne1 : l ≠ (s.heap.push (set0 w)).objs.size := by rw [sz]; exact Nat.ne_of_lt (Nat.lt_succ_of_lt lt0)
        have out1 : s.heap.objs.size ∉ [(s.heap.push (set0 w)).objs.size, l] := by
          simp only [List.mem_cons, List.not_mem_nil, or_false, not_or]
          exact ⟨by omega, Nat.ne_of_gt lt0⟩
        have val1 : ∀ (i : Nat) (v : Value), items[i]? = some v → ∃ k tk, xs[i]? = some k ∧ v = .str k tk := fun i v hv => by
          have hi : i < xs.length := by
            have := (Array.getElem?_eq_some_iff.mp hv).1
            omega
          obtain ⟨tk, e⟩ := SS.strs_at txt i v (by rw [Array.getElem?_toList]; exact hv)
          exact ⟨xs[i], tk, List.getElem?_eq_getElem hi, by rw [e, List.getD_eq_getElem?_getD, List.getElem?_eq_getElem hi]; rfl⟩
        refine fill_loop (xs := xs) (s := { s with heap := (s.heap.push (set0 w)).push { cls := .type "tuple_iterator", data := .fields #[.ref l, .int 0 0] } }) ((Walks.tuple (by simp [quiet]) _ l ne1 items).toS) out1 len.symm room val1 (fun s' o mv ho J => ?_) items.size 0 _ (set0 w) (by omega) ⟨⟨_, Heap.get?_push_size _ rfl, rfl, rfl⟩, (tup.push _).push _⟩ (Heap.get?_push_of_some _ at0) (set0_after P w xs) ?_
        · obtain ⟨h', g2, d2, tk, os2⟩ := s'
          have e1 : g2 = s.gens := mv.gens
          have e2 : d2 = s.drawn := mv.drawn
          have e3 : os2 = s.os := mv.os
          subst e1 e2 e3
          rw [len] at J
          refine wpAny_pure (wpAny_pure ⟨rfl, h', tk, o, rfl, ho, J, fun b u hb => ?_⟩)
          have lt2 := Heap.lt_size hb
          refine mv.heap b u ?_ (Heap.get?_push_of_some _ (Heap.get?_push_of_some _ hb))
          rw [sz]
          simp only [List.mem_cons, List.not_mem_nil, or_false, not_or]
          exact ⟨Nat.ne_of_lt lt2, Nat.ne_of_lt (Nat.lt_succ_of_lt lt2)⟩
        · exact ⟨fun _ _ _ h => h, rfl, rfl, rfl, Nat.le_refl _⟩
      · cases r2 with
        | error e => exact h2
        | ok f2 => cases f2 with
          | ret v =>
            obtain ⟨rfl, h', tk, o, rfl, ho, J, old⟩ := h2
            repeat any_goals first | assumption | wp_step
            exact q h' tk o ho J old
          | _ => exact h2.elim
    | _ => exact hr.elim
end
end
/-! ### str.maketrans and translate -/
theorem va_app (k' k : Int) (v : Value) : ∀ kvs : List (Int × Value), (∀ kv ∈ kvs, kv.1 ≠ k) → valueAt (kvs ++ [(k, v)]) k' = if k' = k then some v else valueAt kvs k'
  | [], _ => by
    by_cases e : k' = k
    · simp [valueAt, e]
    · have e' : ¬ k = k' := fun q => e q.symm
      simp [valueAt, e, e']
  | kv :: r, h => by
    have ih := va_app k' k v r fun x hx => h x (List.mem_cons_of_mem _ hx)
    unfold valueAt at ih ⊢
    rw [List.cons_append, List.find?_cons, List.find?_cons]
    by_cases e : kv.1 = k'
    · have ne : ¬ k' = k := fun q => h kv List.mem_cons_self (e.trans q)
      rw [decide_eq_true e, if_neg ne]
    · rw [decide_eq_false e]
      exact ih
def Tab (ps : List (Nat × Nat)) (kvs : List (Int × Value)) : Prop := ∀ c : Nat, match ps.lookup c with
  | some d => ∃ t, valueAt kvs (c : Int) = some (.int (d : Int) t)
  | none => valueAt kvs (c : Int) = none
section
variable {prog : Program} {w : World} {A : Around} {E : Value → Shared → Prop} {s : Shared}
theorem mt_run {a b : Str} {t u : Tok} {Q : Value → Shared → Prop} (hl : a.length = b.length) (hz : a.length ≤ 1000) (nd : ((tl a).zip (tl b)).Pairwise fun p q => p.1 ≠ q.1)
    (h : ∀ h' k kvs, h'.DictOf (intKind prog w) s.heap.objs.size kvs → Tab ((tl a).zip (tl b)).reverse kvs → (∀ b o, s.heap.get? b = some o → h'.get? b = some o) → Q (.ref s.heap.objs.size) { s with heap := h', toks := k }) :
    wpAny (model prog w) A (Builtin.«str.maketrans» ⟨[.str a t, .str b u], []⟩) (fun fin s' => ∃ v, fin = .done (.ret v) ∧ Q v s') E s := by
  unfold Builtin.«str.maketrans»
  refine wpAny_bind (wpAny_of_eq (a := ()) (by first | rfl | kernel_rfl) ?_)
  refine wpAny_bind (wpAny_of_eq (a := ()) (by first | rfl | kernel_rfl) ?_)
  refine wpAny_bind (wpAny_of_eq (a := some b) (by first | rfl | kernel_rfl) ?_)
  refine wpAny_bind (wpAny_of_eq (a := none) (by first | rfl | kernel_rfl) ?_)
  refine wpAny_bind (wpAny_newObj_type ?_)
  dsimp only
  refine wpAny_bind (wpAny_holding ?_)
  refine wpAny_bind (wpAny_of_eq (a := some a) rfl ?_)
  dsimp only
  rw [show (a.length != b.length) = false by rw [hl]; simp, if_neg Bool.false_ne_true]
  refine wpAny_bind (wpAny_forIn_list _ (fun rest _ s' => ∃ past h' k kvs, (tl a).zip (tl b) = past ++ rest ∧ kvs.length ≤ past.length ∧ (∀ kv ∈ kvs, ∃ p ∈ past, kv.1 = (p.1 : Int)) ∧ h'.DictOf (intKind prog w) s.heap.objs.size kvs ∧ Tab past.reverse kvs ∧
    (∀ b o, s.heap.get? b = some o → h'.get? b = some o) ∧ s' = { s with heap := h', toks := k }) _ ?turn ?fin _ _ ?start)
  case start =>
    refine ⟨[], s.heap.push { cls := .type "dict", data := .dict #[] }, s.toks, [], rfl, Nat.zero_le _, fun _ hk => (nomatch hk), ?_, fun c => rfl, fun b o e => Heap.get?_push_of_some _ e, rfl⟩
    exact Heap.DictOf.new (knd := intKind prog w) s.heap
  case turn =>
    rintro ⟨x, y⟩ rest _ s' ⟨past, h', k, kvs, e1, e2, e3, e4, e5, e6, rfl⟩
    dsimp only
    refine wpAny_bind (wpAny_mkInt (wpAny_bind (wpAny_mkInt (wpAny_bind (wpAny_dictSet_pairs (knd := intKind prog w) (k := (x : Int)) (intKind_is prog w _ _) e4 (fun h2 hd hsb => wpAny_pure ?_) ?_)))))
    · have no : ∀ kv ∈ kvs, kv.1 ≠ (x : Int) := fun kv hkv e => by
        obtain ⟨p, hp, e'⟩ := e3 kv hkv
        rw [e1] at nd
        have := (List.pairwise_append.mp nd).2.2 p hp (x, y) List.mem_cons_self
        exact this (by
          have e2 : p.1 = x := by omega
          exact e2)
      have est : stored kvs (x : Int) (.int (y : Int) (k + 1)) = kvs ++ [((x : Int), .int (y : Int) (k + 1))] := by
        unfold stored
        rw [if_neg]
        intro hh
        obtain ⟨kv, hkv, e⟩ := List.any_eq_true.mp hh
        exact no kv hkv (of_decide_eq_true e)
      rw [est] at hd
      refine ⟨past ++ [(x, y)], h2, _, _, by rw [e1, List.append_assoc]; rfl, by rw [List.length_append, List.length_append]; exact Nat.succ_le_succ e2, fun kv hkv => ?_, hd, fun c => ?_, fun b o e => ?_, rfl⟩
      · rcases List.mem_append.mp hkv with q | q
        · obtain ⟨p, hp, e'⟩ := e3 kv q
          exact ⟨p, List.mem_append_left _ hp, e'⟩
        · exact ⟨(x, y), List.mem_append_right _ List.mem_cons_self, by rw [List.mem_singleton.mp q]⟩
      · rw [List.reverse_append]
        have t5 := e5 c
        show match List.lookup c ((x, y) :: past.reverse) with | some d => _ | none => _
        rw [List.lookup_cons, va_app _ _ _ _ no]
        by_cases e : c = x
        · rw [e, beq_self_eq_true, if_pos rfl]
          exact ⟨_, rfl⟩
        · have ec : (c == x) = false := beq_eq_false_iff_ne.mpr e
          rw [ec, if_neg (show ¬ (c : Int) = (x : Int) by omega)]
          exact t5
      · have nb : b ≠ s.heap.objs.size := fun q => by
          rw [q, Heap.get?_none_of_le (Nat.le_refl _)] at e
          cases e
        exact (hsb.2 b nb).trans (e6 b o e)
    · have hlen := congrArg List.length e1
      rw [List.length_zip, List.length_append, ← len_tl, ← len_tl] at hlen
      exact line_of (by omega)
  case fin =>
    rintro _ s' ⟨past, h', k, kvs, e1, e2, e3, e4, e5, e6, rfl⟩
    rw [List.append_nil] at e1
    refine wpAny_bind ?_
    refine wpAny_of_eq (a := PUnit.unit) (by first | rfl | kernel_rfl) ?_
    refine wpAny_pure ?_
    refine wpAny_pure ⟨_, rfl, ?_⟩
    rw [← e1] at e5
    exact h h' k kvs e4 e5 e6
theorem mt_entry : entryFor table "str.maketrans" = some Builtin.«str.maketrans» := entryFor_of_tree (by kernel_rfl)
theorem mt_plain : plainId "str.maketrans" = true := by decide +kernel
theorem mt_check {x y : Value} : checkBuiltinCall "str.maketrans" ⟨[x, y], []⟩ = pure () := by first | kernel_rfl | rfl
theorem call_mt {a b : Str} {t u : Tok} {Q : Value → Shared → Prop} (hl : a.length = b.length) (hz : a.length ≤ 1000) (nd : ((tl a).zip (tl b)).Pairwise fun p q => p.1 ≠ q.1)
    (h : ∀ h' k kvs, h'.DictOf (intKind prog w) s.heap.objs.size kvs → Tab ((tl a).zip (tl b)).reverse kvs → (∀ b o, s.heap.get? b = some o → h'.get? b = some o) → Q (.ref s.heap.objs.size) { s with heap := h', toks := k }) :
    wpAny (model prog w) A (call (.builtin "str.maketrans") [.str a t, .str b u]) Q E s := by
  refine wpAny_call (codeAny_call_builtin mt_plain mt_entry (wpAny_of_eq mt_check ?_))
  refine wpAny_mono (mt_run hl hz nd h) (fun fin s' hf => ?_) fun _ _ x => x
  obtain ⟨v, rfl, q⟩ := hf
  exact q
theorem cls_mt (K : PySem.W.Frag) : PySem.W.findCls K (.type "str") (.type "type") (Str.ofString "maketrans") = some (.val (.builtin "str.maketrans")) := by first | kernel_rfl | rfl
theorem get_mt {K : PySem.W.Frag} {pl : Sem Bool} {Q : Value × List Value → Shared → Prop} (X : K.In s.heap) (h : Q (.builtin "str.maketrans", []) { s with toks := s.toks + 1 }) :
    wpAny (model prog w) A (getMethod (.type "str") (Str.ofString "maketrans") pl) Q E s := by
  have h0 : opaqueClassAbove (.type "str") = pure none := by
    unfold opaqueClassAbove
    dsimp only
    rw [show Manifest.isStub "str" = false by decide +kernel]
    all_goals rfl
  have h1 : typeOf (.type "str") = pure (.type "type") := by first | rfl | kernel_rfl
  have hg : PySem.W.findIn K (.type "type") "__getattribute__" = some (some (.builtin "type.__getattribute__")) := PySem.W.type_tga
  unfold getMethod specialOf
  refine wpAny_bind (wpAny_bind ((PySem.W.Looks.of_pure h1).here ((PySem.W.looks_findIn X hg).here ?_)))
  dsimp only
  rw [if_pos PySem.W.canon_tga]
  refine wpAny_bind (wpAny_mono (Q := fun v => Q (v, [])) (E := E) ?_ (fun _ _ z => wpAny_pure z) fun _ _ z => z)
  refine PySem.W.cls_open X (PySem.W.Looks.of_pure h0) (PySem.W.Looks.of_pure h1) hg (PySem.W.looks_hook X (r := none) (by rfl)) (by show PySem.W.subIn K _ _ = _; rfl) (cls_mt K) ?_
  exact wpAny_pure (wpAny_pure h)
def mapd (ps : List (Nat × Nat)) (c : Nat) : Builtin.Str.Mapped := match ps.lookup c with
  | some e => .char e
  | none => .keep
def tr1 (ps : List (Nat × Nat)) (c : Nat) : Nat := (ps.lookup c).getD c
theorem look_one {d : Addr} {c : Nat} {ps : List (Nat × Nat)} {kvs : List (Int × Value)} {Q : Builtin.Str.Mapped → Shared → Prop} (hh : A.handled = none) (hd : (d == sysModules) = false) (hm : s.heap.DictOf (intKind prog w) d kvs) (hk : Tab ps kvs) (hb : ∀ e, ps.lookup c = some e → e < 128)
    (h : ∀ h' k, (∀ b o, s.heap.get? b = some o → h'.get? b = some o) → Q (mapd ps c) { s with heap := h', toks := k }) : wpAny (model prog w) A (Builtin.Str.tableLookup (.ref d) c) Q E s := by
  unfold Builtin.Str.tableLookup
  refine wpAny_bind (wpAny_attempt (wpAny_bind (wpAny_mkInt ?_)))
  have hc := hk c
  unfold mapd at h
  cases el : ps.lookup c with
  | some e =>
    rw [el] at hc h
    obtain ⟨t, hv⟩ := hc
    have he := hb e el
    refine wpAny_getItem_of (knd := intKind prog w) (k := (c : Int)) (intKind_is prog w _ _) hm.mapOf hv ?_
    dsimp only
    refine wpAny_bind (wpAny_of_eq (a := some (e : Int)) rfl ?_)
    dsimp only
    rw [if_neg (by
      rw [Bool.or_eq_true, decide_eq_true_iff, decide_eq_true_iff]
      omega)]
    exact wpAny_pure (h s.heap _ fun _ _ q => q)
  | none =>
    rw [el] at hc h
    refine wpAny_getItem_missing_of (knd := intKind prog w) (k := (c : Int)) (intKind_is prog w _ _) hd hh hm.mapOf hc fun h' e hx => ?_
    obtain ⟨ob, t, ho, hcl, _⟩ := hx.there
    dsimp only
    refine wpAny_bind (wpAny_isInstance (T := "KeyError") (b := true) ⟨ob, ho, hcl⟩ (by first | rfl | kernel_rfl) ?_)
    rw [if_pos rfl]
    exact wpAny_bind (wpAny_rule (wpAny_pure (h h' _ hx.keeps)))
end
theorem glue (f : Nat → Nat) : ∀ (l : List Nat) (acc : Array Nat), List.foldl (fun acc (p : Str) => acc ++ p.cps) acc (l.map fun c => (⟨#[f c]⟩ : Str)) = acc ++ (l.map f).toArray
  | [], acc => (Array.append_empty).symm
  | c :: l, acc => by
    rw [List.map_cons, List.foldl_cons, glue f l]
    apply Array.toList_inj.mp
    simp
def TrI (ps : List (Nat × Nat)) (x : List Nat) (f0 : Bool) (s : Shared) (rest : List Nat) (st : List Str × Nat × Bool × List (Nat × Option Nat) × Bool) (s' : Shared) : Prop :=
  ∃ (past : List Nat) (out : List Str) (kn : List (Nat × Option Nat)) (h' : Heap) (k : Nat), x = past ++ rest ∧ st = (out, past.length, f0, kn, false) ∧ out.reverse = past.map (fun c => (⟨#[tr1 ps c]⟩ : Str)) ∧
    (∀ c v, List.lookup c kn = some v → v = some (tr1 ps c)) ∧ s' = { s with heap := h', toks := k } ∧ ∀ b o, s.heap.get? b = some o → h'.get? b = some o
theorem TrI.go {ps : List (Nat × Nat)} {x rest past : List Nat} {f0 : Bool} {s : Shared} {c e : Nat} {out : List Str} {kn : List (Nat × Option Nat)} {h' : Heap} {k : Nat} (h1 : x = past ++ c :: rest) (he : e = tr1 ps c)
    (h3 : out.reverse = past.map (fun c => (⟨#[tr1 ps c]⟩ : Str))) (h4 : ∀ c v, List.lookup c kn = some v → v = some (tr1 ps c)) (h6 : ∀ b o, s.heap.get? b = some o → h'.get? b = some o) :
    TrI ps x f0 s rest (⟨#[e]⟩ :: out, past.length + 1, f0, kn, false) { s with heap := h', toks := k } := by
  refine ⟨past ++ [c], ⟨#[e]⟩ :: out, kn, h', k, by rw [h1, List.append_assoc]; rfl, by rw [List.length_append]; rfl, ?_, h4, rfl, h6⟩
  rw [List.reverse_cons, h3, List.map_append, he]
  rfl
theorem tr_run {prog : Program} {w : World} {A : Around} {E : Value → Shared → Prop} {s : Shared} {z : Str} {t : Tok} {d : Addr} {ps : List (Nat × Nat)} {kvs : List (Int × Value)} {Q : Value → Shared → Prop} (hh : A.handled = none) (hd : (d == sysModules) = false) (hz : z.length ≤ 100000)
    (hm : s.heap.DictOf (intKind prog w) d kvs) (hk : Tab ps kvs) (hb : ∀ c e, ps.lookup c = some e → e < 128)
    (h : ∀ h' k t', (∀ b o, s.heap.get? b = some o → h'.get? b = some o) → Q (.str ⟨((tl z).map (tr1 ps)).toArray⟩ t') { s with heap := h', toks := k }) :
    wpAny (model prog w) A (Builtin.«str.translate» ⟨[.str z t, .ref d], []⟩) (fun fin s' => ∃ v, fin = .done (.ret v) ∧ Q v s') E s := by
  unfold Builtin.«str.translate»
  refine wpAny_bind (wpAny_of_eq (a := (.str z t, z, .ref d)) (by first | rfl | kernel_rfl) ?_)
  dsimp only
  by_cases h0 : (z.length == 0) = true
  · rw [if_pos h0]
    have ez : tl z = [] := List.eq_nil_of_length_eq_zero (by rw [← len_tl]; exact eq_of_beq h0)
    have ez2 : z = ⟨((tl z).map (tr1 ps)).toArray⟩ := ext_tl (by
      show tl z = (tl z).map (tr1 ps)
      rw [ez]
      rfl)
    refine wpAny_bind (wpAny_rule ?_)
    refine wpAny_bind (wpAny_of_eq (a := .str z t) (by first | rfl | kernel_rfl) ?_)
    refine wpAny_pure ⟨_, rfl, ?_⟩
    have q := h s.heap s.toks t fun _ _ q => q
    rw [← ez2] at q
    exact q
  · rw [if_neg h0]
    generalize (z.cps.all fun y => decide (y < 128)) = f0
    refine wpAny_bind (MeetsSeq2.wpAny_forIn_array _ (TrI ps (tl z) f0 s) _ (fun c rest st s' hI => ?turn) (fun st s' hI => ?fin) z.cps ([], 0, f0, [], false) ?start)
    case start => exact ⟨[], [], [], s.heap, s.toks, rfl, rfl, rfl, fun c v q => (nomatch q), rfl, fun _ _ q => q⟩
    case turn =>
      obtain ⟨past, out, kn, h', k, e1, rfl, e3, e4, rfl, e6⟩ := hI
      have hp : past.length ≤ 100000 := by
        have q := congrArg List.length e1
        rw [List.length_append, ← len_tl] at q
        omega
      have hm' : Heap.DictOf (intKind prog w) h' d kvs := hm.keep e6
      dsimp only
      rw [show Builtin.Str.tooLong past.length = false from PyProof.Rows.short24 (by omega), if_neg Bool.false_ne_true]
      have lk : ∀ (kk : Nat) (R : Builtin.Str.Mapped → Shared → Prop), (∀ h2 k2, (∀ b o, s.heap.get? b = some o → h2.get? b = some o) → R (mapd ps c) { s with heap := h2, toks := k2 }) →
          wpAny (model prog w) A (Builtin.Str.tableLookup (.ref d) c) R E { s with heap := h', toks := k } := fun kk R hR =>
        look_one hh hd hm' hk (hb c) fun h2 k2 q => hR h2 k2 fun b o e => q b o (e6 b o e)
      have new : ∀ v, v = some (tr1 ps c) → ∀ c' v', List.lookup c' ((c, v) :: kn) = some v' → v' = some (tr1 ps c') := fun v hv c' v' q => by
        rw [List.lookup_cons] at q
        by_cases e : c' = c
        · rw [e, beq_self_eq_true] at q
          rw [← Option.some.inj q, hv, e]
        · rw [beq_eq_false_iff_ne.mpr e] at q
          exact e4 c' v' q
      cases f0 with
      | true =>
        rw [if_pos rfl]
        cases hl : List.lookup c kn with
        | some v =>
          have hv := e4 c v hl
          subst hv
          dsimp only
          refine wpAny_bind (wpAny_pure ?_)
          exact wpAny_pure (TrI.go e1 rfl e3 e4 e6)
        | none =>
          dsimp only
          cases el : ps.lookup c with
          | some e =>
            have et : e = tr1 ps c := by unfold tr1; rw [el]; rfl
            have eb := hb c e el
            refine wpAny_bind (lk k _ fun h2 k2 q => ?_)
            rw [show mapd ps c = .char e by unfold mapd; rw [el]]
            dsimp only
            rw [if_pos eb]
            dsimp only
            refine wpAny_bind (wpAny_pure ?_)
            exact wpAny_pure (TrI.go e1 et e3 (new _ (by rw [et])) q)
          | none =>
            have et : c = tr1 ps c := by unfold tr1; rw [el]; rfl
            refine wpAny_bind (lk k _ fun h2 k2 q => ?_)
            rw [show mapd ps c = .keep by unfold mapd; rw [el]]
            dsimp only
            refine wpAny_bind (wpAny_pure ?_)
            exact wpAny_pure (TrI.go e1 et e3 (new _ (by rw [← et])) q)
      | false =>
        rw [if_neg Bool.false_ne_true, if_neg Bool.false_ne_true]
        cases el : ps.lookup c with
        | some e =>
          have et : e = tr1 ps c := by unfold tr1; rw [el]; rfl
          refine wpAny_bind (lk k _ fun h2 k2 q => ?_)
          rw [show mapd ps c = .char e by unfold mapd; rw [el]]
          exact wpAny_pure (TrI.go e1 et e3 e4 q)
        | none =>
          have et : c = tr1 ps c := by unfold tr1; rw [el]; rfl
          refine wpAny_bind (lk k _ fun h2 k2 q => ?_)
          rw [show mapd ps c = .keep by unfold mapd; rw [el]]
          exact wpAny_pure (TrI.go e1 et e3 e4 q)
    case fin =>
      obtain ⟨past, out, kn, h', k, e1, rfl, e3, e4, rfl, e6⟩ := hI
      rw [List.append_nil] at e1
      have hp : past.length ≤ 100000 := by
        have q := congrArg List.length e1
        rw [← len_tl] at q
        omega
      dsimp only
      rw [show Builtin.Str.tooLong past.length = false from PyProof.Rows.short24 (by omega), if_neg Bool.false_ne_true, e3, glue (tr1 ps), Array.empty_append, ← e1]
      refine wpAny_bind (wpAny_mkStr (wpAny_pure ⟨_, rfl, h _ _ _ e6⟩) ?_)
      rw [len_tl, tl_mk, List.length_map, ← len_tl]
      exact line_of (by omega)
def TabO (prog : Program) (w : World) (ps : List (Nat × Nat)) (p : Addr) : HO := .ext fun h => (p == sysModules) = false ∧ ∃ kvs, h.DictOf (intKind prog w) p kvs ∧ Tab ps kvs
section
variable {X : Cx}
def zMk (P : Program) (w : World) (ps : List (Nat × Nat)) : TE := fun _ H Q => ∀ p, H p = none → Q (.ref p) (upd H p (TabO P w ps p))
theorem y_mk {a b : Str} {p apos pos p1 p2 : Pos} {j1 j2} {pl : Sem Bool} (hg : Gl X "str") (hm : X.mg "str" = none) (hl : a.length = b.length) (hz : a.length ≤ 1000) (nd : ((tl a).zip (tl b)).Pairwise fun p q => p.1 ≠ q.1)
    (he : eval (.Call (.Attribute (.Name "str" p) "maketrans" apos) [.Constant (.str a) j1 p1, .Constant (.str b) j2 p2] [] pos) X.env = (do
      let ov ← eval (.Name "str" p) X.env
      standAt apos.atName
      let (f, first) ← holding [ov] (getMethod ov "maketrans" pl)
      callWith pos f first (backTo pos (starEach [.Constant (.str a) j1 p1, .Constant (.str b) j2 p2] X.env)) (backToKw pos (keywordEach [] X.env))) := by rfl)
    (hpl : (backTo pos (starEach [.Constant (.str a) j1 p1, .Constant (.str b) j2 p2] X.env)).any (·.1) = false := by rfl) :
    PE X (.Call (.Attribute (.Name "str" p) "maketrans" apos) [.Constant (.str a) j1 p1, .Constant (.str b) j2 p2] [] pos) (zMk X.prog X.w ((tl a).zip (tl b)).reverse) := by
  refine ⟨fun pins s σ H Q I h => ?_⟩
  refine PySem.W.methodCall_KW (ld_blt I hg hm PyProof.Rows.boot_str ?_ (by decide) (by decide)) he
  refine get_mt I.kIn ?_
  have I1 : Inv X pins σ H { s with toks := s.toks + 1 } := I.tok _
  have ha : PA X [.Constant (.str a) j1 p1, .Constant (.str b) j2 p2] (tCons (tC (.str a)) (tCons (tC (.str b)) tNil)) := pa_cons pe_str (pa_cons pe_str pa_nil)
  refine Calls.callWith_builtin hpl (Calls.evalArgs_plain ?_)
  refine thn (ha.run pos pins _ σ H (fun vs H' => vs = [.str a, .str b] ∧ H' = H) I1 ⟨rfl, rfl⟩) fun us s2 ⟨vs, H2, I2, rv, ev, eh⟩ => ?_
  subst ev eh
  obtain ⟨u1, u2, rfl, ⟨t1, rfl⟩, ⟨t2, rfl⟩⟩ := rv.two
  refine call_mt hl hz nd fun h' k kvs hd ht kp => ?_
  have hsys : (s2.heap.objs.size == sysModules) = false := beq_eq_false_iff_ne.mpr (Ne.symm (Nat.ne_of_lt I2.big))
  refine ⟨.ref s2.heap.objs.size, _, I2.laid (t' := k) (o := TabO X.prog X.w ((tl a).zip (tl b)).reverse s2.heap.objs.size) kp (Nat.le_refl _) ?_, rfl, h _ I2.fresh⟩
  refine ⟨⟨hsys, kvs, hd, ht⟩, ?_, fun h1 h2 f1 kk => ?_⟩
  · obtain ⟨o, es, ep, ho, _⟩ := hd
    exact ⟨o, ho⟩
  · obtain ⟨g1, kvs', ⟨o, es, ep, ho, r⟩, g3⟩ := f1
    exact ⟨g1, kvs', ⟨o, es, ep, kk _ ho, r⟩, g3⟩
def zTr (P : Program) (w : World) : V → List V → Hp → VK → Prop := fun x xs H Q => ∃ (z : Str) (d : Addr) (ps : List (Nat × Nat)), x = .str z ∧ xs = [V.ref d] ∧ H d = some (TabO P w ps d) ∧ z.length ≤ 100000 ∧ (∀ c e, ps.lookup c = some e → e < 128) ∧ Q (.str ⟨((tl z).map (tr1 ps)).toArray⟩) H
theorem y_trans (hc : X.calm = true) : MtR X "str.translate" (zTr X.prog X.w) := by
  intro pins s σ H x xs v us Q I rx rs h
  obtain ⟨z, d, ps, rfl, rfl, ht, hz, hb, q⟩ := h
  obtain ⟨t, rfl⟩ := rx
  obtain ⟨u, rfl, ru⟩ := Vals.one rs
  cases ru
  obtain ⟨⟨hsys, kvs, hd, htab⟩, _⟩ := I.hok d _ ht
  refine wpAny_call_entry F.slot_str_translate (typeIs_str _ _ _) F.entry_str_translate ?_ (F.args_str_translate_2 _ _)
  refine tr_run (I.ok.hd hc) hsys hz hd htab hb fun h' k t' kp => ?_
  exact ⟨.str _, H, I.kept (t' := k) kp, ⟨t', rfl⟩, q⟩
end
/-! ### addresses on lists of signs -/
noncomputable def dc (P : Prop) : Bool := @decide P (Classical.propDecidable P)
theorem dc_iff {P : Prop} : dc P = true ↔ P := by
  unfold dc
  exact @decide_eq_true_iff P (Classical.propDecidable P)
theorem dc_of {P : Prop} {b : Bool} (h : b = true ↔ P) : b = dc P := Bool.eq_iff_iff.mpr (h.trans dc_iff.symm)
theorem dc_t {P : Prop} (h : P) : dc P = true := dc_iff.mpr h
theorem dc_f {P : Prop} (h : ¬ P) : dc P = false := by
  cases e : dc P with
  | false => rfl
  | true => exact absurd (dc_iff.mp e) h
abbrev locS : Str := Str.ofString "abcdefghijklmnopqrstuvwxyz0123456789.-_+"
abbrev labS : Str := Str.ofString "abcdefghijklmnopqrstuvwxyz0123456789-"
abbrev upS : Str := Str.ofString "ABCDEFGHIJKLMNOPQRSTUVWXYZ"
abbrev loS : Str := Str.ofString "abcdefghijklmnopqrstuvwxyz"
def DD (l : List Nat) : Prop := ∃ i : Nat, l[i]? = some 46 ∧ l[i + 1]? = some 46
def ConsOk (S : List Nat) (n : Nat) (l : List Nat) : Prop := 1 ≤ l.length ∧ l.length ≤ n ∧ ∀ c ∈ l, c ∈ S
def LabelOk (l : List Nat) : Prop := ConsOk (tl labS) 20 l ∧ l.head? ≠ some 45 ∧ l.getLast? ≠ some 45
def LocalOk (l : List Nat) : Prop := ConsOk (tl locS) 40 l ∧ l.head? ≠ some 46 ∧ l.getLast? ≠ some 46 ∧ ¬ DD l
def DomOk (l : List Nat) : Prop := l.length ≤ 80 ∧ ∀ p ∈ spl [46] 0 [] l, LabelOk p
theorem starts_one {x y : Str} {c : Nat} (hy : tl y = [c]) : Txt.startswith x y = decide ((tl x).head? = some c) := by
  rw [starts_tl, len_tl y, hy]
  cases tl x with
  | nil => rfl
  | cons a r =>
    by_cases e : a = c
    · simp [e]
    · simp [e]
theorem ends_one {x y : Str} {c : Nat} (hy : tl y = [c]) : Txt.endswith x y = decide ((tl x).getLast? = some c) := by
  unfold Txt.endswith
  rw [StrLaws.subAt_eq]
  show (decide (0 + y.length ≤ x.length) && (((tl x).drop (x.length - y.length)).take y.length == tl y)) = _
  rw [len_tl y, hy, len_tl x]
  show (decide (0 + 1 ≤ (tl x).length) && (((tl x).drop ((tl x).length - 1)).take 1 == [c])) = _
  rcases List.eq_nil_or_concat (tl x) with e | ⟨l, a, e⟩
  · rw [e]
    rfl
  · have e' : tl x = l ++ [a] := by rw [e]; simp
    rw [e', List.length_append, show l.length + [a].length - 1 = l.length from rfl, List.drop_left, List.getLast?_append]
    by_cases h : a = c
    · simp [h]
    · simp [h]
theorem dd_in {z y : Str} (hy : tl y = [46, 46]) : (!(Builtin.Str.occurrences z y 0 z.length 1).isEmpty) = true ↔ DD (tl z) := by
  rw [StrLaws.found_iff]
  have ly : y.length = 2 := by rw [len_tl, hy]; rfl
  constructor
  · rintro ⟨i, h1, h2⟩
    rw [StrLaws.subAt_eq, ly, beq_iff_eq] at h2
    have h3 : ((tl z).drop i).take 2 = [46, 46] := h2.trans hy
    rw [ly, len_tl] at h1
    refine ⟨i, ?_, ?_⟩
    · have q := congrArg (fun l => l[0]?) h3
      simp only [List.getElem?_take, List.getElem?_drop] at q
      simpa using q
    · have q := congrArg (fun l => l[1]?) h3
      simp only [List.getElem?_take, List.getElem?_drop] at q
      simpa using q
  · rintro ⟨i, h1, h2⟩
    obtain ⟨l1, g1⟩ := List.getElem?_eq_some_iff.mp h1
    obtain ⟨l2, g2⟩ := List.getElem?_eq_some_iff.mp h2
    refine ⟨i, by rw [ly, len_tl]; omega, ?_⟩
    rw [StrLaws.subAt_eq, ly, beq_iff_eq]
    show ((tl z).drop i).take 2 = tl y
    rw [hy, List.drop_eq_getElem_cons l1, List.drop_eq_getElem_cons l2, g1, g2]
    rfl
theorem rs_id {x y : Str} {l : List Nat} {c : Nat} (e : tl x = l ++ [c]) (h : y.cps.contains c = false) : Txt.rstripChars x y = x := by
  unfold Txt.rstripChars Txt.stripBy
  refine if_pos ?_
  unfold stripSame stripHi stripLo
  have e1 : ((x.cps.toList.drop 0).reverse.takeWhile y.cps.contains) = [] := by
    rw [List.drop_zero, show x.cps.toList = l ++ [c] from e, List.reverse_append]
    show List.takeWhile y.cps.contains (c :: l.reverse) = []
    rw [List.takeWhile_cons, h]
    rfl
  simp only [Bool.false_eq_true, if_false, if_true]
  rw [e1]
  simp
theorem cut_id {x : Str} {n : Nat} (h : x.length ≤ n) : cutS x none (some (n : Int)) = x := ext_tl (by
  rw [tl_cutTo]
  exact List.take_of_length_le (by rw [← len_tl]; exact h))
theorem tl_up : tl upS = (List.range 26).map (· + 65) := by rw [tl_ofString]; rfl
theorem tl_lo : tl loS = (List.range 26).map (· + 97) := by rw [tl_ofString]; rfl
def upL : List (Nat × Nat) := ((tl upS).zip (tl loS)).reverse
def upK : List (Nat × Nat) := (((List.range 26).map (· + 65)).zip ((List.range 26).map (· + 97))).reverse
theorem upL_eq : upL = upK := by unfold upL upK; rw [tl_up, tl_lo]
theorem up_len : upS.length = loS.length := by rw [len_tl, len_tl, tl_up, tl_lo]; rfl
theorem up_le : upS.length ≤ 1000 := by rw [len_tl, tl_up]; decide
theorem up_nd : ((tl upS).zip (tl loS)).Pairwise fun p q => p.1 ≠ q.1 := by rw [tl_up, tl_lo]; decide
theorem up_b : ∀ c e, upL.lookup c = some e → e < 128 := by
  rw [upL_eq]
  intro c e h
  have hm : ∀ p ∈ upK, p.2 < 128 := by decide
  have gen : ∀ l : List (Nat × Nat), (∀ p ∈ l, p.2 < 128) → l.lookup c = some e → e < 128 := by
    intro l
    induction l with
    | nil => intro _ h; cases h
    | cons p r ih =>
      intro hp h
      obtain ⟨a, b⟩ := p
      rw [List.lookup_cons] at h
      by_cases q : c = a
      · rw [q, beq_self_eq_true] at h
        cases h
        exact hp _ List.mem_cons_self
      · rw [beq_eq_false_iff_ne.mpr q] at h
        exact ih (fun p hp' => hp p (List.mem_cons_of_mem _ hp')) h
  exact gen upK hm h
def lowN (c : Nat) : Nat := if 65 ≤ c ∧ c ≤ 90 then c + 32 else c
theorem low_k : (List.range 128).all (fun c => tr1 upK c == lowN c) = true := by decide +kernel
theorem low_eq {c : Nat} (h : c < 128) : tr1 upL c = lowN c := by
  rw [upL_eq]
  exact eq_of_beq (List.all_eq_true.mp low_k c (List.mem_range.mpr h))
theorem upper_k : (List.range 128).all (fun c => (decide (65 ≤ c) && decide (c ≤ 90)) || (match (Txt.upper ⟨#[c]⟩).cps.toList with | [e] => decide (e < 128) && lowN e == c | _ => false)) = true := by decide +kernel
theorem upper_eq {c : Nat} (h : c < 128) (h2 : ¬ (65 ≤ c ∧ c ≤ 90)) : ∃ e, Txt.upper ⟨#[c]⟩ = ⟨#[e]⟩ ∧ e < 128 ∧ lowN e = c := by
  have q := List.all_eq_true.mp upper_k c (List.mem_range.mpr h)
  have h3 : (decide (65 ≤ c) && decide (c ≤ 90)) = false := by
    cases e : (decide (65 ≤ c) && decide (c ≤ 90)) with
    | false => rfl
    | true =>
      rw [Bool.and_eq_true, decide_eq_true_iff, decide_eq_true_iff] at e
      exact absurd e h2
  rw [h3, Bool.false_or] at q
  cases e : (Txt.upper ⟨#[c]⟩).cps.toList with
  | nil => rw [e] at q; cases q
  | cons a r =>
    cases r with
    | cons b r => rw [e] at q; cases q
    | nil =>
      rw [e] at q
      dsimp only at q
      rw [Bool.and_eq_true, decide_eq_true_iff, beq_iff_eq] at q
      exact ⟨a, ext_tl e, q.1, q.2⟩
theorem low_low {c : Nat} (h2 : ¬ (65 ≤ c ∧ c ≤ 90)) : lowN c = c := if_neg h2
abbrev enS : Str := Str.ofString "abcdefghijklmnopqrstuvwxyz0123456789-_+"
abbrev en2S : Str := Str.ofString "abcdefghijklmnopqrstuvwxyz0123456789"
theorem sub_k {a b : String} (h : a.toList.all (fun c => b.toList.contains c) = true) : ∀ c ∈ tl (Str.ofString a), c ∈ tl (Str.ofString b) := by
  intro c hc
  rw [tl_ofString] at hc ⊢
  obtain ⟨d, hd, rfl⟩ := List.mem_map.mp hc
  have q := List.all_eq_true.mp h d hd
  exact List.mem_map.mpr ⟨d, by simpa using q, rfl⟩
theorem nin_k {a : String} {n : Nat} (h : a.toList.all (fun c => decide (c.toNat ≠ n)) = true) : n ∉ tl (Str.ofString a) := by
  intro hc
  rw [tl_ofString] at hc
  obtain ⟨d, hd, e⟩ := List.mem_map.mp hc
  exact of_decide_eq_true (List.all_eq_true.mp h d hd) e
theorem en_loc : ∀ c ∈ tl enS, c ∈ tl locS := sub_k (by decide +kernel)
theorem en2_lab : ∀ c ∈ tl en2S, c ∈ tl labS := sub_k (by decide +kernel)
theorem dot_loc : 46 ∈ tl locS := by rw [tl_ofString]; decide +kernel
theorem dot_en : 46 ∉ tl enS := nin_k (by decide +kernel)
theorem dot_lab : 46 ∉ tl labS := nin_k (by decide +kernel)
theorem hy_en2 : 45 ∉ tl en2S := nin_k (by decide +kernel)
theorem at_loc : 64 ∉ tl locS := nin_k (by decide +kernel)
theorem at_lab : 64 ∉ tl labS := nin_k (by decide +kernel)
theorem asc_loc : Asc locS := asc_of (by decide +kernel)
theorem asc_lab : Asc labS := asc_of (by decide +kernel)
theorem noup_k {a : String} (h : a.toList.all (fun c => decide (¬ (65 ≤ c.toNat ∧ c.toNat ≤ 90))) = true) : ∀ c ∈ tl (Str.ofString a), ¬ (65 ≤ c ∧ c ≤ 90) := by
  intro c hc
  rw [tl_ofString] at hc
  obtain ⟨d, hd, rfl⟩ := List.mem_map.mp hc
  exact of_decide_eq_true (List.all_eq_true.mp h d hd)
theorem noup_loc : ∀ c ∈ tl locS, ¬ (65 ≤ c ∧ c ≤ 90) := noup_k (by decide +kernel)
theorem noup_lab : ∀ c ∈ tl labS, ¬ (65 ≤ c ∧ c ≤ 90) := noup_k (by decide +kernel)
/-- words with dots between -/
def Wd1 (p : List Nat) : Prop := p ≠ [] ∧ ∀ c ∈ p, c ∈ tl enS
def Gd (l : List Nat) : Prop := l ≠ [] ∧ l.head? ≠ some 46 ∧ l.getLast? ≠ some 46 ∧ ¬ DD l
theorem nodot {p : List Nat} (h : Wd1 p) {i : Nat} : p[i]? ≠ some 46 := fun e => dot_en (h.2 46 (List.mem_of_getElem? e))
theorem gd_one {p : List Nat} (h : Wd1 p) : Gd p := by
  refine ⟨h.1, fun e => ?_, fun e => ?_, fun ⟨i, e, _⟩ => nodot h e⟩
  · rw [List.head?_eq_getElem?] at e
    exact nodot h e
  · rw [List.getLast?_eq_getElem?] at e
    exact nodot h e
theorem gd_app {p q : List Nat} (h : Wd1 p) (g : Gd q) : Gd (p ++ 46 :: q) := by
  obtain ⟨g1, g2, g3, g4⟩ := g
  refine ⟨by simp, ?_, ?_, ?_⟩
  · cases p with
    | nil => exact absurd rfl h.1
    | cons a r =>
      intro e
      exact nodot h (i := 0) (by simpa using e)
  · rw [List.getLast?_append]
    cases q with
    | nil => exact absurd rfl g1
    | cons b r =>
      rw [List.getLast?_cons_cons]
      cases e : (b :: r).getLast? with
      | none => simp at e
      | some z =>
        rw [e] at g3
        simpa using g3
  · rintro ⟨i, e1, e2⟩
    by_cases h1 : i < p.length
    · rw [List.getElem?_append_left h1] at e1
      exact nodot h e1
    · rw [List.getElem?_append_right (by omega)] at e2
      rw [show i + 1 - p.length = (i - p.length) + 1 by omega, List.getElem?_cons_succ] at e2
      rw [List.getElem?_append_right (by omega)] at e1
      cases hk : i - p.length with
      | zero =>
        rw [hk] at e2
        rw [List.head?_eq_getElem?] at g2
        exact g2 e2
      | succ k =>
        rw [hk, List.getElem?_cons_succ] at e1
        rw [hk] at e2
        exact g4 ⟨k, e1, e2⟩
theorem gd_join : ∀ {ps : List (List Nat)}, ps ≠ [] → (∀ p ∈ ps, Wd1 p) → Gd (joinL [46] ps)
  | [], h, _ => absurd rfl h
  | [p], _, h => gd_one (h p (by simp))
  | p :: q :: r, _, h => gd_app (h p (by simp)) (gd_join (by simp) fun x hx => h x (List.mem_cons_of_mem _ hx))
def LocP (x : Str) : Prop := x.length ≤ 40 ∧ ∃ ps : List (List Nat), ps ≠ [] ∧ (∀ p ∈ ps, Wd1 p) ∧ tl x = joinL [46] ps
theorem LocP.ok {x : Str} (h : LocP x) : LocalOk (tl x) := by
  obtain ⟨hl, ps, hn, hp, e⟩ := h
  obtain ⟨g1, g2, g3, g4⟩ := gd_join hn hp
  rw [← e] at g1 g2 g3 g4
  refine ⟨⟨?_, by rw [← len_tl]; exact hl, fun c hc => ?_⟩, g2, g3, g4⟩
  · cases q : tl x with
    | nil => exact absurd q g1
    | cons _ _ => simp
  · rw [e] at hc
    rcases joinL_mem hc with q | ⟨p, hp', q⟩
    · rw [List.mem_singleton.mp q]
      exact dot_loc
    · exact en_loc c ((hp p hp').2 c q)
def LabP (p : List Nat) : Prop := ∃ c m c', p = c :: (m ++ [c']) ∧ c ∈ tl en2S ∧ c' ∈ tl en2S ∧ m.length ≤ 3 ∧ ∀ d ∈ m, d ∈ tl labS
theorem LabP.in {p : List Nat} (h : LabP p) : ∀ d ∈ p, d ∈ tl labS := by
  obtain ⟨c, m, c', rfl, hc, hc', hm, hd⟩ := h
  intro d q
  rcases List.mem_cons.mp q with rfl | q
  · exact en2_lab _ hc
  · rcases List.mem_append.mp q with q | q
    · exact hd d q
    · rw [List.mem_singleton.mp q]
      exact en2_lab _ hc'
theorem LabP.len {p : List Nat} (h : LabP p) : 2 ≤ p.length ∧ p.length ≤ 5 := by
  obtain ⟨c, m, c', rfl, hc, hc', hm, hd⟩ := h
  simp only [List.length_cons, List.length_append, List.length_nil]
  omega
theorem LabP.ok {p : List Nat} (h : LabP p) : LabelOk p := by
  have h1 := h.in
  have h2 := h.len
  obtain ⟨c, m, c', rfl, hc, hc', hm, hd⟩ := h
  refine ⟨⟨by omega, by omega, h1⟩, fun e => ?_, fun e => ?_⟩
  · exact hy_en2 (by rw [← Option.some.inj e]; exact hc)
  · rw [show c :: (m ++ [c']) = (c :: m) ++ [c'] from rfl, List.getLast?_append] at e
    have e2 : some c' = some 45 := by simpa using e
    exact hy_en2 (by rw [← Option.some.inj e2]; exact hc')
def DomP (x : Str) : Prop := x.length ≤ 40 ∧ ∃ ps : List (List Nat), ps ≠ [] ∧ (∀ p ∈ ps, LabP p) ∧ tl x = joinL [46] ps
theorem DomP.ok {x : Str} (h : DomP x) : DomOk (tl x) := by
  obtain ⟨hl, ps, hn, hp, e⟩ := h
  refine ⟨by rw [← len_tl]; omega, fun p q => ?_⟩
  rw [e, spl_join hn fun p hp' => fun m => dot_lab ((hp p hp').in 46 m)] at q
  exact (hp p q).ok
theorem join_end : ∀ {ps : List (List Nat)}, ps ≠ [] → joinL [46] (ps ++ [[]]) = joinL [46] ps ++ [46]
  | [], h => absurd rfl h
  | [p], _ => by simp [joinL]
  | p :: q :: r, _ => by
    have ih := join_end (ps := q :: r) (by simp)
    show p ++ ([46] ++ joinL [46] ((q :: r) ++ [[]])) = (p ++ ([46] ++ joinL [46] (q :: r))) ++ [46]
    rw [ih, List.append_assoc, List.append_assoc]
theorem DomP.dot {x : Str} (h : DomP x) : ¬ DomOk (tl x ++ [46]) := by
  obtain ⟨hl, ps, hn, hp, e⟩ := h
  intro hd
  have q := hd.2 []
  rw [e, ← join_end hn, spl_join (by simp) fun p hp' => ?_] at q
  · have := (q (by simp)).1.1
    exact absurd this (by decide)
  · rcases List.mem_append.mp hp' with m | m
    · exact fun z => dot_lab ((hp p m).in 46 z)
    · rw [List.mem_singleton.mp m]
      simp
theorem LocP.in {x : Str} (h : LocP x) : ∀ c ∈ tl x, c ∈ tl locS := h.ok.1.2.2
theorem DomP.in {x : Str} (h : DomP x) : ∀ c ∈ tl x, c = 46 ∨ c ∈ tl labS := by
  obtain ⟨hl, ps, hn, hp, e⟩ := h
  intro c hc
  rw [e] at hc
  rcases joinL_mem hc with q | ⟨p, hp', q⟩
  · exact .inl (List.mem_singleton.mp q)
  · exact .inr ((hp p hp').in c q)
theorem dot_con {c : Nat} (h : c ≠ 46) : (Str.ofString ".").cps.contains c = false := by
  cases e : (Str.ofString ".").cps.contains c with
  | false => rfl
  | true =>
    rw [Array.contains_iff_mem] at e
    have q : c ∈ tl (Str.ofString ".") := Array.mem_def.mp e
    rw [tl_dot] at q
    exact absurd (List.mem_singleton.mp q) h
theorem LocP.fix {x : Str} (h : LocP x) : Txt.rstripChars (cutS x none (some 40)) (Str.ofString ".") = x := by
  rw [show cutS x none (some 40) = x from cut_id (n := 40) h.1]
  obtain ⟨_, _, g3, _⟩ := h.ok
  rcases List.eq_nil_or_concat (tl x) with e | ⟨l, c, e⟩
  · have := h.ok.1.1
    rw [e] at this
    exact absurd this (by decide)
  · have e' : tl x = l ++ [c] := by rw [e]; simp
    refine rs_id e' (dot_con fun z => g3 ?_)
    rw [e', List.getLast?_append, z]
    rfl
theorem LocP.mk {xs : List Str} (hn : xs ≠ []) (hp : ∀ x ∈ xs, Wd1 (tl x)) (hl : (Txt.join (Str.ofString ".") xs).length ≤ 40) : LocP (Txt.join (Str.ofString ".") xs) :=
  ⟨hl, xs.map tl, fun e => hn (List.map_eq_nil_iff.mp e), fun p h => by
    obtain ⟨x, hx, rfl⟩ := List.mem_map.mp h
    exact hp x hx, by rw [tl_joined, tl_dot]⟩
theorem DomP.mk {xs : List Str} (hn : xs ≠ []) (hp : ∀ x ∈ xs, LabP (tl x)) (hl : (Txt.join (Str.ofString ".") xs).length ≤ 40) : DomP (Txt.join (Str.ofString ".") xs) :=
  ⟨hl, xs.map tl, fun e => hn (List.map_eq_nil_iff.mp e), fun p h => by
    obtain ⟨x, hx, rfl⟩ := List.mem_map.mp h
    exact hp x hx, by rw [tl_joined, tl_dot]⟩
def zUpper : V → List V → Hp → VK → Prop := fun x xs H Q => ∃ a, x = V.str a ∧ xs = [] ∧ a.length ≤ 5592405 ∧ Q (.str (Txt.upper a)) H
theorem y_upper {X : Cx} : MtR X "str.upper" zUpper := mt_upper
section
variable {σ : L2.St} {H H1 : Hp} {Q : VK} {K : PySem.W.Frag} {st sc a p D : Addr} {ns : List Int} {ta : TE} {x y : Str} {bs : List Bool} {P : Program} {w : World} {ps : List (Nat × Nat)} {J : It} {Rl : Hp → Prop} {xs : List V} {vs : List Nat} {te : TE} {j : Nat} {Qd : Hp → Prop} {tt : TT}
theorem rd_m0 {f : V → List V → Hp → VK → Prop} (h : ta σ H fun x H1 => wM x (f x [] H1 Q)) : tM0 f ta σ H Q := h
theorem rd_upper (h : Q (.str (Txt.upper x)) H) (c : x.length ≤ 1000) : zUpper (.str x) [] H Q := ⟨x, rfl, rfl, by omega, h⟩
theorem rd_mk (h : ∀ p, H p = none → Q (.ref p) (upd H p (TabO P w ps p))) : zMk P w ps σ H Q := h
theorem rd_tr (e : H p = some (TabO P w ps p)) (c : x.length ≤ 100000) (b : ∀ c e, ps.lookup c = some e → e < 128) (h : Q (.str ⟨((tl x).map (tr1 ps)).toArray⟩) H) : zTr P w (.str x) [.ref p] H Q := ⟨x, p, ps, rfl, rfl, e, c, b, h⟩
theorem rd_all (c : SqL K H a (bs.map V.bl)) (h : Q (.bl (bs.all id)) H) : rAll K [.ref a] H Q := ⟨a, bs, rfl, c, h⟩
theorem rd_any (c : SqL K H a (bs.map V.bl)) (h : Q (.bl (bs.any id)) H) : rAny K [.ref a] H Q := ⟨a, bs, rfl, c, h⟩
theorem rd_split (h : ∀ p, H p = none → Q (.ref p) (upd H p (.lst ((Txt.split x y).map V.str)))) (e : (y.length == 0) = false) (c : x.length ≤ 100000) : zSplit (.str x) [.str y] H Q := ⟨x, y, rfl, rfl, e, line_of (by omega), h⟩
theorem rd_parti (h : ∀ p, H p = none → Q (.ref p) (upd H p (.tup [.str (Txt.partition x y).1, .str (Txt.partition x y).2.1, .str (Txt.partition x y).2.2]))) (e : (y.length == 0) = false) (c : x.length ≤ 100000) : zPartition (.str x) [.str y] H Q := ⟨x, y, rfl, rfl, e, line_of (by omega), h⟩
theorem rd_ninS (h : Q (.bl (!(!(Builtin.Str.occurrences y x 0 y.length 1).isEmpty))) H) : zInS true (.str x) (.str y) H Q := ⟨x, y, rfl, rfl, h⟩
theorem rd_inS (h : Q (.bl (!(Builtin.Str.occurrences y x 0 y.length 1).isEmpty)) H) : zInS false (.str x) (.str y) H Q := ⟨x, y, rfl, rfl, h⟩
/-- a comprehension with draws, item by item -/
theorem lcD (Wk : WalkOf J (fun _ => True) xs) (W : Wd K st sc ns H1) (nD : H1 D = none) (hn : xs.length ≤ 100000) (G : V → V → Prop)
    (hs : ∀ x ∈ xs, ∀ H (R : VK), Wd K st sc ns H → Dr st H1 H → (∀ y H', Dr st H H' → G x y → R y H') → wipe ((wipe σ vs).set j (some x)) vs = wipe σ vs ∧ te ((wipe σ vs).set j (some x)) H R)
    (hd : ∀ H' ys, Dr st H1 H' → Wd K st sc ns H' → D ≠ st → H' D = some (.lst ys) → ys.length = xs.length → (∀ (k : Nat) x y, xs[k]? = some x → ys[k]? = some y → G x y) → Qd H') : LcJ J (gName j) tYes te vs σ H1 D Qd := by
  have nS : D ≠ st := W.1.ne nD
  refine lcJ Wk (fun i H => Dr st H1 H ∧ ∃ ys, H D = some (.lst ys) ∧ ys.length = i ∧ ∀ (k : Nat) x y, xs[k]? = some x → ys[k]? = some y → G x y) ⟨W.dr.new nD, [], upd_same, rfl, fun k x y _ h => by simp at h⟩ (fun _ _ _ _ => trivial) (fun i x H hx p => ?_) (fun H p => ?_)
  · obtain ⟨d, ys, e, el, eg⟩ := p
    have q := hs x (List.mem_of_getElem? hx) H (fun y H4 => ∃ acc, H4 D = some (.lst acc) ∧ acc.length < sizeLine ∧ (Dr st H1 (upd H4 D (.lst (acc ++ [y]))) ∧ ∃ ys, (upd H4 D (.lst (acc ++ [y]))) D = some (.lst ys) ∧ ys.length = i + 1 ∧ ∀ (k : Nat) x y, xs[k]? = some x → ys[k]? = some y → G x y)) (W.next d) d (fun y H' d' gy => by
      have e' : H' D = some (.lst ys) := d'.1 _ _ nS e
      have hi := (List.getElem?_eq_some_iff.mp hx).1
      refine ⟨ys, e', lt_line (by omega), Dr.put W.1 (d.trans d') nD, ys ++ [y], upd_same, by rw [List.length_append, el]; rfl, fun k x2 y2 hx2 hy2 => ?_⟩
      by_cases hk : k < ys.length
      · rw [List.getElem?_append_left hk] at hy2
        exact eg k x2 y2 hx2 hy2
      · have hk2 := (List.getElem?_eq_some_iff.mp hy2).1
        rw [List.length_append] at hk2
        have hk3 : k < ys.length + 1 := hk2
        have ek : k = i := by omega
        rw [ek, ← el, List.getElem?_append_right (Nat.le_refl _), Nat.sub_self] at hy2
        rw [ek, hx] at hx2
        rw [← Option.some.inj hx2, ← Option.some.inj hy2]
        exact gy)
    exact ⟨q.1, q.2⟩
  · obtain ⟨d, ys, e, el, eg⟩ := p
    exact hd H ys d (W.next d) nS e el eg
end
theorem all_id {α : Type} (l : List α) (p : α → Bool) : (l.map p).all id = l.all p := by
  induction l with
  | nil => rfl
  | cons a r ih => rw [List.map_cons, List.all_cons, List.all_cons, ih]; rfl
theorem low_map {l : List Nat} (h : ∀ c ∈ l, c < 128) : l.map (tr1 upL) = l.map lowN := List.map_congr_left fun c hc => low_eq (h c hc)
theorem low_id {l : List Nat} (h : ∀ c ∈ l, ¬ (65 ≤ c ∧ c ≤ 90)) : l.map lowN = l := by
  have e : l.map lowN = l.map id := List.map_congr_left fun c hc => low_low (h c hc)
  rw [e, List.map_id]
theorem len_dd : (Str.ofString "..").length = 2 := by rw [len_of]; rfl
theorem tl_dd : tl (Str.ofString "..") = [46, 46] := by rw [tl_ofString]; rfl
theorem tl_hy : tl (Str.ofString "-") = [45] := by rw [tl_ofString]; rfl
theorem tl_at : tl (Str.ofString "@") = [64] := by rw [tl_ofString]; rfl
theorem tl_lt : tl (Str.ofString "<") = [60] := by rw [tl_ofString]; rfl
theorem tl_gt : tl (Str.ofString ">") = [62] := by rw [tl_ofString]; rfl
theorem tl_ltgt : tl (Str.ofString "<>") = [60, 62] := by rw [tl_ofString]; rfl
theorem spl_len (s : Nat) : ∀ (l acc : List Nat), (spl [s] 0 acc l).length ≤ l.length + 1
  | [], acc => by rw [spl_nil]; exact Nat.le_refl _
  | c :: r, acc => by
    by_cases h : pre [s] (c :: r) = true
    · rw [spl_hit h, List.length_cons, List.length_cons]
      exact Nat.succ_le_succ (spl_len s r [])
    · rw [Bool.not_eq_true] at h
      rw [spl_miss h, List.length_cons]
      exact Nat.le_succ_of_le (spl_len s r _)
theorem spl_mem (s : Nat) : ∀ (l acc : List Nat), ∀ p ∈ spl [s] 0 acc l, p.length ≤ acc.length + l.length
  | [], acc, p, h => by
    rw [spl_nil] at h
    rw [List.mem_singleton.mp h]
    exact Nat.le_add_right _ _
  | c :: r, acc, p, h => by
    by_cases e : pre [s] (c :: r) = true
    · rw [spl_hit e] at h
      rcases List.mem_cons.mp h with rfl | h
      · exact Nat.le_add_right _ _
      · have q := spl_mem s r [] p h
        rw [List.length_nil, Nat.zero_add] at q
        rw [List.length_cons]
        omega
    · rw [Bool.not_eq_true] at e
      rw [spl_miss e] at h
      have q := spl_mem s r _ p h
      rw [List.length_append] at q
      rw [List.length_cons]
      have q2 : p.length ≤ acc.length + 1 + r.length := q
      omega
theorem split_dot (z : Str) : (Txt.split z (Str.ofString ".")).map tl = spl [46] 0 [] (tl z) := by
  rw [split_spl z _ (by rw [tl_dot]; exact List.cons_ne_nil _ _) (kind_ok (by decide +kernel)), tl_dot]
theorem split_at (z : Str) : (Txt.split z (Str.ofString "@")).map tl = spl [64] 0 [] (tl z) := by
  rw [split_spl z _ (by rw [tl_at]; exact List.cons_ne_nil _ _) (kind_ok (by decide +kernel)), tl_at]
/-! ### errors -/
structure ExT (K : PySem.W.Frag) (mg : Str → Option Value) (C M : Addr) : Prop where
  gC : mg "InvalidAddress" = some (.ref C)
  gM : mg "MailError" = some (.ref M)
  xC : PySem.W.excIn K C [.type "ValueError", .type "Exception", .type "BaseException", .type "object"] "ValueError.__new__" = true
  kC : PySem.W.keepIn K (.ref C) = true
  bC : PySem.W.subIn K (.ref C) (.type "BaseException") = some true
  tC : PySem.W.typeIn K (.ref C) = some (.type "type")
  sC : PySem.W.subIn K (.ref C) (.ref C) = some true
  kM : PySem.W.kitOne K (.ref C) (.ref M) = some true
  kV : PySem.W.kitOne K (.ref C) (.type "ValueError") = some true
  e : ExcC K C
theorem ExT.exm {K : PySem.W.Frag} {mg : Str → Option Value} {C M : Addr} (h : ExT K mg C M) : PySem.W.exmOne K (.ref C) (.ref C) = some true := PySem.W.exm_ref h.bC h.e.hd h.tC h.sC
theorem ok_mkX {P : Program} {w : World} {K : PySem.W.Frag} {mg : Str → Option Value} {base : Heap} {k : Nat} {x : Str} {st : Stmt} {ps N : List Str} {sp : Sp} (d : Dn K mg x st ps) (S : FnScope N ps (defScope st))
    (len : ∀ vs H Q E, sp vs H Q E → vs.length = ps.length)
    (hbody : ∀ (f : Addr) (cdv : Value) (A : Around) (outer : List Env) (s : Shared) (H : Hp) (vs : List V) (Q : VK) (E : XK), Room k (A.deeper (envOfC x (defScope st) s.heap.objs.size f cdv)) → sp vs H Q E →
      ∃ t, PSs (cxOf (L2.CX P w) P w K mg base N x (defScope st) f cdv A outer s H E) (defBody st) t ∧ t ⟨fun _ H' => Q .non H', Q, fun _ _ => False, fun _ _ => False⟩ (start N vs) H) : OkD P w K mg base (L2.CX P w) (k + 1) x ps sp := by
  obtain ⟨f, fd, m, F, b⟩ := d
  exact ⟨f, fd, m, F.kp, binds_of b, F.okX S len fun cdv A outer s H vs Q E hr h => hbody f cdv A outer s H vs Q E hr h⟩
section
variable {X : Cx} {K : PySem.W.Frag} {σ : L2.St} {H : Hp} {Q : VK} {nx bk ct : L2.St → Hp → Prop} {rt : VK} {ta : TE} {as : TA} {W : WX} {C a : Addr} {cls : Value} {d : Option Addr} {x y : Str} {i : Int} {k : Nat}
theorem pe_callDS {k : Nat} {x : Str} {ps : List Str} {sp : Sp} {t : TA} {e : Expr} {es : List Expr} {p pos : Pos} {E : L2.St → XK} (O : OkD X.prog X.w X.K X.mg X.base (L2.CX X.prog X.w) k x ps sp) (hr : Room k X.A) (hg : Gl X x) (hx : ∀ σ, PassesAt (L2.CX X.prog X.w) X σ (E σ)) (ha : PA X (e :: es) t)
    (hdb : (x == ("__debug__" : Str)) = false := by decide) (he : starEach (e :: es) X.env = (false, eval e X.env) :: starEach es X.env := by rfl) (hpl : (backTo pos (starEach es X.env)).any (·.1) = false := by rfl) :
    PE X (.Call (.Name x p) (e :: es) [] pos) (tCallS sp E t) := by
  obtain ⟨f, fd, m, kp, b, F⟩ := O
  exact pe_callS F hr hg m kp b hx ha hdb he hpl
theorem rd_callS {sp : Sp} {E : L2.St → XK} (h : as σ H fun vs H1 => sp vs H1 Q (E σ)) : tCallS sp E as σ H Q := h
def zRaise (C : Addr) (W : WX) (ta : TE) : TS := fun _ σ H => ta σ H fun _ H1 => W (.ref C) none σ H1
theorem y_raise {x : Str} {e : Expr} {p pos pos2 : Pos} (hc : X.calm = true) (tk : Takes X W) (q : PySem.W.excIn X.K C [.type "ValueError", .type "Exception", .type "BaseException", .type "object"] "ValueError.__new__" = true) (gC : X.mg x = some (.ref C)) (kC : PySem.W.keepIn X.K (.ref C) = true) (r : Raises X (.ref C)) (hg : Gl X x)
    (he : PE X e ta) (hs : starEach [e] X.env = (false, eval e X.env) :: starEach [] X.env := by rfl) (hdb : (x == ("__debug__" : Str)) = false := by decide) :
    PS X (.Raise (some (.Call (.Name x p) [e] [] pos)) none pos2) (zRaise C W ta) := ps_raise hc tk (SkE.pmk_own1 PySem.F.excBase_ValueError q gC kC r hg he hs hdb)
theorem rd_raise {D : Ends} (h : ta σ H fun _ H1 => W (.ref C) none σ H1) : zRaise C W ta D σ H := h
def zTryO (K : PySem.W.Frag) (c : Value) (tb : WX → TS) (ts : Addr → Value → Option Addr → TS) (Wout : WX) : TS := fun D σ H => tb (wOnly K c ts Wout D) D σ H
def zTryA (K : PySem.W.Frag) (c : Value) (i : Nat) (tb : WX → TS) (ts : Addr → Value → Option Addr → TS) (Wout : WX) : TS := fun D σ H => tb (wAs K c i ts Wout D) D σ H
theorem y_tryO {x : Str} {c : Value} {body suite : List Stmt} {b₀ : Stmt} {np pos pos' : Pos} {tb : WX → TS} {ts : Addr → Value → Option Addr → TS} {Wout : WX} (hs : X.stack = X.env :: X.outer) (hf : X.env.frame = some X.env.locals) (hc : Names X x c) (tk : Takes X Wout)
    (hb : ∀ (W : WX) (pn : List (Addr × Obj)) (xe : Value → Shared → Prop), Takes (X.tr pn xe) W → PassesOwn (model X.prog X.w) X.A X.env xe → PSs (X.tr pn xe) body (tb W))
    (hsu : ∀ (a : Addr) (oe : Obj) (cls : Value) (d : Option Addr) (pn : List (Addr × Obj)), Zc cls d oe → (∃ vs, oe.data = .fields vs) → PSs (X.suite a ((a, oe) :: pn)) (b₀ :: suite) (ts a cls d)) :
    PS X (.Try body [.ExceptHandler (some (.Name x np)) none (b₀ :: suite) pos'] [] [] pos) (zTryO X.K c tb ts Wout) := ps_try_only hs hf hc tk hb hsu
theorem y_tryA {x n : Str} {c : Value} {i : Nat} {body suite : List Stmt} {b₀ : Stmt} {np pos pos' : Pos} {tb : WX → TS} {ts : Addr → Value → Option Addr → TS} {Wout : WX} (hs : X.stack = X.env :: X.outer) (hf : X.env.frame = some X.env.locals) (hN : X.N.Nodup) (hi : X.N[i]? = some n) (hln : X.env.kindOf n = some .local) (hc : Names X x c) (tk : Takes X Wout)
    (hb : ∀ (W : WX) (pn : List (Addr × Obj)) (xe : Value → Shared → Prop), Takes (X.tr pn xe) W → PassesOwn (model X.prog X.w) X.A X.env xe → PSs (X.tr pn xe) body (tb W))
    (hsu : ∀ (a : Addr) (oe : Obj) (cls : Value) (d : Option Addr) (pn : List (Addr × Obj)), Zc cls d oe → (∃ vs, oe.data = .fields vs) → PSs (X.suite a ((a, oe) :: pn)) (b₀ :: suite) (ts a cls d)) :
    PS X (.Try body [.ExceptHandler (some (.Name x np)) (some n) (b₀ :: suite) pos'] [] [] pos) (zTryA X.K c i tb ts Wout) := ps_try_as hs hf hN hi hln hc tk hb hsu
theorem rd_tryO {c : Value} {tb : WX → TS} {ts : Addr → Value → Option Addr → TS} {Wout : WX} (h : tb (wOnly K c ts Wout ⟨nx, rt, bk, ct⟩) ⟨nx, rt, bk, ct⟩ σ H) : zTryO K c tb ts Wout ⟨nx, rt, bk, ct⟩ σ H := h
theorem rd_tryA {c : Value} {i : Nat} {tb : WX → TS} {ts : Addr → Value → Option Addr → TS} {Wout : WX} (h : tb (wAs K c i ts Wout ⟨nx, rt, bk, ct⟩) ⟨nx, rt, bk, ct⟩ σ H) : zTryA K c i tb ts Wout ⟨nx, rt, bk, ct⟩ σ H := h
def zIsE (K : PySem.W.Frag) (D a : Addr) (cls : Value) (d : Option Addr) : List V → Hp → VK → Prop := fun xs H Q => cls = .ref D ∧ d = Option.none ∧ rIsE K D a xs H Q
theorem y_isE {a D : Addr} {oe : Obj} {cls : Value} {d : Option Addr} {pn : List (Addr × Obj)} (C : ExcC X.K D) (hz : Zc cls d oe) (hf : ∃ vs, oe.data = .fields vs) : CallR (X.suite a ((a, oe) :: pn)) (.builtin "isinstance") (zIsE X.K D a cls d) := by
  intro pins s σ H xs us Q I r h
  obtain ⟨rfl, rfl, h⟩ := h
  exact call_isE C hz hf pins s σ H xs us Q I r h
def zSIx : V → List V → Hp → VK → Prop := fun x xs H Q => ∃ (a b : Str) (k : Nat), x = V.str a ∧ xs = [V.str b] ∧ Txt.index0 a b = some k ∧ Q (.int (k : Nat)) H
theorem y_sIx : MtR X "str.index" zSIx := by
  intro pins s σ H x xs v us Q I rx rs h
  obtain ⟨a, b, k, rfl, rfl, hk, q⟩ := h
  obtain ⟨t, rfl⟩ := rx
  obtain ⟨u1, rfl, u, rfl⟩ := Vals.one rs
  cases e : Builtin.Str.occurrences a b 0 a.length 1 with
  | nil =>
    unfold Txt.index0 at hk
    rw [e] at hk
    cases hk
  | cons j rest =>
    unfold Txt.index0 at hk
    rw [e] at hk
    cases hk
    exact PySem.SC.index e ⟨.int (k : Nat), H, I.tok _, ⟨_, rfl⟩, q⟩
theorem rd_sIx (e : Txt.index0 x y = some k) (h : Q (.int (k : Nat)) H) : zSIx (.str x) [.str y] H Q := ⟨x, y, k, rfl, rfl, e, h⟩
theorem rd_ixS {c : Nat} (e : atI (tl x) i = some c) (l : x.length ≤ 100000) (h : Q (.str ⟨#[c]⟩) H) : rIxS (.str x) (.int i) H Q := ⟨x, i, c, rfl, rfl, line_of (by omega), e, h⟩
end
theorem first_at {s : Nat} : ∀ {l : List Nat}, s ∈ l → ∃ p r, l = p ++ s :: r ∧ s ∉ p
  | [], h => nomatch h
  | c :: t, h => by
    by_cases e : c = s
    · exact ⟨[], t, by rw [e]; rfl, by simp⟩
    · have ht : s ∈ t := by
        rcases List.mem_cons.mp h with q | q
        · exact absurd q.symm e
        · exact q
      obtain ⟨p, r, e1, e2⟩ := first_at ht
      refine ⟨c :: p, r, by rw [e1]; rfl, fun m => ?_⟩
      rcases List.mem_cons.mp m with q | q
      · exact e q.symm
      · exact e2 q
theorem split_uni {s : Nat} : ∀ {p p' r r' : List Nat}, s ∉ p → s ∉ p' → p ++ s :: r = p' ++ s :: r' → p = p' ∧ r = r'
  | [], [], r, r', _, _, h => ⟨rfl, (List.cons.inj h).2⟩
  | [], c :: p', r, r', _, h2, h => absurd (by rw [(List.cons.inj h).1]; exact List.mem_cons_self) h2
  | c :: p, [], r, r', h1, _, h => absurd (by rw [← (List.cons.inj h).1]; exact List.mem_cons_self) h1
  | c :: p, c' :: p', r, r', h1, h2, h => by
    obtain ⟨e1, e2⟩ := List.cons.inj h
    obtain ⟨g1, g2⟩ := split_uni (fun m => h1 (List.mem_cons_of_mem _ m)) (fun m => h2 (List.mem_cons_of_mem _ m)) e2
    exact ⟨by rw [e1, g1], g2⟩
theorem spl_has {s c : Nat} (hc : c ≠ s) : ∀ (l acc : List Nat), c ∈ acc ∨ c ∈ l → ∃ p ∈ spl [s] 0 acc l, c ∈ p
  | [], acc, h => by
    rw [spl_nil]
    refine ⟨acc, List.mem_cons_self, ?_⟩
    rcases h with h | h
    · exact h
    · cases h
  | a :: r, acc, h => by
    by_cases e : pre [s] (a :: r) = true
    · rw [spl_hit e]
      have ea : a = s := by
        have q : [a] = [s] := eq_of_beq e
        exact (List.cons.inj q).1
      rcases h with h | h
      · exact ⟨acc, List.mem_cons_self, h⟩
      · rcases List.mem_cons.mp h with q | q
        · exact absurd (q.trans ea) hc
        · obtain ⟨p, hp, hcp⟩ := spl_has hc r [] (.inr q)
          exact ⟨p, List.mem_cons_of_mem _ hp, hcp⟩
    · rw [Bool.not_eq_true] at e
      rw [spl_miss e]
      refine spl_has hc r _ ?_
      rcases h with h | h
      · exact .inl (List.mem_append_left _ h)
      · rcases List.mem_cons.mp h with q | q
        · exact .inl (List.mem_append_right _ (by rw [q]; exact List.mem_cons_self))
        · exact .inr q
theorem dom_noat {l : List Nat} (h : DomOk l) : 64 ∉ l := fun m => by
  obtain ⟨p, hp, hc⟩ := spl_has (s := 46) (by decide : (64 : Nat) ≠ 46) l [] (.inr m)
  exact at_lab ((h.2 p hp).1.2.2 64 hc)
theorem loc_noat {l : List Nat} (h : LocalOk l) : 64 ∉ l := fun m => at_loc (h.1.2.2 64 m)
theorem dom_nil : ¬ DomOk [] := fun h => by
  have q := (h.2 [] (by rw [spl_nil]; exact List.mem_cons_self)).1.1
  exact absurd q (by decide)
def Parsed (t : List Nat) (l d : Str) : Prop := t.map (tr1 upL) = tl l ++ 64 :: tl d ∧ LocalOk (tl l) ∧ DomOk (tl d)
theorem Parsed.uni {t : List Nat} {l d l' d' : Str} (h : Parsed t l d) (g : Parsed t l' d') : l = l' ∧ d = d' := by
  obtain ⟨e1, e2⟩ := split_uni (loc_noat h.2.1) (loc_noat g.2.1) (h.1.symm.trans g.1)
  exact ⟨ext_tl e1, ext_tl e2⟩
theorem idx_k : (List.range 26).all (fun i => decide (Txt.index0 upS ⟨#[65 + i]⟩ = some i)) = true := by decide +kernel
theorem fold_cat (z : Array Nat) : ∀ (n : Nat) (acc : Array Nat), ((List.replicate n z).foldl (· ++ ·) acc).toList = acc.toList ++ (List.replicate n z.toList).flatten
  | 0, acc => by simp
  | n + 1, acc => by
    rw [List.replicate_succ, List.foldl_cons, fold_cat z n, List.replicate_succ, List.flatten_cons, Array.toList_append, List.append_assoc]
def zMulS : R2 := fun x y H Q => ∃ (z : Str) (k : Int), x = .str z ∧ y = .int k ∧ 1 ≤ k ∧ k ≤ 1000 ∧ z.length ≤ 1000 ∧ ∀ r : Str, r.length ≤ z.length * k.toNat → 1 * z.length ≤ r.length → (∀ c ∈ tl r, c ∈ tl z) → Q (.str r) H
theorem y_repS {X : Cx} : OpR X (binaryOp .Mult) zMulS := by
  intro pins s σ H x y v u Q I rx ry h
  obtain ⟨z, k, rfl, rfl, k1, k2, hz, q⟩ := h
  obtain ⟨t, rfl⟩ := rx
  obtain ⟨t', rfl⟩ := ry
  have hb : z.length * k.toNat ≤ 1000 * 1000 := Nat.mul_le_mul hz (by omega)
  refine PySem.P.mul_str (by
    rw [decide_eq_false (by omega : ¬ k < -(2 ^ 63 : Int)), decide_eq_false (by omega : ¬ k ≥ 2 ^ 63)]
    rfl) (fun _ _ => ?_) (fun _ _ => PyProof.Rows.short24 (by omega)) ?_
  · have h2 : (1000 : Int) ≤ (2 ^ 63 - 1) / k := by
      rw [Int.le_ediv_iff_mul_le (by omega)]
      omega
    omega
  · rw [if_neg (by omega)]
    by_cases e : (k == 1 || z.length == 0) = true
    · rw [if_pos e]
      refine ⟨.str z, H, I, ⟨t, rfl⟩, q z ?_ (by omega) fun c h => h⟩
      have : 1 ≤ k.toNat := by omega
      calc z.length = z.length * 1 := (Nat.mul_one _).symm
        _ ≤ z.length * k.toNat := Nat.mul_le_mul_left _ this
    · rw [if_neg e]
      have hf := fold_cat z.cps k.toNat #[]
      have hr : tl (⟨(List.replicate k.toNat z.cps).foldl (· ++ ·) #[]⟩ : Str) = (List.replicate k.toNat (tl z)).flatten := by
        show ((List.replicate k.toNat z.cps).foldl (· ++ ·) #[]).toList = _
        rw [hf]
        rfl
      have hlen : (⟨(List.replicate k.toNat z.cps).foldl (· ++ ·) #[]⟩ : Str).length = k.toNat * z.length := by
        rw [len_tl, hr, List.length_flatten, List.map_replicate, List.sum_replicate_nat, ← len_tl]
      refine ⟨?_, .str _, H, I.tok _, ⟨_, rfl⟩, q _ ?_ ?_ fun c hc => ?_⟩
      · rw [hlen, Nat.mul_comm]
        exact line_of (by omega)
      · rw [hlen, Nat.mul_comm]
        exact Nat.le_refl _
      · rw [hlen]
        exact Nat.mul_le_mul_right _ (by omega)
      · rw [hr] at hc
        obtain ⟨l, hl, hcl⟩ := List.mem_flatten.mp hc
        rw [(List.mem_replicate.mp hl).2] at hcl
        exact hcl
section
variable {σ : L2.St} {H H1 : Hp} {Q : VK} {K : PySem.W.Frag} {D : Addr} {n j : Nat} {vs : List Nat} {te : TE} {Qd : Hp → Prop} {a b : Bool} {p q : Addr} {xs zs : List V}
theorem lcRp (nD : H1 D = none) (hn : n ≤ 100000) (f : Nat → V)
    (hs : ∀ i, i < n → ∀ H (R : VK), Same H1 H → (∀ H'', Same H H'' → R (f i) H'') → wipe ((wipe σ vs).set j (some (.int (0 + (i : Nat))))) vs = wipe σ vs ∧ te ((wipe σ vs).set j (some (.int (0 + (i : Nat))))) H R)
    (hd : ∀ H', Same H1 H' → H' D = some (.lst ((List.range n).map f)) → Qd H') : LcR n (gName j) te vs σ H1 D Qd := by
  refine lc_range (Pv := fun i H => Same H1 H ∧ H D = some (.lst ((List.range i).map f))) ⟨same_new nD, by rw [upd_same]; rfl⟩ (fun i H hi p => ?_) (fun H p => hd H p.1 p.2)
  obtain ⟨sm, e⟩ := p
  have q := hs i hi H (fun y H4 => ∃ acc, H4 D = some (.lst acc) ∧ acc.length < sizeLine ∧ (Same H1 (upd H4 D (.lst (acc ++ [y]))) ∧ (upd H4 D (.lst (acc ++ [y]))) D = some (.lst ((List.range (i + 1)).map f)))) sm (fun H'' s2 => by
    refine ⟨_, s2 _ _ e, lt_line (by rw [List.length_map, List.length_range]; omega), fun b o eb => ?_, ?_⟩
    · rw [upd_ne (ne_of_none eb nD)]
      exact s2 _ _ (sm _ _ eb)
    · rw [upd_same, List.range_succ, List.map_append]
      rfl)
  exact ⟨q.1, q.2⟩
theorem rd_mulS {z : Str} {k : Int} (k1 : 1 ≤ k) (k2 : k ≤ 1000) (hz : z.length ≤ 1000) (h : ∀ r : Str, r.length ≤ z.length * k.toNat → 1 * z.length ≤ r.length → (∀ c ∈ tl r, c ∈ tl z) → Q (.str r) H) : zMulS (.str z) (.int k) H Q := ⟨z, k, rfl, rfl, k1, k2, hz, h⟩
theorem rd_catL (h1 : H p = some (.lst xs)) (h2 : H q = some (.lst zs)) (c : xs.length + zs.length ≤ 100000) (h : ∀ r, H r = none → Q (.ref r) (upd H r (.lst (xs ++ zs)))) : rCat (.ref p) (.ref q) H Q := ⟨p, q, xs, zs, rfl, rfl, h1, h2, line_of (by omega), h⟩
theorem rd_eqB (h : Q (.bl (decide (a = b))) H) : rEq (.bl a) (.bl b) H Q := ⟨rfl, by
  rw [show decide (V.bl a = V.bl b) = decide (a = b) by simp only [V.bl.injEq]]
  exact h⟩
/-- data of one text: equal -/
theorem rd_neSame {x y : V} {d : PyData} (h1 : Dp K H x d) (h2 : Dp K H y d) (s : SeqAt.shaped d = true) (r : PyData.eqv d d = true) (h : Q (.bl false) H) : rNeD K x y H Q := ⟨d, d, h1, h2, s, s, by
  rw [r]
  exact h⟩
end
theorem one_eq {c n : Nat} {s : String} (h : tl (Str.ofString s) = [n]) : ((⟨#[c]⟩ : Str) = Str.ofString s) ↔ c = n := by
  constructor
  · intro e
    have q := congrArg tl e
    rw [h] at q
    exact (List.cons.inj q).1
  · intro e
    exact ext_tl (by rw [h, e])
theorem eqv2 (l d : Str) : PyData.eqvAll [.str l, .str d] [.str l, .str d] = true := by simp [PyData.eqvAll, PyData.eqv]
theorem shaped2 {l d : Str} (al : Asc l) (ad : Asc d) : SeqAt.shaped (.tuple [.str l, .str d]) = true := by
  refine shaped_strs (xs := [l, d]) fun x hx => ?_
  simp only [List.mem_cons, List.not_mem_nil, or_false] at hx
  rcases hx with rfl | rfl
  · exact al
  · exact ad
theorem up_iff {c : Nat} : c ∈ tl upS ↔ 65 ≤ c ∧ c ≤ 90 := by
  rw [tl_up, List.mem_map]
  constructor
  · rintro ⟨a, ha, rfl⟩
    have := List.mem_range.mp ha
    omega
  · intro h
    exact ⟨c - 65, List.mem_range.mpr (by omega), by omega⟩
theorem up_idx {c : Nat} (h : 65 ≤ c ∧ c ≤ 90) : Txt.index0 upS ⟨#[c]⟩ = some (c - 65) := by
  have q := of_decide_eq_true (List.all_eq_true.mp idx_k (c - 65) (List.mem_range.mpr (by omega)))
  rw [show 65 + (c - 65) = c by omega] at q
  exact q
theorem lo_at {c : Nat} (h : 65 ≤ c ∧ c ≤ 90) : atI (tl loS) ((c - 65 : Nat) : Int) = some (lowN c) := by
  refine atI_nat ?_
  rw [tl_lo, List.getElem?_map, List.getElem?_range (by omega)]
  show some (c - 65 + 97) = some (lowN c)
  rw [show lowN c = c + 32 from if_pos h]
  congr 1
  omega
theorem len_lo : loS.length = 26 := by rw [len_tl, tl_lo]; rfl
theorem asc_low {l : List Nat} (h : ∀ c ∈ l, c < 128) : ∀ c ∈ l.map lowN, c < 128 := fun c hc => by
  obtain ⟨a, ha, rfl⟩ := List.mem_map.mp hc
  have := h a ha
  unfold lowN
  by_cases q : 65 ≤ a ∧ a ≤ 90
  · rw [if_pos q]
    omega
  · rw [if_neg q]
    exact this
theorem flat_ones (f : Nat → Nat) : ∀ l : List Nat, ((l.map fun c => (⟨#[f c]⟩ : Str)).map tl).flatten = l.map f
  | [] => rfl
  | c :: l => by
    show f c :: ((l.map fun c => (⟨#[f c]⟩ : Str)).map tl).flatten = f c :: l.map f
    rw [flat_ones f l]
/-! ### a method of a class of the program's own -/
def Mn (K : PySem.W.Frag) (C : Addr) (m q : Str) (st : Stmt) (ps : List Str) : Prop := ∃ f fd, Meth K C m f ∧ Fun K m q st f fd ∧ ∀ (s : Shared) (us : List Value), us.length = ps.length → BindsTo s fd ⟨us, []⟩ (ps.zip us)
def OkM (P : Program) (w : World) (K : PySem.W.Frag) (mg : Str → Option Value) (base : Heap) (CX : CXT) (k : Nat) (C : Addr) (m : Str) (ps : List Str) (sp : Sp) : Prop :=
  ∃ f fd, Meth K C m f ∧ Binds K fd ps [] ∧ FnOk P w K mg base CX k f fd ps sp
structure Cs (K : PySem.W.Frag) (mg : Str → Option Value) (x : Str) (C : Addr) : Prop where
  cl : Cls K C
  g : mg x = some (.ref C)
  made : PySem.W.makesIn K C = true
  kp : PySem.W.keepIn K (.ref C) = true
theorem cs_mk {K : PySem.W.Frag} {h : Heap} {mg : Str → Option Value} {x : Str} {C : Addr} (X : K.In h) (G : h.Ns mainGlobals mg) (a : PySem.W.nsIn K mainGlobals x = some (some (.ref C)))
    (pg : PySem.W.plainGet K C Str.empty = true) (hd : PySem.W.hasDictIn K C = true) (po : PySem.W.plainOver K C = true) (sa : PySem.W.findIn K (.ref C) "__setattr__" = some (some (.builtin "object.__setattr__"))) (mk : PySem.W.makesIn K C = true) (kc : PySem.W.keepIn K (.ref C) = true) : Cs K mg x C :=
  ⟨⟨pg, hd, po, sa⟩, PySem.W.mg_of X G a, mk, kc⟩
theorem mn_mk {K : PySem.W.Frag} {C : Addr} {m q : Str} {st : Stmt} {ps : List Str} {f : Addr} {oc kV doc pm cdv ct : Value} {od an : Option Addr} {osl : Array (Option Value)}
    (a : PySem.W.findIn K (.ref C) m = some (some (.ref f))) (i : PySem.W.isFn K (.ref f) = true) (l : K.lookup f = some ⟨oc, od, .func (PySem.W.fnOf m q (defArgs st) (defBody st) (defScope st) .none kV doc pm an cdv ct), osl⟩)
    (c : PySem.W.codeIn K cdv q = true) (k : PySem.W.keepIn K (.ref f) = true)
    (b : ∀ (kV doc pm : Value) (an : Option Addr) (cdv ct : Value) (us : List Value), us.length = ps.length → bindArgs (PySem.W.fnOf m q (defArgs st) (defBody st) (defScope st) .none kV doc pm an cdv ct) ⟨us, []⟩ = pure (ps.zip us)) : Mn K C m q st ps :=
  ⟨f, _, ⟨a, i, k⟩, fun_mk l c k, fun s us hl => .of_eq (b kV doc pm an cdv ct us hl)⟩
section
variable {P : Program} {w : World} {K : PySem.W.Frag} {mg : Str → Option Value} {base : Heap} {k : Nat} {C : Addr} {m q : Str} {st : Stmt} {ps N : List Str} {sp : Sp}
theorem ok_mkM (d : Mn K C m q st ps) (S : FnScope N ps (defScope st)) (len : ∀ vs H Q E, sp vs H Q E → vs.length = ps.length)
    (hbody : ∀ (f : Addr) (cdv : Value) (A : Around) (outer : List Env) (s : Shared) (H : Hp) (vs : List V) (Q : VK) (E : XK), Room k (A.deeper (envOfC q (defScope st) s.heap.objs.size f cdv)) → sp vs H Q E →
      ∃ t, PSs (cxOf CX0 P w K mg base N q (defScope st) f cdv A outer s H E).nox (defBody st) t ∧ t ⟨fun _ H' => Q .non H', Q, fun _ _ => False, fun _ _ => False⟩ (start N vs) H) : OkM P w K mg base CX0 (k + 1) C m ps sp := by
  obtain ⟨f, fd, M, F, b⟩ := d
  exact ⟨f, fd, M, binds_of b, F.ok S len fun cdv A outer s H vs Q E hr h => hbody f cdv A outer s H vs Q E hr h⟩
theorem ok_mkMX (d : Mn K C m q st ps) (S : FnScope N ps (defScope st)) (len : ∀ vs H Q E, sp vs H Q E → vs.length = ps.length)
    (hbody : ∀ (f : Addr) (cdv : Value) (A : Around) (outer : List Env) (s : Shared) (H : Hp) (vs : List V) (Q : VK) (E : XK), Room k (A.deeper (envOfC q (defScope st) s.heap.objs.size f cdv)) → sp vs H Q E →
      ∃ t, PSs (cxOf (L2.CX P w) P w K mg base N q (defScope st) f cdv A outer s H E) (defBody st) t ∧ t ⟨fun _ H' => Q .non H', Q, fun _ _ => False, fun _ _ => False⟩ (start N vs) H) : OkM P w K mg base (L2.CX P w) (k + 1) C m ps sp := by
  obtain ⟨f, fd, M, F, b⟩ := d
  exact ⟨f, fd, M, binds_of b, F.okX S len fun cdv A outer s H vs Q E hr h => hbody f cdv A outer s H vs Q E hr h⟩
end
section
variable {X : Cx} {C : Addr} {k : Nat} {m x : Str} {ps : List Str} {sp : Sp} {ta : TE} {t : TA} {o e : Expr} {es : List Expr} {p pos apos : Pos} {E : XK} {E' : L2.St → XK}
theorem pe_methD {pl : Sem Bool} {CX : CXT} (c : Cls X.K C) (O : OkM X.prog X.w X.K X.mg X.base CX k C m ps sp) (hr : Room k X.A) (hx : Passes CX X E) (he : PE X o ta) (ha : PA X (e :: es) t)
    (hst : starEach (e :: es) X.env = (false, eval e X.env) :: starEach es X.env := by rfl) (hpl : (backTo pos (starEach es X.env)).any (·.1) = false := by rfl)
    (ht : eval (.Call (.Attribute o m apos) (e :: es) [] pos) X.env = (do
      let ov ← eval o X.env; standAt apos.atName
      let (f, first) ← holding [ov] (getMethod ov m pl); callWith pos f first (backTo pos (starEach (e :: es) X.env)) (backToKw pos (keywordEach [] X.env))) := by rfl) :
    PE X (.Call (.Attribute o m apos) (e :: es) [] pos) (tMeth C m sp [] E ta t) := by
  obtain ⟨f, fd, M, b, F⟩ := O
  exact pe_meth he c M F hr b .nil hx ha hst hpl ht
theorem pe_methD0 {pl : Sem Bool} {CX : CXT} (c : Cls X.K C) (O : OkM X.prog X.w X.K X.mg X.base CX k C m ps sp) (hr : Room k X.A) (hx : Passes CX X E) (he : PE X o ta)
    (ht : eval (.Call (.Attribute o m apos) [] [] pos) X.env = (do
      let ov ← eval o X.env; standAt apos.atName
      let (f, first) ← holding [ov] (getMethod ov m pl); callWith pos f first (backTo pos (starEach [] X.env)) (backToKw pos (keywordEach [] X.env))) := by rfl) :
    PE X (.Call (.Attribute o m apos) [] [] pos) (tMeth C m sp [] E ta tNil) := by
  obtain ⟨f, fd, M, b, F⟩ := O
  exact pe_meth0 he c M F hr b .nil hx ht
theorem pe_makeC (c : Cs X.K X.mg x C) (O : OkM X.prog X.w X.K X.mg X.base CX0 k C "__init__" ps sp) (hr : Room (k + 1) X.A) (hg : Gl X x) (hx : Passes CX0 X E) (ha : PA X (e :: es) t)
    (hdb : (x == ("__debug__" : Str)) = false := by decide) (he : starEach (e :: es) X.env = (false, eval e X.env) :: starEach es X.env := by rfl) (hpl : (backTo pos (starEach es X.env)).any (·.1) = false := by rfl) :
    PE X (.Call (.Name x p) (e :: es) [] pos) (tMake C sp [] E t) := by
  obtain ⟨f, fd, M, b, F⟩ := O
  exact pe_make ⟨c.made, M.at_, M.fn, c.kp⟩ F hr hg c.g b .nil hx ha hdb he hpl
theorem pe_makeC0 (c : Cs X.K X.mg x C) (O : OkM X.prog X.w X.K X.mg X.base CX0 k C "__init__" ps sp) (hr : Room (k + 1) X.A) (hg : Gl X x) (hx : Passes CX0 X E)
    (hdb : (x == ("__debug__" : Str)) = false := by decide) :
    PE X (.Call (.Name x p) [] [] pos) (tMake C sp [] E tNil) := by
  obtain ⟨f, fd, M, b, F⟩ := O
  exact pe_make0 ⟨c.made, M.at_, M.fn, c.kp⟩ F hr hg c.g b .nil hx hdb
/-- the same where what is raised may depend on the slots -/
def zMethS (C : Addr) (m : Str) (sp : Sp) (E' : L2.St → XK) (ta : TE) (t : TA) : TE := fun σ H Q => ta σ H fun x H1 => ∃ a dx fs, x = .ref a ∧ H1 a = some (.ins C dx fs) ∧ fs.lookup m = none ∧ t σ H1 fun vs H2 => sp (x :: vs) H2 Q (E' σ)
theorem pe_methDS {pl : Sem Bool} (c : Cls X.K C) (O : OkM X.prog X.w X.K X.mg X.base (L2.CX X.prog X.w) k C m ps sp) (hr : Room k X.A) (hx : ∀ σ, PassesAt (L2.CX X.prog X.w) X σ (E' σ)) (he : PE X o ta) (ha : PA X (e :: es) t)
    (hst : starEach (e :: es) X.env = (false, eval e X.env) :: starEach es X.env := by rfl) (hpl : (backTo pos (starEach es X.env)).any (·.1) = false := by rfl)
    (ht : eval (.Call (.Attribute o m apos) (e :: es) [] pos) X.env = (do
      let ov ← eval o X.env; standAt apos.atName
      let (f, first) ← holding [ov] (getMethod ov m pl); callWith pos f first (backTo pos (starEach (e :: es) X.env)) (backToKw pos (keywordEach [] X.env))) := by rfl) :
    PE X (.Call (.Attribute o m apos) (e :: es) [] pos) (zMethS C m sp E' ta t) := by
  obtain ⟨f, fd, M, b, F⟩ := O
  constructor
  intro pins s σ H Q I h
  have one := he.run pins s σ H _ I h
  refine PySem.W.methodCall_KW (pl := pl) (thn one ?_) ht
  rintro u s1 ⟨x, H1, I1, rx, a, dx, fs, rfl, ea, l, q⟩
  cases rx
  refine getmeth_ok I1 ea c M l ?_
  have two := ha.run pos pins s1 σ H1 _ I1 q
  refine PySem.W.callWith_K (first := [.ref a]) (h₀ := X.base) I.ok.mod.kin M.kp (thn two ?_) hst hpl
  rintro us s2 ⟨vs, H2, I2, r, q2⟩
  exact ⟨I2.kIn, run_fnS (us := .ref a :: us) (vs := .ref a :: vs) F hr b (hx σ) I2 (.cons rfl r) q2⟩
end
def zStrI : List V → Hp → VK → Prop := fun xs H Q => ∃ i, xs = [V.int i] ∧ i.natAbs.log2 < 1920 ∧ Q (.str (toString i)) H
def zListOf (K : PySem.W.Frag) : List V → Hp → VK → Prop := fun xs H Q => ∃ p ys, xs = [V.ref p] ∧ (SqL K H p ys ∨ SqT K H p ys) ∧ ∀ l, H l = none → Q (.ref l) (upd H l (.lst ys))
def zFind : V → List V → Hp → VK → Prop := fun x xs H Q => ∃ a b, x = V.str a ∧ xs = [V.str b] ∧ Q (.int (Txt.find a b)) H
section
variable {X : Cx} {K : PySem.W.Frag} {σ : L2.St} {H H1 : Hp} {Q : VK} {i : Int} {a : Addr} {ys : List V} {x y : Str} {n j : Nat} {st sc D : Addr} {ns : List Int} {g : TG} {te : TE} {vs : List Nat} {Qd : Hp → Prop}
theorem y_strI : CallR X (.type "str") zStrI := call_str_int
theorem y_listOf : CallR X (.type "list") (zListOf X.K) := call_list_of
theorem y_find : MtR X "str.find" zFind := mt_find
theorem rd_strI (h0 : 0 ≤ i) (h1 : i < 1000) (h : Q (.str (toString i)) H) : zStrI [.int i] H Q := ⟨i, rfl, Nat.lt_of_le_of_lt (Nat.log2_le_self _) (by omega), h⟩
theorem rd_listL (c : SqL K H a ys) (h : ∀ l, H l = none → Q (.ref l) (upd H l (.lst ys))) : zListOf K [.ref a] H Q := ⟨a, ys, rfl, .inl c, h⟩
theorem rd_listT (c : SqT K H a ys) (h : ∀ l, H l = none → Q (.ref l) (upd H l (.lst ys))) : zListOf K [.ref a] H Q := ⟨a, ys, rfl, .inr c, h⟩
theorem rd_find (h : Q (.int (Txt.find x y)) H) : zFind (.str x) [.str y] H Q := ⟨x, y, rfl, rfl, h⟩
/-- a comprehension over range(n) with draws: what holds of the item at each place -/
theorem lcRj (G : Nat → Hp → V → Prop) (mono : ∀ i H H' y, Dr st H H' → Stt H st → G i H y → G i H' y) (W : Wd K st sc ns H1) (nD : H1 D = none) (hn : n ≤ 100000)
    (hs : ∀ (i : Nat) H (R : VK), i < n → Wd K st sc ns H → Dr st H1 H → (∃ zs, H D = some (.lst zs)) → (∀ y H', Dr st H H' → G i H' y → R y H') → g (.int (0 + (i : Nat))) (wipe σ vs) H fun σ2 H2 => wipe σ2 vs = wipe σ vs ∧ te σ2 H2 R)
    (hd : ∀ H' ys, Dr st H1 H' → Wd K st sc ns H' → D ≠ st → H' D = some (.lst ys) → ys.length = n → (∀ i y, ys[i]? = some y → G i H' y) → Qd H') (put : ∀ i H y zs, H1 D = none → H D = some (.lst zs) → G i H y → ∀ o, G i (upd H D o) y) : LcR n g te vs σ H1 D Qd := by
  have nS : D ≠ st := W.1.ne nD
  refine lc_range (Pv := fun i H => Dr st H1 H ∧ ∃ ys, H D = some (.lst ys) ∧ ys.length = i ∧ ∀ k y, ys[k]? = some y → G k H y) ?_ (fun i H hi hP => ?_) (fun H hP => ?_)
  · exact ⟨W.dr.new nD, [], upd_same, rfl, fun k y h => by simp at h⟩
  · obtain ⟨d, ys, e, el, eg⟩ := hP
    have q := hs i H (fun y H4 => ∃ acc, H4 D = some (.lst acc) ∧ acc.length < sizeLine ∧ (Dr st H1 (upd H4 D (.lst (acc ++ [y]))) ∧ ∃ ys, (upd H4 D (.lst (acc ++ [y]))) D = some (.lst ys) ∧ ys.length = i + 1 ∧ ∀ k z, ys[k]? = some z → G k (upd H4 D (.lst (acc ++ [y]))) z)) hi (W.next d) d ⟨_, e⟩ (fun y H' d' gy => by
      have e' : H' D = some (.lst ys) := d'.1 _ _ nS e
      refine ⟨ys, e', lt_line (by omega), Dr.put W.1 (d.trans d') nD, ys ++ [y], upd_same, by rw [List.length_append, el]; rfl, fun k z hz => ?_⟩
      by_cases hk : k < ys.length
      · rw [List.getElem?_append_left hk] at hz
        exact put k H' z ys nD e' (mono k H H' z d' d.2 (eg k z hz)) _
      · have h2 := (List.getElem?_eq_some_iff.mp hz).1
        rw [List.length_append] at h2
        have h3 : k < ys.length + 1 := h2
        have ek : k = i := by omega
        rw [ek, ← el, List.getElem?_append_right (Nat.le_refl _), Nat.sub_self] at hz
        rw [ek, ← Option.some.inj hz]
        exact put i H' y ys nD e' gy _)
    exact q
  · obtain ⟨d, ys, e, el, eg⟩ := hP
    exact hd H ys d (W.next d) nS e el eg
theorem lcRi (G : Nat → Hp → V → Prop) (mono : ∀ i H H' y, Dr st H H' → Stt H st → G i H y → G i H' y) (W : Wd K st sc ns H1) (nD : H1 D = none) (hn : n ≤ 100000)
    (hs : ∀ (i : Nat) H (R : VK), i < n → Wd K st sc ns H → Dr st H1 H → (∀ y H', Dr st H H' → G i H' y → R y H') → g (.int (0 + (i : Nat))) (wipe σ vs) H fun σ2 H2 => wipe σ2 vs = wipe σ vs ∧ te σ2 H2 R)
    (hd : ∀ H' ys, Dr st H1 H' → Wd K st sc ns H' → D ≠ st → H' D = some (.lst ys) → ys.length = n → (∀ i y, ys[i]? = some y → G i H' y) → Qd H') (put : ∀ i H y zs, H1 D = none → H D = some (.lst zs) → G i H y → ∀ o, G i (upd H D o) y) : LcR n g te vs σ H1 D Qd :=
  lcRj G mono W nD hn (fun i H R hi w d _ r => hs i H R hi w d r) hd put
end
section
variable {σ : L2.St} {H1 : Hp} {te : TE} {vs : List Nat} {j : Nat} {D : Addr} {xs : List V} {J : It} {Rl : Hp → Prop} {Qd : Hp → Prop}
/-- a comprehension that only reads: the item at each place -/
theorem lcSi (Wk : WalkOf J Rl xs) (hR : ∀ H, Same H1 H → Rl H) (nD : H1 D = none) (hn : xs.length ≤ 1000000) (F : Nat → V)
    (hs : ∀ i x, xs[i]? = some x → ∀ H (R : VK), Same H1 H → (∀ H'', Same H H'' → R (F i) H'') → wipe ((wipe σ vs).set j (some x)) vs = wipe σ vs ∧ te ((wipe σ vs).set j (some x)) H R)
    (hd : ∀ H', Same H1 H' → H' D = some (.lst ((List.range xs.length).map F)) → Qd H') : LcJ J (gName j) tYes te vs σ H1 D Qd := by
  refine lcJ Wk (fun i H => Same H1 H ∧ H D = some (.lst ((List.range i).map F))) ⟨same_new nD, by rw [upd_same]; rfl⟩ (fun i H _ p => hR H p.1) (fun i x H hx p => ?_) (fun H p => hd H p.1 p.2)
  obtain ⟨sm, e⟩ := p
  have hi := (List.getElem?_eq_some_iff.mp hx).1
  have q := hs i x hx H (fun y H4 => ∃ acc, H4 D = some (.lst acc) ∧ acc.length < sizeLine ∧ (Same H1 (upd H4 D (.lst (acc ++ [y]))) ∧ (upd H4 D (.lst (acc ++ [y]))) D = some (.lst ((List.range (i + 1)).map F)))) sm (fun H'' s2 => by
    refine ⟨_, s2 _ _ e, lt_line (by rw [List.length_map, List.length_range]; omega), fun b o eb => ?_, ?_⟩
    · rw [upd_ne (ne_of_none eb nD)]
      exact s2 _ _ (sm _ _ eb)
    · rw [upd_same, List.range_succ, List.map_append]
      rfl)
  exact ⟨q.1, q.2⟩
end
theorem range_get {α β : Type} (l : List α) (f : α → β) (F : Nat → β) (h : ∀ i a, l[i]? = some a → F i = f a) : (List.range l.length).map F = l.map f := by
  refine List.ext_getElem (by simp) fun i h1 h2 => ?_
  rw [List.getElem_map, List.getElem_range, List.getElem_map]
  exact h i _ (List.getElem?_eq_getElem _)
theorem Tk.put {H : Hp} {p l : Addr} {xs zs : List V} {o : HO} (t : Tk H p xs) (e : H l = some (.lst zs)) : Tk (upd H l o) p xs := by
  obtain ⟨b, h, q⟩ := t
  refine ⟨b, h, ?_⟩
  rw [upd_ne fun z => ?_]
  · exact q
  · rw [z, e] at q
    cases q
theorem rd_wLsG {xs : List V} {H : Hp} {Q : VK} (c : xs.length ≤ 1000) (h : ∀ (p : Addr) (H' : Hp), H p = none → Same H H' → H' p = some (.lst xs) → Q (.ref p) H') : wLs xs H Q := ⟨line_of (by omega), fun p n => h p _ n (same_new n) upd_same⟩
def zMin2 : List V → Hp → VK → Prop := fun xs H Q => ∃ i j, xs = [V.int i, V.int j] ∧ Q (.int (if j < i then j else i)) H
theorem y_min2 {X : Cx} (hc : X.calm = true) : CallR X (.builtin "min") zMin2 := call_min2 hc
def zMax2 : List V → Hp → VK → Prop := fun xs H Q => ∃ i j, xs = [V.int i, V.int j] ∧ Q (.int (if j > i then j else i)) H
theorem y_max2 {X : Cx} (hc : X.calm = true) : CallR X (.builtin "max") zMax2 := call_max2 hc
theorem rd_max2 {H : Hp} {Q : VK} {i j : Int} (h : Q (.int (if j > i then j else i)) H) : zMax2 [.int i, .int j] H Q := ⟨i, j, rfl, h⟩
structure ExN (K : PySem.W.Frag) (mg : Str → Option Value) (x : Str) (C M : Addr) : Prop where
  gC : mg x = some (.ref C)
  gM : mg "MailError" = some (.ref M)
  xC : PySem.W.excIn K C [.type "ValueError", .type "Exception", .type "BaseException", .type "object"] "ValueError.__new__" = true
  kC : PySem.W.keepIn K (.ref C) = true
  bC : PySem.W.subIn K (.ref C) (.type "BaseException") = some true
  tC : PySem.W.typeIn K (.ref C) = some (.type "type")
  sC : PySem.W.subIn K (.ref C) (.ref C) = some true
  kM : PySem.W.kitOne K (.ref C) (.ref M) = some true
  e : ExcC K C
theorem ExN.exm {K : PySem.W.Frag} {mg : Str → Option Value} {x : Str} {C M : Addr} (h : ExN K mg x C M) : PySem.W.exmOne K (.ref C) (.ref C) = some true := PySem.W.exm_ref h.bC h.e.hd h.tC h.sC
theorem exn_mk {K : PySem.W.Frag} {h : Heap} {mg : Str → Option Value} {x : Str} {C M : Addr} (X : K.In h) (G : h.Ns mainGlobals mg)
    (gC : PySem.W.nsIn K mainGlobals x = some (some (.ref C))) (gM : PySem.W.nsIn K mainGlobals "MailError" = some (some (.ref M)))
    (xC : PySem.W.excIn K C [.type "ValueError", .type "Exception", .type "BaseException", .type "object"] "ValueError.__new__" = true) (kC : PySem.W.keepIn K (.ref C) = true)
    (bC : PySem.W.subIn K (.ref C) (.type "BaseException") = some true) (tC : PySem.W.typeIn K (.ref C) = some (.type "type")) (sC : PySem.W.subIn K (.ref C) (.ref C) = some true)
    (kM : PySem.W.kitOne K (.ref C) (.ref M) = some true)
    (e1 : PySem.W.findIn K (.ref C) "__getattribute__" = some (some (.builtin "BaseException.__getattribute__"))) (e2 : PySem.W.findIn K (.ref C) "__getattr__" = some none) (e4 : PySem.W.hasDictIn K C = true)
    (e5 : PySem.W.findIn K (.ref C) "__class__" = some (some (.builtin "object.__class__"))) (e6 : PySem.W.specialIn K (.builtin "object.__class__") "__get__" = some (some (.builtin "getset_descriptor.__get__")))
    (e7 : PySem.W.takesIn K (.builtin "object.__class__") = some true) (e8 : PySem.W.mroIn K C (.type "object") = some true) : ExN K mg x C M :=
  ⟨PySem.W.mg_of X G gC, PySem.W.mg_of X G gM, xC, kC, bC, tC, sC, kM, ⟨e1, e2, bC, e4, e5, e6, e7, e8⟩⟩
section
variable {σ : L2.St} {H : Hp} {Q : VK} {K : PySem.W.Frag} {to : TE} {T : String} {r : V → List V → Hp → VK → Prop} {l b : Addr} {xs zs : List V} {i j : Int} {y : V}
theorem rd_bm0 (h : to σ H fun x H1 => wTy K T x H1 (r x [] H1 Q)) : tBM0 K T r to σ H Q := h
theorem rd_clear (e : H l = some (.lst xs)) (h : Q .non (upd H l (.lst []))) : rClear (.ref l) [] H Q := ⟨l, xs, rfl, rfl, e, h⟩
theorem rd_extend (e : H l = some (.lst xs)) (g : H b = some (.lst zs)) (c : xs.length + zs.length ≤ 1000000) (h : Q .non (upd H l (.lst (xs ++ zs)))) : rExtend (.ref l) [.ref b] H Q := ⟨l, b, xs, zs, rfl, rfl, e, g, line_of (by omega), h⟩
theorem rd_appendB (e : H l = some (.lst xs)) (c : xs.length ≤ 1000000) (h : Q .non (upd H l (.lst (xs ++ [y])))) : rAppend (.ref l) [y] H Q := ⟨l, xs, y, rfl, rfl, e, lt_line (by omega), h⟩
theorem rd_min2 (h : Q (.int (if j < i then j else i)) H) : zMin2 [.int i, .int j] H Q := ⟨i, j, rfl, h⟩
theorem rd_slLto {k : Nat} (c : SqL K H l xs) (h : ∀ p, H p = none → Q (.ref p) (upd H p (.lst (xs.take k)))) : rSlL K (.ref l) none (some (k : Int)) H Q := by
  refine ⟨l, xs, rfl, c, fun p n => ?_⟩
  have e : cutV xs none (some (k : Int)) = xs.take k := by
    unfold cutV
    rw [HT.sIx_nat, HT.sIx_none, Nat.sub_zero, List.drop_zero]
    by_cases g : k ≤ xs.length
    · rw [Nat.min_eq_left g]
    · rw [Nat.min_eq_right (by omega), List.take_of_length_le (Nat.le_refl _), List.take_of_length_le (by omega)]
  rw [e]
  exact h p n
end
theorem whN {tb : TS} {nx bk ct : L2.St → Hp → Prop} {rt : VK} {σ : L2.St} {H : Hp} {W : Nat → L2.St → Hp → Prop} {m : Nat} (h : tb ⟨fun σ' H' => ∃ m', m' < m ∧ W m' σ' H', rt, nx, fun σ' H' => ∃ m', m' < m ∧ W m' σ' H'⟩ σ H) :
    ∃ N : L2.St → Hp → Prop, (∀ σ' H', N σ' H' → ∃ m', m' < m ∧ W m' σ' H') ∧ tb { (⟨nx, rt, bk, ct⟩ : Ends) with nx := N, ct := N, bk := nx } σ H := ⟨_, fun _ _ h => h, h⟩
theorem rd_shr {i j : Int} {H : Hp} {Q : VK} (h : Q (.int (i / 2 ^ j.toNat)) H) (c : 0 ≤ j) : rI (fun _ j => 0 ≤ j) (fun i j => .int (i / 2 ^ j.toNat)) (.int i) (.int j) H Q := ⟨i, j, rfl, rfl, c, h⟩
theorem rd_inI {K : PySem.W.Frag} {H : Hp} {Q : VK} {p : Addr} {i a b : Int} (c : SqT K H p [.int a, .int b]) (h : Q (.bl (decide (i = a ∨ i = b))) H) : rIn K false (.int i) (.ref p) H Q := ⟨p, _, rfl, .inr c, rfl, rfl, by
  have e : inV (.int i) [V.int a, V.int b] = decide (i = a ∨ i = b) := by
    show ((a == i) || ((b == i) || false)) = _
    by_cases h1 : i = a
    · simp [h1]
    · by_cases h2 : i = b
      · simp [h2]
      · have h1' : ¬ a = i := fun e => h1 e.symm
        have h2' : ¬ b = i := fun e => h2 e.symm
        simp [h1, h2, h1', h2']
  rw [e]
  exact h⟩
theorem if_tail {bb : Bool} {ta : TE} {g : TG} {nx bk ct : L2.St → Hp → Prop} {rt : VK} {σ : L2.St} {H : Hp} (Pre : L2.St → Hp → Prop) (tail : ∀ σ H, Pre σ H → nx σ H)
    (h : ∀ nx' : L2.St → Hp → Prop, (∀ σ H, Pre σ H → nx' σ H) → if bb = true then tAsg ta g ⟨nx', rt, bk, ct⟩ σ H else tNext ⟨nx', rt, bk, ct⟩ σ H) : if bb = true then tAsg ta g ⟨nx, rt, bk, ct⟩ σ H else tNext ⟨nx, rt, bk, ct⟩ σ H := h nx tail
/-- what stands behind a statement, once -/
theorem seq_to {t u : TS} {nx bk ct : L2.St → Hp → Prop} {rt : VK} {σ : L2.St} {H : Hp} (Pre : L2.St → Hp → Prop) (tail : ∀ σ H, Pre σ H → u ⟨nx, rt, bk, ct⟩ σ H)
    (h : ∀ nx' : L2.St → Hp → Prop, (∀ σ H, Pre σ H → nx' σ H) → t ⟨nx', rt, bk, ct⟩ σ H) : tSeq t u ⟨nx, rt, bk, ct⟩ σ H := h (u ⟨nx, rt, bk, ct⟩) tail
def wFld (K : PySem.W.Frag) (f : Str) (x : V) (H : Hp) (Q : VK) : Prop := ∃ a C dx fs v, x = .ref a ∧ H a = some (.ins C dx fs) ∧ Cls K C ∧ NoAttr K C f ∧ fs.lookup f = some v ∧ Q v H
def wSFld (K : PySem.W.Frag) (f : Str) (y : V) (x : V) (H : Hp) (R : Hp → Prop) : Prop := ∃ a C dx fs, x = .ref a ∧ H a = some (.ins C dx fs) ∧ Cls K C ∧ NoAttr K C f ∧ fs.length < 1000 ∧ R (upd H a (.ins C dx (putF f y fs)))
def wMeth (C : Addr) (m : Str) (x : V) (H : Hp) (R : Prop) : Prop := ∃ a dx fs, x = .ref a ∧ H a = some (.ins C dx fs) ∧ fs.lookup m = none ∧ R
section
variable {K : PySem.W.Frag} {σ : L2.St} {H : Hp} {Q : VK} {nx bk ct : L2.St → Hp → Prop} {rt : VK} {ta tv : TE} {t : TA} {a C dx : Addr} {fs : List (Str × V)} {f m : Str} {v y : V} {sp : Sp} {E : XK} {E' : L2.St → XK} {R : Hp → Prop} {R' : Prop}
theorem rd_fld (h : ta σ H fun x H1 => wFld K f x H1 Q) : tFld K ta f σ H Q := h
theorem rd_sfld (h : tv σ H fun y H1 => ta σ H1 fun x H2 => wSFld K f y x H2 fun H3 => nx σ H3) : sFld K ta tv f ⟨nx, rt, bk, ct⟩ σ H := h
theorem rd_wFld (e : H a = some (.ins C dx fs)) (c : Cls K C) (n : NoAttr K C f) (l : fs.lookup f = some v) (h : Q v H) : wFld K f (.ref a) H Q := ⟨a, C, dx, fs, v, rfl, e, c, n, l, h⟩
theorem rd_wSFld (e : H a = some (.ins C dx fs)) (c : Cls K C) (n : NoAttr K C f) (l : fs.length < 1000) (h : R (upd H a (.ins C dx (putF f y fs)))) : wSFld K f y (.ref a) H R := ⟨a, C, dx, fs, rfl, e, c, n, l, h⟩
theorem rd_meth (h : ta σ H fun x H1 => wMeth C m x H1 (t σ H1 fun vs H2 => sp (x :: vs) H2 Q E)) : tMeth C m sp [] E ta t σ H Q := by
  unfold tMeth
  simp only [List.append_nil]
  exact h
theorem rd_methS (h : ta σ H fun x H1 => wMeth C m x H1 (t σ H1 fun vs H2 => sp (x :: vs) H2 Q (E' σ))) : zMethS C m sp E' ta t σ H Q := h
theorem rd_wMeth (e : H a = some (.ins C dx fs)) (l : fs.lookup m = none) (h : R') : wMeth C m (.ref a) H R' := ⟨a, dx, fs, rfl, e, l, h⟩
theorem rd_make (h : t σ H fun vs H1 => ∀ x dx, H1 x = none → H1 dx = none → dx ≠ x → sp (.ref x :: vs) (upd (upd H1 dx (.own x)) x (.ins C dx [])) (fun v H2 => v = .non ∧ Q (.ref x) H2) E) : tMake C sp [] E t σ H Q := by
  unfold tMake
  simpa only [List.append_nil] using h
theorem rd_v12 {a0 a1 a2 a3 a4 a5 a6 a7 a8 a9 a10 a11} {l : L2.St} (h : Q v H) : tVar 12 (a0 :: a1 :: a2 :: a3 :: a4 :: a5 :: a6 :: a7 :: a8 :: a9 :: a10 :: a11 :: some v :: l) H Q := ⟨v, rfl, h⟩
theorem rd_n12 {a0 a1 a2 a3 a4 a5 a6 a7 a8 a9 a10 a11 b} {l : L2.St} {QG : L2.St → Hp → Prop} (h : QG (a0 :: a1 :: a2 :: a3 :: a4 :: a5 :: a6 :: a7 :: a8 :: a9 :: a10 :: a11 :: some v :: l) H) : gName 12 v (a0 :: a1 :: a2 :: a3 :: a4 :: a5 :: a6 :: a7 :: a8 :: a9 :: a10 :: a11 :: b :: l) H QG := h
theorem rd_v13 {a0 a1 a2 a3 a4 a5 a6 a7 a8 a9 a10 a11 a12} {l : L2.St} (h : Q v H) : tVar 13 (a0 :: a1 :: a2 :: a3 :: a4 :: a5 :: a6 :: a7 :: a8 :: a9 :: a10 :: a11 :: a12 :: some v :: l) H Q := ⟨v, rfl, h⟩
theorem rd_n13 {a0 a1 a2 a3 a4 a5 a6 a7 a8 a9 a10 a11 a12 b} {l : L2.St} {QG : L2.St → Hp → Prop} (h : QG (a0 :: a1 :: a2 :: a3 :: a4 :: a5 :: a6 :: a7 :: a8 :: a9 :: a10 :: a11 :: a12 :: some v :: l) H) : gName 13 v (a0 :: a1 :: a2 :: a3 :: a4 :: a5 :: a6 :: a7 :: a8 :: a9 :: a10 :: a11 :: a12 :: b :: l) H QG := h
theorem rd_v14 {a0 a1 a2 a3 a4 a5 a6 a7 a8 a9 a10 a11 a12 a13} {l : L2.St} (h : Q v H) : tVar 14 (a0 :: a1 :: a2 :: a3 :: a4 :: a5 :: a6 :: a7 :: a8 :: a9 :: a10 :: a11 :: a12 :: a13 :: some v :: l) H Q := ⟨v, rfl, h⟩
theorem rd_n14 {a0 a1 a2 a3 a4 a5 a6 a7 a8 a9 a10 a11 a12 a13 b} {l : L2.St} {QG : L2.St → Hp → Prop} (h : QG (a0 :: a1 :: a2 :: a3 :: a4 :: a5 :: a6 :: a7 :: a8 :: a9 :: a10 :: a11 :: a12 :: a13 :: some v :: l) H) : gName 14 v (a0 :: a1 :: a2 :: a3 :: a4 :: a5 :: a6 :: a7 :: a8 :: a9 :: a10 :: a11 :: a12 :: a13 :: b :: l) H QG := h
theorem rd_v15 {a0 a1 a2 a3 a4 a5 a6 a7 a8 a9 a10 a11 a12 a13 a14} {l : L2.St} (h : Q v H) : tVar 15 (a0 :: a1 :: a2 :: a3 :: a4 :: a5 :: a6 :: a7 :: a8 :: a9 :: a10 :: a11 :: a12 :: a13 :: a14 :: some v :: l) H Q := ⟨v, rfl, h⟩
theorem rd_n15 {a0 a1 a2 a3 a4 a5 a6 a7 a8 a9 a10 a11 a12 a13 a14 b} {l : L2.St} {QG : L2.St → Hp → Prop} (h : QG (a0 :: a1 :: a2 :: a3 :: a4 :: a5 :: a6 :: a7 :: a8 :: a9 :: a10 :: a11 :: a12 :: a13 :: a14 :: some v :: l) H) : gName 15 v (a0 :: a1 :: a2 :: a3 :: a4 :: a5 :: a6 :: a7 :: a8 :: a9 :: a10 :: a11 :: a12 :: a13 :: a14 :: b :: l) H QG := h
theorem rd_v16 {a0 a1 a2 a3 a4 a5 a6 a7 a8 a9 a10 a11 a12 a13 a14 a15} {l : L2.St} (h : Q v H) : tVar 16 (a0 :: a1 :: a2 :: a3 :: a4 :: a5 :: a6 :: a7 :: a8 :: a9 :: a10 :: a11 :: a12 :: a13 :: a14 :: a15 :: some v :: l) H Q := ⟨v, rfl, h⟩
theorem rd_n16 {a0 a1 a2 a3 a4 a5 a6 a7 a8 a9 a10 a11 a12 a13 a14 a15 b} {l : L2.St} {QG : L2.St → Hp → Prop} (h : QG (a0 :: a1 :: a2 :: a3 :: a4 :: a5 :: a6 :: a7 :: a8 :: a9 :: a10 :: a11 :: a12 :: a13 :: a14 :: a15 :: some v :: l) H) : gName 16 v (a0 :: a1 :: a2 :: a3 :: a4 :: a5 :: a6 :: a7 :: a8 :: a9 :: a10 :: a11 :: a12 :: a13 :: a14 :: a15 :: b :: l) H QG := h
theorem rd_v17 {a0 a1 a2 a3 a4 a5 a6 a7 a8 a9 a10 a11 a12 a13 a14 a15 a16} {l : L2.St} (h : Q v H) : tVar 17 (a0 :: a1 :: a2 :: a3 :: a4 :: a5 :: a6 :: a7 :: a8 :: a9 :: a10 :: a11 :: a12 :: a13 :: a14 :: a15 :: a16 :: some v :: l) H Q := ⟨v, rfl, h⟩
theorem rd_n17 {a0 a1 a2 a3 a4 a5 a6 a7 a8 a9 a10 a11 a12 a13 a14 a15 a16 b} {l : L2.St} {QG : L2.St → Hp → Prop} (h : QG (a0 :: a1 :: a2 :: a3 :: a4 :: a5 :: a6 :: a7 :: a8 :: a9 :: a10 :: a11 :: a12 :: a13 :: a14 :: a15 :: a16 :: some v :: l) H) : gName 17 v (a0 :: a1 :: a2 :: a3 :: a4 :: a5 :: a6 :: a7 :: a8 :: a9 :: a10 :: a11 :: a12 :: a13 :: a14 :: a15 :: a16 :: b :: l) H QG := h
theorem rd_v18 {a0 a1 a2 a3 a4 a5 a6 a7 a8 a9 a10 a11 a12 a13 a14 a15 a16 a17} {l : L2.St} (h : Q v H) : tVar 18 (a0 :: a1 :: a2 :: a3 :: a4 :: a5 :: a6 :: a7 :: a8 :: a9 :: a10 :: a11 :: a12 :: a13 :: a14 :: a15 :: a16 :: a17 :: some v :: l) H Q := ⟨v, rfl, h⟩
theorem rd_n18 {a0 a1 a2 a3 a4 a5 a6 a7 a8 a9 a10 a11 a12 a13 a14 a15 a16 a17 b} {l : L2.St} {QG : L2.St → Hp → Prop} (h : QG (a0 :: a1 :: a2 :: a3 :: a4 :: a5 :: a6 :: a7 :: a8 :: a9 :: a10 :: a11 :: a12 :: a13 :: a14 :: a15 :: a16 :: a17 :: some v :: l) H) : gName 18 v (a0 :: a1 :: a2 :: a3 :: a4 :: a5 :: a6 :: a7 :: a8 :: a9 :: a10 :: a11 :: a12 :: a13 :: a14 :: a15 :: a16 :: a17 :: b :: l) H QG := h
theorem rd_v19 {a0 a1 a2 a3 a4 a5 a6 a7 a8 a9 a10 a11 a12 a13 a14 a15 a16 a17 a18} {l : L2.St} (h : Q v H) : tVar 19 (a0 :: a1 :: a2 :: a3 :: a4 :: a5 :: a6 :: a7 :: a8 :: a9 :: a10 :: a11 :: a12 :: a13 :: a14 :: a15 :: a16 :: a17 :: a18 :: some v :: l) H Q := ⟨v, rfl, h⟩
theorem rd_n19 {a0 a1 a2 a3 a4 a5 a6 a7 a8 a9 a10 a11 a12 a13 a14 a15 a16 a17 a18 b} {l : L2.St} {QG : L2.St → Hp → Prop} (h : QG (a0 :: a1 :: a2 :: a3 :: a4 :: a5 :: a6 :: a7 :: a8 :: a9 :: a10 :: a11 :: a12 :: a13 :: a14 :: a15 :: a16 :: a17 :: a18 :: some v :: l) H) : gName 19 v (a0 :: a1 :: a2 :: a3 :: a4 :: a5 :: a6 :: a7 :: a8 :: a9 :: a10 :: a11 :: a12 :: a13 :: a14 :: a15 :: a16 :: a17 :: a18 :: b :: l) H QG := h
theorem rd_v20 {a0 a1 a2 a3 a4 a5 a6 a7 a8 a9 a10 a11 a12 a13 a14 a15 a16 a17 a18 a19} {l : L2.St} (h : Q v H) : tVar 20 (a0 :: a1 :: a2 :: a3 :: a4 :: a5 :: a6 :: a7 :: a8 :: a9 :: a10 :: a11 :: a12 :: a13 :: a14 :: a15 :: a16 :: a17 :: a18 :: a19 :: some v :: l) H Q := ⟨v, rfl, h⟩
theorem rd_n20 {a0 a1 a2 a3 a4 a5 a6 a7 a8 a9 a10 a11 a12 a13 a14 a15 a16 a17 a18 a19 b} {l : L2.St} {QG : L2.St → Hp → Prop} (h : QG (a0 :: a1 :: a2 :: a3 :: a4 :: a5 :: a6 :: a7 :: a8 :: a9 :: a10 :: a11 :: a12 :: a13 :: a14 :: a15 :: a16 :: a17 :: a18 :: a19 :: some v :: l) H) : gName 20 v (a0 :: a1 :: a2 :: a3 :: a4 :: a5 :: a6 :: a7 :: a8 :: a9 :: a10 :: a11 :: a12 :: a13 :: a14 :: a15 :: a16 :: a17 :: a18 :: a19 :: b :: l) H QG := h
theorem rd_v21 {a0 a1 a2 a3 a4 a5 a6 a7 a8 a9 a10 a11 a12 a13 a14 a15 a16 a17 a18 a19 a20} {l : L2.St} (h : Q v H) : tVar 21 (a0 :: a1 :: a2 :: a3 :: a4 :: a5 :: a6 :: a7 :: a8 :: a9 :: a10 :: a11 :: a12 :: a13 :: a14 :: a15 :: a16 :: a17 :: a18 :: a19 :: a20 :: some v :: l) H Q := ⟨v, rfl, h⟩
theorem rd_n21 {a0 a1 a2 a3 a4 a5 a6 a7 a8 a9 a10 a11 a12 a13 a14 a15 a16 a17 a18 a19 a20 b} {l : L2.St} {QG : L2.St → Hp → Prop} (h : QG (a0 :: a1 :: a2 :: a3 :: a4 :: a5 :: a6 :: a7 :: a8 :: a9 :: a10 :: a11 :: a12 :: a13 :: a14 :: a15 :: a16 :: a17 :: a18 :: a19 :: a20 :: some v :: l) H) : gName 21 v (a0 :: a1 :: a2 :: a3 :: a4 :: a5 :: a6 :: a7 :: a8 :: a9 :: a10 :: a11 :: a12 :: a13 :: a14 :: a15 :: a16 :: a17 :: a18 :: a19 :: a20 :: b :: l) H QG := h
theorem rd_v22 {a0 a1 a2 a3 a4 a5 a6 a7 a8 a9 a10 a11 a12 a13 a14 a15 a16 a17 a18 a19 a20 a21} {l : L2.St} (h : Q v H) : tVar 22 (a0 :: a1 :: a2 :: a3 :: a4 :: a5 :: a6 :: a7 :: a8 :: a9 :: a10 :: a11 :: a12 :: a13 :: a14 :: a15 :: a16 :: a17 :: a18 :: a19 :: a20 :: a21 :: some v :: l) H Q := ⟨v, rfl, h⟩
theorem rd_n22 {a0 a1 a2 a3 a4 a5 a6 a7 a8 a9 a10 a11 a12 a13 a14 a15 a16 a17 a18 a19 a20 a21 b} {l : L2.St} {QG : L2.St → Hp → Prop} (h : QG (a0 :: a1 :: a2 :: a3 :: a4 :: a5 :: a6 :: a7 :: a8 :: a9 :: a10 :: a11 :: a12 :: a13 :: a14 :: a15 :: a16 :: a17 :: a18 :: a19 :: a20 :: a21 :: some v :: l) H) : gName 22 v (a0 :: a1 :: a2 :: a3 :: a4 :: a5 :: a6 :: a7 :: a8 :: a9 :: a10 :: a11 :: a12 :: a13 :: a14 :: a15 :: a16 :: a17 :: a18 :: a19 :: a20 :: a21 :: b :: l) H QG := h
theorem rd_v23 {a0 a1 a2 a3 a4 a5 a6 a7 a8 a9 a10 a11 a12 a13 a14 a15 a16 a17 a18 a19 a20 a21 a22} {l : L2.St} (h : Q v H) : tVar 23 (a0 :: a1 :: a2 :: a3 :: a4 :: a5 :: a6 :: a7 :: a8 :: a9 :: a10 :: a11 :: a12 :: a13 :: a14 :: a15 :: a16 :: a17 :: a18 :: a19 :: a20 :: a21 :: a22 :: some v :: l) H Q := ⟨v, rfl, h⟩
theorem rd_n23 {a0 a1 a2 a3 a4 a5 a6 a7 a8 a9 a10 a11 a12 a13 a14 a15 a16 a17 a18 a19 a20 a21 a22 b} {l : L2.St} {QG : L2.St → Hp → Prop} (h : QG (a0 :: a1 :: a2 :: a3 :: a4 :: a5 :: a6 :: a7 :: a8 :: a9 :: a10 :: a11 :: a12 :: a13 :: a14 :: a15 :: a16 :: a17 :: a18 :: a19 :: a20 :: a21 :: a22 :: some v :: l) H) : gName 23 v (a0 :: a1 :: a2 :: a3 :: a4 :: a5 :: a6 :: a7 :: a8 :: a9 :: a10 :: a11 :: a12 :: a13 :: a14 :: a15 :: a16 :: a17 :: a18 :: a19 :: a20 :: a21 :: a22 :: b :: l) H QG := h
theorem rd_v24 {a0 a1 a2 a3 a4 a5 a6 a7 a8 a9 a10 a11 a12 a13 a14 a15 a16 a17 a18 a19 a20 a21 a22 a23} {l : L2.St} (h : Q v H) : tVar 24 (a0 :: a1 :: a2 :: a3 :: a4 :: a5 :: a6 :: a7 :: a8 :: a9 :: a10 :: a11 :: a12 :: a13 :: a14 :: a15 :: a16 :: a17 :: a18 :: a19 :: a20 :: a21 :: a22 :: a23 :: some v :: l) H Q := ⟨v, rfl, h⟩
theorem rd_n24 {a0 a1 a2 a3 a4 a5 a6 a7 a8 a9 a10 a11 a12 a13 a14 a15 a16 a17 a18 a19 a20 a21 a22 a23 b} {l : L2.St} {QG : L2.St → Hp → Prop} (h : QG (a0 :: a1 :: a2 :: a3 :: a4 :: a5 :: a6 :: a7 :: a8 :: a9 :: a10 :: a11 :: a12 :: a13 :: a14 :: a15 :: a16 :: a17 :: a18 :: a19 :: a20 :: a21 :: a22 :: a23 :: some v :: l) H) : gName 24 v (a0 :: a1 :: a2 :: a3 :: a4 :: a5 :: a6 :: a7 :: a8 :: a9 :: a10 :: a11 :: a12 :: a13 :: a14 :: a15 :: a16 :: a17 :: a18 :: a19 :: a20 :: a21 :: a22 :: a23 :: b :: l) H QG := h
theorem rd_v25 {a0 a1 a2 a3 a4 a5 a6 a7 a8 a9 a10 a11 a12 a13 a14 a15 a16 a17 a18 a19 a20 a21 a22 a23 a24} {l : L2.St} (h : Q v H) : tVar 25 (a0 :: a1 :: a2 :: a3 :: a4 :: a5 :: a6 :: a7 :: a8 :: a9 :: a10 :: a11 :: a12 :: a13 :: a14 :: a15 :: a16 :: a17 :: a18 :: a19 :: a20 :: a21 :: a22 :: a23 :: a24 :: some v :: l) H Q := ⟨v, rfl, h⟩
theorem rd_n25 {a0 a1 a2 a3 a4 a5 a6 a7 a8 a9 a10 a11 a12 a13 a14 a15 a16 a17 a18 a19 a20 a21 a22 a23 a24 b} {l : L2.St} {QG : L2.St → Hp → Prop} (h : QG (a0 :: a1 :: a2 :: a3 :: a4 :: a5 :: a6 :: a7 :: a8 :: a9 :: a10 :: a11 :: a12 :: a13 :: a14 :: a15 :: a16 :: a17 :: a18 :: a19 :: a20 :: a21 :: a22 :: a23 :: a24 :: some v :: l) H) : gName 25 v (a0 :: a1 :: a2 :: a3 :: a4 :: a5 :: a6 :: a7 :: a8 :: a9 :: a10 :: a11 :: a12 :: a13 :: a14 :: a15 :: a16 :: a17 :: a18 :: a19 :: a20 :: a21 :: a22 :: a23 :: a24 :: b :: l) H QG := h
theorem rd_nil0 {QA : List V → Hp → Prop} (h : QA [] H) : tNil σ H QA := h
end
section
open PySem.Froz
/-! ### texts in order, each once -/
def ltS (x y : Str) : Bool := decide (x.cps.toList < y.cps.toList)
def insS (x : Str) : List Str → List Str
  | [] => [x]
  | y :: ys => if x = y then y :: ys else if ltS x y then x :: y :: ys else y :: insS x ys
def srtS : List Str → List Str
  | [] => []
  | x :: xs => insS x (srtS xs)
theorem ltS_ne {x y : Str} (h : ltS x y = true) : x ≠ y := fun e => by
  subst e
  exact List.lt_irrefl _ (of_decide_eq_true h)
theorem ltS_tr {x y z : Str} (h : ltS x y = true) (g : ltS y z = true) : ltS x z = true := decide_eq_true (List.lt_trans (of_decide_eq_true h) (of_decide_eq_true g))
theorem ltS_of {x y : Str} (h : ltS y x = false) (n : x ≠ y) : ltS x y = true := by
  cases g : ltS x y with
  | true => rfl
  | false =>
    refine absurd ?_ n
    have e : x.cps.toList = y.cps.toList := List.le_antisymm (List.not_lt.mp (of_decide_eq_false h)) (List.not_lt.mp (of_decide_eq_false g))
    cases x
    cases y
    simp only at e
    congr 1
    exact Array.ext' e
theorem mem_insS {x z : Str} : ∀ {l : List Str}, z ∈ insS x l ↔ z = x ∨ z ∈ l
  | [] => by simp [insS]
  | y :: ys => by
    unfold insS
    split
    · rename_i c
      subst c
      simp
    · split
      · simp
      · rw [List.mem_cons, mem_insS, List.mem_cons]
        constructor
        · rintro (h | h | h)
          · exact .inr (.inl h)
          · exact .inl h
          · exact .inr (.inr h)
        · rintro (h | h | h)
          · exact .inr (.inl h)
          · exact .inl h
          · exact .inr (.inr h)
theorem mem_srtS {z : Str} : ∀ {l : List Str}, z ∈ srtS l ↔ z ∈ l
  | [] => Iff.rfl
  | x :: xs => by
    unfold srtS
    rw [mem_insS, mem_srtS, List.mem_cons]
abbrev Inc (l : List Str) : Prop := l.Pairwise fun a b => ltS a b = true
theorem inc_insS {x : Str} : ∀ {l : List Str}, Inc l → Inc (insS x l)
  | [], _ => List.pairwise_singleton _ _
  | y :: ys, h => by
    obtain ⟨h1, h2⟩ := List.pairwise_cons.mp h
    unfold insS
    split
    · exact h
    · rename_i n
      split
      · rename_i c
        refine List.pairwise_cons.mpr ⟨fun z hz => ?_, h⟩
        rcases List.mem_cons.mp hz with e | hz
        · exact e ▸ c
        · exact ltS_tr c (h1 z hz)
      · rename_i c
        refine List.pairwise_cons.mpr ⟨fun z hz => ?_, inc_insS h2⟩
        rcases mem_insS.mp hz with e | hz
        · exact e ▸ ltS_of (by cases k : ltS x y with | true => exact absurd k c | false => rfl) (Ne.symm n)
        · exact h1 z hz
theorem inc_srtS : ∀ l : List Str, Inc (srtS l)
  | [] => List.Pairwise.nil
  | _ :: xs => inc_insS (inc_srtS xs)
theorem inc_one : ∀ {l m : List Str}, Inc l → Inc m → (∀ z, z ∈ l ↔ z ∈ m) → l = m
  | [], [], _, _, _ => rfl
  | [], y :: m, _, _, h => nomatch (h y).mpr (.head _)
  | x :: l, [], _, _, h => nomatch (h x).mp (.head _)
  | x :: l, y :: m, a, b, h => by
    obtain ⟨a1, a2⟩ := List.pairwise_cons.mp a
    obtain ⟨b1, b2⟩ := List.pairwise_cons.mp b
    have e : x = y := by
      rcases List.mem_cons.mp ((h x).mp (.head _)) with e | hx
      · exact e
      · rcases List.mem_cons.mp ((h y).mpr (.head _)) with e | hy
        · exact e.symm
        · exact absurd rfl (ltS_ne (ltS_tr (a1 y hy) (b1 x hx)))
    subst e
    rw [inc_one a2 b2 fun z => ⟨fun hz => ?_, fun hz => ?_⟩]
    · rcases List.mem_cons.mp ((h z).mp (.tail _ hz)) with e | hm
      · exact absurd e.symm (ltS_ne (a1 z hz))
      · exact hm
    · rcases List.mem_cons.mp ((h z).mpr (.tail _ hz)) with e | hm
      · exact absurd e.symm (ltS_ne (b1 z hz))
      · exact hm
theorem inc_of : ∀ {l : List Str}, sortedS l = true → l.Nodup → Inc l
  | [], _, _ => List.Pairwise.nil
  | [x], _, _ => List.pairwise_singleton _ _
  | x :: y :: l, h, n => by
    have h' : (!ltCps y.cps.toList x.cps.toList && risingS y l) = true := h
    rw [Bool.and_eq_true, Bool.not_eq_true', ltCps_eq] at h'
    obtain ⟨n1, n2⟩ := List.nodup_cons.mp n
    have r := inc_of (l := y :: l) h'.2 n2
    have c : ltS x y = true := ltS_of h'.1 fun e => n1 (e ▸ .head _)
    refine List.pairwise_cons.mpr ⟨fun z hz => ?_, r⟩
    rcases List.mem_cons.mp hz with e | hz
    · exact e ▸ c
    · exact ltS_tr c ((List.pairwise_cons.mp r).1 z hz)
theorem perm_of_len : ∀ {l m : List Str}, l.Nodup → (∀ z ∈ l, z ∈ m) → m.length = l.length → l.Perm m
  | [], m, _, _, h => by
    rw [List.eq_nil_of_length_eq_zero h]
  | x :: l, m, n, h, k => by
    obtain ⟨n1, n2⟩ := List.nodup_cons.mp n
    have hx := h x (.head _)
    have p := List.perm_cons_erase hx
    have q := p.length_eq
    rw [List.length_cons] at q k
    refine List.Perm.trans (.cons x (perm_of_len n2 (fun z hz => ?_) (by omega))) p.symm
    exact (List.mem_erase_of_ne fun (e : z = x) => n1 (e ▸ hz)).mpr (h z (.tail _ hz))
section
variable {P : Program} {w : World} {A : Around} {E : Value → Shared → Prop} {s : Shared}
theorem txt_of {k : Str} {v : Value} (h : (PySem.strKind P w).is k v = true) : ∃ u, v = .str k u := by
  have h' : Value.isStrOf k v = true := h
  cases v with
  | str y u =>
    have e : (y == k) = true := h'
    exact ⟨u, by rw [eq_of_beq e]⟩
  | _ => exact Bool.noConfusion (show false = true from h')
set_option maxHeartbeats 3200000 in
theorem sorted_txts {a : Addr} {o : Obj} {xs : List Str} {Q : Value → Shared → Prop} (quiet : A.handled = none) (ho : s.heap.get? a = some o) (J : SetAfter P w xs xs.length o) (few : xs.length < 60)
    (q : ∀ s' p (out : Array Value) (c : Nat), (∀ b u, s.heap.get? b = some u → s'.heap.get? b = some u) → s'.gens = s.gens → s'.os = s.os → s.heap.objs.size ≤ p → s'.heap.get? p = some (seqObj "list" out c) → StrsAre out.toList (srtS xs) → Q (.ref p) s') :
    wpAny (model P w) A (call (.builtin "sorted") [.ref a]) Q E s := by
  obtain ⟨⟨es, ep, t⟩, l, rfl, T, len, mem⟩ := J
  have hz : es.size = l.length := T.ok.sz
  have big : es.size < scanBound := by unfold scanBound; omega
  have el : ∀ e ∈ es.toList, ∃ k u, e.2 = Value.str k u := fun e he => by
    obtain ⟨⟨k, hk, _⟩, _⟩ := T.ok.el e he
    obtain ⟨u, hu⟩ := txt_of hk
    exact ⟨k, u, hu⟩
  have pm0 : l.Perm (es.toList.map fun e => strOf e.2) := by
    refine perm_of_len T.nd (fun z hz => ?_) (by rw [List.length_map, Array.length_toList]; exact hz)
    obtain ⟨e, he, hk⟩ := (T.ok.mem z).mp hz
    obtain ⟨u, hu⟩ := txt_of hk
    exact List.mem_map.mpr ⟨e, he, by rw [hu]; rfl⟩
  refine Calls.call_function_entry kind_sorted plain_sorted entry_sorted (args_sorted1 _) ?_
  unfold Builtin.«sorted»
  refine wpAny_bind (m := checkCount "sorted" 1 1 _) (wpAny_pure ?_)
  refine wpAny_bind (collect_set (A := A.in1) quiet ⟨_, ho, rfl, rfl⟩ T.ok.fit big T.ris T.led fun s1 vs old grow g1 o1 pm => ?_)
  have vl : vs.length < 60 := by
    rw [pm.length_eq, List.length_map, Array.length_toList]
    show es.size < 60
    omega
  have txt : StrsAre vs (vs.map strOf) := strsAre_map vs fun v hv => by
    obtain ⟨e, he, ev⟩ := List.mem_map.mp (pm.mem_iff.mp hv)
    obtain ⟨k, u, hu⟩ := el e he
    exact ⟨k, u, by rw [← ev, hu]⟩
  have pm1 : (vs.map strOf).Perm l := by
    have p1 := pm.map strOf
    rw [List.map_map] at p1
    exact p1.trans pm0.symm
  refine wpAny_bind (wpAny_newList ?_ (line_of (by omega)))
  have new : (s1.heap.push (seqObj "list" vs.toArray 0)).get? s1.heap.objs.size = some (seqObj "list" vs.toArray 0) := Heap.get?_push_size _ rfl
  refine wpAny_bind (wpAny_holding (wpAny_call_entry slot_list_sort ⟨_, new, rfl⟩ entry_list_sort (list_sort_treeK strKind_oneLt new txt.keysOf (fun v1 v2 r e => keyKind_strs (by rw [← e]; exact txt)) (by omega) fun st' hp hs => ⟨_, rfl, ?_⟩) (args_list_sort _)))
  obtain ⟨ss, h1, h2, h3⟩ := sorted_out_str txt hp hs
  obtain ⟨c, hc⟩ := sortedHeap_at (vs := vs) (out := (arrOf st').map (·.2)) new
  have p2 := h2.trans pm1
  have e : ss = srtS xs := inc_one (inc_of h3 (p2.nodup_iff.mpr T.nd)) (inc_srtS xs) fun z => by rw [p2.mem_iff, mem, List.take_length, mem_srtS]
  rw [e] at h1
  refine wpAny_pure ⟨_, rfl, q _ s1.heap.objs.size _ c (fun b u hb => ?_) g1 o1 grow hc h1⟩
  have hb1 := old b u hb
  have lt1 := Heap.lt_size hb1
  refine (sortedHeap_old (Nat.ne_of_lt lt1) ?_).trans (Heap.get?_push_of_some _ hb1)
  rw [Heap.size_push]
  exact Nat.lt_succ_of_lt lt1
end
end
section
open PySem.Froz
/-- the set of the texts xs, at a -/
def SetSO (P : Program) (w : World) (a : Addr) (xs : List Str) : HO := .ext fun h => ∃ o, h.get? a = some o ∧ SetAfter P w xs xs.length o
theorem setSO_new {P : Program} {w : World} {H : Hp} {h : Heap} {a : Addr} {xs : List Str} {o : Obj} (ho : h.get? a = some o) (J : SetAfter P w xs xs.length o) : ObjOk P w H h a (SetSO P w a xs) :=
  ⟨⟨o, ho, J⟩, ⟨o, ho⟩, fun _ _ p k => let ⟨o', e, j⟩ := p; ⟨o', k o' e, j⟩⟩
def rSetS (K : PySem.W.Frag) (P : Program) (w : World) : List V → Hp → VK → Prop := fun vs H Q => ∃ (l : Addr) (xs : List Str), vs = [V.ref l] ∧ SqT K H l (xs.map V.str) ∧ xs.length < 60 ∧ ∀ p, H p = none → Q (.ref p) (upd H p (SetSO P w p xs))
def rSrtS (P : Program) (w : World) : List V → Hp → VK → Prop := fun vs H Q => ∃ (a : Addr) (xs : List Str), vs = [V.ref a] ∧ H a = some (SetSO P w a xs) ∧ xs.length < 60 ∧ ∀ p, H p = none → Q (.ref p) (upd H p (.lst ((srtS xs).map V.str)))
theorem vals_strs : ∀ {us : List Value} {xs : List Str}, StrsAre us xs → Vals (xs.map V.str) us
  | _, _, .nil => .nil
  | _, _, .cons _ k t => .cons ⟨k, rfl⟩ (vals_strs t)
theorem len_insS (x : Str) : ∀ l : List Str, (insS x l).length ≤ l.length + 1
  | [] => Nat.le_refl _
  | y :: ys => by
    unfold insS
    split
    · exact Nat.le_succ _
    · split
      · exact Nat.le_refl _
      · exact Nat.succ_le_succ (len_insS x ys)
theorem len_srtS : ∀ l : List Str, (srtS l).length ≤ l.length
  | [] => Nat.le_refl _
  | x :: xs => Nat.le_trans (len_insS x _) (Nat.succ_le_succ (len_srtS xs))
section
variable {X : Cx}
theorem cr_setS (hc : X.calm = true) : CallR X (.type "set") (rSetS X.K X.prog X.w) := by
  intro pins s σ H vs us Q I r h
  obtain ⟨l, xs, rfl, tup, few, q⟩ := h
  rw [Vals.ref1 r]
  obtain ⟨its, r2, pl, hz⟩ := I.tuple tup
  refine set_of_tup (I.ok.hd hc) pl (by simpa using strsAre_of r2) (by unfold scanBound; omega) fun h' tk o ho J old => ?_
  exact ⟨.ref _, upd H s.heap.objs.size (SetSO X.prog X.w s.heap.objs.size xs), I.laid (t' := tk) old (Nat.le_refl _) (setSO_new ho J), rfl, q _ (I.hok.fresh (Nat.le_refl _))⟩
theorem cr_srtS (hc : X.calm = true) : CallR X (.builtin "sorted") (rSrtS X.prog X.w) := by
  intro pins s σ H vs us Q I r h
  obtain ⟨a, xs, rfl, ha, few, q⟩ := h
  obtain ⟨o, ho, J⟩ : ∃ o, s.heap.get? a = some o ∧ SetAfter X.prog X.w xs xs.length o := (I.hok a _ ha).1
  rw [Vals.ref1 r]
  refine sorted_txts (I.ok.hd hc) ho J few fun s2 p out c old g o2 hp hg txt => ?_
  have free : H p = none := I.hok.fresh hp
  have len : ((srtS xs).map V.str).length ≤ sizeLine := by
    rw [List.length_map]
    exact line_of (Nat.le_trans (len_srtS xs) (by omega))
  have I2 : Inv X pins σ (upd H p (.lst ((srtS xs).map V.str))) { s with heap := s2.heap, gens := s2.gens, drawn := s2.drawn, toks := s2.toks } :=
    I.call (ch := []) (Un.laid old hp free) (I.hok.laid old hp ⟨len, out.toList, c, vals_strs txt, hg⟩) (by rw [g]; exact I.bare) (fun _ z => nomatch z)
  have e : s2 = { s with heap := s2.heap, gens := s2.gens, drawn := s2.drawn, toks := s2.toks } := by
    obtain ⟨h1, h2, h3, h4, h5⟩ := s2
    have e5 : h5 = s.os := o2
    rw [e5]
  rw [e]
  exact ⟨.ref p, _, I2, rfl, q p free⟩
end
end
/-! ## The abstract layer: values without addresses, a store of what may change -/
inductive D where
  | non | bl (b : Bool) | int (i : Int) | str (x : Str) | ref (n : Nat) | tup (ds : List D) | ty (n : String) | scr (ns : List Int)
inductive O where
  | lst (ds : List D)
  | obj (C : Addr) (ds : List D)
  | dK (kvs : List (Key × D))
  | met (f : Addr) (d : Nat)
abbrev Sto := List O
abbrev Sl := List (Option D)
/-- a tuple that is read, whose object has no dict -/
def TupR (K : PySem.W.Frag) (H : Hp) (a : Addr) (xs : List V) : Prop :=
  (∃ o : Obj, o.dict = Option.none ∧ H a = some (.frz o (.tup xs))) ∨
    ∃ (o : Obj) (its : Array Value) (n : Nat), K.lookup a = some o ∧ o.dict = Option.none ∧ o.cls = .type "tuple" ∧ o.data = .seq its n ∧ its.size ≤ sizeLine ∧ Vals xs its.toList
/-- the script: a list that is never written -/
def ScrR (K : PySem.W.Frag) (H : Hp) (a : Addr) (xs : List V) : Prop :=
  (∃ o : Obj, H a = some (.frz o (.lst xs))) ∨
    ∃ (o : Obj) (its : Array Value) (n : Nat), K.lookup a = some o ∧ o.cls = .type "list" ∧ o.dict = none ∧ o.data = .seq its n ∧ its.size ≤ sizeLine ∧ Vals xs its.toList
theorem ScrR.seq {K : PySem.W.Frag} {H : Hp} {a : Addr} {xs : List V} (h : ScrR K H a xs) : SqL K H a xs := by
  rcases h with ⟨o, e⟩ | h
  · exact .inl (.inr ⟨o, e⟩)
  · exact .inr h
theorem ScrR.of {K : PySem.W.Frag} {H : Hp} {a : Addr} {xs : List V} (hO : Only H) (h : SqL K H a xs) : ScrR K H a xs := by
  rcases h with (h | h) | h
  · rcases hO a with q | ⟨o, ys, q⟩
    · rw [h] at q
      cases q
    · rw [h] at q
      cases q
  · exact .inl h
  · exact .inr h
theorem TupR.seq {K : PySem.W.Frag} {H : Hp} {a : Addr} {xs : List V} (h : TupR K H a xs) : SqT K H a xs := by
  rcases h with ⟨o, _, e⟩ | ⟨o, its, n, a, b, c, d, e, f⟩
  · exact .inl (.inr ⟨o, e⟩)
  · exact .inr ⟨o, its, n, a, c, d, e, f⟩
mutual
def RepV (K : PySem.W.Frag) (ι : List Addr) (H : Hp) : D → V → Prop
  | .non, v => v = .non
  | .bl b, v => v = .bl b
  | .int i, v => v = .int i
  | .str x, v => v = .str x
  | .ref n, v => ∃ a, ι[n]? = some a ∧ v = .ref a
  | .ty n, v => v = .ty n
  | .scr ns, v => ∃ a, v = .ref a ∧ ScrR K H a (ns.map V.int)
  | .tup ds, v => ∃ a xs, v = .ref a ∧ TupR K H a xs ∧ RepL K ι H ds xs
def RepL (K : PySem.W.Frag) (ι : List Addr) (H : Hp) : List D → List V → Prop
  | [], xs => xs = []
  | d :: ds, xs => ∃ x r, xs = x :: r ∧ RepV K ι H d x ∧ RepL K ι H ds r
end
/-- later: more addresses, the tuples as they were -/
structure Fut (K : PySem.W.Frag) (ι : List Addr) (H : Hp) (ι' : List Addr) (H' : Hp) : Prop where
  pre : ι <+: ι'
  tup : ∀ a xs, TupR K H a xs → TupR K H' a xs
  scr : ∀ a xs, ScrR K H a xs → ScrR K H' a xs
section
variable {K : PySem.W.Frag} {ι ι' ι2 : List Addr} {H H' H2 : Hp}
theorem Fut.refl (ι : List Addr) (H : Hp) : Fut K ι H ι H := ⟨List.prefix_refl _, fun _ _ h => h, fun _ _ h => h⟩
theorem Fut.trans (a : Fut K ι H ι' H') (b : Fut K ι' H' ι2 H2) : Fut K ι H ι2 H2 := ⟨a.pre.trans b.pre, fun x xs h => b.tup x xs (a.tup x xs h), fun x xs h => b.scr x xs (a.scr x xs h)⟩
theorem Fut.ix (f : Fut K ι H ι' H') {n : Nat} {a : Addr} (e : ι[n]? = some a) : ι'[n]? = some a := by
  obtain ⟨t, rfl⟩ := f.pre
  rw [List.getElem?_append_left (List.getElem?_eq_some_iff.mp e).1]
  exact e
mutual
theorem RepV.fut (f : Fut K ι H ι' H') : ∀ {d : D} {v : V}, RepV K ι H d v → RepV K ι' H' d v
  | .non, _, h => h
  | .bl _, _, h => h
  | .int _, _, h => h
  | .str _, _, h => h
  | .ty _, _, h => h
  | .scr ns, v, h => by
    unfold RepV at h ⊢
    obtain ⟨a, e, q⟩ := h
    exact ⟨a, e, f.scr _ _ q⟩
  | .ref n, v, h => by
    unfold RepV at h ⊢
    obtain ⟨a, e, q⟩ := h
    exact ⟨a, f.ix e, q⟩
  | .tup ds, v, h => by
    unfold RepV at h ⊢
    obtain ⟨a, xs, e, t, l⟩ := h
    exact ⟨a, xs, e, f.tup _ _ t, RepL.fut f l⟩
theorem RepL.fut (f : Fut K ι H ι' H') : ∀ {ds : List D} {vs : List V}, RepL K ι H ds vs → RepL K ι' H' ds vs
  | [], _, h => h
  | d :: ds, vs, h => by
    unfold RepL at h ⊢
    obtain ⟨x, r, e, a, b⟩ := h
    exact ⟨x, r, e, RepV.fut f a, RepL.fut f b⟩
end
theorem RepL.nil : RepL K ι H [] [] := rfl
theorem RepL.cons {d : D} {ds : List D} {v : V} {vs : List V} (a : RepV K ι H d v) (b : RepL K ι H ds vs) : RepL K ι H (d :: ds) (v :: vs) := ⟨v, vs, rfl, a, b⟩
theorem RepL.length : ∀ {ds : List D} {vs : List V}, RepL K ι H ds vs → vs.length = ds.length
  | [], vs, h => by rw [show vs = [] from h]; rfl
  | d :: ds, vs, h => by
    obtain ⟨x, r, rfl, _, b⟩ := h
    rw [List.length_cons, List.length_cons, RepL.length b]
theorem RepL.get : ∀ {ds : List D} {vs : List V} {i : Nat} {d : D}, RepL K ι H ds vs → ds[i]? = some d → ∃ v, vs[i]? = some v ∧ RepV K ι H d v
  | [], _, i, d, _, e => by simp at e
  | c :: ds, vs, 0, d, h, e => by
    obtain ⟨x, r, rfl, a, b⟩ := h
    simp at e
    subst e
    exact ⟨x, rfl, a⟩
  | c :: ds, vs, i + 1, d, h, e => by
    obtain ⟨x, r, rfl, a, b⟩ := h
    rw [List.getElem?_cons_succ] at e
    obtain ⟨v, e2, q⟩ := RepL.get (i := i) b e
    exact ⟨v, by rw [List.getElem?_cons_succ]; exact e2, q⟩
theorem RepL.get' : ∀ {ds : List D} {vs : List V} {i : Nat} {v : V}, RepL K ι H ds vs → vs[i]? = some v → ∃ d, ds[i]? = some d ∧ RepV K ι H d v
  | [], vs, i, d, h, e => by rw [show vs = [] from h] at e; simp at e
  | c :: ds, vs, 0, d, h, e => by
    obtain ⟨x, r, rfl, a, b⟩ := h
    simp at e
    subst e
    exact ⟨c, rfl, a⟩
  | c :: ds, vs, i + 1, d, h, e => by
    obtain ⟨x, r, rfl, a, b⟩ := h
    rw [List.getElem?_cons_succ] at e
    obtain ⟨v, e2, q⟩ := RepL.get' (i := i) b e
    exact ⟨v, by rw [List.getElem?_cons_succ]; exact e2, q⟩
theorem RepL.append : ∀ {ds es : List D} {vs us : List V}, RepL K ι H ds vs → RepL K ι H es us → RepL K ι H (ds ++ es) (vs ++ us)
  | [], es, vs, us, h, g => by rw [show vs = [] from h]; exact g
  | d :: ds, es, vs, us, h, g => by
    obtain ⟨x, r, rfl, a, b⟩ := h
    exact RepL.cons a (RepL.append b g)
theorem RepL.set : ∀ {ds : List D} {vs : List V} {i : Nat} {d : D} {v : V}, RepL K ι H ds vs → RepV K ι H d v → RepL K ι H (ds.set i d) (vs.set i v)
  | [], vs, i, d, v, h, g => by rw [show vs = [] from h]; exact rfl
  | c :: ds, vs, 0, d, v, h, g => by
    obtain ⟨x, r, rfl, a, b⟩ := h
    exact RepL.cons g b
  | c :: ds, vs, i + 1, d, v, h, g => by
    obtain ⟨x, r, rfl, a, b⟩ := h
    exact RepL.cons a (RepL.set b g)
theorem RepL.take : ∀ {ds : List D} {vs : List V} (i : Nat), RepL K ι H ds vs → RepL K ι H (ds.take i) (vs.take i)
  | _, _, 0, _ => rfl
  | [], vs, i + 1, h => by rw [show vs = [] from h]; exact rfl
  | c :: ds, vs, i + 1, h => by
    obtain ⟨x, r, rfl, a, b⟩ := h
    exact RepL.cons a (RepL.take i b)
theorem RepL.drop : ∀ {ds : List D} {vs : List V} (i : Nat), RepL K ι H ds vs → RepL K ι H (ds.drop i) (vs.drop i)
  | _, _, 0, h => h
  | [], vs, i + 1, h => by rw [show vs = [] from h]; exact rfl
  | c :: ds, vs, i + 1, h => by
    obtain ⟨x, r, rfl, a, b⟩ := h
    exact RepL.drop i b
end
/-! ### the store -/
abbrev Nms := Addr → List Str
def RepK (K : PySem.W.Frag) (ι : List Addr) (H : Hp) (kvs : List (Key × D)) (us : List (Key × V)) : Prop := kvs.map (·.1) = us.map (·.1) ∧ RepL K ι H (kvs.map (·.2)) (us.map (·.2))
def RepO (K : PySem.W.Frag) (N : Nms) (ι : List Addr) (H : Hp) (a : Addr) : O → Prop
  | .lst ds => ∃ xs, H a = some (.lst xs) ∧ RepL K ι H ds xs
  | .obj C ds => ∃ dx xs, H a = some (.ins C dx ((N C).zip xs)) ∧ ds.length ≤ (N C).length ∧ RepL K ι H ds xs
  | .dK kvs => ∃ us, H a = some (.dK us) ∧ RepK K ι H kvs us
  | .met f n => ∃ b, H a = some (.met f b) ∧ ι[n]? = some b
structure Rep (K : PySem.W.Frag) (N : Nms) (ι : List Addr) (H : Hp) (S : Sto) : Prop where
  len : ι.length = S.length
  nd : ι.Nodup
  ob : ∀ (n : Nat) (o : O), S[n]? = some o → ∃ a, ι[n]? = some a ∧ RepO K N ι H a o
def mutO : O → Bool
  | .met _ _ => false
  | _ => true
section
variable {K : PySem.W.Frag} {N : Nms} {ι ι' ι2 : List Addr} {H H' H2 : Hp} {S : Sto}
theorem RepK.fut (f : Fut K ι H ι' H') {kvs : List (Key × D)} {us : List (Key × V)} (h : RepK K ι H kvs us) : RepK K ι' H' kvs us := ⟨h.1, h.2.fut f⟩
/-- what stands at an address of the store is no tuple -/
theorem RepO.notup {a : Addr} {o : O} (h : RepO K N ι H a o) : ∃ u, H a = some u ∧ ∀ b w, u ≠ .frz b w := by
  cases o with
  | lst ds =>
    obtain ⟨xs, e, _⟩ := h
    exact ⟨_, e, fun _ _ z => by cases z⟩
  | obj C ds =>
    obtain ⟨dx, xs, e, _⟩ := h
    exact ⟨_, e, fun _ _ z => by cases z⟩
  | dK kvs =>
    obtain ⟨us, e, _⟩ := h
    exact ⟨_, e, fun _ _ z => by cases z⟩
  | met f n =>
    obtain ⟨b, e, _⟩ := h
    exact ⟨_, e, fun _ _ z => by cases z⟩
theorem tup_upd {p : Addr} {o : HO} (hp : H p = none ∨ ∃ u, H p = some u ∧ ∀ b w, u ≠ .frz b w) : ∀ a xs, TupR K H a xs → TupR K (upd H p o) a xs := by
  intro a xs t
  rcases t with ⟨b, hb, e⟩ | t
  · refine .inl ⟨b, hb, ?_⟩
    rw [upd_ne fun z => ?_]
    · exact e
    · subst z
      rcases hp with q | ⟨u, q, n⟩
      · rw [e] at q
        cases q
      · rw [e] at q
        exact n b _ (Option.some.inj q).symm
  · exact .inr t
theorem scr_upd {p : Addr} {o : HO} (hp : H p = none ∨ ∃ u, H p = some u ∧ ∀ b w, u ≠ .frz b w) : ∀ a xs, ScrR K H a xs → ScrR K (upd H p o) a xs := by
  intro a xs t
  rcases t with ⟨b, e⟩ | t
  · refine .inl ⟨b, ?_⟩
    rw [upd_ne fun z => ?_]
    · exact e
    · subst z
      rcases hp with q | ⟨u, q, n⟩
      · rw [e] at q
        cases q
      · rw [e] at q
        exact n b _ (Option.some.inj q).symm
  · exact .inr t
theorem fut_new {p : Addr} {o : HO} (hp : H p = none) : Fut K ι H (ι ++ [p]) (upd H p o) := ⟨List.prefix_append _ _, tup_upd (.inl hp), scr_upd (.inl hp)⟩
theorem fut_upd0 {p : Addr} {o : HO} (hp : H p = none) : Fut K ι H ι (upd H p o) := ⟨List.prefix_refl _, tup_upd (.inl hp), scr_upd (.inl hp)⟩
theorem RepO.move (f : Fut K ι H ι' H') {a : Addr} {o : O} (h : RepO K N ι H a o) (e : H' a = H a) : RepO K N ι' H' a o := by
  cases o with
  | lst ds =>
    obtain ⟨xs, q, r⟩ := h
    exact ⟨xs, e.trans q, r.fut f⟩
  | obj C ds =>
    obtain ⟨dx, xs, q, l, r⟩ := h
    exact ⟨dx, xs, e.trans q, l, r.fut f⟩
  | dK kvs =>
    obtain ⟨us, q, r⟩ := h
    exact ⟨us, e.trans q, r.fut f⟩
  | met g n =>
    obtain ⟨b, q, r⟩ := h
    exact ⟨b, e.trans q, f.ix r⟩
theorem Rep.alive (R : Rep K N ι H S) {a : Addr} (h : a ∈ ι) : ∃ u, H a = some u ∧ ∀ b w, u ≠ .frz b w := by
  obtain ⟨n, hn, rfl⟩ := List.mem_iff_getElem.mp h
  have hs : n < S.length := by rw [← R.len]; exact hn
  obtain ⟨a, e, r⟩ := R.ob n S[n] (List.getElem?_eq_getElem hs)
  rw [List.getElem?_eq_getElem hn] at e
  rw [Option.some.inj e]
  exact r.notup
theorem Rep.notin (R : Rep K N ι H S) {p : Addr} (h : H p = none) : p ∉ ι := fun m => by
  obtain ⟨u, e, _⟩ := R.alive m
  rw [h] at e
  cases e
/-- the heap has grown by what is not in the store -/
theorem Rep.grow (R : Rep K N ι H S) {p : Addr} {o : HO} (hp : H p = none) : Rep K N ι (upd H p o) S := ⟨R.len, R.nd, fun n ob e => by
  obtain ⟨a, ea, r⟩ := R.ob n ob e
  exact ⟨a, ea, r.move (fut_upd0 hp) (upd_ne fun z => R.notin hp (z ▸ List.mem_of_getElem? ea))⟩⟩
/-- a new object of the store -/
theorem Rep.new (R : Rep K N ι H S) {p : Addr} {o : HO} {ob : O} (hp : H p = none) (h : RepO K N (ι ++ [p]) (upd H p o) p ob) : Rep K N (ι ++ [p]) (upd H p o) (S ++ [ob]) := by
  have np := R.notin hp
  refine ⟨by rw [List.length_append, List.length_append, R.len]; rfl, ?_, fun n u e => ?_⟩
  · rw [List.nodup_append]
    refine ⟨R.nd, by simp, fun a ha b hb z => ?_⟩
    rw [List.mem_singleton.mp hb] at z
    exact np (z ▸ ha)
  · by_cases hn : n < S.length
    · rw [List.getElem?_append_left hn] at e
      obtain ⟨a, ea, r⟩ := R.ob n u e
      refine ⟨a, ?_, r.move (fut_new hp) (upd_ne fun z => np (z ▸ List.mem_of_getElem? ea))⟩
      rw [List.getElem?_append_left (List.getElem?_eq_some_iff.mp ea).1]
      exact ea
    · have h2 := (List.getElem?_eq_some_iff.mp e).1
      rw [List.length_append] at h2
      have h3 : n < S.length + 1 := h2
      have en : n = S.length := by omega
      rw [en, List.getElem?_append_right (Nat.le_refl _), Nat.sub_self] at e
      have eu : ob = u := by simpa using e
      rw [← eu]
      refine ⟨p, ?_, h⟩
      rw [en, ← R.len, List.getElem?_append_right (Nat.le_refl _), Nat.sub_self]
      rfl
/-- an object of the store is changed -/
theorem Rep.put (R : Rep K N ι H S) {n : Nat} {a : Addr} {o : HO} {ob : O} (ea : ι[n]? = some a) (h : ∀ H', H' = upd H a o → Fut K ι H ι H' → RepO K N ι H' a ob) : Rep K N ι (upd H a o) (S.set n ob) ∧ Fut K ι H ι (upd H a o) := by
  have al := R.alive (List.mem_of_getElem? ea)
  have f : Fut K ι H ι (upd H a o) := ⟨List.prefix_refl _, tup_upd (.inr al), scr_upd (.inr al)⟩
  refine ⟨⟨by rw [List.length_set]; exact R.len, R.nd, fun m u e => ?_⟩, f⟩
  have hn : n < S.length := by rw [← R.len]; exact (List.getElem?_eq_some_iff.mp ea).1
  by_cases hm : n = m
  · subst hm
    rw [List.getElem?_set_self hn] at e
    rw [← Option.some.inj e]
    exact ⟨a, ea, h _ rfl f⟩
  · rw [List.getElem?_set_ne hm] at e
    obtain ⟨b, eb, r⟩ := R.ob m u e
    refine ⟨b, eb, r.move f (upd_ne fun z => hm ?_)⟩
    subst z
    exact (List.getElem?_inj (List.getElem?_eq_some_iff.mp ea).1 R.nd).mp (ea.trans eb.symm)
theorem Rep.list (R : Rep K N ι H S) {n : Nat} {ds : List D} (e : S[n]? = some (.lst ds)) : ∃ a xs, ι[n]? = some a ∧ H a = some (.lst xs) ∧ RepL K ι H ds xs := by
  obtain ⟨a, ea, xs, q, r⟩ := R.ob n _ e
  exact ⟨a, xs, ea, q, r⟩
end
/-! ### slots -/
def RepSl (K : PySem.W.Frag) (ι : List Addr) (H : Hp) (σa : Sl) (σ : L2.St) : Prop := σ.length = σa.length ∧ ∀ (i : Nat) (d : D), σa[i]? = some (some d) → ∃ v, σ[i]? = some (some v) ∧ RepV K ι H d v
section
variable {K : PySem.W.Frag} {ι ι' : List Addr} {H H' : Hp} {σa : Sl} {σ : L2.St}
theorem RepSl.fut (f : Fut K ι H ι' H') (h : RepSl K ι H σa σ) : RepSl K ι' H' σa σ := ⟨h.1, fun i d e => let ⟨v, a, b⟩ := h.2 i d e; ⟨v, a, b.fut f⟩⟩
theorem RepSl.set {i : Nat} {d : D} {v : V} (h : RepSl K ι H σa σ) (r : RepV K ι H d v) : RepSl K ι H (σa.set i (some d)) (σ.set i (some v)) := by
  refine ⟨by rw [List.length_set, List.length_set]; exact h.1, fun j c e => ?_⟩
  by_cases hj : i = j
  · subst hj
    by_cases hi : i < σa.length
    · rw [List.getElem?_set_self hi] at e
      have : d = c := by simpa using e
      subst this
      exact ⟨v, by rw [List.getElem?_set_self (by rw [h.1]; exact hi)], r⟩
    · rw [List.getElem?_eq_none (by rw [List.length_set]; omega)] at e
      cases e
  · rw [List.getElem?_set_ne hj] at e
    rw [List.getElem?_set_ne hj]
    exact h.2 j c e
theorem RepSl.unset {i : Nat} {o : Option V} (h : RepSl K ι H σa σ) : RepSl K ι H (σa.set i none) (σ.set i o) := by
  refine ⟨by rw [List.length_set, List.length_set]; exact h.1, fun j c e => ?_⟩
  by_cases hj : i = j
  · subst hj
    by_cases hi : i < σa.length
    · rw [List.getElem?_set_self hi] at e
      simp at e
    · rw [List.getElem?_eq_none (by rw [List.length_set]; omega)] at e
      cases e
  · rw [List.getElem?_set_ne hj] at e
    rw [List.getElem?_set_ne hj]
    exact h.2 j c e
def startA (n : Nat) (ds : List D) : Sl := ds.map some ++ List.replicate (n - ds.length) none
theorem RepSl.start {Ns : List Str} {ds : List D} {vs : List V} (h : RepL K ι H ds vs) : RepSl K ι H (startA Ns.length ds) (L2.start Ns vs) := by
  have l := h.length
  refine ⟨by unfold startA L2.start; simp [l], fun i d e => ?_⟩
  unfold startA at e
  unfold L2.start
  by_cases hi : i < ds.length
  · rw [List.getElem?_append_left (by rw [List.length_map]; exact hi), List.getElem?_map] at e
    rw [List.getElem?_append_left (by rw [List.length_map, l]; exact hi), List.getElem?_map]
    rw [List.getElem?_eq_getElem hi] at e
    have ed : ds[i] = d := by simpa using e
    obtain ⟨v, ev, r⟩ := h.get (i := i) (d := d) (by rw [List.getElem?_eq_getElem hi, ed])
    exact ⟨v, by rw [ev]; rfl, r⟩
  · rw [List.getElem?_append_right (by rw [List.length_map]; omega), List.getElem?_replicate] at e
    split at e <;> simp at e
end
/-! ### results -/
inductive Res (α : Type) where
  | ok (a : α) (S : Sto)
  | ex (C : Addr) (S : Sto)
  | bad
def Res.bind {α β : Type} (r : Res α) (f : α → Sto → Res β) : Res β := match r with
  | .ok a S => f a S
  | .ex C S => .ex C S
  | .bad => .bad
@[simp] theorem Res.bind_ok {α β : Type} (a : α) (S : Sto) (f : α → Sto → Res β) : (Res.ok a S).bind f = f a S := rfl
@[simp] theorem Res.bind_ex {α β : Type} (C : Addr) (S : Sto) (f : α → Sto → Res β) : (Res.ex (α := α) C S).bind f = .ex C S := rfl
@[simp] theorem Res.bind_bad {α β : Type} (f : α → Sto → Res β) : (Res.bad (α := α)).bind f = .bad := rfl
inductive SRes where
  | nx (σ : Sl) (S : Sto) | rt (d : D) (S : Sto) | bk (σ : Sl) (S : Sto) | ct (σ : Sl) (S : Sto) | ex (C : Addr) (σ : Sl) (S : Sto) | bad
abbrev M (α : Type) := Sl → Sto → Res α
abbrev Sm := Sl → Sto → SRes
abbrev Fn := List D → Sto → Res D
section
variable (K : PySem.W.Frag) (N : Nms)
def goodE (W : WX) (r : Res D) (ι : List Addr) (H : Hp) (σ : L2.St) (Q : VK) : Prop := match r with
  | .ok d S' => ∀ ι' H' v, Fut K ι H ι' H' → Rep K N ι' H' S' → RepV K ι' H' d v → Q v H'
  | .ex C S' => ∀ ι' H', Fut K ι H ι' H' → Rep K N ι' H' S' → W (.ref C) none σ H'
  | .bad => False
def goodB (W : WX) (r : Res Bool) (ι : List Addr) (H : Hp) (σ : L2.St) (Q : Bool → Hp → Prop) : Prop := match r with
  | .ok b S' => ∀ ι' H', Fut K ι H ι' H' → Rep K N ι' H' S' → Q b H'
  | .ex C S' => ∀ ι' H', Fut K ι H ι' H' → Rep K N ι' H' S' → W (.ref C) none σ H'
  | .bad => False
def goodL (W : WX) (r : Res (List D)) (ι : List Addr) (H : Hp) (σ : L2.St) (Q : List V → Hp → Prop) : Prop := match r with
  | .ok ds S' => ∀ ι' H' vs, Fut K ι H ι' H' → Rep K N ι' H' S' → RepL K ι' H' ds vs → Q vs H'
  | .ex C S' => ∀ ι' H', Fut K ι H ι' H' → Rep K N ι' H' S' → W (.ref C) none σ H'
  | .bad => False
def goodS (W : WX) (r : SRes) (ι : List Addr) (H : Hp) (T : Ends) : Prop := match r with
  | .nx σa S' => ∀ ι' H' σ, Fut K ι H ι' H' → RepSl K ι' H' σa σ → Rep K N ι' H' S' → T.nx σ H'
  | .bk σa S' => ∀ ι' H' σ, Fut K ι H ι' H' → RepSl K ι' H' σa σ → Rep K N ι' H' S' → T.bk σ H'
  | .ct σa S' => ∀ ι' H' σ, Fut K ι H ι' H' → RepSl K ι' H' σa σ → Rep K N ι' H' S' → T.ct σ H'
  | .rt d S' => ∀ ι' H' v, Fut K ι H ι' H' → Rep K N ι' H' S' → RepV K ι' H' d v → T.rt v H'
  | .ex C σa S' => ∀ ι' H' σ, Fut K ι H ι' H' → RepSl K ι' H' σa σ → Rep K N ι' H' S' → W (.ref C) none σ H'
  | .bad => False
def goodF (r : Res D) (ι : List Addr) (H : Hp) (Q : VK) (E : XK) : Prop := match r with
  | .ok d S' => ∀ ι' H' v, Fut K ι H ι' H' → Rep K N ι' H' S' → RepV K ι' H' d v → Q v H'
  | .ex C S' => ∀ ι' H', Fut K ι H ι' H' → Rep K N ι' H' S' → E (.ref C) none H'
  | .bad => False
def teX (W : WX) (m : M D) : TE := fun σ H Q => ∃ ι σa S, RepSl K ι H σa σ ∧ Rep K N ι H S ∧ goodE K N W (m σa S) ι H σ Q
def tbX (W : WX) (m : M Bool) : TT := fun σ H Q => ∃ ι σa S, RepSl K ι H σa σ ∧ Rep K N ι H S ∧ goodB K N W (m σa S) ι H σ Q
def taX (W : WX) (m : M (List D)) : TA := fun σ H Q => ∃ ι σa S, RepSl K ι H σa σ ∧ Rep K N ι H S ∧ goodL K N W (m σa S) ι H σ Q
def tsX (W : WX) (c : Sm) : TS := fun T σ H => ∃ ι σa S, RepSl K ι H σa σ ∧ Rep K N ι H S ∧ goodS K N W (c σa S) ι H T
def spA (F : Fn) : Sp := fun vs H Q E => ∃ ι ds S, RepL K ι H ds vs ∧ Rep K N ι H S ∧ goodF K N (F ds S) ι H Q E
end
section
variable {K : PySem.W.Frag} {N : Nms} {W : WX} {ι ι' : List Addr} {H H' : Hp} {σ : L2.St} {σa : Sl} {S : Sto}
theorem goodE.fut {r : Res D} {Q : VK} (g : goodE K N W r ι H σ Q) (f : Fut K ι H ι' H') : goodE K N W r ι' H' σ Q := by
  cases r with
  | ok d S' => exact fun a b c f2 => g a b c (f.trans f2)
  | ex C S' => exact fun a b f2 => g a b (f.trans f2)
  | bad => exact g
theorem goodB.fut {r : Res Bool} {Q : Bool → Hp → Prop} (g : goodB K N W r ι H σ Q) (f : Fut K ι H ι' H') : goodB K N W r ι' H' σ Q := by
  cases r with
  | ok d S' => exact fun a b f2 => g a b (f.trans f2)
  | ex C S' => exact fun a b f2 => g a b (f.trans f2)
  | bad => exact g
theorem goodL.fut {r : Res (List D)} {Q : List V → Hp → Prop} (g : goodL K N W r ι H σ Q) (f : Fut K ι H ι' H') : goodL K N W r ι' H' σ Q := by
  cases r with
  | ok d S' => exact fun a b c f2 => g a b c (f.trans f2)
  | ex C S' => exact fun a b f2 => g a b (f.trans f2)
  | bad => exact g
theorem goodS.fut {r : SRes} {T : Ends} (g : goodS K N W r ι H T) (f : Fut K ι H ι' H') : goodS K N W r ι' H' T := by
  cases r with
  | nx _ _ => exact fun a b c f2 => g a b c (f.trans f2)
  | bk _ _ => exact fun a b c f2 => g a b c (f.trans f2)
  | ct _ _ => exact fun a b c f2 => g a b c (f.trans f2)
  | rt _ _ => exact fun a b c f2 => g a b c (f.trans f2)
  | ex _ _ _ => exact fun a b c f2 => g a b c (f.trans f2)
  | bad => exact g
theorem goodF.fut {r : Res D} {Q : VK} {E : XK} (g : goodF K N r ι H Q E) (f : Fut K ι H ι' H') : goodF K N r ι' H' Q E := by
  cases r with
  | ok d S' => exact fun a b c f2 => g a b c (f.trans f2)
  | ex C S' => exact fun a b f2 => g a b (f.trans f2)
  | bad => exact g
/-- an expression, then what is made of its value -/
def eBind {α β : Type} (m : M α) (k : α → M β) : M β := fun σ S => (m σ S).bind fun a S1 => k a σ S1
/-- an expression, then a statement with its value -/
def sBind {α : Type} (m : M α) (k : α → Sm) : Sm := fun σ S => match m σ S with
  | .ok a S1 => k a σ S1
  | .ex C S1 => .ex C σ S1
  | .bad => .bad
theorem bindEE {m : M D} {k : D → M D} {Q : VK} {R : VK} (hs : RepSl K ι H σa σ) (Rp : Rep K N ι H S) (g : goodE K N W (eBind m k σa S) ι H σ Q)
    (c : ∀ (ι' : List Addr) (H' : Hp) (v : V) (d : D) (S' : Sto), Fut K ι H ι' H' → RepSl K ι' H' σa σ → Rep K N ι' H' S' → RepV K ι' H' d v → goodE K N W (k d σa S') ι' H' σ Q → R v H') : teX K N W m σ H R := by
  refine ⟨ι, σa, S, hs, Rp, ?_⟩
  unfold eBind at g
  cases e : m σa S with
  | ok d S' =>
    rw [e] at g
    exact fun ι' H' v f R' r => c ι' H' v d S' f (hs.fut f) R' r (goodE.fut (r := k d σa S') g f)
  | ex C S' =>
    rw [e] at g
    exact g
  | bad =>
    rw [e] at g
    exact g
theorem bindEB {m : M D} {k : D → M Bool} {Q : Bool → Hp → Prop} {R : VK} (hs : RepSl K ι H σa σ) (Rp : Rep K N ι H S) (g : goodB K N W (eBind m k σa S) ι H σ Q)
    (c : ∀ (ι' : List Addr) (H' : Hp) (v : V) (d : D) (S' : Sto), Fut K ι H ι' H' → RepSl K ι' H' σa σ → Rep K N ι' H' S' → RepV K ι' H' d v → goodB K N W (k d σa S') ι' H' σ Q → R v H') : teX K N W m σ H R := by
  refine ⟨ι, σa, S, hs, Rp, ?_⟩
  unfold eBind at g
  cases e : m σa S with
  | ok d S' =>
    rw [e] at g
    exact fun ι' H' v f R' r => c ι' H' v d S' f (hs.fut f) R' r (goodB.fut (r := k d σa S') g f)
  | ex C S' =>
    rw [e] at g
    exact g
  | bad =>
    rw [e] at g
    exact g
theorem bindEL {m : M D} {k : D → M (List D)} {Q : List V → Hp → Prop} {R : VK} (hs : RepSl K ι H σa σ) (Rp : Rep K N ι H S) (g : goodL K N W (eBind m k σa S) ι H σ Q)
    (c : ∀ (ι' : List Addr) (H' : Hp) (v : V) (d : D) (S' : Sto), Fut K ι H ι' H' → RepSl K ι' H' σa σ → Rep K N ι' H' S' → RepV K ι' H' d v → goodL K N W (k d σa S') ι' H' σ Q → R v H') : teX K N W m σ H R := by
  refine ⟨ι, σa, S, hs, Rp, ?_⟩
  unfold eBind at g
  cases e : m σa S with
  | ok d S' =>
    rw [e] at g
    exact fun ι' H' v f R' r => c ι' H' v d S' f (hs.fut f) R' r (goodL.fut (r := k d σa S') g f)
  | ex C S' =>
    rw [e] at g
    exact g
  | bad =>
    rw [e] at g
    exact g
theorem bindES {m : M D} {k : D → Sm} {T : Ends} {R : VK} (hs : RepSl K ι H σa σ) (Rp : Rep K N ι H S) (g : goodS K N W (sBind m k σa S) ι H T)
    (c : ∀ (ι' : List Addr) (H' : Hp) (v : V) (d : D) (S' : Sto), Fut K ι H ι' H' → RepSl K ι' H' σa σ → Rep K N ι' H' S' → RepV K ι' H' d v → goodS K N W (k d σa S') ι' H' T → R v H') : teX K N W m σ H R := by
  refine ⟨ι, σa, S, hs, Rp, ?_⟩
  unfold sBind at g
  cases e : m σa S with
  | ok d S' =>
    rw [e] at g
    exact fun ι' H' v f R' r => c ι' H' v d S' f (hs.fut f) R' r (goodS.fut (r := k d σa S') g f)
  | ex C S' =>
    rw [e] at g
    exact fun ι' H' f R' => g ι' H' σ f (hs.fut f) R'
  | bad =>
    rw [e] at g
    exact g
theorem bindBE {m : M Bool} {k : Bool → M D} {Q : VK} {R : Bool → Hp → Prop} (hs : RepSl K ι H σa σ) (Rp : Rep K N ι H S) (g : goodE K N W (eBind m k σa S) ι H σ Q)
    (c : ∀ (ι' : List Addr) (H' : Hp) (b : Bool) (S' : Sto), Fut K ι H ι' H' → RepSl K ι' H' σa σ → Rep K N ι' H' S' → goodE K N W (k b σa S') ι' H' σ Q → R b H') : tbX K N W m σ H R := by
  refine ⟨ι, σa, S, hs, Rp, ?_⟩
  unfold eBind at g
  cases e : m σa S with
  | ok d S' =>
    rw [e] at g
    exact fun ι' H'  f R'  => c ι' H'  d S' f (hs.fut f) R' (goodE.fut (r := k d σa S') g f)
  | ex C S' =>
    rw [e] at g
    exact g
  | bad =>
    rw [e] at g
    exact g
theorem bindBB {m : M Bool} {k : Bool → M Bool} {Q : Bool → Hp → Prop} {R : Bool → Hp → Prop} (hs : RepSl K ι H σa σ) (Rp : Rep K N ι H S) (g : goodB K N W (eBind m k σa S) ι H σ Q)
    (c : ∀ (ι' : List Addr) (H' : Hp) (b : Bool) (S' : Sto), Fut K ι H ι' H' → RepSl K ι' H' σa σ → Rep K N ι' H' S' → goodB K N W (k b σa S') ι' H' σ Q → R b H') : tbX K N W m σ H R := by
  refine ⟨ι, σa, S, hs, Rp, ?_⟩
  unfold eBind at g
  cases e : m σa S with
  | ok d S' =>
    rw [e] at g
    exact fun ι' H'  f R'  => c ι' H'  d S' f (hs.fut f) R' (goodB.fut (r := k d σa S') g f)
  | ex C S' =>
    rw [e] at g
    exact g
  | bad =>
    rw [e] at g
    exact g
theorem bindBL {m : M Bool} {k : Bool → M (List D)} {Q : List V → Hp → Prop} {R : Bool → Hp → Prop} (hs : RepSl K ι H σa σ) (Rp : Rep K N ι H S) (g : goodL K N W (eBind m k σa S) ι H σ Q)
    (c : ∀ (ι' : List Addr) (H' : Hp) (b : Bool) (S' : Sto), Fut K ι H ι' H' → RepSl K ι' H' σa σ → Rep K N ι' H' S' → goodL K N W (k b σa S') ι' H' σ Q → R b H') : tbX K N W m σ H R := by
  refine ⟨ι, σa, S, hs, Rp, ?_⟩
  unfold eBind at g
  cases e : m σa S with
  | ok d S' =>
    rw [e] at g
    exact fun ι' H'  f R'  => c ι' H'  d S' f (hs.fut f) R' (goodL.fut (r := k d σa S') g f)
  | ex C S' =>
    rw [e] at g
    exact g
  | bad =>
    rw [e] at g
    exact g
theorem bindBS {m : M Bool} {k : Bool → Sm} {T : Ends} {R : Bool → Hp → Prop} (hs : RepSl K ι H σa σ) (Rp : Rep K N ι H S) (g : goodS K N W (sBind m k σa S) ι H T)
    (c : ∀ (ι' : List Addr) (H' : Hp) (b : Bool) (S' : Sto), Fut K ι H ι' H' → RepSl K ι' H' σa σ → Rep K N ι' H' S' → goodS K N W (k b σa S') ι' H' T → R b H') : tbX K N W m σ H R := by
  refine ⟨ι, σa, S, hs, Rp, ?_⟩
  unfold sBind at g
  cases e : m σa S with
  | ok d S' =>
    rw [e] at g
    exact fun ι' H'  f R'  => c ι' H'  d S' f (hs.fut f) R' (goodS.fut (r := k d σa S') g f)
  | ex C S' =>
    rw [e] at g
    exact fun ι' H' f R' => g ι' H' σ f (hs.fut f) R'
  | bad =>
    rw [e] at g
    exact g
theorem bindLE {m : M (List D)} {k : (List D) → M D} {Q : VK} {R : List V → Hp → Prop} (hs : RepSl K ι H σa σ) (Rp : Rep K N ι H S) (g : goodE K N W (eBind m k σa S) ι H σ Q)
    (c : ∀ (ι' : List Addr) (H' : Hp) (vs : List V) (ds : (List D)) (S' : Sto), Fut K ι H ι' H' → RepSl K ι' H' σa σ → Rep K N ι' H' S' → RepL K ι' H' ds vs → goodE K N W (k ds σa S') ι' H' σ Q → R vs H') : taX K N W m σ H R := by
  refine ⟨ι, σa, S, hs, Rp, ?_⟩
  unfold eBind at g
  cases e : m σa S with
  | ok d S' =>
    rw [e] at g
    exact fun ι' H' v f R' r => c ι' H' v d S' f (hs.fut f) R' r (goodE.fut (r := k d σa S') g f)
  | ex C S' =>
    rw [e] at g
    exact g
  | bad =>
    rw [e] at g
    exact g
theorem bindLB {m : M (List D)} {k : (List D) → M Bool} {Q : Bool → Hp → Prop} {R : List V → Hp → Prop} (hs : RepSl K ι H σa σ) (Rp : Rep K N ι H S) (g : goodB K N W (eBind m k σa S) ι H σ Q)
    (c : ∀ (ι' : List Addr) (H' : Hp) (vs : List V) (ds : (List D)) (S' : Sto), Fut K ι H ι' H' → RepSl K ι' H' σa σ → Rep K N ι' H' S' → RepL K ι' H' ds vs → goodB K N W (k ds σa S') ι' H' σ Q → R vs H') : taX K N W m σ H R := by
  refine ⟨ι, σa, S, hs, Rp, ?_⟩
  unfold eBind at g
  cases e : m σa S with
  | ok d S' =>
    rw [e] at g
    exact fun ι' H' v f R' r => c ι' H' v d S' f (hs.fut f) R' r (goodB.fut (r := k d σa S') g f)
  | ex C S' =>
    rw [e] at g
    exact g
  | bad =>
    rw [e] at g
    exact g
theorem bindLL {m : M (List D)} {k : (List D) → M (List D)} {Q : List V → Hp → Prop} {R : List V → Hp → Prop} (hs : RepSl K ι H σa σ) (Rp : Rep K N ι H S) (g : goodL K N W (eBind m k σa S) ι H σ Q)
    (c : ∀ (ι' : List Addr) (H' : Hp) (vs : List V) (ds : (List D)) (S' : Sto), Fut K ι H ι' H' → RepSl K ι' H' σa σ → Rep K N ι' H' S' → RepL K ι' H' ds vs → goodL K N W (k ds σa S') ι' H' σ Q → R vs H') : taX K N W m σ H R := by
  refine ⟨ι, σa, S, hs, Rp, ?_⟩
  unfold eBind at g
  cases e : m σa S with
  | ok d S' =>
    rw [e] at g
    exact fun ι' H' v f R' r => c ι' H' v d S' f (hs.fut f) R' r (goodL.fut (r := k d σa S') g f)
  | ex C S' =>
    rw [e] at g
    exact g
  | bad =>
    rw [e] at g
    exact g
theorem bindLS {m : M (List D)} {k : (List D) → Sm} {T : Ends} {R : List V → Hp → Prop} (hs : RepSl K ι H σa σ) (Rp : Rep K N ι H S) (g : goodS K N W (sBind m k σa S) ι H T)
    (c : ∀ (ι' : List Addr) (H' : Hp) (vs : List V) (ds : (List D)) (S' : Sto), Fut K ι H ι' H' → RepSl K ι' H' σa σ → Rep K N ι' H' S' → RepL K ι' H' ds vs → goodS K N W (k ds σa S') ι' H' T → R vs H') : taX K N W m σ H R := by
  refine ⟨ι, σa, S, hs, Rp, ?_⟩
  unfold sBind at g
  cases e : m σa S with
  | ok d S' =>
    rw [e] at g
    exact fun ι' H' v f R' r => c ι' H' v d S' f (hs.fut f) R' r (goodS.fut (r := k d σa S') g f)
  | ex C S' =>
    rw [e] at g
    exact fun ι' H' f R' => g ι' H' σ f (hs.fut f) R'
  | bad =>
    rw [e] at g
    exact g
/-- weaken the end -/
theorem teX.imp {m : M D} {Q Q' : VK} (h : teX K N W m σ H Q) (i : ∀ v H', Q v H' → Q' v H') : teX K N W m σ H Q' := by
  obtain ⟨ι, σa, S, hs, R, g⟩ := h
  refine ⟨ι, σa, S, hs, R, ?_⟩
  cases e : m σa S with
  | ok d S' => rw [e] at g; exact fun a b c d e f => i _ _ (g a b c d e f)
  | ex C S' => rw [e] at g; exact g
  | bad => rw [e] at g; exact g
theorem tbX.imp {m : M Bool} {Q Q' : Bool → Hp → Prop} (h : tbX K N W m σ H Q) (i : ∀ v H', Q v H' → Q' v H') : tbX K N W m σ H Q' := by
  obtain ⟨ι, σa, S, hs, R, g⟩ := h
  refine ⟨ι, σa, S, hs, R, ?_⟩
  cases e : m σa S with
  | ok d S' => rw [e] at g; exact fun a b c d => i _ _ (g a b c d)
  | ex C S' => rw [e] at g; exact g
  | bad => rw [e] at g; exact g
theorem taX.imp {m : M (List D)} {Q Q' : List V → Hp → Prop} (h : taX K N W m σ H Q) (i : ∀ v H', Q v H' → Q' v H') : taX K N W m σ H Q' := by
  obtain ⟨ι, σa, S, hs, R, g⟩ := h
  refine ⟨ι, σa, S, hs, R, ?_⟩
  cases e : m σa S with
  | ok d S' => rw [e] at g; exact fun a b c d e f => i _ _ (g a b c d e f)
  | ex C S' => rw [e] at g; exact g
  | bad => rw [e] at g; exact g
end
/-! ### a rule of the layer, another reading -/
theorem PE.imp {X : Cx} {e : Expr} {t t' : TE} (h : PE X e t) (i : ∀ σ H Q, t' σ H Q → t σ H Q) : PE X e t' := ⟨fun pins s σ H Q I q => h.run pins s σ H Q I (i σ H Q q)⟩
theorem PT.imp {X : Cx} {e : Expr} {t t' : TT} (h : PT X e t) (i : ∀ σ H Q, t' σ H Q → t σ H Q) : PT X e t' := ⟨fun pins s σ H Q I q => h.run pins s σ H Q I (i σ H Q q)⟩
theorem PW.imp {X : Cx} {e : Expr} {t t' : TT} (h : PW X e t) (i : ∀ σ H Q, t' σ H Q → t σ H Q) : PW X e t' := ⟨fun wh pins s σ H Q I q => h.run wh pins s σ H Q I (i σ H Q q)⟩
theorem PA.imp {X : Cx} {es : List Expr} {t t' : TA} (h : PA X es t) (i : ∀ σ H Q, t' σ H Q → t σ H Q) : PA X es t' := ⟨fun p pins s σ H Q I q => h.run p pins s σ H Q I (i σ H Q q)⟩
theorem PS.imp {X : Cx} {st : Stmt} {t t' : TS} (h : PS X st t) (i : ∀ σ H T, t' T σ H → t T σ H) : PS X st t' := ⟨fun pins s σ H T I q => h.run pins s σ H T I (i σ H T q)⟩
theorem PSs.imp {X : Cx} {st : List Stmt} {t t' : TS} (h : PSs X st t) (i : ∀ σ H T, t' T σ H → t T σ H) : PSs X st t' := ⟨fun pins s σ H T I q => h.run pins s σ H T I (i σ H T q)⟩
abbrev AE (K : PySem.W.Frag) (N : Nms) (W : WX) (X : Cx) (e : Expr) (m : M D) : Prop := PE X e (teX K N W m)
abbrev AT (K : PySem.W.Frag) (N : Nms) (W : WX) (X : Cx) (e : Expr) (m : M Bool) : Prop := PT X e (tbX K N W m)
abbrev AW (K : PySem.W.Frag) (N : Nms) (W : WX) (X : Cx) (e : Expr) (m : M Bool) : Prop := PW X e (tbX K N W m)
abbrev AA (K : PySem.W.Frag) (N : Nms) (W : WX) (X : Cx) (es : List Expr) (m : M (List D)) : Prop := PA X es (taX K N W m)
abbrev AS (K : PySem.W.Frag) (N : Nms) (W : WX) (X : Cx) (st : Stmt) (c : Sm) : Prop := PS X st (tsX K N W c)
abbrev ASs (K : PySem.W.Frag) (N : Nms) (W : WX) (X : Cx) (st : List Stmt) (c : Sm) : Prop := PSs X st (tsX K N W c)
/-! ### values at any depth: none, truth values, ints, texts, tuples (all of them immutable: what is denoted stays) -/
mutual
inductive Va (H : Hp) : V → PyData → Prop
  | non : Va H .non .none
  | bl (b : Bool) : Va H (.bl b) (.bool b)
  | int (i : Int) : Va H (.int i) (.int i)
  | str (x : Str) : Va H (.str x) (.str x)
  | tup {a : Addr} {xs : List V} {ds : List PyData} : Tk H a xs → VaL H xs ds → Va H (.ref a) (.tuple ds)
inductive VaL (H : Hp) : List V → List PyData → Prop
  | nil : VaL H [] []
  | cons {v : V} {vs : List V} {d : PyData} {ds : List PyData} : Va H v d → VaL H vs ds → VaL H (v :: vs) (d :: ds)
end
section
variable {K : PySem.W.Frag} {st : Addr} {H H1 : Hp}
mutual
theorem Va.mono (k : ∀ a xs, Tk H a xs → Tk H1 a xs) : ∀ {v : V} {d : PyData}, Va H v d → Va H1 v d
  | _, _, .non => .non
  | _, _, .bl b => .bl b
  | _, _, .int i => .int i
  | _, _, .str x => .str x
  | _, _, .tup t r => .tup (k _ _ t) (VaL.mono k r)
theorem VaL.mono (k : ∀ a xs, Tk H a xs → Tk H1 a xs) : ∀ {vs : List V} {ds : List PyData}, VaL H vs ds → VaL H1 vs ds
  | _, _, .nil => .nil
  | _, _, .cons a r => .cons (Va.mono k a) (VaL.mono k r)
end
theorem Va.same {v : V} {d : PyData} (h : Va H v d) (s : Same H H1) : Va H1 v d := h.mono fun _ _ t => t.same s
theorem VaL.same {v : List V} {d : List PyData} (h : VaL H v d) (s : Same H H1) : VaL H1 v d := h.mono fun _ _ t => t.same s
theorem Va.next {v : V} {d : PyData} (h : Va H v d) (s : Stt H st) (r : Dr st H H1) : Va H1 v d := h.mono fun _ _ t => t.next s r
theorem VaL.next {v : List V} {d : List PyData} (h : VaL H v d) (s : Stt H st) (r : Dr st H H1) : VaL H1 v d := h.mono fun _ _ t => t.next s r
mutual
theorem Va.dp : ∀ {v : V} {d : PyData}, Va H v d → Dp K H v d
  | _, _, .non => .non
  | _, _, .bl b => .bl b
  | _, _, .int i => .int i
  | _, _, .str x => .str x
  | _, _, .tup t r => .tup t.seq (VaL.dp r)
theorem VaL.dp : ∀ {vs : List V} {ds : List PyData}, VaL H vs ds → DpAll K H vs ds
  | _, _, .nil => .nil
  | _, _, .cons a r => .cons (Va.dp a) (VaL.dp r)
end
theorem VaL.length : ∀ {vs : List V} {ds : List PyData}, VaL H vs ds → vs.length = ds.length
  | _, _, .nil => rfl
  | _, _, .cons _ r => by rw [List.length_cons, List.length_cons, VaL.length r]
theorem VaL.get : ∀ {vs : List V} {ds : List PyData} {i : Nat} {v : V}, VaL H vs ds → vs[i]? = some v → ∃ d, ds[i]? = some d ∧ Va H v d
  | _, _, i, v, .nil, e => by simp at e
  | _, _, 0, v, .cons (d := d) a _, e => by
    obtain rfl := Option.some.inj e
    exact ⟨d, rfl, a⟩
  | _, _, i + 1, v, .cons _ r, e => VaL.get (i := i) r e
theorem VaL.snoc : ∀ {vs : List V} {ds : List PyData} {v : V} {d : PyData}, VaL H vs ds → Va H v d → VaL H (vs ++ [v]) (ds ++ [d])
  | _, _, _, _, .nil, a => .cons a .nil
  | _, _, _, _, .cons b r, a => .cons b (VaL.snoc r a)
theorem Va.inv {v : V} {d : PyData} (h : Va H v d) : (v = .non ∧ d = .none) ∨ (∃ b, v = .bl b ∧ d = .bool b) ∨ (∃ i, v = .int i ∧ d = .int i) ∨ (∃ x, v = .str x ∧ d = .str x) ∨
    ∃ a xs ds, v = .ref a ∧ d = .tuple ds ∧ Tk H a xs ∧ VaL H xs ds := by
  cases h with
  | non => exact .inl ⟨rfl, rfl⟩
  | bl b => exact .inr (.inl ⟨b, rfl, rfl⟩)
  | int i => exact .inr (.inr (.inl ⟨i, rfl, rfl⟩))
  | str x => exact .inr (.inr (.inr (.inl ⟨x, rfl, rfl⟩)))
  | tup t r => exact .inr (.inr (.inr (.inr ⟨_, _, _, rfl, rfl, t, r⟩)))
end
/-! ### records -/
/-- a count in groups of seven bits -/
def cnt (n : Nat) : List Int := if h : n < 128 then [(n : Int)] else (128 + (n % 128 : Nat) : Int) :: cnt (n / 128)
termination_by n
decreasing_by omega
theorem cnt_lt {n : Nat} (h : n < 128) : cnt n = [(n : Int)] := by
  rw [cnt, dif_pos h]
theorem cnt_ge {n : Nat} (h : 128 ≤ n) : cnt n = (128 + (n % 128 : Nat) : Int) :: cnt (n / 128) := by
  rw [cnt, dif_neg (by omega)]
theorem cnt_pos (n : Nat) : 1 ≤ (cnt n).length := by
  by_cases h : n < 128
  · rw [cnt_lt h]
    exact Nat.le_refl 1
  · rw [cnt_ge (by omega)]
    simp
theorem cnt_len : ∀ (k n : Nat), n < 128 ^ (k + 1) → (cnt n).length ≤ k + 1
  | 0, n, h => by
    rw [cnt_lt (by simpa using h)]
    exact Nat.le_refl 1
  | k + 1, n, h => by
    by_cases c : n < 128
    · rw [cnt_lt c]
      simp
    · rw [cnt_ge (by omega), List.length_cons]
      have q : n / 128 < 128 ^ (k + 1) := by
        rw [Nat.div_lt_iff_lt_mul (by decide)]
        rw [Nat.pow_succ] at h
        exact h
      have := cnt_len k (n / 128) q
      omega
theorem cnt_byte (n : Nat) : ∀ b ∈ cnt n, 0 ≤ b ∧ b < 256 := by
  induction n using Nat.strongRecOn with
  | ind n ih =>
    intro b hb
    by_cases c : n < 128
    · rw [cnt_lt c] at hb
      obtain rfl := List.mem_singleton.mp hb
      omega
    · rw [cnt_ge (by omega)] at hb
      rcases List.mem_cons.mp hb with rfl | hb
      · omega
      · exact ih (n / 128) (by omega) b hb
/-- the signs of a text, as bytes -/
def sgn (x : Str) : List Int := x.cps.toList.map fun c : Nat => (c : Int)
mutual
def rcd : PyData → List Int
  | .none => [0]
  | .bool b => [if b then 2 else 1]
  | .int i => if 0 ≤ i then 3 :: cnt i.toNat else 4 :: cnt (-i - 1).toNat
  | .str x => 5 :: (cnt x.length ++ sgn x)
  | .tuple ds => 6 :: (cnt ds.length ++ rcdL ds)
  | .list _ => []
  | .dict _ => []
def rcdL : List PyData → List Int
  | [] => []
  | d :: ds => rcd d ++ rcdL ds
end
theorem rcdL_snoc : ∀ (ds : List PyData) (d : PyData), rcdL (ds ++ [d]) = rcdL ds ++ rcd d
  | [], d => by simp [rcdL]
  | e :: ds, d => by
    rw [List.cons_append, rcdL, rcdL, rcdL_snoc ds d, List.append_assoc]
/-- a sign that may stand in a text -/
def okSign (n : Nat) : Prop := 32 ≤ n ∧ n ≤ 126 ∧ n ≠ 37
mutual
/-- a value of the document, with small texts and ints -/
def OkV : PyData → Prop
  | .none => True
  | .bool _ => True
  | .int i => i.natAbs < 2 ^ 100
  | .str x => x.length ≤ 1000 ∧ ∀ c ∈ x.cps.toList, okSign c
  | .tuple ds => ds.length ≤ 1000 ∧ OkL ds
  | .list _ => False
  | .dict _ => False
def OkL : List PyData → Prop
  | [] => True
  | d :: ds => OkV d ∧ OkL ds
end
theorem OkL.snoc : ∀ {ds : List PyData} {d : PyData}, OkL ds → OkV d → OkL (ds ++ [d])
  | [], d, _, h => by
    show OkL [d]
    unfold OkL OkL
    exact ⟨h, trivial⟩
  | e :: ds, d, h, k => by
    unfold OkL at h
    show OkL (e :: (ds ++ [d]))
    unfold OkL
    exact ⟨h.1, OkL.snoc h.2 k⟩
theorem depthAll_snoc : ∀ (ds : List PyData) (d : PyData), PyData.depthAll (ds ++ [d]) = max (PyData.depthAll ds) d.depth
  | [], d => by simp [PyData.depthAll]
  | e :: ds, d => by
    rw [List.cons_append, PyData.depthAll, PyData.depthAll, depthAll_snoc ds d]
    omega
/-! ### data that may be compared -/
def Sh (n : Nat) (d : PyData) : Prop := d.canLay0 = true ∧ d.depth ≤ n
theorem Sh.mono {n m : Nat} {d : PyData} (h : Sh n d) (l : n ≤ m) : Sh m d := ⟨h.1, Nat.le_trans h.2 l⟩
theorem Sh.none : Sh 0 .none := ⟨by simp [PyData.canLay0], by simp [PyData.depth]⟩
theorem Sh.bool (b : Bool) : Sh 0 (.bool b) := ⟨by simp [PyData.canLay0], by simp [PyData.depth]⟩
theorem Sh.int (i : Int) : Sh 0 (.int i) := ⟨by simp [PyData.canLay0], by simp [PyData.depth]⟩
theorem Sh.str {x : Str} (h : Asc x) : Sh 0 (.str x) := ⟨by simp [PyData.canLay0, ok_asc h], by simp [PyData.depth]⟩
theorem sh_all {n : Nat} : ∀ {ds : List PyData}, (∀ d ∈ ds, Sh n d) → PyData.canLayAll0 ds = true ∧ PyData.depthAll ds ≤ n
  | [], _ => ⟨by simp [PyData.canLayAll0], by simp [PyData.depthAll]⟩
  | d :: ds, h => by
    have h1 := h d List.mem_cons_self
    have h2 := sh_all (ds := ds) fun e he => h e (List.mem_cons_of_mem _ he)
    refine ⟨?_, ?_⟩
    · rw [PyData.canLayAll0, h1.1, h2.1, Bool.and_self]
    · rw [PyData.depthAll]
      have a := h1.2
      have b := h2.2
      omega
theorem Sh.tuple {n : Nat} {ds : List PyData} (h : ∀ d ∈ ds, Sh n d) : Sh (n + 1) (.tuple ds) := by
  obtain ⟨a, b⟩ := sh_all h
  refine ⟨by rw [PyData.canLay0]; exact a, ?_⟩
  rw [PyData.depth]
  omega
theorem Sh.list {n : Nat} {ds : List PyData} (h : ∀ d ∈ ds, Sh n d) : Sh (n + 1) (.list ds) := by
  obtain ⟨a, b⟩ := sh_all h
  refine ⟨by rw [PyData.canLay0]; exact a, ?_⟩
  rw [PyData.depth]
  omega
theorem Sh.shaped {n : Nat} {d : PyData} (h : Sh n d) (l : n ≤ 64 := by decide) : SeqAt.shaped d = true := by
  unfold SeqAt.shaped
  rw [h.1, decide_eq_true (Nat.le_trans h.2 l)]
  rfl
theorem Sh.refl {n : Nat} {d : PyData} (h : Sh n d) : PyData.eqv d d = true := SeqAt.eqv_refl d h.1
theorem Sh.two {n : Nat} {d e : PyData} (h : Sh n d) (g : Sh n e) : ∀ z ∈ [d, e], Sh n z := fun z hz => by
  simp only [List.mem_cons, List.not_mem_nil, or_false] at hz
  rcases hz with rfl | rfl
  · exact h
  · exact g
theorem Sh.three {n : Nat} {d e f : PyData} (h : Sh n d) (g : Sh n e) (k : Sh n f) : ∀ z ∈ [d, e, f], Sh n z := fun z hz => by
  simp only [List.mem_cons, List.not_mem_nil, or_false] at hz
  rcases hz with rfl | rfl | rfl
  · exact h
  · exact g
  · exact k
theorem Sh.one {n : Nat} {d : PyData} (h : Sh n d) : ∀ z ∈ [d], Sh n z := fun z hz => by
  rw [List.mem_singleton.mp hz]
  exact h
section
variable {K : PySem.W.Frag} {H : Hp} {Q : VK} {x y : V} {d : PyData} {n : Nat}
theorem rd_neV (h1 : Va H x d) (h2 : Va H y d) (s : Sh n d) (h : Q (.bl false) H) (l : n ≤ 64 := by decide) : rNeD K x y H Q := rd_neSame h1.dp h2.dp (s.shaped l) s.refl h
end
theorem Va.pair {H : Hp} {a : Addr} {v w : V} {d e : PyData} (t : Tk H a [v, w]) (h : Va H v d) (g : Va H w e) : Va H (.ref a) (.tuple [d, e]) := .tup t (.cons h (.cons g .nil))
theorem Va.tri {H : Hp} {a : Addr} {u v w : V} {c d e : PyData} (t : Tk H a [u, v, w]) (f : Va H u c) (h : Va H v d) (g : Va H w e) : Va H (.ref a) (.tuple [c, d, e]) := .tup t (.cons f (.cons h (.cons g .nil)))
theorem VaL.strs {H : Hp} : ∀ xs : List Str, VaL H (xs.map V.str) (xs.map PyData.str)
  | [] => .nil
  | x :: xs => .cons (.str x) (VaL.strs xs)
theorem sh_strs {xs : List Str} (h : ∀ x ∈ xs, Asc x) : Sh 1 (.tuple (xs.map PyData.str)) := Sh.tuple fun d hd => by
  obtain ⟨x, hx, rfl⟩ := List.mem_map.mp hd
  exact Sh.str (h x hx)
theorem Va.put {H : Hp} {v : V} {d : PyData} {l : Addr} {zs : List V} {o : HO} (h : Va H v d) (e : H l = some (.lst zs)) : Va (upd H l o) v d := h.mono fun _ _ t => t.put e
theorem VaL.put {H : Hp} {v : List V} {d : List PyData} {l : Addr} {zs : List V} {o : HO} (h : VaL H v d) (e : H l = some (.lst zs)) : VaL (upd H l o) v d := h.mono fun _ _ t => t.put e
/-! ### the end of a text that another is -/
theorem ends_tl (x y : Str) : Txt.endswith x y = (decide (y.length ≤ x.length) && ((tl x).drop (x.length - y.length) == tl y)) := by
  unfold Txt.endswith
  rw [StrLaws.subAt_eq, Nat.zero_add]
  by_cases h : y.length ≤ x.length
  · rw [decide_eq_true h, Bool.true_and, Bool.true_and]
    have e : ((tl x).drop (x.length - y.length)).length = y.length := by
      rw [List.length_drop, ← len_tl]
      omega
    show ((List.drop (x.length - y.length) (tl x)).take y.length == tl y) = _
    rw [List.take_of_length_le (Nat.le_of_eq e)]
  · rw [decide_eq_false h]
    rfl
theorem cut_end (d s : Str) : decide (cutS d (some (-(s.length : Int) - 1)) none = Str.ofString "." ++ s) = Txt.endswith d (Str.ofString "." ++ s) := by
  have hl : (Str.ofString "." ++ s).length = s.length + 1 := by rw [len_app, len_dot, Nat.add_comm]
  have hs : HT.sIx d.length 0 (some (-(s.length : Int) - 1)) = d.length - (s.length + 1) := by
    show (if (-(s.length : Int) - 1) < 0 then ((-(s.length : Int) - 1) + (d.length : Int)).toNat else min (-(s.length : Int) - 1).toNat d.length) = _
    rw [if_pos (by omega)]
    omega
  have hc : tl (cutS d (some (-(s.length : Int) - 1)) none) = (tl d).drop (d.length - (s.length + 1)) := by
    unfold cutS
    rw [tl_mk, hs, HT.sIx_none]
    exact List.take_of_length_le (by rw [List.length_drop, ← len_tl]; exact Nat.le_refl _)
  rw [ends_tl, hl]
  by_cases e : cutS d (some (-(s.length : Int) - 1)) none = Str.ofString "." ++ s
  · rw [decide_eq_true e, ← hc, e, beq_self_eq_true, Bool.and_true]
    have q := congrArg Str.length e
    have k := len_cut d (some (-(s.length : Int) - 1)) none
    rw [q, hl] at k
    exact (decide_eq_true k).symm
  · rw [decide_eq_false e]
    symm
    rw [Bool.and_eq_false_iff]
    by_cases g : s.length + 1 ≤ d.length
    · right
      refine beq_eq_false_iff_ne.mpr fun q => e (ext_tl ?_)
      rw [hc]
      exact q
    · exact .inl (decide_eq_false g)
/-! ### routes: the place of the longest end that matches, of those of one length the first -/
def mch (dom s : Str) : Bool := decide (s = Str.ofString "") || decide (dom = s) || Txt.endswith dom (Str.ofString "." ++ s)
def bst (dom : Str) (rs : List Str) : Nat → Option Nat
  | 0 => none
  | i + 1 => match rs[i]? with
    | none => bst dom rs i
    | some s => if mch dom s = true then (match bst dom rs i with
        | none => some i
        | some k => if ((rs[k]?).getD Str.empty).length < s.length then some i else some k) else bst dom rs i
theorem bst_lt (dom : Str) (rs : List Str) : ∀ i k, bst dom rs i = some k → k < i ∧ k < rs.length
  | 0, k, h => by cases h
  | i + 1, k, h => by
    unfold bst at h
    cases e : rs[i]? with
    | none =>
      rw [e] at h
      have := bst_lt dom rs i k h
      omega
    | some s =>
      have hi := (List.getElem?_eq_some_iff.mp e).1
      rw [e] at h
      dsimp only at h
      by_cases m : mch dom s = true
      · rw [if_pos m] at h
        cases f : bst dom rs i with
        | none =>
          rw [f] at h
          obtain rfl := Option.some.inj h
          omega
        | some j =>
          rw [f] at h
          dsimp only at h
          have q := bst_lt dom rs i j f
          by_cases l : ((rs[j]?).getD Str.empty).length < s.length
          · rw [if_pos l] at h
            obtain rfl := Option.some.inj h
            omega
          · rw [if_neg l] at h
            obtain rfl := Option.some.inj h
            omega
      · rw [if_neg m] at h
        have := bst_lt dom rs i k h
        omega
open Classical in
noncomputable def gd {α : Type} (p : Prop) (x : Option α) : Option α := if p then x else none
theorem gd_some {α : Type} {p : Prop} {x : Option α} {a : α} (h : gd p x = some a) : p ∧ x = some a := by
  unfold gd at h
  split at h
  · exact ⟨by assumption, h⟩
  · cases h
theorem gd_ok {α : Type} {p : Prop} {x : Option α} (h : p) : gd p x = x := by
  unfold gd
  rw [if_pos h]
def ofO {α : Type} (r : Option (α × Sto)) : Res α := match r with
  | some (a, S) => .ok a S
  | none => .bad
@[simp] theorem ofO_some {α : Type} (a : α) (S : Sto) : ofO (some (a, S)) = .ok a S := rfl
def goodO (K : PySem.W.Frag) (N : Nms) (r : Option (D × Sto)) (ι : List Addr) (H : Hp) (Q : VK) : Prop := match r with
  | some (d, S') => ∀ ι' H' v, Fut K ι H ι' H' → Rep K N ι' H' S' → RepV K ι' H' d v → Q v H'
  | none => False
section
variable {K : PySem.W.Frag} {N : Nms} {W : WX} {ι ι' : List Addr} {H H' : Hp} {σ : L2.St} {σa : Sl} {S : Sto} {X : Cx}
theorem goodO.of {r : Option (D × Sto)} {Q : VK} (g : goodE K N W (ofO r) ι H σ Q) : goodO K N r ι H Q := by
  match r, g with
  | some (d, S'), g => exact g
theorem goodO.fut {r : Option (D × Sto)} {Q : VK} (g : goodO K N r ι H Q) (f : Fut K ι H ι' H') : goodO K N r ι' H' Q := by
  match r, g with
  | some (d, S'), g => exact fun a b c f2 => g a b c (f.trans f2)
/-- a value without a change of the store -/
theorem goodO.at {d : D} {Q : VK} (g : goodO K N (some (d, S)) ι H Q) (R : Rep K N ι H S) {v : V} (r : RepV K ι H d v) : Q v H := g ι H v (Fut.refl _ _) R r
theorem goodE.at {d : D} {Q : VK} (g : goodE K N W (.ok d S) ι H σ Q) (R : Rep K N ι H S) {v : V} (r : RepV K ι H d v) : Q v H := g ι H v (Fut.refl _ _) R r
/-! ### names and constants -/
def eC (d : D) : M D := fun _ S => .ok d S
def eV (i : Nat) : M D := fun σ S => match σ[i]? with
  | some (some d) => .ok d S
  | _ => .bad
theorem ae_non {j pos} : AE K N W X (.Constant .none j pos) (eC .non) := PE.imp pe_non fun σ H Q ⟨_, _, _, _, R, g⟩ => goodE.at g R rfl
theorem ae_bl {b j pos} : AE K N W X (.Constant (.bool b) j pos) (eC (.bl b)) := PE.imp pe_bl fun σ H Q ⟨_, _, _, _, R, g⟩ => goodE.at g R rfl
theorem ae_int {i j pos} : AE K N W X (.Constant (.int i) j pos) (eC (.int i)) := PE.imp pe_int fun σ H Q ⟨_, _, _, _, R, g⟩ => goodE.at g R rfl
theorem ae_str {x j pos} : AE K N W X (.Constant (.str x) j pos) (eC (.str x)) := PE.imp pe_str fun σ H Q ⟨_, _, _, _, R, g⟩ => goodE.at g R rfl
theorem ae_var {i : Nat} {e : Expr} (h : PE X e (tVar i)) : AE K N W X e (eV i) := PE.imp h fun σ H Q ⟨ι, σa, S, hs, R, g⟩ => by
  unfold eV at g
  cases e : σa[i]? with
  | none =>
    rw [e] at g
    exact g.elim
  | some o =>
    cases o with
    | none =>
      rw [e] at g
      exact g.elim
    | some d =>
      rw [e] at g
      obtain ⟨v, ev, r⟩ := hs.2 i d e
      exact ⟨v, ev, goodE.at g R r⟩
theorem ae_c {e : Expr} {d : D} {v : V} (h : PE X e (tC v)) (r : ∀ ι H, RepV K ι H d v) : AE K N W X e (eC d) := PE.imp h fun σ H Q ⟨ι, _, _, _, R, g⟩ => goodE.at g R (r ι H)
theorem ae_kI {x : Str} {z : Int} {p : Pos} (hg : Gl X x) (hm : ∃ t, X.mg x = some (.int z t)) (hd : (x == ("__debug__" : Str)) = false := by decide) : AE K N W X (.Name x p) (eC (.int z)) := ae_c (pe_kI hg hm hd) fun _ _ => rfl
theorem ae_kS {x : Str} {z : Str} {p : Pos} (hg : Gl X x) (hm : ∃ t, X.mg x = some (.str z t)) (hd : (x == ("__debug__" : Str)) = false := by decide) : AE K N W X (.Name x p) (eC (.str z)) := ae_c (pe_kS hg hm hd) fun _ _ => rfl
/-! ### operators -/
abbrev Op1 := D → Sto → Option (D × Sto)
abbrev Op2 := D → D → Sto → Option (D × Sto)
def e1 (f : Op1) (a : M D) : M D := eBind a fun x _ S => ofO (f x S)
def e2 (f : Op2) (a b : M D) : M D := eBind a fun x => eBind b fun y _ S => ofO (f x y S)
def R1ok (K : PySem.W.Frag) (N : Nms) (r : V → Hp → VK → Prop) (f : Op1) : Prop := ∀ ι H S x v Q, Rep K N ι H S → RepV K ι H x v → goodO K N (f x S) ι H Q → r v H Q
def R2ok (K : PySem.W.Frag) (N : Nms) (r : R2) (f : Op2) : Prop := ∀ ι H S x y v u Q, Rep K N ι H S → RepV K ι H x v → RepV K ι H y u → goodO K N (f x y S) ι H Q → r v u H Q
theorem te_op {r : R2} {f : Op2} (hr : R2ok K N r f) {ma mb : M D} {Q : VK} (h : teX K N W (e2 f ma mb) σ H Q) : tOp r (teX K N W ma) (teX K N W mb) σ H Q := by
  obtain ⟨ι, σa, S, hs, R, g⟩ := h
  exact bindEE hs R g fun ι1 H1 v d S1 f1 hs1 R1 r1 g1 => bindEE hs1 R1 g1 fun ι2 H2 u e S2 f2 hs2 R2 r2 g2 => hr ι2 H2 S2 d e v u Q R2 (r1.fut f2) r2 (goodO.of g2)
theorem te_un {r : V → Hp → VK → Prop} {f : Op1} (hr : R1ok K N r f) {ma : M D} {Q : VK} (h : teX K N W (e1 f ma) σ H Q) : tUn r (teX K N W ma) σ H Q := by
  obtain ⟨ι, σa, S, hs, R, g⟩ := h
  exact bindEE hs R g fun ι1 H1 v d S1 f1 hs1 R1 r1 g1 => hr ι1 H1 S1 d v Q R1 r1 (goodO.of g1)
section
variable {a b c : Expr} {ma mb mc : M D} {pos : Pos}
theorem ae_op {op : Operator} {r : R2} {f : Op2} (ho : OpR X (binaryOp op) r) (hr : R2ok K N r f) (ha : AE K N W X a ma) (hb : AE K N W X b mb) : AE K N W X (.BinOp a op b pos) (e2 f ma mb) := PE.imp (pe_op ho ha hb) fun σ H Q h => te_op hr h
theorem ae_un {op : UnaryOp} {r : V → Hp → VK → Prop} {f : Op1} (ho : UnR X (unaryOp op) r) (hr : R1ok K N r f) (ha : AE K N W X a ma) : AE K N W X (.UnaryOp op a pos) (e1 f ma) := PE.imp (pe_un ho ha) fun σ H Q h => te_un hr h
theorem ae_cmp {op : CmpOp} {r : R2} {f : Op2} (ho : OpR X (compareOp op) r) (hr : R2ok K N r f) (ha : AE K N W X a ma) (hb : AE K N W X b mb) (hm : behindInMarks op b = false) : AE K N W X (.Compare a [op] [b] pos) (e2 f ma mb) := PE.imp (pe_cmpR ho ha hb hm) fun σ H Q h => te_op hr h
/-- a value as a test -/
def eT (m : M D) : M Bool := eBind m fun d _ S => match d with
  | .bl b => .ok b S
  | _ => .bad
theorem tb_test {m : M D} {Q : Bool → Hp → Prop} (h : tbX K N W (eT m) σ H Q) : teX K N W m σ H fun x H' => ∃ k, x = .bl k ∧ Q k H' := by
  obtain ⟨ι, σa, S, hs, R, g⟩ := h
  refine bindEB hs R g fun ι1 H1 v d S1 f1 hs1 R1 r1 g1 => ?_
  cases d with
  | bl k => exact ⟨k, r1, g1 ι1 H1 (Fut.refl _ _) R1⟩
  | _ => exact g1.elim
theorem at_cmp {op : CmpOp} {r : R2} {f : Op2} (ho : OpR X (compareOp op) r) (hr : R2ok K N r f) (ha : AE K N W X a ma) (hb : AE K N W X b mb) (hm : behindInMarks op b = false) : AT K N W X (.Compare a [op] [b] pos) (eT (e2 f ma mb)) :=
  PT.imp (pt_cmpR ho ha hb hm) fun σ H Q h => te_op (Q := fun x H' => ∃ k, x = .bl k ∧ Q k H') hr (tb_test h)
theorem at_val {e : Expr} {m : M D} (h : AE K N W X e m) (he : ∀ whole, isTrue e X.env whole = (do let v ← whole; standAt e.pos; holding [v] (truthy v)) := by intro _; rfl) : AT K N W X e (eT m) := PT.imp (pt_val h he) fun σ H Q h => tb_test h
/-- a op b op' c -/
def eChain (f f' : Op2) (a b c : M D) : M D := eBind a fun x => eBind b fun y => eBind (fun _ S => ofO (f x y S)) fun z => match z with
  | .bl true => eBind c fun w _ S => ofO (f' y w S)
  | .bl false => fun _ S => .ok (.bl false) S
  | _ => fun _ _ => .bad
theorem te_chain {r r' : R2} {f f' : Op2} (hr : R2ok K N r f) (hr' : R2ok K N r' f') {Q : VK} (h : teX K N W (eChain f f' ma mb mc) σ H Q) : tChain r r' (teX K N W ma) (teX K N W mb) (teX K N W mc) σ H Q := by
  obtain ⟨ι, σa, S, hs, R, g⟩ := h
  refine bindEE hs R g fun ι1 H1 v d S1 f1 hs1 R1 r1 g1 => bindEE hs1 R1 g1 fun ι2 H2 u e S2 f2 hs2 R2 r2 g2 => ?_
  refine hr ι2 H2 S2 d e v u _ R2 (r1.fut f2) r2 ?_
  change goodE K N W ((ofO (f d e S2)).bind _) _ _ _ _ at g2
  cases ef : f d e S2 with
  | none =>
    rw [ef] at g2
    exact g2.elim
  | some p =>
    obtain ⟨z, S3⟩ := p
    rw [ef] at g2
    intro ι3 H3 vz f3 R3 r3
    cases z with
    | bl k =>
      refine ⟨k, r3, ?_⟩
      cases k with
      | true =>
        refine iteT (bindEE (k := fun w _ S => ofO (f' e w S)) (hs2.fut f3) R3 (goodE.fut (r := eBind mc (fun w _ S => ofO (f' e w S)) σa S3) g2 f3) fun ι4 H4 w dw S4 f4 hs4 R4 r4 g4 => ?_)
        exact hr' ι4 H4 S4 e dw u w Q R4 ((r2.fut f3).fut f4) r4 (goodO.of g4)
      | false => exact iteF (g2 ι3 H3 _ f3 R3 rfl)
    | _ => exact g2.elim
theorem ae_chain {op op' : CmpOp} {r r' : R2} {f f' : Op2} (ho : OpR X (compareOp op) r) (ho' : OpR X (compareOp op') r') (hr : R2ok K N r f) (hr' : R2ok K N r' f') (ha : AE K N W X a ma) (hb : AE K N W X b mb) (hc : AE K N W X c mc)
    (hm : lastMarks [op, op'] [b, c] = false := by with_unfolding_all rfl) : AE K N W X (.Compare a [op, op'] [b, c] pos) (eChain f f' ma mb mc) := PE.imp (pe_chain ho ho' ha hb hc hm) fun σ H Q h => te_chain hr hr' h
theorem at_chain {op op' : CmpOp} {r r' : R2} {f f' : Op2} (ho : OpR X (compareOp op) r) (ho' : OpR X (compareOp op') r') (hr : R2ok K N r f) (hr' : R2ok K N r' f') (ha : AE K N W X a ma) (hb : AE K N W X b mb) (hc : AE K N W X c mc)
    (hm : lastMarks [op, op'] [b, c] = false := by with_unfolding_all rfl) : AT K N W X (.Compare a [op, op'] [b, c] pos) (eT (eChain f f' ma mb mc)) :=
  PT.imp (pt_chain ho ho' ha hb hc hm) fun σ H Q h => te_chain (Q := fun x H' => ∃ k, x = .bl k ∧ Q k H') hr hr' (tb_test h)
/-! ### and, or, not, if else -/
def bAnd (a b : M Bool) : M Bool := eBind a fun c => if c then b else fun _ S => .ok false S
def bOr (a b : M Bool) : M Bool := eBind a fun c => if c then fun _ S => .ok true S else b
def bNot (a : M Bool) : M Bool := eBind a fun c _ S => .ok (!c) S
def eIf (t : M Bool) (a b : M D) : M D := eBind t fun c => if c then a else b
variable {ba bb : M Bool} {rest : List Expr}
theorem aw_and1 (ha : AT K N W X a ba) : AW K N W X (.BoolOp .And [a] pos) ba := pw_and1 ha
theorem aw_or1 (ha : AT K N W X a ba) : AW K N W X (.BoolOp .Or [a] pos) ba := pw_or1 ha
theorem aw_and (ha : AT K N W X a ba) (hb : AW K N W X (.BoolOp .And (b :: rest) pos) bb) : AW K N W X (.BoolOp .And (a :: b :: rest) pos) (bAnd ba bb) := PW.imp (pw_and ha hb) fun σ H Q ⟨ι, σa, S, hs, R, g⟩ =>
  bindBB hs R g fun ι1 H1 c S1 f1 hs1 R1 g1 => by
    cases c with
    | true => exact iteT ⟨ι1, _, S1, hs1, R1, g1⟩
    | false => exact iteF (g1 ι1 H1 (Fut.refl _ _) R1)
theorem aw_or (ha : AT K N W X a ba) (hb : AW K N W X (.BoolOp .Or (b :: rest) pos) bb) : AW K N W X (.BoolOp .Or (a :: b :: rest) pos) (bOr ba bb) := PW.imp (pw_or ha hb) fun σ H Q ⟨ι, σa, S, hs, R, g⟩ =>
  bindBB hs R g fun ι1 H1 c S1 f1 hs1 R1 g1 => by
    cases c with
    | true => exact iteT (g1 ι1 H1 (Fut.refl _ _) R1)
    | false => exact iteF ⟨ι1, _, S1, hs1, R1, g1⟩
theorem at_not (ha : AT K N W X a ba) : AT K N W X (.UnaryOp .Not a pos) (bNot ba) := PT.imp (pt_not ha) fun σ H Q ⟨ι, σa, S, hs, R, g⟩ =>
  bindBB hs R g fun ι1 H1 c S1 f1 hs1 R1 g1 => g1 ι1 H1 (Fut.refl _ _) R1
theorem ae_ifE (ht : AT K N W X c ba) (ha : AE K N W X a ma) (hb : AE K N W X b mb) : AE K N W X (.IfExp c a b pos) (eIf ba ma mb) := PE.imp (pe_ifExp ht ha hb) fun σ H Q ⟨ι, σa, S, hs, R, g⟩ =>
  bindBE hs R g fun ι1 H1 c S1 f1 hs1 R1 g1 => by
    cases c with
    | true => exact iteT ⟨ι1, _, S1, hs1, R1, g1⟩
    | false => exact iteF ⟨ι1, _, S1, hs1, R1, g1⟩
/-- as values -/
def eNot (a : M D) : M D := eBind a fun x _ S => match x with
  | .bl c => .ok (.bl (!c)) S
  | _ => .bad
def eAnd (a b : M D) : M D := eBind a fun x => match x with
  | .bl true => b
  | .bl false => fun _ S => .ok (.bl false) S
  | _ => fun _ _ => .bad
def eOr (a b : M D) : M D := eBind a fun x => match x with
  | .bl false => b
  | .bl true => fun _ S => .ok (.bl true) S
  | _ => fun _ _ => .bad
theorem ae_not (ha : AE K N W X a ma) : AE K N W X (.UnaryOp .Not a pos) (eNot ma) := PE.imp (pe_not ha) fun σ H Q ⟨ι, σa, S, hs, R, g⟩ =>
  bindEE hs R g fun ι1 H1 v d S1 f1 hs1 R1 r1 g1 => by
    cases d with
    | bl c => exact ⟨c, r1, goodE.at g1 R1 rfl⟩
    | _ => exact g1.elim
theorem ae_one {op} (ha : AE K N W X a ma) : AE K N W X (.BoolOp op [a] pos) ma := pe_one ha
theorem ae_and (ha : AE K N W X a ma) (hb : AE K N W X (.BoolOp .And (b :: rest) pos) mb) : AE K N W X (.BoolOp .And (a :: b :: rest) pos) (eAnd ma mb) := PE.imp (pe_and ha hb) fun σ H Q ⟨ι, σa, S, hs, R, g⟩ =>
  bindEE hs R g fun ι1 H1 v d S1 f1 hs1 R1 r1 g1 => by
    cases d with
    | bl c =>
      refine ⟨c, r1, ?_⟩
      cases c with
      | true => exact iteT ⟨ι1, _, S1, hs1, R1, g1⟩
      | false => exact iteF (goodE.at g1 R1 rfl)
    | _ => exact g1.elim
theorem ae_or (ha : AE K N W X a ma) (hb : AE K N W X (.BoolOp .Or (b :: rest) pos) mb) : AE K N W X (.BoolOp .Or (a :: b :: rest) pos) (eOr ma mb) := PE.imp (pe_or ha hb) fun σ H Q ⟨ι, σa, S, hs, R, g⟩ =>
  bindEE hs R g fun ι1 H1 v d S1 f1 hs1 R1 r1 g1 => by
    cases d with
    | bl c =>
      refine ⟨c, r1, ?_⟩
      cases c with
      | true => exact iteT (goodE.at g1 R1 rfl)
      | false => exact iteF ⟨ι1, _, S1, hs1, R1, g1⟩
    | _ => exact g1.elim
end
end
/-! ### statements -/
def cNext : Sm := fun σ S => .nx σ S
def cSeq (a b : Sm) : Sm := fun σ S => match a σ S with
  | .nx σ1 S1 => b σ1 S1
  | .rt d S1 => .rt d S1
  | .bk σ1 S1 => .bk σ1 S1
  | .ct σ1 S1 => .ct σ1 S1
  | .ex C σ1 S1 => .ex C σ1 S1
  | .bad => .bad
def cBreak : Sm := fun σ S => .bk σ S
def cCont : Sm := fun σ S => .ct σ S
def cDrop (m : M D) : Sm := sBind m fun _ σ S => .nx σ S
def cRet (m : M D) : Sm := sBind m fun d _ S => .rt d S
def cRetN : Sm := fun _ S => .rt .non S
def cIf (t : M Bool) (a b : Sm) : Sm := sBind t fun c => if c then a else b
def cSet (i : Nat) (m : M D) : Sm := sBind m fun d σ S => .nx (σ.set i (some d)) S
def cNever : Sm := fun _ _ => .bad
abbrev Tg := D → Sl → Sto → Option (Sl × Sto)
abbrev Tgs := List D → Sl → Sto → Option (Sl × Sto)
def cAsg (m : M D) (g : Tg) : Sm := sBind m fun d σ S => match g d σ S with
  | some (σ1, S1) => .nx σ1 S1
  | none => .bad
section
variable {K : PySem.W.Frag} {N : Nms} {W : WX} {ι ι' : List Addr} {H H' : Hp} {σ : L2.St} {σa : Sl} {S : Sto} {X : Cx}
theorem ass_nil : ASs K N W X [] cNext := PSs.imp pss_nil fun σ H T ⟨ι, σa, S, hs, R, g⟩ => g ι H σ (Fut.refl _ _) hs R
theorem ass_one {st : Stmt} {c : Sm} (h : AS K N W X st c) : ASs K N W X [st] c := pss_one h
theorem ass_cons {st : Stmt} {rest : List Stmt} {c d : Sm} (h1 : AS K N W X st c) (h2 : ASs K N W X rest d) : ASs K N W X (st :: rest) (cSeq c d) := PSs.imp (pss_cons h1 h2) fun σ H T ⟨ι, σa, S, hs, R, g⟩ => by
  refine ⟨ι, σa, S, hs, R, ?_⟩
  unfold cSeq at g
  cases e : c σa S with
  | nx σ1 S1 =>
    rw [e] at g
    exact fun ι1 H1 σv f hs1 R1 => ⟨ι1, σ1, S1, hs1, R1, goodS.fut (r := d σ1 S1) g f⟩
  | rt d1 S1 => rw [e] at g; exact g
  | bk σ1 S1 => rw [e] at g; exact g
  | ct σ1 S1 => rw [e] at g; exact g
  | ex C σ1 S1 => rw [e] at g; exact g
  | bad => rw [e] at g; exact g
theorem as_pass {pos} : AS K N W X (.Pass pos) cNext := PS.imp ps_pass fun σ H T ⟨ι, σa, S, hs, R, g⟩ => g ι H σ (Fut.refl _ _) hs R
theorem as_break {pos} : AS K N W X (.Break pos) cBreak := PS.imp ps_break fun σ H T ⟨ι, σa, S, hs, R, g⟩ => g ι H σ (Fut.refl _ _) hs R
theorem as_continue {pos} : AS K N W X (.Continue pos) cCont := PS.imp ps_continue fun σ H T ⟨ι, σa, S, hs, R, g⟩ => g ι H σ (Fut.refl _ _) hs R
theorem as_never {st : Stmt} : AS K N W X st cNever := PS.imp ps_never fun σ H T ⟨ι, σa, S, hs, R, g⟩ => g.elim
theorem as_expr {e : Expr} {m : M D} {pos : Pos} (he : AE K N W X e m) (hs : swapsWith e none pos.line X.env = pure false := by rfl) : AS K N W X (.Expr e pos) (cDrop m) := PS.imp (ps_expr he hs) fun σ H T ⟨ι, σa, S, hs, R, g⟩ =>
  bindES hs R g fun ι1 H1 v d S1 f1 hs1 R1 r1 g1 => g1 ι1 H1 σ (Fut.refl _ _) hs1 R1
theorem as_ret {e : Expr} {m : M D} {pos : Pos} (he : AE K N W X e m) : AS K N W X (.Return (some e) pos) (cRet m) := PS.imp (ps_ret he) fun σ H T ⟨ι, σa, S, hs, R, g⟩ =>
  bindES hs R g fun ι1 H1 v d S1 f1 hs1 R1 r1 g1 => g1 ι1 H1 v (Fut.refl _ _) R1 r1
theorem as_retN {pos : Pos} : AS K N W X (.Return none pos) cRetN := PS.imp ps_retN fun σ H T ⟨ι, σa, S, hs, R, g⟩ => g ι H .non (Fut.refl _ _) R rfl
theorem as_if {c : Expr} {a b : List Stmt} {t : M Bool} {x y : Sm} {pos : Pos} (hc : AT K N W X c t) (ha : ASs K N W X a x) (hb : ASs K N W X b y) : AS K N W X (.If c a b pos) (cIf t x y) := PS.imp (ps_if hc ha hb) fun σ H T ⟨ι, σa, S, hs, R, g⟩ =>
  bindBS hs R g fun ι1 H1 b S1 f1 hs1 R1 g1 => by
    cases b with
    | true => exact iteT ⟨ι1, _, S1, hs1, R1, g1⟩
    | false => exact iteF ⟨ι1, _, S1, hs1, R1, g1⟩
theorem as_set {i : Nat} {x : Str} {e : Expr} {m : M D} {pos pos' : Pos} (hN : X.N.Nodup) (hi : X.N[i]? = some x) (hx : Loc X.env.scope x) (he : AE K N W X e m) (hs : swapsWith e (some (.Name x pos')) pos.line X.env = pure false := by rfl)
    (hf : X.fn x = true ∨ X.env.scope.names.lookup x = some .local := by first | exact .inl rfl | exact .inr rfl | assumption) : AS K N W X (.Assign [.Name x pos'] e pos) (cSet i m) := PS.imp (ps_set hN hi hx he hs hf) fun σ H T ⟨ι, σa, S, hs, R, g⟩ =>
  bindES hs R g fun ι1 H1 v d S1 f1 hs1 R1 r1 g1 => g1 ι1 H1 _ (Fut.refl _ _) (hs1.set r1) R1
/-! ### targets -/
/-- a value, the tuple itself perhaps one that is only read -/
def RepW (K : PySem.W.Frag) (ι : List Addr) (H : Hp) (d : D) (v : V) : Prop := match d with
  | .tup ds => ∃ a xs, v = .ref a ∧ SqT K H a xs ∧ RepL K ι H ds xs
  | d => RepV K ι H d v
theorem RepV.weak {d : D} {v : V} (h : RepV K ι H d v) : RepW K ι H d v := by
  cases d with
  | tup ds =>
    obtain ⟨a, xs, e, t, l⟩ := h
    exact ⟨a, xs, e, t.seq, l⟩
  | _ => exact h
def goodG (K : PySem.W.Frag) (N : Nms) (r : Option (Sl × Sto)) (ι : List Addr) (H : Hp) (Q : L2.St → Hp → Prop) : Prop := match r with
  | some (σa, S') => ∀ ι' H' σ, Fut K ι H ι' H' → RepSl K ι' H' σa σ → Rep K N ι' H' S' → Q σ H'
  | none => False
theorem goodG.fut {r : Option (Sl × Sto)} {Q : L2.St → Hp → Prop} (g : goodG K N r ι H Q) (f : Fut K ι H ι' H') : goodG K N r ι' H' Q := by
  match r, g with
  | some (d, S'), g => exact fun a b c f2 => g a b c (f.trans f2)
def tgS (K : PySem.W.Frag) (N : Nms) (g : Tg) : TG := fun v σ H Q => ∃ ι σa S d, RepSl K ι H σa σ ∧ Rep K N ι H S ∧ RepV K ι H d v ∧ goodG K N (g d σa S) ι H Q
def tgW (K : PySem.W.Frag) (N : Nms) (g : Tg) : TG := fun v σ H Q => ∃ ι σa S d, RepSl K ι H σa σ ∧ Rep K N ι H S ∧ RepW K ι H d v ∧ goodG K N (g d σa S) ι H Q
def tgL (K : PySem.W.Frag) (N : Nms) (g : Tgs) : TGs := fun vs σ H Q => ∃ ι σa S ds, RepSl K ι H σa σ ∧ Rep K N ι H S ∧ RepL K ι H ds vs ∧ goodG K N (g ds σa S) ι H Q
theorem PG.imp {tg : Expr} {t t' : TG} (h : PG X tg t) (i : ∀ v σ H Q, t' v σ H Q → t v σ H Q) : PG X tg t' := ⟨fun pins s σ H v u Q I r q => h.run pins s σ H v u Q I r (i v σ H Q q)⟩
theorem PGs.imp {tg : List Expr} {t t' : TGs} (h : PGs X tg t) (i : ∀ v σ H Q, t' v σ H Q → t v σ H Q) : PGs X tg t' := ⟨fun pins s σ H v u Q I r q => h.run pins s σ H v u Q I r (i v σ H Q q)⟩
abbrev AG (K : PySem.W.Frag) (N : Nms) (X : Cx) (tg : Expr) (g : Tg) : Prop := PG X tg (tgS K N g)
abbrev AGw (K : PySem.W.Frag) (N : Nms) (X : Cx) (tg : Expr) (g : Tg) : Prop := PG X tg (tgW K N g)
abbrev AGs (K : PySem.W.Frag) (N : Nms) (X : Cx) (tg : List Expr) (g : Tgs) : Prop := PGs X tg (tgL K N g)
theorem AGw.ag {tg : Expr} {g : Tg} (h : AGw K N X tg g) : AG K N X tg g := PG.imp h fun v σ H Q ⟨ι, σa, S, d, a, b, c, e⟩ => ⟨ι, σa, S, d, a, b, c.weak, e⟩
def tgName (i : Nat) : Tg := fun d σ S => some (σ.set i (some d), S)
def tgNil : Tgs := fun ds σ S => match ds with
  | [] => some (σ, S)
  | _ => none
def tgCons (g : Tg) (u : Tgs) : Tgs := fun ds σ S => match ds with
  | d :: r => (g d σ S).bind fun p => u r p.1 p.2
  | [] => none
def tgTup (u : Tgs) : Tg := fun d σ S => match d with
  | .tup ds => u ds σ S
  | _ => none
/-- .. of a list, too -/
def tgSq (u : Tgs) : Tg := fun d σ S => match d with
  | .ref n => match S[n]? with
    | some (.lst ds) => u ds σ S
    | _ => none
  | _ => none
theorem ag_name {i : Nat} {x : Str} {pos : Pos} (hN : X.N.Nodup) (hi : X.N[i]? = some x) (hx : Loc X.env.scope x) (hf : X.fn x = true ∨ X.env.scope.names.lookup x = some .local := by first | exact .inl rfl | exact .inr rfl | assumption) : AG K N X (.Name x pos) (tgName i) :=
  PG.imp (pg_name hN hi hx hf) fun v σ H Q ⟨ι, σa, S, d, hs, R, r, g⟩ => g ι H _ (Fut.refl _ _) (hs.set r) R
theorem ags_nil : AGs K N X [] tgNil := PGs.imp pgs_nil fun vs σ H Q ⟨ι, σa, S, ds, hs, R, r, g⟩ => by
  cases ds with
  | nil => exact ⟨r, g ι H σ (Fut.refl _ _) hs R⟩
  | cons _ _ => exact g.elim
theorem ags_cons {e : Expr} {es : List Expr} {t : Tg} {u : Tgs} (h1 : AG K N X e t) (h2 : AGs K N X es u)
    (hs : (assignEach (e :: es) X.env).map (·.2) = assign e X.env :: (assignEach es X.env).map (·.2) := by rfl) : AGs K N X (e :: es) (tgCons t u) := PGs.imp (pgs_cons h1 h2 hs) fun vs σ H Q ⟨ι, σa, S, ds, hs, R, r, g⟩ => by
  cases ds with
  | nil => exact g.elim
  | cons d ds =>
    obtain ⟨v, vs, rfl, rv, rl⟩ := r
    refine ⟨v, vs, rfl, ι, σa, S, d, hs, R, rv, ?_⟩
    change goodG K N ((t d σa S).bind fun p => u ds p.1 p.2) ι H Q at g
    cases e : t d σa S with
    | none =>
      rw [e] at g
      exact g.elim
    | some p =>
      rw [e] at g
      exact fun ι1 H1 σ1 f hs1 R1 => ⟨ι1, p.1, p.2, ds, hs1, R1, rl.fut f, goodG.fut (r := u ds p.1 p.2) g f⟩
theorem ag_tup {es : List Expr} {k : Nat} {u : Tgs} {n : Nat} {pos : Pos} (hc : X.calm = true) (h : AGs K N X es u) (hl : ∀ ds σ S p, u ds σ S = some p → ds.length = n) (hK : X.K = K := by rfl)
    (hn : (assignEach es X.env).length = n := by rfl) (hst : (assignEach es X.env).findIdx? (·.1) = none := by rfl) : AGw K N X (.Tuple es k pos) (tgTup u) := by
  subst hK
  refine PG.imp (pg_tup hc h hn hst) fun v σ H Q ⟨ι, σa, S, d, hs, R, r, g⟩ => ?_
  cases d with
  | tup ds =>
    obtain ⟨a, xs, rfl, t, l⟩ := r
    refine ⟨a, xs, rfl, t, ?_, ι, σa, S, ds, hs, R, l, g⟩
    rw [l.length]
    cases e : u ds σa S with
    | none =>
      rw [show tgTup u (.tup ds) σa S = u ds σa S from rfl, e] at g
      exact g.elim
    | some p => exact hl _ _ _ _ e
  | _ => exact g.elim
theorem tgl_nil : ∀ (ds : List D) (σ : Sl) (S : Sto) (p : Sl × Sto), tgNil ds σ S = some p → ds.length = 0 := fun ds σ S p h => by
  cases ds with
  | nil => rfl
  | cons _ _ => cases h
theorem tgl_cons {t : Tg} {u : Tgs} {n : Nat} (hl : ∀ (ds : List D) (σ : Sl) (S : Sto) (p : Sl × Sto), u ds σ S = some p → ds.length = n) : ∀ (ds : List D) (σ : Sl) (S : Sto) (p : Sl × Sto), tgCons t u ds σ S = some p → ds.length = n + 1 := fun ds σ S p h => by
  cases ds with
  | nil => cases h
  | cons d ds =>
    change (t d σ S).bind (fun p => u ds p.1 p.2) = some p at h
    cases e : t d σ S with
    | none =>
      rw [e] at h
      cases h
    | some q =>
      rw [e] at h
      rw [List.length_cons, hl _ _ _ _ h]
theorem as_asg {tg e : Expr} {m : M D} {g : Tg} {pos : Pos} (he : AE K N W X e m) (hg : AG K N X tg g) (hs : swapsWithSole [tg] e pos.line X.env = pure false := by rfl) (hw : swappedStores [tg] e X.env = pure none := by rfl)
    (h1 : (assignEach [tg] X.env).map (·.2) = [assign tg X.env] := by rfl) : AS K N W X (.Assign [tg] e pos) (cAsg m g) := PS.imp (ps_asg he hg hs hw h1) fun σ H T ⟨ι, σa, S, hs, R, gg⟩ =>
  bindES hs R gg fun ι1 H1 v d S1 f1 hs1 R1 r1 g1 => by
    refine ⟨ι1, σa, S1, d, hs1, R1, r1, ?_⟩
    cases e : g d σa S1 with
    | none =>
      rw [e] at g1
      exact g1.elim
    | some p =>
      rw [e] at g1
      exact g1
/-- o[i] = .. -/
abbrev OpS := D → D → D → Sto → Option Sto
def tgSub (mo mi : M D) (f : OpS) : Tg := fun v σ S => match mo σ S with
  | .ok o S1 => match mi σ S1 with
    | .ok i S2 => match f o i v S2 with
      | some S3 => some (σ, S3)
      | none => none
    | _ => none
  | _ => none
def SetOk (K : PySem.W.Frag) (N : Nms) (t : TSet) (f : OpS) : Prop := ∀ ι H S o i d vo vi v Q, Rep K N ι H S → RepV K ι H o vo → RepV K ι H i vi → RepV K ι H d v →
  (∃ S', f o i d S = some S' ∧ ∀ ι' H', Fut K ι H ι' H' → Rep K N ι' H' S' → Q H') → t vo vi v H Q
theorem ag_sub {o i : Expr} {mo mi : M D} {t : TSet} {f : OpS} {pos : Pos} (ho : AE K N W X o mo) (hi : AE K N W X i mi) (hs : PSet X t) (hf : SetOk K N t f)
    (ha : ∀ v, assign (.Subscript o i pos) X.env v = (do
      let ov ← holding [v] (eval o X.env)
      let iv ← holding [v, ov] (eval i X.env)
      standAt pos
      holding [v, ov, iv] (setItem ov iv v)
      release [v, ov, iv] []) := by intro _; rfl) : AG K N X (.Subscript o i pos) (tgSub mo mi f) := PG.imp (pg_sub ho hi hs ha) fun v σ H Q ⟨ι, σa, S, d, hs, R, r, g⟩ => by
  refine ⟨ι, σa, S, hs, R, ?_⟩
  unfold tgSub at g
  cases e1 : mo σa S with
  | ok x S1 =>
    rw [e1] at g
    intro ι1 H1 vo f1 R1 r1
    refine ⟨ι1, σa, S1, hs.fut f1, R1, ?_⟩
    cases e2 : mi σa S1 with
    | ok y S2 =>
      simp only [e2] at g
      intro ι2 H2 vi f2 R2 r2
      cases e3 : f x y d S2 with
      | none =>
        rw [e3] at g
        exact g.elim
      | some S3 =>
        rw [e3] at g
        refine hf ι2 H2 S2 x y d vo vi v _ R2 (r1.fut f2) r2 ((r.fut f1).fut f2) ⟨S3, e3, fun ι3 H3 f3 R3 => ?_⟩
        exact g ι3 H3 σ ((f1.trans f2).trans f3) (((hs.fut f1).fut f2).fut f3) R3
    | ex C S2 =>
      simp only [e2] at g
      exact g.elim
    | bad =>
      simp only [e2] at g
      exact g.elim
  | ex C S1 =>
    rw [e1] at g
    exact g.elim
  | bad =>
    rw [e1] at g
    exact g.elim
end
/-! ### the fields of an instance -/
structure CF (K : PySem.W.Frag) (N : Nms) (C : Addr) (ns : List Str) : Prop where
  cl : Cls K C
  nm : N C = ns
  nd : ns.Nodup
  na : ∀ f ∈ ns, NoAttr K C f
  len : ns.length < 1000
theorem lookup_zip : ∀ {ns : List Str} {xs : List V} {i : Nat} {f : Str}, ns.Nodup → ns[i]? = some f → xs.length ≤ ns.length → (ns.zip xs).lookup f = xs[i]?
  | [], xs, i, f, _, e, _ => by simp at e
  | n :: ns, [], i, f, _, _, _ => by simp
  | n :: ns, x :: xs, 0, f, nd, e, _ => by
    simp at e
    subst e
    simp [List.lookup]
  | n :: ns, x :: xs, i + 1, f, nd, e, l => by
    rw [List.getElem?_cons_succ] at e
    have h := List.nodup_cons.mp nd
    have ne : (f == n) = false := beq_eq_false_iff_ne.mpr fun z => h.1 (z ▸ List.mem_of_getElem? e)
    rw [List.zip_cons_cons, List.lookup, ne, List.getElem?_cons_succ]
    exact lookup_zip h.2 e (by simpa using l)
theorem putF_zip : ∀ {ns : List Str} {xs : List V} {i : Nat} {f : Str} {v : V}, ns.Nodup → ns[i]? = some f → xs.length ≤ ns.length → i ≤ xs.length → putF f v (ns.zip xs) = ns.zip (if i < xs.length then xs.set i v else xs ++ [v])
  | [], xs, i, f, v, _, e, _, _ => by simp at e
  | n :: ns, [], i, f, v, nd, e, l, h => by
    obtain rfl : i = 0 := by simpa using h
    simp at e
    subst e
    simp [putF]
  | n :: ns, x :: xs, 0, f, v, nd, e, _, _ => by
    simp at e
    subst e
    simp [putF]
  | n :: ns, x :: xs, i + 1, f, v, nd, e, l, hi => by
    rw [List.getElem?_cons_succ] at e
    have h := List.nodup_cons.mp nd
    have ne : ¬ n = f := fun z => h.1 (z ▸ List.mem_of_getElem? e)
    have ih := putF_zip (v := v) h.2 e (xs := xs) (by simpa using l) (by simpa using hi)
    rw [List.zip_cons_cons, putF, if_neg ne, ih]
    by_cases c : i < xs.length
    · rw [if_pos c, if_pos (show i + 1 < (x :: xs).length by simpa using c)]
      rfl
    · rw [if_neg c, if_neg (show ¬ i + 1 < (x :: xs).length by simpa using c)]
      rfl
def dFld (C : Addr) (i : Nat) : Op1 := fun d S => match d with
  | .ref n => match S[n]? with
    | some (.obj C' ds) => open Classical in if C' = C then ds[i]?.map fun x => (x, S) else none
    | _ => none
  | _ => none
def dFldSet (C : Addr) (i : Nat) : D → D → Sto → Option Sto := fun o d S => match o with
  | .ref n => match S[n]? with
    | some (.obj C' ds) => open Classical in if C' = C then (if i < ds.length then some (S.set n (.obj C (ds.set i d))) else if i = ds.length then some (S.set n (.obj C (ds ++ [d]))) else none) else none
    | _ => none
  | _ => none
def cFld (C : Addr) (i : Nat) (mo mv : M D) : Sm := sBind mv fun d => sBind mo fun o σ S => match dFldSet C i o d S with
  | some S1 => .nx σ S1
  | none => .bad
def tgFld (C : Addr) (i : Nat) (mo : M D) : Tg := fun d σ S => match mo σ S with
  | .ok o S1 => match dFldSet C i o d S1 with
    | some S2 => some (σ, S2)
    | none => none
  | _ => none
section
variable {K : PySem.W.Frag} {N : Nms} {W : WX} {ι ι' : List Addr} {H H' : Hp} {σ : L2.St} {σa : Sl} {S : Sto} {X : Cx}
theorem dFld_ok {C : Addr} {ns : List Str} {f : Str} {i : Nat} (c : CF K N C ns) (e : ns[i]? = some f) {d : D} {v : V} {Q : VK} (R : Rep K N ι H S) (r : RepV K ι H d v) (g : goodO K N (dFld C i d S) ι H Q) :
    ∃ a C dx fs w, v = .ref a ∧ H a = some (.ins C dx fs) ∧ Cls K C ∧ NoAttr K C f ∧ fs.lookup f = some w ∧ Q w H := by
  cases d with
  | ref n =>
    unfold dFld at g
    simp only at g
    cases es : S[n]? with
    | none => rw [es] at g; exact g.elim
    | some o =>
      rw [es] at g
      cases o with
      | obj C' ds =>
        simp only at g
        by_cases hc : C' = C
        · rw [if_pos hc] at g
          subst hc
          cases ed : ds[i]? with
          | none => rw [ed] at g; exact g.elim
          | some x =>
            rw [ed] at g
            obtain ⟨a, ea, dx, xs, q, l, rl⟩ := R.ob n _ es
            obtain ⟨b, eb, rfl⟩ := r
            rw [ea] at eb
            cases eb
            rw [c.nm] at q l
            obtain ⟨w, ew, rw'⟩ := rl.get ed
            refine ⟨a, C', dx, _, w, rfl, q, c.cl, c.na f (List.mem_of_getElem? e), ?_, goodO.at g R rw'⟩
            rw [lookup_zip c.nd e (by rw [rl.length]; exact l)]
            exact ew
        · rw [if_neg hc] at g
          exact g.elim
      | _ => exact g.elim
  | _ => exact g.elim
theorem ae_fld {C : Addr} {ns : List Str} {f : Str} {i : Nat} {e : Expr} {m : M D} {pos : Pos} (c : CF K N C ns) (hi : ns[i]? = some f) (he : AE K N W X e m) (hb : attributeBase e f X.env (eval e X.env) = eval e X.env) (hK : X.K = K := by rfl) : AE K N W X (.Attribute e f pos) (e1 (dFld C i) m) := by
  subst hK
  refine PE.imp (pe_fld he hb) fun σ H Q ⟨ι, σa, S, hs, R, g⟩ => bindEE hs R g fun ι1 H1 v d S1 f1 hs1 R1 r1 g1 => ?_
  exact dFld_ok c hi R1 r1 (goodO.of g1)
theorem dFldSet_ok {C : Addr} {ns : List Str} {f : Str} {i : Nat} (c : CF K N C ns) (e : ns[i]? = some f) {o d : D} {u v : V} {S' : Sto} (R : Rep K N ι H S) (ro : RepV K ι H o u) (r : RepV K ι H d v) (g : dFldSet C i o d S = some S') :
    ∃ a C dx fs, u = .ref a ∧ H a = some (.ins C dx fs) ∧ Cls K C ∧ NoAttr K C f ∧ fs.length < 1000 ∧ Rep K N ι (upd H a (.ins C dx (putF f v fs))) S' ∧ Fut K ι H ι (upd H a (.ins C dx (putF f v fs))) := by
  cases o with
  | ref n =>
    unfold dFldSet at g
    simp only at g
    cases es : S[n]? with
    | none => rw [es] at g; cases g
    | some ob =>
      rw [es] at g
      cases ob with
      | obj C' ds =>
        simp only at g
        by_cases hc : C' = C
        · rw [if_pos hc] at g
          subst hc
          obtain ⟨a, ea, dx, xs, q, l, rl⟩ := R.ob n _ es
          obtain ⟨b, eb, rfl⟩ := ro
          rw [ea] at eb
          cases eb
          have q0 := q
          rw [c.nm] at q l
          have hl := rl.length
          have hin := (List.getElem?_eq_some_iff.mp e).1
          by_cases h1 : i < ds.length
          · rw [if_pos h1] at g
            cases g
            have z := putF_zip (v := v) c.nd e (xs := xs) (by rw [hl]; exact l) (by rw [hl]; exact Nat.le_of_lt h1)
            rw [if_pos (by rw [hl]; exact h1)] at z
            have P := R.put (o := .ins C' dx (putF f v (ns.zip xs))) (ob := .obj C' (ds.set i d)) ea (fun H' eH fu => ⟨dx, xs.set i v, by rw [eH, upd_same, z, c.nm], by rw [List.length_set, c.nm]; exact l, (rl.fut fu).set (r.fut fu)⟩)
            refine ⟨a, C', dx, _, rfl, q, c.cl, c.na f (List.mem_of_getElem? e), ?_, P.1, P.2⟩
            have := c.len
            rw [List.length_zip]
            omega
          · rw [if_neg h1] at g
            by_cases h2 : i = ds.length
            · rw [if_pos h2] at g
              cases g
              have z := putF_zip (v := v) c.nd e (xs := xs) (by rw [hl]; exact l) (by rw [hl, h2]; exact Nat.le_refl _)
              rw [if_neg (by rw [hl]; exact h1)] at z
              have P := R.put (o := .ins C' dx (putF f v (ns.zip xs))) (ob := .obj C' (ds ++ [d])) ea (fun H' eH fu => ⟨dx, xs ++ [v], by rw [eH, upd_same, z, c.nm], by rw [List.length_append, c.nm, ← h2]; exact hin, (rl.fut fu).append (RepL.cons (r.fut fu) RepL.nil)⟩)
              refine ⟨a, C', dx, _, rfl, q, c.cl, c.na f (List.mem_of_getElem? e), ?_, P.1, P.2⟩
              have := c.len
              rw [List.length_zip]
              omega
            · rw [if_neg h2] at g
              cases g
        · rw [if_neg hc] at g
          cases g
      | _ => cases g
  | _ => cases g
theorem as_fld {C : Addr} {ns : List Str} {f : Str} {i : Nat} {o e : Expr} {mo mv : M D} {pos pos' : Pos} (c : CF K N C ns) (hi : ns[i]? = some f) (ho : AE K N W X o mo) (hv : AE K N W X e mv) (hs : swapsWith e (some (.Attribute o f pos')) pos.line X.env = pure false) (hK : X.K = K := by rfl) :
    AS K N W X (.Assign [.Attribute o f pos'] e pos) (cFld C i mo mv) := by
  subst hK
  refine PS.imp (ps_fld ho hv hs) fun σ H T ⟨ι, σa, S, hs, R, g⟩ => bindES hs R g fun ι1 H1 v d S1 f1 hs1 R1 r1 g1 => bindES hs1 R1 g1 fun ι2 H2 u o S2 f2 hs2 R2 r2 g2 => ?_
  cases es : dFldSet C i o d S2 with
  | none =>
    rw [es] at g2
    exact g2.elim
  | some S3 =>
    rw [es] at g2
    obtain ⟨a, C', dx, fs, eu, ea, cl, na, l, R3, f3⟩ := dFldSet_ok c hi R2 r2 (r1.fut f2) es
    exact ⟨a, C', dx, fs, eu, ea, cl, na, l, g2 ι2 _ σ f3 (hs2.fut f3) R3⟩
def gAttr (K : PySem.W.Frag) (to : TE) (f : Str) : TG := fun v σ H Q => to σ H fun x H1 => ∃ a C dx fs, x = .ref a ∧ H1 a = some (.ins C dx fs) ∧ Cls K C ∧ NoAttr K C f ∧ fs.length < 1000 ∧ Q σ (upd H1 a (.ins C dx (putF f v fs)))
theorem pg_attr {o : Expr} {f : Str} {to : TE} {pos : Pos} (ho : PE X o to) : PG X (.Attribute o f pos) (gAttr X.K to f) := by
  refine ⟨fun pins s σ H v u Q I r h => ?_⟩
  refine PySem.W.kas_attr (thn (ho.run pins s σ H _ I h) fun ov s1 ⟨x, H1, I1, r1, a, C, dx, fs, ex, ea, c, n, l, q⟩ => ?_)
  subst ex
  obtain rfl : ov = Value.ref a := r1
  exact setattr_ok I1 ea c n l r fun s2 I2 => ⟨σ, _, I2, q⟩
theorem ag_fld {C : Addr} {ns : List Str} {f : Str} {i : Nat} {o : Expr} {mo : M D} {pos : Pos} (c : CF K N C ns) (hi : ns[i]? = some f) (ho : AE K N W X o mo) (hK : X.K = K := by rfl) : AG K N X (.Attribute o f pos) (tgFld C i mo) := by
  subst hK
  refine PG.imp (pg_attr ho) fun v σ H Q ⟨ι, σa, S, d, hs, R, r, g⟩ => ⟨ι, σa, S, hs, R, ?_⟩
  unfold tgFld at g
  cases e1 : mo σa S with
  | ok x S1 =>
    rw [e1] at g
    intro ι1 H1 vo f1 R1 r1
    cases es : dFldSet C i x d S1 with
    | none =>
      simp only [es] at g
      exact g.elim
    | some S3 =>
      simp only [es] at g
      obtain ⟨a, C', dx, fs, eu, ea, cl, na, l, R3, f3⟩ := dFldSet_ok c hi R1 r1 (r.fut f1) es
      exact ⟨a, C', dx, fs, eu, ea, cl, na, l, g ι1 _ σ (f1.trans f3) ((hs.fut f1).fut f3) R3⟩
  | ex C S1 =>
    rw [e1] at g
    exact g.elim
  | bad =>
    rw [e1] at g
    exact g.elim
end
/-! enumerate(xs, start=z), walked -/
/-- the list at a, the items in new pairs, counted from z -/
def ItN (K : PySem.W.Frag) (a : Addr) (z : Int) : It where
  go := fun i H => ∃ xs x, SqL K H a xs ∧ xs[i]? = some x
  yld := fun i H v H' => ∃ p x, v = .ref p ∧ H p = none ∧ H' = upd H p (.tup [.int (z + (i : Nat)), x]) ∧ ∀ xs, SqL K H a xs → xs[i]? = some x
  stop := fun i H => ∃ xs, SqL K H a xs ∧ xs.length = i
theorem callType_kw {M : Model} {A : Around} {E : Value → Shared → Prop} {s : Shared} {env : Env} {pos : Pos} {T : String} {e : Expr} {kws : List Keyword} {Q : Value → Shared → Prop}
    (go : wpAny M A (spliced (backTo pos (starEach [e] env))) (fun us s1 => wpAny M A (evalAll ((backToKw pos (keywordEach kws env)).map (·.2)))
      (fun ks s2 => wpAny M A (call (.type T) us (((backToKw pos (keywordEach kws env)).filterMap (·.1)).zip ks)) Q E s2) E s1) E s)
    (one : backTo pos (starEach [e] env) = (false, eval e env) :: backTo pos (starEach [] env)) (no : (backTo pos (starEach [e] env)).any (·.1) = false)
    (named : (backToKw pos (keywordEach kws env)).all (·.1.isSome) = true) (noStar : (backToKw pos (keywordEach kws env)).any (·.1.isNone) = false) :
    wpAny M A (callWith pos (.type T) [] (backTo pos (starEach [e] env)) (backToKw pos (keywordEach kws env))) Q E s := by
  rw [one] at go no ⊢
  have args := evalArgs_kwB (f := .type T) (Q := fun r t => wpAny M A (call (.type T) r.pos r.kw) Q E t) named go
  unfold callWith
  refine wpAny_bind (wpAny_holding (wpAny_mono args (fun r t k => ?_) fun _ _ q => q))
  refine wpAny_bind (wpAny_standAt ?_)
  simp only [no, noStar, Bool.or_false]
  refine wpAny_bind (wpAny_pure (wpAny_bind (wpAny_mono k (fun v t' k' => ?_) fun _ _ q => q)))
  exact wpAny_bind (wpAny_holding (wpAny_point (wpAny_pure k')))
theorem turnN {P : Program} {w : World} {K : PySem.W.Frag} {elts : List Expr} {kk : Nat} {tpos : Pos} (a e it : Addr) (z : Int) :
    Turn P w K (.Tuple elts kk tpos) (ItN K a z) [e, it] e (fun i h => (∃ old, IsEnum h e it (z + (i : Nat)) old) ∧ h.IsListIter it a i ∧ e ≠ it) where
  mem := List.mem_cons_self
  obj := by
    rintro i h ⟨⟨old, he⟩, ⟨o, ho, hc, hd⟩, _⟩ b hb
    simp only [List.mem_cons, List.not_mem_nil, or_false] at hb
    rcases hb with rfl | rfl
    · exact ⟨_, he, fun v q => by cases q⟩
    · refine ⟨o, ho, fun v q => ?_⟩
      rw [hd] at q
      cases q
  keep := by
    rintro i h h' ⟨⟨old, he⟩, hi, hne⟩ k
    exact ⟨⟨old, k e List.mem_cons_self _ he⟩, hi.at fun o q => k it (by simp) o q, hne⟩
  item := by
    intro X hP hw hK hc i pins s σ H E I hf tn hg
    subst hP hw hK
    obtain ⟨⟨old, he⟩, hit, hne⟩ := tn
    obtain ⟨xs, x, hq, hx⟩ := hg
    obtain ⟨its, rv, p, _⟩ := I.list hq
    obtain ⟨u, hu, ru⟩ := rv.get hx
    have lo : e < s.heap.objs.size := Heap.lt_size he
    have li : it < s.heap.objs.size := by
      obtain ⟨_, q, _⟩ := hit
      exact Heap.lt_size q
    have ai : a ≠ it := fun q => by
      obtain ⟨o1, h1, c1, _⟩ := hit
      obtain ⟨o2, h2, c2, _⟩ := p.isList
      rw [q, h1] at h2
      cases Option.some.inj h2
      rw [c1] at c2
      injection c2 with c3
      exact absurd c3 (by decide)
    have ea : e ≠ a := fun q => by
      obtain ⟨o2, h2, c2, _⟩ := p.isList
      have h1 := he
      unfold IsEnum at h1
      rw [q, h2] at h1
      cases Option.some.inj h1
      injection c2 with c3
      exact absurd c3 (by decide)
    have hh : X.A.in1.handled = none := I.ok.hd hc
    refine wpAny_pyNext_enum_itemC (Draws.list hh it a ai its.toArray) he ⟨hit, p.isList⟩ (show i < its.toArray.size by
      have := (List.getElem?_eq_some_iff.mp hu).1
      simpa using this) hne (by simp [hne, ea]) fun v h' tk hv ho st hT hsz hk => ?_
    have ev : v = u := by
      have h1 : its.toArray[i]? = some v := hv
      rw [show its.toArray[i]? = its[i]? by simp, hu] at h1
      exact (Option.some.inj h1).symm
    subst ev
    refine ⟨_, rfl, wpAny_letOwnedTupleGo_enum ho fun h2 he2 sb => ?_⟩
    have nT : s.heap.objs.size ≠ e := Nat.ne_of_gt lo
    have hT2 := (sb.2 _ nT).trans hT
    have ob : ObjOk X.prog X.w (upd H s.heap.objs.size (.tup [.int (z + (i : Nat)), x])) h2 s.heap.objs.size (.tup [.int (z + (i : Nat)), x]) :=
      ⟨line_of (by decide : 2 ≤ 10000000), [.int (z + (i : Nat)) tk, v], .cons ⟨_, rfl⟩ (.cons ru .nil), ⟨_, hT2, rfl, _, rfl⟩⟩
    have keep : ∀ b ob', b ∉ [e, it] → s.heap.get? b = some ob' → h2.get? b = some ob' := fun b ob' hb q => by
      simp only [List.mem_cons, List.not_mem_nil, or_false, not_or] at hb
      exact (sb.2 b hb.1).trans (hk b ob' hb.1 hb.2 q)
    have J : Inv X pins σ (upd H s.heap.objs.size (.tup [.int (z + (i : Nat)), x])) { s with heap := h2, toks := tk + 1 } := I.turnedNew (ch := [e, it]) keep hf (Nat.le_refl _) ob
    refine ⟨.ref s.heap.objs.size, _, J, rfl, ⟨_, x, rfl, I.hok.fresh (Nat.le_refl _), rfl, fun ys hy => ?_⟩, ⟨⟨v, ?_⟩, ?_, hne⟩, fun b hb => ?_⟩
    · rw [I.list_inj hy hq]
      exact hx
    · rw [show z + ((i + 1 : Nat) : Int) = z + (i : Nat) + 1 by omega]
      exact he2
    · exact st.1.at fun o q => (sb.2 it hne.symm).trans q
    · have hb2 : b < s.heap.objs.size := by
        simp only [List.mem_cons, List.not_mem_nil, or_false] at hb
        rcases hb with rfl | rfl
        · exact lo
        · exact li
      rw [upd_ne (Nat.ne_of_lt hb2)]
      exact (hf b hb).1
  done := by
    intro X hP hw hK hc i pins s σ H E I hf tn hg
    subst hP hw hK
    obtain ⟨⟨old, he⟩, hit, hne⟩ := tn
    obtain ⟨xs, hq, hx⟩ := hg
    obtain ⟨its, rv, p, _⟩ := I.list hq
    have ai : a ≠ it := fun q => by
      obtain ⟨o1, h1, c1, _⟩ := hit
      obtain ⟨o2, h2, c2, _⟩ := p.isList
      rw [q, h1] at h2
      cases Option.some.inj h2
      rw [c1] at c2
      injection c2 with c3
      exact absurd c3 (by decide)
    have hh : X.A.in1.handled = none := I.ok.hd hc
    obtain ⟨f0, f1, f2, f3, f4, f5⟩ := hf it (by simp)
    have hl : its.toArray.size = i := by
      have := rv.length
      simp only [List.size_toArray]
      omega
    refine wpAny_pyNext_enum_endD (Draws.list hh it a ai its.toArray) he ?_ fun h' eb => ⟨rfl, I.turned (t' := s.toks) (fun b o hb q => eb b o hb q) f0 f1 f3 f4 f5⟩
    rw [hl]
    exact ⟨hit, p.isList⟩
  self := by
    rintro A i s Q E ⟨⟨_, he⟩, _⟩ h
    exact wpAny_pyIter_enum he h
def iEnumK (K : PySem.W.Frag) (ta tk : TA) : TI := fun σ H R => ta σ H fun vs H1 => ∃ a xs, vs = [V.ref a] ∧ SqL K H1 a xs ∧ tk σ H1 fun zs H2 => ∃ z : Int, zs = [V.int z] ∧ (0 ≤ z ∧ z ≤ 1000000000) ∧ SqL K H2 a xs ∧ R (ItN K a z) H2
theorem pi_enumK {X : Cx} {e : Expr} {k : Keyword} {ta tk : TA} {p pos tpos : Pos} {elts : List Expr} {kk : Nat} (hg : Gl X "enumerate") (hm : X.mg "enumerate" = none) (ha : PA X [e] ta) (hk : PK X [k] tk)
    (one : backTo pos (starEach [e] X.env) = (false, eval e X.env) :: backTo pos (starEach [] X.env) := by rfl) (no : (backTo pos (starEach [e] X.env)).any (·.1) = false := by rfl)
    (named : (backToKw pos (keywordEach [k] X.env)).all (·.1.isSome) = true := by rfl) (noStar : (backToKw pos (keywordEach [k] X.env)).any (·.1.isNone) = false := by rfl)
    (nm : (backToKw pos (keywordEach [k] X.env)).filterMap (·.1) = [Str.ofString "start"] := by rfl) :
    PI X (.Tuple elts kk tpos) (.Call (.Name "enumerate" p) [e] [k] pos) (iEnumK X.K ta tk) := by
  constructor
  intro pins s σ H R I h
  refine wpAny_Call_Name_kw (ld_blt I hg hm boot_enumerate ?_)
  refine callType_kw (thn (ha.run pos pins s σ H _ I h) ?_) one no named noStar
  rintro us s1 ⟨vs, H1, I1, r1, a, xs, rfl, hq1, q1⟩
  refine thn (hk.run pos pins s1 σ H1 _ I1 q1) ?_
  rintro ws s2 ⟨zs, H2, I2, r2, z, rfl, hz, hq, q⟩
  rw [nm]
  obtain ⟨u, rfl, ru⟩ := vals1 r1
  cases ru
  obtain ⟨v, rfl, t, rfl⟩ := vals1 r2
  obtain ⟨its, rv, p', _⟩ := I2.list hq
  show wpAny _ _ (call (.type "enumerate") [.ref a] [(Str.ofString "start", .int z t)]) _ _ _
  refine enum_begins_start (begins_list a its.toArray) p'.isList (by omega) (by omega) fun h' he ho hsz hk' => wpAny_pyIter_enum he ?_
  have J : Inv X pins σ H2 { s2 with heap := h' } := I2.kept (t' := s2.toks) hk'
  refine ⟨s2.heap.objs.size + 1, [s2.heap.objs.size + 1, s2.heap.objs.size], _, _, H2, rfl, J, turnN a (s2.heap.objs.size + 1) s2.heap.objs.size z, ⟨⟨.none, ?_⟩, ⟨_, ho, rfl, rfl⟩, Nat.succ_ne_self _⟩, fun b hb => ?_, q⟩
  · rw [show z + ((0 : Nat) : Int) = z by omega]
    exact he
  · have hle : s2.heap.objs.size ≤ b := by
      simp only [List.mem_cons, List.not_mem_nil, or_false] at hb
      rcases hb with rfl | rfl
      · exact Nat.le_add_right _ _
      · exact Nat.le_refl _
    exact I2.fpOk hle (I2.hok.fresh hle)
section
variable {σ : L2.St} {H : Hp} {nx bk ct : L2.St → Hp → Prop} {rt : VK} {K : PySem.W.Frag} {ta tk : TA} {g : TG} {tb : TS} {a : Addr} {xs : List V} {z : Int}
def wEnk (K : PySem.W.Frag) (tk : TA) (σ : L2.St) (vs : List V) (H1 : Hp) (R : It → Hp → Prop) : Prop := ∃ a xs, vs = [V.ref a] ∧ SqL K H1 a xs ∧ tk σ H1 fun zs H2 => ∃ z : Int, zs = [V.int z] ∧ (0 ≤ z ∧ z ≤ 1000000000) ∧ SqL K H2 a xs ∧ R (ItN K a z) H2
theorem rd_frN (h : ta σ H fun vs H1 => wEnk K tk σ vs H1 fun J H2 => FrJ J g tb ⟨nx, rt, bk, ct⟩ σ H2) : tFor (iEnumK K ta tk) g tb ⟨nx, rt, bk, ct⟩ σ H := by
  unfold tFor iEnumK
  exact h
theorem frN (Pv : Nat → L2.St → Hp → Prop) (h0 : Pv 0 σ H) (hl : ∀ i σ H, i ≤ xs.length → Pv i σ H → SqL K H a xs)
    (hs : ∀ i x σ H p, xs[i]? = some x → Pv i σ H → H p = none → g (.ref p) σ (upd H p (.tup [.int (z + (i : Nat)), x])) fun σ2 H2 => tb ⟨Pv (i + 1), rt, nx, Pv (i + 1)⟩ σ2 H2)
    (hd : ∀ σ H, Pv xs.length σ H → nx σ H) : FrJ (ItN K a z) g tb ⟨nx, rt, bk, ct⟩ σ H := by
  refine ⟨fun i m σ H => m = xs.length - i ∧ i ≤ xs.length ∧ Pv i σ H, ⟨xs.length, rfl, Nat.zero_le _, h0⟩, ?_⟩
  rintro i m σ H ⟨rfl, hi, p⟩
  have hq := hl i σ H hi p
  by_cases hlt : i < xs.length
  · refine .inr ⟨⟨xs, _, hq, List.getElem?_eq_getElem hlt⟩, Pv (i + 1), fun σ' H' p' => ⟨xs.length - (i + 1), by omega, rfl, hlt, p'⟩, ?_⟩
    rintro v H' ⟨q, x, rfl, nq, rfl, hx⟩
    exact hs i x σ H q (hx xs hq) p nq
  · have e : i = xs.length := by omega
    subst e
    exact .inl ⟨⟨xs, hq, rfl⟩, hd σ H p⟩
end
/-! ### what is walked -/
structure Src where
  items : List D
  gd : Sto → Prop
def RepQ (K : PySem.W.Frag) (q : Bool) (ι : List Addr) (H : Hp) (d : D) (v : V) : Prop := match q with
  | true => RepV K ι H d v
  | false => RepW K ι H d v
def tgQ (K : PySem.W.Frag) (N : Nms) (q : Bool) (g : Tg) : TG := fun v σ H Q => ∃ ι σa S d, RepSl K ι H σa σ ∧ Rep K N ι H S ∧ RepQ K q ι H d v ∧ goodG K N (g d σa S) ι H Q
/-- at J the items of the source are walked, wherever the store stands so -/
def IsSrc (K : PySem.W.Frag) (N : Nms) (q : Bool) (src : Src) (ι : List Addr) (H : Hp) (J : It) : Prop := ∀ ι2 H2 S2, Fut K ι H ι2 H2 → Rep K N ι2 H2 S2 → src.gd S2 →
  (∀ i, i < src.items.length → J.go i H2) ∧
  (∀ i x H3, i < src.items.length → J.yld i H2 x H3 → ∃ ι3 d, Fut K ι2 H2 ι3 H3 ∧ Rep K N ι3 H3 S2 ∧ src.items[i]? = some d ∧ RepQ K q ι3 H3 d x) ∧
  (∀ i, src.items.length ≤ i → J.stop i H2)
def tiX (K : PySem.W.Frag) (N : Nms) (W : WX) (q : Bool) (m : M Src) : TI := fun σ H R => ∃ ι σa S, RepSl K ι H σa σ ∧ Rep K N ι H S ∧ match m σa S with
  | .ok src S' => src.gd S' ∧ ∀ ι' H' J, Fut K ι H ι' H' → Rep K N ι' H' S' → IsSrc K N q src ι' H' J → R J H'
  | .ex C S' => ∀ ι' H', Fut K ι H ι' H' → Rep K N ι' H' S' → W (.ref C) none σ H'
  | .bad => False
theorem PI.imp {X : Cx} {tg e : Expr} {t t' : TI} (h : PI X tg e t) (i : ∀ σ H R, t' σ H R → t σ H R) : PI X tg e t' := ⟨fun pins s σ H R I q => h.run pins s σ H R I (i σ H R q)⟩
abbrev AI (K : PySem.W.Frag) (N : Nms) (W : WX) (q : Bool) (X : Cx) (tg e : Expr) (m : M Src) : Prop := PI X tg e (tiX K N W q m)
section
variable {K : PySem.W.Frag} {N : Nms} {W : WX} {ι ι' : List Addr} {H H' : Hp} {σ : L2.St} {σa : Sl} {S : Sto} {X : Cx}
/-- a value, then a source of it -/
theorem bindEI {m : M D} {k : D → M Src} {q : Bool} {R : It → Hp → Prop} {R' : VK} (hs : RepSl K ι H σa σ) (Rp : Rep K N ι H S)
    (g : match (eBind m k) σa S with
      | .ok src S' => src.gd S' ∧ ∀ ι' H' J, Fut K ι H ι' H' → Rep K N ι' H' S' → IsSrc K N q src ι' H' J → R J H'
      | .ex C S' => ∀ ι' H', Fut K ι H ι' H' → Rep K N ι' H' S' → W (.ref C) none σ H'
      | .bad => False)
    (c : ∀ ι' H' v d S', Fut K ι H ι' H' → RepSl K ι' H' σa σ → Rep K N ι' H' S' → RepV K ι' H' d v → (match k d σa S' with
      | .ok src S2 => src.gd S2 ∧ ∀ ι2 H2 J, Fut K ι' H' ι2 H2 → Rep K N ι2 H2 S2 → IsSrc K N q src ι2 H2 J → R J H2
      | .ex C S2 => ∀ ι2 H2, Fut K ι' H' ι2 H2 → Rep K N ι2 H2 S2 → W (.ref C) none σ H2
      | .bad => False) → R' v H') : teX K N W m σ H R' := by
  refine ⟨ι, σa, S, hs, Rp, ?_⟩
  unfold eBind at g
  cases e : m σa S with
  | ok d S' =>
    rw [e] at g
    refine fun ι' H' v f R2 r => c ι' H' v d S' f (hs.fut f) R2 r ?_
    change (match k d σa S' with
      | .ok src S' => src.gd S' ∧ ∀ ι' H' J, Fut K ι H ι' H' → Rep K N ι' H' S' → IsSrc K N q src ι' H' J → R J H'
      | .ex C S' => ∀ ι' H', Fut K ι H ι' H' → Rep K N ι' H' S' → W (.ref C) none σ H'
      | .bad => False) at g
    cases e2 : k d σa S' with
    | ok src S2 =>
      rw [e2] at g
      exact ⟨g.1, fun a b J f2 => g.2 a b J (f.trans f2)⟩
    | ex C S2 =>
      rw [e2] at g
      exact fun a b f2 => g a b (f.trans f2)
    | bad =>
      rw [e2] at g
      exact g
  | ex C S' =>
    rw [e] at g
    exact g
  | bad =>
    rw [e] at g
    exact g
def sList : D → M Src := fun d _ S => match d with
  | .ref n => match S[n]? with
    | some (.lst ds) => .ok ⟨ds, fun S' => S'[n]? = some (.lst ds)⟩ S
    | _ => .bad
  | _ => .bad
def sTup : D → M Src := fun d _ S => match d with
  | .tup ds => .ok ⟨ds, fun _ => True⟩ S
  | _ => .bad
def sStr : D → M Src := fun d _ S => match d with
  | .str x => .ok ⟨(tl x).map fun c => .str ⟨#[c]⟩, fun _ => True⟩ S
  | _ => .bad
def RgOk (i j : Int) : Prop := -(2 ^ 62) ≤ i ∧ i < 2 ^ 62 ∧ -(2 ^ 62) ≤ j ∧ j < 2 ^ 62
noncomputable def sRng : Int → Int → M Src := fun i j _ S => open Classical in if RgOk i j then .ok ⟨(List.range (j - i).toNat).map fun k => .int (i + (k : Nat)), fun _ => True⟩ S else .bad
theorem ai_list {tg e : Expr} {m : M D} (he : AE K N W X e m) (hK : X.K = K := by rfl) : AI K N W true X tg e (eBind m sList) := by
  subst hK
  refine PI.imp (pi_list he) fun σ H R ⟨ι, σa, S, hs, Rp, g⟩ => bindEI hs Rp g fun ι1 H1 v d S1 f1 hs1 R1 r1 g1 => ?_
  cases d with
  | ref n =>
    unfold sList at g1
    simp only at g1
    cases es : S1[n]? with
    | none => rw [es] at g1; exact g1.elim
    | some o =>
      rw [es] at g1
      cases o with
      | lst ds =>
        obtain ⟨a, ea, rfl⟩ := r1
        obtain ⟨b, xs, eb, q, rl⟩ := R1.list es
        rw [ea] at eb
        cases eb
        refine ⟨a, rfl, ⟨xs, SqL.of q⟩, g1.2 ι1 H1 _ (Fut.refl _ _) R1 fun ι2 H2 S2 f2 R2 g2 => ?_⟩
        obtain ⟨c, ys, ec, q2, rl2⟩ := R2.list g2
        rw [f2.ix ea] at ec
        cases ec
        have hl := rl2.length
        refine ⟨fun i hi => ?_, fun i x H3 hi y => ?_, fun i hi => ⟨ys, SqL.of q2, by rw [hl]; exact hi⟩⟩
        · have hi' : i < ys.length := by rw [hl]; exact hi
          exact ⟨ys, ys[i], SqL.of q2, List.getElem?_eq_getElem hi'⟩
        · obtain ⟨rfl, y⟩ := y
          obtain ⟨d, ed, r⟩ := rl2.get' (y ys (SqL.of q2))
          exact ⟨ι2, d, Fut.refl _ _, R2, ed, r⟩
      | _ => exact g1.elim
  | _ => exact g1.elim
theorem ai_tup {tg e : Expr} {m : M D} (he : AE K N W X e m) (hK : X.K = K := by rfl) : AI K N W true X tg e (eBind m sTup) := by
  subst hK
  refine PI.imp (pi_tup he) fun σ H R ⟨ι, σa, S, hs, Rp, g⟩ => bindEI hs Rp g fun ι1 H1 v d S1 f1 hs1 R1 r1 g1 => ?_
  cases d with
  | tup ds =>
    obtain ⟨a, xs, rfl, t, rl⟩ := r1
    refine ⟨a, rfl, ⟨xs, t.seq⟩, g1.2 ι1 H1 _ (Fut.refl _ _) R1 fun ι2 H2 S2 f2 R2 g2 => ?_⟩
    have t2 := (f2.tup _ _ t).seq
    have rl2 := rl.fut f2
    have hl := rl2.length
    refine ⟨fun i hi => ?_, fun i x H3 hi y => ?_, fun i hi => ⟨xs, t2, by rw [hl]; exact hi⟩⟩
    · have hi' : i < xs.length := by rw [hl]; exact hi
      exact ⟨xs, xs[i], t2, List.getElem?_eq_getElem hi'⟩
    · obtain ⟨rfl, y⟩ := y
      obtain ⟨d, ed, r⟩ := rl2.get' (y xs t2)
      exact ⟨ι2, d, Fut.refl _ _, R2, ed, r⟩
  | _ => exact g1.elim
theorem ai_str {tg e : Expr} {m : M D} (he : AE K N W X e m) : AI K N W true X tg e (eBind m sStr) := by
  refine PI.imp (pi_str he) fun σ H R ⟨ι, σa, S, hs, Rp, g⟩ => bindEI hs Rp g fun ι1 H1 v d S1 f1 hs1 R1 r1 g1 => ?_
  cases d with
  | str z =>
    refine ⟨z, r1, g1.2 ι1 H1 _ (Fut.refl _ _) R1 fun ι2 H2 S2 f2 R2 g2 => ?_⟩
    have hl : ((tl z).map fun c => D.str ⟨#[c]⟩).length = z.cps.size := by rw [List.length_map, Array.length_toList]
    refine ⟨fun i hi => by rw [hl] at hi; exact hi, fun i x H3 hi y => ?_, fun i hi => by rw [hl] at hi; exact hi⟩
    obtain ⟨rfl, c, hc, rfl⟩ := y
    refine ⟨ι2, .str ⟨#[c]⟩, Fut.refl _ _, R2, ?_, rfl⟩
    rw [List.getElem?_map, Array.getElem?_toList, hc]
    rfl
  | _ => exact g1.elim
theorem src_range {lo : Int} {n : Nat} : IsSrc K N true ⟨(List.range n).map fun (k : Nat) => .int (lo + (k : Nat)), fun _ => True⟩ ι H (Itr lo n) := fun ι2 H2 S2 f2 R2 g2 => by
  have hl : ((List.range n).map fun (k : Nat) => D.int (lo + (k : Nat))).length = n := by simp
  refine ⟨fun i hi => by rw [hl] at hi; exact hi, fun i x H3 hi y => ?_, fun i hi => by rw [hl] at hi; exact hi⟩
  rw [hl] at hi
  obtain ⟨rfl, rfl⟩ := y
  refine ⟨ι2, .int (lo + (i : Nat)), Fut.refl _ _, R2, ?_, rfl⟩
  rw [List.getElem?_map, List.getElem?_range hi]
  rfl
def i1 : List D → Option Int
  | [.int j] => some j
  | _ => none
def i2 : List D → Option (Int × Int)
  | [.int i, .int j] => some (i, j)
  | _ => none
theorem i1_of : ∀ {ds : List D} {j : Int}, i1 ds = some j → ds = [.int j]
  | [.int j], _, h => by cases h; rfl
theorem i2_of : ∀ {ds : List D} {p : Int × Int}, i2 ds = some p → ds = [.int p.1, .int p.2]
  | [.int i, .int j], _, h => by cases h; rfl
noncomputable def sR1 (m : M (List D)) : M Src := eBind m fun ds => match i1 ds with
  | some j => sRng 0 j
  | none => fun _ _ => .bad
noncomputable def sR2 (m : M (List D)) : M Src := eBind m fun ds => match i2 ds with
  | some p => sRng p.1 p.2
  | none => fun _ _ => .bad
theorem bindLI {m : M (List D)} {k : List D → M Src} {q : Bool} {R : It → Hp → Prop} {R' : List V → Hp → Prop} (hs : RepSl K ι H σa σ) (Rp : Rep K N ι H S)
    (g : match (eBind m k) σa S with
      | .ok src S' => src.gd S' ∧ ∀ ι' H' J, Fut K ι H ι' H' → Rep K N ι' H' S' → IsSrc K N q src ι' H' J → R J H'
      | .ex C S' => ∀ ι' H', Fut K ι H ι' H' → Rep K N ι' H' S' → W (.ref C) none σ H'
      | .bad => False)
    (c : ∀ ι' H' v d S', Fut K ι H ι' H' → RepSl K ι' H' σa σ → Rep K N ι' H' S' → RepL K ι' H' d v → (match k d σa S' with
      | .ok src S2 => src.gd S2 ∧ ∀ ι2 H2 J, Fut K ι' H' ι2 H2 → Rep K N ι2 H2 S2 → IsSrc K N q src ι2 H2 J → R J H2
      | .ex C S2 => ∀ ι2 H2, Fut K ι' H' ι2 H2 → Rep K N ι2 H2 S2 → W (.ref C) none σ H2
      | .bad => False) → R' v H') : taX K N W m σ H R' := by
  refine ⟨ι, σa, S, hs, Rp, ?_⟩
  unfold eBind at g
  cases e : m σa S with
  | ok d S' =>
    rw [e] at g
    refine fun ι' H' v f R2 r => c ι' H' v d S' f (hs.fut f) R2 r ?_
    change (match k d σa S' with
      | .ok src S' => src.gd S' ∧ ∀ ι' H' J, Fut K ι H ι' H' → Rep K N ι' H' S' → IsSrc K N q src ι' H' J → R J H'
      | .ex C S' => ∀ ι' H', Fut K ι H ι' H' → Rep K N ι' H' S' → W (.ref C) none σ H'
      | .bad => False) at g
    cases e2 : k d σa S' with
    | ok src S2 =>
      rw [e2] at g
      exact ⟨g.1, fun a b J f2 => g.2 a b J (f.trans f2)⟩
    | ex C S2 =>
      rw [e2] at g
      exact fun a b f2 => g a b (f.trans f2)
    | bad =>
      rw [e2] at g
      exact g
  | ex C S' =>
    rw [e] at g
    exact g
  | bad =>
    rw [e] at g
    exact g
theorem ai_range1 {tg a : Expr} {m : M (List D)} {p pos : Pos} (hg : Gl X "range") (hm : X.mg "range" = none) (ha : AA K N W X [a] m) (hs : starEach [a] X.env = [(false, eval a X.env)] := by rfl) : AI K N W true X tg (.Call (.Name "range" p) [a] [] pos) (sR1 m) := by
  refine PI.imp (pi_range1 hg hm ha hs) fun σ H R h => ?_
  obtain ⟨ι, σa, S, hs, Rp, g⟩ := h
  unfold sR1 at g
  refine bindLI hs Rp g fun ι1 H1 v d S1 f1 hs1 R1 r1 g1 => ?_
  cases ed : i1 d with
  | none =>
    simp only [ed] at g1
  | some j =>
    simp only [ed] at g1
    rw [i1_of ed] at r1
    obtain ⟨x, r, rfl, rx, rr⟩ := r1
    rw [show r = [] from rr, show x = V.int j from rx]
    unfold sRng at g1
    by_cases h : RgOk 0 j
    · rw [if_pos h] at g1
      refine ⟨j, rfl, h.2.2.1, h.2.2.2, g1.2 ι1 H1 _ (Fut.refl _ _) R1 ?_⟩
      rw [Int.sub_zero]
      exact src_range
    · rw [if_neg h] at g1
      exact g1.elim
theorem ai_range2 {tg a b : Expr} {m : M (List D)} {p pos : Pos} (hg : Gl X "range") (hm : X.mg "range" = none) (ha : AA K N W X [a, b] m) (hs : starEach [a, b] X.env = [(false, eval a X.env), (false, eval b X.env)] := by rfl) (hs2 : starEach [b] X.env = [(false, eval b X.env)] := by rfl) : AI K N W true X tg (.Call (.Name "range" p) [a, b] [] pos) (sR2 m) := by
  refine PI.imp (pi_range2 hg hm ha hs hs2) fun σ H R h => ?_
  obtain ⟨ι, σa, S, hs, Rp, g⟩ := h
  unfold sR2 at g
  refine bindLI hs Rp g fun ι1 H1 v d S1 f1 hs1 R1 r1 g1 => ?_
  cases ed : i2 d with
  | none =>
    simp only [ed] at g1
  | some p =>
    simp only [ed] at g1
    rw [i2_of ed] at r1
    obtain ⟨x, r, rfl, rx, y, r', rfl, ry, rr⟩ := r1
    rw [show r' = [] from rr, show x = V.int p.1 from rx, show y = V.int p.2 from ry]
    unfold sRng at g1
    by_cases h : RgOk p.1 p.2
    · rw [if_pos h] at g1
      exact ⟨p.1, p.2, rfl, h, g1.2 ι1 H1 _ (Fut.refl _ _) R1 src_range⟩
    · rw [if_neg h] at g1
      exact g1.elim
/-! ### for -/
open Classical in
noncomputable def cLoop (gd : Sto → Prop) (g : Tg) (body : Sm) : List D → Sm
  | [], σ, S => .nx σ S
  | d :: r, σ, S => match g d σ S with
    | none => .bad
    | some p => match body p.1 p.2 with
      | .nx σ2 S2 => if gd S2 then cLoop gd g body r σ2 S2 else .bad
      | .ct σ2 S2 => if gd S2 then cLoop gd g body r σ2 S2 else .bad
      | .bk σ2 S2 => .nx σ2 S2
      | .rt d S2 => .rt d S2
      | .ex C σ2 S2 => .ex C σ2 S2
      | .bad => .bad
open Classical in
noncomputable def cFor (m : M Src) (g : Tg) (body : Sm) : Sm := sBind m fun src σ S => if src.gd S then cLoop src.gd g body src.items σ S else .bad
theorem as_for {tg iter : Expr} {body : List Stmt} {q : Bool} {m : M Src} {g : Tg} {c : Sm} {pos : Pos} (hp : PassesOwn (model X.prog X.w) X.A X.env X.xe) (hc : X.calm = true) (hi : AI K N W q X tg iter m) (hg : PG X tg (tgQ K N q g)) (hb : ASs K N W X body c)
    (hs : ∀ x, foldedSetIterable iter X.env x = pure x := by intro _; rfl) : AS K N W X (.For tg iter body [] pos) (cFor m g c) := by
  refine PS.imp (ps_for hp hc hi hg hb hs) fun σ H T ⟨ι, σa, S, hs, Rp, gg⟩ => ⟨ι, σa, S, hs, Rp, ?_⟩
  unfold cFor sBind at gg
  cases e : m σa S with
  | ex C S1 =>
    rw [e] at gg
    exact fun ι' H' f R' => gg ι' H' σ f (hs.fut f) R'
  | bad =>
    rw [e] at gg
    exact gg.elim
  | ok src S1 =>
    rw [e] at gg
    simp only at gg
    by_cases hgd0 : src.gd S1
    case neg =>
      rw [if_neg hgd0] at gg
      exact gg.elim
    rw [if_pos hgd0] at gg
    have key : ∀ ι1 H1 J, Fut K ι H ι1 H1 → Rep K N ι1 H1 S1 → IsSrc K N q src ι1 H1 J → src.gd S1 →
        ∃ W' : Nat → Nat → L2.St → Hp → Prop, (∃ m, W' 0 m σ H1) ∧ ∀ i m σ H, W' i m σ H →
          (J.stop i H ∧ T.nx σ H) ∨ (J.go i H ∧ ∃ N' : L2.St → Hp → Prop, (∀ σ' H', N' σ' H' → ∃ m', m' < m ∧ W' (i + 1) m' σ' H') ∧ ∀ x H', J.yld i H x H' → tgQ K N q g x σ H' fun σ2 H2 => tsX K N W c { T with nx := N', ct := N', bk := T.nx } σ2 H2) := by
      intro ι1 H1 J f1 R1 hJ hgd
      refine ⟨fun i m σ' H' => m = src.items.length - i ∧ i ≤ src.items.length ∧ ∃ ι2 σ2 S2, Fut K ι1 H1 ι2 H' ∧ RepSl K ι2 H' σ2 σ' ∧ Rep K N ι2 H' S2 ∧ src.gd S2 ∧ goodS K N W (cLoop src.gd g c (src.items.drop i) σ2 S2) ι2 H' T,
        ⟨_, rfl, Nat.zero_le _, ι1, σa, S1, Fut.refl _ _, hs.fut f1, R1, hgd, goodS.fut (r := cLoop src.gd g c src.items σa S1) gg f1⟩, ?_⟩
      rintro i m σ2v H2 ⟨rfl, hi, ι2, σ2, S2, f2, hs2, R2, gd2, g2⟩
      obtain ⟨w1, w2, w3⟩ := hJ ι2 H2 S2 f2 R2 gd2
      by_cases hlt : i < src.items.length
      · refine .inr ⟨w1 i hlt, _, fun σ' H' p => ⟨src.items.length - (i + 1), by omega, p⟩, fun x H3 y => ?_⟩
        obtain ⟨ι3, d, f3, R3, ed, rd⟩ := w2 i x H3 hlt y
        refine ⟨ι3, σ2, S2, d, hs2.fut f3, R3, rd, ?_⟩
        have hd : src.items.drop i = d :: src.items.drop (i + 1) := by
          rw [List.drop_eq_getElem_cons hlt]
          rw [List.getElem?_eq_getElem hlt] at ed
          rw [Option.some.inj ed]
        rw [hd, cLoop] at g2
        cases eg : g d σ2 S2 with
        | none =>
          rw [eg] at g2
          exact g2.elim
        | some p =>
          rw [eg] at g2
          intro ι4 H4 σ4 f4 hs4 R4
          refine ⟨ι4, p.1, p.2, hs4, R4, ?_⟩
          simp only at g2
          have f24 := f3.trans f4
          cases eb : c p.1 p.2 with
          | nx σ5 S5 =>
            simp only [eb] at g2
            intro ι5 H5 σv f5 hs5 R5
            split at g2
            · rename_i hg5
              exact ⟨rfl, by omega, ι5, σ5, S5, (f2.trans f24).trans f5, hs5, R5, hg5, goodS.fut (r := cLoop src.gd g c (src.items.drop (i + 1)) σ5 S5) g2 (f24.trans f5)⟩
            · exact g2.elim
          | ct σ5 S5 =>
            simp only [eb] at g2
            intro ι5 H5 σv f5 hs5 R5
            split at g2
            · rename_i hg5
              exact ⟨rfl, by omega, ι5, σ5, S5, (f2.trans f24).trans f5, hs5, R5, hg5, goodS.fut (r := cLoop src.gd g c (src.items.drop (i + 1)) σ5 S5) g2 (f24.trans f5)⟩
            · exact g2.elim
          | bk σ5 S5 =>
            simp only [eb] at g2
            exact fun ι5 H5 σv f5 hs5 R5 => g2 ι5 H5 σv (f24.trans f5) hs5 R5
          | rt d5 S5 =>
            simp only [eb] at g2
            exact fun ι5 H5 v f5 R5 r5 => g2 ι5 H5 v (f24.trans f5) R5 r5
          | ex C σ5 S5 =>
            simp only [eb] at g2
            exact fun ι5 H5 σv f5 hs5 R5 => g2 ι5 H5 σv (f24.trans f5) hs5 R5
          | bad =>
            simp only [eb] at g2
            exact g2.elim
      · have en : i = src.items.length := by omega
        rw [en, List.drop_length, cLoop] at g2
        exact .inl ⟨w3 i (by omega), g2 ι2 H2 σ2v (Fut.refl _ _) hs2 R2⟩
    exact ⟨hgd0, fun ι' H' J f R' hJ => key ι' H' J f R' hJ hgd0⟩
end
/-! ### the targets of a comprehension: a name, or names of a tuple -/
inductive CTg where
  | one (j : Nat)
  | tup (js : List Nat)
def ctgs : List Nat → TGs
  | [] => gNil
  | j :: js => gCons (gName j) (ctgs js)
def ctg (K : PySem.W.Frag) : CTg → TG
  | .one j => gName j
  | .tup js => gTup K js.length (ctgs js)
def setAll : List Nat → List D → Sl → Option Sl
  | [], [], σ => some σ
  | j :: js, d :: ds, σ => setAll js ds (σ.set j (some d))
  | _, _, _ => none
def cgs : CTg → D → Sl → Option Sl
  | .one j, d, σ => some (σ.set j (some d))
  | .tup js, .tup ds, σ => setAll js ds σ
  | .tup _, _, _ => none
def CTg.own : CTg → List Nat
  | .one j => [j]
  | .tup js => js
def CTg.q : CTg → Bool
  | .one _ => true
  | .tup _ => false
def wipeA (σ : Sl) : List Nat → Sl
  | [] => σ
  | v :: vs => (wipeA σ vs).set v none
theorem wipe_set {σ : L2.St} {j : Nat} {x : Option V} : ∀ {vs : List Nat}, j ∈ vs → wipe (σ.set j x) vs = wipe σ vs
  | [], h => nomatch h
  | v :: vs, h => by
    unfold wipe
    by_cases e : j ∈ vs
    · rw [wipe_set e]
    · have ev : j = v := by
        rcases List.mem_cons.mp h with q | q
        · exact q
        · exact absurd q e
      subst ev
      have z : ∀ (ws : List Nat) (τ : L2.St), j ∉ ws → wipe (τ.set j x) ws = (wipe τ ws).set j x := by
        intro ws
        induction ws with
        | nil => intro τ _; rfl
        | cons w ws ih =>
          intro τ hn
          have h1 : j ≠ w := fun q => hn (q ▸ List.mem_cons_self)
          unfold wipe
          rw [ih τ fun q => hn (List.mem_cons_of_mem _ q), List.set_comm _ _ h1]
      rw [z vs σ e, List.set_set]
theorem wipe_wipe {σ : L2.St} : ∀ {vs : List Nat}, wipe (wipe σ vs) vs = wipe σ vs
  | [] => rfl
  | v :: vs => by
    show (wipe ((wipe σ vs).set v none) vs).set v none = (wipe σ vs).set v none
    by_cases h : v ∈ vs
    · rw [wipe_set h, wipe_wipe]
    · have z : ∀ (ws : List Nat) (τ : L2.St), v ∉ ws → wipe (τ.set v none) ws = (wipe τ ws).set v none := by
        intro ws
        induction ws with
        | nil => intro τ _; rfl
        | cons w ws ih =>
          intro τ hn
          have h1 : v ≠ w := fun q => hn (q ▸ List.mem_cons_self)
          unfold wipe
          rw [ih τ fun q => hn (List.mem_cons_of_mem _ q), List.set_comm _ _ h1]
      rw [z vs _ h, wipe_wipe, List.set_set]
section
variable {K : PySem.W.Frag} {N : Nms} {W : WX} {ι ι' : List Addr} {H H' : Hp} {σ : L2.St} {σa : Sl} {S : Sto} {X : Cx}
theorem RepSl.wipe (h : RepSl K ι H σa σ) : ∀ vs : List Nat, RepSl K ι H (wipeA σa vs) (L2.wipe σ vs)
  | [] => h
  | v :: vs => (RepSl.wipe h vs).unset
theorem ctgs_ok {Q : L2.St → Hp → Prop} : ∀ {js : List Nat} {ds : List D} {xs : List V} {σa σ1 : Sl} {σ : L2.St} {vs : List Nat}, (∀ j ∈ js, j ∈ vs) → RepSl K ι H σa σ → RepL K ι H ds xs → setAll js ds σa = some σ1 →
    (∀ σ2, RepSl K ι H σ1 σ2 → L2.wipe σ2 vs = L2.wipe σ vs → Q σ2 H) → ctgs js xs σ H Q
  | [], [], xs, σa, σ1, σ, vs, hj, hs, rl, e, q => ⟨rl, q σ (by cases e; exact hs) rfl⟩
  | [], _ :: _, xs, σa, σ1, σ, vs, hj, hs, rl, e, q => by cases e
  | _ :: _, [], xs, σa, σ1, σ, vs, hj, hs, rl, e, q => by cases e
  | j :: js, d :: ds, xs, σa, σ1, σ, vs, hj, hs, rl, e, q => by
    obtain ⟨x, r, rfl, rx, rr⟩ := rl
    refine ⟨x, r, rfl, ?_⟩
    refine ctgs_ok (fun k hk => hj k (List.mem_cons_of_mem _ hk)) (hs.set rx) rr e (fun σ2 h2 w2 => q σ2 h2 ?_)
    rw [w2, wipe_set (hj j List.mem_cons_self)]
theorem ctg_ok {Q : L2.St → Hp → Prop} {t : CTg} {d : D} {x : V} {σ1 : Sl} {vs : List Nat} (hj : ∀ j ∈ t.own, j ∈ vs) (hs : RepSl K ι H σa σ) (r : RepQ K t.q ι H d x) (e : cgs t d σa = some σ1)
    (q : ∀ σ2, RepSl K ι H σ1 σ2 → L2.wipe σ2 vs = L2.wipe σ vs → Q σ2 H) : ctg K t x σ H Q := by
  cases t with
  | one j =>
    cases e
    exact q _ (hs.set r) (wipe_set (hj j (List.mem_singleton.mpr rfl)))
  | tup js =>
    cases d with
    | tup ds =>
      obtain ⟨a, xs, rfl, st, rl⟩ := r
      have hl : ∀ (js : List Nat) (ds : List D) (σ σ1 : Sl), setAll js ds σ = some σ1 → ds.length = js.length := by
        intro js
        induction js with
        | nil =>
          intro ds σ σ1 h
          cases ds with
          | nil => rfl
          | cons _ _ => cases h
        | cons j js ih =>
          intro ds σ σ1 h
          cases ds with
          | nil => cases h
          | cons d ds => rw [List.length_cons, List.length_cons, ih ds _ _ h]
      exact ⟨a, xs, rfl, st, by rw [rl.length]; exact hl _ _ _ _ e, ctgs_ok hj hs rl e q⟩
    | _ => cases e
end
/-! ### list comprehensions -/
def noW : WX := fun _ _ _ _ => False
open Classical in
noncomputable def lcA (gd : Sto → Prop) (t : CTg) (vs : List Nat) (tt : M Bool) (te : M D) (n : Nat) (σ : Sl) : List D → Sto → Option Sto
  | [], S => some S
  | d :: r, S => match cgs t d (wipeA σ vs) with
    | none => none
    | some σ2 => match tt σ2 S with
      | .ok true S1 => match te σ2 S1 with
        | .ok y S2 => match S2[n]? with
          | some (.lst acc) => if acc.length < sizeLine ∧ gd (S2.set n (.lst (acc ++ [y]))) then lcA gd t vs tt te n σ r (S2.set n (.lst (acc ++ [y]))) else none
          | _ => none
        | _ => none
      | .ok false S1 => if gd S1 then lcA gd t vs tt te n σ r S1 else none
      | _ => none
open Classical in
noncomputable def eLc (m : M Src) (t : CTg) (vs : List Nat) (tt : M Bool) (te : M D) : M D := fun σ S => match m σ S with
  | .ok src S0 => if src.gd S0 ∧ src.gd (S0 ++ [.lst []]) then (match lcA src.gd t vs tt te S0.length σ src.items (S0 ++ [.lst []]) with
    | some S' => .ok (.ref S0.length) S'
    | none => .bad) else .bad
  | .ex C S0 => .ex C S0
  | .bad => .bad
def bYes : M Bool := fun _ S => .ok true S
section
variable {K : PySem.W.Frag} {N : Nms} {W : WX} {ι ι' : List Addr} {H H' : Hp} {σ : L2.St} {σa : Sl} {S : Sto} {X : Cx}
abbrev ATs (K : PySem.W.Frag) (N : Nms) (W : WX) (X : Cx) (es : List Expr) (m : M Bool) : Prop := PTs X es (tbX K N W m)
theorem PTs.imp {X : Cx} {es : List Expr} {t t' : TT} (h : PTs X es t) (i : ∀ σ H Q, t' σ H Q → t σ H Q) : PTs X es t' := ⟨fun pins s σ H Q I q => h.run pins s σ H Q I (i σ H Q q)⟩
theorem ats_nil : ATs K N W X [] bYes := PTs.imp pts_nil fun σ H Q ⟨ι, σa, S, hs, R, g⟩ => g ι H (Fut.refl _ _) R
theorem ats_one {c : Expr} {m : M Bool} (h : AT K N W X c m) : ATs K N W X [c] m := pts_one h
theorem te_lc {q : Bool} {m : M Src} {t : CTg} {vs : List Nat} {tt : M Bool} {te : M D} {Q : VK} (hq : q = t.q) (hj : ∀ j ∈ t.own, j ∈ vs) (h : teX K N W (eLc m t vs tt te) σ H Q) :
    tLc (tiX K N W q m) (ctg K t) (tbX K N noW tt) (teX K N noW te) vs σ H Q := by
  subst hq
  obtain ⟨ι, σa, S, hs, Rp, g⟩ := h
  refine ⟨ι, σa, S, hs, Rp, ?_⟩
  unfold eLc at g
  cases e : m σa S with
  | ex C S0 =>
    rw [e] at g
    exact g
  | bad =>
    rw [e] at g
    exact g
  | ok src S0 =>
    rw [e] at g
    simp only at g
    by_cases hgd : src.gd S0 ∧ src.gd (S0 ++ [.lst []])
    case neg =>
      rw [if_neg hgd] at g
      exact g.elim
    rw [if_pos hgd] at g
    refine ⟨hgd.1, fun ι1 H1 J f1 R1 hJ D hD => ?_⟩
    have R2 : Rep K N (ι1 ++ [D]) (upd H1 D (.lst [])) (S0 ++ [.lst []]) := R1.new hD ⟨[], upd_same, RepL.nil⟩
    have f2 : Fut K ι1 H1 (ι1 ++ [D]) (upd H1 D (.lst [])) := fut_new hD
    have hn : (ι1 ++ [D])[S0.length]? = some D := by rw [← R1.len, List.getElem?_append_right (Nat.le_refl _), Nat.sub_self]; rfl
    refine ⟨fun i m H' => m = src.items.length - i ∧ i ≤ src.items.length ∧ ∃ ι2 S2, Fut K (ι1 ++ [D]) (upd H1 D (.lst [])) ι2 H' ∧ Rep K N ι2 H' S2 ∧ src.gd S2 ∧
        goodE K N W (match lcA src.gd t vs tt te S0.length σa (src.items.drop i) S2 with | some S' => .ok (.ref S0.length) S' | none => .bad) ι2 H' σ Q,
      ⟨_, rfl, Nat.zero_le _, _, _, Fut.refl _ _, R2, hgd.2, goodE.fut (r := match lcA src.gd t vs tt te S0.length σa src.items (S0 ++ [.lst []]) with | some S' => .ok (.ref S0.length) S' | none => .bad) g (f1.trans f2)⟩, ?_⟩
    rintro i m H3 ⟨rfl, hi, ι3, S3, f3, R3, gd3, g3⟩
    obtain ⟨w1, w2, w3⟩ := hJ ι3 H3 S3 (f2.trans f3) R3 gd3
    have hs3 : RepSl K ι3 H3 σa σ := ((hs.fut f1).fut f2).fut f3
    by_cases hlt : i < src.items.length
    · refine .inr ⟨w1 i hlt, _, fun H' p => ⟨src.items.length - (i + 1), by omega, p⟩, fun x H4 y => ?_⟩
      obtain ⟨ι4, d, f4, R4, ed, rd⟩ := w2 i x H4 hlt y
      have hd : src.items.drop i = d :: src.items.drop (i + 1) := by
        rw [List.drop_eq_getElem_cons hlt]
        rw [List.getElem?_eq_getElem hlt] at ed
        rw [Option.some.inj ed]
      rw [hd, lcA] at g3
      cases eg : cgs t d (wipeA σa vs) with
      | none =>
        simp only [eg] at g3
        exact g3.elim
      | some σ5 =>
        simp only [eg] at g3
        refine ctg_ok hj ((hs3.fut f4).wipe vs) rd eg fun σ6 hs6 w6 => ?_
        refine ⟨by rw [w6, wipe_wipe], ι4, σ5, S3, hs6, R4, ?_⟩
        cases et : tt σ5 S3 with
        | ex C S4 =>
          simp only [et] at g3
          exact g3.elim
        | bad =>
          simp only [et] at g3
          exact g3.elim
        | ok b S4 =>
          intro ι5 H5 f5 R5
          cases b with
          | false =>
            simp only [et] at g3
            refine iteF ?_
            by_cases hg4 : src.gd S4
            · rw [if_pos hg4] at g3
              exact ⟨rfl, by omega, ι5, S4, (f3.trans f4).trans f5, R5, hg4, goodE.fut (r := match lcA src.gd t vs tt te S0.length σa (src.items.drop (i + 1)) S4 with | some S' => .ok (.ref S0.length) S' | none => .bad) g3 (f4.trans f5)⟩
            · rw [if_neg hg4] at g3
              exact g3.elim
          | true =>
            simp only [et] at g3
            refine iteT ⟨ι5, σ5, S4, hs6.fut f5, R5, ?_⟩
            cases ee : te σ5 S4 with
            | ex C S5 =>
              simp only [ee] at g3
              exact g3.elim
            | bad =>
              simp only [ee] at g3
              exact g3.elim
            | ok z S5 =>
              simp only [ee] at g3
              intro ι6 H6 vz f6 R6 rz
              cases ea : S5[S0.length]? with
              | none =>
                simp only [ea] at g3
                exact g3.elim
              | some o =>
                simp only [ea] at g3
                cases o with
                | lst acc =>
                  simp only at g3
                  by_cases hz : acc.length < sizeLine ∧ src.gd (S5.set S0.length (.lst (acc ++ [z])))
                  · rw [if_pos hz] at g3
                    obtain ⟨a, xs, ia, q, rl⟩ := R6.list ea
                    have fD := ((f3.trans f4).trans f5).trans f6
                    rw [fD.ix hn] at ia
                    cases ia
                    have P := R6.put (o := .lst (xs ++ [vz])) (ob := .lst (acc ++ [z])) (fD.ix hn) (fun H' eH fu => ⟨xs ++ [vz], by rw [eH, upd_same], (rl.fut fu).append (RepL.cons (rz.fut fu) RepL.nil)⟩)
                    refine ⟨xs, q, by rw [rl.length]; exact hz.1, rfl, by omega, ι6, _, fD.trans P.2, P.1, hz.2, ?_⟩
                    exact goodE.fut (r := match lcA src.gd t vs tt te S0.length σa (src.items.drop (i + 1)) (S5.set S0.length (.lst (acc ++ [z]))) with | some S' => .ok (.ref S0.length) S' | none => .bad) g3 (((f4.trans f5).trans f6).trans P.2)
                  · rw [if_neg hz] at g3
                    exact g3.elim
                | _ => exact g3.elim
    · have en : i = src.items.length := by omega
      rw [en, List.drop_length, lcA] at g3
      exact .inl ⟨w3 i (by omega), g3 ι3 H3 _ (Fut.refl _ _) R3 ⟨D, f3.ix hn, rfl⟩⟩
theorem AI.weak {tg e : Expr} {m : M Src} (h : AI K N W true X tg e m) : AI K N W false X tg e m := PI.imp h fun σ H R ⟨ι, σa, S, hs, Rp, g⟩ => by
  refine ⟨ι, σa, S, hs, Rp, ?_⟩
  cases e : m σa S with
  | ok src S1 =>
    rw [e] at g
    refine ⟨g.1, fun ι' H' J f R' hJ => g.2 ι' H' J f R' fun ι2 H2 S2 f2 R2 g2 => ?_⟩
    obtain ⟨a, b, c⟩ := hJ ι2 H2 S2 f2 R2 g2
    exact ⟨a, fun i x H3 hi y => let ⟨ι3, d, f3, R3, e3, r3⟩ := b i x H3 hi y; ⟨ι3, d, f3, R3, e3, RepV.weak r3⟩, c⟩
  | ex C S1 => rw [e] at g; exact g
  | bad => rw [e] at g; exact g.elim
theorem ae_lc {t : CTg} {m : M Src} {tt : M Bool} {te : M D} {elt tg iter : Expr} {ifs : List Expr} {scope : Scope} {own : List (Str × Nat)} {pos : Pos} (hc : X.calm = true) (hN : X.N.Nodup) (hi : AI K N W t.q X tg iter m) (ok : BlkOk X.N X.env.scope scope own)
    (hg : ∀ (s : Shared) (H : Hp) (C : Addr) (cl : List (Str × Addr)) (fp : List Addr), PG (X.blk s H scope (compEnvC scope cl C X.env) fp) tg (ctg K t))
    (ht : ∀ (s : Shared) (H : Hp) (C : Addr) (cl : List (Str × Addr)) (fp : List Addr), ATs K N noW (X.blk s H scope (compEnvC scope cl C X.env) fp) ifs tt)
    (he : ∀ (s : Shared) (H : Hp) (C : Addr) (cl : List (Str × Addr)) (fp : List Addr), AE K N noW (X.blk s H scope (compEnvC scope cl C X.env) fp) elt te) (hj : ∀ j ∈ t.own, j ∈ own.map (·.2) := by decide) (hs : ∀ x, foldedSetIterable iter X.env x = pure x := by intro _; rfl) :
    AE K N W X (.ListComp elt [⟨tg, iter, ifs, 0⟩] scope pos) (eLc m t (own.map (·.2)) tt te) := PE.imp (pe_lc hc hN hi ok hg ht he hs) fun σ H Q h => te_lc rfl hj h
theorem as_setLc {i : Nat} {y : Str} {py : Pos} {t : CTg} {m : M Src} {tt : M Bool} {te : M D} {elt tg iter : Expr} {ifs : List Expr} {scope : Scope} {own : List (Str × Nat)} {pos spos : Pos} (hc : X.calm = true) (hN : X.N.Nodup) (hy : X.N[i]? = some y) (hyl : X.env.scope.names.lookup y = some .local)
    (hsw : swapsWith (.ListComp elt [⟨tg, iter, ifs, 0⟩] scope pos) (some (.Name y py)) spos.line X.env = pure true) (hi : AI K N W t.q X tg iter m) (ok : BlkOk X.N X.env.scope scope own)
    (hg : ∀ (s : Shared) (H : Hp) (C : Addr) (cl : List (Str × Addr)) (fp : List Addr), PG (X.blk s H scope (compEnvC scope cl C X.env) fp) tg (ctg K t))
    (ht : ∀ (s : Shared) (H : Hp) (C : Addr) (cl : List (Str × Addr)) (fp : List Addr), ATs K N noW (X.blk s H scope (compEnvC scope cl C X.env) fp) ifs tt)
    (he : ∀ (s : Shared) (H : Hp) (C : Addr) (cl : List (Str × Addr)) (fp : List Addr), AE K N noW (X.blk s H scope (compEnvC scope cl C X.env) fp) elt te) (hj : ∀ j ∈ t.own, j ∈ own.map (·.2) := by decide) (hs : ∀ x, foldedSetIterable iter X.env x = pure x := by intro _; rfl) :
    AS K N W X (.Assign [.Name y py] (.ListComp elt [⟨tg, iter, ifs, 0⟩] scope pos) spos) (cSet i (eLc m t (own.map (·.2)) tt te)) := PS.imp (ps_setLc hc hN hy hyl hsw hi ok hg ht he hs) fun σ H T ⟨ι, σa, S, hs, R, g⟩ => by
  refine te_lc rfl hj ?_
  exact bindES hs R g fun ι1 H1 v d S1 f1 hs1 R1 r1 g1 => g1 ι1 H1 _ (Fut.refl _ _) (hs1.set r1) R1
theorem ct_one {i : Nat} {x : Str} {pos : Pos} (hN : X.N.Nodup) (hi : X.N[i]? = some x) (hx : Loc X.env.scope x) (hf : X.fn x = true ∨ X.env.scope.names.lookup x = some .local := by first | exact .inl rfl | exact .inr rfl | assumption) : PG X (.Name x pos) (ctg K (.one i)) := pg_name hN hi hx hf
theorem ct_tup {es : List Expr} {js : List Nat} {k : Nat} {pos : Pos} (hc : X.calm = true) (h : PGs X es (ctgs js)) (hK : X.K = K := by rfl) (hn : (assignEach es X.env).length = js.length := by rfl) (hst : (assignEach es X.env).findIdx? (·.1) = none := by rfl) : PG X (.Tuple es k pos) (ctg K (.tup js)) := by
  subst hK
  exact pg_tup hc h hn hst
/-! ### enumerate -/
def r1? : List D → Option Nat
  | [.ref n] => some n
  | _ => none
theorem r1_of : ∀ {ds : List D} {n : Nat}, r1? ds = some n → ds = [.ref n]
  | [.ref n], _, h => by cases h; rfl
def sEnum : List D → M Src := fun as _ S => match r1? as with
  | some n => match S[n]? with
    | some (.lst ds) => .ok ⟨ds.zipIdx.map fun p => .tup [.int (p.2 : Nat), p.1], fun S' => S'[n]? = some (.lst ds)⟩ S
    | _ => .bad
  | none => .bad
theorem ai_enum {e : Expr} {m : M (List D)} {p pos tpos : Pos} {elts : List Expr} {kk : Nat} (hg : Gl X "enumerate") (hm : X.mg "enumerate" = none) (ha : AA K N W X [e] m) (hs : starEach [e] X.env = [(false, eval e X.env)] := by rfl) (hK : X.K = K := by rfl) :
    AI K N W false X (.Tuple elts kk tpos) (.Call (.Name "enumerate" p) [e] [] pos) (eBind m sEnum) := by
  subst hK
  refine PI.imp (pi_enum hg hm ha hs) fun σ H R ⟨ι, σa, S, hs, Rp, g⟩ => bindLI hs Rp g fun ι1 H1 v d S1 f1 hs1 R1 r1 g1 => ?_
  unfold sEnum at g1
  cases en : r1? d with
  | none => simp only [en] at g1
  | some n =>
    simp only [en] at g1
    rw [r1_of en] at r1
    obtain ⟨x, r, rfl, ⟨a, ea, rfl⟩, rr⟩ := r1
    rw [show r = [] from rr]
    cases es : S1[n]? with
    | none => simp only [es] at g1
    | some o =>
      cases o with
      | lst ds =>
        simp only [es] at g1
        obtain ⟨b, xs, eb, q, rl⟩ := R1.list es
        rw [ea] at eb
        cases eb
        refine ⟨a, xs, rfl, SqL.of q, g1.2 ι1 H1 _ (Fut.refl _ _) R1 fun ι2 H2 S2 f2 R2 g2 => ?_⟩
        obtain ⟨c, ys, ec, q2, rl2⟩ := R2.list g2
        rw [f2.ix ea] at ec
        cases ec
        have hl := rl2.length
        have hz : (ds.zipIdx.map fun (p : D × Nat) => D.tup [.int (p.2 : Nat), p.1]).length = ds.length := by rw [List.length_map, List.length_zipIdx]
        refine ⟨fun i hi => ?_, fun i x H3 hi y => ?_, fun i hi => ⟨ys, SqL.of q2, by rw [hl]; rw [hz] at hi; exact hi⟩⟩
        · rw [hz] at hi
          have hi' : i < ys.length := by rw [hl]; exact hi
          exact ⟨ys, ys[i], SqL.of q2, List.getElem?_eq_getElem hi'⟩
        · obtain ⟨T, x, rfl, hT, rfl, y⟩ := y
          obtain ⟨d, ed, r⟩ := rl2.get' (y ys (SqL.of q2))
          refine ⟨ι2, .tup [.int (i : Nat), d], fut_upd0 hT, R2.grow hT, ?_, T, _, rfl, SqT.of upd_same, RepL.cons rfl (RepL.cons (r.fut (fut_upd0 hT)) RepL.nil)⟩
          rw [List.getElem?_map, List.getElem?_zipIdx, ed]
          simp
      | _ => simp only [es] at g1/-! ### while -/
def wlF (t : M Bool) (b : Sm) : Nat → Sm
  | 0, _, _ => .bad
  | n + 1, σ, S => match t σ S with
    | .ok true S1 => match b σ S1 with
      | .nx σ2 S2 => wlF t b n σ2 S2
      | .ct σ2 S2 => wlF t b n σ2 S2
      | .bk σ2 S2 => .nx σ2 S2
      | .rt d S2 => .rt d S2
      | .ex C σ2 S2 => .ex C σ2 S2
      | .bad => .bad
    | .ok false S1 => .nx σ S1
    | .ex C S1 => .ex C σ S1
    | .bad => .bad
open Classical in
noncomputable def cWhile (t : M Bool) (b : Sm) : Sm := fun σ S => if h : ∃ n, wlF t b n σ S ≠ .bad then wlF t b (choose h) σ S else .bad
theorem wlF_up {t : M Bool} {b : Sm} : ∀ {n m : Nat} {σ : Sl} {S : Sto}, n ≤ m → wlF t b n σ S ≠ .bad → wlF t b m σ S = wlF t b n σ S
  | 0, _, _, _, _, h => absurd rfl h
  | n + 1, 0, _, _, l, _ => absurd l (by omega)
  | n + 1, m + 1, σ, S, l, h => by
    unfold wlF at h ⊢
    cases et : t σ S with
    | ok c S1 =>
      rw [et] at h
      cases c with
      | false => rfl
      | true =>
        simp only at h ⊢
        cases eb : b σ S1 with
        | nx σ2 S2 =>
          rw [eb] at h
          exact wlF_up (by omega) h
        | ct σ2 S2 =>
          rw [eb] at h
          exact wlF_up (by omega) h
        | _ => rfl
    | ex C S1 => rfl
    | bad => rfl
theorem cWhile_of {t : M Bool} {b : Sm} {n : Nat} {σ : Sl} {S : Sto} (h : wlF t b n σ S ≠ .bad) : cWhile t b σ S = wlF t b n σ S := by
  have e : ∃ n, wlF t b n σ S ≠ .bad := ⟨n, h⟩
  unfold cWhile
  rw [dif_pos e]
  have c := Classical.choose_spec e
  rcases Nat.le_total n (Classical.choose e) with l | l
  · exact wlF_up l h
  · exact (wlF_up l c).symm
theorem as_while {c : Expr} {body : List Stmt} {t : M Bool} {b : Sm} {pos : Pos} (hp : PassesOwn (model X.prog X.w) X.A X.env X.xe) (hc : AT K N W X c t) (hb : ASs K N W X body b) : AS K N W X (.While c body [] pos) (cWhile t b) := by
  refine PS.imp (ps_while hp hc hb) fun σ H T ⟨ι, σa, S, hs, R, g⟩ => ?_
  unfold cWhile at g
  split at g
  rotate_left
  · exact g.elim
  rename_i h0
  refine ⟨fun m σ' H' => ∃ ι σa S, RepSl K ι H' σa σ' ∧ Rep K N ι H' S ∧ goodS K N W (wlF t b m σa S) ι H' T, ⟨_, ι, σa, S, hs, R, g⟩, ?_⟩
  rintro m σ1 H1 ⟨ι1, σa1, S1, hs1, R1, g1⟩
  cases m with
  | zero => exact g1.elim
  | succ m =>
    unfold wlF at g1
    refine ⟨ι1, σa1, S1, hs1, R1, ?_⟩
    cases et : t σa1 S1 with
    | ex C S2 =>
      rw [et] at g1
      exact fun ι' H' f R' => g1 ι' H' σ1 f (hs1.fut f) R'
    | bad =>
      rw [et] at g1
      exact g1
    | ok k S2 =>
      rw [et] at g1
      intro ι2 H2 f2 R2
      cases k with
      | false => exact iteF (g1 ι2 H2 σ1 f2 (hs1.fut f2) R2)
      | true =>
        simp only at g1
        refine iteT ⟨fun σ' H' => ∃ ι σa S, RepSl K ι H' σa σ' ∧ Rep K N ι H' S ∧ goodS K N W (wlF t b m σa S) ι H' T, fun σ' H' q => ⟨m, Nat.lt_succ_self _, q⟩, ι2, σa1, S2, hs1.fut f2, R2, ?_⟩
        cases eb : b σa1 S2 with
        | nx σ3 S3 =>
          rw [eb] at g1
          exact fun ι3 H3 σv f3 hs3 R3 => ⟨ι3, σ3, S3, hs3, R3, goodS.fut (r := wlF t b m σ3 S3) g1 (f2.trans f3)⟩
        | ct σ3 S3 =>
          rw [eb] at g1
          exact fun ι3 H3 σv f3 hs3 R3 => ⟨ι3, σ3, S3, hs3, R3, goodS.fut (r := wlF t b m σ3 S3) g1 (f2.trans f3)⟩
        | bk σ3 S3 =>
          rw [eb] at g1
          exact fun ι3 H3 σv f3 hs3 R3 => g1 ι3 H3 σv (f2.trans f3) hs3 R3
        | rt d S3 =>
          rw [eb] at g1
          exact fun ι3 H3 v f3 R3 r3 => g1 ι3 H3 v (f2.trans f3) R3 r3
        | ex C σ3 S3 =>
          rw [eb] at g1
          exact fun ι3 H3 σv f3 hs3 R3 => g1 ι3 H3 σv (f2.trans f3) hs3 R3
        | bad =>
          rw [eb] at g1
          exact g1
end
/-! ### arguments, displays -/
def aNil : M (List D) := fun _ S => .ok [] S
def aCons (m : M D) (r : M (List D)) : M (List D) := eBind m fun d => eBind r fun ds _ S => .ok (d :: ds) S
noncomputable def eTup (m : M (List D)) : M D := eBind m fun ds _ S => ofO (gd (ds.length ≤ sizeLine) (some (.tup ds, S)))
noncomputable def eLst (m : M (List D)) : M D := eBind m fun ds _ S => ofO (gd (ds.length ≤ sizeLine) (some (.ref S.length, S ++ [.lst ds])))
section
variable {K : PySem.W.Frag} {N : Nms} {W : WX} {ι ι' : List Addr} {H H' : Hp} {σ : L2.St} {σa : Sl} {S : Sto} {X : Cx}
theorem aa_nil : AA K N W X [] aNil := PA.imp pa_nil fun σ H Q ⟨ι, σa, S, hs, R, g⟩ => g ι H [] (Fut.refl _ _) R rfl
theorem aa_cons {e : Expr} {es : List Expr} {m : M D} {r : M (List D)} (ha : AE K N W X e m) (hr : AA K N W X es r) (hs : starEach (e :: es) X.env = (false, eval e X.env) :: starEach es X.env := by rfl) : AA K N W X (e :: es) (aCons m r) := PA.imp (pa_cons ha hr hs) fun σ H Q ⟨ι, σa, S, hs, R, g⟩ =>
  bindEL hs R g fun ι1 H1 v d S1 f1 hs1 R1 r1 g1 => bindLL hs1 R1 g1 fun ι2 H2 vs ds S2 f2 hs2 R2 r2 g2 => g2 ι2 H2 (v :: vs) (Fut.refl _ _) R2 (RepL.cons (r1.fut f2) r2)
/-- a new tuple that is not of the store -/
theorem goodO.newT {ds : List D} {xs : List V} {Q : VK} (g : goodO K N (some (.tup ds, S)) ι H Q) (R : Rep K N ι H S) (r : RepL K ι H ds xs) {p : Addr} {o : Obj} (hp : H p = none) (ho : o.dict = Option.none) : Q (.ref p) (upd H p (.frz o (.tup xs))) :=
  g ι _ _ (fut_upd0 hp) (R.grow hp) ⟨p, xs, rfl, .inl ⟨o, ho, upd_same⟩, r.fut (fut_upd0 hp)⟩
/-- a new list of the store -/
theorem goodO.newL {ds : List D} {xs : List V} {Q : VK} (g : goodO K N (some (.ref S.length, S ++ [.lst ds])) ι H Q) (R : Rep K N ι H S) (r : RepL K ι H ds xs) {p : Addr} (hp : H p = none) : Q (.ref p) (upd H p (.lst xs)) :=
  g (ι ++ [p]) _ _ (fut_new hp) (R.new hp ⟨xs, upd_same, r.fut (fut_new hp)⟩) ⟨p, by rw [← R.len, List.getElem?_append_right (Nat.le_refl _), Nat.sub_self]; rfl, rfl⟩
theorem ae_tup {es : List Expr} {m : M (List D)} {x1} {pos : Pos} (h : AA K N W X es m) : AE K N W X (.Tuple es x1 pos) (eTup m) := PE.imp (y_tt h) fun σ H Q ⟨ι, σa, S, hs, R, g⟩ =>
  bindLE hs R g fun ι1 H1 vs ds S1 f1 hs1 R1 r1 g1 => by
    have g2 := goodO.of g1
    cases e : gd (ds.length ≤ sizeLine) (some (D.tup ds, S1)) with
    | none =>
      rw [e] at g2
      exact g2.elim
    | some p =>
      obtain ⟨h1, h2⟩ := gd_some e
      rw [e, ← h2] at g2
      exact ⟨by rw [r1.length]; exact h1, fun p o hp ho => g2.newT R1 r1 hp ho⟩
theorem ae_lst {es : List Expr} {m : M (List D)} {pos : Pos} (h : AA K N W X es m) : AE K N W X (.List es pos) (eLst m) := PE.imp (pe_lst h) fun σ H Q ⟨ι, σa, S, hs, R, g⟩ =>
  bindLE hs R g fun ι1 H1 vs ds S1 f1 hs1 R1 r1 g1 => by
    have g2 := goodO.of g1
    cases e : gd (ds.length ≤ sizeLine) (some (D.ref S1.length, S1 ++ [O.lst ds])) with
    | none =>
      rw [e] at g2
      exact g2.elim
    | some p =>
      obtain ⟨h1, h2⟩ := gd_some e
      rw [e, ← h2] at g2
      exact ⟨by rw [r1.length]; exact h1, fun p hp => g2.newL R1 r1 hp⟩
end
/-! ### what a def promises -/
def fn0 (np n : Nat) (body : Sm) : Fn := fun ds S => if ds.length = np then (match body (startA n ds) S with
  | .rt d S' => .ok d S'
  | .nx _ S' => .ok .non S'
  | _ => .bad) else .bad
def fnX (np n : Nat) (body : Sm) : Fn := fun ds S => if ds.length = np then (match body (startA n ds) S with
  | .rt d S' => .ok d S'
  | .nx _ S' => .ok .non S'
  | .ex C _ S' => .ex C S'
  | _ => .bad) else .bad
section
variable {P : Program} {w : World} {K : PySem.W.Frag} {N : Nms} {mg : Str → Option Value} {base : Heap} {k : Nat} {x : Str} {st : Stmt} {ps Ns : List Str}
theorem spA_len0 {np n : Nat} {body : Sm} {vs : List V} {H : Hp} {Q : VK} {E : XK} (h : spA K N (fn0 np n body) vs H Q E) : vs.length = np := by
  obtain ⟨ι, ds, S, r, R, g⟩ := h
  unfold fn0 at g
  rw [r.length]
  by_cases e : ds.length = np
  · exact e
  · rw [if_neg e] at g
    exact g.elim
theorem spA_lenX {np n : Nat} {body : Sm} {vs : List V} {H : Hp} {Q : VK} {E : XK} (h : spA K N (fnX np n body) vs H Q E) : vs.length = np := by
  obtain ⟨ι, ds, S, r, R, g⟩ := h
  unfold fnX at g
  rw [r.length]
  by_cases e : ds.length = np
  · exact e
  · rw [if_neg e] at g
    exact g.elim
theorem enter0 {np n : Nat} {body : Sm} {vs : List V} {H : Hp} {Q : VK} {E : XK} {W : WX} (hn : Ns.length = n) (h : spA K N (fn0 np n body) vs H Q E) : tsX K N W body ⟨fun _ H' => Q .non H', Q, fun _ _ => False, fun _ _ => False⟩ (L2.start Ns vs) H := by
  obtain ⟨ι, ds, S, r, R, g⟩ := h
  unfold fn0 at g
  by_cases e : ds.length = np
  · rw [if_pos e] at g
    refine ⟨ι, startA Ns.length ds, S, RepSl.start r, R, ?_⟩
    rw [hn]
    cases eb : body (startA n ds) S with
    | rt d S1 => rw [eb] at g; exact g
    | nx σ1 S1 =>
      rw [eb] at g
      exact fun ι' H' σ f hs R' => g ι' H' .non f R' rfl
    | bk σ1 S1 => rw [eb] at g; exact g.elim
    | ct σ1 S1 => rw [eb] at g; exact g.elim
    | ex C σ1 S1 => rw [eb] at g; exact g.elim
    | bad => rw [eb] at g; exact g.elim
  · rw [if_neg e] at g
    exact g.elim
theorem enterX {np n : Nat} {body : Sm} {vs : List V} {H : Hp} {Q : VK} {E : XK} (hn : Ns.length = n) (h : spA K N (fnX np n body) vs H Q E) : tsX K N (fun cls d _ H => E cls d H) body ⟨fun _ H' => Q .non H', Q, fun _ _ => False, fun _ _ => False⟩ (L2.start Ns vs) H := by
  obtain ⟨ι, ds, S, r, R, g⟩ := h
  unfold fnX at g
  by_cases e : ds.length = np
  · rw [if_pos e] at g
    refine ⟨ι, startA Ns.length ds, S, RepSl.start r, R, ?_⟩
    rw [hn]
    cases eb : body (startA n ds) S with
    | rt d S1 => rw [eb] at g; exact g
    | nx σ1 S1 =>
      rw [eb] at g
      exact fun ι' H' σ f hs R' => g ι' H' .non f R' rfl
    | ex C σ1 S1 =>
      rw [eb] at g
      exact fun ι' H' σ f hs R' => g ι' H' f R'
    | bk σ1 S1 => rw [eb] at g; exact g.elim
    | ct σ1 S1 => rw [eb] at g; exact g.elim
    | bad => rw [eb] at g; exact g.elim
  · rw [if_neg e] at g
    exact g.elim
theorem okA0 {c : Sm} {np n : Nat} (d : Dn K mg x st ps) (Sc : FnScope Ns ps (defScope st)) (hp : ps.length = np) (hn : Ns.length = n)
    (hb : ∀ (f : Addr) (cdv : Value) (A : Around) (outer : List Env) (s : Shared) (H : Hp) (E : XK), Room k (A.deeper (envOfC x (defScope st) s.heap.objs.size f cdv)) →
      ASs K N noW (cxOf CX0 P w K mg base Ns x (defScope st) f cdv A outer s H E).nox (defBody st) c) : OkD P w K mg base CX0 (k + 1) x ps (spA K N (fn0 np n c)) :=
  ok_mk d Sc (fun vs H Q E h => by rw [hp]; exact spA_len0 h) fun f cdv A outer s H vs Q E hr h => ⟨_, hb f cdv A outer s H E hr, enter0 hn h⟩
theorem okAX {c : Sm} {np n : Nat} (d : Dn K mg x st ps) (Sc : FnScope Ns ps (defScope st)) (hp : ps.length = np) (hn : Ns.length = n)
    (hb : ∀ (f : Addr) (cdv : Value) (A : Around) (outer : List Env) (s : Shared) (H : Hp) (E : XK), Room k (A.deeper (envOfC x (defScope st) s.heap.objs.size f cdv)) →
      ASs K N (fun cls d _ H => E cls d H) (cxOf (L2.CX P w) P w K mg base Ns x (defScope st) f cdv A outer s H E) (defBody st) c) : OkD P w K mg base (L2.CX P w) (k + 1) x ps (spA K N (fnX np n c)) :=
  ok_mkX d Sc (fun vs H Q E h => by rw [hp]; exact spA_lenX h) fun f cdv A outer s H vs Q E hr h => ⟨_, hb f cdv A outer s H E hr, enterX hn h⟩
variable {C : Addr} {m q : Str}
theorem okM0 {c : Sm} {np n : Nat} (d : Mn K C m q st ps) (Sc : FnScope Ns ps (defScope st)) (hp : ps.length = np) (hn : Ns.length = n)
    (hb : ∀ (f : Addr) (cdv : Value) (A : Around) (outer : List Env) (s : Shared) (H : Hp) (E : XK), Room k (A.deeper (envOfC q (defScope st) s.heap.objs.size f cdv)) →
      ASs K N noW (cxOf CX0 P w K mg base Ns q (defScope st) f cdv A outer s H E).nox (defBody st) c) : OkM P w K mg base CX0 (k + 1) C m ps (spA K N (fn0 np n c)) :=
  ok_mkM d Sc (fun vs H Q E h => by rw [hp]; exact spA_len0 h) fun f cdv A outer s H vs Q E hr h => ⟨_, hb f cdv A outer s H E hr, enter0 hn h⟩
theorem okMX {c : Sm} {np n : Nat} (d : Mn K C m q st ps) (Sc : FnScope Ns ps (defScope st)) (hp : ps.length = np) (hn : Ns.length = n)
    (hb : ∀ (f : Addr) (cdv : Value) (A : Around) (outer : List Env) (s : Shared) (H : Hp) (E : XK), Room k (A.deeper (envOfC q (defScope st) s.heap.objs.size f cdv)) →
      ASs K N (fun cls d _ H => E cls d H) (cxOf (L2.CX P w) P w K mg base Ns q (defScope st) f cdv A outer s H E) (defBody st) c) : OkM P w K mg base (L2.CX P w) (k + 1) C m ps (spA K N (fnX np n c)) :=
  ok_mkMX d Sc (fun vs H Q E h => by rw [hp]; exact spA_lenX h) fun f cdv A outer s H vs Q E hr h => ⟨_, hb f cdv A outer s H E hr, enterX hn h⟩
end
/-! ### calls -/
def eCall (F : Fn) (m : M (List D)) : M D := eBind m fun ds _ S => F ds S
open Classical in
noncomputable def eMeth (C : Addr) (F : Fn) (mo : M D) (m : M (List D)) : M D := eBind mo fun o σ S => match o with
  | .ref n => match S[n]? with
    | some (.obj C' _) => if C' = C then (eBind m fun ds _ S1 => F (o :: ds) S1) σ S else .bad
    | _ => .bad
  | _ => .bad
def mkRes (n : Nat) : Res D → Res D
  | .ok .non S' => .ok (.ref n) S'
  | _ => .bad
def eMake (C : Addr) (F : Fn) (m : M (List D)) : M D := eBind m fun ds _ S => mkRes S.length (F (.ref S.length :: ds) (S ++ [.obj C []]))
theorem passAt0 {X : Cx} {σ : L2.St} {E : XK} : PassesAt CX0 X σ E := fun _ _ _ _ _ _ h => h.elim
section
variable {K : PySem.W.Frag} {N : Nms} {W : WX} {ι ι' : List Addr} {H H' : Hp} {σ : L2.St} {σa : Sl} {S : Sto} {X : Cx} {k : Nat} {x : Str} {ps : List Str} {F : Fn} {e o : Expr} {es : List Expr} {p pos apos : Pos} {m : M (List D)} {mo : M D} {C : Addr} {mt : Str} {CXx : CXT}
theorem te_call {Q : VK} (h : teX K N W (eCall F m) σ H Q) : tCallS (spA K N F) (WE W) (taX K N W m) σ H Q := by
  obtain ⟨ι, σa, S, hs, R, g⟩ := h
  refine bindLE hs R g fun ι1 H1 vs ds S1 f1 hs1 R1 r1 g1 => ⟨ι1, ds, S1, r1, R1, ?_⟩
  cases eF : F ds S1 with
  | ok d S2 => rw [eF] at g1; exact g1
  | ex C S2 => rw [eF] at g1; exact g1
  | bad => rw [eF] at g1; exact g1
theorem ae_callG (O : OkD X.prog X.w X.K X.mg X.base CXx k x ps (spA K N F)) (hx : ∀ σ, PassesAt CXx X σ (WE W σ)) (hr : Room k X.A) (hg : Gl X x) (ha : AA K N W X (e :: es) m)
    (hdb : (x == ("__debug__" : Str)) = false := by decide) (he : starEach (e :: es) X.env = (false, eval e X.env) :: starEach es X.env := by rfl) (hpl : (backTo pos (starEach es X.env)).any (·.1) = false := by rfl) :
    AE K N W X (.Call (.Name x p) (e :: es) [] pos) (eCall F m) := by
  obtain ⟨f, fd, hm, kp, b, Fo⟩ := O
  exact PE.imp (pe_callS Fo hr hg hm kp b hx ha hdb he hpl) fun σ H Q h => te_call h
/-- a def that lets nothing out -/
theorem ae_call (O : OkD X.prog X.w X.K X.mg X.base CX0 k x ps (spA K N F)) (hr : Room k X.A) (hg : Gl X x) (ha : AA K N W X (e :: es) m)
    (hdb : (x == ("__debug__" : Str)) = false := by decide) (he : starEach (e :: es) X.env = (false, eval e X.env) :: starEach es X.env := by rfl) (hpl : (backTo pos (starEach es X.env)).any (·.1) = false := by rfl) :
    AE K N W X (.Call (.Name x p) (e :: es) [] pos) (eCall F m) := ae_callG O (fun _ => passAt0) hr hg ha hdb he hpl
/-- a def that may raise -/
theorem ae_callX (O : OkD X.prog X.w X.K X.mg X.base (L2.CX X.prog X.w) k x ps (spA K N F)) (tk : Takes X W) (hr : Room k X.A) (hg : Gl X x) (ha : AA K N W X (e :: es) m)
    (hdb : (x == ("__debug__" : Str)) = false := by decide) (he : starEach (e :: es) X.env = (false, eval e X.env) :: starEach es X.env := by rfl) (hpl : (backTo pos (starEach es X.env)).any (·.1) = false := by rfl) :
    AE K N W X (.Call (.Name x p) (e :: es) [] pos) (eCall F m) := ae_callG O (fun σ => passAt tk σ) hr hg ha hdb he hpl
/-! methods -/
theorem te_meth {ns : List Str} {Q : VK} (cf : CF K N C ns) (hm : mt ∉ ns) (h : teX K N W (eMeth C F mo m) σ H Q) : zMethS C mt (spA K N F) (WE W) (teX K N W mo) (taX K N W m) σ H Q := by
  obtain ⟨ι, σa, S, hs, R, g⟩ := h
  refine bindEE hs R g fun ι1 H1 v d S1 f1 hs1 R1 r1 g1 => ?_
  cases d with
  | ref n =>
    simp only at g1
    cases es : S1[n]? with
    | none => simp only [es] at g1; exact g1.elim
    | some ob =>
      cases ob with
      | obj C' ds =>
        simp only [es] at g1
        by_cases hc : C' = C
        · rw [if_pos hc] at g1
          subst hc
          obtain ⟨a, ea, dx, xs, q, l, rl⟩ := R1.ob n _ es
          obtain ⟨b, eb, rfl⟩ := r1
          rw [ea] at eb
          cases eb
          refine ⟨a, dx, _, rfl, q, ?_, ?_⟩
          · rw [cf.nm]
            cases hl : (ns.zip xs).lookup mt with
            | none => rfl
            | some y =>
              exfalso
              have : ∀ (ns : List Str) (xs : List V), mt ∉ ns → (ns.zip xs).lookup mt = none := by
                intro ns
                induction ns with
                | nil => intro xs _; rfl
                | cons n ns ih =>
                  intro xs hn
                  cases xs with
                  | nil => rfl
                  | cons x xs =>
                    have ne : (mt == n) = false := beq_eq_false_iff_ne.mpr fun z => hn (z ▸ List.mem_cons_self)
                    rw [List.zip_cons_cons, List.lookup, ne]
                    exact ih xs fun z => hn (List.mem_cons_of_mem _ z)
              rw [this ns xs hm] at hl
              cases hl
          · refine bindLE hs1 R1 g1 fun ι2 H2 vs es S2 f2 hs2 R2 r2 g2 => ⟨ι2, .ref n :: es, S2, RepL.cons ⟨a, f2.ix ea, rfl⟩ r2, R2, ?_⟩
            cases eF : F (.ref n :: es) S2 with
            | ok d S3 => rw [eF] at g2; exact g2
            | ex C S3 => rw [eF] at g2; exact g2
            | bad => rw [eF] at g2; exact g2
        · rw [if_neg hc] at g1
          exact g1.elim
      | _ => simp only [es] at g1; exact g1.elim
  | _ => exact g1.elim
theorem pe_methG {sp : Sp} {ta : TE} {t : TA} {E' : L2.St → XK} {pl : Sem Bool} (c : Cls X.K C) (O : OkM X.prog X.w X.K X.mg X.base CXx k C mt ps sp) (hr : Room k X.A) (hx : ∀ σ, PassesAt CXx X σ (E' σ)) (he : PE X o ta) (ha : PA X (e :: es) t)
    (hst : starEach (e :: es) X.env = (false, eval e X.env) :: starEach es X.env := by rfl) (hpl : (backTo pos (starEach es X.env)).any (·.1) = false := by rfl)
    (ht : eval (.Call (.Attribute o mt apos) (e :: es) [] pos) X.env = (do
      let ov ← eval o X.env; standAt apos.atName
      let (f, first) ← holding [ov] (getMethod ov mt pl); callWith pos f first (backTo pos (starEach (e :: es) X.env)) (backToKw pos (keywordEach [] X.env))) := by rfl) :
    PE X (.Call (.Attribute o mt apos) (e :: es) [] pos) (zMethS C mt sp E' ta t) := by
  obtain ⟨f, fd, M, b, F⟩ := O
  constructor
  intro pins s σ H Q I h
  have one := he.run pins s σ H _ I h
  refine PySem.W.methodCall_KW (pl := pl) (thn one ?_) ht
  rintro u s1 ⟨x, H1, I1, rx, a, dx, fs, rfl, ea, l, q⟩
  cases rx
  refine getmeth_ok I1 ea c M l ?_
  have two := ha.run pos pins s1 σ H1 _ I1 q
  refine PySem.W.callWith_K (first := [.ref a]) (h₀ := X.base) I.ok.mod.kin M.kp (thn two ?_) hst hpl
  rintro us s2 ⟨vs, H2, I2, r, q2⟩
  exact ⟨I2.kIn, run_fnS (us := .ref a :: us) (vs := .ref a :: vs) F hr b (hx σ) I2 (.cons rfl r) q2⟩
theorem pe_methG0 {sp : Sp} {ta : TE} {E' : L2.St → XK} {pl : Sem Bool} (c : Cls X.K C) (O : OkM X.prog X.w X.K X.mg X.base CXx k C mt ps sp) (hr : Room k X.A) (hx : ∀ σ, PassesAt CXx X σ (E' σ)) (he : PE X o ta)
    (ht : eval (.Call (.Attribute o mt apos) [] [] pos) X.env = (do
      let ov ← eval o X.env; standAt apos.atName
      let (f, first) ← holding [ov] (getMethod ov mt pl); callWith pos f first (backTo pos (starEach [] X.env)) (backToKw pos (keywordEach [] X.env))) := by rfl) :
    PE X (.Call (.Attribute o mt apos) [] [] pos) (zMethS C mt sp E' ta tNil) := by
  obtain ⟨f, fd, M, b, F⟩ := O
  constructor
  intro pins s σ H Q I h
  have one := he.run pins s σ H _ I h
  refine PySem.W.methodCall_KW (pl := pl) (thn one ?_) ht
  rintro u s1 ⟨x, H1, I1, rx, a, dx, fs, rfl, ea, l, q⟩
  cases rx
  refine getmeth_ok I1 ea c M l ?_
  exact PySem.W.callWith_K0 (first := [.ref a]) I1.kIn M.kp (run_fnS (us := [.ref a]) (vs := [.ref a]) F hr b (hx σ) I1 (.cons rfl .nil) q)
theorem ae_methG {ns : List Str} {pl : Sem Bool} (cf : CF K N C ns) (hm : mt ∉ ns) (O : OkM X.prog X.w X.K X.mg X.base CXx k C mt ps (spA K N F)) (hx : ∀ σ, PassesAt CXx X σ (WE W σ)) (hr : Room k X.A) (he : AE K N W X o mo) (ha : AA K N W X (e :: es) m) (hK : X.K = K)
    (hst : starEach (e :: es) X.env = (false, eval e X.env) :: starEach es X.env) (hpl : (backTo pos (starEach es X.env)).any (·.1) = false)
    (ht : eval (.Call (.Attribute o mt apos) (e :: es) [] pos) X.env = (do
      let ov ← eval o X.env; standAt apos.atName
      let (f, first) ← holding [ov] (getMethod ov mt pl); callWith pos f first (backTo pos (starEach (e :: es) X.env)) (backToKw pos (keywordEach [] X.env)))) : AE K N W X (.Call (.Attribute o mt apos) (e :: es) [] pos) (eMeth C F mo m) := by
  subst hK
  exact PE.imp (pe_methG (pl := pl) cf.cl O hr hx he ha hst hpl ht) fun σ H Q h => te_meth cf hm h
theorem ae_meth {ns : List Str} {pl : Sem Bool} (cf : CF K N C ns) (hm : mt ∉ ns) (O : OkM X.prog X.w X.K X.mg X.base CX0 k C mt ps (spA K N F)) (hr : Room k X.A) (he : AE K N W X o mo) (ha : AA K N W X (e :: es) m) (hK : X.K = K := by rfl)
    (hst : starEach (e :: es) X.env = (false, eval e X.env) :: starEach es X.env := by rfl) (hpl : (backTo pos (starEach es X.env)).any (·.1) = false := by rfl)
    (ht : eval (.Call (.Attribute o mt apos) (e :: es) [] pos) X.env = (do
      let ov ← eval o X.env; standAt apos.atName
      let (f, first) ← holding [ov] (getMethod ov mt pl); callWith pos f first (backTo pos (starEach (e :: es) X.env)) (backToKw pos (keywordEach [] X.env))) := by rfl) : AE K N W X (.Call (.Attribute o mt apos) (e :: es) [] pos) (eMeth C F mo m) := ae_methG cf hm O (fun _ => passAt0) hr he ha hK hst hpl ht
theorem ae_methX {ns : List Str} {pl : Sem Bool} (cf : CF K N C ns) (hm : mt ∉ ns) (O : OkM X.prog X.w X.K X.mg X.base (L2.CX X.prog X.w) k C mt ps (spA K N F)) (tk : Takes X W) (hr : Room k X.A) (he : AE K N W X o mo) (ha : AA K N W X (e :: es) m) (hK : X.K = K := by rfl)
    (hst : starEach (e :: es) X.env = (false, eval e X.env) :: starEach es X.env := by rfl) (hpl : (backTo pos (starEach es X.env)).any (·.1) = false := by rfl)
    (ht : eval (.Call (.Attribute o mt apos) (e :: es) [] pos) X.env = (do
      let ov ← eval o X.env; standAt apos.atName
      let (f, first) ← holding [ov] (getMethod ov mt pl); callWith pos f first (backTo pos (starEach (e :: es) X.env)) (backToKw pos (keywordEach [] X.env))) := by rfl) : AE K N W X (.Call (.Attribute o mt apos) (e :: es) [] pos) (eMeth C F mo m) := ae_methG cf hm O (fun σ => passAt tk σ) hr he ha hK hst hpl ht
theorem te_nil {Q : List V → Hp → Prop} (h : taX K N W aNil σ H Q) : tNil σ H Q := let ⟨ι, _, _, _, R, g⟩ := h; g ι H [] (Fut.refl _ _) R rfl
theorem ae_methG0 {ns : List Str} {pl : Sem Bool} (cf : CF K N C ns) (hm : mt ∉ ns) (O : OkM X.prog X.w X.K X.mg X.base CXx k C mt ps (spA K N F)) (hx : ∀ σ, PassesAt CXx X σ (WE W σ)) (hr : Room k X.A) (he : AE K N W X o mo) (hK : X.K = K)
    (ht : eval (.Call (.Attribute o mt apos) [] [] pos) X.env = (do
      let ov ← eval o X.env; standAt apos.atName
      let (f, first) ← holding [ov] (getMethod ov mt pl); callWith pos f first (backTo pos (starEach [] X.env)) (backToKw pos (keywordEach [] X.env)))) : AE K N W X (.Call (.Attribute o mt apos) [] [] pos) (eMeth C F mo aNil) := by
  subst hK
  refine PE.imp (pe_methG0 (pl := pl) cf.cl O hr hx he ht) fun σ H Q h => ?_
  obtain ⟨ι, σa, S, hs, R, g⟩ := te_meth cf hm h
  exact teX.imp ⟨ι, σa, S, hs, R, g⟩ fun v H1 ⟨a, dx, fs, e1, e2, e3, e4⟩ => ⟨a, dx, fs, e1, e2, e3, te_nil e4⟩
theorem ae_meth0 {ns : List Str} {pl : Sem Bool} (cf : CF K N C ns) (hm : mt ∉ ns) (O : OkM X.prog X.w X.K X.mg X.base CX0 k C mt ps (spA K N F)) (hr : Room k X.A) (he : AE K N W X o mo) (hK : X.K = K := by rfl)
    (ht : eval (.Call (.Attribute o mt apos) [] [] pos) X.env = (do
      let ov ← eval o X.env; standAt apos.atName
      let (f, first) ← holding [ov] (getMethod ov mt pl); callWith pos f first (backTo pos (starEach [] X.env)) (backToKw pos (keywordEach [] X.env))) := by rfl) : AE K N W X (.Call (.Attribute o mt apos) [] [] pos) (eMeth C F mo aNil) := ae_methG0 cf hm O (fun _ => passAt0) hr he hK ht
theorem ae_methX0 {ns : List Str} {pl : Sem Bool} (cf : CF K N C ns) (hm : mt ∉ ns) (O : OkM X.prog X.w X.K X.mg X.base (L2.CX X.prog X.w) k C mt ps (spA K N F)) (tk : Takes X W) (hr : Room k X.A) (he : AE K N W X o mo) (hK : X.K = K := by rfl)
    (ht : eval (.Call (.Attribute o mt apos) [] [] pos) X.env = (do
      let ov ← eval o X.env; standAt apos.atName
      let (f, first) ← holding [ov] (getMethod ov mt pl); callWith pos f first (backTo pos (starEach [] X.env)) (backToKw pos (keywordEach [] X.env))) := by rfl) : AE K N W X (.Call (.Attribute o mt apos) [] [] pos) (eMeth C F mo aNil) := ae_methG0 cf hm O (fun σ => passAt tk σ) hr he hK ht
/-! a new instance -/
theorem te_make {Q : VK} (h : teX K N W (eMake C F m) σ H Q) : tMake C (spA K N F) [] (fun _ _ _ => False) (taX K N W m) σ H Q := by
  obtain ⟨ι, σa, S, hs, R, g⟩ := h
  refine bindLE hs R g fun ι1 H1 vs ds S1 f1 hs1 R1 r1 g1 x dx hx hdx ne => ?_
  have hx' : (upd H1 dx (.own x)) x = none := by rw [upd_ne ne.symm]; exact hx
  have f2 : Fut K ι1 H1 ι1 (upd H1 dx (.own x)) := fut_upd0 hdx
  have R2 := R1.grow (o := .own x) hdx
  have f3 : Fut K ι1 (upd H1 dx (.own x)) (ι1 ++ [x]) (upd (upd H1 dx (.own x)) x (.ins C dx [])) := fut_new hx'
  have R3 : Rep K N (ι1 ++ [x]) (upd (upd H1 dx (.own x)) x (.ins C dx [])) (S1 ++ [.obj C []]) := R2.new hx' ⟨dx, [], by rw [upd_same, List.zip_nil_right], Nat.zero_le _, RepL.nil⟩
  have hn : (ι1 ++ [x])[S1.length]? = some x := by rw [← R1.len, List.getElem?_append_right (Nat.le_refl _), Nat.sub_self]; rfl
  refine ⟨ι1 ++ [x], .ref S1.length :: ds, S1 ++ [.obj C []], ?_, R3, ?_⟩
  · rw [List.append_nil]
    exact RepL.cons ⟨x, hn, rfl⟩ ((r1.fut f2).fut f3)
  · cases eF : F (.ref S1.length :: ds) (S1 ++ [.obj C []]) with
    | ok d S4 =>
      rw [eF] at g1
      cases d with
      | non => exact fun ι4 H4 v f4 R4 r4 => ⟨r4, g1 ι4 H4 (.ref x) ((f2.trans f3).trans f4) R4 ⟨x, f4.ix hn, rfl⟩⟩
      | _ => exact g1.elim
    | ex C S4 =>
      rw [eF] at g1
      exact g1.elim
    | bad =>
      rw [eF] at g1
      exact g1.elim
theorem ae_make (cs : Cs X.K X.mg x C) (O : OkM X.prog X.w X.K X.mg X.base CX0 k C "__init__" ps (spA K N F)) (hr : Room (k + 1) X.A) (hg : Gl X x) (ha : AA K N W X (e :: es) m)
    (hdb : (x == ("__debug__" : Str)) = false := by decide) (he : starEach (e :: es) X.env = (false, eval e X.env) :: starEach es X.env := by rfl) (hpl : (backTo pos (starEach es X.env)).any (·.1) = false := by rfl) : AE K N W X (.Call (.Name x p) (e :: es) [] pos) (eMake C F m) :=
  PE.imp (pe_makeC (E := fun _ _ _ => False) cs O hr hg (fun _ _ _ _ _ _ _ h => h.elim) ha hdb he hpl) fun σ H Q h => te_make h
theorem ae_make0 (cs : Cs X.K X.mg x C) (O : OkM X.prog X.w X.K X.mg X.base CX0 k C "__init__" ps (spA K N F)) (hr : Room (k + 1) X.A) (hg : Gl X x)
    (hdb : (x == ("__debug__" : Str)) = false := by decide) : AE K N W X (.Call (.Name x p) [] [] pos) (eMake C F aNil) :=
  PE.imp (pe_makeC0 (E := fun _ _ _ => False) cs O hr hg (fun _ _ _ _ _ _ _ h => h.elim) hdb) fun σ H Q h => te_nil (te_make h)
end
/-! ### raising, catching -/
def cRaise (C : Addr) (m : M D) : Sm := sBind m fun _ σ S => .ex C σ S
/-- xm: which class is caught by which -/
def cTry (xm : Addr → Addr → Option Bool) (C : Addr) (body suite : Sm) : Sm := fun σ S => match body σ S with
  | .ex C' σ1 S1 => match xm C' C with
    | some true => suite σ1 S1
    | some false => .ex C' σ1 S1
    | none => .bad
  | r => r
open Classical in
/-- one class is caught -/
noncomputable def xm1 (C : Addr) : Addr → Addr → Option Bool := fun a _ => if a = C then some true else none
section
variable {K : PySem.W.Frag} {N : Nms} {W : WX} {ι ι' : List Addr} {H H' : Hp} {σ : L2.St} {σa : Sl} {S : Sto} {X : Cx} {C : Addr}
theorem as_raise {x : Str} {e : Expr} {m : M D} {p pos pos2 : Pos} (hc : X.calm = true) (tk : Takes X W) (q : PySem.W.excIn X.K C [.type "ValueError", .type "Exception", .type "BaseException", .type "object"] "ValueError.__new__" = true) (gC : X.mg x = some (.ref C)) (kC : PySem.W.keepIn X.K (.ref C) = true) (r : Raises X (.ref C)) (hg : Gl X x)
    (he : AE K N W X e m) (hs : starEach [e] X.env = (false, eval e X.env) :: starEach [] X.env := by rfl) (hdb : (x == ("__debug__" : Str)) = false := by decide) : AS K N W X (.Raise (some (.Call (.Name x p) [e] [] pos)) none pos2) (cRaise C m) :=
  PS.imp (y_raise hc tk q gC kC r hg he hs hdb) fun σ H T ⟨ι, σa, S, hs, R, g⟩ => bindES hs R g fun ι1 H1 v d S1 f1 hs1 R1 r1 g1 => g1 ι1 H1 σ (Fut.refl _ _) hs1 R1
theorem as_try {x : Str} {body suite : List Stmt} {b₀ : Stmt} {np pos pos' : Pos} {xm : Addr → Addr → Option Bool} {cb cs : Sm} (hs : X.stack = X.env :: X.outer) (hf : X.env.frame = some X.env.locals) (hc : Names X x (.ref C)) (tk : Takes X W)
    (hx : ∀ C' b, xm C' C = some b → PySem.W.exmOne X.K (.ref C') (.ref C) = some b)
    (hb : ∀ (W : WX) (pn : List (Addr × Obj)) (xe : Value → Shared → Prop), Takes (X.tr pn xe) W → PassesOwn (model X.prog X.w) X.A X.env xe → ASs K N W (X.tr pn xe) body cb)
    (hsu : ∀ (a : Addr) (oe : Obj) (cls : Value) (d : Option Addr) (pn : List (Addr × Obj)), Zc cls d oe → (∃ vs, oe.data = .fields vs) → ASs K N noW (X.suite a ((a, oe) :: pn)) (b₀ :: suite) cs) :
    AS K N W X (.Try body [.ExceptHandler (some (.Name x np)) none (b₀ :: suite) pos'] [] [] pos) (cTry xm C cb (fun σ S => match cs σ S with | .ex _ _ _ => .bad | r => r)) :=
  PS.imp (y_tryO (tb := fun W => tsX K N W cb) (ts := fun _ _ _ => tsX K N noW cs) hs hf hc tk (fun W pn xe t p => hb W pn xe t p) (fun a oe cls d pn hz hf => hsu a oe cls d pn hz hf)) fun σ H T ⟨ι, σa, S, hs, R, g⟩ => by
    refine ⟨ι, σa, S, hs, R, ?_⟩
    unfold cTry at g
    cases e : cb σa S with
    | ex C' σ1 S1 =>
      rw [e] at g
      simp only at g
      intro ι1 H1 σv f1 hs1 R1
      cases ex : xm C' C with
      | none => rw [ex] at g; exact g.elim
      | some b =>
        rw [ex] at g
        refine ⟨b, hx C' b ex, fun hb a ha => ?_, fun hb => ?_⟩
        · subst hb
          refine ⟨ι1, σ1, S1, hs1, R1, ?_⟩
          simp only at g
          cases es : cs σ1 S1 with
          | ex C2 σ2 S2 =>
            rw [es] at g
            exact g.elim
          | nx σ2 S2 => rw [es] at g; exact goodS.fut (r := .nx σ2 S2) g f1
          | rt d2 S2 => rw [es] at g; exact goodS.fut (r := .rt d2 S2) g f1
          | bk σ2 S2 => rw [es] at g; exact goodS.fut (r := .bk σ2 S2) g f1
          | ct σ2 S2 => rw [es] at g; exact goodS.fut (r := .ct σ2 S2) g f1
          | bad => rw [es] at g; exact g.elim
        · subst hb
          exact g ι1 H1 σv f1 hs1 R1
    | nx σ1 S1 => rw [e] at g; exact g
    | rt d1 S1 => rw [e] at g; exact g
    | bk σ1 S1 => rw [e] at g; exact g
    | ct σ1 S1 => rw [e] at g; exact g
    | bad => rw [e] at g; exact g
/-- except x as n: return (text, isinstance(n, M)) -/
theorem as_tryIs {x n y : Str} {z : Str} {body : List Stmt} {np pos pos' rp tp zp ip fp ap mp : Pos} {j k i : Nat} {M : Addr} {bm : Bool} {cb : Sm} (hs : X.stack = X.env :: X.outer) (hf : X.env.frame = some X.env.locals) (hN : X.N.Nodup) (hi : X.N[i]? = some n) (hln : X.env.kindOf n = some .local)
    (hc : Names X x (.ref C)) (tk : Takes X W) (hE : ExcC X.K C) (hM : X.mg y = some (.ref M)) (gM : Gl X y) (hk : PySem.W.kitOne X.K (.ref C) (.ref M) = some bm) (gI : Gl X "isinstance") (zI : X.mg "isinstance" = none)
    (hxC : PySem.W.exmOne X.K (.ref C) (.ref C) = some true)
    (hb : ∀ (W : WX) (pn : List (Addr × Obj)) (xe : Value → Shared → Prop), Takes (X.tr pn xe) W → PassesOwn (model X.prog X.w) X.A X.env xe → ASs K N W (X.tr pn xe) body cb)
    (hsu : ∀ (a : Addr) (oe : Obj) (cls : Value) (d : Option Addr) (pn : List (Addr × Obj)), Zc cls d oe → (∃ vs, oe.data = .fields vs) → PSs (X.suite a ((a, oe) :: pn)) [.Return (some (.Tuple [.Constant (.str z) j zp, .Call (.Name "isinstance" ip) [.Name n fp, .Name y ap] [] mp] k tp)) rp]
      (tRet (zTT (tCons (tC (.str z)) (tCons (tCB (zIsE X.K C a cls d) (tCons (tVar i) (tCons (tC (.ref M)) tNil))) tNil))))) :
    AS K N W X (.Try body [.ExceptHandler (some (.Name x np)) (some n) [.Return (some (.Tuple [.Constant (.str z) j zp, .Call (.Name "isinstance" ip) [.Name n fp, .Name y ap] [] mp] k tp)) rp] pos'] [] [] pos)
      (cTry (xm1 C) C cb (fun σ S => if i < σ.length then .rt (.tup [.str z, .bl bm]) S else .bad)) :=
  PS.imp (y_tryA (tb := fun W => tsX K N W cb) hs hf hN hi hln hc tk (fun W pn xe t p => hb W pn xe t p) hsu) fun σ H T ⟨ι, σa, S, hs, R, g⟩ => by
    refine ⟨ι, σa, S, hs, R, ?_⟩
    unfold cTry at g
    cases e : cb σa S with
    | ex C' σ1 S1 =>
      rw [e] at g
      simp only at g
      intro ι1 H1 σv f1 hs1 R1
      unfold xm1 at g
      by_cases hC : C' = C
      · subst hC
        rw [if_pos rfl] at g
        refine ⟨true, hxC, fun _ a ha => ?_, fun h => by cases h⟩
        simp only at g
        by_cases hi3 : i < σ1.length
        case neg =>
          rw [if_neg hi3] at g
          exact g.elim
        rw [if_pos hi3] at g
        have hi2 : i < σv.length := by rw [hs1.1]; exact hi3
        refine ⟨_, ?_, rfl, rfl, .ref M, .ref M, bm, rfl, fun u hu => hu, hk, ?_⟩
        · exact List.getElem?_set_self hi2
        · refine ⟨by show 2 ≤ sizeLine; decide, fun p o hp ho => ?_⟩
          exact g ι1 _ _ (f1.trans (fut_upd0 hp)) (R1.grow hp) ⟨p, _, rfl, .inl ⟨o, ho, upd_same⟩, RepL.cons rfl (RepL.cons rfl RepL.nil)⟩
      · rw [if_neg hC] at g
        exact g.elim
    | nx σ1 S1 => rw [e] at g; exact g
    | rt d1 S1 => rw [e] at g; exact g
    | bk σ1 S1 => rw [e] at g; exact g
    | ct σ1 S1 => rw [e] at g; exact g
    | bad => rw [e] at g; exact g
end
/-! ### what steps do to a content: a step is a byte, or -1 for a clearing -/
def aft1 (c : List Int) (z : Int) : List Int := if z = -1 then [] else c ++ [z]
def aft (c q : List Int) : List Int := q.foldl aft1 c
theorem aft_snoc (c q : List Int) (z : Int) : aft c (q ++ [z]) = aft1 (aft c q) z := by
  unfold aft
  rw [List.foldl_append]
  rfl
theorem aft_len : ∀ (q c : List Int), (aft c q).length ≤ c.length + q.length
  | [], c => Nat.le_refl _
  | z :: q, c => by
    have h := aft_len q (aft1 c z)
    show (aft (aft1 c z) q).length ≤ _
    have h2 : (aft1 c z).length ≤ c.length + 1 := by
      unfold aft1
      split
      · exact Nat.zero_le _
      · rw [List.length_append]
        exact Nat.le_refl _
    rw [List.length_cons]
    omega
def ByL (c : List Int) : Prop := ∀ z ∈ c, 0 ≤ z ∧ z ≤ 255
def StL (q : List Int) : Prop := ∀ z ∈ q, -1 ≤ z ∧ z ≤ 255
theorem aft_by : ∀ {q c : List Int}, ByL c → StL q → ByL (aft c q)
  | [], c, h, _ => h
  | z :: q, c, h, g => by
    refine aft_by (c := aft1 c z) (q := q) (fun y hy => ?_) (fun y hy => g y (List.mem_cons_of_mem _ hy))
    unfold aft1 at hy
    by_cases e : z = -1
    · rw [if_pos e] at hy
      cases hy
    · rw [if_neg e] at hy
      rcases List.mem_append.mp hy with hy | hy
      · exact h y hy
      · rw [List.mem_singleton.mp hy]
        have := g z List.mem_cons_self
        omega
/-! ### the two files -/
abbrev Fls := Nat → List Int × List Int
def upF (F : Fls) (f : Nat) (x : List Int × List Int) : Fls := fun j => if j = f then x else F j
def Sz (F : Fls) (n : Nat) : Prop := ∀ j, (F j).1.length + (F j).2.length ≤ n
def OkF (F : Fls) : Prop := ∀ j, ByL (F j).1 ∧ StL (F j).2
theorem upF_at (F : Fls) (f : Nat) (x : List Int × List Int) : upF F f x f = x := if_pos rfl
theorem upF_ne {F : Fls} {f j : Nat} {x : List Int × List Int} (h : j ≠ f) : upF F f x j = F j := if_neg h
theorem Sz.up {F : Fls} {f n m : Nat} {x : List Int × List Int} (h : Sz F n) (l : n ≤ m) (k : x.1.length + x.2.length ≤ m) : Sz (upF F f x) m := fun j => by
  by_cases e : j = f
  · rw [e, upF_at]
    exact k
  · rw [upF_ne e]
    exact Nat.le_trans (h j) l
theorem OkF.up {F : Fls} {f : Nat} {x : List Int × List Int} (h : OkF F) (a : ByL x.1) (b : StL x.2) : OkF (upF F f x) := fun j => by
  by_cases e : j = f
  · rw [e, upF_at]
    exact ⟨a, b⟩
  · rw [upF_ne e]
    exact h j
def pwV : Option Nat → V
  | none => .non
  | some n => .int n
def cntO (pw : Option Nat) (n : Nat) : Nat := match pw with
  | none => n
  | some k => min k n
theorem cntO_le (pw : Option Nat) (n : Nat) : cntO pw n ≤ n := by
  cases pw with
  | none => exact Nat.le_refl _
  | some k => exact Nat.min_le_right _ _
def stp (k : Nat) (bs : List Int) : List Int := if k = 0 then bs else [-1]
def durF (F : Fls) (f many : Nat) : Fls := upF F f (aft (F f).1 ((F f).2.take many), [])
def opF (k f : Nat) (bs : List Int) (F : Fls) (pw : Option Nat) : Fls :=
  if k = 2 then (if cntO pw 1 = 1 then upF F f (aft (F f).1 (F f).2, []) else F) else upF F f ((F f).1, (F f).2 ++ (stp k bs).take (cntO pw (stp k bs).length))
def spP (pw : Option Nat) (n : Nat) : Option Nat := pw.map (· - cntO pw n)
def opB (k : Nat) (bs : List Int) (pw : Option Nat) : Bool := decide (cntO pw (stp k bs).length = (stp k bs).length)
/-! ### what a change leaves -/
def Chg (o : List Addr) (H H' : Hp) : Prop := ∀ a ob, a ∉ o → H a = some ob → H' a = some ob
theorem Chg.refl (o : List Addr) (H : Hp) : Chg o H H := fun _ _ _ h => h
theorem Chg.same {o : List Addr} {H H' : Hp} (s : Same H H') : Chg o H H' := fun a ob _ h => s a ob h
theorem Chg.trans {o o' : List Addr} {H H1 H2 : Hp} (a : Chg o H H1) (b : Chg o' H1 H2) (s : ∀ x ∈ o', x ∈ o ∨ H x = none) : Chg o H H2 := fun x ob n h => b x ob (fun m => by
  rcases s x m with q | q
  · exact n q
  · rw [q] at h
    cases h) (a x ob n h)
theorem Chg.put {o : List Addr} {H H1 : Hp} {p : Addr} {u : HO} (a : Chg o H H1) (s : p ∈ o ∨ H p = none) : Chg o H (upd H1 p u) := fun x ob n h => by
  rw [upd_ne fun e => ?_]
  · exact a x ob n h
  · subst e
    rcases s with q | q
    · exact n q
    · rw [q] at h
      cases h
/-! ### a disk -/
theorem n_ds : ¬ (("_durable" : Str) = "_steps") := by decide +kernel
theorem n_dp : ¬ (("_durable" : Str) = "_power") := by decide +kernel
theorem n_sp : ¬ (("_steps" : Str) = "_power") := by decide +kernel
def kfl (d s : Addr) (pw : V) : List (Str × V) := putF "_power" pw (putF "_steps" (.ref s) (putF "_durable" (.ref d) []))
theorem kfl_d (d s : Addr) (pw : V) : (kfl d s pw).lookup ("_durable" : Str) = some (.ref d) := by
  unfold kfl
  rw [lookup_putF, if_neg n_dp, lookup_putF, if_neg n_ds, lookup_putF, if_pos rfl]
theorem kfl_s (d s : Addr) (pw : V) : (kfl d s pw).lookup ("_steps" : Str) = some (.ref s) := by
  unfold kfl
  rw [lookup_putF, if_neg n_sp, lookup_putF, if_pos rfl]
theorem kfl_p (d s : Addr) (pw : V) : (kfl d s pw).lookup ("_power" : Str) = some pw := by
  unfold kfl
  rw [lookup_putF, if_pos rfl]
theorem kfl_no (d s : Addr) (pw : V) {m : Str} (h1 : ¬ m = "_power") (h2 : ¬ m = "_steps") (h3 : ¬ m = "_durable") : (kfl d s pw).lookup m = none := by
  unfold kfl
  rw [lookup_putF, if_neg h1, lookup_putF, if_neg h2, lookup_putF, if_neg h3]
  rfl
theorem kfl_eq (d s : Addr) (pw : V) : kfl d s pw = ([("_durable", V.ref d), ("_steps", V.ref s), ("_power", pw)] : List (Str × V)) := by
  unfold kfl
  show putF "_power" pw (if ("_durable" : Str) = "_steps" then _ else ("_durable", V.ref d) :: [("_steps", V.ref s)]) = _
  rw [if_neg n_ds]
  show (if ("_durable" : Str) = "_power" then _ else (("_durable" : Str), V.ref d) :: (if ("_steps" : Str) = "_power" then _ else ("_steps", V.ref s) :: [("_power", pw)])) = _
  rw [if_neg n_dp, if_neg n_sp]
theorem kfl_put (d s : Addr) (pw y : V) : putF "_power" y (kfl d s pw) = kfl d s y := by
  rw [kfl_eq, kfl_eq]
  show (if ("_durable" : Str) = "_power" then _ else (("_durable" : Str), V.ref d) :: (if ("_steps" : Str) = "_power" then _ else ("_steps", V.ref s) :: (if ("_power" : Str) = "_power" then [(("_power" : Str), y)] else _))) = _
  rw [if_neg n_dp, if_neg n_sp, if_pos rfl]
theorem kfl_len (d s : Addr) (pw : V) : (kfl d s pw).length < 1000 := by
  rw [kfl_eq]
  exact (by decide : 3 < 1000)
structure Dk0 (C : Addr) (H : Hp) (p dx d s a0 a1 b0 b1 : Addr) (F : Fls) (pw : Option Nat) : Prop where
  ep : H p = some (.ins C dx (kfl d s (pwV pw)))
  ed : H d = some (.lst [.ref a0, .ref a1])
  es : H s = some (.lst [.ref b0, .ref b1])
  e0 : H a0 = some (.lst ((F 0).1.map V.int))
  e1 : H a1 = some (.lst ((F 1).1.map V.int))
  g0 : H b0 = some (.lst ((F 0).2.map V.int))
  g1 : H b1 = some (.lst ((F 1).2.map V.int))
def Dk (C : Addr) (H : Hp) (p : Addr) (o : List Addr) (F : Fls) (pw : Option Nat) : Prop := ∃ dx d s a0 a1 b0 b1, o = [p, d, s, a0, a1, b0, b1] ∧ [d, s, a0, a1, b0, b1].Nodup ∧ Dk0 C H p dx d s a0 a1 b0 b1 F pw
theorem Dk.alive {C : Addr} {H : Hp} {p : Addr} {o : List Addr} {F : Fls} {pw : Option Nat} (h : Dk C H p o F pw) : ∀ x ∈ o, ∃ u, H x = some u ∧ ∀ b xs, u ≠ .frz b (.tup xs) := by
  obtain ⟨dx, d, s, a0, a1, b0, b1, rfl, _, k⟩ := h
  intro x hx
  simp only [List.mem_cons, List.not_mem_nil, or_false] at hx
  rcases hx with rfl | rfl | rfl | rfl | rfl | rfl | rfl
  · exact ⟨_, k.ep, fun b xs e => by cases e⟩
  · exact ⟨_, k.ed, fun b xs e => by cases e⟩
  · exact ⟨_, k.es, fun b xs e => by cases e⟩
  · exact ⟨_, k.e0, fun b xs e => by cases e⟩
  · exact ⟨_, k.e1, fun b xs e => by cases e⟩
  · exact ⟨_, k.g0, fun b xs e => by cases e⟩
  · exact ⟨_, k.g1, fun b xs e => by cases e⟩
theorem Dk.keep {C : Addr} {H H1 : Hp} {p : Addr} {o : List Addr} {F : Fls} {pw : Option Nat} (h : Dk C H p o F pw) (k : ∀ x ∈ o, ∀ u, H x = some u → H1 x = some u) : Dk C H1 p o F pw := by
  obtain ⟨dx, d, s, a0, a1, b0, b1, rfl, nd, q⟩ := h
  exact ⟨dx, d, s, a0, a1, b0, b1, rfl, nd, k p (by simp) _ q.ep, k d (by simp) _ q.ed, k s (by simp) _ q.es, k a0 (by simp) _ q.e0, k a1 (by simp) _ q.e1, k b0 (by simp) _ q.g0, k b1 (by simp) _ q.g1⟩
theorem Dk.same {C : Addr} {H H1 : Hp} {p : Addr} {o : List Addr} {F : Fls} {pw : Option Nat} (h : Dk C H p o F pw) (s : Same H H1) : Dk C H1 p o F pw := h.keep fun x _ u e => s x u e
theorem nd6 {d s a0 a1 b0 b1 : Addr} (h : [d, s, a0, a1, b0, b1].Nodup) : (d ≠ s ∧ d ≠ a0 ∧ d ≠ a1 ∧ d ≠ b0 ∧ d ≠ b1) ∧ (s ≠ a0 ∧ s ≠ a1 ∧ s ≠ b0 ∧ s ≠ b1) ∧ (a0 ≠ a1 ∧ a0 ≠ b0 ∧ a0 ≠ b1) ∧ (a1 ≠ b0 ∧ a1 ≠ b1) ∧ b0 ≠ b1 := by
  simp only [List.nodup_cons, List.mem_cons, List.not_mem_nil, or_false, not_or] at h
  exact ⟨h.1, h.2.1, h.2.2.1, h.2.2.2.1, h.2.2.2.2.1⟩
theorem nd6_mk {d s a0 a1 b0 b1 : Addr} (h : (d ≠ s ∧ d ≠ a0 ∧ d ≠ a1 ∧ d ≠ b0 ∧ d ≠ b1) ∧ (s ≠ a0 ∧ s ≠ a1 ∧ s ≠ b0 ∧ s ≠ b1) ∧ (a0 ≠ a1 ∧ a0 ≠ b0 ∧ a0 ≠ b1) ∧ (a1 ≠ b0 ∧ a1 ≠ b1) ∧ b0 ≠ b1) : [d, s, a0, a1, b0, b1].Nodup := by
  obtain ⟨⟨h1, h2, h3, h4, h5⟩, ⟨h6, h7, h8, h9⟩, ⟨h10, h11, h12⟩, ⟨h13, h14⟩, h15⟩ := h
  simp [h1, h2, h3, h4, h5, h6, h7, h8, h9, h10, h11, h12, h13, h14, h15]
theorem Chg.then {o : List Addr} {H H1 H2 : Hp} (a : Chg o H H1) (s : Same H1 H2) : Chg o H H2 := fun x ob n h => s x ob (a x ob n h)
theorem free_upd {H : Hp} {d n : Addr} {u : HO} (h : (upd H d u) n = none) : H n = none ∧ n ≠ d := by
  by_cases e : n = d
  · rw [e, upd_same] at h
    cases h
  · rw [upd_ne e] at h
    exact ⟨h, e⟩
theorem ins_lst {H : Hp} {p x C dx : Addr} {fs : List (Str × V)} {xs : List V} (h : H p = some (.ins C dx fs)) (g : H x = some (.lst xs)) : p ≠ x := ne_of h g (by intro z; cases z)
/-! ### the law's own model of a disk -/
def lv (z : Int) : V := if z = -1 then .non else .int z
theorem lv_by {bs : List Int} (h : ByL bs) : bs.map V.int = bs.map lv := List.map_congr_left fun z hz => by
  have := h z hz
  unfold lv
  rw [if_neg (by omega)]
structure Md0 (H : Hp) (m fl t0 t1 u0 w0 u1 w1 : Addr) (F : Fls) (pw : Option Nat) : Prop where
  em : H m = some (.lst [.ref fl, pwV pw])
  ef : H fl = some (.lst [.ref t0, .ref t1])
  k0 : Tk H t0 [.ref u0, .ref w0]
  k1 : Tk H t1 [.ref u1, .ref w1]
  e0 : H u0 = some (.lst ((F 0).1.map V.int))
  g0 : H w0 = some (.lst ((F 0).2.map lv))
  e1 : H u1 = some (.lst ((F 1).1.map V.int))
  g1 : H w1 = some (.lst ((F 1).2.map lv))
def Md (H : Hp) (m : Addr) (o : List Addr) (F : Fls) (pw : Option Nat) : Prop := ∃ fl t0 t1 u0 w0 u1 w1, o = [m, fl, t0, t1, u0, w0, u1, w1] ∧ (m ≠ fl ∧ (u0 ≠ m ∧ u0 ≠ fl) ∧ (w0 ≠ m ∧ w0 ≠ fl) ∧ (u1 ≠ m ∧ u1 ≠ fl) ∧ (w1 ≠ m ∧ w1 ≠ fl)) ∧ Md0 H m fl t0 t1 u0 w0 u1 w1 F pw
theorem Tk.al {H : Hp} {p : Addr} {xs : List V} (h : Tk H p xs) : ∃ u, H p = some u := let ⟨_, _, e⟩ := h; ⟨_, e⟩
theorem Tk.keep {H H1 : Hp} {p : Addr} {xs : List V} (h : Tk H p xs) (k : ∀ u, H p = some u → H1 p = some u) : Tk H1 p xs := let ⟨o, d, e⟩ := h; ⟨o, d, k _ e⟩
theorem Md.alive {H : Hp} {m : Addr} {o : List Addr} {F : Fls} {pw : Option Nat} (h : Md H m o F pw) : ∀ x ∈ o, ∃ u, H x = some u := by
  obtain ⟨fl, t0, t1, u0, w0, u1, w1, rfl, _, k⟩ := h
  intro x hx
  simp only [List.mem_cons, List.not_mem_nil, or_false] at hx
  rcases hx with rfl | rfl | rfl | rfl | rfl | rfl | rfl | rfl
  · exact ⟨_, k.em⟩
  · exact ⟨_, k.ef⟩
  · exact k.k0.al
  · exact k.k1.al
  · exact ⟨_, k.e0⟩
  · exact ⟨_, k.g0⟩
  · exact ⟨_, k.e1⟩
  · exact ⟨_, k.g1⟩
theorem Md.keep {H H1 : Hp} {m : Addr} {o : List Addr} {F : Fls} {pw : Option Nat} (h : Md H m o F pw) (k : ∀ x ∈ o, ∀ u, H x = some u → H1 x = some u) : Md H1 m o F pw := by
  obtain ⟨fl, t0, t1, u0, w0, u1, w1, rfl, n, q⟩ := h
  exact ⟨fl, t0, t1, u0, w0, u1, w1, rfl, n, k m (by simp) _ q.em, k fl (by simp) _ q.ef, q.k0.keep (k t0 (by simp)), q.k1.keep (k t1 (by simp)), k u0 (by simp) _ q.e0, k w0 (by simp) _ q.g0, k u1 (by simp) _ q.e1, k w1 (by simp) _ q.g1⟩
theorem Md.same {H H1 : Hp} {m : Addr} {o : List Addr} {F : Fls} {pw : Option Nat} (h : Md H m o F pw) (s : Same H H1) : Md H1 m o F pw := h.keep fun x _ u e => s x u e
theorem Md.pow {H : Hp} {m : Addr} {o : List Addr} {F : Fls} {pw : Option Nat} (h : Md H m o F pw) : ∃ fl, H m = some (.lst [.ref fl, pwV pw]) ∧ ∀ pw', Md (upd H m (.lst [.ref fl, pwV pw'])) m o F pw' ∧ Chg o H (upd H m (.lst [.ref fl, pwV pw'])) := by
  obtain ⟨fl, t0, t1, u0, w0, u1, w1, rfl, n, q⟩ := h
  obtain ⟨n1, ⟨n2, n3⟩, ⟨n4, n5⟩, ⟨n6, n7⟩, n8, n9⟩ := id n
  refine ⟨fl, q.em, fun pw' => ⟨⟨fl, t0, t1, u0, w0, u1, w1, rfl, n, upd_same, (upd_ne n1.symm).trans q.ef, q.k0.put q.em, q.k1.put q.em, (upd_ne n2).trans q.e0, (upd_ne n4).trans q.g0, (upd_ne n6).trans q.e1, (upd_ne n8).trans q.g1⟩, Chg.put (Chg.refl _ _) (.inl (by simp))⟩⟩
theorem Tk.nl {H : Hp} {p l : Addr} {xs zs : List V} (t : Tk H p xs) (e : H l = some (.lst zs)) : p ≠ l := fun z => by
  obtain ⟨o, d, q⟩ := t
  rw [z, e] at q
  cases q
theorem Md.set {H : Hp} {m : Addr} {o : List Addr} {F : Fls} {pw : Option Nat} {f : Nat} (h : Md H m o F pw) (hf : f < 2) : ∃ fl t xs u w, H m = some (.lst [.ref fl, pwV pw]) ∧ H fl = some (.lst xs) ∧ atI xs (f : Int) = some (.ref t) ∧ ixN xs.length (f : Int) = some f ∧
    Tk H t [.ref u, .ref w] ∧ H u = some (.lst ((F f).1.map V.int)) ∧ H w = some (.lst ((F f).2.map lv)) ∧ (u ∈ o ∧ u ≠ m ∧ u ≠ fl) ∧
    ∀ H1 t' u' w' c q, Same H H1 → Tk H1 t' [.ref u', .ref w'] → H1 u' = some (.lst (c.map V.int)) → H1 w' = some (.lst (q.map lv)) → H t' = none → ((u' ∈ o ∨ H u' = none) ∧ u' ≠ m ∧ u' ≠ fl) → H w' = none →
      ∃ o', Md (upd H1 fl (.lst (xs.set f (.ref t')))) m o' (upF F f (c, q)) pw ∧ (∀ x ∈ o', x ∈ o ∨ H x = none) ∧ Chg o H (upd H1 fl (.lst (xs.set f (.ref t')))) := by
  obtain ⟨fl, t0, t1, u0, w0, u1, w1, rfl, n, q⟩ := h
  obtain ⟨n1, ⟨n2, n3⟩, ⟨n4, n5⟩, ⟨n6, n7⟩, n8, n9⟩ := id n
  obtain rfl | rfl : f = 0 ∨ f = 1 := by omega
  · refine ⟨fl, t0, _, u0, w0, q.em, q.ef, rfl, rfl, q.k0, q.e0, q.g0, ⟨by simp, n2, n3⟩, fun H1 t' u' w' c p s tk eu ew nt hu nw => ?_⟩
    obtain ⟨hu1, hu2, hu3⟩ := hu
    have wm : w' ≠ m := (ne_of_none q.em nw).symm
    have wf : w' ≠ fl := (ne_of_none q.ef nw).symm
    have ef1 := s _ _ q.ef
    refine ⟨[m, fl, t', t1, u', w', u1, w1], ⟨fl, t', t1, u', w', u1, w1, rfl, ⟨n1, ⟨hu2, hu3⟩, ⟨wm, wf⟩, ⟨n6, n7⟩, n8, n9⟩, ⟨(upd_ne n1).trans (s _ _ q.em), upd_same, tk.put ef1, (q.k1.same s).put ef1, ?_, ?_, ?_, ?_⟩⟩, fun x hx => ?_, Chg.put (Chg.same s) (.inl (by simp))⟩
    · rw [upF_at]
      exact (upd_ne hu3).trans eu
    · rw [upF_at]
      exact (upd_ne wf).trans ew
    · exact (upd_ne n7).trans (s _ _ q.e1)
    · exact (upd_ne n9).trans (s _ _ q.g1)
    · simp only [List.mem_cons, List.not_mem_nil, or_false] at hx
      rcases hx with rfl | rfl | rfl | rfl | rfl | rfl | rfl | rfl
      all_goals first
        | exact .inr nt
        | exact .inr nw
        | exact hu1
        | exact .inl (by simp)
  · refine ⟨fl, t1, _, u1, w1, q.em, q.ef, rfl, rfl, q.k1, q.e1, q.g1, ⟨by simp, n6, n7⟩, fun H1 t' u' w' c p s tk eu ew nt hu nw => ?_⟩
    obtain ⟨hu1, hu2, hu3⟩ := hu
    have wm : w' ≠ m := (ne_of_none q.em nw).symm
    have wf : w' ≠ fl := (ne_of_none q.ef nw).symm
    have ef1 := s _ _ q.ef
    refine ⟨[m, fl, t0, t', u0, w0, u', w'], ⟨fl, t0, t', u0, w0, u', w', rfl, ⟨n1, ⟨n2, n3⟩, ⟨n4, n5⟩, ⟨hu2, hu3⟩, wm, wf⟩, ⟨(upd_ne n1).trans (s _ _ q.em), upd_same, (q.k0.same s).put ef1, tk.put ef1, ?_, ?_, ?_, ?_⟩⟩, fun x hx => ?_, Chg.put (Chg.same s) (.inl (by simp))⟩
    · exact (upd_ne n3).trans (s _ _ q.e0)
    · exact (upd_ne n5).trans (s _ _ q.g0)
    · rw [upF_at]
      exact (upd_ne hu3).trans eu
    · rw [upF_at]
      exact (upd_ne wf).trans ew
    · simp only [List.mem_cons, List.not_mem_nil, or_false] at hx
      rcases hx with rfl | rfl | rfl | rfl | rfl | rfl | rfl | rfl
      all_goals first
        | exact .inr nt
        | exact .inr nw
        | exact hu1
        | exact .inl (by simp)
theorem SqT.put {K : PySem.W.Frag} {H : Hp} {p l : Addr} {xs zs : List V} {o : HO} (t : SqT K H p xs) (e : H l = some (.lst zs)) : SqT K (upd H l o) p xs := by
  rcases t with (h | ⟨b, h⟩) | h
  · refine .inl (.inl ?_)
    rw [upd_ne fun z => ?_]
    · exact h
    · rw [z, e] at h
      cases h
  · refine .inl (.inr ⟨b, ?_⟩)
    rw [upd_ne fun z => ?_]
    · exact h
    · rw [z, e] at h
      cases h
  · exact .inr h
theorem DpAll.ints {K : PySem.W.Frag} {H : Hp} : ∀ c : List Int, DpAll K H (c.map V.int) (c.map PyData.int)
  | [] => .nil
  | x :: c => .cons (.int x) (DpAll.ints c)
theorem sh_ints (c : List Int) : Sh 1 (.list (c.map PyData.int)) := Sh.list fun d hd => by
  obtain ⟨x, _, rfl⟩ := List.mem_map.mp hd
  exact Sh.int x
theorem rd_neInts {K : PySem.W.Frag} {H : Hp} {Q : VK} {a b : Addr} {c : List Int} (h1 : SqL K H a (c.map V.int)) (h2 : SqL K H b (c.map V.int)) (h : Q (.bl false) H) : rNeD K (.ref a) (.ref b) H Q :=
  rd_neSame (.lst h1 (DpAll.ints c)) (.lst h2 (DpAll.ints c)) (sh_ints c).shaped (sh_ints c).refl h
theorem rd_slTfrom1 {K : PySem.W.Frag} {H : Hp} {Q : VK} {a : Addr} {x y z : V} (c : SqT K H a [x, y, z]) (h : ∀ p, H p = none → Q (.ref p) (upd H p (.tup [y, z]))) : rSlT K (.ref a) (some 1) none H Q :=
  ⟨a, [x, y, z], rfl, c, (fun w => by
    have := w.1
    cases this), (fun p n => h p n)⟩
theorem rd_catT {K : PySem.W.Frag} {H : Hp} {Q : VK} {a b : Addr} {x y z : V} (c : SqT K H a [x]) (d : SqT K H b [y, z]) (h : ∀ p, H p = none → Q (.ref p) (upd H p (.tup [x, y, z]))) : rCatT K (.ref a) (.ref b) H Q :=
  ⟨a, b, [x], [y, z], rfl, rfl, c, d, List.cons_ne_nil _ _, line_of (Nat.le_of_ble_eq_true rfl), (fun e => by cases e), (fun _ p n => h p n)⟩
/-! ### operators by values -/
noncomputable def dI2 (C : Int → Int → Prop) (f : Int → Int → D) : Op2 := fun x y S => match x, y with
  | .int i, .int j => gd (C i j) (some (f i j, S))
  | _, _ => none
def dI0 (f : Int → Int → D) : Op2 := fun x y S => match x, y with
  | .int i, .int j => some (f i j, S)
  | _, _ => none
def dU (f : Int → D) : Op1 := fun x S => match x with
  | .int i => some (f i, S)
  | _ => none
noncomputable def dS2 (C : Str → Str → Prop) (f : Str → Str → D) : Op2 := fun x y S => match x, y with
  | .str i, .str j => gd (C i j) (some (f i j, S))
  | _, _ => none
section
variable {K : PySem.W.Frag} {N : Nms} {W : WX} {ι ι' : List Addr} {H H' : Hp} {σ : L2.St} {σa : Sl} {S : Sto} {X : Cx}
theorem R2.i {C : Int → Int → Prop} {g : Int → Int → V} {f : Int → Int → D} (h : ∀ i j ι H, RepV K ι H (f i j) (g i j)) : R2ok K N (rI C g) (dI2 C f) := fun ι H S x y v u Q R rx ry g => by
  cases x with
  | int i =>
    cases y with
    | int j =>
      cases e : dI2 C f (.int i) (.int j) S with
      | none => rw [e] at g; exact g.elim
      | some p =>
        obtain ⟨h1, h2⟩ := gd_some e
        rw [e, ← h2] at g
        exact ⟨i, j, rx, ry, h1, goodO.at g R (h i j ι H)⟩
    | _ => exact g.elim
  | _ => exact g.elim
theorem R2.i0 {g : Int → Int → V} {f : Int → Int → D} (h : ∀ i j ι H, RepV K ι H (f i j) (g i j)) : R2ok K N (rI0 g) (dI0 f) := fun ι H S x y v u Q R rx ry g => by
  cases x with
  | int i =>
    cases y with
    | int j => exact ⟨i, j, rx, ry, goodO.at g R (h i j ι H)⟩
    | _ => exact g.elim
  | _ => exact g.elim
theorem R1.u {g : Int → V} {f : Int → D} (h : ∀ i ι H, RepV K ι H (f i) (g i)) : R1ok K N (rU g) (dU f) := fun ι H S x v Q R rx g => by
  cases x with
  | int i => exact ⟨i, rx, goodO.at g R (h i ι H)⟩
  | _ => exact g.elim
def dAdd : Op2 := dI0 fun i j => .int (i + j)
def dSub : Op2 := dI0 fun i j => .int (i - j)
noncomputable def dMul : Op2 := dI2 CMul fun i j => .int (i * j)
noncomputable def dFdiv : Op2 := dI2 CDivN fun i j => .int (i.fdiv j)
noncomputable def dMod : Op2 := dI2 (fun _ j => 0 < j) fun i j => .int (i % j)
noncomputable def dPow : Op2 := dI2 CPow fun i j => .int (i ^ j.toNat)
def dAnd : Op2 := dI0 fun i j => .int (Builtin.bitAnd i j)
noncomputable def dShl : Op2 := dI2 CPow fun i j => .int (i * 2 ^ j.toNat)
noncomputable def dShr : Op2 := dI2 (fun _ j => 0 ≤ j) fun i j => .int (i / 2 ^ j.toNat)
def dNeg : Op1 := dU fun i => .int (-i)
def dInv : Op1 := dU fun i => .int (Builtin.bitNot i)
def dLt : Op2 := dI0 fun i j => .bl (decide (i < j))
def dLe : Op2 := dI0 fun i j => .bl (decide (i ≤ j))
def dGt : Op2 := dI0 fun i j => .bl (decide (j < i))
def dGe : Op2 := dI0 fun i j => .bl (decide (j ≤ i))
variable {a b c : Expr} {ma mb mc : M D} {pos : Pos}
theorem ae_add (ha : AE K N W X a ma) (hb : AE K N W X b mb) : AE K N W X (.BinOp a .Add b pos) (e2 dAdd ma mb) := ae_op op_add (R2.i0 fun _ _ _ _ => rfl) ha hb
theorem ae_sub (ha : AE K N W X a ma) (hb : AE K N W X b mb) : AE K N W X (.BinOp a .Sub b pos) (e2 dSub ma mb) := ae_op op_sub (R2.i0 fun _ _ _ _ => rfl) ha hb
theorem ae_mul (ha : AE K N W X a ma) (hb : AE K N W X b mb) : AE K N W X (.BinOp a .Mult b pos) (e2 dMul ma mb) := ae_op op_mul (R2.i fun _ _ _ _ => rfl) ha hb
theorem ae_fdiv (ha : AE K N W X a ma) (hb : AE K N W X b mb) : AE K N W X (.BinOp a .FloorDiv b pos) (e2 dFdiv ma mb) := ae_op op_fdivN (R2.i fun _ _ _ _ => rfl) ha hb
theorem ae_mod (ha : AE K N W X a ma) (hb : AE K N W X b mb) : AE K N W X (.BinOp a .Mod b pos) (e2 dMod ma mb) := ae_op op_mod (R2.i fun _ _ _ _ => rfl) ha hb
theorem ae_pow (ha : AE K N W X a ma) (hb : AE K N W X b mb) : AE K N W X (.BinOp a .Pow b pos) (e2 dPow ma mb) := ae_op op_pow (R2.i fun _ _ _ _ => rfl) ha hb
theorem ae_band (ha : AE K N W X a ma) (hb : AE K N W X b mb) : AE K N W X (.BinOp a .BitAnd b pos) (e2 dAnd ma mb) := ae_op op_and (R2.i0 fun _ _ _ _ => rfl) ha hb
theorem ae_shl (ha : AE K N W X a ma) (hb : AE K N W X b mb) : AE K N W X (.BinOp a .LShift b pos) (e2 dShl ma mb) := ae_op op_shl (R2.i fun _ _ _ _ => rfl) ha hb
theorem ae_shr (ha : AE K N W X a ma) (hb : AE K N W X b mb) : AE K N W X (.BinOp a .RShift b pos) (e2 dShr ma mb) := ae_op op_shr (R2.i fun _ _ _ _ => rfl) ha hb
theorem ae_neg (ha : AE K N W X a ma) : AE K N W X (.UnaryOp .USub a pos) (e1 dNeg ma) := ae_un un_neg (R1.u fun _ _ _ => rfl) ha
theorem ae_inv (ha : AE K N W X a ma) : AE K N W X (.UnaryOp .Invert a pos) (e1 dInv ma) := ae_un un_inv (R1.u fun _ _ _ => rfl) ha
theorem k_lt : R2ok K N (rI0 fun i j => .bl (decide (i < j))) dLt := R2.i0 fun _ _ _ _ => rfl
theorem k_le : R2ok K N (rI0 fun i j => .bl (decide (i ≤ j))) dLe := R2.i0 fun _ _ _ _ => rfl
theorem k_gt : R2ok K N (rI0 fun i j => .bl (decide (j < i))) dGt := R2.i0 fun _ _ _ _ => rfl
theorem k_ge : R2ok K N (rI0 fun i j => .bl (decide (j ≤ i))) dGe := R2.i0 fun _ _ _ _ => rfl
/-- scalars of one kind -/
def dEqB : D → D → Option Bool
  | .int i, .int j => some (decide (i = j))
  | .str i, .str j => some (decide (i = j))
  | .bl i, .bl j => some (decide (i = j))
  | _, _ => none
def dEq : Op2 := fun x y S => (dEqB x y).map fun b => (.bl b, S)
def dNe : Op2 := fun x y S => (dEqB x y).map fun b => (.bl (!b), S)
theorem k_eq : R2ok K N rEq dEq := fun ι H S x y v u Q R rx ry g => by
  cases x with
  | int i =>
    cases y with
    | int j =>
      rw [show v = V.int i from rx, show u = V.int j from ry]
      exact rd_eqI (goodO.at g R rfl)
    | _ => exact g.elim
  | str i =>
    cases y with
    | str j =>
      rw [show v = V.str i from rx, show u = V.str j from ry]
      exact rd_eqS (goodO.at g R rfl)
    | _ => exact g.elim
  | bl i =>
    cases y with
    | bl j =>
      rw [show v = V.bl i from rx, show u = V.bl j from ry]
      exact rd_eqB (goodO.at g R rfl)
    | _ => exact g.elim
  | _ => exact g.elim
theorem k_ne : R2ok K N rNe dNe := fun ι H S x y v u Q R rx ry g => by
  cases x with
  | int i =>
    cases y with
    | int j =>
      rw [show v = V.int i from rx, show u = V.int j from ry]
      exact rd_neI (goodO.at g R rfl)
    | _ => exact g.elim
  | str i =>
    cases y with
    | str j =>
      rw [show v = V.str i from rx, show u = V.str j from ry]
      exact rd_neS (goodO.at g R rfl)
    | _ => exact g.elim
  | bl i =>
    cases y with
    | bl j =>
      rw [show v = V.bl i from rx, show u = V.bl j from ry]
      exact ⟨rfl, by
        rw [show decide (V.bl i = V.bl j) = decide (i = j) by simp only [V.bl.injEq]]
        exact goodO.at g R rfl⟩
    | _ => exact g.elim
  | _ => exact g.elim
/-- is None -/
def isNon : D → Bool
  | .non => true
  | _ => false
theorem isNon_of {d : D} {v : V} (r : RepV K ι H d v) : decide (v = .non) = isNon d := by
  cases d with
  | non => rw [show v = V.non from r]; rfl
  | bl _ => rw [show v = V.bl _ from r]; rfl
  | int _ => rw [show v = V.int _ from r]; rfl
  | str _ => rw [show v = V.str _ from r]; rfl
  | ty _ => rw [show v = V.ty _ from r]; rfl
  | scr _ => obtain ⟨a, rfl, _⟩ := r; rfl
  | ref _ => obtain ⟨a, _, rfl⟩ := r; rfl
  | tup _ => obtain ⟨a, _, rfl, _⟩ := r; rfl
def dIsN : Op2 := fun x y S => match y with
  | .non => some (.bl (isNon x), S)
  | _ => none
def dNotN : Op2 := fun x y S => match y with
  | .non => some (.bl (!isNon x), S)
  | _ => none
theorem k_isN : R2ok K N (zIsN false) dIsN := fun ι H S x y v u Q R rx ry g => by
  cases y with
  | non => exact ⟨ry, goodO.at g R (by show V.bl _ = V.bl _; rw [isNon_of rx]; rfl)⟩
  | _ => exact g.elim
theorem k_notN : R2ok K N (zIsN true) dNotN := fun ι H S x y v u Q R rx ry g => by
  cases y with
  | non => exact ⟨ry, goodO.at g R (by show V.bl _ = V.bl _; rw [isNon_of rx]; rfl)⟩
  | _ => exact g.elim
/-! texts -/
noncomputable def dAdS : Op2 := dS2 (fun i j => i.length + j.length ≤ sizeLine) fun i j => .str (i ++ j)
def dLtS : Op2 := fun x y S => match x, y with
  | .str i, .str j => some (.bl (decide (i.cps.toList < j.cps.toList)), S)
  | _, _ => none
theorem k_adS : R2ok K N zAdS dAdS := fun ι H S x y v u Q R rx ry g => by
  cases x with
  | str i =>
    cases y with
    | str j =>
      cases e : dAdS (.str i) (.str j) S with
      | none => rw [e] at g; exact g.elim
      | some p =>
        obtain ⟨h1, h2⟩ := gd_some e
        rw [e, ← h2] at g
        exact ⟨i, j, rx, ry, h1, goodO.at g R rfl⟩
    | _ => exact g.elim
  | _ => exact g.elim
theorem ae_adS (ha : AE K N W X a ma) (hb : AE K N W X b mb) : AE K N W X (.BinOp a .Add b pos) (e2 dAdS ma mb) := ae_op y_adS k_adS ha hb
def dIn1 : Op2 := fun x y S => match x, y with
  | .str i, .str z => match tl i with
    | [c] => some (.bl (decide (c ∈ tl z)), S)
    | _ => none
  | _, _ => none
theorem k_in1 : R2ok K N zIn1 dIn1 := fun ι H S x y v u Q R rx ry g => by
  cases x with
  | str i =>
    cases y with
    | str z =>
      unfold dIn1 at g
      simp only at g
      split at g
      · rename_i c e
        exact ⟨c, z, by rw [show v = V.str i from rx, show i = ⟨#[c]⟩ from ext_tl e], ry, goodO.at g R rfl⟩
      · exact g.elim
    | _ => exact g.elim
  | _ => exact g.elim
def dInS (neg : Bool) : Op2 := fun x y S => match x, y with
  | .str i, .str j => some (.bl (if neg then !(!(Builtin.Str.occurrences j i 0 j.length 1).isEmpty) else !(Builtin.Str.occurrences j i 0 j.length 1).isEmpty), S)
  | _, _ => none
theorem k_inS (neg : Bool) : R2ok K N (zInS neg) (dInS neg) := fun ι H S x y v u Q R rx ry g => by
  cases x with
  | str i =>
    cases y with
    | str j => exact ⟨i, j, rx, ry, goodO.at g R rfl⟩
    | _ => exact g.elim
  | _ => exact g.elim
/-! lists and tuples -/
/-- the items of a list or a tuple -/
def seqOf (d : D) (S : Sto) : Option (List D) := match d with
  | .tup ds => some ds
  | .ref n => match S[n]? with
    | some (.lst ds) => some ds
    | _ => none
  | .scr ns => some (ns.map .int)
  | _ => none
theorem RepL.ints : ∀ ns : List Int, RepL K ι H (ns.map .int) (ns.map V.int)
  | [] => rfl
  | n :: ns => RepL.cons rfl (RepL.ints ns)
theorem seqOf_ok {d : D} {v : V} {ds : List D} (R : Rep K N ι H S) (r : RepV K ι H d v) (e : seqOf d S = some ds) : ∃ p xs, v = .ref p ∧ (SqL K H p xs ∨ SqT K H p xs) ∧ RepL K ι H ds xs := by
  cases d with
  | tup es =>
    cases e
    obtain ⟨a, xs, rfl, t, rl⟩ := r
    exact ⟨a, xs, rfl, .inr t.seq, rl⟩
  | ref n =>
    unfold seqOf at e
    simp only at e
    cases es : S[n]? with
    | none => rw [es] at e; cases e
    | some o =>
      rw [es] at e
      cases o with
      | lst es2 =>
        cases e
        obtain ⟨a, xs, ea, q, rl⟩ := R.list es
        obtain ⟨b, eb, rfl⟩ := r
        rw [ea] at eb
        cases eb
        exact ⟨a, xs, rfl, .inl (SqL.of q), rl⟩
      | _ => cases e
  | scr ns =>
    cases e
    obtain ⟨a, rfl, t⟩ := r
    exact ⟨a, _, rfl, .inl t.seq, RepL.ints ns⟩
  | _ => cases e
/-- the script at a place -/
def dIxR : Op2 := fun x y S => match x, y with
  | .scr ns, .int i => (atI ns i).map fun d => (.int d, S)
  | _, _ => none
theorem atI_map {α β : Type} {f : α → β} {xs : List α} {i : Int} {d : α} (e : atI xs i = some d) : atI (xs.map f) i = some (f d) := by
  unfold atI at e ⊢
  rw [List.length_map]
  cases h : ixN xs.length i with
  | none => rw [h] at e; cases e
  | some j =>
    rw [h] at e
    show (xs.map f)[j]? = _
    rw [List.getElem?_map, show xs[j]? = some d from e]
    rfl
theorem k_ixR : R2ok K N (rIxL K) dIxR := fun ι H S x y v u Q R rx ry g => by
  cases x with
  | scr ns =>
    cases y with
    | int i =>
      unfold dIxR at g
      simp only at g
      cases ea : atI ns i with
      | none => rw [ea] at g; exact g.elim
      | some d =>
        rw [ea] at g
        obtain ⟨a, rfl, t⟩ := rx
        exact ⟨a, _, i, .int d, rfl, ry, t.seq, atI_map ea, goodO.at g R rfl⟩
    | _ => exact g.elim
  | _ => exact g.elim
/-- truth -/
noncomputable def dTru (d : D) (S : Sto) : Option Bool := match d with
  | .non => some false
  | .bl b => some b
  | .int i => some (i != 0)
  | .str y => gd (y.length ≤ sizeLine) (some ((y.length : Int) != 0))
  | d => (seqOf d S).map fun ds => !ds.isEmpty
noncomputable def bTru (m : M D) : M Bool := eBind m fun d _ S => match dTru d S with
  | some b => .ok b S
  | none => .bad
theorem isEmpty_rep {ds : List D} {xs : List V} (rl : RepL K ι H ds xs) : (!ds.isEmpty) = !xs.isEmpty := by
  have := rl.length
  cases ds <;> cases xs <;> simp at this ⊢
theorem at_truth {a : Expr} {ma : M D} (ha : AE K N W X a ma) (he : ∀ whole, isTrue a X.env whole = (do let v ← whole; standAt a.pos; holding [v] (truthy v))) (hK : X.K = K := by rfl) : AT K N W X a (bTru ma) := by
  subst hK
  refine PT.imp (pt_truth ha he) fun σ H Q ⟨ι, σa, S, hs, R, g⟩ => bindEB hs R g fun ι1 H1 v d S1 f1 hs1 R1 r1 g1 => ?_
  cases e : dTru d S1 with
  | none => simp only [e] at g1; exact g1.elim
  | some b =>
    simp only [e] at g1
    refine ⟨b, ?_, g1 ι1 H1 (Fut.refl _ _) R1⟩
    cases d with
    | non => cases e; rw [show v = V.non from r1]; rfl
    | bl k => rw [show v = V.bl k from r1]; exact (Option.some.inj e).symm
    | int i => rw [show v = V.int i from r1]; exact (Option.some.inj e).symm
    | str y =>
      obtain ⟨h1, h2⟩ := gd_some e
      cases h2
      rw [show v = V.str y from r1]
      exact ⟨h1, rfl⟩
    | ty _ => cases e
    | tup es =>
      unfold dTru at e
      simp only at e
      cases eq : seqOf (.tup es) S1 with
      | none => rw [eq] at e; cases e
      | some ds =>
        rw [eq] at e
        cases e
        obtain ⟨p, xs, rfl, hq, rl⟩ := seqOf_ok R1 r1 eq
        rcases hq with hq | hq
        · exact .inl ⟨xs, hq, isEmpty_rep rl⟩
        · exact .inr (.inl ⟨xs, hq, isEmpty_rep rl⟩)
    | ref n =>
      unfold dTru at e
      simp only at e
      cases eq : seqOf (.ref n) S1 with
      | none => rw [eq] at e; cases e
      | some ds =>
        rw [eq] at e
        cases e
        obtain ⟨p, xs, rfl, hq, rl⟩ := seqOf_ok R1 r1 eq
        rcases hq with hq | hq
        · exact .inl ⟨xs, hq, isEmpty_rep rl⟩
        · exact .inr (.inl ⟨xs, hq, isEmpty_rep rl⟩)
    | scr ns =>
      unfold dTru at e
      simp only at e
      cases eq : seqOf (.scr ns) S1 with
      | none => rw [eq] at e; cases e
      | some ds =>
        rw [eq] at e
        cases e
        obtain ⟨p, xs, rfl, hq, rl⟩ := seqOf_ok R1 r1 eq
        rcases hq with hq | hq
        · exact .inl ⟨xs, hq, isEmpty_rep rl⟩
        · exact .inr (.inl ⟨xs, hq, isEmpty_rep rl⟩)
def vOf : D → Option V
  | .non => some .non
  | .bl b => some (.bl b)
  | .int i => some (.int i)
  | .str x => some (.str x)
  | _ => none
def vsOf : List D → Option (List V)
  | [] => some []
  | d :: ds => (vOf d).bind fun v => (vsOf ds).map fun vs => v :: vs
theorem vOf_ok {d : D} {v w : V} (r : RepV K ι H d v) (e : vOf d = some w) : v = w ∧ flatV w = true := by
  cases d with
  | non => cases e; exact ⟨r, rfl⟩
  | bl _ => cases e; exact ⟨r, rfl⟩
  | int _ => cases e; exact ⟨r, rfl⟩
  | str _ => cases e; exact ⟨r, rfl⟩
  | _ => cases e
theorem vsOf_ok : ∀ {ds : List D} {vs ws : List V}, RepL K ι H ds vs → vsOf ds = some ws → vs = ws ∧ ws.all flatV = true
  | [], vs, ws, r, e => by cases e; exact ⟨r, rfl⟩
  | d :: ds, vs, ws, r, e => by
    obtain ⟨x, r', rfl, rx, rr⟩ := r
    unfold vsOf at e
    cases e1 : vOf d with
    | none => rw [e1] at e; cases e
    | some v =>
      cases e2 : vsOf ds with
      | none => rw [e1, e2] at e; cases e
      | some us =>
        rw [e1, e2] at e
        cases e
        obtain ⟨h1, h2⟩ := vOf_ok rx e1
        obtain ⟨h3, h4⟩ := vsOf_ok rr e2
        exact ⟨by rw [h1, h3], by rw [List.all_cons, h2, h4]; rfl⟩
def dIn (neg : Bool) : Op2 := fun x y S => (vOf x).bind fun v => (seqOf y S).bind fun ds => (vsOf ds).map fun vs => (.bl (if neg then !inV v vs else inV v vs), S)
theorem k_in (neg : Bool) : R2ok K N (rIn K neg) (dIn neg) := fun ι H S x y v u Q R rx ry g => by
  unfold dIn at g
  cases e1 : vOf x with
  | none => rw [e1] at g; exact g.elim
  | some w =>
    cases e2 : seqOf y S with
    | none => rw [e1, e2] at g; exact g.elim
    | some ds =>
      cases e3 : vsOf ds with
      | none => simp only [e1, e2, e3, Option.bind_some, Option.map_none] at g; exact g.elim
      | some ws =>
        simp only [e1, e2, e3, Option.bind_some, Option.map_some] at g
        obtain ⟨p, xs, rfl, hq, rl⟩ := seqOf_ok R ry e2
        obtain ⟨rfl, h1⟩ := vOf_ok rx e1
        obtain ⟨rfl, h2⟩ := vsOf_ok rl e3
        exact ⟨p, _, rfl, hq, h1, h2, goodO.at g R rfl⟩
/-- x[i] -/
def dIxL : Op2 := fun x y S => match x, y with
  | .ref n, .int i => match S[n]? with
    | some (.lst ds) => (atI ds i).map fun d => (d, S)
    | _ => none
  | _, _ => none
def dIxT : Op2 := fun x y S => match x, y with
  | .tup ds, .int i => (atI ds i).map fun d => (d, S)
  | _, _ => none
noncomputable def dIxS : Op2 := fun x y S => match x, y with
  | .str z, .int i => gd (z.length ≤ sizeLine) ((atI (tl z) i).map fun c => (.str ⟨#[c]⟩, S))
  | _, _ => none
theorem RepL.atI {ds : List D} {xs : List V} {i : Int} {d : D} (rl : RepL K ι H ds xs) (e : L2.atI ds i = some d) : ∃ v, L2.atI xs i = some v ∧ RepV K ι H d v := by
  unfold L2.atI at e ⊢
  rw [rl.length]
  cases h : ixN ds.length i with
  | none => rw [h] at e; cases e
  | some j =>
    rw [h] at e
    exact rl.get e
theorem k_ixL : R2ok K N (rIxL K) dIxL := fun ι H S x y v u Q R rx ry g => by
  cases x with
  | ref n =>
    cases y with
    | int i =>
      unfold dIxL at g
      simp only at g
      cases es : S[n]? with
      | none => rw [es] at g; exact g.elim
      | some o =>
        rw [es] at g
        cases o with
        | lst ds =>
          simp only at g
          cases ea : atI ds i with
          | none => rw [ea] at g; exact g.elim
          | some d =>
            rw [ea] at g
            obtain ⟨a, xs, ia, q, rl⟩ := R.list es
            obtain ⟨b, eb, rfl⟩ := rx
            rw [ia] at eb
            cases eb
            obtain ⟨w, ew, rw'⟩ := rl.atI ea
            exact ⟨a, xs, i, w, rfl, ry, SqL.of q, ew, goodO.at g R rw'⟩
        | _ => exact g.elim
    | _ => exact g.elim
  | _ => exact g.elim
theorem k_ixT : R2ok K N (rIxT K) dIxT := fun ι H S x y v u Q R rx ry g => by
  cases x with
  | tup ds =>
    cases y with
    | int i =>
      unfold dIxT at g
      simp only at g
      cases ea : atI ds i with
      | none => rw [ea] at g; exact g.elim
      | some d =>
        rw [ea] at g
        obtain ⟨a, xs, rfl, t, rl⟩ := rx
        obtain ⟨w, ew, rw'⟩ := rl.atI ea
        exact ⟨a, xs, i, w, rfl, ry, t.seq, ew, goodO.at g R rw'⟩
    | _ => exact g.elim
  | _ => exact g.elim
theorem k_ixS : R2ok K N rIxS dIxS := fun ι H S x y v u Q R rx ry g => by
  cases x with
  | str z =>
    cases y with
    | int i =>
      unfold dIxS at g
      simp only at g
      cases e : gd (z.length ≤ sizeLine) ((atI (tl z) i).map fun c => (D.str ⟨#[c]⟩, S)) with
      | none => rw [e] at g; exact g.elim
      | some p =>
        obtain ⟨h1, h2⟩ := gd_some e
        cases ea : atI (tl z) i with
        | none => rw [ea] at h2; cases h2
        | some c =>
          rw [ea] at h2
          rw [e, ← h2] at g
          exact ⟨z, i, c, rx, ry, h1, ea, goodO.at g R rfl⟩
    | _ => exact g.elim
  | _ => exact g.elim
theorem ae_ix {r : R2} {f : Op2} (hr : IxR X r) (hf : R2ok K N r f) (ha : AE K N W X a ma) (hb : AE K N W X b mb) (hs : PlainIx b := by intro _ _; rfl) : AE K N W X (.Subscript a b pos) (e2 f ma mb) := PE.imp (pe_ix hr ha hb hs) fun σ H Q h => te_op hf h
theorem ae_ixL (ha : AE K N W X a ma) (hb : AE K N W X b mb) (hK : X.K = K := by rfl) (hs : PlainIx b := by intro _ _; rfl) : AE K N W X (.Subscript a b pos) (e2 dIxL ma mb) := by subst hK; exact ae_ix ix_list k_ixL ha hb hs
theorem ae_ixR (ha : AE K N W X a ma) (hb : AE K N W X b mb) (hK : X.K = K := by rfl) (hs : PlainIx b := by intro _ _; rfl) : AE K N W X (.Subscript a b pos) (e2 dIxR ma mb) := by subst hK; exact ae_ix ix_list k_ixR ha hb hs
theorem ae_ixT (ha : AE K N W X a ma) (hb : AE K N W X b mb) (hK : X.K = K := by rfl) (hs : PlainIx b := by intro _ _; rfl) : AE K N W X (.Subscript a b pos) (e2 dIxT ma mb) := by subst hK; exact ae_ix ix_tup k_ixT ha hb hs
theorem ae_ixS (ha : AE K N W X a ma) (hb : AE K N W X b mb) (hs : PlainIx b := by intro _ _; rfl) : AE K N W X (.Subscript a b pos) (e2 dIxS ma mb) := ae_ix ix_str k_ixS ha hb hs
/-- new lists -/
noncomputable def dCat : Op2 := fun x y S => match x, y with
  | .ref n, .ref m => match S[n]?, S[m]? with
    | some (.lst ds), some (.lst es) => gd (ds.length + es.length ≤ sizeLine) (some (.ref S.length, S ++ [.lst (ds ++ es)]))
    | _, _ => none
  | _, _ => none
def listAt (S : Sto) (d : D) : Option (Nat × List D) := match d with
  | .ref n => match S[n]? with
    | some (.lst ds) => some (n, ds)
    | _ => none
  | _ => none
theorem listAt_ok {d : D} {v : V} {n : Nat} {ds : List D} (R : Rep K N ι H S) (r : RepV K ι H d v) (e : listAt S d = some (n, ds)) : d = .ref n ∧ S[n]? = some (.lst ds) ∧ ∃ a xs, ι[n]? = some a ∧ v = .ref a ∧ H a = some (.lst xs) ∧ RepL K ι H ds xs := by
  cases d with
  | ref k =>
    unfold listAt at e
    simp only at e
    cases es : S[k]? with
    | none => rw [es] at e; cases e
    | some o =>
      rw [es] at e
      cases o with
      | lst ds' =>
        cases e
        obtain ⟨a, xs, ia, q, rl⟩ := R.list es
        obtain ⟨b, eb, rfl⟩ := r
        rw [ia] at eb
        cases eb
        exact ⟨rfl, es, a, xs, ia, rfl, q, rl⟩
      | _ => cases e
  | _ => cases e
noncomputable def dCatL : Op2 := fun x y S => (listAt S x).bind fun p => (listAt S y).bind fun q => gd (p.2.length + q.2.length ≤ sizeLine) (some (.ref S.length, S ++ [.lst (p.2 ++ q.2)]))
theorem k_cat : R2ok K N rCat dCatL := fun ι H S x y v u Q R rx ry g => by
  unfold dCatL at g
  cases e1 : listAt S x with
  | none => rw [e1] at g; exact g.elim
  | some p =>
    cases e2 : listAt S y with
    | none => rw [e1, e2] at g; exact g.elim
    | some q =>
      simp only [e1, e2, Option.bind_some] at g
      cases e : gd (p.2.length + q.2.length ≤ sizeLine) (some (D.ref S.length, S ++ [O.lst (p.2 ++ q.2)])) with
      | none => rw [e] at g; exact g.elim
      | some z =>
        obtain ⟨h1, h2⟩ := gd_some e
        rw [e, ← h2] at g
        obtain ⟨_, _, a, xs, _, rfl, qa, rl⟩ := listAt_ok R rx e1
        obtain ⟨_, _, b, ys, _, rfl, qb, sl⟩ := listAt_ok R ry e2
        exact ⟨a, b, xs, ys, rfl, rfl, qa, qb, by rw [rl.length, sl.length]; exact h1, fun p hp => goodO.newL g R (rl.append sl) hp⟩
noncomputable def dRep : Op2 := fun x y S => match y with
  | .int k => (listAt S x).bind fun p => gd (-(2 ^ 63) ≤ k ∧ k < 2 ^ 63 ∧ p.2.length * k.toNat ≤ sizeLine) (some (.ref S.length, S ++ [.lst (List.replicate k.toNat p.2).flatten]))
  | _ => none
theorem RepL.rep {ds : List D} {xs : List V} (rl : RepL K ι H ds xs) : ∀ k : Nat, RepL K ι H (List.replicate k ds).flatten (List.replicate k xs).flatten
  | 0 => rfl
  | k + 1 => by
    rw [List.replicate_succ, List.replicate_succ, List.flatten_cons, List.flatten_cons]
    exact rl.append (RepL.rep rl k)
theorem k_rep : R2ok K N rRep dRep := fun ι H S x y v u Q R rx ry g => by
  cases y with
  | int k =>
    unfold dRep at g
    simp only at g
    cases e1 : listAt S x with
    | none => rw [e1] at g; exact g.elim
    | some p =>
      simp only [e1, Option.bind_some] at g
      cases e : gd (-(2 ^ 63) ≤ k ∧ k < 2 ^ 63 ∧ p.2.length * k.toNat ≤ sizeLine) (some (D.ref S.length, S ++ [O.lst (List.replicate k.toNat p.2).flatten])) with
      | none => rw [e] at g; exact g.elim
      | some z =>
        obtain ⟨h1, h2⟩ := gd_some e
        rw [e, ← h2] at g
        obtain ⟨_, _, a, xs, _, rfl, qa, rl⟩ := listAt_ok R rx e1
        exact ⟨a, k, xs, rfl, ry, qa, h1.1, h1.2.1, by rw [rl.length]; exact h1.2.2, fun p hp => goodO.newL g R (rl.rep k.toNat) hp⟩
  | _ => exact g.elim
theorem ae_cat (ha : AE K N W X a ma) (hb : AE K N W X b mb) : AE K N W X (.BinOp a .Add b pos) (e2 dCatL ma mb) := ae_op op_cat k_cat ha hb
theorem ae_rep (ha : AE K N W X a ma) (hb : AE K N W X b mb) : AE K N W X (.BinOp a .Mult b pos) (e2 dRep ma mb) := ae_op op_rep k_rep ha hb
/-! slices -/
def mPart (o : Option (M D)) : M (Option Int) := fun σ S => match o with
  | none => .ok none S
  | some m => match m σ S with
    | .ok (.int i) S1 => .ok (some i) S1
    | _ => .bad
def oNone : Option (M D) := none
structure POx (K : PySem.W.Frag) (N : Nms) (X : Cx) (e : Option Expr) (m : M (Option Int)) : Prop where
  ex : ∃ t : TO, PO X e t ∧ ∀ ι σa σ S H Q, RepSl K ι H σa σ → Rep K N ι H S → (match m σa S with
    | .ok o S' => ∀ ι' H', Fut K ι H ι' H' → Rep K N ι' H' S' → Q o H'
    | _ => False) → t σ H Q
theorem pox_none : POx K N X none (fun _ S => .ok none S) := ⟨⟨tNoPart, po_none, fun ι σa σ S H Q hs R g => g ι H (Fut.refl _ _) R⟩⟩
def mP1 (m : M D) : M (Option Int) := fun σ S => match m σ S with
  | .ok (.int i) S1 => .ok (some i) S1
  | _ => .bad
def mP0 : M (Option Int) := fun _ S => .ok none S
theorem pox_some (h : AE K N W X a ma) : POx K N X (some a) (mP1 ma) := ⟨⟨tPart (teX K N W ma), po_some h, fun ι σa σ S H Q hs R g => by
  refine ⟨ι, σa, S, hs, R, ?_⟩
  unfold mP1 at g
  cases e : ma σa S with
  | ok d S1 =>
    rw [e] at g
    intro ι' H' v f R' r
    cases d with
    | int i => exact ⟨i, r, g ι' H' f R'⟩
    | _ => exact g.elim
  | ex C S1 => rw [e] at g; exact g.elim
  | bad => rw [e] at g; exact g.elim⟩⟩
abbrev OpSl := D → Option Int → Option Int → Sto → Option (D × Sto)
def eSl (f : OpSl) (m : M D) (l u : M (Option Int)) : M D := eBind m fun d σ S => match l σ S with
  | .ok lo S1 => match u σ S1 with
    | .ok hi S2 => ofO (f d lo hi S2)
    | _ => .bad
  | _ => .bad
def SlOk (K : PySem.W.Frag) (N : Nms) (r : V → Option Int → Option Int → Hp → VK → Prop) (f : OpSl) : Prop := ∀ ι H S x v lo hi Q, Rep K N ι H S → RepV K ι H x v → goodO K N (f x lo hi S) ι H Q → r v lo hi H Q
theorem ae_slice {r : V → Option Int → Option Int → Hp → VK → Prop} {f : OpSl} {e : Expr} {m : M D} {l u : M (Option Int)} {lo hi : Option Expr} {p2 : Pos} (hr : SlR X r) (hf : SlOk K N r f) (he : AE K N W X e m) (hl : POx K N X lo l) (hu : POx K N X hi u) :
    AE K N W X (.Subscript e (.Slice lo hi none p2) pos) (eSl f m l u) := by
  obtain ⟨t1, p1, q1⟩ := hl.ex
  obtain ⟨t2, p3, q2⟩ := hu.ex
  refine PE.imp (pe_slice hr he p1 p3) fun σ H Q ⟨ι, σa, S, hs, R, g⟩ => bindEE hs R g fun ι1 H1 v d S1 f1 hs1 R1 r1 g1 => ?_
  refine q1 ι1 σa σ S1 H1 _ hs1 R1 ?_
  cases e1 : l σa S1 with
  | ok lo S2 =>
    rw [e1] at g1
    intro ι2 H2 f2 R2
    refine q2 ι2 σa σ S2 H2 _ (hs1.fut f2) R2 ?_
    cases e2 : u σa S2 with
    | ok hi S3 =>
      simp only [e2] at g1
      exact fun ι3 H3 f3 R3 => hf ι3 H3 S3 d v lo hi Q R3 ((r1.fut f2).fut f3) (goodO.of (goodE.fut (r := ofO (f d lo hi S3)) g1 (f2.trans f3)))
    | ex C S3 => simp only [e2] at g1; exact g1.elim
    | bad => simp only [e2] at g1; exact g1.elim
  | ex C S2 => rw [e1] at g1; exact g1.elim
  | bad => rw [e1] at g1; exact g1.elim
def cutD (xs : List D) (lo hi : Option Int) : List D := (xs.drop (HT.sIx xs.length 0 lo)).take (HT.sIx xs.length xs.length hi - HT.sIx xs.length 0 lo)
noncomputable def dSlS : OpSl := fun x lo hi S => match x with
  | .str z => gd (z.length ≤ sizeLine) (some (.str (cutS z lo hi), S))
  | _ => none
noncomputable def dSlL : OpSl := fun x lo hi S => (listAt S x).map fun p => (.ref S.length, S ++ [.lst (cutD p.2 lo hi)])
theorem k_slS : SlOk K N rSlS dSlS := fun ι H S x v lo hi Q R rx g => by
  cases x with
  | str z =>
    unfold dSlS at g
    simp only at g
    cases e : gd (z.length ≤ sizeLine) (some (D.str (cutS z lo hi), S)) with
    | none => rw [e] at g; exact g.elim
    | some p =>
      obtain ⟨h1, h2⟩ := gd_some e
      rw [e, ← h2] at g
      exact ⟨z, rx, h1, goodO.at g R rfl⟩
  | _ => exact g.elim
theorem RepL.cut {ds : List D} {xs : List V} (rl : RepL K ι H ds xs) (lo hi : Option Int) : RepL K ι H (cutD ds lo hi) (cutV xs lo hi) := by
  unfold cutD cutV
  rw [rl.length]
  exact (rl.drop _).take _
theorem k_slL : SlOk K N (rSlL K) dSlL := fun ι H S x v lo hi Q R rx g => by
  unfold dSlL at g
  cases e1 : listAt S x with
  | none => rw [e1] at g; exact g.elim
  | some p =>
    rw [e1] at g
    obtain ⟨_, _, a, xs, _, rfl, qa, rl⟩ := listAt_ok R rx e1
    exact ⟨a, xs, rfl, SqL.of qa, fun p hp => goodO.newL g R (rl.cut lo hi) hp⟩
/-! calls of built-ins -/
abbrev OpN := List D → Sto → Option (D × Sto)
def eN (f : OpN) (m : M (List D)) : M D := eBind m fun ds _ S => ofO (f ds S)
def RNok (K : PySem.W.Frag) (N : Nms) (r : List V → Hp → VK → Prop) (f : OpN) : Prop := ∀ ι H S ds vs Q, Rep K N ι H S → RepL K ι H ds vs → goodO K N (f ds S) ι H Q → r vs H Q
theorem te_cb {r : List V → Hp → VK → Prop} {f : OpN} (hr : RNok K N r f) {m : M (List D)} {Q : VK} (h : teX K N W (eN f m) σ H Q) : tCB r (taX K N W m) σ H Q := by
  obtain ⟨ι, σa, S, hs, R, g⟩ := h
  exact bindLE hs R g fun ι1 H1 vs ds S1 f1 hs1 R1 r1 g1 => hr ι1 H1 S1 ds vs Q R1 r1 (goodO.of g1)
theorem RN.one {r : List V → Hp → VK → Prop} {f : OpN} {g : Op1} (hf : ∀ ds S, f ds S = match ds with
    | [d] => g d S
    | _ => none) (h : ∀ ι H S d v Q, Rep K N ι H S → RepV K ι H d v → goodO K N (g d S) ι H Q → r [v] H Q) : RNok K N r f := fun ι H S ds vs Q R rl gg => by
  rw [hf] at gg
  match ds, rl, gg with
  | [], rl, gg => exact gg.elim
  | [d], rl, gg =>
    obtain ⟨x, r', rfl, rx, rr⟩ := rl
    rw [show r' = [] from rr]
    exact h ι H S d x Q R rx gg
  | _ :: _ :: _, rl, gg => exact gg.elim
def f1 (g : Op1) : OpN := fun ds S => match ds with
  | [d] => g d S
  | _ => none
def f2 (g : Op2) : OpN := fun ds S => match ds with
  | [d, e] => g d e S
  | _ => none
theorem RN.two {r : List V → Hp → VK → Prop} {g : Op2} (h : ∀ ι H S d e v u Q, Rep K N ι H S → RepV K ι H d v → RepV K ι H e u → goodO K N (g d e S) ι H Q → r [v, u] H Q) : RNok K N r (f2 g) := fun ι H S ds vs Q R rl gg => by
  match ds, rl, gg with
  | [], rl, gg => exact gg.elim
  | [d], rl, gg => exact gg.elim
  | [d, e], rl, gg =>
    obtain ⟨x, r', rfl, rx, y, r2, rfl, ry, rr⟩ := rl
    rw [show r2 = [] from rr]
    exact h ι H S d e x y Q R rx ry gg
  | _ :: _ :: _ :: _, rl, gg => exact gg.elim
noncomputable def dLenS : Op1 := fun d S => match d with
  | .str z => gd (z.length ≤ sizeLine) (some (.int z.length, S))
  | _ => none
def dLenQ : Op1 := fun d S => (seqOf d S).map fun ds => (.int (ds.length : Nat), S)
theorem k_lenS : RNok K N zLenS (f1 dLenS) := RN.one (fun _ _ => rfl) fun ι H S d v Q R rx g => by
  cases d with
  | str z =>
    unfold dLenS at g
    simp only at g
    cases e : gd (z.length ≤ sizeLine) (some (D.int z.length, S)) with
    | none => rw [e] at g; exact g.elim
    | some p =>
      obtain ⟨h1, h2⟩ := gd_some e
      rw [e, ← h2] at g
      rw [show v = V.str z from rx]
      exact ⟨z, rfl, h1, goodO.at g R rfl⟩
  | _ => exact g.elim
theorem k_lenQ : RNok K N (zLenQ K) (f1 dLenQ) := RN.one (fun _ _ => rfl) fun ι H S d v Q R rx g => by
  unfold dLenQ at g
  cases e : seqOf d S with
  | none => rw [e] at g; exact g.elim
  | some ds =>
    rw [e] at g
    obtain ⟨p, xs, rfl, hq, rl⟩ := seqOf_ok R rx e
    exact ⟨p, xs, rfl, hq, by rw [rl.length]; exact goodO.at g R rfl⟩
def dInt : Op1 := fun d S => match d with
  | .int i => some (.int i, S)
  | .bl b => some (.int (if b then 1 else 0), S)
  | _ => none
theorem q_int : RNok K N zInt (f1 dInt) := RN.one (fun _ _ => rfl) fun ι H S d v Q R rx g => by
  cases d with
  | int i => rw [show v = V.int i from rx]; exact .inl ⟨i, rfl, goodO.at g R rfl⟩
  | bl b => rw [show v = V.bl b from rx]; exact .inr ⟨b, rfl, goodO.at g R rfl⟩
  | _ => exact g.elim
/-- tuple(list) -/
def dTupL : Op1 := fun d S => (listAt S d).map fun p => (.tup p.2, S)
theorem k_tup : RNok K N (zTup K) (f1 dTupL) := RN.one (fun _ _ => rfl) fun ι H S d v Q R rx g => by
  unfold dTupL at g
  cases e1 : listAt S d with
  | none => rw [e1] at g; exact g.elim
  | some p =>
    rw [e1] at g
    obtain ⟨_, _, a, xs, _, rfl, qa, rl⟩ := listAt_ok R rx e1
    exact ⟨a, xs, rfl, SqL.of qa, fun l o hl ho => goodO.newT g R rl hl ho⟩
/-- list(list or tuple) -/
def dListOf : Op1 := fun d S => (seqOf d S).map fun ds => (.ref S.length, S ++ [.lst ds])
theorem k_listOf : RNok K N (zListOf K) (f1 dListOf) := RN.one (fun _ _ => rfl) fun ι H S d v Q R rx g => by
  unfold dListOf at g
  cases e1 : seqOf d S with
  | none => rw [e1] at g; exact g.elim
  | some ds =>
    rw [e1] at g
    obtain ⟨p, xs, rfl, hq, rl⟩ := seqOf_ok R rx e1
    exact ⟨p, xs, rfl, hq, fun l hl => goodO.newL g R rl hl⟩
def dMin2 : Op2 := dI0 fun i j => .int (if j < i then j else i)
def dMax2 : Op2 := dI0 fun i j => .int (if j > i then j else i)
theorem k_min2 : RNok K N zMin2 (f2 dMin2) := RN.two fun ι H S d e v u Q R rx ry g => by
  cases d with
  | int i =>
    cases e with
    | int j => rw [show v = V.int i from rx, show u = V.int j from ry]; exact ⟨i, j, rfl, goodO.at g R rfl⟩
    | _ => exact g.elim
  | _ => exact g.elim
theorem k_max2 : RNok K N zMax2 (f2 dMax2) := RN.two fun ι H S d e v u Q R rx ry g => by
  cases d with
  | int i =>
    cases e with
    | int j => rw [show v = V.int i from rx, show u = V.int j from ry]; exact ⟨i, j, rfl, goodO.at g R rfl⟩
    | _ => exact g.elim
  | _ => exact g.elim
/-! methods of texts -/
def eM1 (f : Op2) (mo me : M D) : M D := eBind mo fun o => match o with
  | .str x => eBind me fun y _ S => ofO (f (.str x) y S)
  | _ => fun _ _ => .bad
def RMok (K : PySem.W.Frag) (N : Nms) (r : V → List V → Hp → VK → Prop) (f : Op2) : Prop := ∀ ι H S x d v u Q, Rep K N ι H S → RepV K ι H x v → RepV K ι H d u → goodO K N (f x d S) ι H Q → r v [u] H Q
theorem te_m1 {r : V → List V → Hp → VK → Prop} {f : Op2} (hr : RMok K N r f) {Q : VK} (h : teX K N W (eM1 f ma mb) σ H Q) : tM1 r (teX K N W ma) (teX K N W mb) σ H Q := by
  obtain ⟨ι, σa, S, hs, R, g⟩ := h
  refine bindEE hs R g fun ι1 H1 v d S1 f1 hs1 R1 r1 g1 => ?_
  cases d with
  | str x => exact ⟨⟨x, r1⟩, bindEE hs1 R1 g1 fun ι2 H2 u e S2 f2 hs2 R2 r2 g2 => hr ι2 H2 S2 (.str x) e v u Q R2 (r1.fut f2) r2 (goodO.of g2)⟩
  | _ => exact g1.elim
theorem ae_m1 {id : String} {name : Str} {apos : Pos} {r : V → List V → Hp → VK → Prop} {f : Op2} (slot : Slot "str" name id) (ty : typeOf (.builtin id) = pure (.type "method_descriptor")) (rule : MtR X id r) (hr : RMok K N r f) (ho : AE K N W X a ma) (he : AE K N W X b mb)
    (hs : starEach [b] X.env = [(false, eval b X.env)] := by rfl) (hbase : attributeBase a name X.env (eval a X.env) = eval a X.env := by rfl) (hline : (apos.endLine == pos.line) = true := by rfl) :
    AE K N W X (.Call (.Attribute a name apos) [b] [] pos) (eM1 f ma mb) := PE.imp (pe_m1 slot ty rule ho he hs hbase hline) fun σ H Q h => te_m1 hr h
def strsOf : List D → Option (List Str)
  | [] => some []
  | .str x :: ds => (strsOf ds).map fun xs => x :: xs
  | _ :: _ => none
theorem strsOf_ok : ∀ {ds : List D} {vs : List V} {xs : List Str}, RepL K ι H ds vs → strsOf ds = some xs → vs = xs.map V.str
  | [], vs, xs, r, e => by cases e; exact r
  | d :: ds, vs, xs, r, e => by
    obtain ⟨v, r', rfl, rx, rr⟩ := r
    cases d with
    | str x =>
      unfold strsOf at e
      cases e2 : strsOf ds with
      | none => rw [e2] at e; cases e
      | some ys =>
        rw [e2] at e
        cases e
        rw [strsOf_ok rr e2, show v = V.str x from rx]
        rfl
    | _ => cases e
noncomputable def dJoin : Op2 := fun x y S => match x with
  | .str a => (seqOf y S).bind fun ds => (strsOf ds).bind fun ys => gd ((ys.map (·.length)).sum + ys.length * a.length ≤ 16777216) (some (.str (Txt.join a ys), S))
  | _ => none
theorem k_join : RMok K N (zJoin K) dJoin := fun ι H S x d v u Q R rx ry g => by
  cases x with
  | str a =>
    unfold dJoin at g
    simp only at g
    cases e1 : seqOf d S with
    | none => rw [e1] at g; exact g.elim
    | some ds =>
      cases e2 : strsOf ds with
      | none => simp only [e1, e2, Option.bind_some, Option.bind_none] at g; exact g.elim
      | some ys =>
        simp only [e1, e2, Option.bind_some] at g
        cases e : gd ((ys.map (·.length)).sum + ys.length * a.length ≤ 16777216) (some (D.str (Txt.join a ys), S)) with
        | none => rw [e] at g; exact g.elim
        | some p =>
          obtain ⟨h1, h2⟩ := gd_some e
          rw [e, ← h2] at g
          obtain ⟨p, xs, rfl, hq, rl⟩ := seqOf_ok R ry e1
          rw [strsOf_ok rl e2] at hq
          exact ⟨a, p, ys, rx, rfl, hq, h1, goodO.at g R rfl⟩
  | _ => exact g.elim
def dSS (f : Str → Str → D) : Op2 := fun x y S => match x, y with
  | .str i, .str j => some (f i j, S)
  | _, _ => none
def dStarts : Op2 := dSS fun i j => .bl (Txt.startswith i j)
def dEnds : Op2 := dSS fun i j => .bl (Txt.endswith i j)
def dFind : Op2 := dSS fun i j => .int (Txt.find i j)
theorem k_starts : RMok K N zStarts dStarts := fun ι H S x d v u Q R rx ry g => by
  cases x with
  | str i =>
    cases d with
    | str j => rw [show u = V.str j from ry]; exact ⟨i, j, rx, rfl, goodO.at g R rfl⟩
    | _ => exact g.elim
  | _ => exact g.elim
theorem k_ends : RMok K N zEnds dEnds := fun ι H S x d v u Q R rx ry g => by
  cases x with
  | str i =>
    cases d with
    | str j => rw [show u = V.str j from ry]; exact ⟨i, j, rx, rfl, goodO.at g R rfl⟩
    | _ => exact g.elim
  | _ => exact g.elim
theorem k_find : RMok K N zFind dFind := fun ι H S x d v u Q R rx ry g => by
  cases x with
  | str i =>
    cases d with
    | str j => rw [show u = V.str j from ry]; exact ⟨i, j, rx, rfl, goodO.at g R rfl⟩
    | _ => exact g.elim
  | _ => exact g.elim
noncomputable def dRstrip : Op2 := dS2 (fun i _ => i.length ≤ sizeLine) fun i j => .str (Txt.rstripChars i j)
theorem k_rstrip : RMok K N zRstrip dRstrip := fun ι H S x d v u Q R rx ry g => by
  cases x with
  | str i =>
    cases d with
    | str j =>
      cases e : dRstrip (.str i) (.str j) S with
      | none => rw [e] at g; exact g.elim
      | some p =>
        obtain ⟨h1, h2⟩ := gd_some e
        rw [e, ← h2] at g
        rw [show u = V.str j from ry]
        exact ⟨i, j, rx, rfl, h1, goodO.at g R rfl⟩
    | _ => exact g.elim
  | _ => exact g.elim
/-! methods of lists -/
abbrev OpM := D → List D → Sto → Option (D × Sto)
def eBM (f : OpM) (mo : M D) (m : M (List D)) : M D := eBind mo fun o σ S => match listAt S o with
  | some _ => (eBind m fun ds _ S1 => ofO (f o ds S1)) σ S
  | none => .bad
def BMok (K : PySem.W.Frag) (N : Nms) (r : V → List V → Hp → VK → Prop) (f : OpM) : Prop := ∀ ι H S x ds v us Q, Rep K N ι H S → RepV K ι H x v → RepL K ι H ds us → goodO K N (f x ds S) ι H Q → r v us H Q
theorem te_bm {r : V → List V → Hp → VK → Prop} {f : OpM} (hr : BMok K N r f) {m : M (List D)} {Q : VK} (h : teX K N W (eBM f ma m) σ H Q) : tBM K "list" r (teX K N W ma) (taX K N W m) σ H Q := by
  obtain ⟨ι, σa, S, hs, R, g⟩ := h
  refine bindEE hs R g fun ι1 H1 v d S1 f1 hs1 R1 r1 g1 => ?_
  cases e : listAt S1 d with
  | none => simp only [e] at g1; exact g1.elim
  | some p =>
    simp only [e] at g1
    obtain ⟨_, _, a, xs, _, rfl, qa, rl⟩ := listAt_ok R1 r1 e
    exact ⟨.inl ⟨rfl, _, SqL.of qa⟩, bindLE hs1 R1 g1 fun ι2 H2 us ds S2 f2 hs2 R2 r2 g2 => hr ι2 H2 S2 d ds _ us Q R2 (r1.fut f2) r2 (goodO.of g2)⟩
theorem ae_bm {id : String} {name : Str} {apos : Pos} {es : List Expr} {r : V → List V → Hp → VK → Prop} {f : OpM} {m : M (List D)} (slot : Slot "list" name id) (hty : typeOf (.builtin id) = pure (.type "method_descriptor")) (hm : MtR X id r) (hr : BMok K N r f) (ho : AE K N W X a ma) (ha : AA K N W X (b :: es) m)
    (hp : PE X (.Call (.Attribute a name apos) (b :: es) [] pos) (tBM X.K "list" r (teX K N W ma) (taX K N W m))) (hK : X.K = K := by rfl) :
    AE K N W X (.Call (.Attribute a name apos) (b :: es) [] pos) (eBM f ma m) := by
  subst hK
  exact PE.imp hp fun σ H Q h => te_bm hr h
theorem ae_bmP {e : Expr} {r : V → List V → Hp → VK → Prop} {f : OpM} {m : M (List D)} (hr : BMok K N r f) (hp : PE X e (tBM X.K "list" r (teX K N W ma) (taX K N W m))) (hK : X.K = K := by rfl) : AE K N W X e (eBM f ma m) := by
  subst hK
  exact PE.imp hp fun σ H Q h => te_bm hr h
theorem ae_bmP0 {e : Expr} {r : V → List V → Hp → VK → Prop} {f : OpM} (hr : BMok K N r f) (hp : PE X e (tBM0 X.K "list" r (teX K N W ma))) (hK : X.K = K := by rfl) : AE K N W X e (eBM f ma aNil) := by
  subst hK
  refine PE.imp hp fun σ H Q h => ?_
  obtain ⟨ι, σa, S, hs, R, g⟩ := h
  refine bindEE hs R g fun ι1 H1 v d S1 f1 hs1 R1 r1 g1 => ?_
  cases e : listAt S1 d with
  | none => simp only [e] at g1; exact g1.elim
  | some p =>
    simp only [e] at g1
    obtain ⟨_, _, a, xs, _, rfl, qa, rl⟩ := listAt_ok R1 r1 e
    exact ⟨.inl ⟨rfl, _, SqL.of qa⟩, hr ι1 H1 S1 d [] _ [] Q R1 r1 RepL.nil (goodO.of g1)⟩
noncomputable def dAppend : OpM := fun o ds S => match ds with
  | [d] => (listAt S o).bind fun p => gd (p.2.length < sizeLine) (some (.non, S.set p.1 (.lst (p.2 ++ [d]))))
  | _ => none
theorem goodO.put {n : Nat} {ob : O} {Q : VK} {a : Addr} {o : HO} (g : goodO K N (some (.non, S.set n ob)) ι H Q) (R : Rep K N ι H S) (ea : ι[n]? = some a) (h : ∀ H', H' = upd H a o → Fut K ι H ι H' → RepO K N ι H' a ob) : Q .non (upd H a o) :=
  let P := R.put ea h; g ι _ .non P.2 P.1 rfl
theorem k_append : BMok K N rAppend dAppend := fun ι H S x ds v us Q R rx rl g => by
  match ds, rl, g with
  | [], rl, g => exact g.elim
  | [d], rl, g =>
    obtain ⟨y, r', rfl, ry, rr⟩ := rl
    rw [show r' = [] from rr]
    unfold dAppend at g
    simp only at g
    cases e1 : listAt S x with
    | none => rw [e1] at g; exact g.elim
    | some p =>
      simp only [e1, Option.bind_some] at g
      cases e : gd (p.2.length < sizeLine) (some (D.non, S.set p.1 (.lst (p.2 ++ [d])))) with
      | none => rw [e] at g; exact g.elim
      | some z =>
        obtain ⟨h1, h2⟩ := gd_some e
        rw [e, ← h2] at g
        obtain ⟨_, _, a, xs, ia, rfl, qa, rl2⟩ := listAt_ok R rx e1
        refine ⟨a, xs, y, rfl, rfl, qa, by rw [rl2.length]; exact h1, ?_⟩
        exact goodO.put g R ia fun H' eH fu => ⟨xs ++ [y], by rw [eH, upd_same], (rl2.fut fu).append (RepL.cons (ry.fut fu) RepL.nil)⟩
  | _ :: _ :: _, rl, g => exact g.elim
noncomputable def dExtend : OpM := fun o ds S => match ds with
  | [d] => (listAt S o).bind fun p => (listAt S d).bind fun q => gd (p.2.length + q.2.length ≤ sizeLine) (some (.non, S.set p.1 (.lst (p.2 ++ q.2))))
  | _ => none
theorem k_extend : BMok K N rExtend dExtend := fun ι H S x ds v us Q R rx rl g => by
  match ds, rl, g with
  | [], rl, g => exact g.elim
  | [d], rl, g =>
    obtain ⟨y, r', rfl, ry, rr⟩ := rl
    rw [show r' = [] from rr]
    unfold dExtend at g
    simp only at g
    cases e1 : listAt S x with
    | none => rw [e1] at g; exact g.elim
    | some p =>
      cases e2 : listAt S d with
      | none => simp only [e1, e2, Option.bind_some, Option.bind_none] at g; exact g.elim
      | some q =>
        simp only [e1, e2, Option.bind_some] at g
        cases e : gd (p.2.length + q.2.length ≤ sizeLine) (some (D.non, S.set p.1 (.lst (p.2 ++ q.2)))) with
        | none => rw [e] at g; exact g.elim
        | some z =>
          obtain ⟨h1, h2⟩ := gd_some e
          rw [e, ← h2] at g
          obtain ⟨_, _, a, xs, ia, rfl, qa, rl2⟩ := listAt_ok R rx e1
          obtain ⟨_, _, b, ys, ib, rfl, qb, sl2⟩ := listAt_ok R ry e2
          refine ⟨a, b, xs, ys, rfl, rfl, qa, qb, by rw [rl2.length, sl2.length]; exact h1, ?_⟩
          exact goodO.put g R ia fun H' eH fu => ⟨xs ++ ys, by rw [eH, upd_same], (rl2.fut fu).append (sl2.fut fu)⟩
  | _ :: _ :: _, rl, g => exact g.elim
def dClear : OpM := fun o ds S => match ds with
  | [] => (listAt S o).map fun p => (.non, S.set p.1 (.lst []))
  | _ => none
theorem k_clear : BMok K N rClear dClear := fun ι H S x ds v us Q R rx rl g => by
  match ds, rl, g with
  | [], rl, g =>
    unfold dClear at g
    simp only at g
    cases e1 : listAt S x with
    | none => rw [e1] at g; exact g.elim
    | some p =>
      rw [e1] at g
      obtain ⟨_, _, a, xs, ia, rfl, qa, rl2⟩ := listAt_ok R rx e1
      refine ⟨a, xs, rfl, rl, qa, ?_⟩
      exact goodO.put g R ia fun H' eH fu => ⟨[], by rw [eH, upd_same], RepL.nil⟩
  | _ :: _, rl, g => exact g.elim
/-- l.pop(i) -/
noncomputable def dPopAt : OpM := fun o ds S => match ds with
  | [.int i] => (listAt S o).bind fun p => gd (-(2 ^ 63) ≤ i ∧ i < 2 ^ 63) ((seqIndex? i p.2.length).bind fun k => (p.2[k]?).map fun y => (y, S.set p.1 (.lst (p.2.eraseIdx k))))
  | _ => none
theorem RepL.erase : ∀ {ds : List D} {xs : List V} (k : Nat), RepL K ι H ds xs → RepL K ι H (ds.eraseIdx k) (xs.eraseIdx k)
  | [], xs, k, r => by rw [show xs = [] from r]; exact rfl
  | d :: ds, xs, 0, r => by
    obtain ⟨x, r', rfl, rx, rr⟩ := r
    exact rr
  | d :: ds, xs, k + 1, r => by
    obtain ⟨x, r', rfl, rx, rr⟩ := r
    exact RepL.cons rx (RepL.erase k rr)
theorem k_popAt : BMok K N rPopAt dPopAt := fun ι H S x ds v us Q R rx rl g => by
  unfold dPopAt at g
  split at g
  · rename_i i
    obtain ⟨y, r', rfl, ry, rr⟩ := rl
    rw [show r' = [] from rr, show y = V.int i from ry]
    cases e1 : listAt S x with
    | none => rw [e1] at g; exact g.elim
    | some p =>
      simp only [e1, Option.bind_some] at g
      cases e : gd (-(2 ^ 63) ≤ i ∧ i < 2 ^ 63) ((seqIndex? i p.2.length).bind fun k => (p.2[k]?).map fun y => (y, S.set p.1 (.lst (p.2.eraseIdx k)))) with
      | none => rw [e] at g; exact g.elim
      | some z =>
        obtain ⟨h1, h2⟩ := gd_some e
        cases e2 : seqIndex? i p.2.length with
        | none => rw [e2] at h2; cases h2
        | some k =>
          cases e3 : p.2[k]? with
          | none => simp only [e2, e3, Option.bind_some, Option.map_none] at h2; cases h2
          | some d =>
            simp only [e2, e3, Option.bind_some, Option.map_some] at h2
            rw [e, ← h2] at g
            obtain ⟨_, _, a, xs, ia, rfl, qa, rl2⟩ := listAt_ok R rx e1
            obtain ⟨w, ew, rw'⟩ := rl2.get e3
            refine ⟨a, xs, i, k, w, rfl, rfl, qa, h1.1, h1.2, by rw [rl2.length]; exact e2, ew, ?_⟩
            have P := R.put (o := .lst (xs.eraseIdx k)) (ob := .lst (p.2.eraseIdx k)) ia fun H' eH fu => ⟨xs.eraseIdx k, by rw [eH, upd_same], (rl2.fut fu).erase k⟩
            exact g ι _ w P.2 P.1 (rw'.fut P.2)
  · exact g.elim
/-- l[i] = x -/
def dSetL : OpS := fun o i v S => match i with
  | .int k => (listAt S o).bind fun p => (ixN p.2.length k).map fun j => S.set p.1 (.lst (p.2.set j v))
  | _ => none
theorem k_setL : SetOk K N rSetL dSetL := fun ι H S o i d vo vi v Q R ro ri rd ⟨S', e, q⟩ => by
  cases i with
  | int k =>
    unfold dSetL at e
    simp only at e
    cases e1 : listAt S o with
    | none => rw [e1] at e; cases e
    | some p =>
      simp only [e1, Option.bind_some] at e
      cases e2 : ixN p.2.length k with
      | none => rw [e2] at e; cases e
      | some j =>
        rw [e2] at e
        cases e
        obtain ⟨_, _, a, xs, ia, rfl, qa, rl2⟩ := listAt_ok R ro e1
        refine ⟨a, xs, k, j, rfl, ri, qa, by rw [rl2.length]; exact e2, ?_⟩
        have P := R.put (o := .lst (xs.set j v)) (ob := .lst (p.2.set j d)) ia fun H' eH fu => ⟨xs.set j v, by rw [eH, upd_same], (rl2.fut fu).set (rd.fut fu)⟩
        exact q ι _ P.2 P.1
  | _ => cases e
end
/-! ### data compared -/
def allPy (f : D → Option PyData) : List D → Option (List PyData)
  | [] => some []
  | d :: ds => (f d).bind fun p => (allPy f ds).map fun ps => p :: ps
def toPy (S : Sto) : Nat → D → Option PyData
  | 0, _ => none
  | n + 1, d => match d with
    | .non => some .none
    | .bl b => some (.bool b)
    | .int i => some (.int i)
    | .str x => some (.str x)
    | .tup ds => (allPy (toPy S n) ds).map .tuple
    | .ref k => match S[k]? with
      | some (.lst ds) => (allPy (toPy S n) ds).map .list
      | _ => none
    | .ty _ => none
    | .scr _ => none
noncomputable def dEqv (x y : D) (S : Sto) : Option Bool := (toPy S 70 x).bind fun p => (toPy S 70 y).bind fun q => gd (SeqAt.shaped p = true ∧ SeqAt.shaped q = true) (some (PyData.eqv p q))
noncomputable def dEqD : Op2 := fun x y S => (dEqv x y S).map fun b => (.bl b, S)
noncomputable def dNeD : Op2 := fun x y S => (dEqv x y S).map fun b => (.bl (!b), S)
section
variable {K : PySem.W.Frag} {N : Nms} {W : WX} {ι ι' : List Addr} {H H' : Hp} {σ : L2.St} {σa : Sl} {S : Sto} {X : Cx}
theorem allPy_ok {f : D → Option PyData} (hf : ∀ d v p, RepV K ι H d v → f d = some p → Dp K H v p) : ∀ {ds : List D} {vs : List V} {ps : List PyData}, RepL K ι H ds vs → allPy f ds = some ps → DpAll K H vs ps
  | [], vs, ps, r, e => by cases e; rw [show vs = [] from r]; exact .nil
  | d :: ds, vs, ps, r, e => by
    obtain ⟨v, r', rfl, rv, rr⟩ := r
    unfold allPy at e
    cases e1 : f d with
    | none => rw [e1] at e; cases e
    | some p =>
      cases e2 : allPy f ds with
      | none => rw [e1, e2] at e; cases e
      | some qs =>
        rw [e1, e2] at e
        cases e
        exact .cons (hf d v p rv e1) (allPy_ok hf rr e2)
theorem toPy_ok (R : Rep K N ι H S) : ∀ (n : Nat) (d : D) (v : V) (p : PyData), RepV K ι H d v → toPy S n d = some p → Dp K H v p
  | 0, _, _, _, _, e => by cases e
  | n + 1, d, v, p, r, e => by
    cases d with
    | non => cases e; rw [show v = V.non from r]; exact .non
    | bl b => cases e; rw [show v = V.bl b from r]; exact .bl b
    | int i => cases e; rw [show v = V.int i from r]; exact .int i
    | str x => cases e; rw [show v = V.str x from r]; exact .str x
    | tup ds =>
      unfold toPy at e
      simp only at e
      cases e1 : allPy (toPy S n) ds with
      | none => rw [e1] at e; cases e
      | some ps =>
        rw [e1] at e
        cases e
        obtain ⟨a, xs, rfl, t, rl⟩ := r
        exact .tup t.seq (allPy_ok (fun d v p r e => toPy_ok R n d v p r e) rl e1)
    | ref k =>
      unfold toPy at e
      simp only at e
      cases es : S[k]? with
      | none => rw [es] at e; cases e
      | some o =>
        rw [es] at e
        cases o with
        | lst ds =>
          simp only at e
          cases e1 : allPy (toPy S n) ds with
          | none => rw [e1] at e; cases e
          | some ps =>
            rw [e1] at e
            cases e
            obtain ⟨a, xs, ia, q, rl⟩ := R.list es
            obtain ⟨b, ib, rfl⟩ := r
            rw [ia] at ib
            cases ib
            exact .lst (SqL.of q) (allPy_ok (fun d v p r e => toPy_ok R n d v p r e) rl e1)
        | _ => cases e
    | ty _ => cases e
    | scr _ => cases e
theorem dEqv_ok {x y : D} {v u : V} {b : Bool} (R : Rep K N ι H S) (rx : RepV K ι H x v) (ry : RepV K ι H y u) (e : dEqv x y S = some b) : ∃ d e, Dp K H v d ∧ Dp K H u e ∧ SeqAt.shaped d = true ∧ SeqAt.shaped e = true ∧ PyData.eqv d e = b := by
  unfold dEqv at e
  cases e1 : toPy S 70 x with
  | none => rw [e1] at e; cases e
  | some p =>
    cases e2 : toPy S 70 y with
    | none => rw [e1, e2] at e; cases e
    | some q =>
      simp only [e1, e2, Option.bind_some] at e
      obtain ⟨⟨h1, h2⟩, h3⟩ := gd_some e
      exact ⟨p, q, toPy_ok R _ _ _ _ rx e1, toPy_ok R _ _ _ _ ry e2, h1, h2, by cases h3; rfl⟩
theorem k_eqD : R2ok K N (rEqD K) dEqD := fun ι H S x y v u Q R rx ry g => by
  unfold dEqD at g
  cases e : dEqv x y S with
  | none => rw [e] at g; exact g.elim
  | some b =>
    rw [e] at g
    obtain ⟨p, q, h1, h2, h3, h4, h5⟩ := dEqv_ok R rx ry e
    exact ⟨p, q, h1, h2, h3, h4, by rw [h5]; exact goodO.at g R rfl⟩
theorem k_neD : R2ok K N (rNeD K) dNeD := fun ι H S x y v u Q R rx ry g => by
  unfold dNeD at g
  cases e : dEqv x y S with
  | none => rw [e] at g; exact g.elim
  | some b =>
    rw [e] at g
    obtain ⟨p, q, h1, h2, h3, h4, h5⟩ := dEqv_ok R rx ry e
    exact ⟨p, q, h1, h2, h3, h4, by rw [h5]; exact goodO.at g R rfl⟩
/-! ### isinstance -/
def tyN (d : D) (S : Sto) : Option String := match d with
  | .non => some "NoneType"
  | .bl _ => some "bool"
  | .int _ => some "int"
  | .str _ => some "str"
  | .tup _ => some "tuple"
  | .ref n => match S[n]? with
    | some (.lst _) => some "list"
    | some (.dK _) => some "dict"
    | _ => none
  | .ty _ => none
  | .scr _ => none
theorem tyN_ok {d : D} {v : V} {t : String} (R : Rep K N ι H S) (r : RepV K ι H d v) (e : tyN d S = some t) : TyX K H v (.type t) := by
  cases d with
  | non => cases e; rw [show v = V.non from r]; exact .base .non
  | bl b => cases e; rw [show v = V.bl b from r]; exact .base (.bl b)
  | int i => cases e; rw [show v = V.int i from r]; exact .base (.int i)
  | str x => cases e; rw [show v = V.str x from r]; exact .base (.str x)
  | tup ds =>
    cases e
    obtain ⟨a, xs, rfl, t, _⟩ := r
    rcases t with ⟨o, _, e⟩ | ⟨o, its, n, e, _, c, _⟩
    · exact .fTuple e
    · exact .kTuple e c
  | ref n =>
    unfold tyN at e
    simp only at e
    cases es : S[n]? with
    | none => rw [es] at e; cases e
    | some o =>
      rw [es] at e
      obtain ⟨a, ea, ro⟩ := R.ob n o es
      obtain ⟨b, eb, rfl⟩ := r
      rw [ea] at eb
      cases eb
      cases o with
      | lst ds =>
        cases e
        obtain ⟨xs, q, _⟩ := ro
        exact .base (.lst q)
      | dK kvs =>
        cases e
        obtain ⟨us, q, _⟩ := ro
        exact .base (.dK q)
      | _ => cases e
  | ty _ => cases e
  | scr _ => cases e
def dIsi : Op2 := fun x y S => match y with
  | .ty b => (tyN x S).bind fun a => (kitB a b).map fun r => (.bl r, S)
  | _ => none
theorem k_isi : RNok K N (rIsi K) (f2 dIsi) := RN.two fun ι H S d e v u Q R rx ry g => by
  cases e with
  | ty b =>
    unfold dIsi at g
    simp only at g
    cases e1 : tyN d S with
    | none => rw [e1] at g; exact g.elim
    | some a =>
      cases e2 : kitB a b with
      | none => simp only [e1, e2, Option.bind_some, Option.map_none] at g; exact g.elim
      | some r =>
        simp only [e1, e2, Option.bind_some, Option.map_some] at g
        rw [show u = V.ty b from ry]
        exact rd_isi (tyN_ok R rx e1) e2 (goodO.at g R rfl)
  | _ => exact g.elim
/-! ### texts of numbers, written texts -/
noncomputable def dStr : Op1 := fun d S => match d with
  | .int i => gd (i.natAbs.log2 < 1920) (some (.str (toString i), S))
  | _ => none
theorem k_strI : RNok K N zStrI (f1 dStr) := RN.one (fun _ _ => rfl) fun ι H S d v Q R rx g => by
  cases d with
  | int i =>
    unfold dStr at g
    simp only at g
    cases e : gd (i.natAbs.log2 < 1920) (some (D.str (toString i), S)) with
    | none => rw [e] at g; exact g.elim
    | some p =>
      obtain ⟨h1, h2⟩ := gd_some e
      rw [e, ← h2] at g
      rw [show v = V.int i from rx]
      exact ⟨i, rfl, h1, goodO.at g R rfl⟩
  | _ => exact g.elim
noncomputable def dFmt : Op1 := fun d S => match d with
  | .int i => gd (i.natAbs.log2 < 1920) (some (.str (toString i), S))
  | .str y => gd (y.length ≤ sizeLine) (some (.str y, S))
  | _ => none
noncomputable def dFmtR : Op1 := fun d S => match d with
  | .int i => gd (i.natAbs.log2 < 1920) (some (.str (toString i), S))
  | .str y => gd ((reprText y).length ≤ sizeLine) (some (.str (reprText y), S))
  | _ => none
variable {a b c : Expr} {ma mb mc : M D} {pos : Pos}
theorem ae_fmt (he : AE K N W X a ma) : AE K N W X (.FormattedValue a (-1) none pos) (e1 dFmt ma) := PE.imp (pe_fmt he) fun σ H Q ⟨ι, σa, S, hs, R, g⟩ => bindEE hs R g fun ι1 H1 v d S1 f1 hs1 R1 r1 g1 => by
  have g2 := goodO.of g1
  cases d with
  | int i =>
    unfold dFmt at g2
    simp only at g2
    cases e : gd (i.natAbs.log2 < 1920) (some (D.str (toString i), S1)) with
    | none => rw [e] at g2; exact g2.elim
    | some p =>
      obtain ⟨h1, h2⟩ := gd_some e
      rw [e, ← h2] at g2
      exact .inr ⟨i, r1, h1, goodO.at g2 R1 rfl⟩
  | str y =>
    unfold dFmt at g2
    simp only at g2
    cases e : gd (y.length ≤ sizeLine) (some (D.str y, S1)) with
    | none => rw [e] at g2; exact g2.elim
    | some p =>
      obtain ⟨h1, h2⟩ := gd_some e
      rw [e, ← h2] at g2
      exact .inl ⟨y, r1, h1, goodO.at g2 R1 rfl⟩
  | _ => exact g2.elim
theorem ae_fmtR (he : AE K N W X a ma) : AE K N W X (.FormattedValue a 114 none pos) (e1 dFmtR ma) := PE.imp (pe_fmtR he) fun σ H Q ⟨ι, σa, S, hs, R, g⟩ => bindEE hs R g fun ι1 H1 v d S1 f1 hs1 R1 r1 g1 => by
  have g2 := goodO.of g1
  cases d with
  | int i =>
    unfold dFmtR at g2
    simp only at g2
    cases e : gd (i.natAbs.log2 < 1920) (some (D.str (toString i), S1)) with
    | none => rw [e] at g2; exact g2.elim
    | some p =>
      obtain ⟨h1, h2⟩ := gd_some e
      rw [e, ← h2] at g2
      exact .inr ⟨i, r1, h1, goodO.at g2 R1 rfl⟩
  | str y =>
    unfold dFmtR at g2
    simp only at g2
    cases e : gd ((reprText y).length ≤ sizeLine) (some (D.str (reprText y), S1)) with
    | none => rw [e] at g2; exact g2.elim
    | some p =>
      obtain ⟨h1, h2⟩ := gd_some e
      rw [e, ← h2] at g2
      exact .inl ⟨y, r1, h1, goodO.at g2 R1 rfl⟩
  | _ => exact g2.elim
open Classical in
noncomputable def jsA : List (M D) → Str → M D
  | [], acc => fun _ S => .ok (.str acc) S
  | m :: ms, acc => eBind m fun d => match d with
    | .str y => fun σ S => if (acc ++ y).length ≤ sizeLine then jsA ms (acc ++ y) σ S else .bad
    | _ => fun _ _ => .bad
theorem te_js {Q : VK} : ∀ {ms : List (M D)} {acc : Str} {H : Hp}, teX K N W (jsA ms acc) σ H Q → tJs (ms.map (teX K N W)) acc σ H fun out H1 => Q (.str out) H1
  | [], acc, H, ⟨ι, σa, S, hs, R, g⟩ => goodE.at g R rfl
  | m :: ms, acc, H, ⟨ι, σa, S, hs, R, g⟩ => bindEE hs R g fun ι1 H1 v d S1 f1 hs1 R1 r1 g1 => by
    cases d with
    | str y =>
      refine ⟨y, r1, ?_⟩
      by_cases h : (acc ++ y).length ≤ sizeLine
      · simp only [if_pos h] at g1
        exact ⟨h, te_js ⟨ι1, σa, S1, hs1, R1, g1⟩⟩
      · simp only [if_neg h] at g1
        exact g1.elim
    | _ => exact g1.elim
theorem ae_joined {v1 v2 : Expr} {rest : List Expr} {ms : List (M D)} (h : PJ X (v1 :: v2 :: rest) (ms.map (teX K N W))) : AE K N W X (.JoinedStr (v1 :: v2 :: rest) pos) (jsA ms Str.empty) := PE.imp (pe_joined h) fun σ H Q q => te_js q
theorem ae_joined1 (h : AE K N W X a ma) : AE K N W X (.JoinedStr [a] pos) ma := pe_joined1 h
/-! ### all, any, of truth values -/
def blsOf : List D → Option (List Bool)
  | [] => some []
  | .bl b :: ds => (blsOf ds).map fun bs => b :: bs
  | _ :: _ => none
theorem blsOf_ok : ∀ {ds : List D} {vs : List V} {bs : List Bool}, RepL K ι H ds vs → blsOf ds = some bs → vs = bs.map V.bl
  | [], vs, xs, r, e => by cases e; exact r
  | d :: ds, vs, xs, r, e => by
    obtain ⟨v, r', rfl, rx, rr⟩ := r
    cases d with
    | bl x =>
      unfold blsOf at e
      cases e2 : blsOf ds with
      | none => rw [e2] at e; cases e
      | some ys =>
        rw [e2] at e
        cases e
        rw [blsOf_ok rr e2, show v = V.bl x from rx]
        rfl
    | _ => cases e
def dAll : Op1 := fun d S => (listAt S d).bind fun p => (blsOf p.2).map fun bs => (.bl (bs.all id), S)
def dAny : Op1 := fun d S => (listAt S d).bind fun p => (blsOf p.2).map fun bs => (.bl (bs.any id), S)
theorem k_all : RNok K N (rAll K) (f1 dAll) := RN.one (fun _ _ => rfl) fun ι H S d v Q R rx g => by
  unfold dAll at g
  cases e1 : listAt S d with
  | none => rw [e1] at g; exact g.elim
  | some p =>
    cases e2 : blsOf p.2 with
    | none => simp only [e1, e2, Option.bind_some, Option.map_none] at g; exact g.elim
    | some bs =>
      simp only [e1, e2, Option.bind_some, Option.map_some] at g
      obtain ⟨_, _, a, xs, _, rfl, qa, rl⟩ := listAt_ok R rx e1
      rw [blsOf_ok rl e2] at qa
      exact ⟨a, bs, rfl, SqL.of qa, goodO.at g R rfl⟩
theorem k_any : RNok K N (rAny K) (f1 dAny) := RN.one (fun _ _ => rfl) fun ι H S d v Q R rx g => by
  unfold dAny at g
  cases e1 : listAt S d with
  | none => rw [e1] at g; exact g.elim
  | some p =>
    cases e2 : blsOf p.2 with
    | none => simp only [e1, e2, Option.bind_some, Option.map_none] at g; exact g.elim
    | some bs =>
      simp only [e1, e2, Option.bind_some, Option.map_some] at g
      obtain ⟨_, _, a, xs, _, rfl, qa, rl⟩ := listAt_ok R rx e1
      rw [blsOf_ok rl e2] at qa
      exact ⟨a, bs, rfl, SqL.of qa, goodO.at g R rfl⟩
/-! ### sorted ints -/
def intsOfD : List D → Option (List Int)
  | [] => some []
  | .int b :: ds => (intsOfD ds).map fun bs => b :: bs
  | _ :: _ => none
theorem intsOfD_ok : ∀ {ds : List D} {vs : List V} {bs : List Int}, RepL K ι H ds vs → intsOfD ds = some bs → vs = bs.map V.int
  | [], vs, xs, r, e => by cases e; exact r
  | d :: ds, vs, xs, r, e => by
    obtain ⟨v, r', rfl, rx, rr⟩ := r
    cases d with
    | int x =>
      unfold intsOfD at e
      cases e2 : intsOfD ds with
      | none => rw [e2] at e; cases e
      | some ys =>
        rw [e2] at e
        cases e
        rw [intsOfD_ok rr e2, show v = V.int x from rx]
        rfl
    | _ => cases e
def insI (x : Int) : List Int → List Int
  | [] => [x]
  | y :: ys => if x ≤ y then x :: y :: ys else y :: insI x ys
def srtI : List Int → List Int
  | [] => []
  | x :: xs => insI x (srtI xs)
theorem insI_perm (x : Int) : ∀ l : List Int, (insI x l).Perm (x :: l)
  | [] => .refl _
  | y :: ys => by
    unfold insI
    split
    · exact .refl _
    · exact ((insI_perm x ys).cons y).trans (.swap x y ys)
theorem srtI_perm : ∀ l : List Int, (srtI l).Perm l
  | [] => .refl _
  | x :: xs => (insI_perm x _).trans ((srtI_perm xs).cons x)
theorem insI_le (x : Int) : ∀ {l : List Int}, l.Pairwise (· ≤ ·) → (insI x l).Pairwise (· ≤ ·)
  | [], _ => by simp [insI]
  | y :: ys, h => by
    unfold insI
    have h' := List.pairwise_cons.mp h
    split
    · rename_i c
      exact List.pairwise_cons.mpr ⟨fun z hz => by
        rcases List.mem_cons.mp hz with rfl | hz
        · exact c
        · exact Int.le_trans c (h'.1 z hz), h⟩
    · rename_i c
      refine List.pairwise_cons.mpr ⟨fun z hz => ?_, insI_le x h'.2⟩
      rcases List.mem_cons.mp ((insI_perm x ys).mem_iff.mp hz) with rfl | hz
      · omega
      · exact h'.1 z hz
theorem srtI_le : ∀ l : List Int, (srtI l).Pairwise (· ≤ ·)
  | [] => .nil
  | x :: xs => insI_le x (srtI_le xs)
theorem sorted_uni : ∀ {l m : List Int}, l.Perm m → l.Pairwise (· ≤ ·) → m.Pairwise (· ≤ ·) → l = m
  | [], m, p, _, _ => (List.Perm.nil_eq p)
  | x :: l, [], p, _, _ => absurd p.length_eq (by simp)
  | x :: l, y :: m, p, h1, h2 => by
    have a := List.pairwise_cons.mp h1
    have b := List.pairwise_cons.mp h2
    have e : x = y := by
      have mx : x ∈ y :: m := p.mem_iff.mp List.mem_cons_self
      have my : y ∈ x :: l := p.mem_iff.mpr List.mem_cons_self
      rcases List.mem_cons.mp mx with q | q
      · exact q
      · rcases List.mem_cons.mp my with q' | q'
        · exact q'.symm
        · exact Int.le_antisymm (a.1 y q') (b.1 x q)
    subst e
    rw [sorted_uni ((List.perm_cons x).mp p) a.2 b.2]
def dSrtI : Op1 := fun d S => (listAt S d).bind fun p => (intsOfD p.2).map fun ns => (.ref S.length, S ++ [.lst ((srtI ns).map .int)])
theorem k_sortedI : RNok K N (rSortedI K) (f1 dSrtI) := RN.one (fun _ _ => rfl) fun ι H S d v Q R rx g => by
  unfold dSrtI at g
  cases e1 : listAt S d with
  | none => rw [e1] at g; exact g.elim
  | some p =>
    cases e2 : intsOfD p.2 with
    | none => simp only [e1, e2, Option.bind_some, Option.map_none] at g; exact g.elim
    | some ns =>
      simp only [e1, e2, Option.bind_some, Option.map_some] at g
      obtain ⟨_, _, a, xs, _, rfl, qa, rl⟩ := listAt_ok R rx e1
      rw [intsOfD_ok rl e2] at qa
      refine ⟨a, ns, rfl, SqL.of qa, fun ns' p pp ps hp => ?_⟩
      rw [sorted_uni (pp.trans (srtI_perm ns).symm) ps (srtI_le ns)]
      exact goodO.newL g R (RepL.ints _) hp
/-! ### slices of tuples -/
def zSlT (K : PySem.W.Frag) : V → Option Int → Option Int → Hp → VK → Prop := fun x lo hi H Q => ∃ a xs, x = .ref a ∧ SqT K H a xs ∧
  ¬ (HT.sIx xs.length 0 lo = 0 ∧ HT.sIx xs.length xs.length hi = xs.length) ∧ ∀ (p : Addr) (o : Obj), H p = none → o.dict = Option.none → Q (.ref p) (upd H p (.frz o (.tup (cutV xs lo hi))))
theorem y_slT : SlR X (zSlT X.K) := by
  intro pins s σ H x v vl vu lo hi sl Q I rx hs pl pu h
  obtain ⟨a, xs, rfl, hx, hw, q⟩ := h
  cases rx
  obtain ⟨its, r, ht, hz⟩ := I.tuple hx
  have hlen : its.toArray.size = xs.length := by rw [List.size_toArray]; exact r.length.symm
  refine ⟨"tuple", _, PyProof.Rows.slot_tuple_getitem.lookup, ht.typeIs, ?_⟩
  refine HT.getItem_tuple_cut ht hs pl pu (by rw [hlen]; exact hw) ?_ (by rw [hlen]; exact hz)
  rw [hlen]
  refine ⟨.ref s.heap.objs.size, _, I.laid (t' := s.toks) (o := .frz { cls := .type "tuple", data := .seq ((its.toArray.toList.drop (HT.sIx xs.length 0 lo)).take (HT.sIx xs.length xs.length hi - HT.sIx xs.length 0 lo)).toArray } (.tup (cutV xs lo hi))) (fun b ob q => Heap.get?_push_of_some _ q) (Nat.le_refl _) ?_, rfl, q _ _ (I.hok.fresh (Nat.le_refl _)) rfl⟩
  exact ⟨Heap.get?_push_size _ rfl, Nat.le_trans (cutV_length xs lo hi) hz, _, (r.drop (HT.sIx xs.length 0 lo)).take (HT.sIx xs.length xs.length hi - HT.sIx xs.length 0 lo), IsTup.new _ _⟩
noncomputable def dSlT : OpSl := fun x lo hi S => match x with
  | .tup ds => gd (¬ (HT.sIx ds.length 0 lo = 0 ∧ HT.sIx ds.length ds.length hi = ds.length)) (some (.tup (cutD ds lo hi), S))
  | _ => none
theorem k_slT : SlOk K N (zSlT K) dSlT := fun ι H S x v lo hi Q R rx g => by
  cases x with
  | tup ds =>
    unfold dSlT at g
    simp only at g
    cases e : gd (¬ (HT.sIx ds.length 0 lo = 0 ∧ HT.sIx ds.length ds.length hi = ds.length)) (some (D.tup (cutD ds lo hi), S)) with
    | none => rw [e] at g; exact g.elim
    | some p =>
      obtain ⟨h1, h2⟩ := gd_some e
      rw [e, ← h2] at g
      obtain ⟨a, xs, rfl, t, rl⟩ := rx
      exact ⟨a, xs, rfl, t.seq, by rw [rl.length]; exact h1, fun p o hp ho => goodO.newT g R (rl.cut lo hi) hp ho⟩
  | _ => exact g.elim
/-! ### texts cut at a sign -/
noncomputable def dSplit : Op2 := fun x y S => match x, y with
  | .str a, .str b => gd ((b.length == 0) = false ∧ a.length + 2 ≤ sizeLine) (some (.ref S.length, S ++ [.lst ((Txt.split a b).map .str)]))
  | _, _ => none
theorem RepL.strs : ∀ ns : List Str, RepL K ι H (ns.map .str) (ns.map V.str)
  | [] => rfl
  | n :: ns => RepL.cons rfl (RepL.strs ns)
theorem k_split : RMok K N zSplit dSplit := fun ι H S x d v u Q R rx ry g => by
  cases x with
  | str a =>
    cases d with
    | str b =>
      unfold dSplit at g
      simp only at g
      cases e : gd ((b.length == 0) = false ∧ a.length + 2 ≤ sizeLine) (some (D.ref S.length, S ++ [O.lst ((Txt.split a b).map D.str)])) with
      | none => rw [e] at g; exact g.elim
      | some p =>
        obtain ⟨h1, h2⟩ := gd_some e
        rw [e, ← h2] at g
        rw [show u = V.str b from ry]
        exact ⟨a, b, rx, rfl, h1.1, h1.2, fun p hp => goodO.newL g R (RepL.strs _) hp⟩
    | _ => exact g.elim
  | _ => exact g.elim
end
noncomputable def dSortSet : Op1 := fun d S => match d with
  | .tup ds => (strsOf ds).bind fun xs => gd (xs.length < 60) (some (.ref S.length, S ++ [.lst ((srtS xs).map .str)]))
  | _ => none
section
variable {K : PySem.W.Frag} {N : Nms} {W : WX} {ι ι' : List Addr} {H H' : Hp} {σ : L2.St} {σa : Sl} {S : Sto} {X : Cx}
theorem ae_cb {r : List V → Hp → VK → Prop} {f : OpN} {m : M (List D)} {e : Expr} (hr : RNok K N r f) (hp : PE X e (tCB r (taX K N W m))) : AE K N W X e (eN f m) := PE.imp hp fun σ H Q h => te_cb hr h
theorem ae_sortSet {a : Expr} {ma : M D} {p p2 pos pos2 : Pos} (hc : X.calm = true) (g1 : Gl X "sorted") (z1 : X.mg "sorted" = none) (g2 : Gl X "set") (z2 : X.mg "set" = none) (he : AE K N W X a ma) (n1 : starEach [a] X.env = (false, eval a X.env) :: starEach [] X.env := by rfl)
    (n2 : starEach [.Call (.Name "set" p2) [a] [] pos2] X.env = (false, eval (.Call (.Name "set" p2) [a] [] pos2) X.env) :: starEach [] X.env := by rfl) (hK : X.K = K := by rfl) :
    AE K N W X (.Call (.Name "sorted" p) [.Call (.Name "set" p2) [a] [] pos2] [] pos) (e1 dSortSet ma) := by
  subst hK
  refine PE.imp (pe_callB (cr_srtS hc) g1 z1 (by decide +kernel) (pa_cons (pe_callTy (cr_setS hc) g2 z2 (by decide +kernel) (pa_cons he pa_nil n1) (he := n1) (hpl := rfl)) pa_nil n2) (he := n2) (hpl := rfl)) fun σ H Q ⟨ι, σa, S, hs, R, g⟩ => ?_
  refine ⟨ι, σa, S, hs, R, ?_⟩
  unfold goodE at g ⊢
  unfold e1 eBind at g
  cases em : ma σa S with
  | bad => rw [em] at g; exact g
  | ex C S1 => rw [em] at g; exact g
  | ok d S1 =>
    rw [em] at g
    simp only [Res.bind_ok] at g
    intro ι1 H1 v f1 R1 r1
    unfold dSortSet at g
    cases d with
    | tup ds =>
      simp only at g
      cases e2 : strsOf ds with
      | none => rw [e2] at g; exact g.elim
      | some xs =>
        rw [e2, Option.bind_some] at g
        by_cases few : xs.length < 60
        · rw [gd_ok few] at g
          obtain ⟨t, vs, rfl, tt, rl⟩ := r1
          have ev := strsOf_ok rl e2
          subst ev
          have g' : goodO X.K N (some (D.ref S1.length, S1 ++ [.lst ((srtS xs).map .str)])) ι H Q := g
          refine ⟨t, xs, rfl, tt.seq, few, fun p hp => ⟨p, xs, rfl, upd_same, few, fun p2 hp2 => ?_⟩⟩
          exact goodO.newL ((g'.fut f1).fut (fut_upd0 hp)) (R1.grow hp) (RepL.strs _) hp2
        · unfold gd at g
          rw [if_neg few] at g
          exact g.elim
    | _ => exact g.elim
end
section
variable {P : Program} {w : World} {K : PySem.W.Frag} {N : Nms} {mg : Str → Option Value} {base : Heap} {k : Nat} {x : Str} {st : Stmt} {ps Ns : List Str} {f : Addr} {fd : FuncData}
theorem okF0 {c : Sm} {np n : Nat} (F : Fun K x x st f fd) (Sc : FnScope Ns ps (defScope st)) (hp : ps.length = np) (hn : Ns.length = n)
    (hb : ∀ (f : Addr) (cdv : Value) (A : Around) (outer : List Env) (s : Shared) (H : Hp) (E : XK), Room k (A.deeper (envOfC x (defScope st) s.heap.objs.size f cdv)) →
      ASs K N noW (cxOf CX0 P w K mg base Ns x (defScope st) f cdv A outer s H E).nox (defBody st) c) : FnOk P w K mg base CX0 (k + 1) f fd ps (spA K N (fn0 np n c)) :=
  ok_F F Sc (fun vs H Q E h => by rw [hp]; exact spA_len0 h) fun cdv A outer s H vs Q E hr h => ⟨_, hb f cdv A outer s H E hr, enter0 hn h⟩
end
/-! ### dicts with ints or texts as keys -/
def kOf : D → Option Key
  | .int i => some (.inl i)
  | .str x => some (.inr x)
  | _ => none
def valD (kvs : List (Key × D)) (k : Key) : Option D := (kvs.find? fun kv => decide (kv.1 = k)).map (·.2)
def putD (kvs : List (Key × D)) (k : Key) (v : D) : List (Key × D) :=
  if (kvs.any fun kv => decide (kv.1 = k)) = true then kvs.map (fun kv => if kv.1 = k then (kv.1, v) else kv) else kvs ++ [(k, v)]
def dropD (kvs : List (Key × D)) (k : Key) : List (Key × D) := kvs.filter fun kv => decide (kv.1 ≠ k)
def dictAt (S : Sto) (d : D) : Option (Nat × List (Key × D)) := match d with
  | .ref n => match S[n]? with
    | some (.dK kvs) => some (n, kvs)
    | _ => none
  | _ => none
section
variable {K : PySem.W.Frag} {N : Nms} {W : WX} {ι ι' : List Addr} {H H' : Hp} {σ : L2.St} {σa : Sl} {S : Sto} {X : Cx}
theorem kOf_ok {d : D} {v : V} {k : Key} (r : RepV K ι H d v) (e : kOf d = some k) : v = kV k := by
  cases d with
  | int i => cases e; exact r
  | str x => cases e; exact r
  | _ => cases e
theorem RepK.nil : RepK K ι H [] [] := ⟨rfl, rfl⟩
theorem RepK.cons {k : Key} {d : D} {v : V} {kvs : List (Key × D)} {us : List (Key × V)} (r : RepV K ι H d v) (h : RepK K ι H kvs us) : RepK K ι H ((k, d) :: kvs) ((k, v) :: us) := ⟨congrArg (k :: ·) h.1, RepL.cons r h.2⟩
theorem RepK.inv {k : Key} {d : D} {kvs : List (Key × D)} {us : List (Key × V)} (h : RepK K ι H ((k, d) :: kvs) us) : ∃ v ws, us = (k, v) :: ws ∧ RepV K ι H d v ∧ RepK K ι H kvs ws := by
  obtain ⟨h1, x, r, e, rx, rr⟩ := h
  cases us with
  | nil => cases h1
  | cons u ws =>
    obtain ⟨k', v⟩ := u
    simp only [List.map_cons, List.cons.injEq] at h1 e
    obtain ⟨rfl, h1⟩ := h1
    obtain ⟨rfl, e⟩ := e
    exact ⟨v, ws, rfl, rx, h1, e ▸ rr⟩
theorem RepK.nil_inv {us : List (Key × V)} (h : RepK K ι H [] us) : us = [] := by
  cases us with
  | nil => rfl
  | cons u ws => cases h.1
theorem RepK.length {kvs : List (Key × D)} {us : List (Key × V)} (h : RepK K ι H kvs us) : us.length = kvs.length := by
  have := congrArg List.length h.1
  rw [List.length_map, List.length_map] at this
  exact this.symm
theorem RepK.val : ∀ {kvs : List (Key × D)} {us : List (Key × V)} (k : Key), RepK K ι H kvs us → (valD kvs k = none ∧ valV us k = none) ∨ ∃ d v, valD kvs k = some d ∧ valV us k = some v ∧ RepV K ι H d v
  | [], us, k, h => by
    rw [h.nil_inv]
    exact .inl ⟨rfl, rfl⟩
  | (j, d) :: kvs, us, k, h => by
    obtain ⟨v, ws, rfl, rv, hr⟩ := h.inv
    by_cases e : j = k
    · exact .inr ⟨d, v, by simp [valD, List.find?_cons, e], by simp [valV, List.find?_cons, e], rv⟩
    · rcases hr.val k with ⟨a, b⟩ | ⟨d', v', a, b, c⟩
      · exact .inl ⟨by simpa [valD, List.find?_cons, e] using a, by simpa [valV, List.find?_cons, e] using b⟩
      · exact .inr ⟨d', v', by simpa [valD, List.find?_cons, e] using a, by simpa [valV, List.find?_cons, e] using b, c⟩
theorem RepK.append : ∀ {kvs js : List (Key × D)} {us ws : List (Key × V)}, RepK K ι H kvs us → RepK K ι H js ws → RepK K ι H (kvs ++ js) (us ++ ws)
  | [], js, us, ws, h, g => by rw [h.nil_inv]; exact g
  | (j, d) :: kvs, js, us, ws, h, g => by
    obtain ⟨v, r, rfl, rv, hr⟩ := h.inv
    exact .cons rv (hr.append g)
theorem RepK.over {k : Key} {d : D} {v : V} (r : RepV K ι H d v) : ∀ {kvs : List (Key × D)} {us : List (Key × V)}, RepK K ι H kvs us → RepK K ι H (kvs.map fun kv => if kv.1 = k then (kv.1, d) else kv) (us.map fun kv => if kv.1 = k then (kv.1, v) else kv)
  | [], us, h => by rw [h.nil_inv]; exact .nil
  | (j, d') :: kvs, us, h => by
    obtain ⟨v', ws, rfl, rv, hr⟩ := h.inv
    rw [List.map_cons, List.map_cons]
    by_cases e : j = k
    · rw [if_pos e, if_pos e]
      exact .cons r (RepK.over r hr)
    · rw [if_neg e, if_neg e]
      exact .cons rv (RepK.over r hr)
theorem RepK.anyK {p : Key → Bool} : ∀ {kvs : List (Key × D)} {us : List (Key × V)}, RepK K ι H kvs us → kvs.any (fun kv => p kv.1) = us.any fun kv => p kv.1
  | [], us, h => by rw [h.nil_inv]; rfl
  | (j, d') :: kvs, us, h => by
    obtain ⟨v', ws, rfl, rv, hr⟩ := h.inv
    rw [List.any_cons, List.any_cons, hr.anyK]
theorem RepK.put {k : Key} {d : D} {v : V} {kvs : List (Key × D)} {us : List (Key × V)} (h : RepK K ι H kvs us) (r : RepV K ι H d v) : RepK K ι H (putD kvs k d) (putK us k v) := by
  unfold putD putK
  rw [h.anyK (p := fun j => decide (j = k))]
  split
  · exact h.over r
  · exact h.append (.cons r .nil)
theorem RepK.drop {k : Key} : ∀ {kvs : List (Key × D)} {us : List (Key × V)}, RepK K ι H kvs us → RepK K ι H (dropD kvs k) (dropK us k)
  | [], us, h => by rw [h.nil_inv]; exact .nil
  | (j, d') :: kvs, us, h => by
    obtain ⟨v', ws, rfl, rv, hr⟩ := h.inv
    have q := hr.drop (k := k)
    unfold dropD dropK at q ⊢
    rw [List.filter_cons, List.filter_cons]
    by_cases e : j = k
    · rw [if_neg (by simp [e]), if_neg (by simp [e])]
      exact q
    · rw [if_pos (by simp [e]), if_pos (by simp [e])]
      exact .cons rv q
theorem dictAt_ok {d : D} {v : V} {n : Nat} {kvs : List (Key × D)} (R : Rep K N ι H S) (r : RepV K ι H d v) (e : dictAt S d = some (n, kvs)) : d = .ref n ∧ S[n]? = some (.dK kvs) ∧ ∃ a us, ι[n]? = some a ∧ v = .ref a ∧ H a = some (.dK us) ∧ RepK K ι H kvs us := by
  cases d with
  | ref m =>
    unfold dictAt at e
    simp only at e
    cases es : S[m]? with
    | none => rw [es] at e; cases e
    | some o =>
      rw [es] at e
      cases o with
      | dK ks =>
        cases e
        obtain ⟨a, ea, us, q, rk⟩ := R.ob _ _ es
        obtain ⟨b, eb, rfl⟩ := r
        rw [ea] at eb
        cases eb
        exact ⟨rfl, es, a, us, ea, rfl, q, rk⟩
      | _ => cases e
  | _ => cases e
/-- d[k] -/
def dGetK : Op2 := fun x y S => (dictAt S x).bind fun p => (kOf y).bind fun k => (valD p.2 k).map fun d => (d, S)
theorem ae_dgetK {a b : Expr} {ma mb : M D} {pos : Pos} (hu : X.A.units + 64 < cLine) (ha : AE K N W X a ma) (hb : AE K N W X b mb) (hs : NoSl b := by intro _ _; rfl) : AE K N W X (.Subscript a b pos) (e2 dGetK ma mb) :=
  PE.imp (pe_dget (by omega) ha hb hs) fun σ H Q ⟨ι, σa, S, hs, R, g⟩ =>
    bindEE hs R g fun ι1 H1 v x S1 f1 hs1 R1 r1 g1 => bindEE hs1 R1 g1 fun ι2 H2 u y S2 f2 hs2 R2 r2 g2 => by
      have g3 := goodO.of g2
      have r1' := r1.fut f2
      unfold dGetK at g3
      cases e1 : dictAt S2 x with
      | none => rw [e1] at g3; exact g3.elim
      | some p =>
        cases e2 : kOf y with
        | none => rw [e1, e2] at g3; exact g3.elim
        | some k =>
          obtain ⟨_, _, c, us, _, rfl, q, rk⟩ := dictAt_ok (n := p.1) (kvs := p.2) R2 r1' e1
          rcases rk.val k with ⟨n1, _⟩ | ⟨d, w, v1, v2, rw2⟩
          · simp only [e1, e2, Option.bind_some, n1, Option.map_none] at g3
            exact g3.elim
          · simp only [e1, e2, Option.bind_some, v1, Option.map_some] at g3
            refine ⟨c, w, rfl, ?_, goodO.at g3 R2 rw2⟩
            rw [kOf_ok r2 e2, ← v2]
            exact DGet.k q
/-- k in d -/
def dInK (neg : Bool) : Op2 := fun y x S => (dictAt S x).bind fun p => (kOf y).map fun k => (.bl (if neg then !(valD p.2 k).isSome else (valD p.2 k).isSome), S)
theorem in_isSome {k : Key} {kvs : List (Key × D)} {us : List (Key × V)} (h : RepK K ι H kvs us) : (valV us k).isSome = (valD kvs k).isSome := by
  rcases h.val k with ⟨a, b⟩ | ⟨d, v, a, b, _⟩ <;> rw [a, b] <;> rfl
open Classical in
/-- d[k] = v -/
noncomputable def dSetK : OpS := fun o i v S => (dictAt S o).bind fun p => (kOf i).bind fun k => if p.2.length < sizeLine then some (S.set p.1 (.dK (putD p.2 k v))) else none
def rSetK : TSet := fun o i v H Q => ∃ a H4, o = .ref a ∧ DPut H a i v H4 ∧ Q H4
theorem set_dK (hu : X.A.units + 64 < cLine) : PSet X rSetK := by
  intro pins s σ H o i v ov iv u Q I ro ri rv h
  obtain ⟨a, H4, rfl, g, q⟩ := h
  cases ro
  exact d_setItem (by omega) I g ri rv fun s4 I4 => ⟨H4, I4, q⟩
theorem k_setK : SetOk K N rSetK dSetK := fun ι H S o i d vo vi v Q R ro ri rd ⟨S', e, q⟩ => by
  unfold dSetK at e
  cases e1 : dictAt S o with
  | none => rw [e1] at e; cases e
  | some p =>
    cases e2 : kOf i with
    | none => rw [e1, e2] at e; cases e
    | some k =>
      simp only [e1, e2, Option.bind_some] at e
      by_cases hl : p.2.length < sizeLine
      · rw [if_pos hl] at e
        cases e
        obtain ⟨_, _, a, us, ea, rfl, hq, rk⟩ := dictAt_ok (n := p.1) (kvs := p.2) R ro e1
        have P := R.put (o := .dK (putK us k v)) (ob := .dK (putD p.2 k d)) ea fun H' eH fu => ⟨putK us k v, by rw [eH, upd_same], (rk.put rd).fut fu⟩
        exact ⟨a, _, rfl, .inl ⟨us, k, hq, kOf_ok ri e2, by rw [rk.length]; exact hl, rfl⟩, q _ _ P.2 P.1⟩
      · rw [if_neg hl] at e
        cases e
/-- sorted(d), the keys ints -/
def keysI : List (Key × D) → Option (List Int)
  | [] => some []
  | (.inl i, _) :: r => (keysI r).map fun l => i :: l
  | (.inr _, _) :: _ => none
theorem keysI_ok : ∀ {kvs : List (Key × D)} {ns : List Int}, keysI kvs = some ns → kvs.map (·.1) = ns.map Sum.inl
  | [], ns, e => by cases e; rfl
  | (.inl i, d) :: r, ns, e => by
    cases h : keysI r with
    | none => rw [keysI, h] at e; cases e
    | some l =>
      rw [keysI, h] at e
      cases e
      rw [List.map_cons, List.map_cons, keysI_ok h]
  | (.inr _, _) :: _, ns, e => by cases e
noncomputable def dSortDI : Op1 := fun d S => (dictAt S d).bind fun p => (keysI p.2).bind fun ns => gd (ns.length < 64) (some (.ref S.length, S ++ [.lst ((srtI ns).map .int)]))
def rSortDI : List V → Hp → VK → Prop := fun xs H Q => ∃ (a : Addr) (kvs : List (Key × V)) (ks : List Int), xs = [.ref a] ∧ Rd H a (.dK kvs) ∧ kvs.map (·.1) = ks.map Sum.inl ∧ ks.length < 64 ∧
  ∀ (ys : List Int) (p : Addr), ys.Perm ks → ys.Pairwise (· ≤ ·) → H p = none → Q (.ref p) (upd H p (.lst (ys.map V.int)))
theorem cr_sortDI (hc : X.calm = true) : CallR X (.builtin "sorted") rSortDI := call_sortedDI hc
theorem k_sortDI : RNok K N rSortDI (f1 dSortDI) := RN.one (fun _ _ => rfl) fun ι H S d v Q R rx g => by
  unfold dSortDI at g
  cases e1 : dictAt S d with
  | none => rw [e1] at g; exact g.elim
  | some p =>
    cases e2 : keysI p.2 with
    | none => simp only [e1, e2, Option.bind_some, Option.bind_none] at g; exact g.elim
    | some ns =>
      simp only [e1, e2, Option.bind_some] at g
      by_cases hl : ns.length < 64
      · rw [gd_ok hl] at g
        obtain ⟨_, _, a, us, _, rfl, q, rk⟩ := dictAt_ok (n := p.1) (kvs := p.2) R rx e1
        refine ⟨a, us, ns, rfl, .inl q, rk.1.symm.trans (keysI_ok e2), hl, fun ys b pp ps hb => ?_⟩
        rw [sorted_uni (pp.trans (srtI_perm ns).symm) ps (srtI_le ns)]
        exact goodO.newL g R (RepL.ints _) hb
      · unfold gd at g
        rw [if_neg hl] at g
        exact g.elim
/-! ### comprehensions that make a dict -/
open Classical in
noncomputable def dcA (gd : Sto → Prop) (t : CTg) (vs : List Nat) (tt : M Bool) (tk te : M D) (n : Nat) (σ : Sl) : List D → Sto → Option Sto
  | [], S => some S
  | d :: r, S => match cgs t d (wipeA σ vs) with
    | none => none
    | some σ2 => match tt σ2 S with
      | .ok true S1 => match tk σ2 S1 with
        | .ok y S2 => match te σ2 S2 with
          | .ok z S3 => match S3[n]?, kOf y with
            | some (.dK kvs), some k => if kvs.length < sizeLine ∧ gd (S3.set n (.dK (putD kvs k z))) then dcA gd t vs tt tk te n σ r (S3.set n (.dK (putD kvs k z))) else none
            | _, _ => none
          | _ => none
        | _ => none
      | .ok false S1 => if gd S1 then dcA gd t vs tt tk te n σ r S1 else none
      | _ => none
open Classical in
noncomputable def eDc (m : M Src) (t : CTg) (vs : List Nat) (tt : M Bool) (tk te : M D) : M D := fun σ S => match m σ S with
  | .ok src S0 => if src.gd S0 ∧ src.gd (S0 ++ [.dK []]) then (match dcA src.gd t vs tt tk te S0.length σ src.items (S0 ++ [.dK []]) with
    | some S' => .ok (.ref S0.length) S'
    | none => .bad) else .bad
  | .ex C S0 => .ex C S0
  | .bad => .bad
def dcR (n : Nat) (r : Option Sto) : Res D := match r with
  | some S' => .ok (.ref n) S'
  | none => .bad
theorem te_dc {q : Bool} {m : M Src} {t : CTg} {vs : List Nat} {tt : M Bool} {tk te : M D} {Q : VK} (hq : q = t.q) (hj : ∀ j ∈ t.own, j ∈ vs) (h : teX K N W (eDc m t vs tt tk te) σ H Q) :
    tDc (tiX K N W q m) (ctg K t) (tbX K N noW tt) (teX K N noW tk) (teX K N noW te) vs σ H Q := by
  subst hq
  obtain ⟨ι, σa, S, hs, Rp, g⟩ := h
  refine ⟨ι, σa, S, hs, Rp, ?_⟩
  unfold eDc at g
  cases e : m σa S with
  | ex C S0 =>
    rw [e] at g
    exact g
  | bad =>
    rw [e] at g
    exact g
  | ok src S0 =>
    rw [e] at g
    simp only at g
    by_cases hgd : src.gd S0 ∧ src.gd (S0 ++ [.dK []])
    case neg =>
      rw [if_neg hgd] at g
      exact g.elim
    rw [if_pos hgd] at g
    refine ⟨hgd.1, fun ι1 H1 J f1 R1 hJ D hD => ?_⟩
    have R2 : Rep K N (ι1 ++ [D]) (upd H1 D (.dK [])) (S0 ++ [.dK []]) := R1.new hD ⟨[], upd_same, .nil⟩
    have f2 : Fut K ι1 H1 (ι1 ++ [D]) (upd H1 D (.dK [])) := fut_new hD
    have hn : (ι1 ++ [D])[S0.length]? = some D := by rw [← R1.len, List.getElem?_append_right (Nat.le_refl _), Nat.sub_self]; rfl
    refine ⟨fun i m H' => m = src.items.length - i ∧ i ≤ src.items.length ∧ ∃ ι2 S2, Fut K (ι1 ++ [D]) (upd H1 D (.dK [])) ι2 H' ∧ Rep K N ι2 H' S2 ∧ src.gd S2 ∧
        goodE K N W (dcR S0.length (dcA src.gd t vs tt tk te S0.length σa (src.items.drop i) S2)) ι2 H' σ Q,
      ⟨_, rfl, Nat.zero_le _, _, _, Fut.refl _ _, R2, hgd.2, goodE.fut (r := dcR S0.length (dcA src.gd t vs tt tk te S0.length σa src.items (S0 ++ [.dK []]))) g (f1.trans f2)⟩, ?_⟩
    rintro i m H3 ⟨rfl, hi, ι3, S3, f3, R3, gd3, g3⟩
    obtain ⟨w1, w2, w3⟩ := hJ ι3 H3 S3 (f2.trans f3) R3 gd3
    have hs3 : RepSl K ι3 H3 σa σ := ((hs.fut f1).fut f2).fut f3
    by_cases hlt : i < src.items.length
    · refine .inr ⟨w1 i hlt, _, fun H' p => ⟨src.items.length - (i + 1), by omega, p⟩, fun x H4 y => ?_⟩
      obtain ⟨ι4, d, f4, R4, ed, rd⟩ := w2 i x H4 hlt y
      have hd : src.items.drop i = d :: src.items.drop (i + 1) := by
        rw [List.drop_eq_getElem_cons hlt]
        rw [List.getElem?_eq_getElem hlt] at ed
        rw [Option.some.inj ed]
      rw [hd, dcA] at g3
      cases eg : cgs t d (wipeA σa vs) with
      | none =>
        simp only [eg] at g3
        exact g3.elim
      | some σ5 =>
        simp only [eg] at g3
        refine ctg_ok hj ((hs3.fut f4).wipe vs) rd eg fun σ6 hs6 w6 => ?_
        refine ⟨by rw [w6, wipe_wipe], ι4, σ5, S3, hs6, R4, ?_⟩
        cases et : tt σ5 S3 with
        | ex C S4 =>
          simp only [et] at g3
          exact g3.elim
        | bad =>
          simp only [et] at g3
          exact g3.elim
        | ok b S4 =>
          intro ι5 H5 f5 R5
          cases b with
          | false =>
            simp only [et] at g3
            refine iteF ?_
            by_cases hg4 : src.gd S4
            · rw [if_pos hg4] at g3
              exact ⟨rfl, by omega, ι5, S4, (f3.trans f4).trans f5, R5, hg4, goodE.fut (r := dcR S0.length (dcA src.gd t vs tt tk te S0.length σa (src.items.drop (i + 1)) S4)) g3 (f4.trans f5)⟩
            · rw [if_neg hg4] at g3
              exact g3.elim
          | true =>
            simp only [et] at g3
            refine iteT ⟨ι5, σ5, S4, hs6.fut f5, R5, ?_⟩
            cases ek : tk σ5 S4 with
            | ex C S5 =>
              simp only [ek] at g3
              exact g3.elim
            | bad =>
              simp only [ek] at g3
              exact g3.elim
            | ok y S5 =>
              simp only [ek] at g3
              intro ι6 H6 vy f6 R6 ry
              refine ⟨ι6, σ5, S5, (hs6.fut f5).fut f6, R6, ?_⟩
              cases ee : te σ5 S5 with
              | ex C S6 =>
                simp only [ee] at g3
                exact g3.elim
              | bad =>
                simp only [ee] at g3
                exact g3.elim
              | ok z S6 =>
                simp only [ee] at g3
                intro ι7 H7 vz f7 R7 rz
                cases ea : S6[S0.length]? with
                | none =>
                  simp only [ea] at g3
                  exact g3.elim
                | some o =>
                  cases o with
                  | dK kvs =>
                    cases ky : kOf y with
                    | none =>
                      simp only [ea, ky] at g3
                      exact g3.elim
                    | some k =>
                      simp only [ea, ky] at g3
                      by_cases hz : kvs.length < sizeLine ∧ src.gd (S6.set S0.length (.dK (putD kvs k z)))
                      · rw [if_pos hz] at g3
                        have fD := (((f3.trans f4).trans f5).trans f6).trans f7
                        obtain ⟨a, ia, us, q, rk⟩ := R7.ob _ _ ea
                        rw [fD.ix hn] at ia
                        cases ia
                        have P := R7.put (o := .dK (putK us k vz)) (ob := .dK (putD kvs k z)) (fD.ix hn) (fun H' eH fu => ⟨putK us k vz, by rw [eH, upd_same], (rk.put rz).fut fu⟩)
                        refine ⟨us, k, kOf_ok ry ky, q, by rw [rk.length]; exact hz.1, rfl, by omega, ι7, _, fD.trans P.2, P.1, hz.2, ?_⟩
                        exact goodE.fut (r := dcR S0.length (dcA src.gd t vs tt tk te S0.length σa (src.items.drop (i + 1)) (S6.set S0.length (.dK (putD kvs k z))))) g3 ((((f4.trans f5).trans f6).trans f7).trans P.2)
                      · rw [if_neg hz] at g3
                        exact g3.elim
                  | _ =>
                    simp only [ea] at g3
                    exact g3.elim
    · have en : i = src.items.length := by omega
      rw [en, List.drop_length, dcA] at g3
      exact .inl ⟨w3 i (by omega), g3 ι3 H3 _ (Fut.refl _ _) R3 ⟨D, f3.ix hn, rfl⟩⟩
theorem ae_dc {t : CTg} {m : M Src} {tt : M Bool} {tk te : M D} {kx vx tg iter : Expr} {ifs : List Expr} {scope : Scope} {own : List (Str × Nat)} {pos : Pos} (hc : X.calm = true) (hN : X.N.Nodup) (hi : AI K N W t.q X tg iter m) (ok : BlkOk X.N X.env.scope scope own)
    (hg : ∀ (s : Shared) (H : Hp) (C : Addr) (cl : List (Str × Addr)) (fp : List Addr), PG (X.blk s H scope (compEnvC scope cl C X.env) fp) tg (ctg K t))
    (ht : ∀ (s : Shared) (H : Hp) (C : Addr) (cl : List (Str × Addr)) (fp : List Addr), ATs K N noW (X.blk s H scope (compEnvC scope cl C X.env) fp) ifs tt)
    (hk : ∀ (s : Shared) (H : Hp) (C : Addr) (cl : List (Str × Addr)) (fp : List Addr), AE K N noW (X.blk s H scope (compEnvC scope cl C X.env) fp) kx tk)
    (he : ∀ (s : Shared) (H : Hp) (C : Addr) (cl : List (Str × Addr)) (fp : List Addr), AE K N noW (X.blk s H scope (compEnvC scope cl C X.env) fp) vx te) (hj : ∀ j ∈ t.own, j ∈ own.map (·.2) := by decide) (hs : ∀ x, foldedSetIterable iter X.env x = pure x := by intro _; rfl) :
    AE K N W X (.DictComp kx vx [⟨tg, iter, ifs, 0⟩] scope pos) (eDc m t (own.map (·.2)) tt tk te) := PE.imp (pe_dc hc hN hi ok hg ht hk he hs) fun σ H Q h => te_dc rfl hj h
/-- x = {k: v for ..}, the name seen by the block -/
theorem ps_setDc {i : Nat} {y : Str} {py : Pos} {kx vx tg iter : Expr} {ifs : List Expr} {scope : Scope} {own : List (Str × Nat)} {pos spos : Pos} {wi : TI} {g : TG} {tt : TT} {tk tv : TE} (hc : X.calm = true) (hN : X.N.Nodup) (iy : X.N[i]? = some y) (ly : X.env.scope.names.lookup y = some .local)
    (sw : swapsWith (.DictComp kx vx [⟨tg, iter, ifs, 0⟩] scope pos) (some (.Name y py)) spos.line X.env = pure true) (hi : PI X tg iter wi) (ok : BlkOk X.N X.env.scope scope own)
    (hg : ∀ (s : Shared) (H : Hp) (C : Addr) (cl : List (Str × Addr)) (fp : List Addr), PG (X.blk s H scope (compEnvC scope cl C X.env) fp) tg g)
    (ht : ∀ (s : Shared) (H : Hp) (C : Addr) (cl : List (Str × Addr)) (fp : List Addr), PTs (X.blk s H scope (compEnvC scope cl C X.env) fp) ifs tt)
    (hk : ∀ (s : Shared) (H : Hp) (C : Addr) (cl : List (Str × Addr)) (fp : List Addr), PE (X.blk s H scope (compEnvC scope cl C X.env) fp) kx tk)
    (he : ∀ (s : Shared) (H : Hp) (C : Addr) (cl : List (Str × Addr)) (fp : List Addr), PE (X.blk s H scope (compEnvC scope cl C X.env) fp) vx tv) (hs : ∀ x, foldedSetIterable iter X.env x = pure x := by intro _; rfl) :
    PS X (.Assign [.Name y py] (.DictComp kx vx [⟨tg, iter, ifs, 0⟩] scope pos) spos) (tAsg (tDc wi g tt tk tv (own.map (·.2))) (gName i)) := by
  constructor
  intro pins s σ H T I h
  have hd : tDc wi g tt tk tv (own.map (·.2)) σ H (fun x H1 => gName i x σ H1 T.nx) := h
  rw [exec_Assign_Name_used _ _ _ _ sw]
  refine wpAny_bind (wpAny_standAt (wpAny_bind ?_))
  refine wpAny_bind (m := comprehension (.DictComp kx vx [⟨tg, iter, ifs, 0⟩] scope pos) scope X.env (firstIterPos [⟨tg, iter, ifs, 0⟩] pos) newDict false (eval iter X.env) (some (assign (.Name y py) X.env))) (thn (dc_core (Qf := fun _ s' => SP X pins T .next s') hc hN I hi ok hg ht hk he hs hd fun A0 C0 s0 m0 H0 I0 q0 n0 fp0 => ?_) fun _ s' q => wpAny_pure (wpAny_pure q))
  obtain ⟨p0, p1, p2, p3, p4, p5⟩ := fp0
  refine wpAny_assign_Name (store_ok2 (v := V.ref A0) I0 hN iy (.inl ly) rfl (fun s2 I2 ⟨a, sb, at2⟩ => ?_) (.inr ly))
  have ne : C0 ≠ a := by
    rcases at2 with z | z
    · exact fun e => p1 (by rw [e, z])
    · exact fun e => p4 y a z e.symm
  exact ⟨m0, n0.sameBut sb ne, fun h3 sb3 => ⟨_, H0, I2.turned (t' := s2.toks) (fun b o hb e => (sb3.2 b hb).trans e) p0 p1 p3 p4 p5, q0⟩⟩
theorem swD_true {kx vx : Expr} {gs : List Comprehension} {scope : Scope} {pos py : Pos} {y : Str} {l : Nat} {env : Env} (fk : env.scope.kind = .function) (ly : env.scope.names.lookup y = some .local) (sl : (py.line == pos.line) = true)
    (nt : (scope.names.any fun (n, k) => n == y && (k == .local || k == .cell)) = false) : swapsWith (.DictComp kx vx gs scope pos) (some (.Name y py)) l env = pure true := by
  have k1 : env.kindOf y = some .local := ly
  have k2 : env.blockKind = .function := by
    unfold Env.blockKind
    rw [fk]
    rfl
  unfold swapsWith
  simp only [k1, k2, nt, Expr.pos, sl]
  rfl
theorem as_setDc {i : Nat} {y : Str} {py : Pos} {t : CTg} {m : M Src} {tt : M Bool} {tk te : M D} {kx vx tg iter : Expr} {ifs : List Expr} {scope : Scope} {own : List (Str × Nat)} {pos spos : Pos} (hc : X.calm = true) (hN : X.N.Nodup) (hy : X.N[i]? = some y) (hyl : X.env.scope.names.lookup y = some .local)
    (hsw : swapsWith (.DictComp kx vx [⟨tg, iter, ifs, 0⟩] scope pos) (some (.Name y py)) spos.line X.env = pure true) (hi : AI K N W t.q X tg iter m) (ok : BlkOk X.N X.env.scope scope own)
    (hg : ∀ (s : Shared) (H : Hp) (C : Addr) (cl : List (Str × Addr)) (fp : List Addr), PG (X.blk s H scope (compEnvC scope cl C X.env) fp) tg (ctg K t))
    (ht : ∀ (s : Shared) (H : Hp) (C : Addr) (cl : List (Str × Addr)) (fp : List Addr), ATs K N noW (X.blk s H scope (compEnvC scope cl C X.env) fp) ifs tt)
    (hk : ∀ (s : Shared) (H : Hp) (C : Addr) (cl : List (Str × Addr)) (fp : List Addr), AE K N noW (X.blk s H scope (compEnvC scope cl C X.env) fp) kx tk)
    (he : ∀ (s : Shared) (H : Hp) (C : Addr) (cl : List (Str × Addr)) (fp : List Addr), AE K N noW (X.blk s H scope (compEnvC scope cl C X.env) fp) vx te) (hj : ∀ j ∈ t.own, j ∈ own.map (·.2) := by decide) (hs : ∀ x, foldedSetIterable iter X.env x = pure x := by intro _; rfl) :
    AS K N W X (.Assign [.Name y py] (.DictComp kx vx [⟨tg, iter, ifs, 0⟩] scope pos) spos) (cSet i (eDc m t (own.map (·.2)) tt tk te)) := PS.imp (ps_setDc hc hN hy hyl hsw hi ok hg ht hk he hs) fun σ H T ⟨ι, σa, S, hs, R, g⟩ => by
  refine te_dc rfl hj ?_
  exact bindES hs R g fun ι1 H1 v d S1 f1 hs1 R1 r1 g1 => g1 ι1 H1 _ (Fut.refl _ _) (hs1.set r1) R1
end
/-- where the classes stand -/
structure CA where
  mk ::
  Box : Addr
  Copy : Addr
  NoSuchEntry : Addr
  MailError : Addr
def fs_Box : List Str := ["number", "change", "entries", "_gone"]
def fs_Copy : List Str := ["mark", "entries"]
open Classical in
noncomputable def nmsA (c : CA) : Nms := fun a => if a = c.Box then fs_Box else if a = c.Copy then fs_Copy else []
open Classical in
noncomputable def xmA (c : CA) : Addr → Addr → Option Bool := fun a b => none
noncomputable def F_Box_init (c : CA) : Fn := fn0 1 1
    (cSeq (cFld c.Box 0 (eV 0) (eC (.int 0)))
    (cSeq (cFld c.Box 1 (eV 0) (eC (.int 0)))
    (cSeq (cFld c.Box 2 (eV 0) (eLst aNil))
    (cFld c.Box 3 (eV 0) (eLst aNil)))))
noncomputable def F_Copy_init (c : CA) : Fn := fn0 1 1
    (cSeq (cFld c.Copy 0 (eV 0) (eC (.int 0)))
    (cFld c.Copy 1 (eV 0) (eLst aNil)))
noncomputable def F_Lrefill (c : CA) : Fn := fn0 2 3
    (cSeq (cSet 2 (eC (.int 0)))
    (cSeq (cIf (bTru (eV 0)) (cSet 2 (e2 dIxR (eV 0) (e2 dMod (eV 1) (eN (f1 dLenQ) (aCons (eV 0) aNil))))) cNext)
    (cSeq (cIf (eT (e2 dLt (eV 2) (eC (.int 0)))) (cSet 2 (e2 dSub (eC (.int 1)) (e2 dMul (eC (.int 2)) (eV 2)))) cNext)
    (cSeq (cIf (bAnd (eT (e2 dGe (eV 2) (e2 dPow (eC (.int 10)) (eC (.int 18))))) (eT (e2 dLt (eV 1) (eN (f1 dLenQ) (aCons (eV 0) aNil))))) (cRet (eV 2)) cNext)
    (cRet (e2 dMod (eN (f1 dInt) (aCons (e2 dAdd (e2 dMul (eN (f1 dInt) (aCons (e2 dAdd (e2 dAdd (e2 dMul (eV 2) (eC (.int 48271))) (e2 dMul (eV 1) (eC (.int 69621)))) (eC (.int 12345))) aNil)) (eC (.int 40692))) (eC (.int 7))) aNil)) (eC (.int 2147483399))))))))
noncomputable def F_Ldraw (c : CA) : Fn := fn0 3 4
    (cSeq (cIf (eT (e2 dEq (e2 dIxL (eV 0) (eC (.int 1))) (eC (.int 0)))) (cSeq (cAsg (eCall (F_Lrefill c) (aCons (eV 1) (aCons (e2 dIxL (eV 0) (eC (.int 0))) aNil))) (tgSub (eV 0) (eC (.int 1)) dSetL))
    (cAsg (e2 dAdd (e2 dIxL (eV 0) (eC (.int 0))) (eC (.int 1))) (tgSub (eV 0) (eC (.int 0)) dSetL))) cNext)
    (cSeq (cSet 3 (e2 dMod (eN (f1 dInt) (aCons (e2 dIxL (eV 0) (eC (.int 1))) aNil)) (eV 2)))
    (cSeq (cAsg (e2 dFdiv (e2 dIxL (eV 0) (eC (.int 1))) (eV 2)) (tgSub (eV 0) (eC (.int 1)) dSetL))
    (cRet (eV 3)))))
noncomputable def F_Box_deliver (c : CA) : Fn := fn0 2 2
    (cSeq (cFld c.Box 0 (eV 0) (e2 dAdd (e1 (dFld c.Box 0) (eV 0)) (eC (.int 1))))
    (cSeq (cFld c.Box 1 (eV 0) (e2 dAdd (e1 (dFld c.Box 1) (eV 0)) (eC (.int 1))))
    (cSeq (cDrop (eBM dAppend (e1 (dFld c.Box 2) (eV 0)) (aCons (eTup (aCons (e1 (dFld c.Box 0) (eV 0)) (aCons (eV 1) (aCons (eTup aNil) (aCons (e1 (dFld c.Box 1) (eV 0)) aNil))))) aNil)))
    (cRet (e1 (dFld c.Box 0) (eV 0))))))
noncomputable def F_Box_place (c : CA) : Fn := fnX 2 4
    (cSeq (cFor (eBind (aCons (e1 (dFld c.Box 2) (eV 0)) aNil) sEnum) (tgTup (tgCons (tgName 2) (tgCons (tgName 3) tgNil))) (cIf (eT (e2 dEq (e2 dIxT (eV 3) (eC (.int 0))) (eV 1))) (cRet (eV 2)) cNext))
    (cRaise c.NoSuchEntry (jsA [(eC (.str (Str.ofString "no entry has the number "))), (e1 dFmt (eV 1))] Str.empty)))
noncomputable def F_Box_set_flags (c : CA) : Fn := fnX 3 5
    (cSeq (cSet 3 (eMeth c.Box (F_Box_place c) (eV 0) (aCons (eV 1) aNil)))
    (cSeq (cSet 4 (e2 dIxT (e2 dIxL (e1 (dFld c.Box 2) (eV 0)) (eV 3)) (eC (.int 1))))
    (cSeq (cFld c.Box 1 (eV 0) (e2 dAdd (e1 (dFld c.Box 1) (eV 0)) (eC (.int 1))))
    (cAsg (eTup (aCons (eV 1) (aCons (eV 4) (aCons (eN (f1 dTupL) (aCons (e1 dSortSet (eV 2)) aNil)) (aCons (e1 (dFld c.Box 1) (eV 0)) aNil))))) (tgSub (e1 (dFld c.Box 2) (eV 0)) (eV 3) dSetL)))))
noncomputable def F_Box_expunge (c : CA) : Fn := fnX 2 3
    (cSeq (cSet 2 (eMeth c.Box (F_Box_place c) (eV 0) (aCons (eV 1) aNil)))
    (cSeq (cFld c.Box 1 (eV 0) (e2 dAdd (e1 (dFld c.Box 1) (eV 0)) (eC (.int 1))))
    (cSeq (cDrop (eBM dPopAt (e1 (dFld c.Box 2) (eV 0)) (aCons (eV 2) aNil)))
    (cDrop (eBM dAppend (e1 (dFld c.Box 3) (eV 0)) (aCons (eTup (aCons (eV 1) (aCons (e1 (dFld c.Box 1) (eV 0)) aNil))) aNil))))))
noncomputable def F_Box_news (c : CA) : Fn := fn0 2 7
    (cSeq (cSet 2 (eN (f1 dTupL) (aCons (eLc (eBind (e1 (dFld c.Box 2) (eV 0)) sList) (.one 4) [4] (eT (e2 dGt (e2 dIxT (eV 4) (eC (.int 3))) (eV 1))) (eV 4)) aNil)))
    (cSeq (cSet 3 (eN (f1 dTupL) (aCons (eN (f1 dSrtI) (aCons (eLc (eBind (e1 (dFld c.Box 3) (eV 0)) sList) (.tup [5, 6]) [5, 6] (eT (e2 dGt (eV 6) (eV 1))) (eV 5)) aNil)) aNil)))
    (cRet (eTup (aCons (e1 (dFld c.Box 1) (eV 0)) (aCons (eV 2) (aCons (eV 3) aNil)))))))
noncomputable def F_Copy_update (c : CA) : Fn := fn0 2 8
    (cSeq (cAsg (eV 1) (tgTup (tgCons (tgName 2) (tgCons (tgName 3) (tgCons (tgName 4) tgNil)))))
    (cSeq (cSet 6 (eDc (eBind (e1 (dFld c.Copy 1) (eV 0)) sList) (.one 5) [5] (eT (e2 (dIn true) (e2 dIxT (eV 5) (eC (.int 0))) (eV 4))) (e2 dIxT (eV 5) (eC (.int 0))) (eV 5)))
    (cSeq (cFor (eBind (eV 3) sTup) (tgName 5) (cAsg (eV 5) (tgSub (eV 6) (e2 dIxT (eV 5) (eC (.int 0))) dSetK)))
    (cSeq (cFld c.Copy 1 (eV 0) (eLc (eBind (eN (f1 dSortDI) (aCons (eV 6) aNil)) sList) (.one 7) [7] bYes (e2 dGetK (eV 6) (eV 7))))
    (cFld c.Copy 0 (eV 0) (eV 2))))))
noncomputable def F_law (c : CA) : Fn := fn0 1 11
    (cSeq (cSet 1 (eLst (aCons (eC (.int 0)) (aCons (eC (.int 0)) aNil))))
    (cSeq (cSet 2 (eMake c.Box (F_Box_init c) aNil))
    (cSeq (cSet 3 (eLst (aCons (eMake c.Copy (F_Copy_init c) aNil) (aCons (eMake c.Copy (F_Copy_init c) aNil) aNil))))
    (cSeq (cSet 4 (eLst (aCons (eLst aNil) (aCons (eLst aNil) aNil))))
    (cSeq (cIf (bOr (eT (e2 dNeD (e1 (dFld c.Copy 1) (e2 dIxL (eV 3) (eC (.int 0)))) (eLst aNil))) (eT (e2 dNe (e1 (dFld c.Copy 0) (e2 dIxL (eV 3) (eC (.int 0)))) (eC (.int 0))))) (cRet (eC (.bl false))) cNext)
    (cSeq (cFor (sR1 (aCons (eCall (F_Ldraw c) (aCons (eV 1) (aCons (eV 0) (aCons (eC (.int 25)) aNil)))) aNil)) (tgName 5) (cSeq (cSet 6 (eCall (F_Ldraw c) (aCons (eV 1) (aCons (eV 0) (aCons (eC (.int 6)) aNil)))))
    (cSeq (cSet 7 (eLc (eBind (e1 (dFld c.Box 2) (eV 2)) sList) (.one 10) [10] bYes (e2 dIxT (eV 10) (eC (.int 0)))))
    (cSeq (cIf (bOr (eT (e2 dLe (eV 6) (eC (.int 1)))) (bNot (bTru (eV 7)))) (cDrop (eMeth c.Box (F_Box_deliver c) (eV 2) (aCons (eTup (aCons (e2 dAdS (eC (.str (Str.ofString "line "))) (eN (f1 dStr) (aCons (eV 5) aNil))) aNil)) aNil))) (cIf (eT (e2 dEq (eV 6) (eC (.int 2)))) (cDrop (eMeth c.Box (F_Box_set_flags c) (eV 2) (aCons (e2 dIxL (eV 7) (eCall (F_Ldraw c) (aCons (eV 1) (aCons (eV 0) (aCons (eN (f1 dLenQ) (aCons (eV 7) aNil)) aNil))))) (aCons (eTup (aCons (e2 dAdS (eC (.str (Str.ofString "f"))) (e2 dIxS (eC (.str (Str.ofString "ab"))) (eCall (F_Ldraw c) (aCons (eV 1) (aCons (eV 0) (aCons (eC (.int 2)) aNil)))))) aNil)) aNil)))) (cIf (eT (e2 dEq (eV 6) (eC (.int 3)))) (cDrop (eMeth c.Box (F_Box_expunge c) (eV 2) (aCons (e2 dIxL (eV 7) (eCall (F_Ldraw c) (aCons (eV 1) (aCons (eV 0) (aCons (eN (f1 dLenQ) (aCons (eV 7) aNil)) aNil))))) aNil))) (cSeq (cSet 8 (eCall (F_Ldraw c) (aCons (eV 1) (aCons (eV 0) (aCons (eC (.int 2)) aNil)))))
    (cSeq (cSet 9 (eMeth c.Box (F_Box_news c) (eV 2) (aCons (e1 (dFld c.Copy 0) (e2 dIxL (eV 3) (eV 8))) aNil)))
    (cSeq (cDrop (eMeth c.Copy (F_Copy_update c) (e2 dIxL (eV 3) (eV 8)) (aCons (eV 9) aNil)))
    (cSeq (cIf (eT (e2 dEq (eCall (F_Ldraw c) (aCons (eV 1) (aCons (eV 0) (aCons (eC (.int 3)) aNil)))) (eC (.int 1)))) (cDrop (eMeth c.Copy (F_Copy_update c) (e2 dIxL (eV 3) (eV 8)) (aCons (eV 9) aNil))) cNext)
    (cSeq (cAsg (eN (f1 dListOf) (aCons (e1 (dFld c.Box 2) (eV 2)) aNil)) (tgSub (eV 4) (eV 8) dSetL))
    (cIf (bOr (eT (e2 dNe (e1 (dFld c.Copy 0) (e2 dIxL (eV 3) (eV 8))) (e1 (dFld c.Box 1) (eV 2)))) (bNot (eT (eN (f2 dIsi) (aCons (e1 (dFld c.Copy 1) (e2 dIxL (eV 3) (eV 8))) (aCons (eC (.ty "list")) aNil)))))) (cRet (eC (.bl false))) cNext)))))))))
    (cIf (bOr (eT (e2 dNeD (e1 (dFld c.Copy 1) (e2 dIxL (eV 3) (eC (.int 0)))) (e2 dIxL (eV 4) (eC (.int 0))))) (eT (e2 dNeD (e1 (dFld c.Copy 1) (e2 dIxL (eV 3) (eC (.int 1)))) (e2 dIxL (eV 4) (eC (.int 1)))))) (cRet (eC (.bl false))) cNext)))))
    (cSeq (cFor (sR1 (aCons (eC (.int 2)) aNil)) (tgName 8) (cSeq (cDrop (eMeth c.Copy (F_Copy_update c) (e2 dIxL (eV 3) (eV 8)) (aCons (eMeth c.Box (F_Box_news c) (eV 2) (aCons (e1 (dFld c.Copy 0) (e2 dIxL (eV 3) (eV 8))) aNil)) aNil)))
    (cIf (bOr (eT (e2 dNeD (e1 (dFld c.Copy 1) (e2 dIxL (eV 3) (eV 8))) (e1 (dFld c.Box 2) (eV 2)))) (eT (e2 dNe (e1 (dFld c.Copy 0) (e2 dIxL (eV 3) (eV 8))) (e1 (dFld c.Box 1) (eV 2))))) (cRet (eC (.bl false))) cNext)))
    (cRet (e2 dEqD (e1 (dFld c.Copy 1) (e2 dIxL (eV 3) (eC (.int 0)))) (e1 (dFld c.Copy 1) (e2 dIxL (eV 3) (eC (.int 1)))))))))))))
def topS (i : Nat) : Stmt := PySem.Challenge.pw_dawkline_k11_copies_follow_boxes.main.body.getD i (.Pass ⟨0, 0, 0, 0⟩)
abbrev s_Box_init : Stmt := inClass (topS 5) 0
abbrev N_Box_init : List Str := ["self"]
theorem sc_Box_init : FnScope N_Box_init ["self"] (defScope s_Box_init) := ⟨rfl, rfl, rfl, by decide +kernel, rfl, by decide +kernel, by decide +kernel⟩
abbrev s_Copy_init : Stmt := inClass (topS 6) 0
abbrev N_Copy_init : List Str := ["self"]
theorem sc_Copy_init : FnScope N_Copy_init ["self"] (defScope s_Copy_init) := ⟨rfl, rfl, rfl, by decide +kernel, rfl, by decide +kernel, by decide +kernel⟩
abbrev s_Lrefill : Stmt := topS 9
abbrev N_Lrefill : List Str := ["script", "k", "cell"]
theorem sc_Lrefill : FnScope N_Lrefill ["script", "k"] (defScope s_Lrefill) := ⟨rfl, rfl, rfl, by decide +kernel, rfl, by decide +kernel, by decide +kernel⟩
abbrev s_Ldraw : Stmt := topS 10
abbrev N_Ldraw : List Str := ["state", "script", "size", "digit"]
theorem sc_Ldraw : FnScope N_Ldraw ["state", "script", "size"] (defScope s_Ldraw) := ⟨rfl, rfl, rfl, by decide +kernel, rfl, by decide +kernel, by decide +kernel⟩
abbrev s_Box_deliver : Stmt := inClass (topS 5) 1
abbrev N_Box_deliver : List Str := ["self", "lines"]
theorem sc_Box_deliver : FnScope N_Box_deliver ["self", "lines"] (defScope s_Box_deliver) := ⟨rfl, rfl, rfl, by decide +kernel, rfl, by decide +kernel, by decide +kernel⟩
abbrev s_Box_place : Stmt := inClass (topS 5) 6
abbrev N_Box_place : List Str := ["self", "number", "place", "entry"]
theorem sc_Box_place : FnScope N_Box_place ["self", "number"] (defScope s_Box_place) := ⟨rfl, rfl, rfl, by decide +kernel, rfl, by decide +kernel, by decide +kernel⟩
abbrev s_Box_set_flags : Stmt := inClass (topS 5) 2
abbrev N_Box_set_flags : List Str := ["self", "number", "flags", "place", "lines"]
theorem sc_Box_set_flags : FnScope N_Box_set_flags ["self", "number", "flags"] (defScope s_Box_set_flags) := ⟨rfl, rfl, rfl, by decide +kernel, rfl, by decide +kernel, by decide +kernel⟩
abbrev s_Box_expunge : Stmt := inClass (topS 5) 3
abbrev N_Box_expunge : List Str := ["self", "number", "place"]
theorem sc_Box_expunge : FnScope N_Box_expunge ["self", "number"] (defScope s_Box_expunge) := ⟨rfl, rfl, rfl, by decide +kernel, rfl, by decide +kernel, by decide +kernel⟩
abbrev s_Box_news : Stmt := inClass (topS 5) 4
abbrev N_Box_news : List Str := ["self", "mark", "entries", "gone", "entry", "number", "change"]
theorem sc_Box_news : FnScope N_Box_news ["self", "mark"] (defScope s_Box_news) := ⟨rfl, rfl, rfl, by decide +kernel, rfl, by decide +kernel, by decide +kernel⟩
abbrev s_Copy_update : Stmt := inClass (topS 6) 1
abbrev N_Copy_update : List Str := ["self", "news", "mark", "changed", "gone", "entry", "kept", "number"]
theorem sc_Copy_update : FnScope N_Copy_update ["self", "news"] (defScope s_Copy_update) := ⟨rfl, rfl, rfl, by decide +kernel, rfl, by decide +kernel, by decide +kernel⟩
abbrev s_law : Stmt := topS 13
abbrev N_law : List Str := ["script", "state", "box", "copies", "kept", "k", "kind", "numbers", "which", "news", "entry"]
theorem sc_law : FnScope N_law ["script"] (defScope s_law) := ⟨rfl, rfl, rfl, by decide +kernel, rfl, by decide +kernel, by decide +kernel⟩
/-- what the top has written -/
structure Tx (K : PySem.W.Frag) (N : Nms) (mg : Str → Option Value) (c : CA) : Prop where
  m_Box_init : Mn K c.Box "__init__" "Box.__init__" s_Box_init ["self"]
  m_Copy_init : Mn K c.Copy "__init__" "Copy.__init__" s_Copy_init ["self"]
  d_Lrefill : Dn K mg "_law_refill" s_Lrefill ["script", "k"]
  d_Ldraw : Dn K mg "_law_draw" s_Ldraw ["state", "script", "size"]
  m_Box_deliver : Mn K c.Box "deliver" "Box.deliver" s_Box_deliver ["self", "lines"]
  m_Box_place : Mn K c.Box "_place" "Box._place" s_Box_place ["self", "number"]
  m_Box_set_flags : Mn K c.Box "set_flags" "Box.set_flags" s_Box_set_flags ["self", "number", "flags"]
  m_Box_expunge : Mn K c.Box "expunge" "Box.expunge" s_Box_expunge ["self", "number"]
  m_Box_news : Mn K c.Box "news" "Box.news" s_Box_news ["self", "mark"]
  m_Copy_update : Mn K c.Copy "update" "Copy.update" s_Copy_update ["self", "news"]
  d_law : Dn K mg "law" s_law ["script"]
  z_len : mg "len" = none
  z_int : mg "int" = none
  z_enumerate : mg "enumerate" = none
  z_sorted : mg "sorted" = none
  z_set : mg "set" = none
  z_tuple : mg "tuple" = none
  z_range : mg "range" = none
  z_str : mg "str" = none
  z_list : mg "list" = none
  z_isinstance : mg "isinstance" = none
  k_Box : Cs K mg "Box" c.Box
  f_Box : CF K N c.Box fs_Box
  k_Copy : Cs K mg "Copy" c.Copy
  f_Copy : CF K N c.Copy fs_Copy
  x_NoSuchEntry : ExN K mg "NoSuchEntry" c.NoSuchEntry c.MailError
section
variable {P : Program} {w : World} {K : PySem.W.Frag} {N : Nms} {mg : Str → Option Value} {base : Heap} {c : CA}
theorem ok_Box_init (T : Tx K N mg c) : OkM P w K mg base CX0 1 c.Box "__init__" ["self"] (spA K N (F_Box_init c)) := okM0 T.m_Box_init sc_Box_init rfl rfl fun f cdv A outer s H E hr =>
    (ass_cons (as_fld (i := 0) T.f_Box rfl (ae_var (pv 0)) ae_int rfl)
      (ass_cons (as_fld (i := 1) T.f_Box rfl (ae_var (pv 0)) ae_int rfl)
      (ass_cons (as_fld (i := 2) T.f_Box rfl (ae_var (pv 0)) (ae_lst aa_nil) rfl)
      (ass_one (as_fld (i := 3) T.f_Box rfl (ae_var (pv 0)) (ae_lst aa_nil) rfl)))))
theorem ok_Copy_init (T : Tx K N mg c) : OkM P w K mg base CX0 1 c.Copy "__init__" ["self"] (spA K N (F_Copy_init c)) := okM0 T.m_Copy_init sc_Copy_init rfl rfl fun f cdv A outer s H E hr =>
    (ass_cons (as_fld (i := 0) T.f_Copy rfl (ae_var (pv 0)) ae_int rfl)
      (ass_one (as_fld (i := 1) T.f_Copy rfl (ae_var (pv 0)) (ae_lst aa_nil) rfl)))
theorem ok_Lrefill (T : Tx K N mg c) : OkD P w K mg base CX0 1 "_law_refill" ["script", "k"] (spA K N (F_Lrefill c)) := okA0 T.d_Lrefill sc_Lrefill rfl rfl fun f cdv A outer s H E hr =>
    (ass_cons (as_set (i := 2) sc_Lrefill.nd rfl (.inl rfl) ae_int)
      (ass_cons (as_if (at_truth (ae_var (pv 0)) (by intro _; rfl)) (ass_one (as_set (i := 2) sc_Lrefill.nd rfl (.inl rfl) (ae_ixR (ae_var (pv 0)) (ae_mod (ae_var (pv 1)) (ae_cb k_lenQ (pe_callB y_lenQ (by rfl) T.z_len (by decide +kernel) (aa_cons (ae_var (pv 0)) aa_nil))))))) ass_nil)
      (ass_cons (as_if (at_cmp op_lt k_lt (ae_var (pv 2)) ae_int (nomark _)) (ass_one (as_set (i := 2) sc_Lrefill.nd rfl (.inl rfl) (ae_sub ae_int (ae_mul ae_int (ae_var (pv 2)))))) ass_nil)
      (ass_cons (as_if (PW.pt (aw_and (at_cmp op_ge k_ge (ae_var (pv 2)) (ae_pow ae_int ae_int) (nomark _)) (aw_and1 (at_cmp op_lt k_lt (ae_var (pv 1)) (ae_cb k_lenQ (pe_callB y_lenQ (by rfl) T.z_len (by decide +kernel) (aa_cons (ae_var (pv 0)) aa_nil))) (nomark _))))) (ass_one (as_ret (ae_var (pv 2)))) ass_nil)
      (ass_one (as_ret (ae_mod (ae_cb q_int (pe_callTy y_int (by rfl) T.z_int (by decide +kernel) (aa_cons (ae_add (ae_mul (ae_cb q_int (pe_callTy y_int (by rfl) T.z_int (by decide +kernel) (aa_cons (ae_add (ae_add (ae_mul (ae_var (pv 2)) ae_int) (ae_mul (ae_var (pv 1)) ae_int)) ae_int) aa_nil))) ae_int) ae_int) aa_nil))) ae_int)))))))
theorem ok_Ldraw (T : Tx K N mg c) : OkD P w K mg base CX0 2 "_law_draw" ["state", "script", "size"] (spA K N (F_Ldraw c)) := okA0 T.d_Ldraw sc_Ldraw rfl rfl fun f cdv A outer s H E hr =>
    (ass_cons (as_if (at_cmp op_eq k_eq (ae_ixL (ae_var (pv 0)) ae_int) ae_int (nomark _)) (ass_cons (as_asg (ae_call (ok_Lrefill T) hr (by rfl) (aa_cons (ae_var (pv 1)) (aa_cons (ae_ixL (ae_var (pv 0)) ae_int) aa_nil))) (ag_sub (W := noW) (ae_var (pv 0)) ae_int set_list k_setL))
      (ass_one (as_asg (ae_add (ae_ixL (ae_var (pv 0)) ae_int) ae_int) (ag_sub (W := noW) (ae_var (pv 0)) ae_int set_list k_setL)))) ass_nil)
      (ass_cons (as_set (i := 3) sc_Ldraw.nd rfl (.inl rfl) (ae_mod (ae_cb q_int (pe_callTy y_int (by rfl) T.z_int (by decide +kernel) (aa_cons (ae_ixL (ae_var (pv 0)) ae_int) aa_nil))) (ae_var (pv 2))))
      (ass_cons (as_asg (ae_fdiv (ae_ixL (ae_var (pv 0)) ae_int) (ae_var (pv 2))) (ag_sub (W := noW) (ae_var (pv 0)) ae_int set_list k_setL))
      (ass_one (as_ret (ae_var (pv 3)))))))
theorem ok_Box_deliver (T : Tx K N mg c) : OkM P w K mg base CX0 1 c.Box "deliver" ["self", "lines"] (spA K N (F_Box_deliver c)) := okM0 T.m_Box_deliver sc_Box_deliver rfl rfl fun f cdv A outer s H E hr =>
    (ass_cons (as_fld (i := 0) T.f_Box rfl (ae_var (pv 0)) (ae_add (ae_fld (i := 0) T.f_Box rfl (ae_var (pv 0)) rfl) ae_int) rfl)
      (ass_cons (as_fld (i := 1) T.f_Box rfl (ae_var (pv 0)) (ae_add (ae_fld (i := 1) T.f_Box rfl (ae_var (pv 0)) rfl) ae_int) rfl)
      (ass_cons (as_expr (ae_bmP k_append (pe_bm PySem.F.plainAttrs_list PySem.F.slot_list_append PySem.F.type_list_append mt_append (ae_fld (i := 2) T.f_Box rfl (ae_var (pv 0)) rfl) (aa_cons (ae_tup (aa_cons (ae_fld (i := 0) T.f_Box rfl (ae_var (pv 0)) rfl) (aa_cons (ae_var (pv 1)) (aa_cons (ae_tup aa_nil) (aa_cons (ae_fld (i := 1) T.f_Box rfl (ae_var (pv 0)) rfl) aa_nil))))) aa_nil))))
      (ass_one (as_ret (ae_fld (i := 0) T.f_Box rfl (ae_var (pv 0)) rfl))))))
theorem ok_Box_place (T : Tx K N mg c) : OkM P w K mg base (L2.CX P w) 1 c.Box "_place" ["self", "number"] (spA K N (F_Box_place c)) := okMX T.m_Box_place sc_Box_place rfl rfl fun f cdv A outer s H E hr =>
    (ass_cons (as_for (q := false) (passes_of rfl) rfl (ai_enum (by rfl) T.z_enumerate (aa_cons (ae_fld (i := 2) T.f_Box rfl (ae_var (pv 0)) rfl) aa_nil)) (ag_tup (by rfl) (ags_cons (ag_name (i := 2) sc_Box_place.nd rfl (Or.inl rfl)) (ags_cons (ag_name (i := 3) sc_Box_place.nd rfl (Or.inl rfl)) ags_nil)) (tgl_cons (tgl_cons tgl_nil))) (ass_one (as_if (at_cmp op_eq k_eq (ae_ixT (ae_var (pv 3)) ae_int) (ae_var (pv 1)) (nomark _)) (ass_one (as_ret (ae_var (pv 2)))) ass_nil)))
      (ass_one (as_raise rfl (takes_of rfl rfl rfl rfl) T.x_NoSuchEntry.xC T.x_NoSuchEntry.gC T.x_NoSuchEntry.kC (raises_own T.x_NoSuchEntry.bC T.x_NoSuchEntry.tC) (by rfl) (ae_joined (ms := [(eC (.str (Str.ofString "no entry has the number "))), (e1 dFmt (eV 1))]) (.cons ae_str (.cons (ae_fmt (ae_var (pv 1))) .nil))))))
theorem ok_Box_set_flags (T : Tx K N mg c) : OkM P w K mg base (L2.CX P w) 2 c.Box "set_flags" ["self", "number", "flags"] (spA K N (F_Box_set_flags c)) := okMX T.m_Box_set_flags sc_Box_set_flags rfl rfl fun f cdv A outer s H E hr =>
    (ass_cons (as_set (i := 3) sc_Box_set_flags.nd rfl (.inl rfl) (ae_methX T.f_Box (by decide +kernel) (ok_Box_place T) (takes_of rfl rfl rfl rfl) hr (ae_var (pv 0)) (aa_cons (ae_var (pv 1)) aa_nil)))
      (ass_cons (as_set (i := 4) sc_Box_set_flags.nd rfl (.inl rfl) (ae_ixT (ae_ixL (ae_fld (i := 2) T.f_Box rfl (ae_var (pv 0)) rfl) (ae_var (pv 3))) ae_int))
      (ass_cons (as_fld (i := 1) T.f_Box rfl (ae_var (pv 0)) (ae_add (ae_fld (i := 1) T.f_Box rfl (ae_var (pv 0)) rfl) ae_int) rfl)
      (ass_one (as_asg (ae_tup (aa_cons (ae_var (pv 1)) (aa_cons (ae_var (pv 4)) (aa_cons (ae_cb k_tup (pe_callTy y_tup (by rfl) T.z_tuple (by decide +kernel) (aa_cons (ae_sortSet rfl (by rfl) T.z_sorted (by rfl) T.z_set (ae_var (pv 2))) aa_nil))) (aa_cons (ae_fld (i := 1) T.f_Box rfl (ae_var (pv 0)) rfl) aa_nil))))) (ag_sub (W := noW) (ae_fld (i := 2) T.f_Box rfl (ae_var (pv 0)) rfl) (ae_var (pv 3)) set_list k_setL))))))
theorem ok_Box_expunge (T : Tx K N mg c) : OkM P w K mg base (L2.CX P w) 2 c.Box "expunge" ["self", "number"] (spA K N (F_Box_expunge c)) := okMX T.m_Box_expunge sc_Box_expunge rfl rfl fun f cdv A outer s H E hr =>
    (ass_cons (as_set (i := 2) sc_Box_expunge.nd rfl (.inl rfl) (ae_methX T.f_Box (by decide +kernel) (ok_Box_place T) (takes_of rfl rfl rfl rfl) hr (ae_var (pv 0)) (aa_cons (ae_var (pv 1)) aa_nil)))
      (ass_cons (as_fld (i := 1) T.f_Box rfl (ae_var (pv 0)) (ae_add (ae_fld (i := 1) T.f_Box rfl (ae_var (pv 0)) rfl) ae_int) rfl)
      (ass_cons (as_expr (ae_bmP k_popAt (pe_bm PySem.F.plainAttrs_list PySem.F.slot_list_pop PySem.F.type_list_pop mt_popAt (ae_fld (i := 2) T.f_Box rfl (ae_var (pv 0)) rfl) (aa_cons (ae_var (pv 2)) aa_nil))))
      (ass_one (as_expr (ae_bmP k_append (pe_bm PySem.F.plainAttrs_list PySem.F.slot_list_append PySem.F.type_list_append mt_append (ae_fld (i := 3) T.f_Box rfl (ae_var (pv 0)) rfl) (aa_cons (ae_tup (aa_cons (ae_var (pv 1)) (aa_cons (ae_fld (i := 1) T.f_Box rfl (ae_var (pv 0)) rfl) aa_nil))) aa_nil))))))))
theorem ok_Box_news (T : Tx K N mg c) : OkM P w K mg base CX0 1 c.Box "news" ["self", "mark"] (spA K N (F_Box_news c)) := okM0 T.m_Box_news sc_Box_news rfl rfl fun f cdv A outer s H E hr =>
    (ass_cons (as_set (i := 2) sc_Box_news.nd rfl (.inl rfl) (ae_cb k_tup (pe_callTy y_tup (by rfl) T.z_tuple (by decide +kernel) (aa_cons (ae_lc (t := (.one 4)) (own := [("entry", 4)]) rfl sc_Box_news.nd (ai_list (ae_fld (i := 2) T.f_Box rfl (ae_var (pv 0)) rfl)) (blkOk_by (N := N_Box_news) (sc := defScope s_Box_news) (by decide +kernel)) (fun _ _ _ _ _ => (ct_one (i := 4) sc_Box_news.nd rfl (Or.inl rfl))) (fun _ _ _ _ _ => (ats_one (at_cmp op_gt k_gt (ae_ixT (ae_var (pv 4)) ae_int) (ae_var (pv 1)) (nomark _)))) (fun _ _ _ _ _ => (ae_var (pv 4)))) aa_nil))))
      (ass_cons (as_set (i := 3) sc_Box_news.nd rfl (.inl rfl) (ae_cb k_tup (pe_callTy y_tup (by rfl) T.z_tuple (by decide +kernel) (aa_cons (ae_cb k_sortedI (pe_callB cr_sortedI (by rfl) T.z_sorted (by decide +kernel) (aa_cons (ae_lc (t := (.tup [5, 6])) (own := [("number", 5), ("change", 6)]) rfl sc_Box_news.nd (AI.weak (ai_list (ae_fld (i := 3) T.f_Box rfl (ae_var (pv 0)) rfl))) (blkOk_by (N := N_Box_news) (sc := defScope s_Box_news) (by decide +kernel)) (fun _ _ _ _ _ => (ct_tup (js := [5, 6]) (by rfl) (pgs_cons (pg_name (i := 5) sc_Box_news.nd rfl (Or.inl rfl)) (pgs_cons (pg_name (i := 6) sc_Box_news.nd rfl (Or.inl rfl)) pgs_nil)))) (fun _ _ _ _ _ => (ats_one (at_cmp op_gt k_gt (ae_var (pv 6)) (ae_var (pv 1)) (nomark _)))) (fun _ _ _ _ _ => (ae_var (pv 5)))) aa_nil))) aa_nil))))
      (ass_one (as_ret (ae_tup (aa_cons (ae_fld (i := 1) T.f_Box rfl (ae_var (pv 0)) rfl) (aa_cons (ae_var (pv 2)) (aa_cons (ae_var (pv 3)) aa_nil))))))))
theorem ok_Copy_update (T : Tx K N mg c) : OkM P w K mg base CX0 1 c.Copy "update" ["self", "news"] (spA K N (F_Copy_update c)) := okM0 T.m_Copy_update sc_Copy_update rfl rfl fun f cdv A outer s H E hr =>
    (ass_cons (as_asg (ae_var (pv 1)) (AGw.ag (ag_tup (by rfl) (ags_cons (ag_name (i := 2) sc_Copy_update.nd rfl (Or.inl rfl)) (ags_cons (ag_name (i := 3) sc_Copy_update.nd rfl (Or.inl rfl)) (ags_cons (ag_name (i := 4) sc_Copy_update.nd rfl (Or.inr rfl)) ags_nil))) (tgl_cons (tgl_cons (tgl_cons tgl_nil))))))
      (ass_cons (as_set (i := 6) sc_Copy_update.nd rfl (.inr rfl) (ae_dc (t := (.one 5)) (own := [("entry", 5)]) rfl sc_Copy_update.nd (ai_list (ae_fld (i := 1) T.f_Copy rfl (ae_var (pv 0)) rfl)) (blkOk_by (N := N_Copy_update) (sc := defScope s_Copy_update) (by decide +kernel)) (fun _ _ _ _ _ => (ct_one (i := 5) sc_Copy_update.nd rfl (Or.inl rfl))) (fun _ _ _ _ _ => (ats_one (at_cmp op_notIn_seq (k_in true) (ae_ixT (ae_var (pv 5)) ae_int) (ae_var (pv 4)) (by rfl)))) (fun _ _ _ _ _ => (ae_ixT (ae_var (pv 5)) ae_int)) (fun _ _ _ _ _ => (ae_var (pv 5)))))
      (ass_cons (as_for (q := true) PassesOwn.never rfl (ai_tup (ae_var (pv 3))) (ag_name (i := 5) sc_Copy_update.nd rfl (Or.inl rfl)) (ass_one (as_asg (ae_var (pv 5)) (ag_sub (W := noW) (ae_var (pv 6)) (ae_ixT (ae_var (pv 5)) ae_int) (set_dK hr.units) k_setK))))
      (ass_cons (as_fld (i := 1) T.f_Copy rfl (ae_var (pv 0)) (ae_lc (t := (.one 7)) (own := [("number", 7)]) rfl sc_Copy_update.nd (ai_list (ae_cb k_sortDI (pe_callB (cr_sortDI rfl) (by rfl) T.z_sorted (by decide +kernel) (aa_cons (ae_var (pv 6)) aa_nil)))) (blkOk_by (N := N_Copy_update) (sc := defScope s_Copy_update) (by decide +kernel)) (fun _ _ _ _ _ => (ct_one (i := 7) sc_Copy_update.nd rfl (Or.inl rfl))) (fun _ _ _ _ _ => ats_nil) (fun _ _ _ _ _ => (ae_dgetK hr.units (ae_var (pv 6)) (ae_var (pv 7))))) rfl)
      (ass_one (as_fld (i := 0) T.f_Copy rfl (ae_var (pv 0)) (ae_var (pv 2)) rfl))))))
theorem ok_law (T : Tx K N mg c) {f : Addr} {fd : FuncData} (F : Fun K "law" "law" s_law f fd) : FnOk P w K mg base CX0 3 f fd ["script"] (spA K N (F_law c)) := okF0 F sc_law rfl rfl fun f cdv A outer s H E hr =>
    (ass_cons (as_set (i := 1) sc_law.nd rfl (.inl rfl) (ae_lst (aa_cons ae_int (aa_cons ae_int aa_nil))))
      (ass_cons (as_set (i := 2) sc_law.nd rfl (.inl rfl) (ae_make0 T.k_Box (ok_Box_init T) hr (by rfl)))
      (ass_cons (as_set (i := 3) sc_law.nd rfl (.inl rfl) (ae_lst (aa_cons (ae_make0 T.k_Copy (ok_Copy_init T) hr (by rfl)) (aa_cons (ae_make0 T.k_Copy (ok_Copy_init T) hr (by rfl)) aa_nil))))
      (ass_cons (as_set (i := 4) sc_law.nd rfl (.inl rfl) (ae_lst (aa_cons (ae_lst aa_nil) (aa_cons (ae_lst aa_nil) aa_nil))))
      (ass_cons (as_if (PW.pt (aw_or (at_cmp (op_neD hr.units) k_neD (ae_fld (i := 1) T.f_Copy rfl (ae_ixL (ae_var (pv 3)) ae_int) rfl) (ae_lst aa_nil) (nomark _)) (aw_or1 (at_cmp op_ne k_ne (ae_fld (i := 0) T.f_Copy rfl (ae_ixL (ae_var (pv 3)) ae_int) rfl) ae_int (nomark _))))) (ass_one (as_ret ae_bl)) ass_nil)
      (ass_cons (as_for (q := true) PassesOwn.never rfl (ai_range1 (by rfl) T.z_range (aa_cons (ae_call (ok_Ldraw T) hr (by rfl) (aa_cons (ae_var (pv 1)) (aa_cons (ae_var (pv 0)) (aa_cons ae_int aa_nil)))) aa_nil)) (ag_name (i := 5) sc_law.nd rfl (Or.inl rfl)) (ass_cons (as_set (i := 6) sc_law.nd rfl (.inl rfl) (ae_call (ok_Ldraw T) hr (by rfl) (aa_cons (ae_var (pv 1)) (aa_cons (ae_var (pv 0)) (aa_cons ae_int aa_nil)))))
      (ass_cons (as_setLc (i := 7) (t := (.one 10)) (own := [("entry", 10)]) rfl sc_law.nd rfl rfl (sw_true rfl rfl rfl (by decide +kernel)) (ai_list (ae_fld (i := 2) T.f_Box rfl (ae_var (pv 2)) rfl)) (blkOk_by (N := N_law) (sc := defScope s_law) (by decide +kernel)) (fun _ _ _ _ _ => (ct_one (i := 10) sc_law.nd rfl (Or.inl rfl))) (fun _ _ _ _ _ => ats_nil) (fun _ _ _ _ _ => (ae_ixT (ae_var (pv 10)) ae_int)))
      (ass_cons (as_if (PW.pt (aw_or (at_cmp op_le k_le (ae_var (pv 6)) ae_int (nomark _)) (aw_or1 (at_not (at_truth (ae_var (pv 7)) (by intro _; rfl)))))) (ass_one (as_expr (ae_meth T.f_Box (by decide +kernel) (ok_Box_deliver T) (hr.mono (by decide)) (ae_var (pv 2)) (aa_cons (ae_tup (aa_cons (ae_adS ae_str (ae_cb k_strI (pe_callTy y_strI (by rfl) T.z_str (by decide +kernel) (aa_cons (ae_var (pv 5)) aa_nil)))) aa_nil)) aa_nil)))) (ass_one (as_if (at_cmp op_eq k_eq (ae_var (pv 6)) ae_int (nomark _)) (ass_one (as_expr (ae_methX T.f_Box (by decide +kernel) (ok_Box_set_flags T) takes0 hr (ae_var (pv 2)) (aa_cons (ae_ixL (ae_var (pv 7)) (ae_call (ok_Ldraw T) hr (by rfl) (aa_cons (ae_var (pv 1)) (aa_cons (ae_var (pv 0)) (aa_cons (ae_cb k_lenQ (pe_callB y_lenQ (by rfl) T.z_len (by decide +kernel) (aa_cons (ae_var (pv 7)) aa_nil))) aa_nil))))) (aa_cons (ae_tup (aa_cons (ae_adS ae_str (ae_ixS ae_str (ae_call (ok_Ldraw T) hr (by rfl) (aa_cons (ae_var (pv 1)) (aa_cons (ae_var (pv 0)) (aa_cons ae_int aa_nil)))))) aa_nil)) aa_nil))))) (ass_one (as_if (at_cmp op_eq k_eq (ae_var (pv 6)) ae_int (nomark _)) (ass_one (as_expr (ae_methX T.f_Box (by decide +kernel) (ok_Box_expunge T) takes0 hr (ae_var (pv 2)) (aa_cons (ae_ixL (ae_var (pv 7)) (ae_call (ok_Ldraw T) hr (by rfl) (aa_cons (ae_var (pv 1)) (aa_cons (ae_var (pv 0)) (aa_cons (ae_cb k_lenQ (pe_callB y_lenQ (by rfl) T.z_len (by decide +kernel) (aa_cons (ae_var (pv 7)) aa_nil))) aa_nil))))) aa_nil)))) (ass_cons (as_set (i := 8) sc_law.nd rfl (.inl rfl) (ae_call (ok_Ldraw T) hr (by rfl) (aa_cons (ae_var (pv 1)) (aa_cons (ae_var (pv 0)) (aa_cons ae_int aa_nil)))))
      (ass_cons (as_set (i := 9) sc_law.nd rfl (.inl rfl) (ae_meth T.f_Box (by decide +kernel) (ok_Box_news T) (hr.mono (by decide)) (ae_var (pv 2)) (aa_cons (ae_fld (i := 0) T.f_Copy rfl (ae_ixL (ae_var (pv 3)) (ae_var (pv 8))) rfl) aa_nil)))
      (ass_cons (as_expr (ae_meth T.f_Copy (by decide +kernel) (ok_Copy_update T) (hr.mono (by decide)) (ae_ixL (ae_var (pv 3)) (ae_var (pv 8))) (aa_cons (ae_var (pv 9)) aa_nil)))
      (ass_cons (as_if (at_cmp op_eq k_eq (ae_call (ok_Ldraw T) hr (by rfl) (aa_cons (ae_var (pv 1)) (aa_cons (ae_var (pv 0)) (aa_cons ae_int aa_nil)))) ae_int (nomark _)) (ass_one (as_expr (ae_meth T.f_Copy (by decide +kernel) (ok_Copy_update T) (hr.mono (by decide)) (ae_ixL (ae_var (pv 3)) (ae_var (pv 8))) (aa_cons (ae_var (pv 9)) aa_nil)))) ass_nil)
      (ass_cons (as_asg (ae_cb k_listOf (pe_callTy y_listOf (by rfl) T.z_list (by decide +kernel) (aa_cons (ae_fld (i := 2) T.f_Box rfl (ae_var (pv 2)) rfl) aa_nil))) (ag_sub (W := noW) (ae_var (pv 4)) (ae_var (pv 8)) set_list k_setL))
      (ass_one (as_if (PW.pt (aw_or (at_cmp op_ne k_ne (ae_fld (i := 0) T.f_Copy rfl (ae_ixL (ae_var (pv 3)) (ae_var (pv 8))) rfl) (ae_fld (i := 1) T.f_Box rfl (ae_var (pv 2)) rfl) (nomark _)) (aw_or1 (at_not (at_val (ae_cb k_isi (pe_callB call_isi (by rfl) T.z_isinstance (by decide +kernel) (aa_cons (ae_fld (i := 1) T.f_Copy rfl (ae_ixL (ae_var (pv 3)) (ae_var (pv 8))) rfl) (aa_cons (ae_c (pe_bltn (v := .ty "list") (by rfl) T.z_list (by decide +kernel) rfl) (fun _ _ => rfl)) aa_nil))))))))) (ass_one (as_ret ae_bl)) ass_nil))))))))))))
      (ass_one (as_if (PW.pt (aw_or (at_cmp (op_neD hr.units) k_neD (ae_fld (i := 1) T.f_Copy rfl (ae_ixL (ae_var (pv 3)) ae_int) rfl) (ae_ixL (ae_var (pv 4)) ae_int) (nomark _)) (aw_or1 (at_cmp (op_neD hr.units) k_neD (ae_fld (i := 1) T.f_Copy rfl (ae_ixL (ae_var (pv 3)) ae_int) rfl) (ae_ixL (ae_var (pv 4)) ae_int) (nomark _))))) (ass_one (as_ret ae_bl)) ass_nil))))))
      (ass_cons (as_for (q := true) PassesOwn.never rfl (ai_range1 (by rfl) T.z_range (aa_cons ae_int aa_nil)) (ag_name (i := 8) sc_law.nd rfl (Or.inl rfl)) (ass_cons (as_expr (ae_meth T.f_Copy (by decide +kernel) (ok_Copy_update T) (hr.mono (by decide)) (ae_ixL (ae_var (pv 3)) (ae_var (pv 8))) (aa_cons (ae_meth T.f_Box (by decide +kernel) (ok_Box_news T) (hr.mono (by decide)) (ae_var (pv 2)) (aa_cons (ae_fld (i := 0) T.f_Copy rfl (ae_ixL (ae_var (pv 3)) (ae_var (pv 8))) rfl) aa_nil)) aa_nil)))
      (ass_one (as_if (PW.pt (aw_or (at_cmp (op_neD hr.units) k_neD (ae_fld (i := 1) T.f_Copy rfl (ae_ixL (ae_var (pv 3)) (ae_var (pv 8))) rfl) (ae_fld (i := 2) T.f_Box rfl (ae_var (pv 2)) rfl) (nomark _)) (aw_or1 (at_cmp op_ne k_ne (ae_fld (i := 0) T.f_Copy rfl (ae_ixL (ae_var (pv 3)) (ae_var (pv 8))) rfl) (ae_fld (i := 1) T.f_Box rfl (ae_var (pv 2)) rfl) (nomark _))))) (ass_one (as_ret ae_bl)) ass_nil))))
      (ass_one (as_ret (ae_cmp (op_eqD hr.units) k_eqD (ae_fld (i := 1) T.f_Copy rfl (ae_ixL (ae_var (pv 3)) ae_int) rfl) (ae_fld (i := 1) T.f_Copy rfl (ae_ixL (ae_var (pv 3)) ae_int) rfl) (nomark _)))))))))))
end
/-! ### reckoning with the functions -/
theorem atI_0 {α : Type} (a : α) (l : List α) : atI (a :: l) 0 = some a := atI_nat (j := 0) rfl
theorem atI_1 {α : Type} (a b : α) (l : List α) : atI (a :: b :: l) 1 = some b := atI_nat (j := 1) rfl
theorem atI_2 {α : Type} (a b c : α) (l : List α) : atI (a :: b :: c :: l) 2 = some c := atI_nat (j := 2) rfl
theorem atI_3 {α : Type} (a b c d : α) (l : List α) : atI (a :: b :: c :: d :: l) 3 = some d := atI_nat (j := 3) rfl
theorem atI_4 {α : Type} (a b c d e : α) (l : List α) : atI (a :: b :: c :: d :: e :: l) 4 = some e := atI_nat (j := 4) rfl
theorem ixN_nat {n j : Nat} (h : j < n) : ixN n (j : Int) = some j := by
  unfold ixN
  rw [if_pos (by omega), if_pos (by omega)]
  rfl
theorem ixN_0 (n : Nat) : ixN (n + 1) 0 = some 0 := ixN_nat (j := 0) (Nat.succ_pos n)
theorem ixN_1 (n : Nat) : ixN (n + 1 + 1) 1 = some 1 := ixN_nat (j := 1) (by omega)
theorem ixN_2 (n : Nat) : ixN (n + 1 + 1 + 1) 2 = some 2 := ixN_nat (j := 2) (by omega)
theorem set_at {S : Sto} {n : Nat} {o x : O} (h : S[n]? = some x) : (S.set n o)[n]? = some o := List.getElem?_set_self (List.getElem?_eq_some_iff.mp h).1
theorem set_off {S : Sto} {n m : Nat} {o : O} (h : n ≠ m) : (S.set n o)[m]? = S[m]? := List.getElem?_set_ne h
theorem app_old {S : Sto} {m : Nat} {o x : O} (h : S[m]? = some x) : (S ++ [o])[m]? = some x := by
  rw [List.getElem?_append_left (List.getElem?_eq_some_iff.mp h).1]
  exact h
theorem app_new {S : Sto} {o : O} : (S ++ [o])[S.length]? = some o := by
  rw [List.getElem?_append_right (Nat.le_refl _), Nat.sub_self]
  rfl
theorem app_lt {S : Sto} {m : Nat} {x : O} (h : S[m]? = some x) : m < S.length := (List.getElem?_eq_some_iff.mp h).1
@[simp] theorem gd_pos {α : Type} {p : Prop} {x : Option α} (h : p) : gd p x = x := gd_ok h
theorem listAt_ref {S : Sto} {n : Nat} {ds : List D} (h : S[n]? = some (.lst ds)) : listAt S (.ref n) = some (n, ds) := by
  unfold listAt
  simp only [h]
theorem seqOf_ref {S : Sto} {n : Nat} {ds : List D} (h : S[n]? = some (.lst ds)) : seqOf (.ref n) S = some ds := by
  unfold seqOf
  simp only [h]
theorem dIxL_ref {S : Sto} {n : Nat} {ds : List D} {i : Int} (h : S[n]? = some (.lst ds)) : dIxL (.ref n) (.int i) S = (atI ds i).map fun d => (d, S) := by
  unfold dIxL
  simp only [h]
theorem dSetL_ref {S : Sto} {n : Nat} {ds : List D} {i : Int} {v : D} (h : S[n]? = some (.lst ds)) : dSetL (.ref n) (.int i) v S = (ixN ds.length i).map fun j => S.set n (.lst (ds.set j v)) := by
  unfold dSetL
  simp only [listAt_ref h, Option.bind_some]
theorem dFld_ref {S : Sto} {n : Nat} {C : Addr} {ds : List D} {i : Nat} (h : S[n]? = some (.obj C ds)) : dFld C i (.ref n) S = ds[i]?.map fun x => (x, S) := by
  unfold dFld
  simp only [h, if_true]
theorem dFldSet_ref {S : Sto} {n : Nat} {C : Addr} {ds : List D} {i : Nat} {d : D} (h : S[n]? = some (.obj C ds)) (hi : i < ds.length) : dFldSet C i (.ref n) d S = some (S.set n (.obj C (ds.set i d))) := by
  unfold dFldSet
  simp only [h, if_true, if_pos hi]
theorem dFldSet_new {S : Sto} {n : Nat} {C : Addr} {ds : List D} {d : D} (h : S[n]? = some (.obj C ds)) : dFldSet C ds.length (.ref n) d S = some (S.set n (.obj C (ds ++ [d]))) := by
  unfold dFldSet
  simp only [h, if_true, if_neg (Nat.lt_irrefl _)]
/-! ### what follows a run -/
structure EndA where
  nx : Sl → Sto → Prop
  rt : D → Sto → Prop
  bk : Sl → Sto → Prop := fun _ _ => False
  ct : Sl → Sto → Prop := fun _ _ => False
  ex : Addr → Sl → Sto → Prop := fun _ _ _ => False
abbrev QA := D → Sto → Prop
abbrev XA := Addr → Sto → Prop
def wF (r : Res D) (Q : QA) (X : XA) : Prop := match r with
  | .ok d S => Q d S
  | .ex C S => X C S
  | .bad => False
def wE (m : M D) (σ : Sl) (S : Sto) (Q : QA) (X : XA) : Prop := wF (m σ S) Q X
def wB (m : M Bool) (σ : Sl) (S : Sto) (Q : Bool → Sto → Prop) (X : XA) : Prop := match m σ S with
  | .ok d S => Q d S
  | .ex C S => X C S
  | .bad => False
def wL (m : M (List D)) (σ : Sl) (S : Sto) (Q : List D → Sto → Prop) (X : XA) : Prop := match m σ S with
  | .ok d S => Q d S
  | .ex C S => X C S
  | .bad => False
def wI (m : M Src) (σ : Sl) (S : Sto) (Q : Src → Sto → Prop) (X : XA) : Prop := match m σ S with
  | .ok d S => Q d S
  | .ex C S => X C S
  | .bad => False
def wP (m : M (Option Int)) (σ : Sl) (S : Sto) (Q : Option Int → Sto → Prop) : Prop := match m σ S with
  | .ok d S => Q d S
  | _ => False
def wR (r : SRes) (T : EndA) : Prop := match r with
  | .nx σ S => T.nx σ S
  | .rt d S => T.rt d S
  | .bk σ S => T.bk σ S
  | .ct σ S => T.ct σ S
  | .ex C σ S => T.ex C σ S
  | .bad => False
def wS (c : Sm) (σ : Sl) (S : Sto) (T : EndA) : Prop := wR (c σ S) T
def wO (r : Option (D × Sto)) (Q : QA) : Prop := match r with
  | some p => Q p.1 p.2
  | none => False
def wG (r : Option (Sl × Sto)) (Q : Sl → Sto → Prop) : Prop := match r with
  | some p => Q p.1 p.2
  | none => False
def vBl (d : D) (P : Bool → Prop) : Prop := match d with
  | .bl b => P b
  | _ => False
def wObj (C : Addr) (d : D) (S : Sto) (P : Prop) : Prop := match d with
  | .ref n => (∃ ds, S[n]? = some (.obj C ds)) ∧ P
  | _ => False
def noX : XA := fun _ _ => False
theorem wF_eq {r : Res D} {d : D} {S : Sto} (h : wF r (fun e T => e = d ∧ T = S) noX) : r = .ok d S := by
  cases r with
  | ok e T =>
    obtain ⟨h1, h2⟩ := h
    rw [h1, h2]
  | ex C T => exact h.elim
  | bad => exact h.elim
theorem wF_of {r : Res D} {d : D} {S : Sto} {Q : QA} {X : XA} (e : r = .ok d S) (h : Q d S) : wF r Q X := by
  rw [e]
  exact h
theorem wF_ex {r : Res D} {C : Addr} {S : Sto} {Q : QA} {X : XA} (e : r = .ex C S) (h : X C S) : wF r Q X := by
  rw [e]
  exact h
theorem wF_imp {r : Res D} {Q Q' : QA} {X X' : XA} (h : wF r Q X) (i : ∀ d S, Q d S → Q' d S) (j : ∀ C S, X C S → X' C S) : wF r Q' X' := by
  cases r with
  | ok e T => exact i _ _ h
  | ex C T => exact j _ _ h
  | bad => exact h
theorem wF_to {r : Res D} {Q : QA} (h : wF r Q noX) : ∃ d S, r = .ok d S ∧ Q d S := by
  cases r with
  | ok e T => exact ⟨e, T, rfl, h⟩
  | ex C T => exact h.elim
  | bad => exact h.elim
section
variable {σ l : Sl} {S : Sto} {Q : QA} {QB : Bool → Sto → Prop} {QL : List D → Sto → Prop} {QI : Src → Sto → Prop} {QP : Option Int → Sto → Prop} {QG : Sl → Sto → Prop} {X : XA} {T : EndA} {nx bk ct : Sl → Sto → Prop} {rt : D → Sto → Prop} {ex : Addr → Sl → Sto → Prop}
  {m a b c : M D} {ml : M (List D)} {ba bb : M Bool} {x y d : D} {i j : Int} {s t : Str} {k : Bool} {F : Fn} {C : Addr} {f : Op2} {g : Op1} {fN : OpN} {p q : Sm} {tg : Tg} {tgs : Tgs} {P : Bool → Prop} {ds es : List D} {n : Nat}
theorem w_c (h : Q d S) : wE (eC d) σ S Q X := h
theorem w_e1 (h : wE a σ S (fun x S1 => wO (g x S1) Q) X) : wE (e1 g a) σ S Q X := by
  unfold wE at *
  unfold e1 eBind
  cases e : a σ S with
  | ok d S1 =>
    rw [e] at h
    show wF (ofO (g d S1)) Q X
    change wO (g d S1) Q at h
    cases e2 : g d S1 with
    | none => rw [e2] at h; exact h.elim
    | some p => rw [e2] at h; exact h
  | ex C S1 => rw [e] at h; exact h
  | bad => rw [e] at h; exact h
theorem w_eB {kk : D → M D} (h : wE a σ S (fun x S1 => wE (kk x) σ S1 Q X) X) : wE (eBind a kk) σ S Q X := by
  unfold wE at *
  unfold eBind
  cases e : a σ S with
  | ok d S1 => rw [e] at h; exact h
  | ex C S1 => rw [e] at h; exact h
  | bad => rw [e] at h; exact h
theorem w_e2 (h : wE a σ S (fun x S1 => wE b σ S1 (fun y S2 => wO (f x y S2) Q) X) X) : wE (e2 f a b) σ S Q X := by
  refine w_eB ?_
  unfold wE at *
  cases e : a σ S with
  | ok d S1 =>
    rw [e] at h
    exact w_e1 (g := fun y S2 => f d y S2) h
  | ex C S1 => rw [e] at h; exact h
  | bad => rw [e] at h; exact h
theorem w_eL {kk : List D → M D} (h : wL ml σ S (fun x S1 => wE (kk x) σ S1 Q X) X) : wE (eBind ml kk) σ S Q X := by
  unfold wL at h
  unfold wE eBind
  cases e : ml σ S with
  | ok d S1 => rw [e] at h; exact h
  | ex C S1 => rw [e] at h; exact h
  | bad => rw [e] at h; exact h
theorem w_o {r : Option (D × Sto)} (h : wO r Q) : wF (ofO r) Q X := by
  cases r with
  | none => exact h.elim
  | some p => exact h
theorem w_eN (h : wL ml σ S (fun ds S1 => wO (fN ds S1) Q) X) : wE (eN fN ml) σ S Q X := by
  refine w_eL ?_
  unfold wL at *
  cases e : ml σ S with
  | ok d S1 => rw [e] at h; exact w_o h
  | ex C S1 => rw [e] at h; exact h
  | bad => rw [e] at h; exact h
theorem w_f1 (h : wO (g d S) Q) : wO (f1 g [d] S) Q := h
theorem w_f2 (h : wO (f x y S) Q) : wO (f2 f [x, y] S) Q := h
theorem w_nil (h : QL [] S) : wL aNil σ S QL X := h
theorem w_cons (h : wE a σ S (fun x S1 => wL ml σ S1 (fun xs S2 => QL (x :: xs) S2) X) X) : wL (aCons a ml) σ S QL X := by
  unfold wE at h
  unfold wL aCons eBind
  cases e : a σ S with
  | ok d S1 =>
    rw [e] at h
    change wL ml σ S1 _ X at h
    unfold wL at h
    show match ((ml σ S1).bind fun ds S2 => Res.ok (d :: ds) S2) with
      | .ok d S => QL d S
      | .ex C S => X C S
      | .bad => False
    cases e2 : ml σ S1 with
    | ok ds S2 => rw [e2] at h; exact h
    | ex C S2 => rw [e2] at h; exact h
    | bad => rw [e2] at h; exact h
  | ex C S1 => rw [e] at h; exact h
  | bad => rw [e] at h; exact h
theorem w_tup (h : wL ml σ S (fun ds S1 => ds.length ≤ sizeLine ∧ Q (.tup ds) S1) X) : wE (eTup ml) σ S Q X := by
  refine w_eL ?_
  unfold wL at *
  cases e : ml σ S with
  | ok d S1 =>
    rw [e] at h
    show wF (ofO (gd _ _)) Q X
    rw [gd_ok h.1]
    exact h.2
  | ex C S1 => rw [e] at h; exact h
  | bad => rw [e] at h; exact h
theorem w_lst (h : wL ml σ S (fun ds S1 => ds.length ≤ sizeLine ∧ Q (.ref S1.length) (S1 ++ [.lst ds])) X) : wE (eLst ml) σ S Q X := by
  refine w_eL ?_
  unfold wL at *
  cases e : ml σ S with
  | ok d S1 =>
    rw [e] at h
    show wF (ofO (gd _ _)) Q X
    rw [gd_ok h.1]
    exact h.2
  | ex C S1 => rw [e] at h; exact h
  | bad => rw [e] at h; exact h
theorem w_call (h : wL ml σ S (fun ds S1 => wF (F ds S1) Q X) X) : wE (eCall F ml) σ S Q X := w_eL h
theorem w_meth (h : wE a σ S (fun o S1 => wObj C o S1 (wL ml σ S1 (fun ds S2 => wF (F (o :: ds) S2) Q X) X)) X) : wE (eMeth C F a ml) σ S Q X := by
  refine w_eB ?_
  unfold wE at *
  cases e : a σ S with
  | ok d S1 =>
    rw [e] at h
    cases d with
    | ref n =>
      obtain ⟨⟨ds, hd⟩, h2⟩ := h
      show wF _ Q X
      simp only [hd, if_true]
      exact w_eL h2
    | _ => exact h.elim
  | ex C S1 => rw [e] at h; exact h
  | bad => rw [e] at h; exact h
theorem w_obj {P : Prop} (h : S[n]? = some (.obj C ds)) (q : P) : wObj C (.ref n) S P := ⟨⟨ds, h⟩, q⟩
theorem w_make (h : wL ml σ S (fun ds S1 => wF (F (.ref S1.length :: ds) (S1 ++ [.obj C []])) (fun v S2 => v = .non ∧ Q (.ref S1.length) S2) noX) X) : wE (eMake C F ml) σ S Q X := by
  refine w_eL ?_
  unfold wL at *
  cases e : ml σ S with
  | ok d S1 =>
    rw [e] at h
    obtain ⟨v, S2, e2, rfl, q⟩ := wF_to h
    show wF (mkRes S1.length _) Q X
    rw [e2]
    exact q
  | ex C S1 => rw [e] at h; exact h
  | bad => rw [e] at h; exact h
/-! tests -/
theorem w_bB {kk : D → M Bool} (h : wE a σ S (fun x S1 => wB (kk x) σ S1 QB X) X) : wB (eBind a kk) σ S QB X := by
  unfold wE at h
  unfold wB eBind
  cases e : a σ S with
  | ok d S1 => rw [e] at h; exact h
  | ex C S1 => rw [e] at h; exact h
  | bad => rw [e] at h; exact h
theorem w_bBB {kk : Bool → M Bool} (h : wB ba σ S (fun x S1 => wB (kk x) σ S1 QB X) X) : wB (eBind ba kk) σ S QB X := by
  unfold wB at h
  unfold wB eBind
  cases e : ba σ S with
  | ok d S1 => rw [e] at h; exact h
  | ex C S1 => rw [e] at h; exact h
  | bad => rw [e] at h; exact h
theorem w_eBB {kk : Bool → M D} (h : wB ba σ S (fun x S1 => wE (kk x) σ S1 Q X) X) : wE (eBind ba kk) σ S Q X := by
  unfold wB at h
  unfold wE eBind
  cases e : ba σ S with
  | ok d S1 => rw [e] at h; exact h
  | ex C S1 => rw [e] at h; exact h
  | bad => rw [e] at h; exact h
theorem w_t (h : wE a σ S (fun d S1 => vBl d fun b => QB b S1) X) : wB (eT a) σ S QB X := by
  refine w_bB ?_
  unfold wE at *
  cases e : a σ S with
  | ok d S1 =>
    rw [e] at h
    cases d with
    | bl k => exact h
    | _ => exact h.elim
  | ex C S1 => rw [e] at h; exact h
  | bad => rw [e] at h; exact h
theorem w_bl (h : P k) : vBl (.bl k) P := h
theorem w_tru (h : wE a σ S (fun d S1 => ∃ b, dTru d S1 = some b ∧ QB b S1) X) : wB (bTru a) σ S QB X := by
  refine w_bB ?_
  unfold wE at *
  cases e : a σ S with
  | ok d S1 =>
    rw [e] at h
    obtain ⟨b, e2, q⟩ := h
    show wB (fun _ _ => _) σ S1 QB X
    unfold wB
    simp only [e2]
    exact q
  | ex C S1 => rw [e] at h; exact h
  | bad => rw [e] at h; exact h
theorem w_yes (h : QB true S) : wB bYes σ S QB X := h
theorem w_not (h : wB ba σ S (fun c S1 => QB (!c) S1) X) : wB (bNot ba) σ S QB X := w_bBB h
theorem w_and (h : wB ba σ S (fun c S1 => if c = true then wB bb σ S1 QB X else QB false S1) X) : wB (bAnd ba bb) σ S QB X := by
  refine w_bBB ?_
  unfold wB at h ⊢
  cases e : ba σ S with
  | ok k S1 =>
    rw [e] at h
    cases k with
    | true => exact h
    | false => exact h
  | ex C S1 => rw [e] at h; exact h
  | bad => rw [e] at h; exact h
theorem w_or (h : wB ba σ S (fun c S1 => if c = true then QB true S1 else wB bb σ S1 QB X) X) : wB (bOr ba bb) σ S QB X := by
  refine w_bBB ?_
  unfold wB at h ⊢
  cases e : ba σ S with
  | ok k S1 =>
    rw [e] at h
    cases k with
    | true => exact h
    | false => exact h
  | ex C S1 => rw [e] at h; exact h
  | bad => rw [e] at h; exact h
theorem w_ifE (h : wB ba σ S (fun c S1 => if c = true then wE a σ S1 Q X else wE b σ S1 Q X) X) : wE (eIf ba a b) σ S Q X := by
  refine w_eBB ?_
  unfold wB at h ⊢
  cases e : ba σ S with
  | ok k S1 =>
    rw [e] at h
    cases k with
    | true => exact h
    | false => exact h
  | ex C S1 => rw [e] at h; exact h
  | bad => rw [e] at h; exact h
theorem w_notE (h : wE a σ S (fun x S1 => vBl x fun c => Q (.bl (!c)) S1) X) : wE (eNot a) σ S Q X := by
  refine w_eB ?_
  unfold wE at *
  cases e : a σ S with
  | ok d S1 =>
    rw [e] at h
    cases d with
    | bl k => exact h
    | _ => exact h.elim
  | ex C S1 => rw [e] at h; exact h
  | bad => rw [e] at h; exact h
theorem w_andE (h : wE a σ S (fun x S1 => vBl x fun c => if c = true then wE b σ S1 Q X else Q (.bl false) S1) X) : wE (eAnd a b) σ S Q X := by
  refine w_eB ?_
  unfold wE at *
  cases e : a σ S with
  | ok d S1 =>
    rw [e] at h
    cases d with
    | bl k =>
      cases k with
      | true => exact h
      | false => exact h
    | _ => exact h.elim
  | ex C S1 => rw [e] at h; exact h
  | bad => rw [e] at h; exact h
theorem w_orE (h : wE a σ S (fun x S1 => vBl x fun c => if c = true then Q (.bl true) S1 else wE b σ S1 Q X) X) : wE (eOr a b) σ S Q X := by
  refine w_eB ?_
  unfold wE at *
  cases e : a σ S with
  | ok d S1 =>
    rw [e] at h
    cases d with
    | bl k =>
      cases k with
      | true => exact h
      | false => exact h
    | _ => exact h.elim
  | ex C S1 => rw [e] at h; exact h
  | bad => rw [e] at h; exact h
theorem w_chain {f f' : Op2} (h : wE a σ S (fun x S1 => wE b σ S1 (fun y S2 => wO (f x y S2) fun z S3 => vBl z fun k => if k = true then wE c σ S3 (fun w S4 => wO (f' y w S4) Q) X else Q (.bl false) S3) X) X) : wE (eChain f f' a b c) σ S Q X := by
  refine w_eB ?_
  unfold wE at *
  cases e : a σ S with
  | ok d S1 =>
    rw [e] at h
    refine w_eB ?_
    unfold wE at *
    change wF (b σ S1) _ X at h
    cases e2 : b σ S1 with
    | ok d2 S2 =>
      rw [e2] at h
      replace h : wO (f d d2 S2) (fun z S3 => vBl z fun k => if k = true then wE c σ S3 (fun w S4 => wO (f' d2 w S4) Q) X else Q (.bl false) S3) := h
      show wF ((ofO (f d d2 S2)).bind _) Q X
      cases e3 : f d d2 S2 with
      | none => rw [e3] at h; exact h.elim
      | some p =>
        obtain ⟨z, S3⟩ := p
        rw [e3] at h
        cases z with
        | bl k =>
          cases k with
          | true =>
            show wF ((eBind c fun w _ S => ofO (f' d2 w S)) σ S3) Q X
            exact w_e1 (g := fun y S2 => f' d2 y S2) h
          | false => exact h
        | _ => exact h.elim
    | ex C S2 => rw [e2] at h; exact h
    | bad => rw [e2] at h; exact h
  | ex C S1 => rw [e] at h; exact h
  | bad => rw [e] at h; exact h
/-! slices, texts -/
theorem w_p0 (h : QP none S) : wP mP0 σ S QP := h
theorem w_p1 (h : wE a σ S (fun x S1 => ∃ i, x = .int i ∧ QP (some i) S1) noX) : wP (mP1 a) σ S QP := by
  unfold wE at h
  unfold wP mP1
  obtain ⟨d, S1, e, i, rfl, q⟩ := wF_to h
  rw [e]
  exact q
theorem w_sl {fs : OpSl} {lo hi : M (Option Int)} (h : wE a σ S (fun x S1 => wP lo σ S1 fun l S2 => wP hi σ S2 fun u S3 => wO (fs x l u S3) Q) X) : wE (eSl fs a lo hi) σ S Q X := by
  refine w_eB ?_
  unfold wE at *
  cases e : a σ S with
  | ok d S1 =>
    rw [e] at h
    change wP lo σ S1 _ at h
    unfold wP at h
    show wF (match lo σ S1 with
      | .ok lo S1 => match hi σ S1 with
        | .ok hi S2 => ofO (fs d lo hi S2)
        | _ => .bad
      | _ => .bad) Q X
    cases e1 : lo σ S1 with
    | ok l S2 =>
      rw [e1] at h
      change wP hi σ S2 _ at h
      unfold wP at h
      simp only
      cases e2 : hi σ S2 with
      | ok u S3 =>
        rw [e2] at h
        exact w_o h
      | ex C S3 => rw [e2] at h; exact h.elim
      | bad => rw [e2] at h; exact h.elim
    | ex C S2 => rw [e1] at h; exact h.elim
    | bad => rw [e1] at h; exact h.elim
  | ex C S1 => rw [e] at h; exact h
  | bad => rw [e] at h; exact h
theorem w_js0 {acc : Str} (h : Q (.str acc) S) : wE (jsA [] acc) σ S Q X := h
theorem w_js1 {acc : Str} {ms : List (M D)} (h : wE a σ S (fun x S1 => ∃ y, x = .str y ∧ (acc ++ y).length ≤ sizeLine ∧ wE (jsA ms (acc ++ y)) σ S1 Q X) X) : wE (jsA (a :: ms) acc) σ S Q X := by
  refine w_eB ?_
  unfold wE at *
  cases e : a σ S with
  | ok d S1 =>
    rw [e] at h
    obtain ⟨y, rfl, hl, q⟩ := h
    show wF _ Q X
    simp only [if_pos hl]
    exact q
  | ex C S1 => rw [e] at h; exact h
  | bad => rw [e] at h; exact h
theorem w_m1 (h : wE a σ S (fun o S1 => ∃ x, o = .str x ∧ wE b σ S1 (fun y S2 => wO (f (.str x) y S2) Q) X) X) : wE (eM1 f a b) σ S Q X := by
  refine w_eB ?_
  unfold wE at *
  cases e : a σ S with
  | ok d S1 =>
    rw [e] at h
    obtain ⟨x, rfl, q⟩ := h
    exact w_e1 (g := fun y S2 => f (.str x) y S2) q
  | ex C S1 => rw [e] at h; exact h
  | bad => rw [e] at h; exact h
theorem w_bm {fm : OpM} (h : wE a σ S (fun o S1 => ∃ p, listAt S1 o = some p ∧ wL ml σ S1 (fun ds S2 => wO (fm o ds S2) Q) X) X) : wE (eBM fm a ml) σ S Q X := by
  refine w_eB ?_
  unfold wE at *
  cases e : a σ S with
  | ok d S1 =>
    rw [e] at h
    obtain ⟨p, e1, q⟩ := h
    show wF _ Q X
    simp only [e1]
    refine w_eL ?_
    unfold wL at *
    cases e2 : ml σ S1 with
    | ok ds S2 => rw [e2] at q; exact w_o q
    | ex C S2 => rw [e2] at q; exact q
    | bad => rw [e2] at q; exact q
  | ex C S1 => rw [e] at h; exact h
  | bad => rw [e] at h; exact h
/-! statements -/
theorem w_sB {kk : D → Sm} (h : wE a σ S (fun x S1 => wS (kk x) σ S1 T) fun C S1 => T.ex C σ S1) : wS (sBind a kk) σ S T := by
  unfold wE at h
  unfold wS sBind
  cases e : a σ S with
  | ok d S1 => rw [e] at h; exact h
  | ex C S1 => rw [e] at h; exact h
  | bad => rw [e] at h; exact h
theorem w_sBB {kk : Bool → Sm} (h : wB ba σ S (fun x S1 => wS (kk x) σ S1 T) fun C S1 => T.ex C σ S1) : wS (sBind ba kk) σ S T := by
  unfold wB at h
  unfold wS sBind
  cases e : ba σ S with
  | ok d S1 => rw [e] at h; exact h
  | ex C S1 => rw [e] at h; exact h
  | bad => rw [e] at h; exact h
theorem w_seq (h : wS p σ S ⟨fun σ1 S1 => wS q σ1 S1 ⟨nx, rt, bk, ct, ex⟩, rt, bk, ct, ex⟩) : wS (cSeq p q) σ S ⟨nx, rt, bk, ct, ex⟩ := by
  unfold wS at *
  unfold cSeq
  cases e : p σ S with
  | nx σ1 S1 => rw [e] at h; exact h
  | rt _ _ => rw [e] at h; exact h
  | bk _ _ => rw [e] at h; exact h
  | ct _ _ => rw [e] at h; exact h
  | ex _ _ _ => rw [e] at h; exact h
  | bad => rw [e] at h; exact h
theorem w_qSet (h : wS (cSet n a) σ S ⟨fun σ1 S1 => wS q σ1 S1 ⟨nx, rt, bk, ct, ex⟩, rt, bk, ct, ex⟩) : wS (cSeq (cSet n a) q) σ S ⟨nx, rt, bk, ct, ex⟩ := w_seq h
theorem w_qDrop (h : wS (cDrop a) σ S ⟨fun σ1 S1 => wS q σ1 S1 ⟨nx, rt, bk, ct, ex⟩, rt, bk, ct, ex⟩) : wS (cSeq (cDrop a) q) σ S ⟨nx, rt, bk, ct, ex⟩ := w_seq h
theorem w_qAsg (h : wS (cAsg a tg) σ S ⟨fun σ1 S1 => wS q σ1 S1 ⟨nx, rt, bk, ct, ex⟩, rt, bk, ct, ex⟩) : wS (cSeq (cAsg a tg) q) σ S ⟨nx, rt, bk, ct, ex⟩ := w_seq h
theorem w_qFld (h : wS (cFld C n a b) σ S ⟨fun σ1 S1 => wS q σ1 S1 ⟨nx, rt, bk, ct, ex⟩, rt, bk, ct, ex⟩) : wS (cSeq (cFld C n a b) q) σ S ⟨nx, rt, bk, ct, ex⟩ := w_seq h
/-- a statement, then the rest once -/
theorem w_cut (Mid : Sl → Sto → Prop) (h1 : wS p σ S ⟨Mid, rt, bk, ct, ex⟩) (h2 : ∀ σ1 S1, Mid σ1 S1 → wS q σ1 S1 ⟨nx, rt, bk, ct, ex⟩) : wS (cSeq p q) σ S ⟨nx, rt, bk, ct, ex⟩ := by
  refine w_seq ?_
  unfold wS at *
  cases e : p σ S with
  | nx σ1 S1 => rw [e] at h1; exact h2 _ _ h1
  | rt _ _ => rw [e] at h1; exact h1
  | bk _ _ => rw [e] at h1; exact h1
  | ct _ _ => rw [e] at h1; exact h1
  | ex _ _ _ => rw [e] at h1; exact h1
  | bad => rw [e] at h1; exact h1
theorem w_next (h : nx σ S) : wS cNext σ S ⟨nx, rt, bk, ct, ex⟩ := h
theorem w_break (h : bk σ S) : wS cBreak σ S ⟨nx, rt, bk, ct, ex⟩ := h
theorem w_cont (h : ct σ S) : wS cCont σ S ⟨nx, rt, bk, ct, ex⟩ := h
theorem w_drop (h : wE a σ S (fun _ S1 => nx σ S1) fun C S1 => ex C σ S1) : wS (cDrop a) σ S ⟨nx, rt, bk, ct, ex⟩ := w_sB h
theorem w_ret (h : wE a σ S rt fun C S1 => ex C σ S1) : wS (cRet a) σ S ⟨nx, rt, bk, ct, ex⟩ := w_sB h
theorem w_retN (h : rt .non S) : wS cRetN σ S ⟨nx, rt, bk, ct, ex⟩ := h
theorem w_ifS (h : wB ba σ S (fun c S1 => if c = true then wS p σ S1 ⟨nx, rt, bk, ct, ex⟩ else wS q σ S1 ⟨nx, rt, bk, ct, ex⟩) fun C S1 => ex C σ S1) : wS (cIf ba p q) σ S ⟨nx, rt, bk, ct, ex⟩ := by
  refine w_sBB ?_
  unfold wB at h ⊢
  cases e : ba σ S with
  | ok k S1 =>
    rw [e] at h
    cases k with
    | true => exact h
    | false => exact h
  | ex C S1 => rw [e] at h; exact h
  | bad => rw [e] at h; exact h
theorem w_set (h : wE a σ S (fun d S1 => nx (σ.set n (some d)) S1) fun C S1 => ex C σ S1) : wS (cSet n a) σ S ⟨nx, rt, bk, ct, ex⟩ := w_sB h
theorem w_asg (h : wE a σ S (fun d S1 => wG (tg d σ S1) nx) fun C S1 => ex C σ S1) : wS (cAsg a tg) σ S ⟨nx, rt, bk, ct, ex⟩ := by
  refine w_sB ?_
  unfold wE at *
  cases e : a σ S with
  | ok d S1 =>
    rw [e] at h
    change wG (tg d σ S1) nx at h
    show wR (match tg d σ S1 with | some (σ1, S1) => .nx σ1 S1 | none => .bad) _
    cases e2 : tg d σ S1 with
    | none => rw [e2] at h; exact h.elim
    | some p => rw [e2] at h; exact h
  | ex C S1 => rw [e] at h; exact h
  | bad => rw [e] at h; exact h
theorem w_fld (h : wE b σ S (fun d S1 => wE a σ S1 (fun o S2 => ∃ S3, dFldSet C n o d S2 = some S3 ∧ nx σ S3) fun C S1 => ex C σ S1) fun C S1 => ex C σ S1) : wS (cFld C n a b) σ S ⟨nx, rt, bk, ct, ex⟩ := by
  refine w_sB ?_
  unfold wE at *
  cases e : b σ S with
  | ok d S1 =>
    rw [e] at h
    change wF (a σ S1) _ _ at h
    refine w_sB ?_
    unfold wE
    cases e2 : a σ S1 with
    | ok o S2 =>
      rw [e2] at h
      obtain ⟨S3, e3, q⟩ := h
      show wR (match dFldSet C n o d S2 with | some S1 => .nx σ S1 | none => .bad) _
      rw [e3]
      exact q
    | ex C S2 => rw [e2] at h; exact h
    | bad => rw [e2] at h; exact h
  | ex C S1 => rw [e] at h; exact h
  | bad => rw [e] at h; exact h
theorem w_raise (h : wE a σ S (fun _ S1 => ex C σ S1) fun C S1 => ex C σ S1) : wS (cRaise C a) σ S ⟨nx, rt, bk, ct, ex⟩ := w_sB h
theorem w_try {xm : Addr → Addr → Option Bool} (h : wS p σ S ⟨nx, rt, bk, ct, fun C' σ1 S1 => ∃ b, xm C' C = some b ∧ if b = true then wS q σ1 S1 ⟨nx, rt, bk, ct, ex⟩ else ex C' σ1 S1⟩) : wS (cTry xm C p q) σ S ⟨nx, rt, bk, ct, ex⟩ := by
  unfold wS at *
  unfold cTry
  cases e : p σ S with
  | nx σ1 S1 => rw [e] at h; exact h
  | rt _ _ => rw [e] at h; exact h
  | bk _ _ => rw [e] at h; exact h
  | ct _ _ => rw [e] at h; exact h
  | ex C' σ1 S1 =>
    rw [e] at h
    obtain ⟨b, e2, q⟩ := h
    simp only [e2]
    cases b with
    | true => exact q
    | false => exact q
  | bad => rw [e] at h; exact h
/-! targets -/
theorem g_tup (h : wG (tgs ds σ S) QG) : wG (tgTup tgs (.tup ds) σ S) QG := h
theorem g_nil (h : QG σ S) : wG (tgNil [] σ S) QG := h
theorem g_cons (h : wG (tg d σ S) fun σ1 S1 => wG (tgs ds σ1 S1) QG) : wG (tgCons tg tgs (d :: ds) σ S) QG := by
  show wG ((tg d σ S).bind fun p => tgs ds p.1 p.2) QG
  cases e : tg d σ S with
  | none => rw [e] at h; exact h.elim
  | some p => rw [e] at h; exact h
theorem g_name (h : QG (σ.set n (some d)) S) : wG (tgName n d σ S) QG := h
theorem g_sub {mo mi : M D} {fs : OpS} (h : wE mo σ S (fun o S1 => wE mi σ S1 (fun i S2 => ∃ S3, fs o i d S2 = some S3 ∧ QG σ S3) noX) noX) : wG (tgSub mo mi fs d σ S) QG := by
  obtain ⟨o, S1, e1, h⟩ := wF_to h
  obtain ⟨i, S2, e2, S3, e3, h⟩ := wF_to h
  unfold tgSub
  simp only [e1, e2, e3]
  exact h
theorem g_fld {mo : M D} (h : wE mo σ S (fun o S1 => ∃ S3, dFldSet C n o d S1 = some S3 ∧ QG σ S3) noX) : wG (tgFld C n mo d σ S) QG := by
  obtain ⟨o, S1, e1, S3, e3, h⟩ := wF_to h
  unfold tgFld
  simp only [e1, e3]
  exact h
/-! a def's body -/
theorem w_fn0 {np nn : Nat} (hn : ds.length = np) (h : wS p (startA nn ds) S ⟨fun _ S1 => Q .non S1, Q, fun _ _ => False, fun _ _ => False, fun _ _ _ => False⟩) : wF (fn0 np nn p ds S) Q X := by
  unfold fn0
  rw [if_pos hn]
  unfold wS at h
  cases e : p (startA nn ds) S with
  | nx σ1 S1 => rw [e] at h; exact h
  | rt _ _ => rw [e] at h; exact h
  | bk _ _ => rw [e] at h; exact h.elim
  | ct _ _ => rw [e] at h; exact h.elim
  | ex _ _ _ => rw [e] at h; exact h.elim
  | bad => rw [e] at h; exact h.elim
theorem w_fnX {np nn : Nat} (hn : ds.length = np) (h : wS p (startA nn ds) S ⟨fun _ S1 => Q .non S1, Q, fun _ _ => False, fun _ _ => False, fun C _ S1 => X C S1⟩) : wF (fnX np nn p ds S) Q X := by
  unfold fnX
  rw [if_pos hn]
  unfold wS at h
  cases e : p (startA nn ds) S with
  | nx σ1 S1 => rw [e] at h; exact h
  | rt _ _ => rw [e] at h; exact h
  | bk _ _ => rw [e] at h; exact h.elim
  | ct _ _ => rw [e] at h; exact h.elim
  | ex _ _ _ => rw [e] at h; exact h
  | bad => rw [e] at h; exact h.elim
/-! operators at written values -/
theorem o_add (h : Q (.int (i + j)) S) : wO (dAdd (.int i) (.int j) S) Q := h
theorem o_sub (h : Q (.int (i - j)) S) : wO (dSub (.int i) (.int j) S) Q := h
theorem o_mul (h : Q (.int (i * j)) S) (c : CMul i j) : wO (dMul (.int i) (.int j) S) Q := by
  show wO (gd _ _) Q
  rw [gd_ok c]
  exact h
theorem o_mod (h : Q (.int (i % j)) S) (c : 0 < j) : wO (dMod (.int i) (.int j) S) Q := by
  show wO (gd _ _) Q
  rw [gd_ok c]
  exact h
theorem o_fdiv (h : Q (.int (i.fdiv j)) S) (c : CDivN i j) : wO (dFdiv (.int i) (.int j) S) Q := by
  show wO (gd _ _) Q
  rw [gd_ok c]
  exact h
theorem o_pow (h : Q (.int (i ^ j.toNat)) S) (c : CPow i j) : wO (dPow (.int i) (.int j) S) Q := by
  show wO (gd _ _) Q
  rw [gd_ok c]
  exact h
theorem o_neg (h : Q (.int (-i)) S) : wO (dNeg (.int i) S) Q := h
theorem o_lt (h : Q (.bl (decide (i < j))) S) : wO (dLt (.int i) (.int j) S) Q := h
theorem o_le (h : Q (.bl (decide (i ≤ j))) S) : wO (dLe (.int i) (.int j) S) Q := h
theorem o_gt (h : Q (.bl (decide (j < i))) S) : wO (dGt (.int i) (.int j) S) Q := h
theorem o_ge (h : Q (.bl (decide (j ≤ i))) S) : wO (dGe (.int i) (.int j) S) Q := h
theorem o_eqI (h : Q (.bl (decide (i = j))) S) : wO (dEq (.int i) (.int j) S) Q := h
theorem o_neI (h : Q (.bl (!decide (i = j))) S) : wO (dNe (.int i) (.int j) S) Q := h
theorem o_eqS (h : Q (.bl (decide (s = t))) S) : wO (dEq (.str s) (.str t) S) Q := h
theorem o_neS (h : Q (.bl (!decide (s = t))) S) : wO (dNe (.str s) (.str t) S) Q := h
theorem o_isN (h : Q (.bl (isNon x)) S) : wO (dIsN x .non S) Q := h
theorem o_notN (h : Q (.bl (!isNon x)) S) : wO (dNotN x .non S) Q := h
theorem o_adS (h : Q (.str (s ++ t)) S) (c : s.length + t.length ≤ sizeLine) : wO (dAdS (.str s) (.str t) S) Q := by
  show wO (gd _ _) Q
  rw [gd_ok c]
  exact h
theorem o_ixL (e : S[n]? = some (.lst ds)) (ei : atI ds i = some d) (h : Q d S) : wO (dIxL (.ref n) (.int i) S) Q := by
  rw [dIxL_ref e, ei]
  exact h
theorem o_ixT (ei : atI ds i = some d) (h : Q d S) : wO (dIxT (.tup ds) (.int i) S) Q := by
  show wO ((atI ds i).map _) Q
  rw [ei]
  exact h
theorem o_ixT0 {r : List D} (h : Q d S) : wO (dIxT (.tup (d :: r)) (.int 0) S) Q := o_ixT (atI_0 d r) h
theorem o_ixT1 {r : List D} {x0 : D} (h : Q d S) : wO (dIxT (.tup (x0 :: d :: r)) (.int 1) S) Q := o_ixT (atI_1 x0 d r) h
theorem o_ixT2 {r : List D} {x0 x1 : D} (h : Q d S) : wO (dIxT (.tup (x0 :: x1 :: d :: r)) (.int 2) S) Q := o_ixT (atI_2 x0 x1 d r) h
theorem o_ixT3 {r : List D} {x0 x1 x2 : D} (h : Q d S) : wO (dIxT (.tup (x0 :: x1 :: x2 :: d :: r)) (.int 3) S) Q := o_ixT (atI_3 x0 x1 x2 d r) h
theorem o_ixR {ns : List Int} {z : Int} (ei : atI ns i = some z) (h : Q (.int z) S) : wO (dIxR (.scr ns) (.int i) S) Q := by
  show wO ((atI ns i).map _) Q
  rw [ei]
  exact h
theorem o_fld (e : S[n]? = some (.obj C ds)) {z : Nat} (ei : ds[z]? = some d) (h : Q d S) : wO (dFld C z (.ref n) S) Q := by
  rw [dFld_ref e, ei]
  exact h
theorem o_int (h : Q (.int i) S) : wO (dInt (.int i) S) Q := h
theorem o_intB (h : Q (.int (if k then 1 else 0)) S) : wO (dInt (.bl k) S) Q := h
theorem o_lenQ (e : seqOf d S = some ds) (h : Q (.int (ds.length : Nat)) S) : wO (dLenQ d S) Q := by
  show wO ((seqOf d S).map _) Q
  rw [e]
  exact h
theorem o_lenS (c : s.length ≤ sizeLine) (h : Q (.int s.length) S) : wO (dLenS (.str s) S) Q := by
  show wO (gd _ _) Q
  rw [gd_ok c]
  exact h
theorem o_tupL (e : S[n]? = some (.lst ds)) (h : Q (.tup ds) S) : wO (dTupL (.ref n) S) Q := by
  show wO ((listAt S (.ref n)).map _) Q
  rw [listAt_ref e]
  exact h
theorem o_listOf (e : seqOf d S = some ds) (h : Q (.ref S.length) (S ++ [.lst ds])) : wO (dListOf d S) Q := by
  show wO ((seqOf d S).map _) Q
  rw [e]
  exact h
theorem o_cat {u : Nat} (e1 : S[n]? = some (.lst ds)) (e2 : S[u]? = some (.lst es)) (c : ds.length + es.length ≤ sizeLine) (h : Q (.ref S.length) (S ++ [.lst (ds ++ es)])) : wO (dCatL (.ref n) (.ref u) S) Q := by
  unfold dCatL
  rw [listAt_ref e1, listAt_ref e2]
  show wO (gd _ _) Q
  rw [gd_ok c]
  exact h
theorem o_append (e : S[n]? = some (.lst ds)) (c : ds.length < sizeLine) (h : Q .non (S.set n (.lst (ds ++ [d])))) : wO (dAppend (.ref n) [d] S) Q := by
  show wO ((listAt S (.ref n)).bind _) Q
  rw [listAt_ref e]
  show wO (gd _ _) Q
  rw [gd_ok c]
  exact h
theorem o_slS {lo hi : Option Int} (c : s.length ≤ sizeLine) (h : Q (.str (cutS s lo hi)) S) : wO (dSlS (.str s) lo hi S) Q := by
  show wO (gd _ _) Q
  rw [gd_ok c]
  exact h
theorem o_all {bs : List Bool} (e : S[n]? = some (.lst (bs.map .bl))) (h : Q (.bl (bs.all id)) S) : wO (dAll (.ref n) S) Q := by
  unfold dAll
  rw [listAt_ref e]
  have : ∀ bs : List Bool, blsOf (bs.map .bl) = some bs := by
    intro bs
    induction bs with
    | nil => rfl
    | cons b bs ih => show (blsOf (bs.map .bl)).map _ = _; rw [ih]; rfl
  show wO ((blsOf (bs.map .bl)).map _) Q
  rw [this]
  exact h
theorem o_fmtI (c : i.natAbs.log2 < 1920) (h : Q (.str (toString i)) S) : wO (dFmt (.int i) S) Q := by
  show wO (gd _ _) Q
  rw [gd_ok c]
  exact h
theorem o_fmtS (c : s.length ≤ sizeLine) (h : Q (.str s) S) : wO (dFmt (.str s) S) Q := by
  show wO (gd _ _) Q
  rw [gd_ok c]
  exact h
theorem o_isi {nm kd : String} (e : tyN x S = some nm) (r : kitB nm kd = some k) (h : Q (.bl k) S) : wO (dIsi x (.ty kd) S) Q := by
  show wO ((tyN x S).bind _) Q
  rw [e]
  show wO ((kitB nm kd).map _) Q
  rw [r]
  exact h
theorem o_join {xs : List Str} (e : seqOf d S = some (xs.map .str)) (c : (xs.map (·.length)).sum + xs.length * s.length ≤ 16777216) (h : Q (.str (Txt.join s xs)) S) : wO (dJoin (.str s) d S) Q := by
  unfold dJoin
  rw [e]
  have : ∀ xs : List Str, strsOf (xs.map .str) = some xs := by
    intro xs
    induction xs with
    | nil => rfl
    | cons b bs ih => show (strsOf (bs.map .str)).map _ = _; rw [ih]; rfl
  show wO ((strsOf (xs.map .str)).bind _) Q
  rw [this]
  show wO (gd _ _) Q
  rw [gd_ok c]
  exact h
theorem o_srtI {ns : List Int} (e : S[n]? = some (.lst (ns.map .int))) (h : Q (.ref S.length) (S ++ [.lst ((srtI ns).map .int)])) : wO (dSrtI (.ref n) S) Q := by
  unfold dSrtI
  rw [listAt_ref e]
  have : ∀ xs : List Int, intsOfD (xs.map .int) = some xs := by
    intro xs
    induction xs with
    | nil => rfl
    | cons b bs ih => show (intsOfD (bs.map .int)).map _ = _; rw [ih]; rfl
  show wO ((intsOfD (ns.map .int)).map _) Q
  rw [this]
  exact h
theorem o_eqD {v : Bool} (e : dEqv x y S = some v) (h : Q (.bl v) S) : wO (dEqD x y S) Q := by
  show wO ((dEqv x y S).map _) Q
  rw [e]
  exact h
theorem o_neD {v : Bool} (e : dEqv x y S = some v) (h : Q (.bl (!v)) S) : wO (dNeD x y S) Q := by
  show wO ((dEqv x y S).map _) Q
  rw [e]
  exact h
theorem o_dec {A B : Prop} {cc : Prop} [Decidable cc] (h1 : cc → A) (h2 : ¬ cc → B) : if decide cc = true then A else B := if_dec h1 h2
theorem o_ndec {A B : Prop} {cc : Prop} [Decidable cc] (h1 : ¬ cc → A) (h2 : cc → B) : if (!decide cc) = true then A else B := if_ndec h1 h2
/-- loops: an invariant by the turn -/
theorem w_loop {gd : Sto → Prop} {P : Nat → Sl → Sto → Prop} {body : Sm} : ∀ {ds : List D} {k : Nat} {σ : Sl} {S : Sto}, P k σ S → (∀ i d σ S, ds[i]? = some d → P (k + i) σ S → wG (tg d σ S) fun σ1 S1 => wS body σ1 S1 ⟨fun σ2 S2 => gd S2 ∧ P (k + i + 1) σ2 S2, rt, nx, fun σ2 S2 => gd S2 ∧ P (k + i + 1) σ2 S2, ex⟩) →
    (∀ σ S, P (k + ds.length) σ S → nx σ S) → wS (cLoop gd tg body ds) σ S ⟨nx, rt, bk, ct, ex⟩
  | [], k, σ, S, h0, hs, hd => hd σ S h0
  | d :: ds, k, σ, S, h0, hs, hd => by
    have h := hs 0 d σ S rfl h0
    unfold wS
    rw [cLoop]
    cases e : tg d σ S with
    | none => rw [e] at h; exact h.elim
    | some p =>
      rw [e] at h
      change wS body p.1 p.2 _ at h
      unfold wS at h
      simp only
      have go : ∀ σ2 S2, gd S2 ∧ P (k + 0 + 1) σ2 S2 → wR (open Classical in if gd S2 then cLoop gd tg body ds σ2 S2 else .bad) ⟨nx, rt, bk, ct, ex⟩ := fun σ2 S2 hp => by
        rw [if_pos hp.1]
        refine w_loop (k := k + 1) hp.2 (fun i d' σ' S' hi hP => ?_) (fun σ' S' hP => hd σ' S' (by rw [List.length_cons, show k + (ds.length + 1) = k + 1 + ds.length by omega]; exact hP))
        have q := hs (i + 1) d' σ' S' (by rw [List.getElem?_cons_succ]; exact hi) (by rw [show k + (i + 1) = k + 1 + i by omega]; exact hP)
        rw [show k + (i + 1) + 1 = k + 1 + i + 1 by omega] at q
        exact q
      cases eb : body p.1 p.2 with
      | nx σ2 S2 => rw [eb] at h; exact go _ _ h
      | ct σ2 S2 => rw [eb] at h; exact go _ _ h
      | bk σ2 S2 => rw [eb] at h; exact h
      | rt d2 S2 => rw [eb] at h; exact h
      | ex C σ2 S2 => rw [eb] at h; exact h
      | bad => rw [eb] at h; exact h
theorem w_for {mi : M Src} {body : Sm} (h : wI mi σ S (fun src S1 => src.gd S1 ∧ wS (cLoop src.gd tg body src.items) σ S1 ⟨nx, rt, bk, ct, ex⟩) fun C S1 => ex C σ S1) : wS (cFor mi tg body) σ S ⟨nx, rt, bk, ct, ex⟩ := by
  unfold wI at h
  unfold wS cFor sBind
  cases e : mi σ S with
  | ok src S1 =>
    rw [e] at h
    simp only
    rw [if_pos h.1]
    exact h.2
  | ex C S1 => rw [e] at h; exact h
  | bad => rw [e] at h; exact h
/-! sources -/
theorem i_eB {kk : D → M Src} (h : wE a σ S (fun x S1 => wI (kk x) σ S1 QI X) X) : wI (eBind a kk) σ S QI X := by
  unfold wE at h
  unfold wI eBind
  cases e : a σ S with
  | ok d S1 => rw [e] at h; exact h
  | ex C S1 => rw [e] at h; exact h
  | bad => rw [e] at h; exact h
theorem i_list (e : S[n]? = some (.lst ds)) (h : QI ⟨ds, fun S' => S'[n]? = some (.lst ds)⟩ S) : wI (sList (.ref n)) σ S QI X := by
  unfold wI sList
  simp only [e]
  exact h
theorem i_tup (h : QI ⟨ds, fun _ => True⟩ S) : wI (sTup (.tup ds)) σ S QI X := h
theorem i_str (h : QI ⟨(tl s).map fun c => .str ⟨#[c]⟩, fun _ => True⟩ S) : wI (sStr (.str s)) σ S QI X := h
theorem i_enum (e : S[n]? = some (.lst ds)) (h : QI ⟨ds.zipIdx.map fun p => .tup [.int (p.2 : Nat), p.1], fun S' => S'[n]? = some (.lst ds)⟩ S) : wI (sEnum [.ref n]) σ S QI X := by
  unfold wI sEnum
  simp only [r1?, e]
  exact h
theorem i_bL {kk : List D → M Src} (h : wL ml σ S (fun x S1 => wI (kk x) σ S1 QI X) X) : wI (eBind ml kk) σ S QI X := by
  unfold wL at h
  unfold wI eBind
  cases e : ml σ S with
  | ok d S1 => rw [e] at h; exact h
  | ex C S1 => rw [e] at h; exact h
  | bad => rw [e] at h; exact h
theorem i_r1 (h : wL ml σ S (fun x S1 => ∃ j, x = [.int j] ∧ RgOk 0 j ∧ QI ⟨(List.range j.toNat).map fun k => .int (0 + (k : Nat)), fun _ => True⟩ S1) X) : wI (sR1 ml) σ S QI X := by
  refine i_bL ?_
  unfold wL at *
  cases e : ml σ S with
  | ok d S1 =>
    rw [e] at h
    obtain ⟨j, rfl, c, q⟩ := h
    show wI (sRng 0 j) σ S1 QI X
    unfold wI sRng
    rw [if_pos c, Int.sub_zero]
    exact q
  | ex C S1 => rw [e] at h; exact h
  | bad => rw [e] at h; exact h
theorem rg_ok {j : Int} (h0 : 0 ≤ j) (h1 : j ≤ 1000000) : RgOk 0 j := ⟨by decide, by decide, by omega, by omega⟩
/-! comprehensions -/
theorem c_gen {mi : M Src} {t : CTg} {vs : List Nat} {tt : M Bool} {te : M D} (h : wI mi σ S (fun src S0 => src.gd S0 ∧ src.gd (S0 ++ [.lst []]) ∧ ∃ P : Nat → Sto → Prop, P 0 (S0 ++ [.lst []]) ∧
      (∀ i d S, src.items[i]? = some d → P i S → ∃ σ2, cgs t d (wipeA σ vs) = some σ2 ∧ wB tt σ2 S (fun b S1 => if b = true then wE te σ2 S1 (fun y S2 => ∃ acc, S2[S0.length]? = some (.lst acc) ∧ acc.length < sizeLine ∧ src.gd (S2.set S0.length (.lst (acc ++ [y]))) ∧ P (i + 1) (S2.set S0.length (.lst (acc ++ [y])))) noX
        else src.gd S1 ∧ P (i + 1) S1) noX) ∧ ∀ S1, P src.items.length S1 → Q (.ref S0.length) S1) X) : wE (eLc mi t vs tt te) σ S Q X := by
  unfold wI at h
  unfold wE eLc
  cases e : mi σ S with
  | ex C S1 => rw [e] at h; exact h
  | bad => rw [e] at h; exact h
  | ok src S0 =>
    rw [e] at h
    obtain ⟨g0, g1, P, h0, hs, hd⟩ := h
    simp only
    rw [if_pos ⟨g0, g1⟩]
    have key : ∀ (ds : List D) (k : Nat) (S1 : Sto), (∀ i, ds[i]? = src.items[k + i]?) → P k S1 → ∃ S2, lcA src.gd t vs tt te S0.length σ ds S1 = some S2 ∧ P (k + ds.length) S2 := by
      intro ds
      induction ds with
      | nil => intro k S1 _ hP; exact ⟨S1, rfl, hP⟩
      | cons d ds ih =>
        intro k S1 hi hP
        obtain ⟨σ2, e2, hw⟩ := hs k d S1 (by have := hi 0; simpa using this.symm) hP
        have hi' : ∀ i, ds[i]? = src.items[k + 1 + i]? := fun i => by
          have := hi (i + 1)
          rw [List.getElem?_cons_succ] at this
          rw [this]
          congr 1
          omega
        rw [lcA, e2]
        simp only
        unfold wB at hw
        cases et : tt σ2 S1 with
        | ex C S2 => rw [et] at hw; exact hw.elim
        | bad => rw [et] at hw; exact hw.elim
        | ok b S2 =>
          rw [et] at hw
          cases b with
          | true =>
            obtain ⟨y, S3, e3, acc, ea, hl, hg, hp⟩ := wF_to (show wF (te σ2 S2) _ noX from hw)
            simp only [e3, ea]
            rw [if_pos ⟨hl, hg⟩]
            obtain ⟨S4, e4, h4⟩ := ih (k + 1) _ hi' hp
            exact ⟨S4, e4, by rw [List.length_cons, show k + (ds.length + 1) = k + 1 + ds.length by omega]; exact h4⟩
          | false =>
            simp only
            rw [if_pos hw.1]
            obtain ⟨S4, e4, h4⟩ := ih (k + 1) _ hi' hw.2
            exact ⟨S4, e4, by rw [List.length_cons, show k + (ds.length + 1) = k + 1 + ds.length by omega]; exact h4⟩
    obtain ⟨S2, e2, h2⟩ := key src.items 0 (S0 ++ [.lst []]) (fun i => by rw [Nat.zero_add]) h0
    rw [e2]
    exact hd S2 (by rw [Nat.zero_add] at h2; exact h2)
/-- one that only reads -/
theorem c_pure {mi : M Src} {t : CTg} {vs : List Nat} {tt : M Bool} {te : M D} (keep : D → Bool) (fx : D → D) (h : wI mi σ S (fun src S0 => src.items.length ≤ 1000000 ∧ (∀ acc, src.gd S0 ∧ src.gd (S0 ++ [.lst acc])) ∧
      (∀ d ∈ src.items, ∀ acc, ∃ σ2, cgs t d (wipeA σ vs) = some σ2 ∧ wB tt σ2 (S0 ++ [.lst acc]) (fun b S1 => b = keep d ∧ S1 = S0 ++ [.lst acc]) noX ∧ (keep d = true → wE te σ2 (S0 ++ [.lst acc]) (fun y S1 => y = fx d ∧ S1 = S0 ++ [.lst acc]) noX)) ∧
      Q (.ref S0.length) (S0 ++ [.lst ((src.items.filter keep).map fx)])) X) : wE (eLc mi t vs tt te) σ S Q X := by
  refine c_gen ?_
  unfold wI at *
  cases e : mi σ S with
  | ex C S1 => rw [e] at h; exact h
  | bad => rw [e] at h; exact h
  | ok src S0 =>
    rw [e] at h
    obtain ⟨hl, hg, hs, q⟩ := h
    refine ⟨(hg []).1, (hg []).2, fun i S1 => S1 = S0 ++ [.lst (((src.items.take i).filter keep).map fx)], rfl, fun i d S1 hi hP => ?_, fun S1 hP => ?_⟩
    · subst hP
      obtain ⟨σ2, e2, hb, he⟩ := hs d (List.mem_of_getElem? hi) (((src.items.take i).filter keep).map fx)
      refine ⟨σ2, e2, ?_⟩
      have et : src.items.take (i + 1) = src.items.take i ++ [d] := by rw [List.take_add_one, hi]; rfl
      unfold wB at hb ⊢
      cases eb : tt σ2 (S0 ++ [.lst (((src.items.take i).filter keep).map fx)]) with
      | ex C S2 => rw [eb] at hb; exact hb.elim
      | bad => rw [eb] at hb; exact hb.elim
      | ok b S2 =>
        rw [eb] at hb
        obtain ⟨rfl, rfl⟩ := hb
        cases hk : keep d with
        | true =>
          refine iteT ?_
          have he' := he hk
          obtain ⟨y, S3, e3, rfl, rfl⟩ := wF_to (show wF (te σ2 _) _ noX from he')
          unfold wE
          rw [e3]
          have hset : (S0 ++ [O.lst (((src.items.take i).filter keep).map fx)]).set S0.length (.lst (((src.items.take i).filter keep).map fx ++ [fx d])) = S0 ++ [.lst (((src.items.take i).filter keep).map fx ++ [fx d])] := by
            rw [List.set_append_right _ _ (Nat.le_refl _), Nat.sub_self]
            rfl
          refine ⟨_, app_new, lt_line ?_, ?_, ?_⟩
          · rw [List.length_map]
            have q1 := List.length_filter_le keep (src.items.take i)
            rw [List.length_take] at q1
            omega
          · rw [hset]
            exact (hg _).2
          · show _ = S0 ++ [O.lst (((src.items.take (i + 1)).filter keep).map fx)]
            rw [hset, et, List.filter_append, List.map_append, List.filter_cons, if_pos hk]
            rfl
        | false =>
          refine iteF ⟨(hg _).2, ?_⟩
          show _ = S0 ++ [O.lst (((src.items.take (i + 1)).filter keep).map fx)]
          rw [et, List.filter_append, List.map_append, List.filter_cons, if_neg (by rw [hk]; exact Bool.false_ne_true)]
          simp
    · subst hP
      rw [List.take_length]
      exact q
theorem w_nT {A B : Prop} (h : B) : if (!true) = true then A else B := h
theorem w_nF {A B : Prop} (h : A) : if (!false) = true then A else B := h
theorem len_and {n : Nat} {P : Prop} (h : P) (c : n ≤ sizeLine) : n ≤ sizeLine ∧ P := ⟨c, h⟩
theorem w_iT {A B : Prop} (h : A) : if true = true then A else B := iteT h
theorem w_iF {A B : Prop} (h : B) : if false = true then A else B := iteF h
theorem w_v0 (h : Q d S) : wE (eV 0) (some d :: l) S Q X := h
theorem w_s0 {y : Option D} (h : wE a (y :: l) S (fun d S1 => nx (some d :: l) S1) fun C S1 => ex C (y :: l) S1) : wS (cSet 0 a) (y :: l) S ⟨nx, rt, bk, ct, ex⟩ := w_set h
theorem g_n0 {y : Option D} (h : QG (some d :: l) S) : wG (tgName 0 d (y :: l) S) QG := h
theorem w_v1 {x0 : Option D} (h : Q d S) : wE (eV 1) (x0 :: some d :: l) S Q X := h
theorem w_s1 {x0 : Option D} {y : Option D} (h : wE a (x0 :: y :: l) S (fun d S1 => nx (x0 :: some d :: l) S1) fun C S1 => ex C (x0 :: y :: l) S1) : wS (cSet 1 a) (x0 :: y :: l) S ⟨nx, rt, bk, ct, ex⟩ := w_set h
theorem g_n1 {x0 : Option D} {y : Option D} (h : QG (x0 :: some d :: l) S) : wG (tgName 1 d (x0 :: y :: l) S) QG := h
theorem w_v2 {x0 x1 : Option D} (h : Q d S) : wE (eV 2) (x0 :: x1 :: some d :: l) S Q X := h
theorem w_s2 {x0 x1 : Option D} {y : Option D} (h : wE a (x0 :: x1 :: y :: l) S (fun d S1 => nx (x0 :: x1 :: some d :: l) S1) fun C S1 => ex C (x0 :: x1 :: y :: l) S1) : wS (cSet 2 a) (x0 :: x1 :: y :: l) S ⟨nx, rt, bk, ct, ex⟩ := w_set h
theorem g_n2 {x0 x1 : Option D} {y : Option D} (h : QG (x0 :: x1 :: some d :: l) S) : wG (tgName 2 d (x0 :: x1 :: y :: l) S) QG := h
theorem w_v3 {x0 x1 x2 : Option D} (h : Q d S) : wE (eV 3) (x0 :: x1 :: x2 :: some d :: l) S Q X := h
theorem w_s3 {x0 x1 x2 : Option D} {y : Option D} (h : wE a (x0 :: x1 :: x2 :: y :: l) S (fun d S1 => nx (x0 :: x1 :: x2 :: some d :: l) S1) fun C S1 => ex C (x0 :: x1 :: x2 :: y :: l) S1) : wS (cSet 3 a) (x0 :: x1 :: x2 :: y :: l) S ⟨nx, rt, bk, ct, ex⟩ := w_set h
theorem g_n3 {x0 x1 x2 : Option D} {y : Option D} (h : QG (x0 :: x1 :: x2 :: some d :: l) S) : wG (tgName 3 d (x0 :: x1 :: x2 :: y :: l) S) QG := h
theorem w_v4 {x0 x1 x2 x3 : Option D} (h : Q d S) : wE (eV 4) (x0 :: x1 :: x2 :: x3 :: some d :: l) S Q X := h
theorem w_s4 {x0 x1 x2 x3 : Option D} {y : Option D} (h : wE a (x0 :: x1 :: x2 :: x3 :: y :: l) S (fun d S1 => nx (x0 :: x1 :: x2 :: x3 :: some d :: l) S1) fun C S1 => ex C (x0 :: x1 :: x2 :: x3 :: y :: l) S1) : wS (cSet 4 a) (x0 :: x1 :: x2 :: x3 :: y :: l) S ⟨nx, rt, bk, ct, ex⟩ := w_set h
theorem g_n4 {x0 x1 x2 x3 : Option D} {y : Option D} (h : QG (x0 :: x1 :: x2 :: x3 :: some d :: l) S) : wG (tgName 4 d (x0 :: x1 :: x2 :: x3 :: y :: l) S) QG := h
theorem w_v5 {x0 x1 x2 x3 x4 : Option D} (h : Q d S) : wE (eV 5) (x0 :: x1 :: x2 :: x3 :: x4 :: some d :: l) S Q X := h
theorem w_s5 {x0 x1 x2 x3 x4 : Option D} {y : Option D} (h : wE a (x0 :: x1 :: x2 :: x3 :: x4 :: y :: l) S (fun d S1 => nx (x0 :: x1 :: x2 :: x3 :: x4 :: some d :: l) S1) fun C S1 => ex C (x0 :: x1 :: x2 :: x3 :: x4 :: y :: l) S1) : wS (cSet 5 a) (x0 :: x1 :: x2 :: x3 :: x4 :: y :: l) S ⟨nx, rt, bk, ct, ex⟩ := w_set h
theorem g_n5 {x0 x1 x2 x3 x4 : Option D} {y : Option D} (h : QG (x0 :: x1 :: x2 :: x3 :: x4 :: some d :: l) S) : wG (tgName 5 d (x0 :: x1 :: x2 :: x3 :: x4 :: y :: l) S) QG := h
theorem w_v6 {x0 x1 x2 x3 x4 x5 : Option D} (h : Q d S) : wE (eV 6) (x0 :: x1 :: x2 :: x3 :: x4 :: x5 :: some d :: l) S Q X := h
theorem w_s6 {x0 x1 x2 x3 x4 x5 : Option D} {y : Option D} (h : wE a (x0 :: x1 :: x2 :: x3 :: x4 :: x5 :: y :: l) S (fun d S1 => nx (x0 :: x1 :: x2 :: x3 :: x4 :: x5 :: some d :: l) S1) fun C S1 => ex C (x0 :: x1 :: x2 :: x3 :: x4 :: x5 :: y :: l) S1) : wS (cSet 6 a) (x0 :: x1 :: x2 :: x3 :: x4 :: x5 :: y :: l) S ⟨nx, rt, bk, ct, ex⟩ := w_set h
theorem g_n6 {x0 x1 x2 x3 x4 x5 : Option D} {y : Option D} (h : QG (x0 :: x1 :: x2 :: x3 :: x4 :: x5 :: some d :: l) S) : wG (tgName 6 d (x0 :: x1 :: x2 :: x3 :: x4 :: x5 :: y :: l) S) QG := h
theorem w_v7 {x0 x1 x2 x3 x4 x5 x6 : Option D} (h : Q d S) : wE (eV 7) (x0 :: x1 :: x2 :: x3 :: x4 :: x5 :: x6 :: some d :: l) S Q X := h
theorem w_s7 {x0 x1 x2 x3 x4 x5 x6 : Option D} {y : Option D} (h : wE a (x0 :: x1 :: x2 :: x3 :: x4 :: x5 :: x6 :: y :: l) S (fun d S1 => nx (x0 :: x1 :: x2 :: x3 :: x4 :: x5 :: x6 :: some d :: l) S1) fun C S1 => ex C (x0 :: x1 :: x2 :: x3 :: x4 :: x5 :: x6 :: y :: l) S1) : wS (cSet 7 a) (x0 :: x1 :: x2 :: x3 :: x4 :: x5 :: x6 :: y :: l) S ⟨nx, rt, bk, ct, ex⟩ := w_set h
theorem g_n7 {x0 x1 x2 x3 x4 x5 x6 : Option D} {y : Option D} (h : QG (x0 :: x1 :: x2 :: x3 :: x4 :: x5 :: x6 :: some d :: l) S) : wG (tgName 7 d (x0 :: x1 :: x2 :: x3 :: x4 :: x5 :: x6 :: y :: l) S) QG := h
theorem w_v8 {x0 x1 x2 x3 x4 x5 x6 x7 : Option D} (h : Q d S) : wE (eV 8) (x0 :: x1 :: x2 :: x3 :: x4 :: x5 :: x6 :: x7 :: some d :: l) S Q X := h
theorem w_s8 {x0 x1 x2 x3 x4 x5 x6 x7 : Option D} {y : Option D} (h : wE a (x0 :: x1 :: x2 :: x3 :: x4 :: x5 :: x6 :: x7 :: y :: l) S (fun d S1 => nx (x0 :: x1 :: x2 :: x3 :: x4 :: x5 :: x6 :: x7 :: some d :: l) S1) fun C S1 => ex C (x0 :: x1 :: x2 :: x3 :: x4 :: x5 :: x6 :: x7 :: y :: l) S1) : wS (cSet 8 a) (x0 :: x1 :: x2 :: x3 :: x4 :: x5 :: x6 :: x7 :: y :: l) S ⟨nx, rt, bk, ct, ex⟩ := w_set h
theorem g_n8 {x0 x1 x2 x3 x4 x5 x6 x7 : Option D} {y : Option D} (h : QG (x0 :: x1 :: x2 :: x3 :: x4 :: x5 :: x6 :: x7 :: some d :: l) S) : wG (tgName 8 d (x0 :: x1 :: x2 :: x3 :: x4 :: x5 :: x6 :: x7 :: y :: l) S) QG := h
theorem w_v9 {x0 x1 x2 x3 x4 x5 x6 x7 x8 : Option D} (h : Q d S) : wE (eV 9) (x0 :: x1 :: x2 :: x3 :: x4 :: x5 :: x6 :: x7 :: x8 :: some d :: l) S Q X := h
theorem w_s9 {x0 x1 x2 x3 x4 x5 x6 x7 x8 : Option D} {y : Option D} (h : wE a (x0 :: x1 :: x2 :: x3 :: x4 :: x5 :: x6 :: x7 :: x8 :: y :: l) S (fun d S1 => nx (x0 :: x1 :: x2 :: x3 :: x4 :: x5 :: x6 :: x7 :: x8 :: some d :: l) S1) fun C S1 => ex C (x0 :: x1 :: x2 :: x3 :: x4 :: x5 :: x6 :: x7 :: x8 :: y :: l) S1) : wS (cSet 9 a) (x0 :: x1 :: x2 :: x3 :: x4 :: x5 :: x6 :: x7 :: x8 :: y :: l) S ⟨nx, rt, bk, ct, ex⟩ := w_set h
theorem g_n9 {x0 x1 x2 x3 x4 x5 x6 x7 x8 : Option D} {y : Option D} (h : QG (x0 :: x1 :: x2 :: x3 :: x4 :: x5 :: x6 :: x7 :: x8 :: some d :: l) S) : wG (tgName 9 d (x0 :: x1 :: x2 :: x3 :: x4 :: x5 :: x6 :: x7 :: x8 :: y :: l) S) QG := h
theorem w_v10 {x0 x1 x2 x3 x4 x5 x6 x7 x8 x9 : Option D} (h : Q d S) : wE (eV 10) (x0 :: x1 :: x2 :: x3 :: x4 :: x5 :: x6 :: x7 :: x8 :: x9 :: some d :: l) S Q X := h
theorem w_s10 {x0 x1 x2 x3 x4 x5 x6 x7 x8 x9 : Option D} {y : Option D} (h : wE a (x0 :: x1 :: x2 :: x3 :: x4 :: x5 :: x6 :: x7 :: x8 :: x9 :: y :: l) S (fun d S1 => nx (x0 :: x1 :: x2 :: x3 :: x4 :: x5 :: x6 :: x7 :: x8 :: x9 :: some d :: l) S1) fun C S1 => ex C (x0 :: x1 :: x2 :: x3 :: x4 :: x5 :: x6 :: x7 :: x8 :: x9 :: y :: l) S1) : wS (cSet 10 a) (x0 :: x1 :: x2 :: x3 :: x4 :: x5 :: x6 :: x7 :: x8 :: x9 :: y :: l) S ⟨nx, rt, bk, ct, ex⟩ := w_set h
theorem g_n10 {x0 x1 x2 x3 x4 x5 x6 x7 x8 x9 : Option D} {y : Option D} (h : QG (x0 :: x1 :: x2 :: x3 :: x4 :: x5 :: x6 :: x7 :: x8 :: x9 :: some d :: l) S) : wG (tgName 10 d (x0 :: x1 :: x2 :: x3 :: x4 :: x5 :: x6 :: x7 :: x8 :: x9 :: y :: l) S) QG := h
theorem w_v11 {x0 x1 x2 x3 x4 x5 x6 x7 x8 x9 x10 : Option D} (h : Q d S) : wE (eV 11) (x0 :: x1 :: x2 :: x3 :: x4 :: x5 :: x6 :: x7 :: x8 :: x9 :: x10 :: some d :: l) S Q X := h
theorem w_s11 {x0 x1 x2 x3 x4 x5 x6 x7 x8 x9 x10 : Option D} {y : Option D} (h : wE a (x0 :: x1 :: x2 :: x3 :: x4 :: x5 :: x6 :: x7 :: x8 :: x9 :: x10 :: y :: l) S (fun d S1 => nx (x0 :: x1 :: x2 :: x3 :: x4 :: x5 :: x6 :: x7 :: x8 :: x9 :: x10 :: some d :: l) S1) fun C S1 => ex C (x0 :: x1 :: x2 :: x3 :: x4 :: x5 :: x6 :: x7 :: x8 :: x9 :: x10 :: y :: l) S1) : wS (cSet 11 a) (x0 :: x1 :: x2 :: x3 :: x4 :: x5 :: x6 :: x7 :: x8 :: x9 :: x10 :: y :: l) S ⟨nx, rt, bk, ct, ex⟩ := w_set h
theorem g_n11 {x0 x1 x2 x3 x4 x5 x6 x7 x8 x9 x10 : Option D} {y : Option D} (h : QG (x0 :: x1 :: x2 :: x3 :: x4 :: x5 :: x6 :: x7 :: x8 :: x9 :: x10 :: some d :: l) S) : wG (tgName 11 d (x0 :: x1 :: x2 :: x3 :: x4 :: x5 :: x6 :: x7 :: x8 :: x9 :: x10 :: y :: l) S) QG := h
theorem w_v12 {x0 x1 x2 x3 x4 x5 x6 x7 x8 x9 x10 x11 : Option D} (h : Q d S) : wE (eV 12) (x0 :: x1 :: x2 :: x3 :: x4 :: x5 :: x6 :: x7 :: x8 :: x9 :: x10 :: x11 :: some d :: l) S Q X := h
theorem w_s12 {x0 x1 x2 x3 x4 x5 x6 x7 x8 x9 x10 x11 : Option D} {y : Option D} (h : wE a (x0 :: x1 :: x2 :: x3 :: x4 :: x5 :: x6 :: x7 :: x8 :: x9 :: x10 :: x11 :: y :: l) S (fun d S1 => nx (x0 :: x1 :: x2 :: x3 :: x4 :: x5 :: x6 :: x7 :: x8 :: x9 :: x10 :: x11 :: some d :: l) S1) fun C S1 => ex C (x0 :: x1 :: x2 :: x3 :: x4 :: x5 :: x6 :: x7 :: x8 :: x9 :: x10 :: x11 :: y :: l) S1) : wS (cSet 12 a) (x0 :: x1 :: x2 :: x3 :: x4 :: x5 :: x6 :: x7 :: x8 :: x9 :: x10 :: x11 :: y :: l) S ⟨nx, rt, bk, ct, ex⟩ := w_set h
theorem g_n12 {x0 x1 x2 x3 x4 x5 x6 x7 x8 x9 x10 x11 : Option D} {y : Option D} (h : QG (x0 :: x1 :: x2 :: x3 :: x4 :: x5 :: x6 :: x7 :: x8 :: x9 :: x10 :: x11 :: some d :: l) S) : wG (tgName 12 d (x0 :: x1 :: x2 :: x3 :: x4 :: x5 :: x6 :: x7 :: x8 :: x9 :: x10 :: x11 :: y :: l) S) QG := h
theorem w_v13 {x0 x1 x2 x3 x4 x5 x6 x7 x8 x9 x10 x11 x12 : Option D} (h : Q d S) : wE (eV 13) (x0 :: x1 :: x2 :: x3 :: x4 :: x5 :: x6 :: x7 :: x8 :: x9 :: x10 :: x11 :: x12 :: some d :: l) S Q X := h
theorem w_s13 {x0 x1 x2 x3 x4 x5 x6 x7 x8 x9 x10 x11 x12 : Option D} {y : Option D} (h : wE a (x0 :: x1 :: x2 :: x3 :: x4 :: x5 :: x6 :: x7 :: x8 :: x9 :: x10 :: x11 :: x12 :: y :: l) S (fun d S1 => nx (x0 :: x1 :: x2 :: x3 :: x4 :: x5 :: x6 :: x7 :: x8 :: x9 :: x10 :: x11 :: x12 :: some d :: l) S1) fun C S1 => ex C (x0 :: x1 :: x2 :: x3 :: x4 :: x5 :: x6 :: x7 :: x8 :: x9 :: x10 :: x11 :: x12 :: y :: l) S1) : wS (cSet 13 a) (x0 :: x1 :: x2 :: x3 :: x4 :: x5 :: x6 :: x7 :: x8 :: x9 :: x10 :: x11 :: x12 :: y :: l) S ⟨nx, rt, bk, ct, ex⟩ := w_set h
theorem g_n13 {x0 x1 x2 x3 x4 x5 x6 x7 x8 x9 x10 x11 x12 : Option D} {y : Option D} (h : QG (x0 :: x1 :: x2 :: x3 :: x4 :: x5 :: x6 :: x7 :: x8 :: x9 :: x10 :: x11 :: x12 :: some d :: l) S) : wG (tgName 13 d (x0 :: x1 :: x2 :: x3 :: x4 :: x5 :: x6 :: x7 :: x8 :: x9 :: x10 :: x11 :: x12 :: y :: l) S) QG := h
theorem w_v14 {x0 x1 x2 x3 x4 x5 x6 x7 x8 x9 x10 x11 x12 x13 : Option D} (h : Q d S) : wE (eV 14) (x0 :: x1 :: x2 :: x3 :: x4 :: x5 :: x6 :: x7 :: x8 :: x9 :: x10 :: x11 :: x12 :: x13 :: some d :: l) S Q X := h
theorem w_s14 {x0 x1 x2 x3 x4 x5 x6 x7 x8 x9 x10 x11 x12 x13 : Option D} {y : Option D} (h : wE a (x0 :: x1 :: x2 :: x3 :: x4 :: x5 :: x6 :: x7 :: x8 :: x9 :: x10 :: x11 :: x12 :: x13 :: y :: l) S (fun d S1 => nx (x0 :: x1 :: x2 :: x3 :: x4 :: x5 :: x6 :: x7 :: x8 :: x9 :: x10 :: x11 :: x12 :: x13 :: some d :: l) S1) fun C S1 => ex C (x0 :: x1 :: x2 :: x3 :: x4 :: x5 :: x6 :: x7 :: x8 :: x9 :: x10 :: x11 :: x12 :: x13 :: y :: l) S1) : wS (cSet 14 a) (x0 :: x1 :: x2 :: x3 :: x4 :: x5 :: x6 :: x7 :: x8 :: x9 :: x10 :: x11 :: x12 :: x13 :: y :: l) S ⟨nx, rt, bk, ct, ex⟩ := w_set h
theorem g_n14 {x0 x1 x2 x3 x4 x5 x6 x7 x8 x9 x10 x11 x12 x13 : Option D} {y : Option D} (h : QG (x0 :: x1 :: x2 :: x3 :: x4 :: x5 :: x6 :: x7 :: x8 :: x9 :: x10 :: x11 :: x12 :: x13 :: some d :: l) S) : wG (tgName 14 d (x0 :: x1 :: x2 :: x3 :: x4 :: x5 :: x6 :: x7 :: x8 :: x9 :: x10 :: x11 :: x12 :: x13 :: y :: l) S) QG := h
theorem w_v15 {x0 x1 x2 x3 x4 x5 x6 x7 x8 x9 x10 x11 x12 x13 x14 : Option D} (h : Q d S) : wE (eV 15) (x0 :: x1 :: x2 :: x3 :: x4 :: x5 :: x6 :: x7 :: x8 :: x9 :: x10 :: x11 :: x12 :: x13 :: x14 :: some d :: l) S Q X := h
theorem w_s15 {x0 x1 x2 x3 x4 x5 x6 x7 x8 x9 x10 x11 x12 x13 x14 : Option D} {y : Option D} (h : wE a (x0 :: x1 :: x2 :: x3 :: x4 :: x5 :: x6 :: x7 :: x8 :: x9 :: x10 :: x11 :: x12 :: x13 :: x14 :: y :: l) S (fun d S1 => nx (x0 :: x1 :: x2 :: x3 :: x4 :: x5 :: x6 :: x7 :: x8 :: x9 :: x10 :: x11 :: x12 :: x13 :: x14 :: some d :: l) S1) fun C S1 => ex C (x0 :: x1 :: x2 :: x3 :: x4 :: x5 :: x6 :: x7 :: x8 :: x9 :: x10 :: x11 :: x12 :: x13 :: x14 :: y :: l) S1) : wS (cSet 15 a) (x0 :: x1 :: x2 :: x3 :: x4 :: x5 :: x6 :: x7 :: x8 :: x9 :: x10 :: x11 :: x12 :: x13 :: x14 :: y :: l) S ⟨nx, rt, bk, ct, ex⟩ := w_set h
theorem g_n15 {x0 x1 x2 x3 x4 x5 x6 x7 x8 x9 x10 x11 x12 x13 x14 : Option D} {y : Option D} (h : QG (x0 :: x1 :: x2 :: x3 :: x4 :: x5 :: x6 :: x7 :: x8 :: x9 :: x10 :: x11 :: x12 :: x13 :: x14 :: some d :: l) S) : wG (tgName 15 d (x0 :: x1 :: x2 :: x3 :: x4 :: x5 :: x6 :: x7 :: x8 :: x9 :: x10 :: x11 :: x12 :: x13 :: x14 :: y :: l) S) QG := h
theorem w_v16 {x0 x1 x2 x3 x4 x5 x6 x7 x8 x9 x10 x11 x12 x13 x14 x15 : Option D} (h : Q d S) : wE (eV 16) (x0 :: x1 :: x2 :: x3 :: x4 :: x5 :: x6 :: x7 :: x8 :: x9 :: x10 :: x11 :: x12 :: x13 :: x14 :: x15 :: some d :: l) S Q X := h
theorem w_s16 {x0 x1 x2 x3 x4 x5 x6 x7 x8 x9 x10 x11 x12 x13 x14 x15 : Option D} {y : Option D} (h : wE a (x0 :: x1 :: x2 :: x3 :: x4 :: x5 :: x6 :: x7 :: x8 :: x9 :: x10 :: x11 :: x12 :: x13 :: x14 :: x15 :: y :: l) S (fun d S1 => nx (x0 :: x1 :: x2 :: x3 :: x4 :: x5 :: x6 :: x7 :: x8 :: x9 :: x10 :: x11 :: x12 :: x13 :: x14 :: x15 :: some d :: l) S1) fun C S1 => ex C (x0 :: x1 :: x2 :: x3 :: x4 :: x5 :: x6 :: x7 :: x8 :: x9 :: x10 :: x11 :: x12 :: x13 :: x14 :: x15 :: y :: l) S1) : wS (cSet 16 a) (x0 :: x1 :: x2 :: x3 :: x4 :: x5 :: x6 :: x7 :: x8 :: x9 :: x10 :: x11 :: x12 :: x13 :: x14 :: x15 :: y :: l) S ⟨nx, rt, bk, ct, ex⟩ := w_set h
theorem g_n16 {x0 x1 x2 x3 x4 x5 x6 x7 x8 x9 x10 x11 x12 x13 x14 x15 : Option D} {y : Option D} (h : QG (x0 :: x1 :: x2 :: x3 :: x4 :: x5 :: x6 :: x7 :: x8 :: x9 :: x10 :: x11 :: x12 :: x13 :: x14 :: x15 :: some d :: l) S) : wG (tgName 16 d (x0 :: x1 :: x2 :: x3 :: x4 :: x5 :: x6 :: x7 :: x8 :: x9 :: x10 :: x11 :: x12 :: x13 :: x14 :: x15 :: y :: l) S) QG := h
theorem w_v17 {x0 x1 x2 x3 x4 x5 x6 x7 x8 x9 x10 x11 x12 x13 x14 x15 x16 : Option D} (h : Q d S) : wE (eV 17) (x0 :: x1 :: x2 :: x3 :: x4 :: x5 :: x6 :: x7 :: x8 :: x9 :: x10 :: x11 :: x12 :: x13 :: x14 :: x15 :: x16 :: some d :: l) S Q X := h
theorem w_s17 {x0 x1 x2 x3 x4 x5 x6 x7 x8 x9 x10 x11 x12 x13 x14 x15 x16 : Option D} {y : Option D} (h : wE a (x0 :: x1 :: x2 :: x3 :: x4 :: x5 :: x6 :: x7 :: x8 :: x9 :: x10 :: x11 :: x12 :: x13 :: x14 :: x15 :: x16 :: y :: l) S (fun d S1 => nx (x0 :: x1 :: x2 :: x3 :: x4 :: x5 :: x6 :: x7 :: x8 :: x9 :: x10 :: x11 :: x12 :: x13 :: x14 :: x15 :: x16 :: some d :: l) S1) fun C S1 => ex C (x0 :: x1 :: x2 :: x3 :: x4 :: x5 :: x6 :: x7 :: x8 :: x9 :: x10 :: x11 :: x12 :: x13 :: x14 :: x15 :: x16 :: y :: l) S1) : wS (cSet 17 a) (x0 :: x1 :: x2 :: x3 :: x4 :: x5 :: x6 :: x7 :: x8 :: x9 :: x10 :: x11 :: x12 :: x13 :: x14 :: x15 :: x16 :: y :: l) S ⟨nx, rt, bk, ct, ex⟩ := w_set h
theorem g_n17 {x0 x1 x2 x3 x4 x5 x6 x7 x8 x9 x10 x11 x12 x13 x14 x15 x16 : Option D} {y : Option D} (h : QG (x0 :: x1 :: x2 :: x3 :: x4 :: x5 :: x6 :: x7 :: x8 :: x9 :: x10 :: x11 :: x12 :: x13 :: x14 :: x15 :: x16 :: some d :: l) S) : wG (tgName 17 d (x0 :: x1 :: x2 :: x3 :: x4 :: x5 :: x6 :: x7 :: x8 :: x9 :: x10 :: x11 :: x12 :: x13 :: x14 :: x15 :: x16 :: y :: l) S) QG := h
theorem w_v18 {x0 x1 x2 x3 x4 x5 x6 x7 x8 x9 x10 x11 x12 x13 x14 x15 x16 x17 : Option D} (h : Q d S) : wE (eV 18) (x0 :: x1 :: x2 :: x3 :: x4 :: x5 :: x6 :: x7 :: x8 :: x9 :: x10 :: x11 :: x12 :: x13 :: x14 :: x15 :: x16 :: x17 :: some d :: l) S Q X := h
theorem w_s18 {x0 x1 x2 x3 x4 x5 x6 x7 x8 x9 x10 x11 x12 x13 x14 x15 x16 x17 : Option D} {y : Option D} (h : wE a (x0 :: x1 :: x2 :: x3 :: x4 :: x5 :: x6 :: x7 :: x8 :: x9 :: x10 :: x11 :: x12 :: x13 :: x14 :: x15 :: x16 :: x17 :: y :: l) S (fun d S1 => nx (x0 :: x1 :: x2 :: x3 :: x4 :: x5 :: x6 :: x7 :: x8 :: x9 :: x10 :: x11 :: x12 :: x13 :: x14 :: x15 :: x16 :: x17 :: some d :: l) S1) fun C S1 => ex C (x0 :: x1 :: x2 :: x3 :: x4 :: x5 :: x6 :: x7 :: x8 :: x9 :: x10 :: x11 :: x12 :: x13 :: x14 :: x15 :: x16 :: x17 :: y :: l) S1) : wS (cSet 18 a) (x0 :: x1 :: x2 :: x3 :: x4 :: x5 :: x6 :: x7 :: x8 :: x9 :: x10 :: x11 :: x12 :: x13 :: x14 :: x15 :: x16 :: x17 :: y :: l) S ⟨nx, rt, bk, ct, ex⟩ := w_set h
theorem g_n18 {x0 x1 x2 x3 x4 x5 x6 x7 x8 x9 x10 x11 x12 x13 x14 x15 x16 x17 : Option D} {y : Option D} (h : QG (x0 :: x1 :: x2 :: x3 :: x4 :: x5 :: x6 :: x7 :: x8 :: x9 :: x10 :: x11 :: x12 :: x13 :: x14 :: x15 :: x16 :: x17 :: some d :: l) S) : wG (tgName 18 d (x0 :: x1 :: x2 :: x3 :: x4 :: x5 :: x6 :: x7 :: x8 :: x9 :: x10 :: x11 :: x12 :: x13 :: x14 :: x15 :: x16 :: x17 :: y :: l) S) QG := h
theorem w_v19 {x0 x1 x2 x3 x4 x5 x6 x7 x8 x9 x10 x11 x12 x13 x14 x15 x16 x17 x18 : Option D} (h : Q d S) : wE (eV 19) (x0 :: x1 :: x2 :: x3 :: x4 :: x5 :: x6 :: x7 :: x8 :: x9 :: x10 :: x11 :: x12 :: x13 :: x14 :: x15 :: x16 :: x17 :: x18 :: some d :: l) S Q X := h
theorem w_s19 {x0 x1 x2 x3 x4 x5 x6 x7 x8 x9 x10 x11 x12 x13 x14 x15 x16 x17 x18 : Option D} {y : Option D} (h : wE a (x0 :: x1 :: x2 :: x3 :: x4 :: x5 :: x6 :: x7 :: x8 :: x9 :: x10 :: x11 :: x12 :: x13 :: x14 :: x15 :: x16 :: x17 :: x18 :: y :: l) S (fun d S1 => nx (x0 :: x1 :: x2 :: x3 :: x4 :: x5 :: x6 :: x7 :: x8 :: x9 :: x10 :: x11 :: x12 :: x13 :: x14 :: x15 :: x16 :: x17 :: x18 :: some d :: l) S1) fun C S1 => ex C (x0 :: x1 :: x2 :: x3 :: x4 :: x5 :: x6 :: x7 :: x8 :: x9 :: x10 :: x11 :: x12 :: x13 :: x14 :: x15 :: x16 :: x17 :: x18 :: y :: l) S1) : wS (cSet 19 a) (x0 :: x1 :: x2 :: x3 :: x4 :: x5 :: x6 :: x7 :: x8 :: x9 :: x10 :: x11 :: x12 :: x13 :: x14 :: x15 :: x16 :: x17 :: x18 :: y :: l) S ⟨nx, rt, bk, ct, ex⟩ := w_set h
theorem g_n19 {x0 x1 x2 x3 x4 x5 x6 x7 x8 x9 x10 x11 x12 x13 x14 x15 x16 x17 x18 : Option D} {y : Option D} (h : QG (x0 :: x1 :: x2 :: x3 :: x4 :: x5 :: x6 :: x7 :: x8 :: x9 :: x10 :: x11 :: x12 :: x13 :: x14 :: x15 :: x16 :: x17 :: x18 :: some d :: l) S) : wG (tgName 19 d (x0 :: x1 :: x2 :: x3 :: x4 :: x5 :: x6 :: x7 :: x8 :: x9 :: x10 :: x11 :: x12 :: x13 :: x14 :: x15 :: x16 :: x17 :: x18 :: y :: l) S) QG := h
theorem w_v20 {x0 x1 x2 x3 x4 x5 x6 x7 x8 x9 x10 x11 x12 x13 x14 x15 x16 x17 x18 x19 : Option D} (h : Q d S) : wE (eV 20) (x0 :: x1 :: x2 :: x3 :: x4 :: x5 :: x6 :: x7 :: x8 :: x9 :: x10 :: x11 :: x12 :: x13 :: x14 :: x15 :: x16 :: x17 :: x18 :: x19 :: some d :: l) S Q X := h
theorem w_s20 {x0 x1 x2 x3 x4 x5 x6 x7 x8 x9 x10 x11 x12 x13 x14 x15 x16 x17 x18 x19 : Option D} {y : Option D} (h : wE a (x0 :: x1 :: x2 :: x3 :: x4 :: x5 :: x6 :: x7 :: x8 :: x9 :: x10 :: x11 :: x12 :: x13 :: x14 :: x15 :: x16 :: x17 :: x18 :: x19 :: y :: l) S (fun d S1 => nx (x0 :: x1 :: x2 :: x3 :: x4 :: x5 :: x6 :: x7 :: x8 :: x9 :: x10 :: x11 :: x12 :: x13 :: x14 :: x15 :: x16 :: x17 :: x18 :: x19 :: some d :: l) S1) fun C S1 => ex C (x0 :: x1 :: x2 :: x3 :: x4 :: x5 :: x6 :: x7 :: x8 :: x9 :: x10 :: x11 :: x12 :: x13 :: x14 :: x15 :: x16 :: x17 :: x18 :: x19 :: y :: l) S1) : wS (cSet 20 a) (x0 :: x1 :: x2 :: x3 :: x4 :: x5 :: x6 :: x7 :: x8 :: x9 :: x10 :: x11 :: x12 :: x13 :: x14 :: x15 :: x16 :: x17 :: x18 :: x19 :: y :: l) S ⟨nx, rt, bk, ct, ex⟩ := w_set h
theorem g_n20 {x0 x1 x2 x3 x4 x5 x6 x7 x8 x9 x10 x11 x12 x13 x14 x15 x16 x17 x18 x19 : Option D} {y : Option D} (h : QG (x0 :: x1 :: x2 :: x3 :: x4 :: x5 :: x6 :: x7 :: x8 :: x9 :: x10 :: x11 :: x12 :: x13 :: x14 :: x15 :: x16 :: x17 :: x18 :: x19 :: some d :: l) S) : wG (tgName 20 d (x0 :: x1 :: x2 :: x3 :: x4 :: x5 :: x6 :: x7 :: x8 :: x9 :: x10 :: x11 :: x12 :: x13 :: x14 :: x15 :: x16 :: x17 :: x18 :: x19 :: y :: l) S) QG := h
theorem w_v21 {x0 x1 x2 x3 x4 x5 x6 x7 x8 x9 x10 x11 x12 x13 x14 x15 x16 x17 x18 x19 x20 : Option D} (h : Q d S) : wE (eV 21) (x0 :: x1 :: x2 :: x3 :: x4 :: x5 :: x6 :: x7 :: x8 :: x9 :: x10 :: x11 :: x12 :: x13 :: x14 :: x15 :: x16 :: x17 :: x18 :: x19 :: x20 :: some d :: l) S Q X := h
theorem w_s21 {x0 x1 x2 x3 x4 x5 x6 x7 x8 x9 x10 x11 x12 x13 x14 x15 x16 x17 x18 x19 x20 : Option D} {y : Option D} (h : wE a (x0 :: x1 :: x2 :: x3 :: x4 :: x5 :: x6 :: x7 :: x8 :: x9 :: x10 :: x11 :: x12 :: x13 :: x14 :: x15 :: x16 :: x17 :: x18 :: x19 :: x20 :: y :: l) S (fun d S1 => nx (x0 :: x1 :: x2 :: x3 :: x4 :: x5 :: x6 :: x7 :: x8 :: x9 :: x10 :: x11 :: x12 :: x13 :: x14 :: x15 :: x16 :: x17 :: x18 :: x19 :: x20 :: some d :: l) S1) fun C S1 => ex C (x0 :: x1 :: x2 :: x3 :: x4 :: x5 :: x6 :: x7 :: x8 :: x9 :: x10 :: x11 :: x12 :: x13 :: x14 :: x15 :: x16 :: x17 :: x18 :: x19 :: x20 :: y :: l) S1) : wS (cSet 21 a) (x0 :: x1 :: x2 :: x3 :: x4 :: x5 :: x6 :: x7 :: x8 :: x9 :: x10 :: x11 :: x12 :: x13 :: x14 :: x15 :: x16 :: x17 :: x18 :: x19 :: x20 :: y :: l) S ⟨nx, rt, bk, ct, ex⟩ := w_set h
theorem g_n21 {x0 x1 x2 x3 x4 x5 x6 x7 x8 x9 x10 x11 x12 x13 x14 x15 x16 x17 x18 x19 x20 : Option D} {y : Option D} (h : QG (x0 :: x1 :: x2 :: x3 :: x4 :: x5 :: x6 :: x7 :: x8 :: x9 :: x10 :: x11 :: x12 :: x13 :: x14 :: x15 :: x16 :: x17 :: x18 :: x19 :: x20 :: some d :: l) S) : wG (tgName 21 d (x0 :: x1 :: x2 :: x3 :: x4 :: x5 :: x6 :: x7 :: x8 :: x9 :: x10 :: x11 :: x12 :: x13 :: x14 :: x15 :: x16 :: x17 :: x18 :: x19 :: x20 :: y :: l) S) QG := h
theorem w_v22 {x0 x1 x2 x3 x4 x5 x6 x7 x8 x9 x10 x11 x12 x13 x14 x15 x16 x17 x18 x19 x20 x21 : Option D} (h : Q d S) : wE (eV 22) (x0 :: x1 :: x2 :: x3 :: x4 :: x5 :: x6 :: x7 :: x8 :: x9 :: x10 :: x11 :: x12 :: x13 :: x14 :: x15 :: x16 :: x17 :: x18 :: x19 :: x20 :: x21 :: some d :: l) S Q X := h
theorem w_s22 {x0 x1 x2 x3 x4 x5 x6 x7 x8 x9 x10 x11 x12 x13 x14 x15 x16 x17 x18 x19 x20 x21 : Option D} {y : Option D} (h : wE a (x0 :: x1 :: x2 :: x3 :: x4 :: x5 :: x6 :: x7 :: x8 :: x9 :: x10 :: x11 :: x12 :: x13 :: x14 :: x15 :: x16 :: x17 :: x18 :: x19 :: x20 :: x21 :: y :: l) S (fun d S1 => nx (x0 :: x1 :: x2 :: x3 :: x4 :: x5 :: x6 :: x7 :: x8 :: x9 :: x10 :: x11 :: x12 :: x13 :: x14 :: x15 :: x16 :: x17 :: x18 :: x19 :: x20 :: x21 :: some d :: l) S1) fun C S1 => ex C (x0 :: x1 :: x2 :: x3 :: x4 :: x5 :: x6 :: x7 :: x8 :: x9 :: x10 :: x11 :: x12 :: x13 :: x14 :: x15 :: x16 :: x17 :: x18 :: x19 :: x20 :: x21 :: y :: l) S1) : wS (cSet 22 a) (x0 :: x1 :: x2 :: x3 :: x4 :: x5 :: x6 :: x7 :: x8 :: x9 :: x10 :: x11 :: x12 :: x13 :: x14 :: x15 :: x16 :: x17 :: x18 :: x19 :: x20 :: x21 :: y :: l) S ⟨nx, rt, bk, ct, ex⟩ := w_set h
theorem g_n22 {x0 x1 x2 x3 x4 x5 x6 x7 x8 x9 x10 x11 x12 x13 x14 x15 x16 x17 x18 x19 x20 x21 : Option D} {y : Option D} (h : QG (x0 :: x1 :: x2 :: x3 :: x4 :: x5 :: x6 :: x7 :: x8 :: x9 :: x10 :: x11 :: x12 :: x13 :: x14 :: x15 :: x16 :: x17 :: x18 :: x19 :: x20 :: x21 :: some d :: l) S) : wG (tgName 22 d (x0 :: x1 :: x2 :: x3 :: x4 :: x5 :: x6 :: x7 :: x8 :: x9 :: x10 :: x11 :: x12 :: x13 :: x14 :: x15 :: x16 :: x17 :: x18 :: x19 :: x20 :: x21 :: y :: l) S) QG := h
theorem w_v23 {x0 x1 x2 x3 x4 x5 x6 x7 x8 x9 x10 x11 x12 x13 x14 x15 x16 x17 x18 x19 x20 x21 x22 : Option D} (h : Q d S) : wE (eV 23) (x0 :: x1 :: x2 :: x3 :: x4 :: x5 :: x6 :: x7 :: x8 :: x9 :: x10 :: x11 :: x12 :: x13 :: x14 :: x15 :: x16 :: x17 :: x18 :: x19 :: x20 :: x21 :: x22 :: some d :: l) S Q X := h
theorem w_s23 {x0 x1 x2 x3 x4 x5 x6 x7 x8 x9 x10 x11 x12 x13 x14 x15 x16 x17 x18 x19 x20 x21 x22 : Option D} {y : Option D} (h : wE a (x0 :: x1 :: x2 :: x3 :: x4 :: x5 :: x6 :: x7 :: x8 :: x9 :: x10 :: x11 :: x12 :: x13 :: x14 :: x15 :: x16 :: x17 :: x18 :: x19 :: x20 :: x21 :: x22 :: y :: l) S (fun d S1 => nx (x0 :: x1 :: x2 :: x3 :: x4 :: x5 :: x6 :: x7 :: x8 :: x9 :: x10 :: x11 :: x12 :: x13 :: x14 :: x15 :: x16 :: x17 :: x18 :: x19 :: x20 :: x21 :: x22 :: some d :: l) S1) fun C S1 => ex C (x0 :: x1 :: x2 :: x3 :: x4 :: x5 :: x6 :: x7 :: x8 :: x9 :: x10 :: x11 :: x12 :: x13 :: x14 :: x15 :: x16 :: x17 :: x18 :: x19 :: x20 :: x21 :: x22 :: y :: l) S1) : wS (cSet 23 a) (x0 :: x1 :: x2 :: x3 :: x4 :: x5 :: x6 :: x7 :: x8 :: x9 :: x10 :: x11 :: x12 :: x13 :: x14 :: x15 :: x16 :: x17 :: x18 :: x19 :: x20 :: x21 :: x22 :: y :: l) S ⟨nx, rt, bk, ct, ex⟩ := w_set h
theorem g_n23 {x0 x1 x2 x3 x4 x5 x6 x7 x8 x9 x10 x11 x12 x13 x14 x15 x16 x17 x18 x19 x20 x21 x22 : Option D} {y : Option D} (h : QG (x0 :: x1 :: x2 :: x3 :: x4 :: x5 :: x6 :: x7 :: x8 :: x9 :: x10 :: x11 :: x12 :: x13 :: x14 :: x15 :: x16 :: x17 :: x18 :: x19 :: x20 :: x21 :: x22 :: some d :: l) S) : wG (tgName 23 d (x0 :: x1 :: x2 :: x3 :: x4 :: x5 :: x6 :: x7 :: x8 :: x9 :: x10 :: x11 :: x12 :: x13 :: x14 :: x15 :: x16 :: x17 :: x18 :: x19 :: x20 :: x21 :: x22 :: y :: l) S) QG := h
theorem w_v24 {x0 x1 x2 x3 x4 x5 x6 x7 x8 x9 x10 x11 x12 x13 x14 x15 x16 x17 x18 x19 x20 x21 x22 x23 : Option D} (h : Q d S) : wE (eV 24) (x0 :: x1 :: x2 :: x3 :: x4 :: x5 :: x6 :: x7 :: x8 :: x9 :: x10 :: x11 :: x12 :: x13 :: x14 :: x15 :: x16 :: x17 :: x18 :: x19 :: x20 :: x21 :: x22 :: x23 :: some d :: l) S Q X := h
theorem w_s24 {x0 x1 x2 x3 x4 x5 x6 x7 x8 x9 x10 x11 x12 x13 x14 x15 x16 x17 x18 x19 x20 x21 x22 x23 : Option D} {y : Option D} (h : wE a (x0 :: x1 :: x2 :: x3 :: x4 :: x5 :: x6 :: x7 :: x8 :: x9 :: x10 :: x11 :: x12 :: x13 :: x14 :: x15 :: x16 :: x17 :: x18 :: x19 :: x20 :: x21 :: x22 :: x23 :: y :: l) S (fun d S1 => nx (x0 :: x1 :: x2 :: x3 :: x4 :: x5 :: x6 :: x7 :: x8 :: x9 :: x10 :: x11 :: x12 :: x13 :: x14 :: x15 :: x16 :: x17 :: x18 :: x19 :: x20 :: x21 :: x22 :: x23 :: some d :: l) S1) fun C S1 => ex C (x0 :: x1 :: x2 :: x3 :: x4 :: x5 :: x6 :: x7 :: x8 :: x9 :: x10 :: x11 :: x12 :: x13 :: x14 :: x15 :: x16 :: x17 :: x18 :: x19 :: x20 :: x21 :: x22 :: x23 :: y :: l) S1) : wS (cSet 24 a) (x0 :: x1 :: x2 :: x3 :: x4 :: x5 :: x6 :: x7 :: x8 :: x9 :: x10 :: x11 :: x12 :: x13 :: x14 :: x15 :: x16 :: x17 :: x18 :: x19 :: x20 :: x21 :: x22 :: x23 :: y :: l) S ⟨nx, rt, bk, ct, ex⟩ := w_set h
theorem g_n24 {x0 x1 x2 x3 x4 x5 x6 x7 x8 x9 x10 x11 x12 x13 x14 x15 x16 x17 x18 x19 x20 x21 x22 x23 : Option D} {y : Option D} (h : QG (x0 :: x1 :: x2 :: x3 :: x4 :: x5 :: x6 :: x7 :: x8 :: x9 :: x10 :: x11 :: x12 :: x13 :: x14 :: x15 :: x16 :: x17 :: x18 :: x19 :: x20 :: x21 :: x22 :: x23 :: some d :: l) S) : wG (tgName 24 d (x0 :: x1 :: x2 :: x3 :: x4 :: x5 :: x6 :: x7 :: x8 :: x9 :: x10 :: x11 :: x12 :: x13 :: x14 :: x15 :: x16 :: x17 :: x18 :: x19 :: x20 :: x21 :: x22 :: x23 :: y :: l) S) QG := h
theorem w_v25 {x0 x1 x2 x3 x4 x5 x6 x7 x8 x9 x10 x11 x12 x13 x14 x15 x16 x17 x18 x19 x20 x21 x22 x23 x24 : Option D} (h : Q d S) : wE (eV 25) (x0 :: x1 :: x2 :: x3 :: x4 :: x5 :: x6 :: x7 :: x8 :: x9 :: x10 :: x11 :: x12 :: x13 :: x14 :: x15 :: x16 :: x17 :: x18 :: x19 :: x20 :: x21 :: x22 :: x23 :: x24 :: some d :: l) S Q X := h
theorem w_s25 {x0 x1 x2 x3 x4 x5 x6 x7 x8 x9 x10 x11 x12 x13 x14 x15 x16 x17 x18 x19 x20 x21 x22 x23 x24 : Option D} {y : Option D} (h : wE a (x0 :: x1 :: x2 :: x3 :: x4 :: x5 :: x6 :: x7 :: x8 :: x9 :: x10 :: x11 :: x12 :: x13 :: x14 :: x15 :: x16 :: x17 :: x18 :: x19 :: x20 :: x21 :: x22 :: x23 :: x24 :: y :: l) S (fun d S1 => nx (x0 :: x1 :: x2 :: x3 :: x4 :: x5 :: x6 :: x7 :: x8 :: x9 :: x10 :: x11 :: x12 :: x13 :: x14 :: x15 :: x16 :: x17 :: x18 :: x19 :: x20 :: x21 :: x22 :: x23 :: x24 :: some d :: l) S1) fun C S1 => ex C (x0 :: x1 :: x2 :: x3 :: x4 :: x5 :: x6 :: x7 :: x8 :: x9 :: x10 :: x11 :: x12 :: x13 :: x14 :: x15 :: x16 :: x17 :: x18 :: x19 :: x20 :: x21 :: x22 :: x23 :: x24 :: y :: l) S1) : wS (cSet 25 a) (x0 :: x1 :: x2 :: x3 :: x4 :: x5 :: x6 :: x7 :: x8 :: x9 :: x10 :: x11 :: x12 :: x13 :: x14 :: x15 :: x16 :: x17 :: x18 :: x19 :: x20 :: x21 :: x22 :: x23 :: x24 :: y :: l) S ⟨nx, rt, bk, ct, ex⟩ := w_set h
theorem g_n25 {x0 x1 x2 x3 x4 x5 x6 x7 x8 x9 x10 x11 x12 x13 x14 x15 x16 x17 x18 x19 x20 x21 x22 x23 x24 : Option D} {y : Option D} (h : QG (x0 :: x1 :: x2 :: x3 :: x4 :: x5 :: x6 :: x7 :: x8 :: x9 :: x10 :: x11 :: x12 :: x13 :: x14 :: x15 :: x16 :: x17 :: x18 :: x19 :: x20 :: x21 :: x22 :: x23 :: x24 :: some d :: l) S) : wG (tgName 25 d (x0 :: x1 :: x2 :: x3 :: x4 :: x5 :: x6 :: x7 :: x8 :: x9 :: x10 :: x11 :: x12 :: x13 :: x14 :: x15 :: x16 :: x17 :: x18 :: x19 :: x20 :: x21 :: x22 :: x23 :: x24 :: y :: l) S) QG := h
theorem w_v26 {x0 x1 x2 x3 x4 x5 x6 x7 x8 x9 x10 x11 x12 x13 x14 x15 x16 x17 x18 x19 x20 x21 x22 x23 x24 x25 : Option D} (h : Q d S) : wE (eV 26) (x0 :: x1 :: x2 :: x3 :: x4 :: x5 :: x6 :: x7 :: x8 :: x9 :: x10 :: x11 :: x12 :: x13 :: x14 :: x15 :: x16 :: x17 :: x18 :: x19 :: x20 :: x21 :: x22 :: x23 :: x24 :: x25 :: some d :: l) S Q X := h
theorem w_s26 {x0 x1 x2 x3 x4 x5 x6 x7 x8 x9 x10 x11 x12 x13 x14 x15 x16 x17 x18 x19 x20 x21 x22 x23 x24 x25 : Option D} {y : Option D} (h : wE a (x0 :: x1 :: x2 :: x3 :: x4 :: x5 :: x6 :: x7 :: x8 :: x9 :: x10 :: x11 :: x12 :: x13 :: x14 :: x15 :: x16 :: x17 :: x18 :: x19 :: x20 :: x21 :: x22 :: x23 :: x24 :: x25 :: y :: l) S (fun d S1 => nx (x0 :: x1 :: x2 :: x3 :: x4 :: x5 :: x6 :: x7 :: x8 :: x9 :: x10 :: x11 :: x12 :: x13 :: x14 :: x15 :: x16 :: x17 :: x18 :: x19 :: x20 :: x21 :: x22 :: x23 :: x24 :: x25 :: some d :: l) S1) fun C S1 => ex C (x0 :: x1 :: x2 :: x3 :: x4 :: x5 :: x6 :: x7 :: x8 :: x9 :: x10 :: x11 :: x12 :: x13 :: x14 :: x15 :: x16 :: x17 :: x18 :: x19 :: x20 :: x21 :: x22 :: x23 :: x24 :: x25 :: y :: l) S1) : wS (cSet 26 a) (x0 :: x1 :: x2 :: x3 :: x4 :: x5 :: x6 :: x7 :: x8 :: x9 :: x10 :: x11 :: x12 :: x13 :: x14 :: x15 :: x16 :: x17 :: x18 :: x19 :: x20 :: x21 :: x22 :: x23 :: x24 :: x25 :: y :: l) S ⟨nx, rt, bk, ct, ex⟩ := w_set h
theorem g_n26 {x0 x1 x2 x3 x4 x5 x6 x7 x8 x9 x10 x11 x12 x13 x14 x15 x16 x17 x18 x19 x20 x21 x22 x23 x24 x25 : Option D} {y : Option D} (h : QG (x0 :: x1 :: x2 :: x3 :: x4 :: x5 :: x6 :: x7 :: x8 :: x9 :: x10 :: x11 :: x12 :: x13 :: x14 :: x15 :: x16 :: x17 :: x18 :: x19 :: x20 :: x21 :: x22 :: x23 :: x24 :: x25 :: some d :: l) S) : wG (tgName 26 d (x0 :: x1 :: x2 :: x3 :: x4 :: x5 :: x6 :: x7 :: x8 :: x9 :: x10 :: x11 :: x12 :: x13 :: x14 :: x15 :: x16 :: x17 :: x18 :: x19 :: x20 :: x21 :: x22 :: x23 :: x24 :: x25 :: y :: l) S) QG := h
end
local macro_rules | `(tactic| walk_at "ww") => `(tactic| repeat (with_reducible first
  | refine w_qSet ?_ | refine w_qDrop ?_ | refine w_qAsg ?_ | refine w_qFld ?_ | refine w_cons ?_ | refine w_nil ?_ | refine w_c ?_ | refine w_e2 ?_ | refine w_e1 ?_ | refine w_eN ?_ | refine w_f1 ?_ | refine w_f2 ?_ | refine w_t ?_ | refine w_bl ?_ | refine w_ifS ?_ | refine w_ret ?_ | refine w_next ?_ | refine w_retN ?_ | refine w_drop ?_ | refine w_asg ?_ | refine w_call ?_ | refine w_tup ?_ | refine w_lst ?_ | refine len_and ?_ ?_ | refine w_bm ?_ | refine w_and ?_ | refine w_or ?_ | refine w_not ?_ | refine w_ifE ?_ | refine w_notE ?_ | refine w_andE ?_ | refine w_orE ?_ | refine w_chain ?_ | refine w_fld ?_ | refine w_sl ?_ | refine w_p0 ?_ | refine w_p1 ?_ | refine w_js1 ?_ | refine w_js0 ?_ | refine w_m1 ?_ | refine w_for ?_ | refine i_eB ?_ | refine i_tup ?_ | refine i_str ?_ | refine i_r1 ?_ | refine i_bL ?_ | refine w_meth ?_ | refine w_make ?_ | refine w_raise ?_ | refine w_try ?_ | refine w_tru ?_ | refine w_yes ?_ | refine g_tup ?_ | refine g_nil ?_ | refine g_cons ?_ | refine g_sub ?_ | refine g_fld ?_ | refine w_iT ?_ | refine w_iF ?_ | refine w_nT ?_ | refine w_nF ?_ | refine w_break ?_ | refine w_cont ?_ | refine o_add ?_ | refine o_sub ?_ | refine o_lt ?_ | refine o_le ?_ | refine o_gt ?_ | refine o_ge ?_ | refine o_eqI ?_ | refine o_neI ?_ | refine o_eqS ?_ | refine o_neS ?_ | refine o_isN ?_ | refine o_notN ?_ | refine o_int ?_ | refine o_intB ?_ | refine o_neg ?_ | refine o_ixT0 ?_ | refine o_ixT1 ?_ | refine o_ixT2 ?_ | refine o_ixT3 ?_
  | refine o_mul ?_ ?_ | refine o_mod ?_ ?_ | refine o_fdiv ?_ ?_ | refine o_pow ?_ ?_ | refine o_adS ?_ ?_
  | refine w_v0 ?_ | refine w_s0 ?_ | refine g_n0 ?_ | refine w_v1 ?_ | refine w_s1 ?_ | refine g_n1 ?_ | refine w_v2 ?_ | refine w_s2 ?_ | refine g_n2 ?_ | refine w_v3 ?_ | refine w_s3 ?_ | refine g_n3 ?_ | refine w_v4 ?_ | refine w_s4 ?_ | refine g_n4 ?_ | refine w_v5 ?_ | refine w_s5 ?_ | refine g_n5 ?_ | refine w_v6 ?_ | refine w_s6 ?_ | refine g_n6 ?_ | refine w_v7 ?_ | refine w_s7 ?_ | refine g_n7 ?_ | refine w_v8 ?_ | refine w_s8 ?_ | refine g_n8 ?_ | refine w_v9 ?_ | refine w_s9 ?_ | refine g_n9 ?_ | refine w_v10 ?_ | refine w_s10 ?_ | refine g_n10 ?_ | refine w_v11 ?_ | refine w_s11 ?_ | refine g_n11 ?_ | refine w_v12 ?_ | refine w_s12 ?_ | refine g_n12 ?_ | refine w_v13 ?_ | refine w_s13 ?_ | refine g_n13 ?_ | refine w_v14 ?_ | refine w_s14 ?_ | refine g_n14 ?_ | refine w_v15 ?_ | refine w_s15 ?_ | refine g_n15 ?_ | refine w_v16 ?_ | refine w_s16 ?_ | refine g_n16 ?_ | refine w_v17 ?_ | refine w_s17 ?_ | refine g_n17 ?_ | refine w_v18 ?_ | refine w_s18 ?_ | refine g_n18 ?_ | refine w_v19 ?_ | refine w_s19 ?_ | refine g_n19 ?_ | refine w_v20 ?_ | refine w_s20 ?_ | refine g_n20 ?_ | refine w_v21 ?_ | refine w_s21 ?_ | refine g_n21 ?_ | refine w_v22 ?_ | refine w_s22 ?_ | refine g_n22 ?_ | refine w_v23 ?_ | refine w_s23 ?_ | refine g_n23 ?_ | refine w_v24 ?_ | refine w_s24 ?_ | refine g_n24 ?_ | refine w_v25 ?_ | refine w_s25 ?_ | refine g_n25 ?_ | refine w_v26 ?_ | refine w_s26 ?_ | refine g_n26 ?_))
local macro_rules | `(tactic| walk_at "wd") => `(tactic| first | (with_reducible assumption) | (refine line_of ?_; decide) | (refine line_of ?_; simp only [List.length_cons, List.length_nil]; decide) | (refine line_of ?_; simp only [len_app, len_empty, len_lit0, len_dot, len_at, len_tr, len_rec, len_rea, len_lt, len_gt, len_mk, len_1]; omega) | ((show CPow _ _); exact ⟨by decide, by decide, by decide⟩) | ((show CMul _ _); first | exact .inl ⟨by decide, by decide⟩ | exact .inr ⟨by decide, by decide⟩) | ((show (0 : Int) < _); omega))
local macro_rules | `(tactic| walk_at "w") => `(tactic| (walk_at "ww"; all_goals try walk_at "wd"))
/-! ### the words that the laws share -/
noncomputable def W_Lrefill : Fn := fn0 2 3
    (cSeq (cSet 2 (eC (.int 0)))
    (cSeq (cIf (bTru (eV 0)) (cSet 2 (e2 dIxR (eV 0) (e2 dMod (eV 1) (eN (f1 dLenQ) (aCons (eV 0) aNil))))) cNext)
    (cSeq (cIf (eT (e2 dLt (eV 2) (eC (.int 0)))) (cSet 2 (e2 dSub (eC (.int 1)) (e2 dMul (eC (.int 2)) (eV 2)))) cNext)
    (cSeq (cIf (bAnd (eT (e2 dGe (eV 2) (e2 dPow (eC (.int 10)) (eC (.int 18))))) (eT (e2 dLt (eV 1) (eN (f1 dLenQ) (aCons (eV 0) aNil))))) (cRet (eV 2)) cNext)
    (cRet (e2 dMod (eN (f1 dInt) (aCons (e2 dAdd (e2 dMul (eN (f1 dInt) (aCons (e2 dAdd (e2 dAdd (e2 dMul (eV 2) (eC (.int 48271))) (e2 dMul (eV 1) (eC (.int 69621)))) (eC (.int 12345))) aNil)) (eC (.int 40692))) (eC (.int 7))) aNil)) (eC (.int 2147483399))))))))
noncomputable def W_Ldraw : Fn := fn0 3 4
    (cSeq (cIf (eT (e2 dEq (e2 dIxL (eV 0) (eC (.int 1))) (eC (.int 0)))) (cSeq (cAsg (eCall W_Lrefill (aCons (eV 1) (aCons (e2 dIxL (eV 0) (eC (.int 0))) aNil))) (tgSub (eV 0) (eC (.int 1)) dSetL))
    (cAsg (e2 dAdd (e2 dIxL (eV 0) (eC (.int 0))) (eC (.int 1))) (tgSub (eV 0) (eC (.int 0)) dSetL))) cNext)
    (cSeq (cSet 3 (e2 dMod (eN (f1 dInt) (aCons (e2 dIxL (eV 0) (eC (.int 1))) aNil)) (eV 2)))
    (cSeq (cAsg (e2 dFdiv (e2 dIxL (eV 0) (eC (.int 1))) (eV 2)) (tgSub (eV 0) (eC (.int 1)) dSetL))
    (cRet (eV 3)))))
noncomputable def W_Lis_integer : Fn := fn0 1 1
    (cRet (eAnd (eN (f2 dIsi) (aCons (eV 0) (aCons (eC (.ty "int")) aNil))) (eNot (eN (f2 dIsi) (aCons (eV 0) (aCons (eC (.ty "bool")) aNil))))))
noncomputable def W_Lpick : Fn := fn0 3 4
    (cSeq (cSet 3 (eCall W_Ldraw (aCons (eV 0) (aCons (eV 1) (aCons (eN (f1 dLenS) (aCons (eV 2) aNil)) aNil)))))
    (cRet (eSl dSlS (eV 2) (mP1 (eV 3)) (mP1 (e2 dAdd (eV 3) (eC (.int 1)))))))
noncomputable def W_Lline : Fn := fn0 2 6
    (cSeq (cSet 2 (eLst (aCons (eC (.str (Str.ofString ""))) (aCons (eC (.str (Str.ofString "."))) (aCons (eC (.str (Str.ofString ".."))) (aCons (eC (.str (Str.ofString ". x"))) (aCons (eC (.str (Str.ofString "Received: by "))) (aCons (eC (.str (Str.ofString "Received: by q.r"))) (aCons (eC (.str (Str.ofString "received: by x"))) (aCons (eC (.str (Str.ofString " Received: by y"))) (aCons (eC (.str (Str.ofString "To: a"))) (aCons (eC (.str (Str.ofString "~"))) aNil))))))))))))
    (cSeq (cSet 3 (eCall W_Ldraw (aCons (eV 0) (aCons (eV 1) (aCons (eC (.int 3)) aNil)))))
    (cSeq (cIf (eT (e2 dEq (eV 3) (eC (.int 0)))) (cRet (e2 dIxL (eV 2) (eCall W_Ldraw (aCons (eV 0) (aCons (eV 1) (aCons (eC (.int 10)) aNil)))))) cNext)
    (cSeq (cSet 4 (eC (.str (Str.ofString " !\"#$&'()*+,-./0123456789:;<=>?@ABCDEFGHIJKLMNOPQRSTUVWXYZ[\\]^_`abcdefghijklmnopqrstuvwxyz{|}~"))))
    (cRet (eM1 dJoin (eC (.str (Str.ofString ""))) (eLc (sR1 (aCons (eCall W_Ldraw (aCons (eV 0) (aCons (eV 1) (aCons (eC (.int 6)) aNil)))) aNil)) (.one 5) [5] bYes (eCall W_Lpick (aCons (eV 0) (aCons (eV 1) (aCons (eV 4) aNil)))))))))))
noncomputable def W_Llines : Fn := fn0 3 4
    (cRet (eN (f1 dTupL) (aCons (eLc (sR1 (aCons (eCall W_Ldraw (aCons (eV 0) (aCons (eV 1) (aCons (e2 dAdd (eV 2) (eC (.int 1))) aNil)))) aNil)) (.one 3) [3] bYes (eCall W_Lline (aCons (eV 0) (aCons (eV 1) aNil)))) aNil)))
theorem start_lit {a : Sl} {p : Sm} {S : Sto} {T : EndA} {b : Sl} (e : b = a) (h : wS p a S T) : wS p b S T := e ▸ h
local macro_rules | `(tactic| walk_at "w0") => `(tactic| (refine w_fn0 rfl ?_; simp only [startA, List.map, List.length_cons, List.length_nil, Nat.reduceAdd, Nat.reduceSub, List.replicate, List.cons_append, List.nil_append]))
local macro_rules | `(tactic| walk_at "wX") => `(tactic| (refine w_fnX rfl ?_; simp only [startA, List.map, List.length_cons, List.length_nil, Nat.reduceAdd, Nat.reduceSub, List.replicate, List.cons_append, List.nil_append]))
/-- the state of the draws -/
def Stt2 (S : Sto) (st : Nat) : Prop := ∃ k v : Int, S[st]? = some (.lst [.int k, .int v])
section
variable {ns : List Int} {S : Sto} {Q : QA} {X : XA} {st : Nat}
theorem refill_w {k : Int} (hl : ns.length ≤ 63) (q : ∀ v, Q (.int v) S) : wF (W_Lrefill [.scr ns, .int k] S) Q X := by
  unfold W_Lrefill
  walk_at "w0"
  walk_at "w"
  refine w_cut (fun σ1 S1 => S = S1 ∧ ∃ z : Int, σ1 = [some (.scr ns), some (.int k), some (.int z)]) ?_ fun σ1 S1 ⟨e1, z, e2⟩ => ?_
  · walk_at "w"
    refine ⟨!ns.isEmpty, by cases ns <;> rfl, ?_⟩
    cases hn : ns with
    | nil =>
      refine iteF ?_
      walk_at "w"
      exact ⟨rfl, 0, rfl⟩
    | cons a r =>
      have hpos : (0 : Int) < ((ns.map D.int).length : Nat) := by rw [hn, List.length_map, List.length_cons]; omega
      refine iteT ?_
      walk_at "w"
      rw [← hn]
      refine o_lenQ (ds := ns.map .int) rfl ?_
      refine o_mod ?_ hpos
      have h1 := Int.emod_nonneg k (Int.ne_of_gt hpos)
      have h2 := Int.emod_lt_of_pos k hpos
      rw [List.length_map] at h1 h2 ⊢
      obtain ⟨v, _, ev⟩ := atI_in (xs := ns) h1 h2
      refine o_ixR ev ?_
      exact ⟨rfl, v, rfl⟩
  · subst e1 e2
    refine w_cut (fun σ1 S2 => S = S2 ∧ ∃ z : Int, σ1 = [some (.scr ns), some (.int k), some (.int z)]) ?_ fun σ1 S1 ⟨e1, z, e2⟩ => ?_
    · walk_at "w"
      refine o_dec (fun _ => ?_) (fun _ => ?_)
      · walk_at "w"
        exact ⟨rfl, _, rfl⟩
      · walk_at "w"
        all_goals exact ⟨rfl, _, rfl⟩
    · subst e1 e2
      refine w_seq ?_
      walk_at "w"
      refine o_dec (fun _ => ?_) (fun _ => ?_)
      · walk_at "w"
        refine o_lenQ (ds := ns.map .int) rfl ?_
        walk_at "w"
        refine o_dec (fun _ => ?_) (fun _ => ?_)
        · walk_at "w"
          exact q _
        · walk_at "w"
          exact q _
      · walk_at "w"
        exact q _
theorem draw_w {n : Int} (hl : ns.length ≤ 63) (hs : Stt2 S st) (h0 : 0 < n) (h1 : n < 1073741824) (q : ∀ d k v : Int, 0 ≤ d → d < n → Q (.int d) (S.set st (.lst [.int k, .int v]))) : wF (W_Ldraw [.ref st, .scr ns, .int n] S) Q X := by
  obtain ⟨k, v, e⟩ := hs
  unfold W_Ldraw
  walk_at "w0"
  refine w_cut (fun σ1 S1 => σ1 = [some (.ref st), some (.scr ns), some (.int n), none] ∧ ∃ k v : Int, S1[st]? = some (.lst [.int k, .int v]) ∧ ∀ o, S1.set st o = S.set st o) ?_ fun σ1 S1 ⟨e1, k, v, e2, e3⟩ => ?_
  · walk_at "w"
    refine o_ixL e (atI_1 _ _ _) ?_
    walk_at "w"
    refine o_dec (fun _ => ?_) (fun _ => ?_)
    · walk_at "w"
      refine o_ixL e (atI_0 _ _) ?_
      refine refill_w hl fun z => ?_
      walk_at "w"
      refine ⟨S.set st (.lst [.int k, .int z]), by rw [dSetL_ref e]; rfl, ?_⟩
      have e5 := set_at (o := .lst [.int k, .int z]) e
      walk_at "w"
      refine o_ixL e5 (atI_0 _ _) ?_
      walk_at "w"
      refine ⟨_, by rw [dSetL_ref e5]; rfl, rfl, k + 1, z, set_at e5, fun o => by rw [List.set_set, List.set_set]⟩
    · walk_at "w"
      exact ⟨rfl, k, v, e, fun o => rfl⟩
  · subst e1
    walk_at "w"
    refine o_ixL e2 (atI_1 _ _ _) ?_
    walk_at "w"
    refine o_ixL e2 (atI_1 _ _ _) ?_
    walk_at "w"
    rotate_left
    · exact ⟨show n ≠ 0 by omega, show n.natAbs < 1073741824 by omega⟩
    refine ⟨_, by rw [dSetL_ref e2]; rfl, ?_⟩
    walk_at "w"
    show Q _ (S1.set st (.lst [.int k, .int (v.fdiv n)]))
    rw [e3]
    exact q _ _ _ (Int.emod_nonneg _ (by omega)) (Int.emod_lt_of_pos _ h0)
end
/-! ### what a run leaves -/
structure Upto (o : List Nat) (S S' : Sto) : Prop where
  len : S.length ≤ S'.length
  eq : ∀ m, m ∉ o → m < S.length → S'[m]? = S[m]?
section
variable {o o' : List Nat} {S S1 S2 : Sto} {n m : Nat} {x y : O}
theorem Upto.refl (o : List Nat) (S : Sto) : Upto o S S := ⟨Nat.le_refl _, fun _ _ _ => rfl⟩
theorem Upto.trans (a : Upto o S S1) (b : Upto o S1 S2) : Upto o S S2 := ⟨Nat.le_trans a.len b.len, fun m hm hl => (b.eq m hm (Nat.lt_of_lt_of_le hl a.len)).trans (a.eq m hm hl)⟩
theorem Upto.app (a : Upto o S S1) : Upto o S (S1 ++ [x]) := ⟨by rw [List.length_append]; have := a.len; omega, fun m hm hl => by
  rw [List.getElem?_append_left (Nat.lt_of_lt_of_le hl a.len)]
  exact a.eq m hm hl⟩
theorem Upto.set (a : Upto o S S1) (h : n ∈ o ∨ S.length ≤ n) : Upto o S (S1.set n x) := ⟨by rw [List.length_set]; exact a.len, fun m hm hl => by
  rw [List.getElem?_set_ne]
  · exact a.eq m hm hl
  · intro e
    subst e
    rcases h with h | h
    · exact hm h
    · omega⟩
theorem Upto.get (a : Upto o S S1) (hm : m ∉ o) (e : S[m]? = some x) : S1[m]? = some x := (a.eq m hm (app_lt e)).trans e
theorem Upto.mono (a : Upto o S S1) (h : ∀ n ∈ o, n ∈ o' ∨ S.length ≤ n) : Upto o' S S1 := ⟨a.len, fun m hm hl => a.eq m (fun k => by
  rcases h m k with q | q
  · exact hm q
  · omega) hl⟩
theorem Upto.get0 (a : Upto [] S S1) (e : S[m]? = some x) : S1[m]? = some x := a.get (by simp) e
theorem Upto.any (a : Upto [] S S1) : Upto o S S1 := a.mono fun _ h => absurd h (by simp)
end
/-- draws: all but the state stays -/
structure Ev (st : Nat) (S S' : Sto) : Prop where
  up : Upto [st] S S'
  st : Stt2 S' st
section
variable {ns : List Int} {S S1 S2 : Sto} {Q : QA} {X : XA} {st m : Nat} {x : O}
theorem Ev.trans (a : Ev st S S1) (b : Ev st S1 S2) : Ev st S S2 := ⟨a.up.trans b.up, b.st⟩
theorem Ev.app (a : Ev st S S1) : Ev st S (S1 ++ [x]) := ⟨a.up.app, let ⟨k, v, e⟩ := a.st; ⟨k, v, app_old e⟩⟩
theorem Ev.refl (h : Stt2 S st) : Ev st S S := ⟨.refl _ _, h⟩
theorem Ev.set (a : Ev st S S1) (h : S.length ≤ m) (g : S[st]? ≠ none) : Ev st S (S1.set m x) := ⟨a.up.set (.inr h), let ⟨k, v, e⟩ := a.st; ⟨k, v, by
  rw [set_off (fun z => ?_)]
  · exact e
  · subst z
    exact g (List.getElem?_eq_none h)⟩⟩
theorem Stt2.some (h : Stt2 S st) : S[st]? ≠ none := let ⟨_, _, e⟩ := h; by rw [e]; simp
theorem Ev.get (a : Ev st S S1) (hm : m ≠ st) (e : S[m]? = some x) : S1[m]? = some x := a.up.get (by simpa using hm) e
theorem Stt2.up (h : Stt2 S st) {o : List Nat} (a : Upto o S S1) (n : st ∉ o) : Stt2 S1 st := let ⟨k, v, e⟩ := h; ⟨k, v, a.get n e⟩
theorem draw_e {n : Int} (hl : ns.length ≤ 63) (hs : Stt2 S st) (h0 : 0 < n) (h1 : n < 1073741824) (q : ∀ (d : Int) S', Ev st S S' → 0 ≤ d → d < n → Q (.int d) S') : wF (W_Ldraw [.ref st, .scr ns, .int n] S) Q X :=
  draw_w hl hs h0 h1 fun d k v a b => q d _ ⟨(Upto.refl _ _).set (.inl (by simp)), k, v, let ⟨_, _, e⟩ := hs; set_at e⟩ a b
theorem isint_w {i : Int} (q : Q (.bl true) S) : wF (W_Lis_integer [.int i] S) Q X := by
  unfold W_Lis_integer
  walk_at "w0"
  walk_at "w"
  refine o_isi (nm := "int") rfl (k := true) (by decide +kernel) ?_
  walk_at "w"
  refine o_isi (nm := "int") rfl (k := false) (by decide +kernel) ?_
  walk_at "w"
  exact q
theorem pick_w {z : Str} (hl : ns.length ≤ 63) (hs : Stt2 S st) (h0 : 0 < z.length) (h1 : z.length ≤ 100000) (q : ∀ c S', Ev st S S' → c ∈ tl z → Q (.str ⟨#[c]⟩) S') : wF (W_Lpick [.ref st, .scr ns, .str z] S) Q X := by
  unfold W_Lpick
  walk_at "w0"
  walk_at "w"
  refine o_lenS (line_of (by omega)) ?_
  refine draw_e hl hs (by omega) (by omega) fun d S' ev d0 d1 => ?_
  walk_at "w"
  refine ⟨d, rfl, ?_⟩
  walk_at "w"
  refine ⟨d + 1, rfl, ?_⟩
  refine o_slS (line_of (by omega)) ?_
  obtain ⟨c, hc, e⟩ := cut_one (z := z) d0 d1
  rw [e]
  exact q c _ ev hc
theorem Stt2.lt (h : Stt2 S st) : st < S.length := let ⟨_, _, e⟩ := h; app_lt e
theorem Ev.len (a : Ev st S S1) : S.length ≤ S1.length := a.up.len
/-- [pick for k in range(n)] and its like: texts drawn one by one -/
theorem c_strs {mi : M Src} {σ : Sl} {te : M D} {j : Nat} {vs : List Nat} (G : Str → Prop) (hj : vs = [j]) (h : wI mi σ S (fun src S0 => (∃ n : Nat, n ≤ 1000 ∧ src = ⟨(List.range n).map fun k => .int (0 + (k : Nat)), fun _ => True⟩) ∧ Stt2 S0 st ∧
    (∀ (v : D) S1, Ev st S0 S1 → wE te ((σ.set j none).set j (some v)) S1 (fun y S2 => ∃ x, y = .str x ∧ G x ∧ Ev st S1 S2) noX) ∧
    ∀ (xs : List Str) S1, Ev st S0 S1 → (∀ x ∈ xs, G x) → xs.length = src.items.length → S1[S0.length]? = some (.lst (xs.map .str)) → Q (.ref S0.length) S1) X) : wE (eLc mi (.one j) vs bYes te) σ S Q X := by
  subst hj
  refine c_gen ?_
  unfold wI at *
  cases e : mi σ S with
  | ex C S0 => rw [e] at h; exact h
  | bad => rw [e] at h; exact h
  | ok src S0 =>
    rw [e] at h
    obtain ⟨⟨n, hn, rfl⟩, hs, hstep, q⟩ := h
    refine ⟨trivial, trivial, fun i S1 => Ev st S0 S1 ∧ ∃ xs : List Str, S1[S0.length]? = some (.lst (xs.map .str)) ∧ xs.length = i ∧ ∀ x ∈ xs, G x, ⟨(Ev.refl hs).app, [], app_new, rfl, fun x h => nomatch h⟩, fun i d S1 hi hP => ?_, fun S1 hP => ?_⟩
    · obtain ⟨ev, xs, ex, el, eg⟩ := hP
      refine ⟨_, rfl, ?_⟩
      show wB bYes _ S1 _ noX
      refine w_yes (iteT ?_)
      have hw := hstep d S1 ev
      obtain ⟨y, S2, e2, x, rfl, gx, ev2⟩ := wF_to (show wF (te _ S1) _ noX from hw)
      unfold wE
      show wF (te ((σ.set j none).set j (some d)) S1) _ _
      rw [e2]
      have nst : S0.length ≠ st := fun z => by have := hs.lt; omega
      have hi' : i < n := by have := (List.getElem?_eq_some_iff.mp hi).1; rw [List.length_map, List.length_range] at this; exact this
      refine ⟨xs.map .str, ev2.get nst ex, lt_line (by rw [List.length_map]; omega), trivial, (ev.trans ev2).set (Nat.le_refl _) hs.some, xs ++ [x], ?_, by rw [List.length_append, el]; rfl, fun z hz => ?_⟩
      · rw [set_at (ev2.get nst ex), List.map_append]
        rfl
      · rcases List.mem_append.mp hz with hz | hz
        · exact eg z hz
        · rw [List.mem_singleton.mp hz]
          exact gx
    · obtain ⟨ev, xs, ex, el, eg⟩ := hP
      exact q xs S1 ev eg el ex
theorem sumS_le {xs : List Str} {k : Nat} (h : ∀ x ∈ xs, x.length ≤ k) : (xs.map (·.length)).sum ≤ xs.length * k := by
  induction xs with
  | nil => exact Nat.zero_le _
  | cons x r ih =>
    rw [List.map_cons, List.sum_cons, List.length_cons, Nat.succ_mul]
    have := h x (List.mem_cons_self ..)
    have := ih fun y hy => h y (List.mem_cons_of_mem _ hy)
    omega
theorem atI_mapD {α : Type} {xs : List α} (f : α → D) {i : Int} (h0 : 0 ≤ i) (h1 : i < xs.length) : ∃ x ∈ xs, atI (xs.map f) i = some (f x) := by
  obtain ⟨j, rfl⟩ := Int.eq_ofNat_of_zero_le h0
  have hj : j < xs.length := by omega
  exact ⟨xs[j], List.getElem_mem hj, atI_nat (by rw [List.getElem?_map, List.getElem?_eq_getElem hj]; rfl)⟩
def lns0 : List Str := ["", ".", "..", ". x", "Received: by ", "Received: by q.r", "received: by x", " Received: by y", "To: a", "~"].map Str.ofString
theorem lns0_len : ∀ x ∈ lns0, x.length ≤ 20 := by
  intro x hx
  obtain ⟨s, hs, rfl⟩ := List.mem_map.mp hx
  rw [len_of]
  revert s
  decide +kernel
theorem lns0_asc : ∀ x ∈ lns0, Asc x := by
  intro x hx
  obtain ⟨s, hs, rfl⟩ := List.mem_map.mp hx
  apply asc_of
  revert s
  decide +kernel
theorem asc_lns : Asc (Str.ofString " !\"#$&'()*+,-./0123456789:;<=>?@ABCDEFGHIJKLMNOPQRSTUVWXYZ[\\]^_`abcdefghijklmnopqrstuvwxyz{|}~") := asc_of (by decide +kernel)
/-- a drawn line -/
def LnOk (x : Str) : Prop := x.length ≤ 20 ∧ Asc x
theorem line_w (hl : ns.length ≤ 63) (hs : Stt2 S st) (q : ∀ x S', Ev st S S' → LnOk x → Q (.str x) S') : wF (W_Lline [.ref st, .scr ns] S) Q X := by
  unfold W_Lline
  walk_at "w0"
  walk_at "w"
  have e0 := (Ev.refl hs).app (x := .lst (lns0.map .str))
  walk_at "w"
  refine draw_e hl e0.st (by omega) (by omega) fun d S1 e1 d0 d1 => ?_
  walk_at "w"
  refine w_seq ?_
  walk_at "w"
  refine o_dec (fun _ => ?_) (fun _ => ?_)
  · walk_at "w"
    refine draw_e hl e1.st (by omega) (by omega) fun d S2 e2 d0 d1 => ?_
    obtain ⟨x, hx, ex⟩ := atI_mapD (xs := lns0) D.str d0 d1
    have nst : S.length ≠ st := fun z => by have := hs.lt; omega
    refine o_ixL ((e1.trans e2).get nst app_new) ex ?_
    exact q _ _ (e0.trans (e1.trans e2)) ⟨lns0_len x hx, lns0_asc x hx⟩
  · walk_at "w"
    refine ⟨_, rfl, ?_⟩
    refine c_strs (st := st) (fun x => x.length ≤ 1 ∧ Asc x) rfl ?_
    walk_at "w"
    refine draw_e hl e1.st (by omega) (by omega) fun d S2 e2 d0 d1 => ?_
    refine ⟨d, rfl, rg_ok d0 (by omega), ⟨d.toNat, by omega, rfl⟩, e2.st, fun v S3 e3 => ?_, fun xs S3 e3 g3 l3 a3 => ?_⟩
    · walk_at "w"
      refine pick_w hl e3.st (by decide +kernel) (by decide +kernel) fun c S4 e4 hc => ?_
      exact ⟨_, rfl, ⟨Nat.le_refl _, asc_one (asc_lns c hc)⟩, e4⟩
    · have hn : xs.length ≤ 6 := by rw [l3, List.length_map, List.length_range]; omega
      have hz := sumS_le fun x hx => (g3 x hx).1
      have he : (Str.ofString "").length = 0 := by decide +kernel
      refine o_join (seqOf_ref a3) (by rw [he]; omega) ?_
      refine q _ _ (e0.trans (e1.trans (e2.trans e3))) ?_
      have := len_joined (Str.ofString "") xs
      rw [he] at this
      exact ⟨by omega, asc_join (asc_of (by decide +kernel)) fun x hx => (g3 x hx).2⟩
theorem lines_w {n : Int} (hl : ns.length ≤ 63) (hs : Stt2 S st) (h0 : 0 ≤ n) (h1 : n ≤ 100) (q : ∀ (xs : List Str) S', Ev st S S' → (∀ x ∈ xs, LnOk x) → xs.length ≤ 100 → Q (.tup (xs.map .str)) S') : wF (W_Llines [.ref st, .scr ns, .int n] S) Q X := by
  unfold W_Llines
  walk_at "w0"
  walk_at "w"
  refine c_strs (st := st) LnOk rfl ?_
  walk_at "w"
  refine draw_e hl hs (by omega) (by omega) fun d S2 e2 d0 d1 => ?_
  refine ⟨d, rfl, rg_ok d0 (by omega), ⟨d.toNat, by omega, rfl⟩, e2.st, fun v S3 e3 => ?_, fun xs S3 e3 g3 l3 a3 => ?_⟩
  · walk_at "w"
    exact line_w hl e3.st fun x S4 e4 hx => ⟨_, rfl, hx, e4⟩
  · refine o_tupL a3 ?_
    exact q _ _ (e2.trans e3) g3 (by rw [l3, List.length_map, List.length_range]; omega)
end
/-! ### data that may be compared -/
structure Pd (S : Sto) (n : Nat) (d : D) (p : PyData) : Prop where
  py : ∀ m, n ≤ m → toPy S (m + 1) d = some p
  sh : Sh n p
def PdL (S : Sto) (n : Nat) : List D → List PyData → Prop
  | [], [] => True
  | d :: ds, p :: ps => Pd S n d p ∧ PdL S n ds ps
  | _, _ => False
section
variable {S : Sto} {n m : Nat} {d x y : D} {p : PyData} {ds : List D} {ps : List PyData} {Q : QA} {X : XA} {σ : Sl}
theorem Pd.non : Pd S 0 .non .none := ⟨fun _ _ => rfl, .none⟩
theorem Pd.bl (b : Bool) : Pd S 0 (.bl b) (.bool b) := ⟨fun _ _ => rfl, .bool b⟩
theorem Pd.int (i : Int) : Pd S 0 (.int i) (.int i) := ⟨fun _ _ => rfl, .int i⟩
theorem Pd.str {x : Str} (h : Asc x) : Pd S 0 (.str x) (.str x) := ⟨fun _ _ => rfl, .str h⟩
theorem Pd.mono (h : Pd S n d p) (l : n ≤ m) : Pd S m d p := ⟨fun k hk => h.py k (Nat.le_trans l hk), h.sh.mono l⟩
theorem PdL.py : ∀ {ds : List D} {ps : List PyData}, PdL S n ds ps → ∀ m, n ≤ m → allPy (toPy S (m + 1)) ds = some ps
  | [], [], _, _, _ => rfl
  | d :: ds, p :: ps, h, m, hm => by
    unfold allPy
    rw [h.1.py m hm, h.2.py m hm]
    rfl
theorem PdL.sh : ∀ {ds : List D} {ps : List PyData}, PdL S n ds ps → ∀ p ∈ ps, Sh n p
  | [], [], _, p, hp => nomatch hp
  | d :: ds, p :: ps, h, q, hq => by
    rcases List.mem_cons.mp hq with e | e
    · rw [e]
      exact h.1.sh
    · exact h.2.sh q e
theorem Pd.tup (h : PdL S n ds ps) : Pd S (n + 1) (.tup ds) (.tuple ps) := ⟨fun m hm => by
  obtain ⟨k, rfl⟩ : ∃ k, m = k + 1 := ⟨m - 1, by omega⟩
  show (allPy (toPy S (k + 1)) ds).map _ = _
  rw [h.py k (by omega)]
  rfl, Sh.tuple h.sh⟩
theorem Pd.lst {k : Nat} (e : S[k]? = some (.lst ds)) (h : PdL S n ds ps) : Pd S (n + 1) (.ref k) (.list ps) := ⟨fun m hm => by
  obtain ⟨j, rfl⟩ : ∃ k, m = k + 1 := ⟨m - 1, by omega⟩
  unfold toPy
  simp only [e]
  rw [h.py j (by omega)]
  rfl, Sh.list h.sh⟩
theorem PdL.nil : PdL S n [] [] := trivial
theorem PdL.cons (h : Pd S n d p) (g : PdL S n ds ps) : PdL S n (d :: ds) (p :: ps) := ⟨h, g⟩
theorem PdL.map {α : Type} {f : α → D} {g : α → PyData} : ∀ {xs : List α}, (∀ x ∈ xs, Pd S n (f x) (g x)) → PdL S n (xs.map f) (xs.map g)
  | [], _ => trivial
  | x :: xs, h => ⟨h x (List.mem_cons_self ..), PdL.map fun y hy => h y (List.mem_cons_of_mem _ hy)⟩
theorem Pd.strs {xs : List Str} (h : ∀ x ∈ xs, Asc x) : Pd S 1 (.tup (xs.map .str)) (.tuple (xs.map .str)) := .tup (.map fun x hx => .str (h x hx))
theorem Pd.ints (ns : List Int) : Pd S 1 (.tup (ns.map .int)) (.tuple (ns.map .int)) := .tup (.map fun x hx => .int x)
theorem Pd.eq (h : Pd S n x p) (g : Pd S n y p) (l : n ≤ 64 := by decide) : dEqv x y S = some true := by
  unfold dEqv
  rw [h.py 69 (by omega), g.py 69 (by omega)]
  show gd _ _ = _
  rw [gd_ok ⟨h.sh.shaped l, h.sh.shaped l⟩, h.sh.refl]
theorem o_eqSame (h : Pd S n x p) (g : Pd S n y p) (q : Q (.bl true) S) (l : n ≤ 64 := by decide) : wO (dEqD x y S) Q := o_eqD (h.eq g l) q
theorem o_neSame (h : Pd S n x p) (g : Pd S n y p) (q : Q (.bl false) S) (l : n ≤ 64 := by decide) : wO (dNeD x y S) Q := o_neD (h.eq g l) q
/-! ### a comprehension over written items that only reads -/
theorem c_list {α : Type} {mi : M Src} {t : CTg} {vs : List Nat} {tt : M Bool} {te : M D} (f : α → D) (xs : List α) (keep : α → Bool) (fx : α → D) (h : wI mi σ S (fun src S0 => src.items = xs.map f ∧ xs.length ≤ 1000000 ∧ (∀ acc, src.gd S0 ∧ src.gd (S0 ++ [.lst acc])) ∧
      (∀ x ∈ xs, ∀ acc, ∃ σ2, cgs t (f x) (wipeA σ vs) = some σ2 ∧ wB tt σ2 (S0 ++ [.lst acc]) (fun b S1 => b = keep x ∧ S1 = S0 ++ [.lst acc]) noX ∧ (keep x = true → wE te σ2 (S0 ++ [.lst acc]) (fun y S1 => y = fx x ∧ S1 = S0 ++ [.lst acc]) noX)) ∧
      Q (.ref S0.length) (S0 ++ [.lst ((xs.filter keep).map fx)])) X) : wE (eLc mi t vs tt te) σ S Q X := by
  refine c_gen ?_
  unfold wI at *
  cases e : mi σ S with
  | ex C S1 => rw [e] at h; exact h
  | bad => rw [e] at h; exact h
  | ok src S0 =>
    rw [e] at h
    obtain ⟨hi0, hl, hg, hs, q⟩ := h
    refine ⟨(hg []).1, (hg []).2, fun i S1 => S1 = S0 ++ [.lst (((xs.take i).filter keep).map fx)], rfl, fun i d S1 hi hP => ?_, fun S1 hP => ?_⟩
    · subst hP
      rw [hi0, List.getElem?_map] at hi
      cases hx : xs[i]? with
      | none => rw [hx] at hi; cases hi
      | some x =>
        rw [hx] at hi
        cases hi
        obtain ⟨σ2, e2, hb, he⟩ := hs x (List.mem_of_getElem? hx) (((xs.take i).filter keep).map fx)
        refine ⟨σ2, e2, ?_⟩
        have et : xs.take (i + 1) = xs.take i ++ [x] := by rw [List.take_add_one, hx]; rfl
        unfold wB at hb ⊢
        cases eb : tt σ2 (S0 ++ [.lst (((xs.take i).filter keep).map fx)]) with
        | ex C S2 => rw [eb] at hb; exact hb.elim
        | bad => rw [eb] at hb; exact hb.elim
        | ok b S2 =>
          rw [eb] at hb
          obtain ⟨rfl, rfl⟩ := hb
          cases hk : keep x with
          | true =>
            refine iteT ?_
            have he' := he hk
            obtain ⟨y, S3, e3, rfl, rfl⟩ := wF_to (show wF (te σ2 _) _ noX from he')
            unfold wE
            rw [e3]
            have hset : (S0 ++ [O.lst (((xs.take i).filter keep).map fx)]).set S0.length (.lst (((xs.take i).filter keep).map fx ++ [fx x])) = S0 ++ [.lst (((xs.take i).filter keep).map fx ++ [fx x])] := by
              rw [List.set_append_right _ _ (Nat.le_refl _), Nat.sub_self]
              rfl
            refine ⟨_, app_new, lt_line ?_, ?_, ?_⟩
            · rw [List.length_map]
              have q1 := List.length_filter_le keep (xs.take i)
              rw [List.length_take] at q1
              omega
            · rw [hset]
              exact (hg _).2
            · show _ = S0 ++ [O.lst (((xs.take (i + 1)).filter keep).map fx)]
              rw [hset, et, List.filter_append, List.map_append, List.filter_cons, if_pos hk]
              rfl
          | false =>
            refine iteF ⟨(hg _).2, ?_⟩
            show _ = S0 ++ [O.lst (((xs.take (i + 1)).filter keep).map fx)]
            rw [et, List.filter_append, List.map_append, List.filter_cons, if_neg (by rw [hk]; exact Bool.false_ne_true)]
            simp
    · subst hP
      rw [hi0, List.length_map, List.take_length]
      exact q
/-! ### more operators at written values -/
theorem vsOf_strs : ∀ xs : List Str, vsOf (xs.map .str) = some (xs.map V.str)
  | [] => rfl
  | x :: xs => by
    show (vOf (.str x)).bind _ = _
    rw [show vOf (.str x) = some (V.str x) from rfl, Option.bind_some, vsOf_strs xs]
    rfl
theorem o_inS {z : Str} {xs : List Str} (e : seqOf y S = some (xs.map .str)) (h : Q (.bl (decide (z ∈ xs))) S) : wO (dIn false (.str z) y S) Q := by
  unfold dIn
  rw [show vOf (.str z) = some (V.str z) from rfl, Option.bind_some, e, Option.bind_some, vsOf_strs]
  show Q (.bl (inV (.str z) (xs.map V.str))) S
  rw [inV_strs]
  exact h
theorem o_popAt {k j : Nat} (e : S[k]? = some (.lst ds)) (hj : j < ds.length) (hb : ds.length ≤ 1000000) (h : ∀ v, ds[j]? = some v → Q v (S.set k (.lst (ds.eraseIdx j)))) : wO (dPopAt (.ref k) [.int (j : Nat)] S) Q := by
  unfold dPopAt
  simp only
  rw [listAt_ref e, Option.bind_some, gd_ok ⟨by omega, by omega⟩]
  have es : seqIndex? ((j : Nat) : Int) ds.length = some j := by
    unfold seqIndex?
    have h1 : ¬ ((j : Nat) : Int) < 0 := by omega
    simp only [if_neg h1]
    rw [if_pos (by simp; omega)]
    rfl
  simp only [es, Option.bind_some]
  rw [List.getElem?_eq_getElem hj]
  exact h _ (List.getElem?_eq_getElem hj)
theorem strsOf_map : ∀ xs : List Str, strsOf (xs.map .str) = some xs
  | [] => rfl
  | x :: xs => by
    show (strsOf (xs.map .str)).map _ = _
    rw [strsOf_map xs]
    rfl
theorem o_sortSet {xs : List Str} (hl : xs.length < 60) (h : Q (.ref S.length) (S ++ [.lst ((srtS xs).map .str)])) : wO (dSortSet (.tup (xs.map .str)) S) Q := by
  unfold dSortSet
  simp only
  rw [strsOf_map, Option.bind_some, gd_ok hl]
  exact h
theorem o_isiL {k : Nat} (e : S[k]? = some (.lst ds)) (h : Q (.bl true) S) : wO (dIsi (.ref k) (.ty "list") S) Q := by
  refine o_isi (nm := "list") ?_ (k := true) (by decide +kernel) h
  unfold tyN
  simp only [e]
theorem o_isiT (h : Q (.bl true) S) : wO (dIsi (.tup ds) (.ty "tuple") S) Q := o_isi (nm := "tuple") rfl (k := true) (by decide +kernel) h
theorem bm_ref {k : Nat} {P : Nat × List D → Prop} (e : S[k]? = some (.lst ds)) (h : P (k, ds)) : ∃ p, listAt S (.ref k) = some p ∧ P p := ⟨_, listAt_ref e, h⟩
theorem tru_ref {k : Nat} {P : Bool → Prop} (e : S[k]? = some (.lst ds)) (h : P (!ds.isEmpty)) : ∃ b, dTru (.ref k) S = some b ∧ P b := ⟨_, by show (seqOf (.ref k) S).map _ = _; rw [seqOf_ref e]; rfl, h⟩
end
/-! ### the boxes -/
noncomputable def W_Box_init (B Ne : Addr) : Fn := fn0 1 1
    (cSeq (cFld B 0 (eV 0) (eC (.int 0)))
    (cSeq (cFld B 1 (eV 0) (eC (.int 0)))
    (cSeq (cFld B 2 (eV 0) (eLst aNil))
    (cFld B 3 (eV 0) (eLst aNil)))))
noncomputable def W_Box_deliver (B Ne : Addr) : Fn := fn0 2 2
    (cSeq (cFld B 0 (eV 0) (e2 dAdd (e1 (dFld B 0) (eV 0)) (eC (.int 1))))
    (cSeq (cFld B 1 (eV 0) (e2 dAdd (e1 (dFld B 1) (eV 0)) (eC (.int 1))))
    (cSeq (cDrop (eBM dAppend (e1 (dFld B 2) (eV 0)) (aCons (eTup (aCons (e1 (dFld B 0) (eV 0)) (aCons (eV 1) (aCons (eTup aNil) (aCons (e1 (dFld B 1) (eV 0)) aNil))))) aNil)))
    (cRet (e1 (dFld B 0) (eV 0))))))
noncomputable def W_Box_place (B Ne : Addr) : Fn := fnX 2 4
    (cSeq (cFor (eBind (aCons (e1 (dFld B 2) (eV 0)) aNil) sEnum) (tgTup (tgCons (tgName 2) (tgCons (tgName 3) tgNil))) (cIf (eT (e2 dEq (e2 dIxT (eV 3) (eC (.int 0))) (eV 1))) (cRet (eV 2)) cNext))
    (cRaise Ne (jsA [(eC (.str (Str.ofString "no entry has the number "))), (e1 dFmt (eV 1))] Str.empty)))
noncomputable def W_Box_set_flags (B Ne : Addr) : Fn := fnX 3 5
    (cSeq (cSet 3 (eMeth B (W_Box_place B Ne) (eV 0) (aCons (eV 1) aNil)))
    (cSeq (cSet 4 (e2 dIxT (e2 dIxL (e1 (dFld B 2) (eV 0)) (eV 3)) (eC (.int 1))))
    (cSeq (cFld B 1 (eV 0) (e2 dAdd (e1 (dFld B 1) (eV 0)) (eC (.int 1))))
    (cAsg (eTup (aCons (eV 1) (aCons (eV 4) (aCons (eN (f1 dTupL) (aCons (e1 dSortSet (eV 2)) aNil)) (aCons (e1 (dFld B 1) (eV 0)) aNil))))) (tgSub (e1 (dFld B 2) (eV 0)) (eV 3) dSetL)))))
noncomputable def W_Box_expunge (B Ne : Addr) : Fn := fnX 2 3
    (cSeq (cSet 2 (eMeth B (W_Box_place B Ne) (eV 0) (aCons (eV 1) aNil)))
    (cSeq (cFld B 1 (eV 0) (e2 dAdd (e1 (dFld B 1) (eV 0)) (eC (.int 1))))
    (cSeq (cDrop (eBM dPopAt (e1 (dFld B 2) (eV 0)) (aCons (eV 2) aNil)))
    (cDrop (eBM dAppend (e1 (dFld B 3) (eV 0)) (aCons (eTup (aCons (eV 1) (aCons (e1 (dFld B 1) (eV 0)) aNil))) aNil))))))
noncomputable def W_Box_news (B Ne : Addr) : Fn := fn0 2 7
    (cSeq (cSet 2 (eN (f1 dTupL) (aCons (eLc (eBind (e1 (dFld B 2) (eV 0)) sList) (.one 4) [4] (eT (e2 dGt (e2 dIxT (eV 4) (eC (.int 3))) (eV 1))) (eV 4)) aNil)))
    (cSeq (cSet 3 (eN (f1 dTupL) (aCons (eN (f1 dSrtI) (aCons (eLc (eBind (e1 (dFld B 3) (eV 0)) sList) (.tup [5, 6]) [5, 6] (eT (e2 dGt (eV 6) (eV 1))) (eV 5)) aNil)) aNil)))
    (cRet (eTup (aCons (e1 (dFld B 1) (eV 0)) (aCons (eV 2) (aCons (eV 3) aNil)))))))
noncomputable def W_Box_to_value (B Ne : Addr) : Fn := fn0 1 1
    (cRet (eTup (aCons (e1 (dFld B 0) (eV 0)) (aCons (e1 (dFld B 1) (eV 0)) (aCons (eN (f1 dTupL) (aCons (e1 (dFld B 2) (eV 0)) aNil)) (aCons (eN (f1 dTupL) (aCons (e1 (dFld B 3) (eV 0)) aNil)) aNil))))))
noncomputable def W_Box_restore (B Ne : Addr) : Fn := fn0 2 4
    (cSeq (cAsg (eV 1) (tgTup (tgCons (tgFld B 0 (eV 0)) (tgCons (tgFld B 1 (eV 0)) (tgCons (tgName 2) (tgCons (tgName 3) tgNil))))))
    (cSeq (cFld B 2 (eV 0) (eN (f1 dListOf) (aCons (eV 2) aNil)))
    (cFld B 3 (eV 0) (eN (f1 dListOf) (aCons (eV 3) aNil)))))
noncomputable def W_box_of (B Ne : Addr) : Fn := fn0 1 2
    (cSeq (cSet 1 (eMake B (W_Box_init B Ne) aNil))
    (cSeq (cDrop (eMeth B (W_Box_restore B Ne) (eV 1) (aCons (eV 0) aNil)))
    (cRet (eV 1))))
structure En where
  n : Int
  ls : List Str
  fl : List Str
  ch : Int
def En.d (e : En) : D := .tup [.int e.n, .tup (e.ls.map .str), .tup (e.fl.map .str), .int e.ch]
def goneD (g : Int × Int) : D := .tup [.int g.1, .int g.2]
structure BoxAt (B : Addr) (S : Sto) (p e g : Nat) (num ch : Int) (es : List En) (gs : List (Int × Int)) : Prop where
  ob : S[p]? = some (.obj B [.int num, .int ch, .ref e, .ref g])
  en : S[e]? = some (.lst (es.map En.d))
  gn : S[g]? = some (.lst (gs.map goneD))
  ne : e ≠ g
section
variable {B Ne : Addr} {S S' : Sto} {p e g : Nat} {num ch num' ch' : Int} {es : List En} {gs : List (Int × Int)} {Q : QA} {X : XA} {o : List Nat}
theorem kind_ne {S : Sto} {a b : Nat} {C : Addr} {ds es : List D} (h : S[a]? = some (.obj C ds)) (g : S[b]? = some (.lst es)) : a ≠ b := fun z => by
  subst z
  rw [h] at g
  cases g
theorem BoxAt.pe (h : BoxAt B S p e g num ch es gs) : p ≠ e := kind_ne h.ob h.en
theorem BoxAt.pg (h : BoxAt B S p e g num ch es gs) : p ≠ g := kind_ne h.ob h.gn
theorem BoxAt.up (h : BoxAt B S p e g num ch es gs) (u : Upto o S S') (n : ∀ x ∈ [p, e, g], x ∉ o) : BoxAt B S' p e g num ch es gs :=
  ⟨u.get (n p (by simp)) h.ob, u.get (n e (by simp)) h.en, u.get (n g (by simp)) h.gn, h.ne⟩
theorem BoxAt.up0 (h : BoxAt B S p e g num ch es gs) (u : Upto [] S S') : BoxAt B S' p e g num ch es gs := h.up u fun _ _ => by simp
theorem BoxAt.app (h : BoxAt B S p e g num ch es gs) {x : O} : BoxAt B (S ++ [x]) p e g num ch es gs := h.up0 (Upto.refl _ _).app
theorem BoxAt.setNum (h : BoxAt B S p e g num ch es gs) (k : Int) : ∃ S', dFldSet B 0 (.ref p) (.int k) S = some S' ∧ BoxAt B S' p e g k ch es gs ∧ Upto [p] S S' :=
  ⟨_, dFldSet_ref h.ob (Nat.le_of_ble_eq_true rfl), ⟨set_at h.ob, (set_off h.pe).trans h.en, (set_off h.pg).trans h.gn, h.ne⟩, (Upto.refl _ _).set (.inl (by simp))⟩
theorem BoxAt.setCh (h : BoxAt B S p e g num ch es gs) (k : Int) : ∃ S', dFldSet B 1 (.ref p) (.int k) S = some S' ∧ BoxAt B S' p e g num k es gs ∧ Upto [p] S S' :=
  ⟨_, dFldSet_ref h.ob (Nat.le_of_ble_eq_true rfl), ⟨set_at h.ob, (set_off h.pe).trans h.en, (set_off h.pg).trans h.gn, h.ne⟩, (Upto.refl _ _).set (.inl (by simp))⟩
theorem BoxAt.setEs (h : BoxAt B S p e g num ch es gs) {es2 : List En} {ds : List D} (ed : ds = es2.map En.d) : BoxAt B (S.set e (.lst ds)) p e g num ch es2 gs ∧ Upto [e] S (S.set e (.lst ds)) := by
  subst ed
  exact ⟨⟨(set_off h.pe.symm).trans h.ob, set_at h.en, (set_off h.ne).trans h.gn, h.ne⟩, (Upto.refl _ _).set (.inl (by simp))⟩
theorem BoxAt.setGs (h : BoxAt B S p e g num ch es gs) {gs2 : List (Int × Int)} {ds : List D} (ed : ds = gs2.map goneD) : BoxAt B (S.set g (.lst ds)) p e g num ch es gs2 ∧ Upto [g] S (S.set g (.lst ds)) := by
  subst ed
  exact ⟨⟨(set_off h.pg.symm).trans h.ob, (set_off h.ne.symm).trans h.en, set_at h.gn, h.ne⟩, (Upto.refl _ _).set (.inl (by simp))⟩
theorem Upto.w {S S1 : Sto} {o o2 : List Nat} (a : Upto o S S1) (h : ∀ x ∈ o, x ∈ o2) : Upto o2 S S1 := a.mono fun x hx => .inl (h x hx)
theorem init_w (h : S[p]? = some (.obj B [])) (q : ∀ S' e g, BoxAt B S' p e g 0 0 [] [] → S.length ≤ e → S.length ≤ g → Upto [p] S S' → Q .non S') : wF (W_Box_init B Ne [.ref p] S) Q X := by
  unfold W_Box_init
  walk_at "w0"
  walk_at "w"
  refine ⟨_, dFldSet_new (ds := []) h, ?_⟩
  have h1 := set_at (o := .obj B ([] ++ [.int 0])) h
  walk_at "w"
  refine ⟨_, dFldSet_new (ds := [.int 0]) h1, ?_⟩
  have h2 := set_at (o := .obj B ([.int 0] ++ [.int 0])) h1
  walk_at "w"
  have h3 := app_old (o := .lst []) h2
  refine ⟨_, dFldSet_new (ds := [.int 0, .int 0]) h3, ?_⟩
  have h4 := set_at (o := .obj B ([.int 0, .int 0] ++ [.ref ((S.set p (.obj B ([] ++ [.int 0]))).set p (.obj B ([.int 0] ++ [.int 0]))).length])) h3
  walk_at "w"
  have h5 := app_old (o := .lst []) h4
  refine ⟨_, dFldSet_new (ds := [.int 0, .int 0, _]) h5, ?_⟩
  have hp := app_lt h
  refine q _ _ _ ⟨set_at h5, ?_, ?_, ?_⟩ ?_ ?_ ?_
  · rw [set_off (by simp only [List.length_set]; omega)]
    refine app_old ?_
    rw [set_off (by simp only [List.length_set]; omega)]
    exact app_new
  · rw [set_off (by simp only [List.length_set, List.length_append]; omega)]
    exact app_new
  · simp only [List.length_set, List.length_append, List.length_cons, List.length_nil]
    omega
  · simp only [List.length_set]
    omega
  · simp only [List.length_set, List.length_append]
    omega
  · have s0 : p ∈ [p] ∨ S.length ≤ p := .inl (by simp)
    exact (((((Upto.refl _ _).set s0).set s0).app.set s0).app.set s0)
theorem make_w {σ : Sl} (q : ∀ S' e g, BoxAt B S' S.length e g 0 0 [] [] → S.length ≤ e → S.length ≤ g → Upto [] S S' → Q (.ref S.length) S') : wE (eMake B (W_Box_init B Ne) aNil) σ S Q X := by
  refine w_make (w_nil ?_)
  refine init_w app_new fun S' e g hb he hg u => ⟨rfl, q S' e g hb (by rw [List.length_append] at he; omega) (by rw [List.length_append] at hg; omega) ?_⟩
  exact ⟨by have := u.len; rw [List.length_append] at this; omega, fun m _ hm => (u.eq m (by simp only [List.mem_singleton]; omega) (by rw [List.length_append]; omega)).trans (List.getElem?_append_left hm)⟩
theorem make_w' {Q2 : Sto → Prop} (q : ∀ S' e g, BoxAt B S' S.length e g 0 0 [] [] → S.length ≤ e → S.length ≤ g → Upto [] S S' → Q2 S') : wF (W_Box_init B Ne [.ref S.length] (S ++ [.obj B []])) (fun v S2 => v = .non ∧ Q2 S2) X := by
  refine init_w app_new fun S' e g hb he hg u => ⟨rfl, q S' e g hb (by rw [List.length_append] at he; omega) (by rw [List.length_append] at hg; omega) ?_⟩
  exact ⟨by have := u.len; rw [List.length_append] at this; omega, fun m _ hm => (u.eq m (by simp only [List.mem_singleton]; omega) (by rw [List.length_append]; omega)).trans (List.getElem?_append_left hm)⟩
theorem deliver_w {ls : List Str} (h : BoxAt B S p e g num ch es gs) (hl : es.length < 100000) (q : ∀ S', BoxAt B S' p e g (num + 1) (ch + 1) (es ++ [⟨num + 1, ls, [], ch + 1⟩]) gs → Upto [p, e] S S' → Q (.int (num + 1)) S') : wF (W_Box_deliver B Ne [.ref p, .tup (ls.map .str)] S) Q X := by
  unfold W_Box_deliver
  walk_at "w0"
  walk_at "w"
  refine o_fld h.ob rfl ?_
  walk_at "w"
  obtain ⟨S1, e1, h1, u1⟩ := h.setNum (num + 1)
  refine ⟨S1, e1, ?_⟩
  walk_at "w"
  refine o_fld h1.ob rfl ?_
  walk_at "w"
  obtain ⟨S2, e2, h2, u2⟩ := h1.setCh (ch + 1)
  refine ⟨S2, e2, ?_⟩
  walk_at "w"
  refine o_fld h2.ob (z := 2) rfl ?_
  refine bm_ref h2.en ?_
  walk_at "w"
  refine o_fld h2.ob rfl ?_
  walk_at "w"
  refine o_fld h2.ob rfl ?_
  walk_at "w"
  refine o_append h2.en (lt_line (by rw [List.length_map]; omega)) ?_
  have ed : es.map En.d ++ [D.tup [.int (num + 1), .tup (ls.map .str), .tup [], .int (ch + 1)]] = (es ++ [(⟨num + 1, ls, [], ch + 1⟩ : En)]).map En.d := by
    rw [List.map_append]
    rfl
  obtain ⟨h3, u3⟩ := h2.setEs ed
  walk_at "w"
  refine o_fld h3.ob rfl ?_
  exact q _ h3 (((u1.w (by simp)).trans (u2.w (by simp))).trans (u3.w (by simp)))
theorem len_to {k : Int} (h0 : 0 ≤ k) (h1 : k < 200) : (toString k : Str).length ≤ 3 := by
  obtain ⟨j, rfl⟩ := Int.eq_ofNat_of_zero_le h0
  have hj : j < 200 := by omega
  clear h0 h1
  revert j
  decide +kernel
theorem place_w {k : Int} (h : BoxAt B S p e g num ch es gs) (k0 : 0 ≤ k) (k1 : k < 200) (q : ∀ (i : Nat) en, es[i]? = some en → en.n = k → Q (.int i) S) (x : (∀ en ∈ es, en.n ≠ k) → X Ne S) : wF (W_Box_place B Ne [.ref p, .int k] S) Q X := by
  unfold W_Box_place
  walk_at "wX"
  refine w_seq ?_
  walk_at "w"
  refine o_fld h.ob (z := 2) rfl ?_
  walk_at "w"
  refine i_enum h.en ?_
  refine ⟨h.en, w_loop (P := fun i σ S1 => S1 = S ∧ (∀ j, j < i → ∀ en, es[j]? = some en → en.n ≠ k) ∧ ∃ x y, σ = [some (.ref p), some (.int k), x, y]) ⟨rfl, fun j hj => absurd hj (Nat.not_lt_zero j), none, none, rfl⟩ (fun i d σ S1 hi hP => ?_) (fun σ S1 hP => ?_)⟩
  · obtain ⟨rfl, hno, x, y, rfl⟩ := hP
    rw [List.getElem?_map, List.getElem?_zipIdx, List.getElem?_map] at hi
    cases he : es[i]? with
    | none => rw [he] at hi; cases hi
    | some en =>
      rw [he] at hi
      cases hi
      unfold En.d
      walk_at "w"
      refine o_dec (fun c => ?_) (fun c => ?_)
      · walk_at "w"
        simp only [Nat.zero_add]
        exact q i en he c
      · walk_at "w"
        refine ⟨h.en, rfl, fun j hj en' he' => ?_, _, _, rfl⟩
        by_cases z : j < i
        · exact hno j (by omega) en' he'
        · obtain rfl : j = i := by omega
          rw [he] at he'
          cases he'
          exact c
  · obtain ⟨rfl, hno, x', y, rfl⟩ := hP
    walk_at "w"
    refine ⟨_, rfl, line_of (by decide +kernel), ?_⟩
    walk_at "w"
    refine o_fmtI (Nat.lt_of_le_of_lt (Nat.log2_le_self _) (by omega)) ?_
    refine ⟨_, rfl, line_of ?_, ?_⟩
    · have := len_to k0 k1
      rw [len_app, len_app, show Str.empty.length = 0 from rfl, len_of, show "no entry has the number ".length = 24 by decide +kernel]
      omega
    · walk_at "w"
      refine x fun en hen => ?_
      obtain ⟨j, hj, e⟩ := List.mem_iff_getElem.mp hen
      refine hno j ?_ en (by rw [List.getElem?_eq_getElem hj, e])
      rw [List.length_map, List.length_zipIdx, List.length_map]
      omega
theorem set_flags_w {k : Int} {fl : List Str} (h : BoxAt B S p e g num ch es gs) (k0 : 0 ≤ k) (k1 : k < 200) (hl : es.length < 100000) (hf : fl.length < 60) (q : ∀ (i : Nat) en S', es[i]? = some en → en.n = k → BoxAt B S' p e g num (ch + 1) (es.set i ⟨k, en.ls, srtS fl, ch + 1⟩) gs → Upto [p, e] S S' → Q .non S') (x : (∀ en ∈ es, en.n ≠ k) → X Ne S) : wF (W_Box_set_flags B Ne [.ref p, .int k, .tup (fl.map .str)] S) Q X := by
  unfold W_Box_set_flags
  walk_at "wX"
  walk_at "w"
  refine w_obj h.ob ?_
  walk_at "w"
  refine place_w h k0 k1 (fun i en he hn => ?_) x
  walk_at "w"
  refine o_fld h.ob (z := 2) rfl ?_
  walk_at "w"
  refine o_ixL h.en (atI_nat (j := i) (by rw [List.getElem?_map, he]; rfl)) ?_
  unfold En.d
  walk_at "w"
  refine o_fld h.ob (z := 1) rfl ?_
  walk_at "w"
  obtain ⟨S1, e1, h1, u1⟩ := h.setCh (ch + 1)
  refine ⟨S1, e1, ?_⟩
  walk_at "w"
  refine o_sortSet hf ?_
  walk_at "w"
  refine o_tupL app_new ?_
  walk_at "w"
  have h2 := h1.app (x := .lst ((srtS fl).map .str))
  refine o_fld h2.ob (z := 1) rfl ?_
  walk_at "w"
  refine o_fld h2.ob (z := 2) rfl ?_
  walk_at "w"
  have hi : i < es.length := (List.getElem?_eq_some_iff.mp he).1
  have ed : (es.map En.d).set i (.tup [.int k, .tup (en.ls.map .str), .tup ((srtS fl).map .str), .int (ch + 1)]) = (es.set i (⟨k, en.ls, srtS fl, ch + 1⟩ : En)).map En.d := by
    rw [List.map_set]
    rfl
  refine ⟨_, by rw [dSetL_ref h2.en, ixN_nat (by rw [List.length_map]; exact hi)]; rfl, ?_⟩
  obtain ⟨h3, u3⟩ := h2.setEs ed
  exact q i en _ he hn h3 ((u1.w (by simp)).app.trans (u3.w (by simp)))
theorem map_erase {α β : Type} (f : α → β) : ∀ (l : List α) (i : Nat), (l.map f).eraseIdx i = (l.eraseIdx i).map f
  | [], _ => rfl
  | x :: l, 0 => rfl
  | x :: l, i + 1 => by
    show f x :: (l.map f).eraseIdx i = f x :: (l.eraseIdx i).map f
    rw [map_erase f l i]
theorem expunge_w {k : Int} (h : BoxAt B S p e g num ch es gs) (k0 : 0 ≤ k) (k1 : k < 200) (hl : es.length < 100000) (hg : gs.length < 100000) (q : ∀ (i : Nat) en S', es[i]? = some en → en.n = k → BoxAt B S' p e g num (ch + 1) (es.eraseIdx i) (gs ++ [(k, ch + 1)]) → Upto [p, e, g] S S' → Q .non S') (x : (∀ en ∈ es, en.n ≠ k) → X Ne S) : wF (W_Box_expunge B Ne [.ref p, .int k] S) Q X := by
  unfold W_Box_expunge
  walk_at "wX"
  walk_at "w"
  refine w_obj h.ob ?_
  walk_at "w"
  refine place_w h k0 k1 (fun i en he hn => ?_) x
  walk_at "w"
  refine o_fld h.ob (z := 1) rfl ?_
  walk_at "w"
  obtain ⟨S1, e1, h1, u1⟩ := h.setCh (ch + 1)
  refine ⟨S1, e1, ?_⟩
  walk_at "w"
  refine o_fld h1.ob (z := 2) rfl ?_
  refine bm_ref h1.en ?_
  walk_at "w"
  have hi : i < es.length := (List.getElem?_eq_some_iff.mp he).1
  have ed : (es.map En.d).eraseIdx i = (es.eraseIdx i).map En.d := map_erase _ _ _
  obtain ⟨h2, u2⟩ := h1.setEs ed
  refine o_popAt h1.en (by rw [List.length_map]; exact hi) (by rw [List.length_map]; omega) fun v _ => ?_
  walk_at "w"
  refine o_fld h2.ob (z := 3) rfl ?_
  refine bm_ref h2.gn ?_
  walk_at "w"
  refine o_fld h2.ob (z := 1) rfl ?_
  walk_at "w"
  refine o_append h2.gn (lt_line (by rw [List.length_map]; omega)) ?_
  have eg : gs.map goneD ++ [D.tup [.int k, .int (ch + 1)]] = (gs ++ [(k, ch + 1)]).map goneD := by
    rw [List.map_append]
    rfl
  obtain ⟨h3, u3⟩ := h2.setGs eg
  exact q i en _ he hn h3 (((u1.w (by simp)).trans (u2.w (by simp))).trans (u3.w (by simp)))
/-- the news after a mark -/
def nsE (es : List En) (mark : Int) : List En := es.filter fun e => decide (mark < e.ch)
def nsG (gs : List (Int × Int)) (mark : Int) : List (Int × Int) := gs.filter fun g => decide (mark < g.2)
def newsD (ch : Int) (es : List En) (gs : List (Int × Int)) (mark : Int) : D := .tup [.int ch, .tup ((nsE es mark).map En.d), .tup ((srtI ((nsG gs mark).map (·.1))).map .int)]
theorem news_w {mark : Int} (h : BoxAt B S p e g num ch es gs) (hl : es.length < 100000) (hg : gs.length < 100000) (q : ∀ S', Upto [] S S' → Q (newsD ch es gs mark) S') : wF (W_Box_news B Ne [.ref p, .int mark] S) Q X := by
  unfold W_Box_news
  walk_at "w0"
  walk_at "w"
  refine c_list En.d es (fun e => decide (mark < e.ch)) En.d ?_
  walk_at "w"
  refine o_fld h.ob (z := 2) rfl ?_
  refine i_list h.en ?_
  refine ⟨rfl, by omega, fun acc => ⟨h.en, app_old h.en⟩, fun en hen acc => ⟨_, rfl, ?_, fun _ => ?_⟩, ?_⟩
  · unfold En.d
    simp only [wipeA, List.set]
    walk_at "w"
    exact ⟨rfl, rfl⟩
  · simp only [wipeA, List.set]
    walk_at "w"
    exact ⟨rfl, rfl⟩
  walk_at "w"
  refine o_tupL app_new ?_
  have h1 := h.app (x := .lst ((es.filter fun e => decide (mark < e.ch)).map En.d))
  walk_at "w"
  refine c_list goneD gs (fun g => decide (mark < g.2)) (fun g => .int g.1) ?_
  walk_at "w"
  refine o_fld h1.ob (z := 3) rfl ?_
  refine i_list h1.gn ?_
  refine ⟨rfl, by omega, fun acc => ⟨h1.gn, app_old h1.gn⟩, fun gg hgg acc => ⟨_, rfl, ?_, fun _ => ?_⟩, ?_⟩
  · simp only [wipeA, List.set]
    walk_at "w"
    exact ⟨rfl, rfl⟩
  · simp only [wipeA, List.set]
    walk_at "w"
    exact ⟨rfl, rfl⟩
  have ei : (gs.filter fun g => decide (mark < g.2)).map (fun g => D.int g.1) = ((nsG gs mark).map (·.1)).map .int := by
    rw [List.map_map]
    rfl
  rw [ei]
  walk_at "w"
  refine o_srtI app_new ?_
  walk_at "w"
  refine o_tupL app_new ?_
  have h2 := (h1.app (x := .lst (((nsG gs mark).map (·.1)).map .int))).app (x := .lst ((srtI ((nsG gs mark).map (·.1))).map .int))
  walk_at "w"
  refine o_fld h2.ob (z := 1) rfl ?_
  walk_at "w"
  exact q _ ((Upto.refl _ _).app.app.app)
theorem to_value_w (h : BoxAt B S p e g num ch es gs) (q : Q (.tup [.int num, .int ch, .tup (es.map En.d), .tup (gs.map goneD)]) S) : wF (W_Box_to_value B Ne [.ref p] S) Q X := by
  unfold W_Box_to_value
  walk_at "w0"
  walk_at "w"
  refine o_fld h.ob (z := 0) rfl ?_
  walk_at "w"
  refine o_fld h.ob (z := 1) rfl ?_
  walk_at "w"
  refine o_fld h.ob (z := 2) rfl ?_
  walk_at "w"
  refine o_tupL h.en ?_
  walk_at "w"
  refine o_fld h.ob (z := 3) rfl ?_
  walk_at "w"
  refine o_tupL h.gn ?_
  walk_at "w"
theorem restore_w {e0 g0 : Nat} {num0 ch0 : Int} (h : BoxAt B S p e0 g0 num0 ch0 [] []) (q : ∀ S' e g, BoxAt B S' p e g num ch es gs → S.length ≤ e → S.length ≤ g → Upto [p] S S' → Q .non S') : wF (W_Box_restore B Ne [.ref p, .tup [.int num, .int ch, .tup (es.map En.d), .tup (gs.map goneD)]] S) Q X := by
  unfold W_Box_restore
  walk_at "w0"
  walk_at "w"
  obtain ⟨S1, e1, h1, u1⟩ := h.setNum num
  refine ⟨S1, e1, ?_⟩
  walk_at "w"
  obtain ⟨S2, e2, h2, u2⟩ := h1.setCh ch
  refine ⟨S2, e2, ?_⟩
  walk_at "w"
  refine o_listOf rfl ?_
  walk_at "w"
  have h3 := app_old (o := .lst (es.map En.d)) h2.ob
  refine ⟨_, dFldSet_ref h3 (Nat.le_of_ble_eq_true rfl), ?_⟩
  have h4 := set_at (o := .obj B ([D.int num, .int ch, .ref e0, .ref g0].set 2 (.ref S2.length))) h3
  walk_at "w"
  refine o_listOf rfl ?_
  walk_at "w"
  have h5 := app_old (o := .lst (gs.map goneD)) h4
  refine ⟨_, dFldSet_ref h5 (Nat.le_of_ble_eq_true rfl), ?_⟩
  have hp := app_lt h.ob
  have l1 := u1.len
  have l2 := u2.len
  have s0 : p ∈ [p] ∨ S.length ≤ p := .inl (by simp)
  refine q _ S2.length (S2.length + 1) ⟨?_, ?_, ?_, ?_⟩ ?_ ?_ ?_
  · rw [set_at h5]
    simp only [List.set, List.length_set, List.length_append, List.length_cons, List.length_nil]
  · rw [set_off (by omega)]
    refine app_old ?_
    rw [set_off (by omega)]
    exact app_new
  · rw [set_off (by omega)]
    have : S2.length + 1 = ((S2 ++ [O.lst (es.map En.d)]).set p (.obj B ([D.int num, .int ch, .ref e0, .ref g0].set 2 (.ref S2.length)))).length := by
      simp only [List.length_set, List.length_append, List.length_cons, List.length_nil]
    rw [this]
    exact app_new
  · omega
  · omega
  · omega
  · exact (((u1.trans u2).app.set s0).app.set s0)
theorem box_of_w (q : ∀ S' p e g, BoxAt B S' p e g num ch es gs → S.length ≤ p → S.length ≤ e → S.length ≤ g → Upto [] S S' → Q (.ref p) S') : wF (W_box_of B Ne [.tup [.int num, .int ch, .tup (es.map En.d), .tup (gs.map goneD)]] S) Q X := by
  unfold W_box_of
  walk_at "w0"
  refine w_seq ?_
  refine w_s1 ?_
  refine make_w fun S1 e g h he hg u => ?_
  walk_at "w"
  refine w_obj h.ob ?_
  walk_at "w"
  refine restore_w h fun S2 e2 g2 h2 he2 hg2 u2 => ?_
  walk_at "w"
  have := u.len
  refine q S2 _ e2 g2 h2 (Nat.le_refl _) (by omega) (by omega) ⟨Nat.le_trans u.len u2.len, fun m _ hm => (u2.eq m (by simp only [List.mem_singleton]; omega) (by omega)).trans (u.eq m (by simp) hm)⟩
/-! what the model does -/
def Dst (es : List En) : Prop := (es.map (·.n)).Nodup
theorem Dst.tail {x : En} {es : List En} (h : Dst (x :: es)) : Dst es ∧ ∀ y ∈ es, y.n ≠ x.n := by
  obtain ⟨a, b⟩ := List.nodup_cons.mp h
  exact ⟨b, fun y hy z => a (List.mem_map.mpr ⟨y, hy, z⟩)⟩
theorem dst_set {k : Int} (F : En → En) : ∀ {es : List En} {i : Nat} {en : En}, Dst es → es[i]? = some en → en.n = k → es.set i (F en) = es.map fun x => if x.n = k then F x else x
  | x :: es, 0, en, h, e, hn => by
    simp at e
    subst e
    obtain ⟨a, b⟩ := h.tail
    rw [List.map_cons, if_pos hn, List.set_cons_zero]
    congr 1
    symm
    have : es.map (fun x => if x.n = k then F x else x) = es.map id := List.map_congr_left fun y hy => if_neg fun z => b y hy (z.trans hn.symm)
    rw [this, List.map_id]
  | x :: es, i + 1, en, h, e, hn => by
    rw [List.getElem?_cons_succ] at e
    obtain ⟨a, b⟩ := h.tail
    rw [List.map_cons, List.set_cons_succ, dst_set F a e hn, if_neg fun z => b en (List.mem_of_getElem? e) (hn.trans z.symm)]
theorem dst_erase {k : Int} : ∀ {es : List En} {i : Nat} {en : En}, Dst es → es[i]? = some en → en.n = k → es.eraseIdx i = es.filter fun x => !decide (x.n = k)
  | x :: es, 0, en, h, e, hn => by
    simp at e
    subst e
    obtain ⟨a, b⟩ := h.tail
    rw [List.filter_cons, if_neg (by simp [hn])]
    symm
    exact List.filter_eq_self.mpr fun y hy => by simp; exact fun z => b y hy (z.trans hn.symm)
  | x :: es, i + 1, en, h, e, hn => by
    rw [List.getElem?_cons_succ] at e
    obtain ⟨a, b⟩ := h.tail
    rw [List.filter_cons, if_pos (by simp; exact fun z => b en (List.mem_of_getElem? e) (hn.trans z.symm))]
    show x :: es.eraseIdx i = _
    rw [dst_erase a e hn]
theorem dst_one {k : Int} : ∀ {es : List En}, Dst es → (es.filter fun x => decide (x.n = k)).length ≤ 1
  | [], _ => Nat.zero_le _
  | x :: es, h => by
    obtain ⟨a, b⟩ := h.tail
    rw [List.filter_cons]
    split
    · rename_i c
      have c := of_decide_eq_true c
      have : es.filter (fun x => decide (x.n = k)) = [] := List.filter_eq_nil_iff.mpr fun y hy => by simp; exact fun z => b y hy (z.trans c.symm)
      rw [this]
      exact Nat.le_refl _
    · exact dst_one a
theorem dst_map {F : En → En} (hF : ∀ x : En, (F x).n = x.n) {es : List En} (h : Dst es) : Dst (es.map F) := by
  unfold Dst at *
  rw [List.map_map, show (·.n) ∘ F = (·.n) from funext hF]
  exact h
theorem dst_filter {f : En → Bool} {es : List En} (h : Dst es) : Dst (es.filter f) := List.Nodup.sublist (List.Sublist.map _ List.filter_sublist) h
theorem dst_snoc {x : En} {es : List En} (h : Dst es) (g : ∀ y ∈ es, y.n ≠ x.n) : Dst (es ++ [x]) := by
  unfold Dst at *
  rw [List.map_append, List.nodup_append]
  refine ⟨h, by simp, fun a ha b hb z => ?_⟩
  obtain ⟨y, hy, e⟩ := List.mem_map.mp ha
  simp at hb
  exact g y hy (by rw [e, z, hb])
end
section
variable {S : Sto} {n : Nat} {d y : D} {k : Key} {kvs : List (Key × D)} {Q : QA} {X : XA} {σ : Sl}
/-! ### reckoning with dicts -/
theorem dictAt_ref (e : S[n]? = some (.dK kvs)) : dictAt S (.ref n) = some (n, kvs) := by
  unfold dictAt
  simp only [e]
theorem o_getK (e : S[n]? = some (.dK kvs)) (ek : kOf y = some k) (ev : valD kvs k = some d) (h : Q d S) : wO (dGetK (.ref n) y S) Q := by
  unfold dGetK
  simp only [dictAt_ref e, Option.bind_some, ek, ev, Option.map_some]
  exact h
theorem dSetK_ref (e : S[n]? = some (.dK kvs)) (ek : kOf y = some k) (hl : kvs.length < sizeLine) : dSetK (.ref n) y d S = some (S.set n (.dK (putD kvs k d))) := by
  unfold dSetK
  simp only [dictAt_ref e, Option.bind_some, ek]
  rw [if_pos hl]
theorem o_sortDI {ns : List Int} (e : S[n]? = some (.dK kvs)) (ek : keysI kvs = some ns) (hl : ns.length < 64) (h : Q (.ref S.length) (S ++ [.lst ((srtI ns).map .int)])) : wO (dSortDI (.ref n) S) Q := by
  unfold dSortDI
  simp only [dictAt_ref e, Option.bind_some, ek]
  rw [gd_ok hl]
  exact h
theorem len_putD (kvs : List (Key × D)) (k : Key) (v : D) : (putD kvs k v).length ≤ kvs.length + 1 := by
  unfold putD
  split
  · rw [List.length_map]
    exact Nat.le_succ _
  · rw [List.length_append]
    exact Nat.le_refl _
/-- a comprehension that makes a dict and only reads -/
theorem c_dict {α : Type} {mi : M Src} {t : CTg} {vs : List Nat} {tt : M Bool} {tk te : M D} (f : α → D) (xs : List α) (keep : α → Bool) (kx : α → Key) (fx : α → D)
    (h : wI mi σ S (fun src S0 => src.items = xs.map f ∧ xs.length ≤ 1000000 ∧ (∀ kvs, src.gd S0 ∧ src.gd (S0 ++ [.dK kvs])) ∧
      (∀ x ∈ xs, ∀ kvs, ∃ σ2, cgs t (f x) (wipeA σ vs) = some σ2 ∧ wB tt σ2 (S0 ++ [.dK kvs]) (fun b S1 => b = keep x ∧ S1 = S0 ++ [.dK kvs]) noX ∧
        (keep x = true → wE tk σ2 (S0 ++ [.dK kvs]) (fun y S1 => kOf y = some (kx x) ∧ S1 = S0 ++ [.dK kvs]) noX ∧ wE te σ2 (S0 ++ [.dK kvs]) (fun y S1 => y = fx x ∧ S1 = S0 ++ [.dK kvs]) noX)) ∧
      Q (.ref S0.length) (S0 ++ [.dK ((xs.filter keep).foldl (fun acc x => putD acc (kx x) (fx x)) [])])) X) : wE (eDc mi t vs tt tk te) σ S Q X := by
  unfold wI at h
  unfold wE eDc
  cases e : mi σ S with
  | ex C S1 => rw [e] at h; exact h
  | bad => rw [e] at h; exact h
  | ok src S0 =>
    rw [e] at h
    obtain ⟨hi, hl, hg, hs, q⟩ := h
    simp only
    rw [if_pos (hg [])]
    have key : ∀ (l : List α) (kvs : List (Key × D)), (∀ x ∈ l, x ∈ xs) → kvs.length + l.length ≤ 1000000 →
        dcA src.gd t vs tt tk te S0.length σ (l.map f) (S0 ++ [.dK kvs]) = some (S0 ++ [.dK ((l.filter keep).foldl (fun acc x => putD acc (kx x) (fx x)) kvs)]) := by
      intro l
      induction l with
      | nil => intro kvs _ _; rfl
      | cons x l ih =>
        intro kvs hx hn
        rw [List.length_cons] at hn
        obtain ⟨σ2, e2, hb, hke⟩ := hs x (hx x (.head _)) kvs
        rw [List.map_cons, dcA, e2]
        simp only
        unfold wB at hb
        cases eb : tt σ2 (S0 ++ [.dK kvs]) with
        | ex C S2 => rw [eb] at hb; exact hb.elim
        | bad => rw [eb] at hb; exact hb.elim
        | ok b S2 =>
          rw [eb] at hb
          obtain ⟨rfl, rfl⟩ := hb
          cases hk : keep x with
          | false =>
            simp only
            rw [if_pos (hg kvs).2, ih kvs (fun z hz => hx z (.tail _ hz)) (by omega), List.filter_cons, if_neg (by rw [hk]; exact Bool.false_ne_true)]
          | true =>
            obtain ⟨h1, h2⟩ := hke hk
            obtain ⟨y, S3, e3, ky, rfl⟩ := wF_to (show wF (tk σ2 _) _ noX from h1)
            obtain ⟨z, S4, e4, rfl, rfl⟩ := wF_to (show wF (te σ2 _) _ noX from h2)
            have hset : (S0 ++ [O.dK kvs]).set S0.length (.dK (putD kvs (kx x) (fx x))) = S0 ++ [.dK (putD kvs (kx x) (fx x))] := by
              rw [List.set_append_right _ _ (Nat.le_refl _), Nat.sub_self]
              rfl
            have hp := len_putD kvs (kx x) (fx x)
            simp only [e3, e4, app_new, ky, hset]
            rw [if_pos ⟨lt_line (by omega), by rw [hset]; exact (hg _).2⟩, ih _ (fun z hz => hx z (.tail _ hz)) (by omega), List.filter_cons, if_pos hk]
            rfl
    rw [hi, key xs [] (fun _ h => h) (by simpa using hl)]
    exact q
end
/-! ### dicts of entries -/
def edict (l : List En) : List (Key × D) := l.map fun x => (Sum.inl x.n, x.d)
def putE (l : List En) (y : En) : List En := if (l.any fun x => decide (x.n = y.n)) = true then l.map (fun x => if x.n = y.n then y else x) else l ++ [y]
theorem put_edict (l : List En) (y : En) : putD (edict l) (.inl y.n) y.d = edict (putE l y) := by
  unfold putD putE edict
  have e : ((l.map fun x => ((Sum.inl x.n : Key), x.d)).any fun kv => decide (kv.1 = Sum.inl y.n)) = l.any fun x => decide (x.n = y.n) := by
    rw [List.any_map]
    congr 1
    funext x
    simp
  rw [e]
  split
  · rw [List.map_map, List.map_map]
    refine List.map_congr_left fun x _ => ?_
    simp only [Function.comp]
    by_cases c : x.n = y.n
    · rw [if_pos (by rw [c]), if_pos c, c]
    · rw [if_neg (by simpa using c), if_neg c]
  · rw [List.map_append]
    rfl
theorem fold_edict (ys : List En) : ∀ l : List En, ys.foldl (fun acc x => putD acc (.inl x.n) x.d) (edict l) = edict (ys.foldl putE l) := by
  induction ys with
  | nil => intro l; rfl
  | cons y ys ih =>
    intro l
    rw [List.foldl_cons, List.foldl_cons, put_edict, ih]
theorem mem_putE {l : List En} {y z : En} : z ∈ putE l y ↔ z = y ∨ (z ∈ l ∧ z.n ≠ y.n) := by
  unfold putE
  split
  · rename_i c
    obtain ⟨x0, h0, c0⟩ := List.any_eq_true.mp c
    have c0 := of_decide_eq_true c0
    constructor
    · intro h
      obtain ⟨x, hx, e⟩ := List.mem_map.mp h
      by_cases cx : x.n = y.n
      · rw [if_pos cx] at e
        exact .inl e.symm
      · rw [if_neg cx] at e
        subst e
        exact .inr ⟨hx, cx⟩
    · rintro (h | ⟨h, n⟩)
      · exact List.mem_map.mpr ⟨x0, h0, by rw [if_pos c0, h]⟩
      · exact List.mem_map.mpr ⟨z, h, if_neg n⟩
  · rename_i c
    have no : ∀ x ∈ l, x.n ≠ y.n := fun x hx e => c (List.any_eq_true.mpr ⟨x, hx, decide_eq_true e⟩)
    rw [List.mem_append, List.mem_singleton]
    constructor
    · rintro (h | h)
      · exact .inr ⟨h, no z h⟩
      · exact .inl h
    · rintro (h | ⟨h, _⟩)
      · exact .inr h
      · exact .inl h
theorem dst_putE {l : List En} {y : En} (h : Dst l) : Dst (putE l y) := by
  unfold putE
  split
  · refine dst_map (F := fun x => if x.n = y.n then y else x) (fun x => ?_) h
    split
    · rename_i c
      exact c.symm
    · rfl
  · rename_i c
    exact dst_snoc h fun x hx e => c (List.any_eq_true.mpr ⟨x, hx, decide_eq_true e⟩)
theorem dst_fold (ys : List En) : ∀ {l : List En}, Dst l → Dst (ys.foldl putE l) := by
  induction ys with
  | nil => intro l h; exact h
  | cons y ys ih => intro l h; exact ih (dst_putE h)
theorem mem_fold : ∀ {ys l : List En} {z : En}, Dst ys → (z ∈ ys.foldl putE l ↔ z ∈ ys ∨ (z ∈ l ∧ ∀ y ∈ ys, z.n ≠ y.n))
  | [], l, z, _ => by simp
  | y :: ys, l, z, h => by
    obtain ⟨a, b⟩ := h.tail
    rw [List.foldl_cons, mem_fold a, mem_putE]
    constructor
    · rintro (h | ⟨h | ⟨h, n⟩, g⟩)
      · exact .inl (.tail _ h)
      · exact .inl (h ▸ .head _)
      · refine .inr ⟨h, fun x hx => ?_⟩
        rcases List.mem_cons.mp hx with e | hx
        · exact e ▸ n
        · exact g x hx
    · rintro (h | ⟨h, g⟩)
      · rcases List.mem_cons.mp h with e | h
        · subst e
          exact .inr ⟨.inl rfl, fun x hx e => b x hx e.symm⟩
        · exact .inl h
      · exact .inr ⟨.inr ⟨h, g y (.head _)⟩, fun x hx => g x (.tail _ hx)⟩
theorem len_putE (l : List En) (y : En) : (putE l y).length ≤ l.length + 1 := by
  unfold putE
  split
  · rw [List.length_map]
    exact Nat.le_succ _
  · rw [List.length_append]
    exact Nat.le_refl _
theorem len_fold : ∀ (ys l : List En), (ys.foldl putE l).length ≤ l.length + ys.length
  | [], l => Nat.le_refl _
  | y :: ys, l => by
    rw [List.foldl_cons, List.length_cons]
    have := len_fold ys (putE l y)
    have := len_putE l y
    omega
theorem dst_eq {l : List En} (h : Dst l) {x y : En} (hx : x ∈ l) (hy : y ∈ l) (e : x.n = y.n) : x = y := by
  induction l with
  | nil => nomatch hx
  | cons z l ih =>
    obtain ⟨a, b⟩ := h.tail
    rcases List.mem_cons.mp hx with ex | hx
    · rcases List.mem_cons.mp hy with ey | hy
      · rw [ex, ey]
      · exact absurd (e.symm.trans (by rw [ex])) (b y hy)
    · rcases List.mem_cons.mp hy with ey | hy
      · exact absurd (e.trans (by rw [ey])) (b x hx)
      · exact ih a hx hy
theorem val_edict {l : List En} (h : Dst l) {x : En} (hx : x ∈ l) : valD (edict l) (.inl x.n) = some x.d := by
  induction l with
  | nil => nomatch hx
  | cons z l ih =>
    obtain ⟨a, b⟩ := h.tail
    show (((Sum.inl z.n, z.d) :: edict l).find? _).map _ = _
    rw [List.find?_cons]
    by_cases c : z.n = x.n
    · have e : z = x := dst_eq h (.head _) hx c
      subst e
      simp
    · rcases List.mem_cons.mp hx with e | hx
      · exact absurd (by rw [e]) c
      · have : decide ((Sum.inl z.n : Key) = Sum.inl x.n) = false := decide_eq_false fun k => c (Sum.inl.inj k)
        simp only [this]
        exact ih a hx
theorem keys_edict : ∀ l : List En, keysI (edict l) = some (l.map (·.n))
  | [] => rfl
  | x :: l => by
    show (keysI (edict l)).map _ = _
    rw [keys_edict l]
    rfl
theorem incI_one : ∀ {l m : List Int}, l.Pairwise (· < ·) → m.Pairwise (· < ·) → (∀ z, z ∈ l ↔ z ∈ m) → l = m
  | [], [], _, _, _ => rfl
  | [], y :: m, _, _, h => nomatch (h y).mpr (.head _)
  | x :: l, [], _, _, h => nomatch (h x).mp (.head _)
  | x :: l, y :: m, a, b, h => by
    obtain ⟨a1, a2⟩ := List.pairwise_cons.mp a
    obtain ⟨b1, b2⟩ := List.pairwise_cons.mp b
    have e : x = y := by
      rcases List.mem_cons.mp ((h x).mp (.head _)) with e | hx
      · exact e
      · rcases List.mem_cons.mp ((h y).mpr (.head _)) with e | hy
        · exact e.symm
        · have := a1 y hy
          have := b1 x hx
          omega
    subst e
    rw [incI_one a2 b2 fun z => ⟨fun hz => ?_, fun hz => ?_⟩]
    · rcases List.mem_cons.mp ((h z).mp (.tail _ hz)) with e | hm
      · have := a1 z hz
        omega
      · exact hm
    · rcases List.mem_cons.mp ((h z).mpr (.tail _ hz)) with e | hm
      · have := b1 z hz
        omega
      · exact hm
/-- numbers rise -/
def IncE (es : List En) : Prop := (es.map (·.n)).Pairwise (· < ·)
theorem IncE.dst {es : List En} (h : IncE es) : Dst es := h.imp fun a b => by omega
theorem srt_edict {l es : List En} (h : Dst l) (i : IncE es) (m : ∀ z, z ∈ l ↔ z ∈ es) : srtI (l.map (·.n)) = es.map (·.n) := by
  refine incI_one ?_ i fun z => ?_
  · have p := srtI_perm (l.map (·.n))
    have n := p.nodup_iff.mpr h
    have nd : (srtI (l.map (·.n))).Pairwise (· ≠ ·) := n
    exact ((srtI_le (l.map (·.n))).and nd).imp fun q => Int.lt_iff_le_and_ne.mpr q
  · rw [(srtI_perm _).mem_iff, List.mem_map, List.mem_map]
    exact ⟨fun ⟨x, a, b⟩ => ⟨x, (m x).mp a, b⟩, fun ⟨x, a, b⟩ => ⟨x, (m x).mpr a, b⟩⟩
/-! ### the class Copy -/
noncomputable def W_Copy_init (C : Addr) : Fn := fn0 1 1
    (cSeq (cFld C 0 (eV 0) (eC (.int 0)))
    (cFld C 1 (eV 0) (eLst aNil)))
noncomputable def W_Copy_update (C : Addr) : Fn := fn0 2 8
    (cSeq (cAsg (eV 1) (tgTup (tgCons (tgName 2) (tgCons (tgName 3) (tgCons (tgName 4) tgNil)))))
    (cSeq (cSet 6 (eDc (eBind (e1 (dFld C 1) (eV 0)) sList) (.one 5) [5] (eT (e2 (dIn true) (e2 dIxT (eV 5) (eC (.int 0))) (eV 4))) (e2 dIxT (eV 5) (eC (.int 0))) (eV 5)))
    (cSeq (cFor (eBind (eV 3) sTup) (tgName 5) (cAsg (eV 5) (tgSub (eV 6) (e2 dIxT (eV 5) (eC (.int 0))) dSetK)))
    (cSeq (cFld C 1 (eV 0) (eLc (eBind (eN (f1 dSortDI) (aCons (eV 6) aNil)) sList) (.one 7) [7] bYes (e2 dGetK (eV 6) (eV 7))))
    (cFld C 0 (eV 0) (eV 2))))))
structure CopyAt (C : Addr) (S : Sto) (q r : Nat) (mark : Int) (es : List En) : Prop where
  ob : S[q]? = some (.obj C [.int mark, .ref r])
  en : S[r]? = some (.lst (es.map En.d))
theorem vsOf_ints : ∀ ns : List Int, vsOf (ns.map .int) = some (ns.map V.int)
  | [] => rfl
  | x :: xs => by
    show (vOf (.int x)).bind _ = _
    rw [show vOf (.int x) = some (V.int x) from rfl, Option.bind_some, vsOf_ints xs]
    rfl
theorem inV_ints (z : Int) : ∀ ns : List Int, inV (.int z) (ns.map V.int) = decide (z ∈ ns)
  | [] => by simp [inV]
  | x :: xs => by
    have h := inV_ints z xs
    unfold inV at h ⊢
    rw [List.map_cons, List.any_cons, h]
    by_cases c : z = x
    · subst c
      simp [eqV]
    · simp [c, Ne.symm c, eqV]
theorem o_notinI {S : Sto} {Q : QA} {z : Int} {ns : List Int} (h : Q (.bl (!decide (z ∈ ns))) S) : wO (dIn true (.int z) (.tup (ns.map .int)) S) Q := by
  unfold dIn
  rw [show vOf (.int z) = some (V.int z) from rfl, Option.bind_some, show seqOf (.tup (ns.map .int)) S = some (ns.map .int) from rfl, Option.bind_some, vsOf_ints]
  show Q (.bl (!inV (.int z) (ns.map V.int))) S
  rw [inV_ints]
  exact h
section
variable {C : Addr} {S S' : Sto} {q r : Nat} {mark ch m : Int} {es es0 : List En} {gs : List (Int × Int)} {Q : QA} {X : XA} {o : List Nat}
theorem CopyAt.up (h : CopyAt C S q r mark es) (u : Upto o S S') (n : q ∉ o ∧ r ∉ o) : CopyAt C S' q r mark es := ⟨u.get n.1 h.ob, u.get n.2 h.en⟩
/-- what a copy of a former box knows of the box -/
structure Fits (es0 : List En) (m : Int) (es : List En) (gs : List (Int × Int)) : Prop where
  old : ∀ e ∈ es, e.ch ≤ m → e ∈ es0
  gone : ∀ e ∈ es0, (∃ f ∈ es, f.n = e.n) ∨ ∃ g ∈ gs, g.1 = e.n ∧ m < g.2
  no : ∀ g ∈ gs, ∀ e ∈ es, g.1 ≠ e.n
theorem update_w (h : CopyAt C S q r mark es0) (f : Fits es0 m es gs) (i : IncE es) (i0 : IncE es0) (l0 : es0.length < 50) (l1 : es.length < 50) (k : ∀ S' r', CopyAt C S' q r' ch es → S.length ≤ r' → Upto [q] S S' → Q .non S') : wF (W_Copy_update C [.ref q, newsD ch es gs m] S) Q X := by
  unfold W_Copy_update newsD
  walk_at "w0"
  walk_at "w"
  refine c_dict En.d es0 (fun x => !decide (x.n ∈ srtI ((nsG gs m).map (·.1)))) (fun x => .inl x.n) En.d ?_
  walk_at "w"
  refine o_fld h.ob (z := 1) rfl ?_
  refine i_list h.en ?_
  refine ⟨rfl, by omega, fun kvs => ⟨h.en, app_old h.en⟩, fun x hx kvs => ⟨_, rfl, ?_, fun _ => ⟨?_, ?_⟩⟩, ?_⟩
  · unfold En.d
    simp only [wipeA, List.set]
    walk_at "w"
    refine o_notinI ?_
    exact ⟨rfl, rfl⟩
  · unfold En.d
    simp only [wipeA, List.set]
    walk_at "w"
    exact ⟨rfl, rfl⟩
  · simp only [wipeA, List.set]
    walk_at "w"
    exact ⟨rfl, rfl⟩
  rw [show ([] : List (Key × D)) = edict [] from rfl, fold_edict]
  have L0 : Dst ((es0.filter fun x => !decide (x.n ∈ srtI ((nsG gs m).map (·.1)))).foldl putE []) := dst_fold _ List.nodup_nil
  have M0 : ∀ z, z ∈ ((es0.filter fun x => !decide (x.n ∈ srtI ((nsG gs m).map (·.1)))).foldl putE []) ↔ z ∈ es0 ∧ z.n ∉ srtI ((nsG gs m).map (·.1)) := fun z => by
    rw [mem_fold (dst_filter i0.dst), List.mem_filter]
    simp
  have N0 : ((es0.filter fun x => !decide (x.n ∈ srtI ((nsG gs m).map (·.1)))).foldl putE []).length ≤ es0.length := Nat.le_trans (len_fold _ _) (by
    rw [List.length_nil, Nat.zero_add]
    exact List.length_filter_le _ _)
  generalize ((es0.filter fun x => !decide (x.n ∈ srtI ((nsG gs m).map (·.1)))).foldl putE []) = L at L0 M0 N0 ⊢
  have a1 : (S ++ [O.dK (edict L)])[S.length]? = some (.dK (edict L)) := app_new
  have u1 : Upto [] S (S ++ [O.dK (edict L)]) := (Upto.refl _ _).app
  have n1 : (S ++ [O.dK (edict L)]).length = S.length + 1 := by rw [List.length_append]; rfl
  generalize S ++ [O.dK (edict L)] = S1 at a1 u1 n1 ⊢
  refine w_seq ?_
  walk_at "w"
  refine ⟨trivial, w_loop (k := 0) (P := fun i σ S2 => Upto [S.length] S1 S2 ∧ S2[S.length]? = some (.dK (edict (((nsE es m).take i).foldl putE L))) ∧ ∃ x, σ = [some (.ref q), some (.tup [.int ch, .tup ((nsE es m).map En.d), .tup ((srtI ((nsG gs m).map (·.1))).map .int)]), some (.int ch), some (.tup ((nsE es m).map En.d)), some (.tup ((srtI ((nsG gs m).map (·.1))).map .int)), x, some (.ref S.length), none]) ⟨.refl _ _, by rw [List.take_zero]; exact a1, _, rfl⟩ (fun i d σ S2 hi hP => ?_) (fun σ S2 hP => ?_)⟩
  · obtain ⟨u2, a2, x, rfl⟩ := hP
    rw [List.getElem?_map] at hi
    cases hx : (nsE es m)[i]? with
    | none => rw [hx] at hi; cases hi
    | some e =>
      rw [hx] at hi
      cases hi
      simp only [Nat.zero_add] at a2 ⊢
      unfold En.d
      walk_at "w"
      have hlen : (edict (((nsE es m).take i).foldl putE L)).length < sizeLine := by
        have h1 := len_fold ((nsE es m).take i) L
        have h2 : ((nsE es m).take i).length ≤ es.length := by
          rw [List.length_take]
          have := List.length_filter_le (fun e : En => decide (m < e.ch)) es
          have h3 : (nsE es m).length ≤ es.length := this
          omega
        unfold edict
        rw [List.length_map]
        exact lt_line (by omega)
      refine ⟨_, dSetK_ref a2 rfl hlen, ⟨trivial, u2.set (.inl (by simp)), ?_, _, rfl⟩⟩
      rw [set_at a2, show D.tup [.int e.n, .tup (e.ls.map .str), .tup (e.fl.map .str), .int e.ch] = e.d from rfl, put_edict, List.take_add_one, hx, List.foldl_append]
      rfl
  · obtain ⟨u2, a2, x, rfl⟩ := hP
    have et : (nsE es m).take (0 + (List.map En.d (nsE es m)).length) = nsE es m := by
      rw [Nat.zero_add, List.length_map, List.take_length]
    have a2 : S2[S.length]? = some (.dK (edict ((nsE es m).foldl putE L))) := by
      have a3 := a2
      simp only [et] at a3
      exact a3
    have D2 : Dst ((nsE es m).foldl putE L) := dst_fold _ L0
    have M2 : ∀ z, z ∈ (nsE es m).foldl putE L ↔ z ∈ es := fun z => by
      rw [mem_fold (show Dst (nsE es m) from dst_filter i.dst), M0]
      constructor
      · rintro (h | ⟨⟨h, g⟩, w⟩)
        · exact (List.mem_filter.mp h).1
        · rcases f.gone z h with ⟨x, hx, ex⟩ | ⟨g0, hg, eg, lg⟩
          · by_cases c : m < x.ch
            · exact absurd ex.symm (w x (List.mem_filter.mpr ⟨hx, decide_eq_true c⟩))
            · have := f.old x hx (by omega)
              rw [← dst_eq i0.dst this h ex]
              exact hx
          · refine absurd ?_ g
            rw [(srtI_perm _).mem_iff]
            exact List.mem_map.mpr ⟨g0, List.mem_filter.mpr ⟨hg, decide_eq_true lg⟩, eg⟩
      · intro hz
        by_cases c : m < z.ch
        · exact .inl (List.mem_filter.mpr ⟨hz, decide_eq_true c⟩)
        · refine .inr ⟨⟨f.old z hz (by omega), fun hg => ?_⟩, fun y hy e => ?_⟩
          · rw [(srtI_perm _).mem_iff] at hg
            obtain ⟨g0, hg0, eg⟩ := List.mem_map.mp hg
            exact f.no g0 (List.mem_filter.mp hg0).1 z hz eg
          · obtain ⟨hy1, hy2⟩ := List.mem_filter.mp hy
            have := dst_eq i.dst hz hy1 e
            subst this
            exact c (of_decide_eq_true hy2)
    have K2 : srtI (((nsE es m).foldl putE L).map (·.n)) = es.map (·.n) := srt_edict D2 i M2
    have len2 : (((nsE es m).foldl putE L).map (·.n)).length < 64 := by
      have p := (srtI_perm (((nsE es m).foldl putE L).map (·.n))).length_eq
      rw [K2, List.length_map] at p
      omega
    walk_at "w"
    refine c_list (fun x : En => .int x.n) es (fun _ => true) En.d ?_
    walk_at "w"
    refine o_sortDI a2 (keys_edict _) len2 ?_
    rw [K2]
    have a4 : (S2 ++ [O.lst ((es.map (·.n)).map .int)])[S.length]? = some (.dK (edict ((nsE es m).foldl putE L))) := app_old a2
    have u4 : Upto [S.length] S1 (S2 ++ [O.lst ((es.map (·.n)).map .int)]) := u2.app
    have a5 : (S2 ++ [O.lst ((es.map (·.n)).map .int)])[S2.length]? = some (.lst ((es.map (·.n)).map .int)) := app_new
    generalize S2 ++ [O.lst ((es.map (·.n)).map .int)] = S4 at a4 u4 a5 ⊢
    walk_at "w"
    refine i_list a5 ?_
    refine ⟨by rw [List.map_map]; rfl, by omega, fun acc => ⟨a5, app_old a5⟩, fun y hy acc => ⟨_, rfl, ?_, fun _ => ?_⟩, ?_⟩
    · simp only [wipeA, List.set]
      walk_at "w"
      exact ⟨rfl, rfl⟩
    · simp only [wipeA, List.set]
      walk_at "w"
      refine o_getK (app_old a4) rfl (val_edict D2 ((M2 y).mpr hy)) ?_
      exact ⟨rfl, rfl⟩
    rw [List.filter_eq_self.mpr fun _ _ => rfl]
    have l4 := u4.len
    have hq := app_lt h.ob
    have b4 : S4[q]? = some (.obj C [.int mark, .ref r]) := u4.get (by simp; omega) (u1.get0 h.ob)
    have b5 : (S4 ++ [O.lst (es.map En.d)])[q]? = some (.obj C [.int mark, .ref r]) := app_old b4
    walk_at "w"
    refine ⟨_, dFldSet_ref b5 (Nat.le_of_ble_eq_true rfl), ?_⟩
    have b6 := set_at (o := .obj C ([D.int mark, .ref r].set 1 (.ref S4.length))) b5
    walk_at "w"
    refine ⟨_, dFldSet_ref b6 (Nat.le_of_ble_eq_true rfl), ?_⟩
    refine k _ S4.length ⟨set_at b6, ?_⟩ (by omega) ?_
    · rw [set_off (by omega), set_off (by omega)]
      exact app_new
    · have v : Upto [q] S S4 := ⟨by omega, fun x hx hl => (u4.eq x (by simp; omega) (by omega)).trans (u1.eq x (by simp) hl)⟩
      exact (v.app.set (.inl (by simp))).set (.inl (by simp))
theorem cinit_w (h : S[q]? = some (.obj C [])) (k : ∀ S' r, CopyAt C S' q r 0 [] → S.length ≤ r → Upto [q] S S' → Q .non S') : wF (W_Copy_init C [.ref q] S) Q X := by
  unfold W_Copy_init
  walk_at "w0"
  walk_at "w"
  refine ⟨_, dFldSet_new (ds := []) h, ?_⟩
  have h1 := set_at (o := .obj C ([] ++ [.int 0])) h
  walk_at "w"
  have h2 := app_old (o := .lst []) h1
  refine ⟨_, dFldSet_new (ds := [.int 0]) h2, ?_⟩
  have hq := app_lt h
  refine k _ _ ⟨set_at h2, ?_⟩ ?_ ?_
  · rw [set_off (by simp only [List.length_set]; omega)]
    exact app_new
  · simp only [List.length_set]
    omega
  · exact (((Upto.refl _ _).set (.inl (by simp))).app.set (.inl (by simp)))
theorem cmake_w {Q2 : Sto → Prop} (k : ∀ S' r, CopyAt C S' S.length r 0 [] → S.length ≤ r → Upto [] S S' → Q2 S') : wF (W_Copy_init C [.ref S.length] (S ++ [.obj C []])) (fun v S2 => v = .non ∧ Q2 S2) X := by
  refine cinit_w app_new fun S' r hb hr u => ⟨rfl, k S' r hb (by rw [List.length_append] at hr; omega) ?_⟩
  exact ⟨by have := u.len; rw [List.length_append] at this; omega, fun m _ hm => (u.eq m (by simp only [List.mem_singleton]; omega) (by rw [List.length_append]; omega)).trans (List.getElem?_append_left hm)⟩
end
def okE (x : En) : Prop := (∀ y ∈ x.ls, Asc y) ∧ ∀ y ∈ x.fl, Asc y
def En.py2 (e : En) : PyData := .tuple [.int e.n, .tuple (e.ls.map .str), .tuple (e.fl.map .str), .int e.ch]
structure Bx (num ch : Int) (es : List En) (gs : List (Int × Int)) : Prop where
  n0 : 0 ≤ num
  nc : num ≤ ch
  inc : IncE es
  le : (es.length : Int) ≤ ch
  lg : (gs.length : Int) ≤ ch
  en : ∀ x ∈ es, 0 ≤ x.n ∧ x.n ≤ num
  gn : ∀ x ∈ gs, x.1 ≤ num
  ok : ∀ x ∈ es, okE x
  no : ∀ g ∈ gs, ∀ e ∈ es, g.1 ≠ e.n
theorem incE_snoc {es : List En} {x : En} (h : IncE es) (b : ∀ y ∈ es, y.n < x.n) : IncE (es ++ [x]) := by
  unfold IncE at *
  rw [List.map_append, List.pairwise_append]
  refine ⟨h, List.pairwise_singleton _ _, fun a ha b' hb => ?_⟩
  obtain ⟨y, hy, rfl⟩ := List.mem_map.mp ha
  rw [List.mem_singleton.mp hb]
  exact b y hy
theorem map_set_n {es : List En} {i : Nat} {en x : En} (e : es[i]? = some en) (n : x.n = en.n) : (es.set i x).map (·.n) = es.map (·.n) := by
  rw [List.map_set, n]
  refine List.ext_getElem? fun j => ?_
  by_cases c : i = j
  · subst c
    have hi := (List.getElem?_eq_some_iff.mp e).1
    rw [List.getElem?_set_self (by rw [List.length_map]; exact hi), List.getElem?_map, e]
    rfl
  · rw [List.getElem?_set_ne c]
theorem mem_erase {α : Type} {l : List α} {i : Nat} {x : α} (h : x ∈ l.eraseIdx i) : x ∈ l := List.mem_of_mem_eraseIdx h
theorem Bx.deliver {num ch : Int} {es : List En} {gs : List (Int × Int)} (h : Bx num ch es gs) {ls : List Str} (a : ∀ y ∈ ls, Asc y) : Bx (num + 1) (ch + 1) (es ++ [⟨num + 1, ls, [], ch + 1⟩]) gs := by
  obtain ⟨n0, nc, inc, le, lg, en, gn, ok, no⟩ := h
  refine ⟨by omega, by omega, incE_snoc inc fun y hy => ?_, ?_, by omega, fun x hx => ?_, fun x hx => ?_, fun x hx => ?_, fun g hg e he => ?_⟩
  · have := (en y hy).2
    show y.n < num + 1
    omega
  · rw [List.length_append]
    show ((es.length + 1 : Nat) : Int) ≤ _
    omega
  · rcases List.mem_append.mp hx with hx | hx
    · have := en x hx
      omega
    · rw [List.mem_singleton.mp hx]
      show 0 ≤ num + 1 ∧ num + 1 ≤ num + 1
      omega
  · have := gn x hx
    omega
  · rcases List.mem_append.mp hx with hx | hx
    · exact ok x hx
    · rw [List.mem_singleton.mp hx]
      exact ⟨a, fun y hy => nomatch hy⟩
  · rcases List.mem_append.mp he with he | he
    · exact no g hg e he
    · rw [List.mem_singleton.mp he]
      have := gn g hg
      show g.1 ≠ num + 1
      omega
theorem Bx.flags {num ch : Int} {es : List En} {gs : List (Int × Int)} (h : Bx num ch es gs) {i : Nat} {en : En} (e : es[i]? = some en) {fl : List Str} (a : ∀ y ∈ fl, Asc y) : Bx num (ch + 1) (es.set i ⟨en.n, en.ls, fl, ch + 1⟩) gs := by
  obtain ⟨n0, nc, inc, le, lg, hen, gn, ok, no⟩ := h
  have hm := List.mem_of_getElem? e
  refine ⟨n0, by omega, ?_, by rw [List.length_set]; omega, by omega, fun x hx => ?_, gn, fun x hx => ?_, fun g hg x hx => ?_⟩
  · unfold IncE
    rw [map_set_n (x := ⟨en.n, en.ls, fl, ch + 1⟩) e rfl]
    exact inc
  · rcases List.mem_or_eq_of_mem_set hx with hx | hx
    · exact hen x hx
    · rw [hx]
      exact hen en hm
  · rcases List.mem_or_eq_of_mem_set hx with hx | hx
    · exact ok x hx
    · rw [hx]
      exact ⟨(ok en hm).1, a⟩
  · rcases List.mem_or_eq_of_mem_set hx with hx | hx
    · exact no g hg x hx
    · rw [hx]
      exact no g hg en hm
theorem incE_erase {es : List En} {i : Nat} (h : IncE es) : IncE (es.eraseIdx i) := by
  unfold IncE at *
  exact List.Pairwise.sublist ((List.eraseIdx_sublist es i).map _) h
theorem erase_ne {es : List En} {i : Nat} {en x : En} (h : IncE es) (e : es[i]? = some en) (hx : x ∈ es.eraseIdx i) : x.n ≠ en.n := by
  rw [dst_erase (k := en.n) h.dst e rfl] at hx
  have := (List.mem_filter.mp hx).2
  simpa using this
theorem Bx.expunge {num ch : Int} {es : List En} {gs : List (Int × Int)} (h : Bx num ch es gs) {i : Nat} {en : En} (e : es[i]? = some en) : Bx num (ch + 1) (es.eraseIdx i) (gs ++ [(en.n, ch + 1)]) := by
  obtain ⟨n0, nc, inc, le, lg, hen, gn, ok, no⟩ := h
  have hm := List.mem_of_getElem? e
  refine ⟨n0, by omega, incE_erase inc, ?_, ?_, fun x hx => hen x (mem_erase hx), fun x hx => ?_, fun x hx => ok x (mem_erase hx), fun g hg x hx => ?_⟩
  · have := (List.eraseIdx_sublist es i).length_le
    omega
  · rw [List.length_append]
    show ((gs.length + 1 : Nat) : Int) ≤ _
    omega
  · rcases List.mem_append.mp hx with hx | hx
    · exact gn x hx
    · rw [List.mem_singleton.mp hx]
      exact (hen en hm).2
  · rcases List.mem_append.mp hg with hg | hg
    · exact no g hg x (mem_erase hx)
    · rw [List.mem_singleton.mp hg]
      exact fun z => erase_ne inc e hx z.symm
section
variable {es es0 : List En} {gs : List (Int × Int)} {m ch num : Int} {i : Nat} {en : En}
theorem Fits.self (h : Bx num ch es gs) : Fits es m es gs := ⟨fun e he _ => he, fun e he => .inl ⟨e, he, rfl⟩, h.no⟩
theorem Fits.deliver (f : Fits es0 m es gs) (hm : m ≤ ch) {ls fl : List Str} (b : Bx num ch es gs) : Fits es0 m (es ++ [⟨num + 1, ls, fl, ch + 1⟩]) gs := by
  refine ⟨fun e he hc => ?_, fun e he => ?_, fun g hg e he => ?_⟩
  · rcases List.mem_append.mp he with he | he
    · exact f.old e he hc
    · rw [List.mem_singleton.mp he] at hc
      have hc : ch + 1 ≤ m := hc
      omega
  · rcases f.gone e he with ⟨x, hx, ex⟩ | h
    · exact .inl ⟨x, List.mem_append_left _ hx, ex⟩
    · exact .inr h
  · rcases List.mem_append.mp he with he | he
    · exact f.no g hg e he
    · rw [List.mem_singleton.mp he]
      have := b.gn g hg
      show g.1 ≠ num + 1
      omega
theorem Fits.flags (f : Fits es0 m es gs) (hm : m ≤ ch) (e : es[i]? = some en) {fl : List Str} (b : Bx num ch es gs) : Fits es0 m (es.set i ⟨en.n, en.ls, fl, ch + 1⟩) gs := by
  have hmem := List.mem_of_getElem? e
  have hi := (List.getElem?_eq_some_iff.mp e).1
  refine ⟨fun x hx hc => ?_, fun x hx => ?_, fun g hg x hx => ?_⟩
  · rcases List.mem_or_eq_of_mem_set hx with hx | hx
    · exact f.old x hx hc
    · rw [hx] at hc
      have hc : ch + 1 ≤ m := hc
      omega
  · rcases f.gone x hx with ⟨y, hy, ey⟩ | h
    · refine .inl ?_
      have : y.n ∈ (es.set i ⟨en.n, en.ls, fl, ch + 1⟩).map (·.n) := by
        rw [map_set_n (x := ⟨en.n, en.ls, fl, ch + 1⟩) e rfl]
        exact List.mem_map.mpr ⟨y, hy, rfl⟩
      obtain ⟨z, hz, ez⟩ := List.mem_map.mp this
      exact ⟨z, hz, ez.trans ey⟩
    · exact .inr h
  · rcases List.mem_or_eq_of_mem_set hx with hx | hx
    · exact f.no g hg x hx
    · rw [hx]
      exact f.no g hg en hmem
theorem Fits.expunge (f : Fits es0 m es gs) (hm : m ≤ ch) (e : es[i]? = some en) (b : Bx num ch es gs) : Fits es0 m (es.eraseIdx i) (gs ++ [(en.n, ch + 1)]) := by
  refine ⟨fun x hx hc => f.old x (mem_erase hx) hc, fun x hx => ?_, fun g hg x hx => (b.expunge e).no g hg x hx⟩
  rcases f.gone x hx with ⟨y, hy, ey⟩ | ⟨g, hg, eg, lg⟩
  · by_cases c : y.n = en.n
    · exact .inr ⟨_, List.mem_append_right _ (List.mem_singleton.mpr rfl), c.symm.trans ey, by show m < ch + 1; omega⟩
    · refine .inl ⟨y, ?_, ey⟩
      rw [dst_erase (k := en.n) b.inc.dst e rfl]
      exact List.mem_filter.mpr ⟨hy, by simpa using c⟩
  · exact .inr ⟨g, List.mem_append_left _ hg, eg, lg⟩
end
/-- the two copies and what was kept of the box -/
structure Cps (C : Addr) (S : Sto) (cl kl : Nat) (q r kk : Nat → Nat) (mk : Nat → Int) (sn : Nat → List En) : Prop where
  lc : S[cl]? = some (.lst [.ref (q 0), .ref (q 1)])
  lk : S[kl]? = some (.lst [.ref (kk 0), .ref (kk 1)])
  cp : ∀ j, j < 2 → CopyAt C S (q j) (r j) (mk j) (sn j)
  kp : ∀ j, j < 2 → S[kk j]? = some (.lst ((sn j).map En.d))
  q1 : q 0 ≠ q 1
  q2 : ∀ j, j < 2 → ∀ i, i < 2 → q j ≠ r i ∧ q j ≠ kk i
  q3 : ∀ j, j < 2 → q j ≠ cl ∧ q j ≠ kl
  k2 : ∀ j, j < 2 → kl ≠ r j ∧ kl ≠ kk j
  k3 : kl ≠ cl
def Apt (cl kl : Nat) (q r kk : Nat → Nat) (x : Nat) : Prop := x ≠ cl ∧ x ≠ kl ∧ ∀ j, j < 2 → x ≠ q j ∧ x ≠ r j ∧ x ≠ kk j
section
variable {C : Addr} {S S' : Sto} {cl kl : Nat} {q r kk : Nat → Nat} {mk : Nat → Int} {sn : Nat → List En} {o : List Nat}
theorem Cps.up (h : Cps C S cl kl q r kk mk sn) (u : Upto o S S') (n : ∀ x ∈ o, Apt cl kl q r kk x) : Cps C S' cl kl q r kk mk sn :=
  ⟨u.get (fun z => (n _ z).1 rfl) h.lc, u.get (fun z => (n _ z).2.1 rfl) h.lk, fun j hj => (h.cp j hj).up u ⟨fun z => ((n _ z).2.2 j hj).1 rfl, fun z => ((n _ z).2.2 j hj).2.1 rfl⟩,
    fun j hj => u.get (fun z => ((n _ z).2.2 j hj).2.2 rfl) (h.kp j hj), h.q1, h.q2, h.q3, h.k2, h.k3⟩
theorem Cps.up0 (h : Cps C S cl kl q r kk mk sn) (u : Upto [] S S') : Cps C S' cl kl q r kk mk sn := h.up u fun _ hx => nomatch hx
end
def two {α : Type} (a b : α) (j : Nat) : α := if j = 0 then a else b
theorem two0 {α : Type} (a b : α) : two a b 0 = a := rfl
theorem two1 {α : Type} (a b : α) : two a b 1 = b := rfl
theorem lt2 {P : Nat → Prop} (h0 : P 0) (h1 : P 1) : ∀ j, j < 2 → P j := fun j hj => by
  obtain rfl | rfl : j = 0 ∨ j = 1 := by omega
  · exact h0
  · exact h1
/-- the law's state -/
structure St (c : CA) (S : Sto) (p e g cl kl : Nat) (num ch : Int) (es : List En) (gs : List (Int × Int)) (q r kk : Nat → Nat) (mk : Nat → Int) (sn : Nat → List En) : Prop where
  bx : BoxAt c.Box S p e g num ch es gs
  ok : Bx num ch es gs
  cp : Cps c.Copy S cl kl q r kk mk sn
  ft : ∀ j, j < 2 → Fits (sn j) (mk j) es gs ∧ mk j ≤ ch ∧ IncE (sn j) ∧ (sn j).length < 50 ∧ ∀ x ∈ sn j, okE x
  st : Stt2 S 0
  ap : ∀ x ∈ [0, p, e, g], Apt cl kl q r kk x
  nz : ∀ x ∈ [p, e, g], x ≠ 0
def InvC (c : CA) (ns : List Int) (i : Nat) (σ : Sl) (S : Sto) : Prop := ∃ p e g cl kl num ch es gs q r kk mk sn x5 x6 x7 x8 x9 x10, σ = [some (.scr ns), some (.ref 0), some (.ref p), some (.ref cl), some (.ref kl), x5, x6, x7, x8, x9, x10] ∧
  St c S p e g cl kl num ch es gs q r kk mk sn ∧ ch ≤ (i : Int)
theorem asc_to {k : Int} (h0 : 0 ≤ k) (h1 : k < 200) : Asc (toString k : Str) := by
  obtain ⟨j, rfl⟩ := Int.eq_ofNat_of_zero_le h0
  have hj : j < 200 := by omega
  clear h0 h1
  refine asc_of ?_
  revert j
  decide +kernel
theorem o_strI {S : Sto} {Q : QA} {k : Int} (h0 : 0 ≤ k) (h1 : k < 200) (h : Q (.str (toString k)) S) : wO (dStr (.int k) S) Q := by
  show wO (gd _ _) Q
  rw [gd_ok (Nat.lt_of_le_of_lt (Nat.log2_le_self _) (by omega))]
  exact h
theorem es_pd2 {S : Sto} {xs : List En} (h : ∀ x ∈ xs, okE x) : PdL S 2 (xs.map En.d) (xs.map En.py2) := .map fun x hx => .tup (.cons ((Pd.int _).mono (by decide)) (.cons (.strs (h x hx).1) (.cons (.strs (h x hx).2) (.cons ((Pd.int _).mono (by decide)) .nil))))
section
variable {c : CA} {ns : List Int} {S S' : Sto} {p e g cl kl : Nat} {num ch : Int} {es : List En} {gs : List (Int × Int)} {q r kk : Nat → Nat} {mk : Nat → Int} {sn : Nat → List En}
theorem St.dr (h : St c S p e g cl kl num ch es gs q r kk mk sn) (u : Ev 0 S S') : St c S' p e g cl kl num ch es gs q r kk mk sn :=
  ⟨h.bx.up u.up fun x hx => by simp; exact h.nz x hx, h.ok, h.cp.up u.up fun x hx => by rw [List.mem_singleton.mp hx]; exact h.ap 0 (by simp), h.ft, u.st, h.ap, h.nz⟩
theorem St.up0 (h : St c S p e g cl kl num ch es gs q r kk mk sn) (u : Upto [] S S') : St c S' p e g cl kl num ch es gs q r kk mk sn :=
  ⟨h.bx.up0 u, h.ok, h.cp.up0 u, h.ft, h.st.up u (by simp), h.ap, h.nz⟩
def upj {α : Type} (f : Nat → α) (j : Nat) (x : α) (i : Nat) : α := if i = j then x else f i
theorem upj_at {α : Type} (f : Nat → α) (j : Nat) (x : α) : upj f j x j = x := if_pos rfl
theorem upj_off {α : Type} {f : Nat → α} {j i : Nat} {x : α} (h : i ≠ j) : upj f j x i = f i := if_neg h
theorem upj_all {α : Type} {P : Nat → α → Prop} {f : Nat → α} {j : Nat} {x : α} (a : P j x) (b : ∀ i, i ≠ j → i < 2 → P i (f i)) : ∀ i, i < 2 → P i (upj f j x i) := fun i hi => by
  by_cases e : i = j
  · subst e
    rw [upj_at]
    exact a
  · rw [upj_off e]
    exact b i e hi
theorem Cps.qne {C : Addr} {S : Sto} {cl kl : Nat} {q r kk : Nat → Nat} {mk : Nat → Int} {sn : Nat → List En} (h : Cps C S cl kl q r kk mk sn) {i j : Nat} (hi : i < 2) (hj : j < 2) (n : i ≠ j) : q i ≠ q j := by
  have := h.q1
  obtain rfl | rfl : i = 0 ∨ i = 1 := by omega
  · obtain rfl : j = 1 := by omega
    exact this
  · obtain rfl : j = 0 := by omega
    exact this.symm
/-- a copy has taken the news, and the entries are kept -/
theorem St.taken {j r' : Nat} (h : St c S p e g cl kl num ch es gs q r kk mk sn) (hj : j < 2) (u : Upto [0, q j] S S') (hst : Stt2 S' 0) (hc : CopyAt c.Copy S' (q j) r' ch es) (hr : S.length ≤ r') (hl : es.length < 50) :
    St c ((S' ++ [O.lst (es.map En.d)]).set kl (.lst [.ref (upj kk j S'.length 0), .ref (upj kk j S'.length 1)])) p e g cl kl num ch es gs q (upj r j r') (upj kk j S'.length) (upj mk j ch) (upj sn j es) := by
  have u2 : Upto [0, q j, kl] S ((S' ++ [O.lst (es.map En.d)]).set kl (.lst [.ref (upj kk j S'.length 0), .ref (upj kk j S'.length 1)])) := (u.w (by simp)).app.set (.inl (by simp))
  have lq : ∀ i, i < 2 → q i < S.length := fun i hi => app_lt (h.cp.cp i hi).ob
  have lkl := app_lt h.cp.lk
  have lS := u.len
  have lr := app_lt hc.en
  have xs : ∀ x ∈ [0, p, e, g], x < S.length := fun x hx => by
    have a := app_lt h.bx.ob
    have b := app_lt h.bx.en
    have d := app_lt h.bx.gn
    have f := h.st.lt
    simp at hx
    rcases hx with rfl | rfl | rfl | rfl <;> assumption
  have kq := (h.cp.q3 j hj).2
  have zap := h.ap 0 (by simp)
  have offn : ∀ x ∈ [p, e, g], x ∉ [0, q j, kl] := fun x hx => by
    have := h.ap x (.tail _ hx)
    simp only [List.mem_cons, List.not_mem_nil, or_false, not_or]
    exact ⟨h.nz x hx, (this.2.2 j hj).1, this.2.1⟩
  have xq := lq j hj
  refine ⟨h.bx.up u2 offn, h.ok, ⟨u2.get ?_ h.cp.lc, set_at (app_old (u.get ?_ h.cp.lk)), fun i hi => ?_, fun i hi => ?_, h.cp.q1, fun a ha b hb => ?_, h.cp.q3, fun i hi => ?_, h.cp.k3⟩, fun i hi => ?_, ?_, fun x hx => ⟨(h.ap x hx).1, (h.ap x hx).2.1, fun i hi => ?_⟩, h.nz⟩
  · simp only [List.mem_cons, List.not_mem_nil, or_false, not_or]
    exact ⟨zap.1.symm, (h.cp.q3 j hj).1.symm, h.cp.k3.symm⟩
  · simp only [List.mem_cons, List.not_mem_nil, or_false, not_or]
    exact ⟨zap.2.1.symm, kq.symm⟩
  · by_cases ei : i = j
    · subst ei
      rw [upj_at, upj_at, upj_at]
      exact ⟨(set_off kq.symm).trans (app_old hc.ob), (set_off (by omega)).trans (app_old hc.en)⟩
    · rw [upj_off ei, upj_off ei, upj_off ei]
      refine (h.cp.cp i hi).up u2 ⟨?_, ?_⟩
      · simp only [List.mem_cons, List.not_mem_nil, or_false, not_or]
        exact ⟨((zap.2.2 i hi).1).symm, h.cp.qne hi hj ei, (h.cp.q3 i hi).2⟩
      · simp only [List.mem_cons, List.not_mem_nil, or_false, not_or]
        exact ⟨((zap.2.2 i hi).2.1).symm, ((h.cp.q2 j hj i hi).1).symm, ((h.cp.k2 i hi).1).symm⟩
  · by_cases ei : i = j
    · subst ei
      rw [upj_at, upj_at]
      exact (set_off (by omega)).trans app_new
    · rw [upj_off ei, upj_off ei]
      refine u2.get ?_ (h.cp.kp i hi)
      simp only [List.mem_cons, List.not_mem_nil, or_false, not_or]
      exact ⟨((zap.2.2 i hi).2.2).symm, ((h.cp.q2 j hj i hi).2).symm, ((h.cp.k2 i hi).2).symm⟩
  · have := lq a ha
    by_cases eb : b = j
    · subst eb
      rw [upj_at, upj_at]
      omega
    · rw [upj_off eb, upj_off eb]
      exact h.cp.q2 a ha b hb
  · by_cases ei : i = j
    · subst ei
      rw [upj_at, upj_at]
      omega
    · rw [upj_off ei, upj_off ei]
      exact h.cp.k2 i hi
  · by_cases ei : i = j
    · subst ei
      rw [upj_at, upj_at]
      exact ⟨Fits.self h.ok, Int.le_refl _, h.ok.inc, hl, h.ok.ok⟩
    · rw [upj_off ei, upj_off ei]
      exact h.ft i hi
  · obtain ⟨k, v, ek⟩ := hst
    exact ⟨k, v, (set_off zap.2.1.symm).trans (app_old ek)⟩
  · have := xs x hx
    by_cases ei : i = j
    · subst ei
      rw [upj_at, upj_at]
      exact ⟨((h.ap x hx).2.2 i hi).1, by omega, by omega⟩
    · rw [upj_off ei, upj_off ei]
      exact (h.ap x hx).2.2 i hi
/-- the state behind the turns -/
structure Fin2 (c : CA) (S : Sto) (p e g cl : Nat) (num ch : Int) (es : List En) (gs : List (Int × Int)) (q r : Nat → Nat) (mk : Nat → Int) (sn : Nat → List En) (t : Nat) : Prop where
  bx : BoxAt c.Box S p e g num ch es gs
  ok : Bx num ch es gs
  lc : S[cl]? = some (.lst [.ref (q 0), .ref (q 1)])
  cp : ∀ j, j < 2 → CopyAt c.Copy S (q j) (r j) (mk j) (sn j)
  ft : ∀ j, j < 2 → Fits (sn j) (mk j) es gs ∧ IncE (sn j) ∧ (sn j).length < 50
  dn : ∀ j, j < t → sn j = es
  ap : ∀ x ∈ [p, e, g, cl], ∀ j, j < 2 → x ≠ q j
  qn : ∀ i, i < 2 → ∀ j, j < 2 → i ≠ j → q i ≠ q j
  q2 : ∀ j, j < 2 → ∀ i, i < 2 → r i ≠ q j
theorem St.fin (h : St c S p e g cl kl num ch es gs q r kk mk sn) : Fin2 c S p e g cl num ch es gs q r mk sn 0 :=
  ⟨h.bx, h.ok, h.cp.lc, h.cp.cp, fun j hj => let ⟨a, _, b, d, _⟩ := h.ft j hj; ⟨a, b, d⟩, fun j hj => absurd hj (Nat.not_lt_zero j), fun x hx j hj => by
    simp only [List.mem_cons, List.not_mem_nil, or_false] at hx
    rcases hx with rfl | rfl | rfl | rfl
    · exact ((h.ap x (by simp)).2.2 j hj).1
    · exact ((h.ap x (by simp)).2.2 j hj).1
    · exact ((h.ap x (by simp)).2.2 j hj).1
    · exact (h.cp.q3 j hj).1.symm, fun i hi j hj n => h.cp.qne hi hj n, fun j hj i hi => ((h.cp.q2 j hj i hi).1).symm⟩
theorem Fin2.up0 {t : Nat} (h : Fin2 c S p e g cl num ch es gs q r mk sn t) (u : Upto [] S S') : Fin2 c S' p e g cl num ch es gs q r mk sn t :=
  ⟨h.bx.up0 u, h.ok, u.get0 h.lc, fun j hj => (h.cp j hj).up u (by simp), h.ft, h.dn, h.ap, h.qn, h.q2⟩
theorem Fin2.next {t r' : Nat} (h : Fin2 c S p e g cl num ch es gs q r mk sn t) (ht : t < 2) (hc : CopyAt c.Copy S' (q t) r' ch es) (l : S.length ≤ r') (u : Upto [q t] S S') (hl : es.length < 50) : Fin2 c S' p e g cl num ch es gs q (upj r t r') (upj mk t ch) (upj sn t es) (t + 1) := by
  have lq : ∀ i, i < 2 → q i < S.length := fun i hi => app_lt (h.cp i hi).ob
  refine ⟨h.bx.up u fun x hx => ?_, h.ok, u.get ?_ h.lc, fun i hi => ?_, fun i hi => ?_, fun i hi => ?_, h.ap, h.qn, fun i hi j hj => ?_⟩
  · rw [List.mem_singleton]
    exact h.ap x (by simp at hx ⊢; omega) t ht
  · rw [List.mem_singleton]
    exact h.ap cl (by simp) t ht
  · by_cases ei : i = t
    · subst ei
      rw [upj_at, upj_at, upj_at]
      exact hc
    · rw [upj_off ei, upj_off ei, upj_off ei]
      exact (h.cp i hi).up u ⟨by rw [List.mem_singleton]; exact h.qn i hi t ht ei, by rw [List.mem_singleton]; exact h.q2 t ht i hi⟩
  · by_cases ei : i = t
    · subst ei
      rw [upj_at, upj_at]
      exact ⟨Fits.self h.ok, h.ok.inc, hl⟩
    · rw [upj_off ei, upj_off ei]
      exact h.ft i hi
  · by_cases ei : i = t
    · subst ei
      rw [upj_at]
    · rw [upj_off ei]
      exact h.dn i (by omega)
  · by_cases ej : j = t
    · subst ej
      rw [upj_at]
      have := lq i hi
      omega
    · rw [upj_off ej]
      exact h.q2 i hi j hj
theorem atI_two {f : Nat → D} {w : Int} (h0 : 0 ≤ w) (h1 : w < 2) : atI [f 0, f 1] w = some (f w.toNat) := by
  obtain rfl | rfl : w = 0 ∨ w = 1 := by omega
  · exact atI_0 _ _
  · exact atI_1 _ _ _
theorem dSet_two {S : Sto} {kl n : Nat} {kk : Nat → Nat} {w : Int} (h0 : 0 ≤ w) (h1 : w < 2) (e : S[kl]? = some (.lst [.ref (kk 0), .ref (kk 1)])) : dSetL (.ref kl) (.int w) (.ref n) S = some (S.set kl (.lst [.ref (upj kk w.toNat n 0), .ref (upj kk w.toNat n 1)])) := by
  rw [dSetL_ref e]
  obtain rfl | rfl : w = 0 ∨ w = 1 := by omega
  · rfl
  · rfl
theorem o_ixS {S : Sto} {Q : QA} {z : Str} {k : Int} (hz : z.length ≤ 1000) (h0 : 0 ≤ k) (h1 : k < z.length) (h : ∀ cc, cc ∈ tl z → Q (.str ⟨#[cc]⟩) S) : wO (dIxS (.str z) (.int k) S) Q := by
  show wO (gd _ _) Q
  rw [gd_ok (line_of (by omega))]
  obtain ⟨v, hv, e⟩ := atI_in (xs := tl z) h0 (by rw [← len_tl]; exact h1)
  rw [e]
  exact h v hv
set_option maxHeartbeats 8000000 in
theorem law_w (hns : ns.length ≤ 63) : wF (F_law c [.scr ns] []) (fun d _ => d = .bl true) noX := by
  unfold F_law
  walk_at "w0"
  walk_at "w"
  refine make_w' (B := c.Box) (Ne := c.NoSuchEntry) fun S1 e g b1 le lg u1 => ?_
  walk_at "w"
  refine cmake_w (C := c.Copy) fun S2 r0 c2 l2 u2 => ?_
  walk_at "w"
  refine cmake_w (C := c.Copy) fun S3 r1 c3 l3 u3 => ?_
  walk_at "w"
  have b2 := b1.up0 (u2.trans u3)
  have c2' : CopyAt c.Copy S3 S1.length r0 0 [] := c2.up u3 (by simp)
  have hst : Stt2 S1 0 := ⟨0, 0, u1.get0 rfl⟩
  have lp : ([] ++ [O.lst [D.int 0, .int 0]]).length = 1 := rfl
  have le : 1 ≤ e := le
  have lg : 1 ≤ g := lg
  have hp := app_lt b1.ob
  have he := app_lt b1.en
  have hg := app_lt b1.gn
  have h0 := app_lt c2.en
  have h1 := app_lt c3.en
  have n0 := kind_ne c2.ob c2.en
  have n1 := kind_ne c3.ob c3.en
  have hq0 := app_lt c2.ob
  have hq1 := app_lt c3.ob
  simp only [List.nil_append, List.length_cons, List.length_nil, Nat.zero_add] at b1 b2 hp ⊢
  have u4 : Upto [] S3 ((((S3 ++ [O.lst [.ref S1.length, .ref S2.length]]) ++ [O.lst []]) ++ [O.lst []]) ++ [O.lst [.ref (S3 ++ [O.lst [.ref S1.length, .ref S2.length]]).length, .ref ((S3 ++ [O.lst [.ref S1.length, .ref S2.length]]) ++ [O.lst []]).length]]) := (Upto.refl _ _).app.app.app.app
  have q1 : (S3 ++ [O.lst [.ref S1.length, .ref S2.length]]).length = S3.length + 1 := by rw [List.length_append]; rfl
  have q2 : ((S3 ++ [O.lst [.ref S1.length, .ref S2.length]]) ++ [O.lst []]).length = S3.length + 2 := by rw [List.length_append, q1]; rfl
  have q3 : (((S3 ++ [O.lst [.ref S1.length, .ref S2.length]]) ++ [O.lst []]) ++ [O.lst []]).length = S3.length + 3 := by rw [List.length_append, q2]; rfl
  have x1 : ((((S3 ++ [O.lst [.ref S1.length, .ref S2.length]]) ++ [O.lst []]) ++ [O.lst []]) ++ [O.lst [.ref (S3 ++ [O.lst [.ref S1.length, .ref S2.length]]).length, .ref ((S3 ++ [O.lst [.ref S1.length, .ref S2.length]]) ++ [O.lst []]).length]])[S3.length]? = some (.lst [.ref S1.length, .ref S2.length]) := app_old (app_old (app_old app_new))
  have x2 : ((((S3 ++ [O.lst [.ref S1.length, .ref S2.length]]) ++ [O.lst []]) ++ [O.lst []]) ++ [O.lst [.ref (S3 ++ [O.lst [.ref S1.length, .ref S2.length]]).length, .ref ((S3 ++ [O.lst [.ref S1.length, .ref S2.length]]) ++ [O.lst []]).length]])[(S3 ++ [O.lst [.ref S1.length, .ref S2.length]]).length]? = some (.lst []) := app_old (app_old app_new)
  have x3 : ((((S3 ++ [O.lst [.ref S1.length, .ref S2.length]]) ++ [O.lst []]) ++ [O.lst []]) ++ [O.lst [.ref (S3 ++ [O.lst [.ref S1.length, .ref S2.length]]).length, .ref ((S3 ++ [O.lst [.ref S1.length, .ref S2.length]]) ++ [O.lst []]).length]])[((S3 ++ [O.lst [.ref S1.length, .ref S2.length]]) ++ [O.lst []]).length]? = some (.lst []) := app_old app_new
  have x4 : ((((S3 ++ [O.lst [.ref S1.length, .ref S2.length]]) ++ [O.lst []]) ++ [O.lst []]) ++ [O.lst [.ref (S3 ++ [O.lst [.ref S1.length, .ref S2.length]]).length, .ref ((S3 ++ [O.lst [.ref S1.length, .ref S2.length]]) ++ [O.lst []]).length]])[(((S3 ++ [O.lst [.ref S1.length, .ref S2.length]]) ++ [O.lst []]) ++ [O.lst []]).length]? = some (.lst [.ref (S3 ++ [O.lst [.ref S1.length, .ref S2.length]]).length, .ref ((S3 ++ [O.lst [.ref S1.length, .ref S2.length]]) ++ [O.lst []]).length]) := app_new
  generalize ((((S3 ++ [O.lst [.ref S1.length, .ref S2.length]]) ++ [O.lst []]) ++ [O.lst []]) ++ [O.lst [.ref (S3 ++ [O.lst [.ref S1.length, .ref S2.length]]).length, .ref ((S3 ++ [O.lst [.ref S1.length, .ref S2.length]]) ++ [O.lst []]).length]]) = S4 at u4 x1 x2 x3 x4 ⊢
  generalize (((S3 ++ [O.lst [.ref S1.length, .ref S2.length]]) ++ [O.lst []]) ++ [O.lst []]).length = kl at q3 x4 ⊢
  generalize ((S3 ++ [O.lst [.ref S1.length, .ref S2.length]]) ++ [O.lst []]).length = k1 at q2 x3 x4 ⊢
  generalize (S3 ++ [O.lst [.ref S1.length, .ref S2.length]]).length = k0 at q1 x2 x4 ⊢
  have st4 : St c S4 1 e g S3.length kl 0 0 [] [] (two S1.length S2.length) (two r0 r1) (two k0 k1) (fun _ => 0) (fun _ => []) := by
    have hb0 : Bx 0 0 [] [] := ⟨by omega, by omega, List.Pairwise.nil, by simp, by simp, (fun x hx => nomatch hx), (fun x hx => nomatch hx), (fun x hx => nomatch hx), (fun x hx => nomatch hx)⟩
    refine ⟨b2.up0 u4, hb0, ⟨x1, x4, lt2 (c2'.up u4 (by simp)) (c3.up u4 (by simp)), lt2 x2 x3, ?_, lt2 (lt2 ?_ ?_) (lt2 ?_ ?_), lt2 ?_ ?_, lt2 ?_ ?_, ?_⟩, lt2 ⟨Fits.self hb0, by omega, List.Pairwise.nil, by decide, (fun x hx => nomatch hx)⟩ ⟨Fits.self hb0, by omega, List.Pairwise.nil, by decide, (fun x hx => nomatch hx)⟩, hst.up (u2.trans (u3.trans u4)) (by simp), ?_, ?_⟩
    all_goals first | omega | (simp only [two0, two1]; omega) | skip
    · intro x hx
      simp at hx
      refine ⟨?_, ?_, lt2 ?_ ?_⟩
      all_goals try simp only [two0, two1]
      all_goals rcases hx with rfl | rfl | rfl | rfl <;> omega
    · intro x hx
      simp at hx
      rcases hx with rfl | rfl | rfl <;> omega
  clear u1 u2 u3 u4 b1 b2 c2 c2' c3 x1 x2 x3 x4
  generalize S3.length = cl at st4 ⊢
  generalize two S1.length S2.length = q at st4
  generalize two r0 r1 = r at st4
  generalize two k0 k1 = kk at st4
  clear q1 q2 q3 h0 h1 n0 n1 hq0 hq1 hp he hg le lg hst lp l2 l3
  refine w_seq ?_
  walk_at "w"
  refine o_ixL st4.cp.lc (atI_0 _ _) ?_
  refine o_fld (st4.cp.cp 0 (by omega)).ob (z := 1) rfl ?_
  walk_at "w"
  have st5 := st4.up0 ((Upto.refl _ _).app (x := .lst []))
  refine o_neSame (n := 1) (Pd.lst (n := 0) (st5.cp.cp 0 (by omega)).en (ps := []) .nil) (Pd.lst (n := 0) app_new (ps := []) .nil) ?_
  walk_at "w"
  refine o_ixL st5.cp.lc (atI_0 _ _) ?_
  refine o_fld (st5.cp.cp 0 (by omega)).ob (z := 0) rfl ?_
  walk_at "w"
  generalize S4 ++ [O.lst []] = S5 at st5 ⊢
  refine w_seq ?_
  walk_at "w"
  refine draw_e hns st5.st (by omega) (by omega) fun n S6 u6 n0 n1 => ?_
  have st6 := st5.dr u6
  walk_at "w"
  refine ⟨n, rfl, rg_ok n0 (by omega), trivial, w_loop (k := 0) (P := InvC c ns) ⟨1, e, g, cl, kl, 0, 0, [], [], q, r, kk, _, _, _, _, _, _, _, _, rfl, st6, by omega⟩ (fun i d σ S7 hi hP => ?_) (fun σ S7 hP => ?_)⟩
  · have hir : i < n.toNat := by
      have := (List.getElem?_eq_some_iff.mp hi).1
      rw [List.length_map, List.length_range] at this
      exact this
    have hil : i < 25 := by omega
    rw [List.getElem?_map, List.getElem?_range hir] at hi
    cases hi
    clear st4 st5 st6 u6
    obtain ⟨p, e, g, cl, kl, num, ch, es, gs, q, r, kk, mk, sn, x5, x6, x7, x8, x9, x10, rfl, st7, hch⟩ := hP
    simp only [Nat.zero_add] at hch ⊢
    walk_at "w"
    refine draw_e hns st7.st (by omega) (by omega) fun kd S8 u8 kd0 kd1 => ?_
    have st8 := st7.dr u8
    have hle := st8.ok.le
    have hlg := st8.ok.lg
    have hnc := st8.ok.nc
    have hn0 := st8.ok.n0
    walk_at "w"
    refine c_list En.d es (fun _ => true) (fun x => .int x.n) ?_
    walk_at "w"
    refine o_fld st8.bx.ob (z := 2) rfl ?_
    refine i_list st8.bx.en ?_
    refine ⟨rfl, by omega, fun acc => ⟨st8.bx.en, app_old st8.bx.en⟩, fun en hen acc => ⟨_, rfl, ?_, fun _ => ?_⟩, ?_⟩
    · simp only [wipeA, List.set]
      walk_at "w"
      exact ⟨rfl, rfl⟩
    · unfold En.d
      simp only [wipeA, List.set]
      walk_at "w"
      exact ⟨rfl, rfl⟩
    rw [List.filter_eq_self.mpr fun _ _ => rfl]
    have a9 : (S8 ++ [O.lst (es.map fun x => D.int x.n)])[S8.length]? = some (.lst (es.map fun x => D.int x.n)) := app_new
    have st9 := st8.up0 ((Upto.refl _ _).app (x := .lst (es.map fun x => D.int x.n)))
    generalize (S8 ++ [O.lst (es.map fun x => D.int x.n)]) = S9 at a9 st9 ⊢
    walk_at "w"
    refine w_cut (fun σ S => InvC c ns (i + 1) σ S) ?_ fun σ S10 hP => ?_
    · walk_at "w"
      refine o_dec (fun _ => ?_) (fun hk1 => ?_)
      · walk_at "w"
        walk_at "w"
        refine w_obj st9.bx.ob ?_
        walk_at "w"
        refine o_strI (by omega) (by omega) ?_
        walk_at "w"
        rotate_left
        · have := len_to (k := 0 + (i : Int)) (by omega) (by omega)
          rw [len_of, show "line ".length = 5 by decide +kernel]
          exact line_of (by omega)
        refine deliver_w (B := c.Box) (Ne := c.NoSuchEntry) (ls := [Str.ofString "line " ++ toString (0 + (i : Int))]) st9.bx (by omega) fun S10 b10 u10 => ?_
        refine ⟨p, e, g, cl, kl, num + 1, ch + 1, _, gs, q, r, kk, mk, sn, _, _, _, _, _, _, rfl, ⟨b10, st9.ok.deliver fun y hy => ?_, st9.cp.up u10 fun x hx => st9.ap x (by simp at hx ⊢; omega), fun j hj => ?_, st9.st.up u10 ?_, st9.ap, st9.nz⟩, by omega⟩
        · rw [List.mem_singleton.mp hy]
          exact asc_app (asc_of (by decide +kernel)) (asc_to (by omega) (by omega))
        · obtain ⟨f, a, b, cc, d⟩ := st9.ft j hj
          exact ⟨f.deliver a st9.ok, by omega, b, cc, d⟩
        · intro hx
          have := st9.nz 0 (by simp at hx ⊢; omega)
          exact this rfl
      · walk_at "w"
        refine tru_ref a9 ?_
        by_cases hes : es = []
        · subst hes
          show if (!!true) = true then _ else _
          rw [Bool.not_true, Bool.not_false]
          walk_at "w"
          refine w_obj st9.bx.ob ?_
          walk_at "w"
          refine o_strI (by omega) (by omega) ?_
          walk_at "w"
          rotate_left
          · have := len_to (k := 0 + (i : Int)) (by omega) (by omega)
            rw [len_of, show "line ".length = 5 by decide +kernel]
            exact line_of (by omega)
          refine deliver_w (B := c.Box) (Ne := c.NoSuchEntry) (ls := [Str.ofString "line " ++ toString (0 + (i : Int))]) st9.bx (by omega) fun S10 b10 u10 => ?_
          refine ⟨p, e, g, cl, kl, num + 1, ch + 1, _, gs, q, r, kk, mk, sn, _, _, _, _, _, _, rfl, ⟨b10, st9.ok.deliver fun y hy => ?_, st9.cp.up u10 fun x hx => st9.ap x (by simp at hx ⊢; omega), fun j hj => ?_, st9.st.up u10 ?_, st9.ap, st9.nz⟩, by omega⟩
          · rw [List.mem_singleton.mp hy]
            exact asc_app (asc_of (by decide +kernel)) (asc_to (by omega) (by omega))
          · obtain ⟨f, a, b, cc, d⟩ := st9.ft j hj
            exact ⟨f.deliver a st9.ok, by omega, b, cc, d⟩
          · intro hx
            have := st9.nz 0 (by simp at hx ⊢; omega)
            exact this rfl
        · have hemp : (es.map fun x => D.int x.n).isEmpty = false := by
            cases es with
            | nil => exact absurd rfl hes
            | cons _ _ => rfl
          rw [hemp, Bool.not_false]
          walk_at "w"
          have hpos : (0 : Int) < ((es.map fun x => D.int x.n).length : Nat) := by
            cases es with
            | nil => exact absurd rfl hes
            | cons _ _ => simp
          have hlt : ((es.map fun x => D.int x.n).length : Int) < 1073741824 := by rw [List.length_map]; omega
          have n8 : S8.length ≠ 0 := fun z => by have := st8.st.lt; omega
          refine o_dec (fun _ => ?_) (fun hk2 => ?_)
          · walk_at "w"
            refine w_obj st9.bx.ob ?_
            walk_at "w"
            refine o_lenQ (seqOf_ref a9) ?_
            refine draw_e hns st9.st hpos hlt fun d S10 u10 d0 d1 => ?_
            have st10 := st9.dr u10
            rw [List.length_map] at d1
            obtain ⟨x, hx, ex⟩ := atI_mapD (xs := es) (fun x => D.int x.n) d0 d1
            refine o_ixL (u10.get n8 a9) ex ?_
            walk_at "w"
            refine draw_e hns st10.st (by omega) (by omega) fun d2 S11 u11 d20 d21 => ?_
            have st11 := st10.dr u11
            refine o_ixS (by decide +kernel) d20 (by rw [len_of]; exact d21) fun cc hcc => ?_
            walk_at "w"
            rotate_left
            · exact line_of (show (Str.ofString "f").length + 1 ≤ 10000000 by decide +kernel)
            have hxn := st9.ok.en x hx
            have ascz : Asc (Str.ofString "f" ++ ⟨#[cc]⟩) := asc_app (asc_of (by decide +kernel)) (asc_one ((asc_of (x := Str.ofString "ab") (by decide +kernel)) cc hcc))
            generalize Str.ofString "f" ++ (⟨#[cc]⟩ : Str) = z at ascz ⊢
            refine set_flags_w (B := c.Box) (Ne := c.NoSuchEntry) (fl := [z]) st11.bx hxn.1 (by omega) (by omega) (show 1 < 60 by decide) (fun i2 en S12 ei en1 b12 u12 => ?_) (fun hno => absurd rfl (hno x hx))
            have asc1 : ∀ y ∈ srtS [z], Asc y := fun y hy => by
              rw [mem_srtS, List.mem_singleton] at hy
              rw [hy]
              exact ascz
            generalize srtS [z] = zs at b12 asc1
            rw [← en1] at b12
            refine ⟨p, e, g, cl, kl, num, ch + 1, _, gs, q, r, kk, mk, sn, _, _, _, _, _, _, rfl, ⟨b12, st9.ok.flags ei asc1, st11.cp.up u12 fun x hx => st11.ap x (by simp at hx ⊢; omega), fun j hj => ?_, st11.st.up u12 ?_, st9.ap, st9.nz⟩, by omega⟩
            · obtain ⟨f, a, b, cc, dd⟩ := st9.ft j hj
              exact ⟨f.flags a ei st9.ok, by omega, b, cc, dd⟩
            · intro hx
              have := st9.nz 0 (by simp at hx ⊢; omega)
              exact this rfl
          · walk_at "w"
            refine o_dec (fun _ => ?_) (fun hk3 => ?_)
            · walk_at "w"
              refine w_obj st9.bx.ob ?_
              walk_at "w"
              refine o_lenQ (seqOf_ref a9) ?_
              refine draw_e hns st9.st hpos hlt fun d S10 u10 d0 d1 => ?_
              have st10 := st9.dr u10
              rw [List.length_map] at d1
              obtain ⟨x, hx, ex⟩ := atI_mapD (xs := es) (fun x => D.int x.n) d0 d1
              refine o_ixL (u10.get n8 a9) ex ?_
              walk_at "w"
              have hxn := st9.ok.en x hx
              refine expunge_w (B := c.Box) (Ne := c.NoSuchEntry) st10.bx hxn.1 (by omega) (by omega) (by omega) (fun i2 en S12 ei en1 b12 u12 => ?_) (fun hno => absurd rfl (hno x hx))
              rw [← en1] at b12
              refine ⟨p, e, g, cl, kl, num, ch + 1, _, _, q, r, kk, mk, sn, _, _, _, _, _, _, rfl, ⟨b12, st9.ok.expunge ei, st10.cp.up u12 fun x hx => st10.ap x (by simp at hx ⊢; omega), fun j hj => ?_, st10.st.up u12 ?_, st9.ap, st9.nz⟩, by omega⟩
              · obtain ⟨f, a, b, cc, dd⟩ := st9.ft j hj
                exact ⟨f.expunge a ei st9.ok, by omega, b, cc, dd⟩
              · intro hx
                have := st9.nz 0 (by simp at hx ⊢; omega)
                exact this rfl
            · walk_at "w"
              refine draw_e hns st9.st (by omega) (by omega) fun w S10 u10 w0 w1 => ?_
              have st10 := st9.dr u10
              walk_at "w"
              have hw : w.toNat < 2 := by omega
              refine w_obj st10.bx.ob ?_
              walk_at "w"
              refine o_ixL st10.cp.lc (atI_two (f := fun j => .ref (q j)) w0 w1) ?_
              refine o_fld (st10.cp.cp w.toNat hw).ob (z := 0) rfl ?_
              walk_at "w"
              refine news_w (B := c.Box) (Ne := c.NoSuchEntry) (mark := mk w.toNat) st10.bx (by omega) (by omega) fun S11 u11 => ?_
              have st11 := st10.up0 u11
              walk_at "w"
              refine o_ixL st11.cp.lc (atI_two (f := fun j => .ref (q j)) w0 w1) ?_
              refine w_obj (st11.cp.cp _ hw).ob ?_
              walk_at "w"
              obtain ⟨f1, hmk, inc0, len0, ok0⟩ := st11.ft _ hw
              have zap := st11.ap 0 (by simp)
              have zq := (zap.2.2 _ hw).1
              have qcl := (st11.cp.q3 _ hw).1
              refine update_w (C := c.Copy) (st11.cp.cp _ hw) f1 st11.ok.inc inc0 len0 (by omega) fun S12 r2 c12 l12 u12 => ?_
              have s12 : Stt2 S12 0 := st11.st.up u12 (by simpa using zq)
              refine w_cut (fun σ1 S1 => σ1 = [some (.scr ns), some (.ref 0), some (.ref p), some (.ref cl), some (.ref kl), some (.int (0 + (i : Int))), some (.int kd), some (.ref S8.length), some (.int w), some (newsD ch es gs (mk w.toNat)), x10] ∧ Stt2 S1 0 ∧ Upto [0, q w.toNat] S11 S1 ∧ ∃ r3, CopyAt c.Copy S1 (q w.toNat) r3 ch es ∧ S11.length ≤ r3) ?_ fun σ1 S14 hP => ?_
              · walk_at "w"
                refine draw_e hns s12 (by omega) (by omega) fun d3 S13 u13 d30 d31 => ?_
                have hr2 : (0 : Nat) ≠ r2 := fun z => by have := st11.st.lt; omega
                have c13 : CopyAt c.Copy S13 (q w.toNat) r2 ch es := c12.up u13.up ⟨by simpa using zq.symm, by simpa using hr2.symm⟩
                have v13 : Upto [0, q w.toNat] S11 S13 := (u12.w (by simp)).trans (u13.up.w (by simp))
                walk_at "w"
                refine o_dec (fun _ => ?_) (fun _ => ?_)
                · walk_at "w"
                  refine o_ixL (v13.get (by simp; exact ⟨zap.1.symm, qcl.symm⟩) st11.cp.lc) (atI_two (f := fun j => .ref (q j)) w0 w1) ?_
                  refine w_obj c13.ob ?_
                  walk_at "w"
                  refine update_w (C := c.Copy) c13 (Fits.self st11.ok) st11.ok.inc st11.ok.inc (by omega) (by omega) fun S14 r3 c14 l14 u14 => ?_
                  have := v13.len
                  exact ⟨rfl, u13.st.up u14 (by simpa using zq), v13.trans (u14.w (by simp)), r3, c14, by omega⟩
                · walk_at "w"
                  exact ⟨rfl, u13.st, v13, r2, c13, l12⟩
              · obtain ⟨rfl, s14, v14, r3, c14, l14⟩ := hP
                walk_at "w"
                have b14 : BoxAt c.Box S14 p e g num ch es gs := st11.bx.up v14 fun x hx => by
                  simp only [List.mem_cons, List.not_mem_nil, or_false, not_or]
                  exact ⟨st11.nz x hx, ((st11.ap x (.tail _ hx)).2.2 _ hw).1⟩
                have k14 : S14[kl]? = some (.lst [.ref (kk 0), .ref (kk 1)]) := v14.get (by
                  simp only [List.mem_cons, List.not_mem_nil, or_false, not_or]
                  exact ⟨zap.2.1.symm, (st11.cp.q3 _ hw).2.symm⟩) st11.cp.lk
                refine o_fld b14.ob (z := 2) rfl ?_
                walk_at "w"
                refine o_listOf (seqOf_ref b14.en) ?_
                walk_at "w"
                have st15 := st11.taken hw v14 s14 c14 l14 (by omega)
                refine ⟨_, dSet_two w0 w1 (app_old k14), ?_⟩
                generalize (S14 ++ [O.lst (es.map En.d)]).set kl (.lst [.ref (upj kk w.toNat S14.length 0), .ref (upj kk w.toNat S14.length 1)]) = S15 at st15 ⊢
                walk_at "w"
                refine o_ixL st15.cp.lc (atI_two (f := fun j => .ref (q j)) w0 w1) ?_
                refine o_fld (st15.cp.cp _ hw).ob (z := 0) rfl ?_
                walk_at "w"
                refine o_fld st15.bx.ob (z := 1) rfl ?_
                walk_at "w"
                rw [upj_at]
                refine o_ndec (fun hc => absurd rfl hc) (fun _ => ?_)
                walk_at "w"
                refine o_ixL st15.cp.lc (atI_two (f := fun j => .ref (q j)) w0 w1) ?_
                refine o_fld (st15.cp.cp _ hw).ob (z := 1) rfl ?_
                walk_at "w"
                refine o_isiL (st15.cp.cp _ hw).en ?_
                walk_at "w"
                exact ⟨p, e, g, cl, kl, num, ch, es, gs, q, _, _, _, _, _, _, _, _, _, _, rfl, st15, by omega⟩
    · obtain ⟨p, e, g, cl, kl, num, ch, es, gs, q, r, kk, mk, sn, x5, x6, x7, x8, x9, x10, rfl, st10, hch⟩ := hP
      walk_at "w"
      refine o_ixL st10.cp.lc (atI_0 _ _) ?_
      refine o_fld (st10.cp.cp 0 (by omega)).ob (z := 1) rfl ?_
      walk_at "w"
      refine o_ixL st10.cp.lk (atI_0 _ _) ?_
      refine o_neSame (n := 3) (Pd.lst (st10.cp.cp 0 (by omega)).en (es_pd2 (st10.ft 0 (by omega)).2.2.2.2)) (Pd.lst (st10.cp.kp 0 (by omega)) (es_pd2 (st10.ft 0 (by omega)).2.2.2.2)) ?_
      walk_at "w"
      refine o_ixL st10.cp.lc (atI_1 _ _ _) ?_
      refine o_fld (st10.cp.cp 1 (by omega)).ob (z := 1) rfl ?_
      walk_at "w"
      refine o_ixL st10.cp.lk (atI_1 _ _ _) ?_
      refine o_neSame (n := 3) (Pd.lst (st10.cp.cp 1 (by omega)).en (es_pd2 (st10.ft 1 (by omega)).2.2.2.2)) (Pd.lst (st10.cp.kp 1 (by omega)) (es_pd2 (st10.ft 1 (by omega)).2.2.2.2)) ?_
      walk_at "w"
      exact ⟨trivial, p, e, g, cl, kl, num, ch, es, gs, q, r, kk, mk, sn, _, _, _, _, _, _, rfl, st10, by omega⟩
  · obtain ⟨p, e, g, cl, kl, num, ch, es, gs, q, r, kk, mk, sn, x5, x6, x7, x8, x9, x10, rfl, st7, hch⟩ := hP
    refine w_seq ?_
    walk_at "w"
    have hle := st7.ok.le
    have hlg := st7.ok.lg
    have hch2 : ch ≤ 25 := by
      simp only [List.length_map, List.length_range] at hch
      omega
    refine ⟨2, rfl, rg_ok (by omega) (by omega), trivial, w_loop (k := 0) (P := fun t σ S8 => ∃ r mk sn x8, σ = [some (.scr ns), some (.ref 0), some (.ref p), some (.ref cl), some (.ref kl), x5, x6, x7, x8, x9, x10] ∧ Fin2 c S8 p e g cl num ch es gs q r mk sn t) ⟨r, mk, sn, _, rfl, st7.fin⟩ (fun t d σ S8 hi hP => ?_) (fun σ S8 hP => ?_)⟩
    · have ht : t < 2 := by
        have := (List.getElem?_eq_some_iff.mp hi).1
        rw [List.length_map, List.length_range] at this
        exact this
      rw [List.getElem?_map, List.getElem?_range (show t < (2 : Int).toNat from ht)] at hi
      cases hi
      obtain ⟨r, mk, sn, x8, rfl, fn⟩ := hP
      simp only [Nat.zero_add] at fn ⊢
      have et : (0 + (t : Int)).toNat = t := by omega
      have eq2 : atI [.ref (q 0), .ref (q 1)] (0 + (t : Int)) = some (D.ref (q t)) := by
        have := atI_two (f := fun j => D.ref (q j)) (w := 0 + (t : Int)) (by omega) (by omega)
        rw [et] at this
        exact this
      walk_at "w"
      refine o_ixL fn.lc eq2 ?_
      refine w_obj (fn.cp t ht).ob ?_
      walk_at "w"
      refine w_obj fn.bx.ob ?_
      walk_at "w"
      refine o_ixL fn.lc eq2 ?_
      refine o_fld (fn.cp t ht).ob (z := 0) rfl ?_
      walk_at "w"
      refine news_w (B := c.Box) (Ne := c.NoSuchEntry) fn.bx (by omega) (by omega) fun S9 u9 => ?_
      have f9 := fn.up0 u9
      walk_at "w"
      obtain ⟨f1, inc0, len0⟩ := f9.ft t ht
      refine update_w (C := c.Copy) (f9.cp t ht) f1 f9.ok.inc inc0 len0 (by omega) fun S10 r2 c10 l10 u10 => ?_
      have f10 := f9.next ht c10 l10 u10 (by omega)
      walk_at "w"
      refine o_ixL f10.lc eq2 ?_
      refine o_fld c10.ob (z := 1) rfl ?_
      walk_at "w"
      refine o_fld f10.bx.ob (z := 2) rfl ?_
      refine o_neSame (n := 3) (Pd.lst c10.en (es_pd2 f10.ok.ok)) (Pd.lst f10.bx.en (es_pd2 f10.ok.ok)) ?_
      walk_at "w"
      refine o_ixL f10.lc eq2 ?_
      refine o_fld c10.ob (z := 0) rfl ?_
      walk_at "w"
      refine o_fld f10.bx.ob (z := 1) rfl ?_
      walk_at "w"
      refine o_ndec (fun hc => absurd rfl hc) (fun _ => ?_)
      walk_at "w"
      exact ⟨trivial, _, _, _, _, rfl, f10⟩
    · obtain ⟨r, mk, sn, x8, rfl, fn⟩ := hP
      walk_at "w"
      refine o_ixL fn.lc (atI_0 _ _) ?_
      refine o_fld (fn.cp 0 (by omega)).ob (z := 1) rfl ?_
      walk_at "w"
      refine o_ixL fn.lc (atI_1 _ _ _) ?_
      refine o_fld (fn.cp 1 (by omega)).ob (z := 1) rfl ?_
      have e0 := (fn.cp 0 (by omega)).en
      have e1 := (fn.cp 1 (by omega)).en
      rw [fn.dn 0 (by decide)] at e0
      rw [fn.dn 1 (by decide)] at e1
      refine o_eqSame (n := 3) (Pd.lst e0 (es_pd2 fn.ok.ok)) (Pd.lst e1 (es_pd2 fn.ok.ok)) ?_
      rfl
end
/-- the law's promise -/
def spLaw (K : PySem.W.Frag) : Sp := fun vs H Q _ => ∃ (sc : Addr) (ns : List Int), vs = [.ref sc] ∧ ns.length ≤ 63 ∧ Only H ∧ SqL K H sc (ns.map V.int) ∧ ∀ H', Q (.bl true) H'
theorem spLaw_of {K : PySem.W.Frag} {N : Nms} {F : Fn} (h : ∀ ns : List Int, ns.length ≤ 63 → wF (F [.scr ns] []) (fun d _ => d = .bl true) noX) : ∀ vs H Q E, spLaw K vs H Q E → spA K N F vs H Q E := by
  intro vs H Q E ⟨sc, ns, e, hl, hO, hS, q⟩
  subst e
  refine ⟨[], [.scr ns], [], RepL.cons ⟨sc, rfl, ScrR.of hO hS⟩ rfl, ⟨rfl, List.nodup_nil, fun n o e => by simp at e⟩, ?_⟩
  obtain ⟨d, S, e, rfl⟩ := wF_to (h ns hl)
  rw [e]
  intro ι' H' v _ _ r
  rw [show v = .bl true from r]
  exact q H'
theorem fa_nil {p : Str → Prop} : ∀ f ∈ ([] : List Str), p f := fun _ h => nomatch h
theorem fa_cons {p : Str → Prop} {x : Str} {xs : List Str} (a : p x) (b : ∀ f ∈ xs, p f) : ∀ f ∈ x :: xs, p f := fun f h => by
  rcases List.mem_cons.mp h with e | e
  · exact e ▸ a
  · exact b f e
end Dw
set_option autoImplicit true
open PySem PySem.W PyProof.Rows
theorem Dw.end_mk {l : PySem.W.OpenLaw} {w : World} {K : PySem.W.Frag} {mg : Str → Option Value} {fa a0 a1 a2 a3 : Addr} (hfa : mg "law" = some (.ref fa)) (g0 : PySem.W.nsIn K mainGlobals "Box" = some (some (.ref a0))) (g1 : PySem.W.nsIn K mainGlobals "Copy" = some (some (.ref a1))) (g2 : PySem.W.nsIn K mainGlobals "NoSuchEntry" = some (some (.ref a2))) (g3 : PySem.W.nsIn K mainGlobals "MailError" = some (some (.ref a3))) (T : Dw.Tx K (Dw.nmsA ⟨a0, a1, a2, a3⟩) mg ⟨a0, a1, a2, a3⟩) :
    ∃ fd : FuncData, (∀ (s : Shared) (v : Value), BindsTo s fd ⟨[v], []⟩ [("script", v)]) ∧ ∀ base : Heap, K.In base → base.Ns mainGlobals mg → L2.FnOk l.prog w K mg base L2.CX0 3 fa fd ["script"] (Dw.spLaw K) := by
  obtain ⟨f, fd, m, F, hb⟩ := T.d_law
  rw [hfa] at m
  cases m
  exact ⟨fd, fun s v => hb s [v] rfl, fun base _ _ => (Dw.ok_law T F).imp (Dw.spLaw_of fun ns h => Dw.law_w h)⟩
set_option maxHeartbeats 0 in
theorem PySem.Challenge.cw_dawkline_k11_copies_follow_boxes_holds : PySem.Challenge.rw_dawkline_k11_copies_follow_boxes.Holds := by
  w_on; o_law; k_head; (case hw => w_witness2)
  k_fill
  refine L2.walk_of (l := PySem.Challenge.rw_dawkline_k11_copies_follow_boxes) (n := 63) (k := 3) (x := "script") (CX := fun _ => L2.CX0) (sp := fun w => Dw.spLaw _) rfl (by decide) rfl ⟨rfl, by decide, by decide⟩ (fun w h Y => PySem.W.kIn_of Y) ?F (fun _ _ a ns hl hO hS => ⟨a, ns, rfl, hl, hO, hS, fun _ => rfl⟩) (fun _ _ _ _ _ h => h)
  case F =>
    intro w mg fa h KX G hmg
    refine' Dw.end_mk hmg ?ca0 ?ca1 ?ca2 ?ca3 ?T
    (case ca0 => k_is)
    (case ca1 => k_is)
    (case ca2 => k_is)
    (case ca3 => k_is)
    case T => exact ⟨(by (refine' Dw.mn_mk ?a ?i ?l ?c ?k (fun _ _ _ _ _ _ us hl => match us, hl with | [_], _ => rfl); (case a => k_is); (case i => k_is); (case l => k_is); (case c => k_is); (case k => k_is))),
(by (refine' Dw.mn_mk ?a ?i ?l ?c ?k (fun _ _ _ _ _ _ us hl => match us, hl with | [_], _ => rfl); (case a => k_is); (case i => k_is); (case l => k_is); (case c => k_is); (case k => k_is))),
(by (refine' Dw.dn_mk KX G ?a ?l ?c ?k (fun _ _ _ _ _ _ us hl => match us, hl with | [_, _], _ => rfl); (case a => k_is); (case l => k_is); (case c => k_is); (case k => k_is))),
(by (refine' Dw.dn_mk KX G ?a ?l ?c ?k (fun _ _ _ _ _ _ us hl => match us, hl with | [_, _, _], _ => rfl); (case a => k_is); (case l => k_is); (case c => k_is); (case k => k_is))),
(by (refine' Dw.mn_mk ?a ?i ?l ?c ?k (fun _ _ _ _ _ _ us hl => match us, hl with | [_, _], _ => rfl); (case a => k_is); (case i => k_is); (case l => k_is); (case c => k_is); (case k => k_is))),
(by (refine' Dw.mn_mk ?a ?i ?l ?c ?k (fun _ _ _ _ _ _ us hl => match us, hl with | [_, _], _ => rfl); (case a => k_is); (case i => k_is); (case l => k_is); (case c => k_is); (case k => k_is))),
(by (refine' Dw.mn_mk ?a ?i ?l ?c ?k (fun _ _ _ _ _ _ us hl => match us, hl with | [_, _, _], _ => rfl); (case a => k_is); (case i => k_is); (case l => k_is); (case c => k_is); (case k => k_is))),
(by (refine' Dw.mn_mk ?a ?i ?l ?c ?k (fun _ _ _ _ _ _ us hl => match us, hl with | [_, _], _ => rfl); (case a => k_is); (case i => k_is); (case l => k_is); (case c => k_is); (case k => k_is))),
(by (refine' Dw.mn_mk ?a ?i ?l ?c ?k (fun _ _ _ _ _ _ us hl => match us, hl with | [_, _], _ => rfl); (case a => k_is); (case i => k_is); (case l => k_is); (case c => k_is); (case k => k_is))),
(by (refine' Dw.mn_mk ?a ?i ?l ?c ?k (fun _ _ _ _ _ _ us hl => match us, hl with | [_, _], _ => rfl); (case a => k_is); (case i => k_is); (case l => k_is); (case c => k_is); (case k => k_is))),
(by (refine' Dw.dn_mk KX G ?a ?l ?c ?k (fun _ _ _ _ _ _ us hl => match us, hl with | [_], _ => rfl); (case a => k_is); (case l => k_is); (case c => k_is); (case k => k_is))),
(by (refine' PySem.W.mg_none_of KX G ?a; (case a => k_is))),
(by (refine' PySem.W.mg_none_of KX G ?a; (case a => k_is))),
(by (refine' PySem.W.mg_none_of KX G ?a; (case a => k_is))),
(by (refine' PySem.W.mg_none_of KX G ?a; (case a => k_is))),
(by (refine' PySem.W.mg_none_of KX G ?a; (case a => k_is))),
(by (refine' PySem.W.mg_none_of KX G ?a; (case a => k_is))),
(by (refine' PySem.W.mg_none_of KX G ?a; (case a => k_is))),
(by (refine' PySem.W.mg_none_of KX G ?a; (case a => k_is))),
(by (refine' PySem.W.mg_none_of KX G ?a; (case a => k_is))),
(by (refine' PySem.W.mg_none_of KX G ?a; (case a => k_is))),
(by (refine' Dw.cs_mk KX G ?a ?b ?c ?d ?e ?f ?g; (case a => k_is); (case b => k_is); (case c => k_is); (case d => k_is); (case e => k_is); (case f => k_is); (case g => k_is))),
(by (refine' ⟨⟨?b, ?c, ?d, ?e⟩, ?n, by decide +kernel, ?x, by decide⟩; (case b => k_is); (case c => k_is); (case d => k_is); (case e => k_is); (case n => (unfold Dw.nmsA;  exact if_pos rfl)); (case x => (refine' Dw.fa_cons ?z0 (Dw.fa_cons ?z1 (Dw.fa_cons ?z2 (Dw.fa_cons ?z3 (Dw.fa_nil)))); (case z0 => (show PySem.W.findIn _ _ _ = _; k_is)); (case z1 => (show PySem.W.findIn _ _ _ = _; k_is)); (case z2 => (show PySem.W.findIn _ _ _ = _; k_is)); (case z3 => (show PySem.W.findIn _ _ _ = _; k_is)))))),
(by (refine' Dw.cs_mk KX G ?a ?b ?c ?d ?e ?f ?g; (case a => k_is); (case b => k_is); (case c => k_is); (case d => k_is); (case e => k_is); (case f => k_is); (case g => k_is))),
(by (refine' ⟨⟨?b, ?c, ?d, ?e⟩, ?n, by decide +kernel, ?x, by decide⟩; (case b => k_is); (case c => k_is); (case d => k_is); (case e => k_is); (case n => (unfold Dw.nmsA; rw [if_neg (by decide)];  exact if_pos rfl)); (case x => (refine' Dw.fa_cons ?z0 (Dw.fa_cons ?z1 (Dw.fa_nil)); (case z0 => (show PySem.W.findIn _ _ _ = _; k_is)); (case z1 => (show PySem.W.findIn _ _ _ = _; k_is)))))),
(by (refine' (Dw.exn_mk KX G ?gC ?gM ?xC ?kC ?bC ?tC ?sC ?kM ?e1 ?e2 ?e4 ?e5 ?e6 ?e7 ?e8); (case gC => k_is); (case gM => k_is); (case xC => k_exc); (case kC => k_is); (case bC => k_is); (case tC => k_is); (case sC => first | k_is | rfl); (case kM => first | k_is | rfl); (case e1 => k_is); (case e2 => k_is); (case e4 => k_is); (case e5 => k_is); (case e6 => first | rfl | k_is); (case e7 => first | rfl | k_is); (case e8 => first | k_is | rfl)))⟩

