import PyProof.Rows.All
import HandS.ForMost
import HandS.FStr
import HandS.IsInst
import HandS.TupAny
import HandS.Style
import HandS.StrMore
import HandS.Strs
import Open.Row
import HandS.ForExc
import HandS.ExcOwn
import HandS.TryOnly
import HandS.ExcIs
import HandS.RaiseMore
import PySem.Challenge.RW_dawkline_k02_strings_that_are_no_address
set_option Elab.async false
set_option linter.all false
set_option maxRecDepth 100000
set_option autoImplicit false
namespace Dw
open PySem PySem.Spec PyProof.Rows L2 TL
/-! ### the state of the heap between two draws -/
def Keep (st : Addr) (H H' : Hp) : Prop := ∀ a o, a ≠ st → H a = some o → H' a = some o
def Stt (H : Hp) (st : Addr) : Prop := ∃ k v : Int, H st = some (.lst [.int k, .int v])
def Dr (st : Addr) (H H' : Hp) : Prop := Keep st H H' ∧ Stt H' st
def Wd (K : PySem.W.Frag) (st sc : Addr) (ns : List Int) (H : Hp) : Prop :=
  Stt H st ∧ ∀ H', Keep st H H' → SqL K H' sc (ns.map V.int)
section
variable {K : PySem.W.Frag} {st sc p D : Addr} {ns : List Int} {H H1 H2 H3 : Hp} {o : HO}
theorem Keep.refl (st : Addr) (H : Hp) : Keep st H H := fun _ _ _ h => h
theorem Keep.trans (a : Keep st H H1) (b : Keep st H1 H2) : Keep st H H2 := fun x o n h => b x o n (a x o n h)
theorem Keep.of (a : Same H H1) : Keep st H H1 := fun x o _ h => a x o h
theorem Wd.next (w : Wd K st sc ns H) (d : Dr st H H1) : Wd K st sc ns H1 := ⟨d.2, fun H' k => w.2 H' (d.1.trans k)⟩
theorem Wd.list (w : Wd K st sc ns H) : SqL K H sc (ns.map V.int) := w.2 H (Keep.refl st H)
theorem Wd.dr (w : Wd K st sc ns H) : Dr st H H := ⟨Keep.refl st H, w.1⟩
theorem Dr.trans (a : Dr st H H1) (b : Dr st H1 H2) : Dr st H H2 := ⟨a.1.trans b.1, b.2⟩
theorem Stt.ne (s : Stt H st) (h : H p = none) : p ≠ st := fun e => by
  obtain ⟨k, v, q⟩ := s
  rw [e, q] at h
  cases h
theorem Stt.upd (s : Stt H st) (h : p ≠ st) : Stt (upd H p o) st := by
  obtain ⟨k, v, q⟩ := s
  exact ⟨k, v, by rw [upd_ne h.symm]; exact q⟩
theorem same_new (h : H p = none) : Same H (upd H p o) := fun b x e => by
  rw [upd_ne (ne_of_none e h)]
  exact e
theorem Dr.same (w : Stt H st) (a : Same H H1) : Dr st H H1 := ⟨Keep.of a, by
  obtain ⟨k, v, q⟩ := w
  exact ⟨k, v, a _ _ q⟩⟩
theorem Dr.new (d : Dr st H H1) (h : H1 p = none) : Dr st H (upd H1 p o) := d.trans (Dr.same d.2 (same_new h))
theorem Dr.put (w : Stt H st) (d : Dr st H H1) (h : H p = none) : Dr st H (upd H1 p o) :=
  ⟨fun a x n e => by
    rw [upd_ne (ne_of_none e h)]
    exact d.1 a x n e, d.2.upd (w.ne h)⟩
theorem Wd.new (w : Wd K st sc ns H) (h : H p = none) : Wd K st sc ns (upd H p o) := w.next (Dr.same w.1 (same_new h))
theorem Wd.same (w : Wd K st sc ns H) (h : Same H H1) : Wd K st sc ns H1 := w.next (Dr.same w.1 h)
theorem Dr.at (d : Dr st H H1) (n : p ≠ st) (h : H p = some o) : H1 p = some o := d.1 p o n h
end
/-! ### tuples whose object has no dict -/
def Tk (H : Hp) (p : Addr) (xs : List V) : Prop := ∃ o : Obj, o.dict = Option.none ∧ H p = some (.frz o (.tup xs))
section
variable {K : PySem.W.Frag} {st sc p : Addr} {H H1 : Hp} {xs : List V}
theorem Tk.seq (h : Tk H p xs) : SqT K H p xs := let ⟨o, _, e⟩ := h; .inl (.inr ⟨o, e⟩)
theorem Tk.ne (h : Tk H p xs) (s : Stt H st) : p ≠ st := fun e => by
  obtain ⟨o, _, q⟩ := h
  obtain ⟨k, v, r⟩ := s
  rw [e, r] at q
  cases q
theorem Tk.next (h : Tk H p xs) (s : Stt H st) (d : Dr st H H1) : Tk H1 p xs := by
  have n := h.ne s
  obtain ⟨o, a, e⟩ := h
  exact ⟨o, a, d.1 _ _ n e⟩
theorem Tk.same (h : Tk H p xs) (d : Same H H1) : Tk H1 p xs := let ⟨o, a, e⟩ := h; ⟨o, a, d _ _ e⟩
theorem Tk.mk {o : Obj} (h : o.dict = Option.none) : Tk (upd H p (.frz o (.tup xs))) p xs := ⟨o, h, upd_same⟩
end
section
variable {X : Cx}
def zTup (K : PySem.W.Frag) : List V → Hp → VK → Prop := fun xs H Q => ∃ p ys, xs = [V.ref p] ∧ SqL K H p ys ∧
  ∀ (l : Addr) (o : Obj), H l = none → o.dict = Option.none → Q (.ref l) (upd H l (.frz o (.tup ys)))
theorem y_tup : CallR X (.type "tuple") (zTup X.K) := by
  intro pins s σ H xs us Q I r h
  obtain ⟨p, ys, rfl, hq, q⟩ := h
  obtain ⟨u, rfl, rx⟩ := vals1 r
  cases rx
  obtain ⟨its, r', pl, hz⟩ := I.list hq
  have hlen := r'.length
  refine call_tuple_list pl.isList (fun h' kp => ?_) (by simp only [List.size_toArray] <;> omega)
  have I1 : Inv X pins σ H { s with heap := h' } := I.kept (t' := s.toks) kp
  refine ⟨.ref h'.objs.size, _, I1.laid (t' := s.toks) (o := .frz { cls := .type "tuple", data := .seq its.toArray } (.tup ys)) (fun b o e => Heap.get?_push_of_some _ e) (Nat.le_refl _) ?_, rfl, q _ _ (I1.hok.fresh (Nat.le_refl _)) rfl⟩
  exact ⟨Heap.get?_push_size _ rfl, hz, its, r', IsTup.new _ _⟩
def zTT (t : TA) : TE := fun σ H Q => t σ H fun xs H1 => xs.length ≤ sizeLine ∧ ∀ (p : Addr) (o : Obj), H1 p = none → o.dict = Option.none → Q (.ref p) (upd H1 p (.frz o (.tup xs)))
theorem y_tt {es : List Expr} {t : TA} {pos : Pos} {x1} (h : PA X es t) : PE X (.Tuple es x1 pos) (zTT t) := by
  refine ⟨fun pins s σ H Q I hq => ?_⟩
  refine wpAny_Tuple_spliced (thn (h.run pos pins s σ H _ I hq) fun us s1 ⟨xs, H1, I1, r, z, q⟩ => ⟨by rw [← r.length]; exact z, ?_⟩)
  refine ⟨.ref s1.heap.objs.size, _, I1.laid (t' := s1.toks) (o := .frz { cls := .type "tuple", data := .seq us.toArray } (.tup xs)) (fun b u e => Heap.get?_push_of_some _ e) (Nat.le_refl _) ?_, rfl, q _ _ (I1.hok.fresh (Nat.le_refl _)) rfl⟩
  exact ⟨Heap.get?_push_size _ rfl, z, us, r, IsTup.new _ _⟩
def zCat : R2 := fun x y H Q => ∃ a b xs ys, x = .ref a ∧ y = .ref b ∧ Tk H a xs ∧ Tk H b ys ∧ xs ≠ [] ∧ xs.length + ys.length ≤ sizeLine ∧
  ∀ (p : Addr) (H' : Hp), Same H H' → Tk H' p (xs ++ ys) → Q (.ref p) H'
theorem y_cat : OpR X (binaryOp .Add) zCat := by
  intro pins s σ H x y v u Q I rx ry h
  obtain ⟨a, b, xs, ys, rfl, rfl, ha, hb, hx, hz, q⟩ := h
  cases rx
  cases ry
  have ha' : SqT X.K H a xs := ha.seq
  have hb' : SqT X.K H b ys := hb.seq
  obtain ⟨its, r1, p1, _⟩ := I.tuple ha'
  obtain ⟨its2, r2, p2, _⟩ := I.tuple hb'
  refine HT.cat_tup p1 p2 (fun z => hx (r1.nil_iff.mp z)) (fun z => ?_) (fun z => ?_) (by rw [← r1.length, ← r2.length]; exact hz)
  · have e := r2.nil_iff.mp z
    subst e
    exact ⟨.ref a, H, I, rfl, q a H (Same.refl H) (by rw [List.append_nil]; exact ha)⟩
  · refine ⟨.ref s.heap.objs.size, _, I.laid (t' := s.toks) (o := .frz { cls := .type "tuple", data := .seq (its ++ its2).toArray } (.tup (xs ++ ys))) (fun b ob q => Heap.get?_push_of_some _ q) (Nat.le_refl _) ?_, rfl, q _ _ (same_new (I.hok.fresh (Nat.le_refl _))) (Tk.mk rfl)⟩
    exact ⟨Heap.get?_push_size _ rfl, by rw [List.length_append]; exact hz, _, r1.append r2, IsTup.new _ _⟩
/-- t.index(z), z in t -/
def zTIx (to te : TE) : TE := fun σ H Q => to σ H fun x H1 => ∃ (p : Addr) (ys : List Str), x = .ref p ∧ Tk H1 p (ys.map V.str) ∧ te σ H1 fun y H2 => ∃ (z : Str) (j : Nat), y = .str z ∧ Tk H2 p (ys.map V.str) ∧
  ys[j]? = some z ∧ (∀ m, m < j → ys[m]? ≠ some z) ∧ Q (.int (j : Nat)) H2
theorem y_tix {o e : Expr} {to te : TE} {apos cpos : Pos} (ho : PE X o to) (he : PE X e te)
    (hbase : attributeBase o "index" X.env (eval o X.env) = eval o X.env := by rfl)
    (hfew : ((backTo cpos (starEach [e] X.env)).all (fun x => !x.1) && (backToKw cpos (keywordEach [] X.env)).all (fun x => x.1.isSome)
      && decide ([e].length + ([] : List Keyword).length + (if ([] : List Keyword).isEmpty then 0 else 1) < 30)) = true := by rfl)
    (hline : (apos.endLine == cpos.line) = true := by rfl) (hs : starEach [e] X.env = (false, eval e X.env) :: starEach [] X.env := by rfl) (hplain : (backTo cpos (starEach [] X.env)).any (·.1) = false := by rfl) :
    PE X (.Call (.Attribute o "index" apos) [e] [] cpos) (zTIx to te) := by
  refine ⟨fun pins s σ H Q I h => ?_⟩
  refine wpAny_Call_method_late hbase hfew hline rfl (thn (ho.run pins s σ H _ I h) fun v s1 ⟨x, H1, I1, r1, q1⟩ => ?_)
  obtain ⟨p, ys, rfl, tk, q1⟩ := q1
  cases r1
  obtain ⟨o, od, oe⟩ := tk
  obtain ⟨e1, z1, its1, r1', o2, e2, c2, n2, d2⟩ := I1.hok p _ oe
  have hA := (pa_cons he (pa_nil (X := X)) hs).run cpos pins s1 σ H1 (fun vs H2 => match vs with
    | [y] => ∃ (z : Str) (j : Nat), y = .str z ∧ Tk H2 p (ys.map V.str) ∧ ys[j]? = some z ∧ (∀ m, m < j → ys[m]? ≠ some z) ∧ Q (.int (j : Nat)) H2
    | _ => False) I1 q1
  rw [hs] at hA ⊢
  refine ⟨"tuple", "tuple.index", PySem.F.plainAttrs_tuple, PySem.F.slot_tuple_index, PySem.F.type_tuple_index, ⟨o2, e2, c2⟩, fun a ea => ?_, ?_⟩
  · cases ea
    exact ⟨o, e1, od⟩
  refine Calls.callWith_builtin (by show (false || (backTo cpos (starEach [] X.env)).any (·.1)) = false; rw [hplain] <;> rfl) (Calls.evalArgs_plain ?_)
  refine thn hA fun us s2 ⟨vs, H2, I2, r2, q2⟩ => ?_
  match vs, q2, r2 with
  | [y], q2, r2 =>
  obtain ⟨z, j, rfl, tk2, hj, hm, q⟩ := q2
  exact mt_tup_index pins s2 σ H2 (.ref p) [.str z] _ us Q I2 rfl r2 ⟨p, ys, z, j, rfl, rfl, tk2.seq, hj, hm, q⟩
end

/-! ### readings, one step at a time -/
def wBl (x : V) (H : Hp) (Q : Bool → Hp → Prop) : Prop := ∃ k, x = .bl k ∧ Q k H
def wPart (x : V) (H : Hp) (Q : Option Int → Hp → Prop) : Prop := ∃ i, x = V.int i ∧ Q (some i) H
def wM (x : V) (P : Prop) : Prop := (∃ a, x = V.str a) ∧ P
def zLenS : List V → Hp → VK → Prop := fun xs H Q => ∃ z, xs = [V.str z] ∧ z.length ≤ sizeLine ∧ Q (.int z.length) H
def zLenQ (K : PySem.W.Frag) : List V → Hp → VK → Prop := fun xs H Q => ∃ p ys, xs = [V.ref p] ∧ (SqL K H p ys ∨ SqT K H p ys) ∧ Q (.int ys.length) H
def zInt : List V → Hp → VK → Prop := fun xs H Q => (∃ i, xs = [V.int i] ∧ Q (.int i) H) ∨ ∃ k, xs = [V.bl k] ∧ Q (.int (if k then 1 else 0)) H
def zJoin (K : PySem.W.Frag) : V → List V → Hp → VK → Prop := fun x xs H Q => ∃ a p, ∃ ys : List Str, x = .str a ∧ xs = [V.ref p] ∧ (SqL K H p (ys.map V.str) ∨ SqT K H p (ys.map V.str)) ∧
    (ys.map (·.length)).sum + ys.length * a.length ≤ 16777216 ∧ Q (.str (Txt.join a ys)) H
def zStarts : V → List V → Hp → VK → Prop := fun x xs H Q => ∃ a b, x = .str a ∧ xs = [V.str b] ∧ Q (.bl (Txt.startswith a b)) H
def zEnds : V → List V → Hp → VK → Prop := fun x xs H Q => ∃ a b, x = .str a ∧ xs = [V.str b] ∧ Q (.bl (Txt.endswith a b)) H
def zRstrip : V → List V → Hp → VK → Prop := fun x xs H Q => ∃ a b, x = .str a ∧ xs = [V.str b] ∧ a.length ≤ sizeLine ∧ Q (.str (Txt.rstripChars a b)) H
def zSplit : V → List V → Hp → VK → Prop := fun x xs H Q => ∃ a b, x = .str a ∧ xs = [V.str b] ∧ (b.length == 0) = false ∧ a.length + 2 ≤ sizeLine ∧ rNewStrs (Txt.split a b) H Q
def zPartition : V → List V → Hp → VK → Prop := fun x xs H Q => ∃ a b, x = .str a ∧ xs = [V.str b] ∧ (b.length == 0) = false ∧ a.length ≤ sizeLine ∧
    ∀ p, H p = none → Q (.ref p) (upd H p (.tup [.str (Txt.partition a b).1, .str (Txt.partition a b).2.1, .str (Txt.partition a b).2.2]))
def zAdS : R2 := fun x y H Q => ∃ i j, x = .str i ∧ y = .str j ∧ i.length + j.length ≤ sizeLine ∧ Q (.str (i ++ j)) H
def zIn1 : R2 := fun x y H Q => ∃ (c : Nat) (z : Str), x = .str ⟨#[c]⟩ ∧ y = .str z ∧ Q (.bl (decide (c ∈ z.cps.toList))) H
def zInS (neg : Bool) : R2 := fun x y H Q => ∃ i j, x = .str i ∧ y = .str j ∧ Q (.bl (if neg then !(!(Builtin.Str.occurrences j i 0 j.length 1).isEmpty) else !(Builtin.Str.occurrences j i 0 j.length 1).isEmpty)) H
def zIsN (neg : Bool) : R2 := fun x y H Q => y = .non ∧ Q (.bl (if neg then !decide (x = .non) else decide (x = .non))) H
def zRepS : R2 := fun x y H Q => ∃ (z : Str) (k : Int), x = .str z ∧ y = .int k ∧ 0 ≤ k ∧ z.length * k.toNat ≤ sizeLine ∧ Q (.str ⟨((List.replicate k.toNat (tl z)).flatten).toArray⟩) H
def zTruth (K : PySem.W.Frag) (ta : TE) : TT := fun σ H Q => ta σ H fun x H' => ∃ k, TruV K x H' k ∧ Q k H'
def zJs (ts : List TE) : TE := fun σ H Q => tJs ts Str.empty σ H fun out H1 => Q (.str out) H1
def wJs (ts : List TE) (acc : Str) (σ : L2.St) (Q : Str → Hp → Prop) (x : V) (H : Hp) : Prop := ∃ y : Str, x = .str y ∧ (acc ++ y).length ≤ sizeLine ∧ tJs ts (acc ++ y) σ H Q
def wFmt (x : V) (H : Hp) (Q : VK) : Prop := (∃ y : Str, x = .str y ∧ y.length ≤ sizeLine ∧ Q (.str y) H) ∨ ∃ i : Int, x = .int i ∧ i.natAbs.log2 < 1920 ∧ Q (.str (toString i)) H
def wFmtR (x : V) (H : Hp) (Q : VK) : Prop := (∃ y : Str, x = .str y ∧ (reprText y).length ≤ sizeLine ∧ Q (.str (reprText y)) H) ∨ ∃ i : Int, x = .int i ∧ i.natAbs.log2 < 1920 ∧ Q (.str (toString i)) H
def wCh (r' : R2) (tc : TE) (σ : L2.St) (Q : VK) (y z : V) (H : Hp) : Prop := ∃ k, z = .bl k ∧ if k = true then tc σ H fun w H1 => r' y w H1 Q else Q (.bl false) H
section
variable {X : Cx}
theorem y_lenS : CallR X (.builtin "len") zLenS := call_len_str
theorem y_lenQ : CallR X (.builtin "len") (zLenQ X.K) := call_len_seq
theorem y_int : CallR X (.type "int") zInt := call_int1
theorem y_join : MtR X "str.join" (zJoin X.K) := mt_join
theorem y_starts : MtR X "str.startswith" zStarts := mt_startswith
theorem y_ends : MtR X "str.endswith" zEnds := mt_endswith
theorem y_rstrip : MtR X "str.rstrip" zRstrip := mt_rstripChars
theorem y_split : MtR X "str.split" zSplit := mt_split
theorem y_partition : MtR X "str.partition" zPartition := mt_partition
theorem y_adS : OpR X (binaryOp .Add) zAdS := op_add_str
theorem y_in1 : OpR X (compareOp .In) zIn1 := op_in_sign
theorem y_inS : OpR X (compareOp .In) (zInS false) := op_in_str
theorem y_ninS : OpR X (compareOp .NotIn) (zInS true) := op_notIn_str
theorem y_isN : OpR X (compareOp .Is) (zIsN false) := op_isN
theorem y_notN : OpR X (compareOp .IsNot) (zIsN true) := op_notN
theorem y_truth {a : Expr} {ta : TE} (ha : PE X a ta) (he : ∀ whole, isTrue a X.env whole = (do let v ← whole; standAt a.pos; holding [v] (truthy v))) : PT X a (zTruth X.K ta) := pt_truth ha he
theorem y_joined {v1 v2 : Expr} {rest : List Expr} {ts : List TE} {pos : Pos} (h : PJ X (v1 :: v2 :: rest) ts) : PE X (.JoinedStr (v1 :: v2 :: rest) pos) (zJs ts) := pe_joined h
end
section
variable {σ : L2.St} {H : Hp} {Q : VK} {QB : Bool → Hp → Prop} {QA : List V → Hp → Prop} {QO : Option Int → Hp → Prop} {QS : Str → Hp → Prop} {QG : L2.St → Hp → Prop}
  {nx bk ct : L2.St → Hp → Prop} {rt : VK} {t u : TS} {ta tb tc : TE} {tA tB' : TT} {as : TA} {g : TG} {v : V} {i j : Int} {x y : Str} {b : Bool} {r r' : R2} {P : Prop} {E : XK} {K : PySem.W.Frag}
theorem rd_seq (h : t ⟨u ⟨nx, rt, bk, ct⟩, rt, bk, ct⟩ σ H) : tSeq t u ⟨nx, rt, bk, ct⟩ σ H := h
theorem rd_next (h : nx σ H) : tNext ⟨nx, rt, bk, ct⟩ σ H := h
theorem rd_asg (h : ta σ H fun x H1 => g x σ H1 nx) : tAsg ta g ⟨nx, rt, bk, ct⟩ σ H := h
theorem rd_ifS (h : tA σ H fun b H1 => if b = true then t ⟨nx, rt, bk, ct⟩ σ H1 else u ⟨nx, rt, bk, ct⟩ σ H1) : tIfS tA t u ⟨nx, rt, bk, ct⟩ σ H := h
theorem rd_ret (h : ta σ H rt) : tRet ta ⟨nx, rt, bk, ct⟩ σ H := h
theorem rd_retN (h : rt .non H) : tRetN ⟨nx, rt, bk, ct⟩ σ H := h
theorem rd_drop (h : ta σ H fun _ H1 => nx σ H1) : tDrop ta ⟨nx, rt, bk, ct⟩ σ H := h
theorem rd_n0 {a} {l : L2.St} (h : QG (some v :: l) H) : gName 0 v (a :: l) H QG := h
theorem rd_n1 {a a1} {l : L2.St} (h : QG (a :: some v :: l) H) : gName 1 v (a :: a1 :: l) H QG := h
theorem rd_n2 {a a1 a2} {l : L2.St} (h : QG (a :: a1 :: some v :: l) H) : gName 2 v (a :: a1 :: a2 :: l) H QG := h
theorem rd_n3 {a a1 a2 a3} {l : L2.St} (h : QG (a :: a1 :: a2 :: some v :: l) H) : gName 3 v (a :: a1 :: a2 :: a3 :: l) H QG := h
theorem rd_n4 {a a1 a2 a3 a4} {l : L2.St} (h : QG (a :: a1 :: a2 :: a3 :: some v :: l) H) : gName 4 v (a :: a1 :: a2 :: a3 :: a4 :: l) H QG := h
theorem rd_n5 {a a1 a2 a3 a4 a5} {l : L2.St} (h : QG (a :: a1 :: a2 :: a3 :: a4 :: some v :: l) H) : gName 5 v (a :: a1 :: a2 :: a3 :: a4 :: a5 :: l) H QG := h
theorem rd_n6 {a a1 a2 a3 a4 a5 a6} {l : L2.St} (h : QG (a :: a1 :: a2 :: a3 :: a4 :: a5 :: some v :: l) H) : gName 6 v (a :: a1 :: a2 :: a3 :: a4 :: a5 :: a6 :: l) H QG := h
theorem rd_n7 {a a1 a2 a3 a4 a5 a6 a7} {l : L2.St} (h : QG (a :: a1 :: a2 :: a3 :: a4 :: a5 :: a6 :: some v :: l) H) : gName 7 v (a :: a1 :: a2 :: a3 :: a4 :: a5 :: a6 :: a7 :: l) H QG := h
theorem rd_n8 {a a1 a2 a3 a4 a5 a6 a7 a8} {l : L2.St} (h : QG (a :: a1 :: a2 :: a3 :: a4 :: a5 :: a6 :: a7 :: some v :: l) H) : gName 8 v (a :: a1 :: a2 :: a3 :: a4 :: a5 :: a6 :: a7 :: a8 :: l) H QG := h
theorem rd_n9 {a a1 a2 a3 a4 a5 a6 a7 a8 a9} {l : L2.St} (h : QG (a :: a1 :: a2 :: a3 :: a4 :: a5 :: a6 :: a7 :: a8 :: some v :: l) H) : gName 9 v (a :: a1 :: a2 :: a3 :: a4 :: a5 :: a6 :: a7 :: a8 :: a9 :: l) H QG := h
theorem rd_n10 {a a1 a2 a3 a4 a5 a6 a7 a8 a9 b0} {l : L2.St} (h : QG (a :: a1 :: a2 :: a3 :: a4 :: a5 :: a6 :: a7 :: a8 :: a9 :: some v :: l) H) : gName 10 v (a :: a1 :: a2 :: a3 :: a4 :: a5 :: a6 :: a7 :: a8 :: a9 :: b0 :: l) H QG := h
theorem rd_n11 {a a1 a2 a3 a4 a5 a6 a7 a8 a9 b0 b1} {l : L2.St} (h : QG (a :: a1 :: a2 :: a3 :: a4 :: a5 :: a6 :: a7 :: a8 :: a9 :: b0 :: some v :: l) H) : gName 11 v (a :: a1 :: a2 :: a3 :: a4 :: a5 :: a6 :: a7 :: a8 :: a9 :: b0 :: b1 :: l) H QG := h
theorem rd_v0 {l : L2.St} (h : Q v H) : tVar 0 (some v :: l) H Q := ⟨v, rfl, h⟩
theorem rd_v1 {a} {l : L2.St} (h : Q v H) : tVar 1 (a :: some v :: l) H Q := ⟨v, rfl, h⟩
theorem rd_v2 {a a1} {l : L2.St} (h : Q v H) : tVar 2 (a :: a1 :: some v :: l) H Q := ⟨v, rfl, h⟩
theorem rd_v3 {a a1 a2} {l : L2.St} (h : Q v H) : tVar 3 (a :: a1 :: a2 :: some v :: l) H Q := ⟨v, rfl, h⟩
theorem rd_v4 {a a1 a2 a3} {l : L2.St} (h : Q v H) : tVar 4 (a :: a1 :: a2 :: a3 :: some v :: l) H Q := ⟨v, rfl, h⟩
theorem rd_v5 {a a1 a2 a3 a4} {l : L2.St} (h : Q v H) : tVar 5 (a :: a1 :: a2 :: a3 :: a4 :: some v :: l) H Q := ⟨v, rfl, h⟩
theorem rd_v6 {a a1 a2 a3 a4 a5} {l : L2.St} (h : Q v H) : tVar 6 (a :: a1 :: a2 :: a3 :: a4 :: a5 :: some v :: l) H Q := ⟨v, rfl, h⟩
theorem rd_v7 {a a1 a2 a3 a4 a5 a6} {l : L2.St} (h : Q v H) : tVar 7 (a :: a1 :: a2 :: a3 :: a4 :: a5 :: a6 :: some v :: l) H Q := ⟨v, rfl, h⟩
theorem rd_v8 {a a1 a2 a3 a4 a5 a6 a7} {l : L2.St} (h : Q v H) : tVar 8 (a :: a1 :: a2 :: a3 :: a4 :: a5 :: a6 :: a7 :: some v :: l) H Q := ⟨v, rfl, h⟩
theorem rd_v9 {a a1 a2 a3 a4 a5 a6 a7 a8} {l : L2.St} (h : Q v H) : tVar 9 (a :: a1 :: a2 :: a3 :: a4 :: a5 :: a6 :: a7 :: a8 :: some v :: l) H Q := ⟨v, rfl, h⟩
theorem rd_v10 {a a1 a2 a3 a4 a5 a6 a7 a8 a9} {l : L2.St} (h : Q v H) : tVar 10 (a :: a1 :: a2 :: a3 :: a4 :: a5 :: a6 :: a7 :: a8 :: a9 :: some v :: l) H Q := ⟨v, rfl, h⟩
theorem rd_v11 {a a1 a2 a3 a4 a5 a6 a7 a8 a9 b0} {l : L2.St} (h : Q v H) : tVar 11 (a :: a1 :: a2 :: a3 :: a4 :: a5 :: a6 :: a7 :: a8 :: a9 :: b0 :: some v :: l) H Q := ⟨v, rfl, h⟩
theorem rd_c (h : Q v H) : tC v σ H Q := h
theorem rd_op (h : ta σ H fun x H1 => tb σ H1 fun y H2 => r x y H2 Q) : tOp r ta tb σ H Q := h
theorem rd_i0 {f : Int → Int → V} (h : Q (f i j) H) : rI0 f (.int i) (.int j) H Q := ⟨i, j, rfl, rfl, h⟩
theorem rd_iC {f : Int → Int → V} {C : Int → Int → Prop} (h : Q (f i j) H) (c : C i j) : rI C f (.int i) (.int j) H Q := ⟨i, j, rfl, rfl, c, h⟩
theorem rd_un {f : V → Hp → VK → Prop} (h : ta σ H fun x H1 => f x H1 Q) : tUn f ta σ H Q := h
theorem rd_u {f : Int → V} (h : Q (f i) H) : rU f (.int i) H Q := ⟨i, rfl, h⟩
theorem rd_eqI (h : Q (.bl (decide (i = j))) H) : rEq (.int i) (.int j) H Q := ⟨rfl, by
  rw [show decide (V.int i = V.int j) = decide (i = j) by simp only [V.int.injEq]]
  exact h⟩
theorem rd_neI (h : Q (.bl (!decide (i = j))) H) : rNe (.int i) (.int j) H Q := ⟨rfl, by
  rw [show decide (V.int i = V.int j) = decide (i = j) by simp only [V.int.injEq]]
  exact h⟩
theorem rd_eqS (h : Q (.bl (decide (x = y))) H) : rEq (.str x) (.str y) H Q := ⟨rfl, by
  rw [show decide (V.str x = V.str y) = decide (x = y) by simp only [V.str.injEq]]
  exact h⟩
theorem rd_neS (h : Q (.bl (!decide (x = y))) H) : rNe (.str x) (.str y) H Q := ⟨rfl, by
  rw [show decide (V.str x = V.str y) = decide (x = y) by simp only [V.str.injEq]]
  exact h⟩
theorem rd_test (h : ta σ H fun x H1 => wBl x H1 QB) : tTest ta σ H QB := h
theorem rd_tB (h : ta σ H fun x H1 => wBl x H1 QB) : tB ta σ H QB := h
theorem rd_wBl (h : QB b H) : wBl (.bl b) H QB := ⟨b, rfl, h⟩
theorem rd_and (h : tA σ H fun c H1 => if c = true then tB' σ H1 QB else QB false H1) : tAnd tA tB' σ H QB := h
theorem rd_or (h : tA σ H fun c H1 => if c = true then QB true H1 else tB' σ H1 QB) : tOr tA tB' σ H QB := h
theorem rd_not (h : tA σ H fun c H1 => QB (!c) H1) : tNot tA σ H QB := h
theorem rd_notV (h : ta σ H fun x H1 => wBl x H1 fun c H2 => Q (.bl (!c)) H2) : tNotV ta σ H Q := h
theorem rd_andV (h : ta σ H fun x H1 => wBl x H1 fun c H2 => if c = true then tb σ H2 Q else Q (.bl false) H2) : tAndV ta tb σ H Q := h
theorem rd_orV (h : ta σ H fun x H1 => wBl x H1 fun c H2 => if c = true then Q (.bl true) H2 else tb σ H2 Q) : tOrV ta tb σ H Q := h
theorem rd_ifE (h : tA σ H fun c H1 => if c = true then ta σ H1 Q else tb σ H1 Q) : tIf tA ta tb σ H Q := h
theorem rd_ch (h : ta σ H fun x H1 => tb σ H1 fun y H2 => r x y H2 fun z H3 => wCh r' tc σ Q y z H3) : tChain r r' ta tb tc σ H Q := h
theorem rd_wCh {y : V} (h : if b = true then tc σ H fun w H1 => r' y w H1 Q else Q (.bl false) H) : wCh r' tc σ Q y (.bl b) H := ⟨b, rfl, h⟩
theorem rd_cb {f : List V → Hp → VK → Prop} (h : as σ H fun vs H1 => f vs H1 Q) : tCB f as σ H Q := h
theorem rd_call {sp : Sp} (h : as σ H fun vs H1 => sp vs H1 Q E) : tCall sp [] E as σ H Q := by
  unfold tCall
  simpa only [List.append_nil] using h
theorem rd_cons {tr : TA} (h : ta σ H fun x H1 => tr σ H1 fun xs H2 => QA (x :: xs) H2) : tCons ta tr σ H QA := h
theorem rd_nil (h : QA [] H) : tNil σ H QA := h
def wTT (xs : List V) (H : Hp) (Q : VK) : Prop := xs.length ≤ sizeLine ∧ ∀ (p : Addr) (o : Obj), H p = none → o.dict = Option.none → Q (.ref p) (upd H p (.frz o (.tup xs)))
def wLs (xs : List V) (H : Hp) (Q : VK) : Prop := xs.length ≤ sizeLine ∧ ∀ (p : Addr), H p = none → Q (.ref p) (upd H p (.lst xs))
theorem rd_tt (h : as σ H fun xs H1 => wTT xs H1 Q) : zTT as σ H Q := h
theorem rd_ls (h : as σ H fun xs H1 => wLs xs H1 Q) : tLst as σ H Q := h
theorem rd_sl {f : V → Option Int → Option Int → Hp → VK → Prop} {tl' th : TO} (h : ta σ H fun x H1 => tl' σ H1 fun l H2 => th σ H2 fun u H3 => f x l u H3 Q) : tSl f ta tl' th σ H Q := h
theorem rd_noP (h : QO none H) : tNoPart σ H QO := h
theorem rd_part (h : ta σ H fun x H1 => wPart x H1 QO) : tPart ta σ H QO := h
theorem rd_wPart (h : QO (some i) H) : wPart (.int i) H QO := ⟨i, rfl, h⟩
theorem rd_m1 {f : V → List V → Hp → VK → Prop} (h : ta σ H fun x H1 => wM x (tb σ H1 fun y H2 => f x [y] H2 Q)) : tM1 f ta tb σ H Q := h
theorem rd_wM (h : P) : wM (.str x) P := ⟨⟨x, rfl⟩, h⟩
theorem rd_js {ts : List TE} (h : tJs (ta :: ts) Str.empty σ H fun out H1 => Q (.str out) H1) : zJs (ta :: ts) σ H Q := h
theorem rd_jc {ts : List TE} {acc : Str} (h : ta σ H fun x H1 => wJs ts acc σ QS x H1) : tJs (ta :: ts) acc σ H QS := h
theorem rd_jn {acc : Str} (h : QS acc H) : tJs [] acc σ H QS := h
theorem rd_wJs {ts : List TE} {acc : Str} (h : tJs ts (acc ++ x) σ H QS) (c : (acc ++ x).length ≤ sizeLine) : wJs ts acc σ QS (.str x) H := ⟨x, rfl, c, h⟩
theorem rd_fmt (h : ta σ H fun x H1 => wFmt x H1 Q) : tFmt ta σ H Q := h
theorem rd_fmtR (h : ta σ H fun x H1 => wFmtR x H1 Q) : tFmtR ta σ H Q := h
theorem rd_wFmt (h : Q (.str x) H) (c : x.length ≤ sizeLine) : wFmt (.str x) H Q := .inl ⟨x, rfl, c, h⟩
theorem rd_wFmtR (h : Q (.str (reprText x)) H) (c : (reprText x).length ≤ sizeLine) : wFmtR (.str x) H Q := .inl ⟨x, rfl, c, h⟩
theorem rd_lenS (h : Q (.int x.length) H) (c : x.length ≤ sizeLine) : zLenS [.str x] H Q := ⟨x, rfl, c, h⟩
theorem rd_int (h : Q (.int i) H) : zInt [.int i] H Q := .inl ⟨i, rfl, h⟩
theorem rd_intB (h : Q (.int (if b then 1 else 0)) H) : zInt [.bl b] H Q := .inr ⟨b, rfl, h⟩
theorem rd_starts (h : Q (.bl (Txt.startswith x y)) H) : zStarts (.str x) [.str y] H Q := ⟨x, y, rfl, rfl, h⟩
theorem rd_ends (h : Q (.bl (Txt.endswith x y)) H) : zEnds (.str x) [.str y] H Q := ⟨x, y, rfl, rfl, h⟩
theorem rd_rstrip (h : Q (.str (Txt.rstripChars x y)) H) (c : x.length ≤ sizeLine) : zRstrip (.str x) [.str y] H Q := ⟨x, y, rfl, rfl, c, h⟩
theorem rd_adS (h : Q (.str (x ++ y)) H) (c : x.length + y.length ≤ sizeLine) : zAdS (.str x) (.str y) H Q := ⟨x, y, rfl, rfl, c, h⟩
theorem rd_slS {lo hi : Option Int} (h : Q (.str (cutS x lo hi)) H) (c : x.length ≤ sizeLine) : rSlS (.str x) lo hi H Q := ⟨x, rfl, c, h⟩
theorem rd_in1 {c : Nat} (h : Q (.bl (decide (c ∈ tl y))) H) : zIn1 (.str ⟨#[c]⟩) (.str y) H Q := ⟨c, y, rfl, rfl, h⟩
theorem rd_isB {c : Bool} (h : Q (.bl (decide (b = c))) H) : rIsB (.bl b) (.bl c) H Q := ⟨b, c, rfl, rfl, h⟩
theorem rd_isN (h : Q (.bl (decide (v = .non))) H) : zIsN false v .non H Q := ⟨rfl, h⟩
theorem rd_notN (h : Q (.bl (!decide (v = .non))) H) : zIsN true v .non H Q := ⟨rfl, h⟩
theorem rd_iT {A B : Prop} (h : A) : if true = true then A else B := iteT h
theorem rd_iF {A B : Prop} (h : B) : if false = true then A else B := iteF h
theorem rd_yes (h : QB true H) : tYes σ H QB := h
theorem if_dec {c A B : Prop} [Decidable c] (h1 : c → A) (h2 : ¬ c → B) : if decide c = true then A else B := ite2 (fun e => h1 (of_decide_eq_true e)) (fun e => h2 fun z => e (decide_eq_true z))
theorem if_ndec {c A B : Prop} [Decidable c] (h1 : ¬ c → A) (h2 : c → B) : if (!decide c) = true then A else B := by
  by_cases e : c
  · rw [decide_eq_true e]
    exact iteF (h2 e)
  · rw [decide_eq_false e]
    exact iteT (h1 e)
theorem if_b {A B : Prop} (h1 : b = true → A) (h2 : b = false → B) : if b = true then A else B := by
  cases b
  · exact iteF (h2 rfl)
  · exact iteT (h1 rfl)
end
theorem line_of {n : Nat} (h : n ≤ 10000000) : n ≤ sizeLine := Nat.le_trans h (by decide)
theorem lt_line {n : Nat} (h : n < 10000000) : n < sizeLine := Nat.lt_of_lt_of_le h (by decide)
theorem len_app (x y : Str) : (x ++ y).length = x.length + y.length := by rw [len_tl, len_tl, len_tl, tl_append, List.length_append]
theorem len_cut (z : Str) (lo hi : Option Int) : (cutS z lo hi).length ≤ z.length := cutS_length z lo hi
theorem len_of (s : String) : (Str.ofString s).length = s.length := by rw [len_tl, tl_ofString, List.length_map]; rfl
theorem tl_empty : tl Str.empty = [] := rfl
theorem len_empty : Str.empty.length = 0 := rfl
/-! ### a def of the top -/
def Dn (K : PySem.W.Frag) (mg : Str → Option Value) (x : Str) (st : Stmt) (ps : List Str) : Prop := ∃ f fd, mg x = some (.ref f) ∧ Fun K x x st f fd ∧ ∀ (s : Shared) (us : List Value), us.length = ps.length → BindsTo s fd ⟨us, []⟩ (ps.zip us)
def OkD (P : Program) (w : World) (K : PySem.W.Frag) (mg : Str → Option Value) (base : Heap) (CX : CXT) (k : Nat) (x : Str) (ps : List Str) (sp : Sp) : Prop :=
  ∃ f fd, mg x = some (.ref f) ∧ PySem.W.keepIn K (.ref f) = true ∧ Binds K fd ps [] ∧ FnOk P w K mg base CX k f fd ps sp
theorem dn_mk {K : PySem.W.Frag} {h : Heap} {mg : Str → Option Value} {x : Str} {st : Stmt} {ps : List Str} {f : Addr} {oc kV doc pm cdv ct : Value} {od an : Option Addr} {osl : Array (Option Value)} (X : K.In h) (G : h.Ns mainGlobals mg)
    (a : PySem.W.nsIn K mainGlobals x = some (some (.ref f))) (l : K.lookup f = some ⟨oc, od, .func (PySem.W.fnOf x x (defArgs st) (defBody st) (defScope st) .none kV doc pm an cdv ct), osl⟩)
    (c : PySem.W.codeIn K cdv x = true) (k : PySem.W.keepIn K (.ref f) = true)
    (b : ∀ (kV doc pm : Value) (an : Option Addr) (cdv ct : Value) (us : List Value), us.length = ps.length → bindArgs (PySem.W.fnOf x x (defArgs st) (defBody st) (defScope st) .none kV doc pm an cdv ct) ⟨us, []⟩ = pure (ps.zip us)) : Dn K mg x st ps :=
  ⟨f, _, PySem.W.mg_of X G a, fun_mk l c k, fun s us hl => .of_eq (b kV doc pm an cdv ct us hl)⟩
theorem binds_of {K : PySem.W.Frag} {fd : FuncData} {ps : List Str} (b : ∀ (s : Shared) (us : List Value), us.length = ps.length → BindsTo s fd ⟨us, []⟩ (ps.zip us)) : Binds K fd ps [] := fun s us _ hl => by
  rw [List.append_nil] at hl ⊢
  exact b s us hl
theorem ok_F {P : Program} {w : World} {K : PySem.W.Frag} {mg : Str → Option Value} {base : Heap} {k : Nat} {x : Str} {st : Stmt} {ps N : List Str} {sp : Sp} {f : Addr} {fd : FuncData} (F : Fun K x x st f fd) (S : FnScope N ps (defScope st))
    (len : ∀ vs H Q E, sp vs H Q E → vs.length = ps.length)
    (hbody : ∀ (cdv : Value) (A : Around) (outer : List Env) (s : Shared) (H : Hp) (vs : List V) (Q : VK) (E : XK), Room k (A.deeper (envOfC x (defScope st) s.heap.objs.size f cdv)) → sp vs H Q E →
      ∃ t, PSs (cxOf CX0 P w K mg base N x (defScope st) f cdv A outer s H E).nox (defBody st) t ∧ t ⟨fun _ H' => Q .non H', Q, fun _ _ => False, fun _ _ => False⟩ (start N vs) H) : FnOk P w K mg base CX0 (k + 1) f fd ps sp :=
  F.ok S len fun cdv A outer s H vs Q E hr h => hbody cdv A outer s H vs Q E hr h
theorem ok_mk {P : Program} {w : World} {K : PySem.W.Frag} {mg : Str → Option Value} {base : Heap} {k : Nat} {x : Str} {st : Stmt} {ps N : List Str} {sp : Sp} (d : Dn K mg x st ps) (S : FnScope N ps (defScope st))
    (len : ∀ vs H Q E, sp vs H Q E → vs.length = ps.length)
    (hbody : ∀ (f : Addr) (cdv : Value) (A : Around) (outer : List Env) (s : Shared) (H : Hp) (vs : List V) (Q : VK) (E : XK), Room k (A.deeper (envOfC x (defScope st) s.heap.objs.size f cdv)) → sp vs H Q E →
      ∃ t, PSs (cxOf CX0 P w K mg base N x (defScope st) f cdv A outer s H E).nox (defBody st) t ∧ t ⟨fun _ H' => Q .non H', Q, fun _ _ => False, fun _ _ => False⟩ (start N vs) H) : OkD P w K mg base CX0 (k + 1) x ps sp := by
  obtain ⟨f, fd, m, F, b⟩ := d
  exact ⟨f, fd, m, F.kp, binds_of b, F.ok S len fun cdv A outer s H vs Q E hr h => hbody f cdv A outer s H vs Q E hr h⟩
section
variable {X : Cx}
theorem pe_callD {k : Nat} {x : Str} {ps : List Str} {sp : Sp} {t : TA} {e : Expr} {es : List Expr} {p pos : Pos} {E : XK} (O : OkD X.prog X.w X.K X.mg X.base CX0 k x ps sp) (hr : Room k X.A) (hg : Gl X x) (hx : Passes CX0 X E) (ha : PA X (e :: es) t)
    (hdb : (x == ("__debug__" : Str)) = false := by decide) (he : starEach (e :: es) X.env = (false, eval e X.env) :: starEach es X.env := by rfl) (hpl : (backTo pos (starEach es X.env)).any (·.1) = false := by rfl) :
    PE X (.Call (.Name x p) (e :: es) [] pos) (tCall sp [] E t) := by
  obtain ⟨f, fd, m, kp, b, F⟩ := O
  exact pe_call F hr hg m kp b .nil hx ha hdb he hpl
end
def wTru (K : PySem.W.Frag) (x : V) (H : Hp) (Q : Bool → Hp → Prop) : Prop := ∃ k, TruV K x H k ∧ Q k H
section
variable {σ : L2.St} {H : Hp} {Q : VK} {QB : Bool → Hp → Prop} {K : PySem.W.Frag} {a : Addr} {xs : List V} {i k : Int} {ta : TE}
theorem rd_truth (h : ta σ H fun x H1 => wTru K x H1 QB) : zTruth K ta σ H QB := h
theorem rd_truL (c : SqL K H a xs) (h : QB (!xs.isEmpty) H) : wTru K (.ref a) H QB := ⟨_, .inl ⟨xs, c, rfl⟩, h⟩
theorem rd_lenL (c : SqL K H a xs) (h : Q (.int xs.length) H) : zLenQ K [.ref a] H Q := ⟨a, xs, rfl, .inl c, h⟩
theorem rd_lenT (c : SqT K H a xs) (h : Q (.int xs.length) H) : zLenQ K [.ref a] H Q := ⟨a, xs, rfl, .inr c, h⟩
theorem rd_ixL {v : V} (c : SqL K H a xs) (e : atI xs i = some v) (h : Q v H) : rIxL K (.ref a) (.int i) H Q := ⟨a, xs, i, v, rfl, rfl, c, e, h⟩
theorem rd_ixT {v : V} (c : SqT K H a xs) (e : atI xs i = some v) (h : Q v H) : rIxT K (.ref a) (.int i) H Q := ⟨a, xs, i, v, rfl, rfl, c, e, h⟩
theorem atI_in {α : Type} {xs : List α} {i : Int} (h0 : 0 ≤ i) (h1 : i < xs.length) : ∃ v, v ∈ xs ∧ atI xs i = some v := by
  obtain ⟨j, rfl⟩ := Int.eq_ofNat_of_zero_le h0
  have hj : j < xs.length := by omega
  exact ⟨xs[j], List.getElem_mem hj, atI_nat (List.getElem?_eq_getElem hj)⟩
end
/-! ### comprehensions and loops over a range -/
def LcR (n : Nat) (g : TG) (te : TE) (vs : List Nat) (σ : L2.St) (H1 : Hp) (D : Addr) (Qd : Hp → Prop) : Prop := ∃ W : Nat → Nat → Hp → Prop, (∃ m, W 0 m (upd H1 D (.lst []))) ∧ ∀ i m H, W i m H →
  ((Itr 0 n).stop i H ∧ Qd H) ∨ ((Itr 0 n).go i H ∧ ∃ Nx : Hp → Prop, (∀ H', Nx H' → ∃ m', m' < m ∧ W (i + 1) m' H') ∧ ∀ x H', (Itr 0 n).yld i H x H' → g x (wipe σ vs) H' fun σ2 H2 => wipe σ2 vs = wipe σ vs ∧ tYes σ2 H2 fun b H3 =>
    if b = true then te σ2 H3 fun y H4 => ∃ acc, H4 D = some (.lst acc) ∧ acc.length < sizeLine ∧ Nx (upd H4 D (.lst (acc ++ [y]))) else Nx H3)
def wRg (zs : List V) (H : Hp) (R : Nat → Hp → Prop) : Prop := ∃ j : Int, zs = [V.int j] ∧ -(2 ^ 62) ≤ j ∧ j < 2 ^ 62 ∧ R j.toNat H
section
variable {σ : L2.St} {H H1 : Hp} {Q : VK} {QG : L2.St → Hp → Prop} {K : PySem.W.Frag} {st sc D : Addr} {ns : List Int} {as : TA} {g : TG} {te ta tb : TE} {vs : List Nat} {n : Nat} {G : V → Prop} {Qd : Hp → Prop}
theorem rd_lcR (h : as σ H fun zs H1 => wRg zs H1 fun n H2 => ∀ D, H2 D = none → LcR n g te vs σ H2 D (Q (.ref D))) : tLc (iRng1 as) g tYes te vs σ H Q := by
  unfold tLc iRng1
  exact h
theorem rd_wRg {j : Int} {R : Nat → Hp → Prop} (h0 : 0 ≤ j) (h1 : j ≤ 1000000) (h : R j.toNat H) : wRg [.int j] H R := ⟨j, rfl, by omega, by omega, h⟩
theorem lcR (W : Wd K st sc ns H1) (nD : H1 D = none) (hn : n ≤ 1000)
    (hs : ∀ (i : Nat) H (R : VK), i < n → Wd K st sc ns H → Dr st H1 H → (∀ y H', Dr st H H' → G y → R y H') → g (.int (0 + (i : Nat))) (wipe σ vs) H fun σ2 H2 => wipe σ2 vs = wipe σ vs ∧ te σ2 H2 R)
    (hd : ∀ H' ys, Dr st H1 H' → Wd K st sc ns H' → D ≠ st → H' D = some (.lst ys) → ys.length = n → (∀ y ∈ ys, G y) → Qd H') : LcR n g te vs σ H1 D Qd := by
  have nS : D ≠ st := W.1.ne nD
  refine lc_range (Pv := fun i H => Dr st H1 H ∧ ∃ ys, H D = some (.lst ys) ∧ ys.length = i ∧ ∀ y ∈ ys, G y) ?_ (fun i H hi hP => ?_) (fun H hP => ?_)
  · exact ⟨W.dr.new nD, [], upd_same, rfl, fun _ h => nomatch h⟩
  · obtain ⟨d, ys, e, el, eg⟩ := hP
    have q := hs i H (fun y H4 => ∃ acc, H4 D = some (.lst acc) ∧ acc.length < sizeLine ∧ (Dr st H1 (upd H4 D (.lst (acc ++ [y]))) ∧ ∃ ys, (upd H4 D (.lst (acc ++ [y]))) D = some (.lst ys) ∧ ys.length = i + 1 ∧ ∀ y ∈ ys, G y)) hi (W.next d) d (fun y H' d' gy => by
      have e' : H' D = some (.lst ys) := d'.1 _ _ nS e
      refine ⟨ys, e', lt_line (by omega), Dr.put W.1 (d.trans d') nD, ys ++ [y], upd_same, by rw [List.length_append, el]; rfl, fun z hz => ?_⟩
      rcases List.mem_append.mp hz with hz | hz
      · exact eg z hz
      · rw [List.mem_singleton.mp hz]
        exact gy)
    exact q
  · obtain ⟨d, ys, e, el, eg⟩ := hP
    exact hd H ys d (W.next d) nS e el eg
def wSet (t : TSet) (o i v : V) (H : Hp) (Q : Hp → Prop) : Prop := t o i v H Q
theorem rd_gSub {v : V} {t : TSet} (h : ta σ H fun o H1 => tb σ H1 fun i H2 => t o i v H2 fun H3 => QG σ H3) : gSub ta tb t v σ H QG := h
theorem rd_setL {a : Addr} {k : Int} {v : V} {xs : List V} {j : Nat} {QH : Hp → Prop} (e : H a = some (.lst xs)) (hj : ixN xs.length k = some j) (h : QH (upd H a (.lst (xs.set j v)))) : rSetL (.ref a) (.int k) v H QH := ⟨a, xs, k, j, rfl, rfl, e, hj, h⟩
theorem Dr.upds (d : Dr st H H1) {k v : Int} : Dr st H (upd H1 st (.lst [.int k, .int v])) :=
  ⟨fun a x n e => by
    rw [upd_ne n]
    exact d.1 a x n e, k, v, upd_same⟩
end
theorem cut_one {z : Str} {k : Int} (h0 : 0 ≤ k) (h1 : k < z.length) : ∃ c, c ∈ tl z ∧ cutS z (some k) (some (k + 1)) = ⟨#[c]⟩ := by
  obtain ⟨j, rfl⟩ := Int.eq_ofNat_of_zero_le h0
  have hj : j < (tl z).length := by rw [← len_tl]; omega
  have hz : z.length = (tl z).length := len_tl z
  refine ⟨(tl z)[j], List.getElem_mem hj, ?_⟩
  unfold cutS
  rw [show ((j : Int) + 1) = ((j + 1 : Nat) : Int) by omega, HT.sIx_nat, HT.sIx_nat, Nat.min_eq_left (by omega), Nat.min_eq_left (by omega), show j + 1 - j = 1 by omega]
  show (⟨(List.take 1 (List.drop j (tl z))).toArray⟩ : Str) = _
  rw [List.drop_eq_getElem_cons hj]
  rfl
/-! ### texts put together -/
theorem strs_of {G : Str → Prop} : ∀ {ys : List V}, (∀ y ∈ ys, ∃ x, y = .str x ∧ G x) → ∃ xs : List Str, ys = xs.map V.str ∧ ∀ x ∈ xs, G x
  | [], _ => ⟨[], rfl, fun _ h => nomatch h⟩
  | y :: ys, h => by
    obtain ⟨x, rfl, g⟩ := h y List.mem_cons_self
    obtain ⟨xs, rfl, gs⟩ := strs_of (ys := ys) fun z hz => h z (List.mem_cons_of_mem _ hz)
    refine ⟨x :: xs, rfl, fun z hz => ?_⟩
    rcases List.mem_cons.mp hz with rfl | hz
    · exact g
    · exact gs z hz
theorem joinL_len (S : List Nat) : ∀ ps : List (List Nat), (joinL S ps).length ≤ (ps.map (·.length)).sum + ps.length * S.length
  | [] => Nat.zero_le _
  | [p] => by simp [joinL]
  | p :: q :: r => by
    have h := joinL_len S (q :: r)
    have e : joinL S (p :: q :: r) = p ++ (S ++ joinL S (q :: r)) := by first | rfl | simp [joinL]
    rw [e, List.length_append, List.length_append]
    simp only [List.map_cons, List.sum_cons, List.length_cons] at h ⊢
    rw [Nat.succ_mul]
    omega
theorem joinL_mem {S : List Nat} {c : Nat} : ∀ {ps : List (List Nat)}, c ∈ joinL S ps → c ∈ S ∨ ∃ p ∈ ps, c ∈ p
  | [], h => by simp [joinL] at h
  | [p], h => .inr ⟨p, by simp, by simpa [joinL] using h⟩
  | p :: q :: r, h => by
    have e : joinL S (p :: q :: r) = p ++ (S ++ joinL S (q :: r)) := by first | rfl | simp [joinL]
    rw [e] at h
    rcases List.mem_append.mp h with h | h
    · exact .inr ⟨p, by simp, h⟩
    · rcases List.mem_append.mp h with h | h
      · exact .inl h
      · rcases joinL_mem h with h | ⟨p', hp, h⟩
        · exact .inl h
        · exact .inr ⟨p', List.mem_cons_of_mem _ hp, h⟩
theorem joinL_nil : ∀ ps : List (List Nat), joinL [] ps = ps.flatten
  | [] => rfl
  | [p] => by simp [joinL]
  | p :: q :: r => by
    have e : joinL [] (p :: q :: r) = p ++ ([] ++ joinL [] (q :: r)) := by first | rfl | simp [joinL]
    rw [e, joinL_nil (q :: r)]
    rfl
theorem sum_le {B : Nat} : ∀ {l : List Nat}, (∀ x ∈ l, x ≤ B) → l.sum ≤ l.length * B
  | [], _ => Nat.zero_le _
  | x :: l, h => by
    have h1 := h x List.mem_cons_self
    have h2 := sum_le (l := l) fun y hy => h y (List.mem_cons_of_mem _ hy)
    rw [List.sum_cons, List.length_cons, Nat.succ_mul]
    omega
theorem lens_le {B : Nat} {xs : List Str} (h : ∀ x ∈ xs, x.length ≤ B) : (xs.map (·.length)).sum ≤ xs.length * B := by
  have q := sum_le (B := B) (l := xs.map (·.length)) fun n hn => by
    obtain ⟨x, hx, rfl⟩ := List.mem_map.mp hn
    exact h x hx
  rwa [List.length_map] at q
theorem tl_joined (a : Str) (xs : List Str) : tl (Txt.join a xs) = joinL (tl a) (xs.map tl) := by rw [join_eq, tl_join]
theorem len_joined (a : Str) (xs : List Str) : (Txt.join a xs).length ≤ (xs.map (·.length)).sum + xs.length * a.length := by
  rw [len_tl, tl_joined, len_tl a]
  have h := joinL_len (tl a) (xs.map tl)
  rw [List.length_map, List.map_map] at h
  have e : (xs.map (·.length)) = xs.map ((·.length) ∘ tl) := List.map_congr_left fun x _ => len_tl x
  rw [e]
  exact h
theorem mem_joined {a : Str} {xs : List Str} {c : Nat} (h : c ∈ tl (Txt.join a xs)) : c ∈ tl a ∨ ∃ x ∈ xs, c ∈ tl x := by
  rw [tl_joined] at h
  rcases joinL_mem h with h | ⟨p, hp, h⟩
  · exact .inl h
  · obtain ⟨x, hx, rfl⟩ := List.mem_map.mp hp
    exact .inr ⟨x, hx, h⟩
theorem tl_lit0 : tl (Str.ofString "") = [] := by rw [tl_ofString]; rfl
theorem len_ones : ∀ {xs : List Str}, (∀ x ∈ xs, ∃ c, x = ⟨#[c]⟩) → ((xs.map tl).flatten).length = xs.length
  | [], _ => rfl
  | x :: xs, h => by
    obtain ⟨c, rfl⟩ := h x List.mem_cons_self
    rw [List.map_cons, List.flatten_cons, List.length_append, len_ones fun y hy => h y (List.mem_cons_of_mem _ hy)]
    exact Nat.add_comm 1 _
section
variable {H : Hp} {Q : VK} {K : PySem.W.Frag} {p : Addr} {xs : List Str} {a : Str}
theorem rd_joinL (c : SqL K H p (xs.map V.str)) (b : (xs.map (·.length)).sum + xs.length * a.length ≤ 16777216) (h : Q (.str (Txt.join a xs)) H) : zJoin K (.str a) [.ref p] H Q := ⟨a, p, xs, rfl, rfl, .inl c, b, h⟩
end
theorem len_lit0 : (Str.ofString "").length = 0 := by rw [len_of]; rfl
theorem len_dot : (Str.ofString ".").length = 1 := by rw [len_of]; rfl
theorem tl_dot : tl (Str.ofString ".") = [46] := by rw [tl_ofString]; rfl
theorem rep_one {α : Type} (x : α) : ∀ k : Nat, (List.replicate k [x]).flatten = List.replicate k x
  | 0 => rfl
  | k + 1 => by rw [List.replicate_succ, List.flatten_cons, rep_one x k]; rfl
theorem len_ends : (Str.ofString "abcdefghijklmnopqrstuvwxyz0123456789-_+").length = 39 := by rw [len_of]; rfl
theorem len_ends2 : (Str.ofString "abcdefghijklmnopqrstuvwxyz0123456789").length = 36 := by rw [len_of]; rfl
theorem len_rs (x y : Str) : (Txt.rstripChars x y).length ≤ x.length := by first | exact PyProof.Rows.len_rstripChars x y | exact len_rstripChars x y | exact Txt.len_rstripChars x y
theorem rd_wLs {xs : List V} {H : Hp} {Q : VK} (c : xs.length ≤ 1000) (h : ∀ (p : Addr), H p = none → Q (.ref p) (upd H p (.lst xs))) : wLs xs H Q := ⟨line_of (by omega), h⟩
theorem rd_wTT {xs : List V} {H : Hp} {Q : VK} (c : xs.length ≤ 1000) (h : ∀ (p : Addr) (H' : Hp), H p = none → Same H H' → Tk H' p xs → Q (.ref p) H') : wTT xs H Q := ⟨line_of (by omega), fun p o n d => h p _ n (same_new n) (Tk.mk d)⟩
theorem rd_rep {p : Addr} {k : Int} {xs : List V} {H : Hp} {Q : VK} (e : H p = some (.lst xs)) (k0 : 0 ≤ k) (k1 : k ≤ 1000) (c : xs.length ≤ 1000) (h : ∀ q, H q = none → Q (.ref q) (upd H q (.lst (List.replicate k.toNat xs).flatten))) : rRep (.ref p) (.int k) H Q :=
  ⟨p, k, xs, rfl, rfl, e, by omega, by omega, line_of (Nat.le_trans (Nat.mul_le_mul c (show k.toNat ≤ 1000 by omega)) (by decide)), h⟩
def FrR (n : Nat) (g : TG) (tb : TS) (D : Ends) (σ : L2.St) (H : Hp) : Prop := ∃ W : Nat → Nat → L2.St → Hp → Prop, (∃ m, W 0 m σ H) ∧ ∀ i m σ H, W i m σ H →
  ((Itr 0 n).stop i H ∧ D.nx σ H) ∨ ((Itr 0 n).go i H ∧ ∃ N : L2.St → Hp → Prop, (∀ σ' H', N σ' H' → ∃ m', m' < m ∧ W (i + 1) m' σ' H') ∧ ∀ x H', (Itr 0 n).yld i H x H' → g x σ H' fun σ2 H2 => tb { D with nx := N, ct := N, bk := D.nx } σ2 H2)
def wTy (K : PySem.W.Frag) (T : String) (x : V) (H : Hp) (P : Prop) : Prop := tyV K T x H ∧ P
section
variable {σ : L2.St} {H : Hp} {Q : VK} {nx bk ct : L2.St → Hp → Prop} {rt : VK} {K : PySem.W.Frag} {as : TA} {ta : TE} {g : TG} {tb : TS} {n : Nat} {T : String} {f : V → List V → Hp → VK → Prop} {a : Addr} {xs : List V} {y : V} {P : Prop}
theorem rd_forR (h : as σ H fun zs H1 => wRg zs H1 fun n H2 => FrR n g tb ⟨nx, rt, bk, ct⟩ σ H2) : tFor (iRng1 as) g tb ⟨nx, rt, bk, ct⟩ σ H := by
  unfold tFor iRng1
  exact h
theorem forR (Pv : Nat → L2.St → Hp → Prop) (h0 : Pv 0 σ H) (hs : ∀ (i : Nat) σ H, i < n → Pv i σ H → g (.int (0 + (i : Nat))) σ H fun σ2 H2 => tb ⟨Pv (i + 1), rt, nx, Pv (i + 1)⟩ σ2 H2) (hd : ∀ σ H, Pv n σ H → nx σ H) :
    FrR n g tb ⟨nx, rt, bk, ct⟩ σ H := for_range (D := ⟨nx, rt, bk, ct⟩) Pv h0 hs hd
theorem rd_bm (h : ta σ H fun x H1 => wTy K T x H1 (as σ H1 fun xs H2 => f x xs H2 Q)) : tBM K T f ta as σ H Q := h
theorem rd_wTyL (c : SqL K H a xs) (h : P) : wTy K "list" (.ref a) H P := ⟨.inl ⟨rfl, _, c⟩, h⟩
theorem rd_append (e : H a = some (.lst xs)) (c : xs.length ≤ 1000) (h : Q .non (upd H a (.lst (xs ++ [y])))) : rAppend (.ref a) [y] H Q := ⟨a, xs, y, rfl, rfl, e, lt_line (by omega), h⟩
end
/-! ### signs below 128 -/
def Asc (x : Str) : Prop := ∀ c ∈ tl x, c < 128
theorem asc_app {x y : Str} (h : Asc x) (g : Asc y) : Asc (x ++ y) := fun c hc => by
  rw [tl_append] at hc
  rcases List.mem_append.mp hc with hc | hc
  · exact h c hc
  · exact g c hc
theorem asc_cut {x : Str} {lo hi : Option Int} (h : Asc x) : Asc (cutS x lo hi) := fun c hc => h c (List.mem_of_mem_drop (List.mem_of_mem_take (show c ∈ List.take _ (List.drop _ (tl x)) from hc)))
theorem asc_rs {x y : Str} (h : Asc x) : Asc (Txt.rstripChars x y) := fun c hc => by
  obtain ⟨j, _, e⟩ := PyProof.Rows.stripBy_right y.cps.contains x
  rw [show Txt.rstripChars x y = Builtin.Str.strSub x 0 j from e, tl_strSub] at hc
  exact h c (List.mem_of_mem_drop (List.mem_of_mem_take hc))
theorem asc_join {a : Str} {xs : List Str} (h : Asc a) (g : ∀ x ∈ xs, Asc x) : Asc (Txt.join a xs) := fun c hc => by
  rcases mem_joined hc with hc | ⟨x, hx, hc⟩
  · exact h c hc
  · exact g x hx c hc
theorem asc_of {x : Str} (h : x.cps.all (fun c => decide (c < 128)) = true) : Asc x := fun c hc => by
  rw [Array.all_eq_true'] at h
  exact of_decide_eq_true (h c (Array.mem_def.mpr hc))
theorem asc_one {c : Nat} (h : c < 128) : Asc ⟨#[c]⟩ := fun d hd => by
  rw [List.mem_singleton.mp hd]
  exact h
theorem asc_ends : Asc (Str.ofString "abcdefghijklmnopqrstuvwxyz0123456789-_+") := asc_of (by decide +kernel)
theorem asc_ends2 : Asc (Str.ofString "abcdefghijklmnopqrstuvwxyz0123456789") := asc_of (by decide +kernel)
theorem asc_dot : Asc (Str.ofString ".") := asc_of (by decide +kernel)
theorem asc_lit0 : Asc (Str.ofString "") := asc_of (by decide +kernel)
theorem ok_asc {x : Str} (h : Asc x) : PyData.strOk x = true := by
  unfold PyData.strOk
  rw [Array.all_eq_true']
  exact fun c hc => decide_eq_true (Nat.lt_trans (h c (Array.mem_def.mp hc)) (by decide))
theorem canLay_strs : ∀ {xs : List Str}, (∀ x ∈ xs, Asc x) → PyData.canLayAll0 (xs.map PyData.str) = true
  | [], _ => by simp [PyData.canLayAll0]
  | x :: xs, h => by
    simp only [List.map_cons, PyData.canLayAll0, PyData.canLay0, ok_asc (h x List.mem_cons_self), canLay_strs fun y hy => h y (List.mem_cons_of_mem _ hy), Bool.and_self]
theorem depth_strs : ∀ xs : List Str, PyData.depthAll (xs.map PyData.str) = 0
  | [] => by simp [PyData.depthAll]
  | x :: xs => by
    rw [List.map_cons, PyData.depthAll, PyData.depth, depth_strs xs]
    rfl
theorem shaped_strs {xs : List Str} (h : ∀ x ∈ xs, Asc x) : SeqAt.shaped (.tuple (xs.map PyData.str)) = true := by
  simp only [SeqAt.shaped, PyData.canLay0, PyData.depth, canLay_strs h, depth_strs]
  decide
theorem eqv_strs : ∀ xs ys : List Str, PyData.eqvAll (xs.map PyData.str) (ys.map PyData.str) = decide (xs = ys)
  | [], [] => by simp [PyData.eqvAll]
  | [], _ :: _ => by simp [PyData.eqvAll]
  | _ :: _, [] => by simp [PyData.eqvAll]
  | x :: xs, y :: ys => by
    simp only [List.map_cons, PyData.eqvAll, PyData.eqv, eqv_strs xs ys]
    by_cases h : x = y <;> by_cases h' : xs = ys <;> simp [h, h']
theorem dp_strs {K : PySem.W.Frag} {H : Hp} : ∀ xs : List Str, DpAll K H (xs.map V.str) (xs.map PyData.str)
  | [] => .nil
  | x :: xs => .cons (.str x) (dp_strs xs)
section
variable {K : PySem.W.Frag} {H : Hp} {Q : VK} {p q : Addr} {xs ys : List Str} {v : V} {t : Value} {a b : String} {r : Bool} {zs : List V}
theorem rd_neT (h1 : SqT K H p (xs.map V.str)) (h2 : SqT K H q (ys.map V.str)) (a1 : ∀ x ∈ xs, Asc x) (a2 : ∀ x ∈ ys, Asc x) (h : Q (.bl (!decide (xs = ys))) H) : rNeD K (.ref p) (.ref q) H Q :=
  ⟨_, _, .tup h1 (dp_strs xs), .tup h2 (dp_strs ys), shaped_strs a1, shaped_strs a2, by
    rw [show PyData.eqv (.tuple (xs.map PyData.str)) (.tuple (ys.map PyData.str)) = PyData.eqvAll (xs.map PyData.str) (ys.map PyData.str) by rw [PyData.eqv], eqv_strs]
    exact h⟩
theorem rd_eqT (h1 : SqT K H p (xs.map V.str)) (h2 : SqT K H q (ys.map V.str)) (a1 : ∀ x ∈ xs, Asc x) (a2 : ∀ x ∈ ys, Asc x) (h : Q (.bl (decide (xs = ys))) H) : rEqD K (.ref p) (.ref q) H Q :=
  ⟨_, _, .tup h1 (dp_strs xs), .tup h2 (dp_strs ys), shaped_strs a1, shaped_strs a2, by
    rw [show PyData.eqv (.tuple (xs.map PyData.str)) (.tuple (ys.map PyData.str)) = PyData.eqvAll (xs.map PyData.str) (ys.map PyData.str) by rw [PyData.eqv], eqv_strs]
    exact h⟩
theorem rd_isi (c : TyX K H v (.type a)) (e : kitB a b = some r) (h : Q (.bl r) H) : rIsi K [v, .ty b] H Q := ⟨v, .ty b, .type a, .type b, r, rfl, .ty b, c, kit_ty e, h⟩
theorem Tk.ty {p : Addr} {zs : List V} (h : Tk H p zs) : TyX K H (.ref p) (.type "tuple") := let ⟨_, _, e⟩ := h; .fTuple e
theorem inV_strs (z : Str) : ∀ xs : List Str, inV (.str z) (xs.map V.str) = decide (z ∈ xs)
  | [] => by simp [inV]
  | x :: xs => by
    have h := inV_strs z xs
    unfold inV at h ⊢
    rw [List.map_cons, List.any_cons, h]
    show ((x == z) || _) = _
    by_cases e : x = z
    · simp [e]
    · have e' : ¬ z = x := fun q => e q.symm
      simp [e, e']
theorem flat_strs' : ∀ xs : List Str, (xs.map V.str).all flatV = true
  | [] => rfl
  | x :: xs => by rw [List.map_cons, List.all_cons, flat_strs' xs]; rfl
theorem rd_inT {z : Str} (c : SqT K H p (xs.map V.str)) (h : Q (.bl (decide (z ∈ xs))) H) : rIn K false (.str z) (.ref p) H Q := ⟨p, _, rfl, .inr c, rfl, flat_strs' xs, by
  rw [inV_strs]
  exact h⟩
theorem rd_tup (c : SqL K H p zs) (h : ∀ (l : Addr) (H' : Hp), H l = none → Same H H' → Tk H' l zs → Q (.ref l) H') : zTup K [.ref p] H Q := ⟨p, zs, rfl, c, fun l o n d => h l _ n (same_new n) (Tk.mk d)⟩
end
/-! ### what is walked: a list, a tuple, a text -/
def WalkOf (J : It) (R : Hp → Prop) (xs : List V) : Prop := ∀ H, R H → (∀ i, i < xs.length → J.go i H) ∧ (∀ i x H', i < xs.length → J.yld i H x H' → H' = H ∧ xs[i]? = some x) ∧ ∀ i, xs.length ≤ i → J.stop i H
def oneS (c : Nat) : V := .str ⟨#[c]⟩
theorem walk_l {K : PySem.W.Frag} {a : Addr} {xs : List V} : WalkOf (Itl K a) (fun H => SqL K H a xs) xs := fun H h =>
  ⟨fun i hi => ⟨xs, xs[i], h, List.getElem?_eq_getElem hi⟩, fun i x H' hi y => ⟨y.1, y.2 xs h⟩, fun i hi => ⟨xs, h, hi⟩⟩
theorem walk_t {K : PySem.W.Frag} {a : Addr} {xs : List V} : WalkOf (Itt K a) (fun H => SqT K H a xs) xs := fun H h =>
  ⟨fun i hi => ⟨xs, xs[i], h, List.getElem?_eq_getElem hi⟩, fun i x H' hi y => ⟨y.1, y.2 xs h⟩, fun i hi => ⟨xs, h, hi⟩⟩
theorem walk_s {z : Str} : WalkOf (Its z) (fun _ => True) ((tl z).map oneS) := fun H _ => by
  have e : ((tl z).map oneS).length = z.cps.size := by rw [List.length_map, Array.length_toList]
  refine ⟨fun i hi => ?_, fun i x H' hi y => ?_, fun i hi => ?_⟩
  · rw [e] at hi
    exact hi
  · obtain ⟨e1, c, hc, rfl⟩ := y
    refine ⟨e1, ?_⟩
    rw [List.getElem?_map, Array.getElem?_toList, hc]
    rfl
  · rw [e] at hi
    exact hi
def LcJ (J : It) (g : TG) (tt : TT) (te : TE) (vs : List Nat) (σ : L2.St) (H1 : Hp) (D : Addr) (Qd : Hp → Prop) : Prop := ∃ W : Nat → Nat → Hp → Prop, (∃ m, W 0 m (upd H1 D (.lst []))) ∧ ∀ i m H, W i m H →
  (J.stop i H ∧ Qd H) ∨ (J.go i H ∧ ∃ Nx : Hp → Prop, (∀ H', Nx H' → ∃ m', m' < m ∧ W (i + 1) m' H') ∧ ∀ x H', J.yld i H x H' → g x (wipe σ vs) H' fun σ2 H2 => wipe σ2 vs = wipe σ vs ∧ tt σ2 H2 fun b H3 =>
    if b = true then te σ2 H3 fun y H4 => ∃ acc, H4 D = some (.lst acc) ∧ acc.length < sizeLine ∧ Nx (upd H4 D (.lst (acc ++ [y]))) else Nx H3)
def FrJ (J : It) (g : TG) (tb : TS) (D : Ends) (σ : L2.St) (H : Hp) : Prop := ∃ W : Nat → Nat → L2.St → Hp → Prop, (∃ m, W 0 m σ H) ∧ ∀ i m σ H, W i m σ H →
  (J.stop i H ∧ D.nx σ H) ∨ (J.go i H ∧ ∃ N : L2.St → Hp → Prop, (∀ σ' H', N σ' H' → ∃ m', m' < m ∧ W (i + 1) m' σ' H') ∧ ∀ x H', J.yld i H x H' → g x σ H' fun σ2 H2 => tb { D with nx := N, ct := N, bk := D.nx } σ2 H2)
def wSq (P : Hp → Addr → List V → Prop) (x : V) (H : Hp) (R : Addr → Hp → Prop) : Prop := ∃ a, x = V.ref a ∧ (∃ xs, P H a xs) ∧ R a H
def wStr (x : V) (H : Hp) (R : Str → Hp → Prop) : Prop := ∃ z, x = V.str z ∧ R z H
section
variable {σ : L2.St} {H H1 : Hp} {Q : VK} {nx bk ct : L2.St → Hp → Prop} {rt : VK} {K : PySem.W.Frag} {ta : TE} {g : TG} {tt : TT} {te : TE} {vs : List Nat} {tb : TS} {n j : Nat} {a D : Addr} {xs : List V} {J : It} {Rl : Hp → Prop} {Qd : Hp → Prop}
theorem rd_lcT (h : ta σ H fun x H1 => wSq (SqT K) x H1 fun a H2 => ∀ D, H2 D = none → LcJ (Itt K a) g tt te vs σ H2 D (Q (.ref D))) : tLc (iTup K ta) g tt te vs σ H Q := by
  unfold tLc iTup
  exact h
theorem rd_lcL (h : ta σ H fun x H1 => wSq (SqL K) x H1 fun a H2 => ∀ D, H2 D = none → LcJ (Itl K a) g tt te vs σ H2 D (Q (.ref D))) : tLc (iList K ta) g tt te vs σ H Q := by
  unfold tLc iList
  exact h
theorem rd_lcS (h : ta σ H fun x H1 => wStr x H1 fun z H2 => ∀ D, H2 D = none → LcJ (Its z) g tt te vs σ H2 D (Q (.ref D))) : tLc (iStr ta) g tt te vs σ H Q := by
  unfold tLc iStr
  exact h
theorem rd_frT (h : ta σ H fun x H1 => wSq (SqT K) x H1 fun a H2 => FrJ (Itt K a) g tb ⟨nx, rt, bk, ct⟩ σ H2) : tFor (iTup K ta) g tb ⟨nx, rt, bk, ct⟩ σ H := by
  unfold tFor iTup
  exact h
theorem rd_frL (h : ta σ H fun x H1 => wSq (SqL K) x H1 fun a H2 => FrJ (Itl K a) g tb ⟨nx, rt, bk, ct⟩ σ H2) : tFor (iList K ta) g tb ⟨nx, rt, bk, ct⟩ σ H := by
  unfold tFor iList
  exact h
theorem rd_wSq {P : Hp → Addr → List V → Prop} {R : Addr → Hp → Prop} (c : P H a xs) (h : R a H) : wSq P (.ref a) H R := ⟨a, rfl, ⟨xs, c⟩, h⟩
theorem rd_wStr {z : Str} {R : Str → Hp → Prop} (h : R z H) : wStr (.str z) H R := ⟨z, rfl, h⟩
theorem lcJ (Wk : WalkOf J Rl xs) (Pv : Nat → Hp → Prop) (h0 : Pv 0 (upd H1 D (.lst []))) (hl : ∀ i H, i ≤ xs.length → Pv i H → Rl H)
    (hs : ∀ i x H, xs[i]? = some x → Pv i H → g x (wipe σ vs) H fun σ2 H2 => wipe σ2 vs = wipe σ vs ∧ tt σ2 H2 fun b H3 =>
      if b = true then te σ2 H3 fun y H4 => ∃ acc, H4 D = some (.lst acc) ∧ acc.length < sizeLine ∧ Pv (i + 1) (upd H4 D (.lst (acc ++ [y]))) else Pv (i + 1) H3)
    (hd : ∀ H, Pv xs.length H → Qd H) : LcJ J g tt te vs σ H1 D Qd := by
  refine ⟨fun i m H => m = xs.length - i ∧ i ≤ xs.length ∧ Pv i H, ⟨xs.length, rfl, Nat.zero_le _, h0⟩, ?_⟩
  intro i m H hW
  obtain ⟨em, hi, p⟩ := hW
  obtain ⟨w1, w2, w3⟩ := Wk H (hl i H hi p)
  by_cases hlt : i < xs.length
  · refine .inr ⟨w1 i hlt, Pv (i + 1), fun H' p' => ⟨xs.length - (i + 1), by omega, rfl, hlt, p'⟩, fun x H' y => ?_⟩
    obtain ⟨e, y⟩ := w2 i x H' hlt y
    rw [e]
    exact hs i x H y p
  · have e : i = xs.length := by omega
    rw [e] at p
    exact .inl ⟨w3 i (by omega), hd H p⟩
theorem frJ (Wk : WalkOf J Rl xs) (Pv : Nat → L2.St → Hp → Prop) (h0 : Pv 0 σ H) (hl : ∀ i σ H, i ≤ xs.length → Pv i σ H → Rl H)
    (hs : ∀ i x σ H, xs[i]? = some x → Pv i σ H → g x σ H fun σ2 H2 => tb ⟨Pv (i + 1), rt, nx, Pv (i + 1)⟩ σ2 H2)
    (hd : ∀ σ H, Pv xs.length σ H → nx σ H) : FrJ J g tb ⟨nx, rt, bk, ct⟩ σ H := by
  refine ⟨fun i m σ H => m = xs.length - i ∧ i ≤ xs.length ∧ Pv i σ H, ⟨xs.length, rfl, Nat.zero_le _, h0⟩, ?_⟩
  intro i m σ H hW
  obtain ⟨em, hi, p⟩ := hW
  obtain ⟨w1, w2, w3⟩ := Wk H (hl i σ H hi p)
  by_cases hlt : i < xs.length
  · refine .inr ⟨w1 i hlt, Pv (i + 1), fun σ' H' p' => ⟨xs.length - (i + 1), by omega, rfl, hlt, p'⟩, fun x H' y => ?_⟩
    obtain ⟨e, y⟩ := w2 i x H' hlt y
    rw [e]
    exact hs i x σ H y p
  · have e : i = xs.length := by omega
    rw [e] at p
    exact .inl ⟨w3 i (by omega), hd σ H p⟩
theorem lcM (Wk : WalkOf J Rl xs) (hR : ∀ H, Same H1 H → Rl H) (nD : H1 D = none) (hn : xs.length ≤ 1000000) (keep : V → Bool) (f : V → V)
    (hs : ∀ x ∈ xs, ∀ H, Same H1 H → wipe ((wipe σ vs).set j (some x)) vs = wipe σ vs ∧ (∀ B : Bool → Hp → Prop, (∀ H', Same H H' → B (keep x) H') → tt ((wipe σ vs).set j (some x)) H B) ∧
      (keep x = true → ∀ H' (R : VK), Same H H' → (∀ H'', Same H' H'' → R (f x) H'') → te ((wipe σ vs).set j (some x)) H' R))
    (hd : ∀ H', Same H1 H' → H' D = some (.lst ((xs.filter keep).map f)) → Qd H') : LcJ J (gName j) tt te vs σ H1 D Qd := by
  refine lcJ Wk (fun i H => Same H1 H ∧ H D = some (.lst (((xs.take i).filter keep).map f))) ⟨same_new nD, by rw [upd_same]; rfl⟩ (fun i H _ p => hR H p.1) (fun i x H hx p => ?_) (fun H p => ?_)
  · obtain ⟨sm, e⟩ := p
    obtain ⟨h1, h2, h3⟩ := hs x (List.mem_of_getElem? hx) H sm
    refine ⟨h1, h2 _ fun H' s2 => ?_⟩
    have et : xs.take (i + 1) = xs.take i ++ [x] := by rw [List.take_add_one, hx]; rfl
    have hk : ∀ b, keep x = b → if b = true then te ((wipe σ vs).set j (some x)) H' fun y H4 => ∃ acc, H4 D = some (.lst acc) ∧ acc.length < sizeLine ∧ (Same H1 (upd H4 D (.lst (acc ++ [y]))) ∧ (upd H4 D (.lst (acc ++ [y]))) D = some (.lst (((xs.take (i + 1)).filter keep).map f)))
        else (Same H1 H' ∧ H' D = some (.lst (((xs.take (i + 1)).filter keep).map f))) := fun b hb => by
      cases b with
      | true =>
        refine iteT (h3 hb H' _ s2 fun H'' s3 => ?_)
        have eD : H'' D = some _ := s3 _ _ (s2 _ _ e)
        refine ⟨_, eD, ?_, fun b o eb => ?_, ?_⟩
        · refine lt_line ?_
          rw [List.length_map]
          have q1 := List.length_filter_le keep (xs.take i)
          rw [List.length_take] at q1
          omega
        · rw [upd_ne (ne_of_none eb nD)]
          exact s3 _ _ (s2 _ _ (sm _ _ eb))
        · rw [upd_same, et, List.filter_append, List.map_append, List.filter_cons, hb]
          rfl
      | false =>
        refine iteF ⟨sm.trans s2, ?_⟩
        rw [et, List.filter_append, List.map_append, List.filter_cons, hb, s2 _ _ e]
        simp
    exact hk (keep x) rfl
  · rw [List.take_length] at p
    exact hd H p.1 p.2
theorem lcM1 (Wk : WalkOf J Rl xs) (hR : ∀ H, Same H1 H → Rl H) (nD : H1 D = none) (hn : xs.length ≤ 1000000) (f : V → V)
    (hs : ∀ x ∈ xs, ∀ H (R : VK), Same H1 H → (∀ H'', Same H H'' → R (f x) H'') → wipe ((wipe σ vs).set j (some x)) vs = wipe σ vs ∧ te ((wipe σ vs).set j (some x)) H R)
    (hd : ∀ H', Same H1 H' → H' D = some (.lst (xs.map f)) → Qd H') : LcJ J (gName j) tYes te vs σ H1 D Qd := by
  refine lcM Wk hR nD hn (fun _ => true) f (fun x hx H sm => ⟨(hs x hx H (fun _ _ => True) sm fun _ _ => trivial).1, fun B h => h H (Same.refl H), fun _ H' R s2 q => (hs x hx H' R (sm.trans s2) q).2⟩) (fun H' sm e => hd H' sm ?_)
  rw [e, List.filter_eq_self.mpr fun _ _ => rfl]
theorem pe_kS {X : Cx} {x z : Str} {p : Pos} (hg : Gl X x) (hm : ∃ t, X.mg x = some (.str z t)) (hd : (x == ("__debug__" : Str)) = false := by decide) : PE X (.Name x p) (tC (.str z)) := by
  obtain ⟨t, e⟩ := hm
  exact pe_glob hg e ⟨t, rfl⟩ hd
theorem pe_kI {X : Cx} {x : Str} {z : Int} {p : Pos} (hg : Gl X x) (hm : ∃ t, X.mg x = some (.int z t)) (hd : (x == ("__debug__" : Str)) = false := by decide) : PE X (.Name x p) (tC (.int z)) := by
  obtain ⟨t, e⟩ := hm
  exact pe_glob hg e ⟨t, rfl⟩ hd
theorem rd_gTup {v : Addr} {gs : TGs} {QG : L2.St → Hp → Prop} (c : SqT K H v xs) (e : xs.length = n) (h : gs xs σ H QG) : gTup K n gs (.ref v) σ H QG := ⟨v, xs, rfl, c, e, h⟩
theorem rd_gCons {v : V} {r : List V} {gs : TGs} {QG : L2.St → Hp → Prop} (h : g v σ H fun σ' H' => gs r σ' H' QG) : gCons g gs (v :: r) σ H QG := ⟨v, r, rfl, h⟩
theorem rd_gNil {QG : L2.St → Hp → Prop} (h : QG σ H) : gNil [] σ H QG := ⟨rfl, h⟩
theorem rd_tix {tb : TE} (h : ta σ H fun x H1 => ∃ (p : Addr) (ys : List Str), x = .ref p ∧ Tk H1 p (ys.map V.str) ∧ tb σ H1 fun y H2 => ∃ (z : Str) (j : Nat), y = .str z ∧ Tk H2 p (ys.map V.str) ∧
  ys[j]? = some z ∧ (∀ m, m < j → ys[m]? ≠ some z) ∧ Q (.int (j : Nat)) H2) : zTIx ta tb σ H Q := h
end
/-! ### beginnings -/
theorem starts_tl (x y : Str) : Txt.startswith x y = ((tl x).take y.length == tl y) := by
  unfold Txt.startswith
  rw [StrLaws.subAt_eq, List.drop_zero]
  by_cases h : ((tl x).take y.length == tl y) = true
  · have e : (tl x).take y.length = tl y := eq_of_beq h
    have l := congrArg List.length e
    rw [List.length_take, ← len_tl, ← len_tl] at l
    rw [h, Bool.and_true]
    exact decide_eq_true (by omega)
  · rw [Bool.not_eq_true] at h
    rw [h, Bool.and_false]
theorem tl_cutTo (x : Str) (k : Nat) : tl (cutS x none (some (k : Int))) = (tl x).take k := by
  unfold cutS
  rw [tl_mk, HT.sIx_nat, HT.sIx_none, Nat.sub_zero, List.drop_zero]
  have e : x.length = (tl x).length := len_tl x
  rw [e]
  by_cases h : k ≤ (tl x).length
  · rw [Nat.min_eq_left h]
  · rw [Nat.min_eq_right (by omega), List.take_of_length_le (Nat.le_refl _), List.take_of_length_le (by omega)]
theorem tl_cutFrom (x : Str) (k : Nat) : tl (cutS x (some (k : Int)) none) = (tl x).drop k := by
  unfold cutS
  rw [tl_mk, HT.sIx_nat, HT.sIx_none]
  have e : x.length = (tl x).length := len_tl x
  rw [e]
  by_cases h : k ≤ (tl x).length
  · rw [Nat.min_eq_left h]
    exact List.take_of_length_le (by rw [List.length_drop]; exact Nat.le_refl _)
  · rw [Nat.min_eq_right (by omega), Nat.sub_self, List.take_zero]
    exact (List.drop_of_length_le (by omega)).symm
theorem len_at : (Str.ofString "@").length = 1 := by rw [len_of]; rfl
theorem len_tr : (Str.ofString "Received: by ").length = 13 := by rw [len_of]; rfl
theorem len_rec : (Str.ofString "Recipient: ").length = 11 := by rw [len_of]; rfl
theorem len_rea : (Str.ofString "Reason: ").length = 8 := by rw [len_of]; rfl
theorem len_lt : (Str.ofString "<").length = 1 := by rw [len_of]; rfl
theorem len_gt : (Str.ofString ">").length = 1 := by rw [len_of]; rfl
theorem len_mk (l : List Nat) : (⟨l.toArray⟩ : Str).length = l.length := by rw [len_tl]
theorem len_1 (c : Nat) : (⟨#[c]⟩ : Str).length = 1 := rfl
theorem take_none {ls : List Str} {z : Str} (h : z ∉ ls) : ls.takeWhile (fun x => !decide (x = z)) = ls := by
  induction ls with
  | nil => rfl
  | cons x xs ih =>
    have hx : ¬ x = z := fun e => h (e ▸ List.mem_cons_self)
    rw [List.takeWhile_cons, decide_eq_false hx, Bool.not_false, if_pos rfl, ih fun m => h (List.mem_cons_of_mem _ m)]
theorem take_at {z : Str} : ∀ {ls : List Str}, z ∈ ls → ∃ j, j < ls.length ∧ ls[j]? = some z ∧ (∀ m, m < j → ls[m]? ≠ some z) ∧ ls.takeWhile (fun x => !decide (x = z)) = ls.take j
  | [], h => nomatch h
  | x :: xs, h => by
    by_cases e : x = z
    · refine ⟨0, Nat.succ_pos _, by rw [e]; rfl, fun m hm => absurd hm (Nat.not_lt_zero m), ?_⟩
      rw [List.takeWhile_cons, decide_eq_true e, Bool.not_true, if_neg Bool.false_ne_true, List.take_zero]
    · obtain ⟨j, h1, h2, h3, h4⟩ := take_at (ls := xs) (by
        rcases List.mem_cons.mp h with q | q
        · exact absurd q.symm e
        · exact q)
      refine ⟨j + 1, Nat.succ_lt_succ h1, h2, fun m hm => ?_, ?_⟩
      · cases m with
        | zero => exact fun q => e (Option.some.inj q)
        | succ m => exact h3 m (Nat.lt_of_succ_lt_succ hm)
      · rw [List.takeWhile_cons, decide_eq_false e, Bool.not_false, if_pos rfl, h4, List.take_succ_cons]
theorem rd_slTto {K : PySem.W.Frag} {p : Addr} {xs : List V} {k : Nat} {H : Hp} {Q : VK} (c : SqT K H p xs) (hk : k < xs.length) (h : ∀ q, H q = none → Q (.ref q) (upd H q (.tup (xs.take k)))) : rSlT K (.ref p) none (some (k : Int)) H Q := by
  refine ⟨p, xs, rfl, c, fun z => ?_, fun q n => ?_⟩
  · have z2 := z.2
    rw [HT.sIx_nat] at z2
    omega
  · have e : cutV xs none (some (k : Int)) = xs.take k := by
      unfold cutV
      rw [HT.sIx_nat, HT.sIx_none, Nat.sub_zero, List.drop_zero, Nat.min_eq_left (by omega)]
    rw [e]
    exact h q n
theorem same_tup {K : PySem.W.Frag} {H H' : Hp} {a : Addr} {xs : List V} (e : Same H H') (h : SqT K H a xs) : SqT K H' a xs := by
  rcases h with (h | ⟨o, h⟩) | h
  · exact .inl (.inl (e _ _ h))
  · exact .inl (.inr ⟨o, e _ _ h⟩)
  · exact .inr h
theorem rd_iNT {A B : Prop} (h : B) : if (!true) = true then A else B := iteF h
theorem rd_iNF {A B : Prop} (h : A) : if (!false) = true then A else B := iteT h
theorem k_str {mg : Str → Option Value} {x y z : Str} {t : Tok} (a : mg x = some (.str z t)) (e : z = y) : ∃ t, mg x = some (.str y t) := ⟨t, by rw [a, e]⟩
theorem k_int {mg : Str → Option Value} {x : Str} {y z : Int} {t : Tok} (a : mg x = some (.int z t)) (e : z = y) : ∃ t, mg x = some (.int y t) := ⟨t, by rw [a, e]⟩
/-! ### str.maketrans and translate -/
theorem va_app (k' k : Int) (v : Value) : ∀ kvs : List (Int × Value), (∀ kv ∈ kvs, kv.1 ≠ k) → valueAt (kvs ++ [(k, v)]) k' = if k' = k then some v else valueAt kvs k'
  | [], _ => by
    by_cases e : k' = k
    · simp [valueAt, e]
    · have e' : ¬ k = k' := fun q => e q.symm
      simp [valueAt, e, e']
  | kv :: r, h => by
    have ih := va_app k' k v r fun x hx => h x (List.mem_cons_of_mem _ hx)
    unfold valueAt at ih ⊢
    rw [List.cons_append, List.find?_cons, List.find?_cons]
    by_cases e : kv.1 = k'
    · have ne : ¬ k' = k := fun q => h kv List.mem_cons_self (e.trans q)
      rw [decide_eq_true e, if_neg ne]
    · rw [decide_eq_false e]
      exact ih
def Tab (ps : List (Nat × Nat)) (kvs : List (Int × Value)) : Prop := ∀ c : Nat, match ps.lookup c with
  | some d => ∃ t, valueAt kvs (c : Int) = some (.int (d : Int) t)
  | none => valueAt kvs (c : Int) = none
section
variable {prog : Program} {w : World} {A : Around} {E : Value → Shared → Prop} {s : Shared}
theorem mt_run {a b : Str} {t u : Tok} {Q : Value → Shared → Prop} (hl : a.length = b.length) (hz : a.length ≤ 1000) (nd : ((tl a).zip (tl b)).Pairwise fun p q => p.1 ≠ q.1)
    (h : ∀ h' k kvs, h'.DictOf (intKind prog w) s.heap.objs.size kvs → Tab ((tl a).zip (tl b)).reverse kvs → (∀ b o, s.heap.get? b = some o → h'.get? b = some o) → Q (.ref s.heap.objs.size) { s with heap := h', toks := k }) :
    wpAny (model prog w) A (Builtin.«str.maketrans» ⟨[.str a t, .str b u], []⟩) (fun fin s' => ∃ v, fin = .done (.ret v) ∧ Q v s') E s := by
  unfold Builtin.«str.maketrans»
  refine wpAny_bind (wpAny_of_eq (a := ()) (by first | rfl | kernel_rfl) ?_)
  refine wpAny_bind (wpAny_of_eq (a := ()) (by first | rfl | kernel_rfl) ?_)
  refine wpAny_bind (wpAny_of_eq (a := some b) (by first | rfl | kernel_rfl) ?_)
  refine wpAny_bind (wpAny_of_eq (a := none) (by first | rfl | kernel_rfl) ?_)
  refine wpAny_bind (wpAny_newObj_type ?_)
  dsimp only
  refine wpAny_bind (wpAny_holding ?_)
  refine wpAny_bind (wpAny_of_eq (a := some a) rfl ?_)
  dsimp only
  rw [show (a.length != b.length) = false by rw [hl]; simp, if_neg Bool.false_ne_true]
  refine wpAny_bind (wpAny_forIn_list _ (fun rest _ s' => ∃ past h' k kvs, (tl a).zip (tl b) = past ++ rest ∧ kvs.length ≤ past.length ∧ (∀ kv ∈ kvs, ∃ p ∈ past, kv.1 = (p.1 : Int)) ∧ h'.DictOf (intKind prog w) s.heap.objs.size kvs ∧ Tab past.reverse kvs ∧
    (∀ b o, s.heap.get? b = some o → h'.get? b = some o) ∧ s' = { s with heap := h', toks := k }) _ ?turn ?fin _ _ ?start)
  case start =>
    refine ⟨[], s.heap.push { cls := .type "dict", data := .dict #[] }, s.toks, [], rfl, Nat.zero_le _, fun _ hk => (nomatch hk), ?_, fun c => rfl, fun b o e => Heap.get?_push_of_some _ e, rfl⟩
    exact Heap.DictOf.new (knd := intKind prog w) s.heap
  case turn =>
    rintro ⟨x, y⟩ rest _ s' ⟨past, h', k, kvs, e1, e2, e3, e4, e5, e6, rfl⟩
    dsimp only
    refine wpAny_bind (wpAny_mkInt (wpAny_bind (wpAny_mkInt (wpAny_bind (wpAny_dictSet_pairs (knd := intKind prog w) (k := (x : Int)) (intKind_is prog w _ _) e4 (fun h2 hd hsb => wpAny_pure ?_) ?_)))))
    · have no : ∀ kv ∈ kvs, kv.1 ≠ (x : Int) := fun kv hkv e => by
        obtain ⟨p, hp, e'⟩ := e3 kv hkv
        rw [e1] at nd
        have := (List.pairwise_append.mp nd).2.2 p hp (x, y) List.mem_cons_self
        exact this (by
          have e2 : p.1 = x := by omega
          exact e2)
      have est : stored kvs (x : Int) (.int (y : Int) (k + 1)) = kvs ++ [((x : Int), .int (y : Int) (k + 1))] := by
        unfold stored
        rw [if_neg]
        intro hh
        obtain ⟨kv, hkv, e⟩ := List.any_eq_true.mp hh
        exact no kv hkv (of_decide_eq_true e)
      rw [est] at hd
      refine ⟨past ++ [(x, y)], h2, _, _, by rw [e1, List.append_assoc]; rfl, by rw [List.length_append, List.length_append]; exact Nat.succ_le_succ e2, fun kv hkv => ?_, hd, fun c => ?_, fun b o e => ?_, rfl⟩
      · rcases List.mem_append.mp hkv with q | q
        · obtain ⟨p, hp, e'⟩ := e3 kv q
          exact ⟨p, List.mem_append_left _ hp, e'⟩
        · exact ⟨(x, y), List.mem_append_right _ List.mem_cons_self, by rw [List.mem_singleton.mp q]⟩
      · rw [List.reverse_append]
        have t5 := e5 c
        show match List.lookup c ((x, y) :: past.reverse) with | some d => _ | none => _
        rw [List.lookup_cons, va_app _ _ _ _ no]
        by_cases e : c = x
        · rw [e, beq_self_eq_true, if_pos rfl]
          exact ⟨_, rfl⟩
        · have ec : (c == x) = false := beq_eq_false_iff_ne.mpr e
          rw [ec, if_neg (show ¬ (c : Int) = (x : Int) by omega)]
          exact t5
      · have nb : b ≠ s.heap.objs.size := fun q => by
          rw [q, Heap.get?_none_of_le (Nat.le_refl _)] at e
          cases e
        exact (hsb.2 b nb).trans (e6 b o e)
    · have hlen := congrArg List.length e1
      rw [List.length_zip, List.length_append, ← len_tl, ← len_tl] at hlen
      exact line_of (by omega)
  case fin =>
    rintro _ s' ⟨past, h', k, kvs, e1, e2, e3, e4, e5, e6, rfl⟩
    rw [List.append_nil] at e1
    refine wpAny_bind ?_
    refine wpAny_of_eq (a := PUnit.unit) (by first | rfl | kernel_rfl) ?_
    refine wpAny_pure ?_
    refine wpAny_pure ⟨_, rfl, ?_⟩
    rw [← e1] at e5
    exact h h' k kvs e4 e5 e6
theorem mt_entry : entryFor table "str.maketrans" = some Builtin.«str.maketrans» := entryFor_of_tree (by kernel_rfl)
theorem mt_plain : plainId "str.maketrans" = true := by decide +kernel
theorem mt_check {x y : Value} : checkBuiltinCall "str.maketrans" ⟨[x, y], []⟩ = pure () := by first | kernel_rfl | rfl
theorem call_mt {a b : Str} {t u : Tok} {Q : Value → Shared → Prop} (hl : a.length = b.length) (hz : a.length ≤ 1000) (nd : ((tl a).zip (tl b)).Pairwise fun p q => p.1 ≠ q.1)
    (h : ∀ h' k kvs, h'.DictOf (intKind prog w) s.heap.objs.size kvs → Tab ((tl a).zip (tl b)).reverse kvs → (∀ b o, s.heap.get? b = some o → h'.get? b = some o) → Q (.ref s.heap.objs.size) { s with heap := h', toks := k }) :
    wpAny (model prog w) A (call (.builtin "str.maketrans") [.str a t, .str b u]) Q E s := by
  refine wpAny_call (codeAny_call_builtin mt_plain mt_entry (wpAny_of_eq mt_check ?_))
  refine wpAny_mono (mt_run hl hz nd h) (fun fin s' hf => ?_) fun _ _ x => x
  obtain ⟨v, rfl, q⟩ := hf
  exact q
theorem cls_mt (K : PySem.W.Frag) : PySem.W.findCls K (.type "str") (.type "type") (Str.ofString "maketrans") = some (.val (.builtin "str.maketrans")) := by first | kernel_rfl | rfl
theorem get_mt {K : PySem.W.Frag} {pl : Sem Bool} {Q : Value × List Value → Shared → Prop} (X : K.In s.heap) (h : Q (.builtin "str.maketrans", []) { s with toks := s.toks + 1 }) :
    wpAny (model prog w) A (getMethod (.type "str") (Str.ofString "maketrans") pl) Q E s := by
  have h0 : opaqueClassAbove (.type "str") = pure none := by
    unfold opaqueClassAbove
    dsimp only
    rw [show Manifest.isStub "str" = false by decide +kernel]
    all_goals rfl
  have h1 : typeOf (.type "str") = pure (.type "type") := by first | rfl | kernel_rfl
  have hg : PySem.W.findIn K (.type "type") "__getattribute__" = some (some (.builtin "type.__getattribute__")) := PySem.W.type_tga
  unfold getMethod specialOf
  refine wpAny_bind (wpAny_bind ((PySem.W.Looks.of_pure h1).here ((PySem.W.looks_findIn X hg).here ?_)))
  dsimp only
  rw [if_pos PySem.W.canon_tga]
  refine wpAny_bind (wpAny_mono (Q := fun v => Q (v, [])) (E := E) ?_ (fun _ _ z => wpAny_pure z) fun _ _ z => z)
  refine PySem.W.cls_open X (PySem.W.Looks.of_pure h0) (PySem.W.Looks.of_pure h1) hg (PySem.W.looks_hook X (r := none) (by rfl)) (by show PySem.W.subIn K _ _ = _; rfl) (cls_mt K) ?_
  exact wpAny_pure (wpAny_pure h)
def mapd (ps : List (Nat × Nat)) (c : Nat) : Builtin.Str.Mapped := match ps.lookup c with
  | some e => .char e
  | none => .keep
def tr1 (ps : List (Nat × Nat)) (c : Nat) : Nat := (ps.lookup c).getD c
theorem look_one {d : Addr} {c : Nat} {ps : List (Nat × Nat)} {kvs : List (Int × Value)} {Q : Builtin.Str.Mapped → Shared → Prop} (hh : A.handled = none) (hd : (d == sysModules) = false) (hm : s.heap.DictOf (intKind prog w) d kvs) (hk : Tab ps kvs) (hb : ∀ e, ps.lookup c = some e → e < 128)
    (h : ∀ h' k, (∀ b o, s.heap.get? b = some o → h'.get? b = some o) → Q (mapd ps c) { s with heap := h', toks := k }) : wpAny (model prog w) A (Builtin.Str.tableLookup (.ref d) c) Q E s := by
  unfold Builtin.Str.tableLookup
  refine wpAny_bind (wpAny_attempt (wpAny_bind (wpAny_mkInt ?_)))
  have hc := hk c
  unfold mapd at h
  cases el : ps.lookup c with
  | some e =>
    rw [el] at hc h
    obtain ⟨t, hv⟩ := hc
    have he := hb e el
    refine wpAny_getItem_of (knd := intKind prog w) (k := (c : Int)) (intKind_is prog w _ _) hm.mapOf hv ?_
    dsimp only
    refine wpAny_bind (wpAny_of_eq (a := some (e : Int)) rfl ?_)
    dsimp only
    rw [if_neg (by
      rw [Bool.or_eq_true, decide_eq_true_iff, decide_eq_true_iff]
      omega)]
    exact wpAny_pure (h s.heap _ fun _ _ q => q)
  | none =>
    rw [el] at hc h
    refine wpAny_getItem_missing_of (knd := intKind prog w) (k := (c : Int)) (intKind_is prog w _ _) hd hh hm.mapOf hc fun h' e hx => ?_
    obtain ⟨ob, t, ho, hcl, _⟩ := hx.there
    dsimp only
    refine wpAny_bind (wpAny_isInstance (T := "KeyError") (b := true) ⟨ob, ho, hcl⟩ (by first | rfl | kernel_rfl) ?_)
    rw [if_pos rfl]
    exact wpAny_bind (wpAny_rule (wpAny_pure (h h' _ hx.keeps)))
end
theorem glue (f : Nat → Nat) : ∀ (l : List Nat) (acc : Array Nat), List.foldl (fun acc (p : Str) => acc ++ p.cps) acc (l.map fun c => (⟨#[f c]⟩ : Str)) = acc ++ (l.map f).toArray
  | [], acc => (Array.append_empty).symm
  | c :: l, acc => by
    rw [List.map_cons, List.foldl_cons, glue f l]
    apply Array.toList_inj.mp
    simp
def TrI (ps : List (Nat × Nat)) (x : List Nat) (f0 : Bool) (s : Shared) (rest : List Nat) (st : List Str × Nat × Bool × List (Nat × Option Nat) × Bool) (s' : Shared) : Prop :=
  ∃ (past : List Nat) (out : List Str) (kn : List (Nat × Option Nat)) (h' : Heap) (k : Nat), x = past ++ rest ∧ st = (out, past.length, f0, kn, false) ∧ out.reverse = past.map (fun c => (⟨#[tr1 ps c]⟩ : Str)) ∧
    (∀ c v, List.lookup c kn = some v → v = some (tr1 ps c)) ∧ s' = { s with heap := h', toks := k } ∧ ∀ b o, s.heap.get? b = some o → h'.get? b = some o
theorem TrI.go {ps : List (Nat × Nat)} {x rest past : List Nat} {f0 : Bool} {s : Shared} {c e : Nat} {out : List Str} {kn : List (Nat × Option Nat)} {h' : Heap} {k : Nat} (h1 : x = past ++ c :: rest) (he : e = tr1 ps c)
    (h3 : out.reverse = past.map (fun c => (⟨#[tr1 ps c]⟩ : Str))) (h4 : ∀ c v, List.lookup c kn = some v → v = some (tr1 ps c)) (h6 : ∀ b o, s.heap.get? b = some o → h'.get? b = some o) :
    TrI ps x f0 s rest (⟨#[e]⟩ :: out, past.length + 1, f0, kn, false) { s with heap := h', toks := k } := by
  refine ⟨past ++ [c], ⟨#[e]⟩ :: out, kn, h', k, by rw [h1, List.append_assoc]; rfl, by rw [List.length_append]; rfl, ?_, h4, rfl, h6⟩
  rw [List.reverse_cons, h3, List.map_append, he]
  rfl
theorem tr_run {prog : Program} {w : World} {A : Around} {E : Value → Shared → Prop} {s : Shared} {z : Str} {t : Tok} {d : Addr} {ps : List (Nat × Nat)} {kvs : List (Int × Value)} {Q : Value → Shared → Prop} (hh : A.handled = none) (hd : (d == sysModules) = false) (hz : z.length ≤ 100000)
    (hm : s.heap.DictOf (intKind prog w) d kvs) (hk : Tab ps kvs) (hb : ∀ c e, ps.lookup c = some e → e < 128)
    (h : ∀ h' k t', (∀ b o, s.heap.get? b = some o → h'.get? b = some o) → Q (.str ⟨((tl z).map (tr1 ps)).toArray⟩ t') { s with heap := h', toks := k }) :
    wpAny (model prog w) A (Builtin.«str.translate» ⟨[.str z t, .ref d], []⟩) (fun fin s' => ∃ v, fin = .done (.ret v) ∧ Q v s') E s := by
  unfold Builtin.«str.translate»
  refine wpAny_bind (wpAny_of_eq (a := (.str z t, z, .ref d)) (by first | rfl | kernel_rfl) ?_)
  dsimp only
  by_cases h0 : (z.length == 0) = true
  · rw [if_pos h0]
    have ez : tl z = [] := List.eq_nil_of_length_eq_zero (by rw [← len_tl]; exact eq_of_beq h0)
    have ez2 : z = ⟨((tl z).map (tr1 ps)).toArray⟩ := ext_tl (by
      show tl z = (tl z).map (tr1 ps)
      rw [ez]
      rfl)
    refine wpAny_bind (wpAny_rule ?_)
    refine wpAny_bind (wpAny_of_eq (a := .str z t) (by first | rfl | kernel_rfl) ?_)
    refine wpAny_pure ⟨_, rfl, ?_⟩
    have q := h s.heap s.toks t fun _ _ q => q
    rw [← ez2] at q
    exact q
  · rw [if_neg h0]
    generalize (z.cps.all fun y => decide (y < 128)) = f0
    refine wpAny_bind (MeetsSeq2.wpAny_forIn_array _ (TrI ps (tl z) f0 s) _ (fun c rest st s' hI => ?turn) (fun st s' hI => ?fin) z.cps ([], 0, f0, [], false) ?start)
    case start => exact ⟨[], [], [], s.heap, s.toks, rfl, rfl, rfl, fun c v q => (nomatch q), rfl, fun _ _ q => q⟩
    case turn =>
      obtain ⟨past, out, kn, h', k, e1, rfl, e3, e4, rfl, e6⟩ := hI
      have hp : past.length ≤ 100000 := by
        have q := congrArg List.length e1
        rw [List.length_append, ← len_tl] at q
        omega
      have hm' : Heap.DictOf (intKind prog w) h' d kvs := hm.keep e6
      dsimp only
      rw [show Builtin.Str.tooLong past.length = false from PyProof.Rows.short24 (by omega), if_neg Bool.false_ne_true]
      have lk : ∀ (kk : Nat) (R : Builtin.Str.Mapped → Shared → Prop), (∀ h2 k2, (∀ b o, s.heap.get? b = some o → h2.get? b = some o) → R (mapd ps c) { s with heap := h2, toks := k2 }) →
          wpAny (model prog w) A (Builtin.Str.tableLookup (.ref d) c) R E { s with heap := h', toks := k } := fun kk R hR =>
        look_one hh hd hm' hk (hb c) fun h2 k2 q => hR h2 k2 fun b o e => q b o (e6 b o e)
      have new : ∀ v, v = some (tr1 ps c) → ∀ c' v', List.lookup c' ((c, v) :: kn) = some v' → v' = some (tr1 ps c') := fun v hv c' v' q => by
        rw [List.lookup_cons] at q
        by_cases e : c' = c
        · rw [e, beq_self_eq_true] at q
          rw [← Option.some.inj q, hv, e]
        · rw [beq_eq_false_iff_ne.mpr e] at q
          exact e4 c' v' q
      cases f0 with
      | true =>
        rw [if_pos rfl]
        cases hl : List.lookup c kn with
        | some v =>
          have hv := e4 c v hl
          subst hv
          dsimp only
          refine wpAny_bind (wpAny_pure ?_)
          exact wpAny_pure (TrI.go e1 rfl e3 e4 e6)
        | none =>
          dsimp only
          cases el : ps.lookup c with
          | some e =>
            have et : e = tr1 ps c := by unfold tr1; rw [el]; rfl
            have eb := hb c e el
            refine wpAny_bind (lk k _ fun h2 k2 q => ?_)
            rw [show mapd ps c = .char e by unfold mapd; rw [el]]
            dsimp only
            rw [if_pos eb]
            dsimp only
            refine wpAny_bind (wpAny_pure ?_)
            exact wpAny_pure (TrI.go e1 et e3 (new _ (by rw [et])) q)
          | none =>
            have et : c = tr1 ps c := by unfold tr1; rw [el]; rfl
            refine wpAny_bind (lk k _ fun h2 k2 q => ?_)
            rw [show mapd ps c = .keep by unfold mapd; rw [el]]
            dsimp only
            refine wpAny_bind (wpAny_pure ?_)
            exact wpAny_pure (TrI.go e1 et e3 (new _ (by rw [← et])) q)
      | false =>
        rw [if_neg Bool.false_ne_true, if_neg Bool.false_ne_true]
        cases el : ps.lookup c with
        | some e =>
          have et : e = tr1 ps c := by unfold tr1; rw [el]; rfl
          refine wpAny_bind (lk k _ fun h2 k2 q => ?_)
          rw [show mapd ps c = .char e by unfold mapd; rw [el]]
          exact wpAny_pure (TrI.go e1 et e3 e4 q)
        | none =>
          have et : c = tr1 ps c := by unfold tr1; rw [el]; rfl
          refine wpAny_bind (lk k _ fun h2 k2 q => ?_)
          rw [show mapd ps c = .keep by unfold mapd; rw [el]]
          exact wpAny_pure (TrI.go e1 et e3 e4 q)
    case fin =>
      obtain ⟨past, out, kn, h', k, e1, rfl, e3, e4, rfl, e6⟩ := hI
      rw [List.append_nil] at e1
      have hp : past.length ≤ 100000 := by
        have q := congrArg List.length e1
        rw [← len_tl] at q
        omega
      dsimp only
      rw [show Builtin.Str.tooLong past.length = false from PyProof.Rows.short24 (by omega), if_neg Bool.false_ne_true, e3, glue (tr1 ps), Array.empty_append, ← e1]
      refine wpAny_bind (wpAny_mkStr (wpAny_pure ⟨_, rfl, h _ _ _ e6⟩) ?_)
      rw [len_tl, tl_mk, List.length_map, ← len_tl]
      exact line_of (by omega)
def TabO (prog : Program) (w : World) (ps : List (Nat × Nat)) (p : Addr) : HO := .ext fun h => (p == sysModules) = false ∧ ∃ kvs, h.DictOf (intKind prog w) p kvs ∧ Tab ps kvs
section
variable {X : Cx}
def zMk (P : Program) (w : World) (ps : List (Nat × Nat)) : TE := fun _ H Q => ∀ p, H p = none → Q (.ref p) (upd H p (TabO P w ps p))
theorem y_mk {a b : Str} {p apos pos p1 p2 : Pos} {j1 j2} {pl : Sem Bool} (hg : Gl X "str") (hm : X.mg "str" = none) (hl : a.length = b.length) (hz : a.length ≤ 1000) (nd : ((tl a).zip (tl b)).Pairwise fun p q => p.1 ≠ q.1)
    (he : eval (.Call (.Attribute (.Name "str" p) "maketrans" apos) [.Constant (.str a) j1 p1, .Constant (.str b) j2 p2] [] pos) X.env = (do
      let ov ← eval (.Name "str" p) X.env
      standAt apos.atName
      let (f, first) ← holding [ov] (getMethod ov "maketrans" pl)
      callWith pos f first (backTo pos (starEach [.Constant (.str a) j1 p1, .Constant (.str b) j2 p2] X.env)) (backToKw pos (keywordEach [] X.env))) := by rfl)
    (hpl : (backTo pos (starEach [.Constant (.str a) j1 p1, .Constant (.str b) j2 p2] X.env)).any (·.1) = false := by rfl) :
    PE X (.Call (.Attribute (.Name "str" p) "maketrans" apos) [.Constant (.str a) j1 p1, .Constant (.str b) j2 p2] [] pos) (zMk X.prog X.w ((tl a).zip (tl b)).reverse) := by
  refine ⟨fun pins s σ H Q I h => ?_⟩
  refine PySem.W.methodCall_KW (ld_blt I hg hm PyProof.Rows.boot_str ?_ (by decide) (by decide)) he
  refine get_mt I.kIn ?_
  have I1 : Inv X pins σ H { s with toks := s.toks + 1 } := I.tok _
  have ha : PA X [.Constant (.str a) j1 p1, .Constant (.str b) j2 p2] (tCons (tC (.str a)) (tCons (tC (.str b)) tNil)) := pa_cons pe_str (pa_cons pe_str pa_nil)
  refine Calls.callWith_builtin hpl (Calls.evalArgs_plain ?_)
  refine thn (ha.run pos pins _ σ H (fun vs H' => vs = [.str a, .str b] ∧ H' = H) I1 ⟨rfl, rfl⟩) fun us s2 ⟨vs, H2, I2, rv, ev, eh⟩ => ?_
  subst ev eh
  obtain ⟨u1, u2, rfl, ⟨t1, rfl⟩, ⟨t2, rfl⟩⟩ := rv.two
  refine call_mt hl hz nd fun h' k kvs hd ht kp => ?_
  have hsys : (s2.heap.objs.size == sysModules) = false := beq_eq_false_iff_ne.mpr (Ne.symm (Nat.ne_of_lt I2.big))
  refine ⟨.ref s2.heap.objs.size, _, I2.laid (t' := k) (o := TabO X.prog X.w ((tl a).zip (tl b)).reverse s2.heap.objs.size) kp (Nat.le_refl _) ?_, rfl, h _ I2.fresh⟩
  refine ⟨⟨hsys, kvs, hd, ht⟩, ?_, fun h1 h2 f1 kk => ?_⟩
  · obtain ⟨o, es, ep, ho, _⟩ := hd
    exact ⟨o, ho⟩
  · obtain ⟨g1, kvs', ⟨o, es, ep, ho, r⟩, g3⟩ := f1
    exact ⟨g1, kvs', ⟨o, es, ep, kk _ ho, r⟩, g3⟩
def zTr (P : Program) (w : World) : V → List V → Hp → VK → Prop := fun x xs H Q => ∃ (z : Str) (d : Addr) (ps : List (Nat × Nat)), x = .str z ∧ xs = [V.ref d] ∧ H d = some (TabO P w ps d) ∧ z.length ≤ 100000 ∧ (∀ c e, ps.lookup c = some e → e < 128) ∧ Q (.str ⟨((tl z).map (tr1 ps)).toArray⟩) H
theorem y_trans (hc : X.calm = true) : MtR X "str.translate" (zTr X.prog X.w) := by
  intro pins s σ H x xs v us Q I rx rs h
  obtain ⟨z, d, ps, rfl, rfl, ht, hz, hb, q⟩ := h
  obtain ⟨t, rfl⟩ := rx
  obtain ⟨u, rfl, ru⟩ := Vals.one rs
  cases ru
  obtain ⟨⟨hsys, kvs, hd, htab⟩, _⟩ := I.hok d _ ht
  refine wpAny_call_entry F.slot_str_translate (typeIs_str _ _ _) F.entry_str_translate ?_ (F.args_str_translate_2 _ _)
  refine tr_run (I.ok.hd hc) hsys hz hd htab hb fun h' k t' kp => ?_
  exact ⟨.str _, H, I.kept (t' := k) kp, ⟨t', rfl⟩, q⟩
end
/-! ### addresses on lists of signs -/
noncomputable def dc (P : Prop) : Bool := @decide P (Classical.propDecidable P)
theorem dc_iff {P : Prop} : dc P = true ↔ P := by
  unfold dc
  exact @decide_eq_true_iff P (Classical.propDecidable P)
theorem dc_of {P : Prop} {b : Bool} (h : b = true ↔ P) : b = dc P := Bool.eq_iff_iff.mpr (h.trans dc_iff.symm)
theorem dc_t {P : Prop} (h : P) : dc P = true := dc_iff.mpr h
theorem dc_f {P : Prop} (h : ¬ P) : dc P = false := by
  cases e : dc P with
  | false => rfl
  | true => exact absurd (dc_iff.mp e) h
abbrev locS : Str := Str.ofString "abcdefghijklmnopqrstuvwxyz0123456789.-_+"
abbrev labS : Str := Str.ofString "abcdefghijklmnopqrstuvwxyz0123456789-"
abbrev upS : Str := Str.ofString "ABCDEFGHIJKLMNOPQRSTUVWXYZ"
abbrev loS : Str := Str.ofString "abcdefghijklmnopqrstuvwxyz"
def DD (l : List Nat) : Prop := ∃ i : Nat, l[i]? = some 46 ∧ l[i + 1]? = some 46
def ConsOk (S : List Nat) (n : Nat) (l : List Nat) : Prop := 1 ≤ l.length ∧ l.length ≤ n ∧ ∀ c ∈ l, c ∈ S
def LabelOk (l : List Nat) : Prop := ConsOk (tl labS) 20 l ∧ l.head? ≠ some 45 ∧ l.getLast? ≠ some 45
def LocalOk (l : List Nat) : Prop := ConsOk (tl locS) 40 l ∧ l.head? ≠ some 46 ∧ l.getLast? ≠ some 46 ∧ ¬ DD l
def DomOk (l : List Nat) : Prop := l.length ≤ 80 ∧ ∀ p ∈ spl [46] 0 [] l, LabelOk p
theorem starts_one {x y : Str} {c : Nat} (hy : tl y = [c]) : Txt.startswith x y = decide ((tl x).head? = some c) := by
  rw [starts_tl, len_tl y, hy]
  cases tl x with
  | nil => rfl
  | cons a r =>
    by_cases e : a = c
    · simp [e]
    · simp [e]
theorem ends_one {x y : Str} {c : Nat} (hy : tl y = [c]) : Txt.endswith x y = decide ((tl x).getLast? = some c) := by
  unfold Txt.endswith
  rw [StrLaws.subAt_eq]
  show (decide (0 + y.length ≤ x.length) && (((tl x).drop (x.length - y.length)).take y.length == tl y)) = _
  rw [len_tl y, hy, len_tl x]
  show (decide (0 + 1 ≤ (tl x).length) && (((tl x).drop ((tl x).length - 1)).take 1 == [c])) = _
  rcases List.eq_nil_or_concat (tl x) with e | ⟨l, a, e⟩
  · rw [e]
    rfl
  · have e' : tl x = l ++ [a] := by rw [e]; simp
    rw [e', List.length_append, show l.length + [a].length - 1 = l.length from rfl, List.drop_left, List.getLast?_append]
    by_cases h : a = c
    · simp [h]
    · simp [h]
theorem dd_in {z y : Str} (hy : tl y = [46, 46]) : (!(Builtin.Str.occurrences z y 0 z.length 1).isEmpty) = true ↔ DD (tl z) := by
  rw [StrLaws.found_iff]
  have ly : y.length = 2 := by rw [len_tl, hy]; rfl
  constructor
  · rintro ⟨i, h1, h2⟩
    rw [StrLaws.subAt_eq, ly, beq_iff_eq] at h2
    have h3 : ((tl z).drop i).take 2 = [46, 46] := h2.trans hy
    rw [ly, len_tl] at h1
    refine ⟨i, ?_, ?_⟩
    · have q := congrArg (fun l => l[0]?) h3
      simp only [List.getElem?_take, List.getElem?_drop] at q
      simpa using q
    · have q := congrArg (fun l => l[1]?) h3
      simp only [List.getElem?_take, List.getElem?_drop] at q
      simpa using q
  · rintro ⟨i, h1, h2⟩
    obtain ⟨l1, g1⟩ := List.getElem?_eq_some_iff.mp h1
    obtain ⟨l2, g2⟩ := List.getElem?_eq_some_iff.mp h2
    refine ⟨i, by rw [ly, len_tl]; omega, ?_⟩
    rw [StrLaws.subAt_eq, ly, beq_iff_eq]
    show ((tl z).drop i).take 2 = tl y
    rw [hy, List.drop_eq_getElem_cons l1, List.drop_eq_getElem_cons l2, g1, g2]
    rfl
theorem rs_id {x y : Str} {l : List Nat} {c : Nat} (e : tl x = l ++ [c]) (h : y.cps.contains c = false) : Txt.rstripChars x y = x := by
  unfold Txt.rstripChars Txt.stripBy
  refine if_pos ?_
  unfold stripSame stripHi stripLo
  have e1 : ((x.cps.toList.drop 0).reverse.takeWhile y.cps.contains) = [] := by
    rw [List.drop_zero, show x.cps.toList = l ++ [c] from e, List.reverse_append]
    show List.takeWhile y.cps.contains (c :: l.reverse) = []
    rw [List.takeWhile_cons, h]
    rfl
  simp only [Bool.false_eq_true, if_false, if_true]
  rw [e1]
  simp
theorem cut_id {x : Str} {n : Nat} (h : x.length ≤ n) : cutS x none (some (n : Int)) = x := ext_tl (by
  rw [tl_cutTo]
  exact List.take_of_length_le (by rw [← len_tl]; exact h))
theorem tl_up : tl upS = (List.range 26).map (· + 65) := by rw [tl_ofString]; rfl
theorem tl_lo : tl loS = (List.range 26).map (· + 97) := by rw [tl_ofString]; rfl
def upL : List (Nat × Nat) := ((tl upS).zip (tl loS)).reverse
def upK : List (Nat × Nat) := (((List.range 26).map (· + 65)).zip ((List.range 26).map (· + 97))).reverse
theorem upL_eq : upL = upK := by unfold upL upK; rw [tl_up, tl_lo]
theorem up_len : upS.length = loS.length := by rw [len_tl, len_tl, tl_up, tl_lo]; rfl
theorem up_le : upS.length ≤ 1000 := by rw [len_tl, tl_up]; decide
theorem up_nd : ((tl upS).zip (tl loS)).Pairwise fun p q => p.1 ≠ q.1 := by rw [tl_up, tl_lo]; decide
theorem up_b : ∀ c e, upL.lookup c = some e → e < 128 := by
  rw [upL_eq]
  intro c e h
  have hm : ∀ p ∈ upK, p.2 < 128 := by decide
  have gen : ∀ l : List (Nat × Nat), (∀ p ∈ l, p.2 < 128) → l.lookup c = some e → e < 128 := by
    intro l
    induction l with
    | nil => intro _ h; cases h
    | cons p r ih =>
      intro hp h
      obtain ⟨a, b⟩ := p
      rw [List.lookup_cons] at h
      by_cases q : c = a
      · rw [q, beq_self_eq_true] at h
        cases h
        exact hp _ List.mem_cons_self
      · rw [beq_eq_false_iff_ne.mpr q] at h
        exact ih (fun p hp' => hp p (List.mem_cons_of_mem _ hp')) h
  exact gen upK hm h
def lowN (c : Nat) : Nat := if 65 ≤ c ∧ c ≤ 90 then c + 32 else c
theorem low_k : (List.range 128).all (fun c => tr1 upK c == lowN c) = true := by decide +kernel
theorem low_eq {c : Nat} (h : c < 128) : tr1 upL c = lowN c := by
  rw [upL_eq]
  exact eq_of_beq (List.all_eq_true.mp low_k c (List.mem_range.mpr h))
theorem upper_k : (List.range 128).all (fun c => (decide (65 ≤ c) && decide (c ≤ 90)) || (match (Txt.upper ⟨#[c]⟩).cps.toList with | [e] => decide (e < 128) && lowN e == c | _ => false)) = true := by decide +kernel
theorem upper_eq {c : Nat} (h : c < 128) (h2 : ¬ (65 ≤ c ∧ c ≤ 90)) : ∃ e, Txt.upper ⟨#[c]⟩ = ⟨#[e]⟩ ∧ e < 128 ∧ lowN e = c := by
  have q := List.all_eq_true.mp upper_k c (List.mem_range.mpr h)
  have h3 : (decide (65 ≤ c) && decide (c ≤ 90)) = false := by
    cases e : (decide (65 ≤ c) && decide (c ≤ 90)) with
    | false => rfl
    | true =>
      rw [Bool.and_eq_true, decide_eq_true_iff, decide_eq_true_iff] at e
      exact absurd e h2
  rw [h3, Bool.false_or] at q
  cases e : (Txt.upper ⟨#[c]⟩).cps.toList with
  | nil => rw [e] at q; cases q
  | cons a r =>
    cases r with
    | cons b r => rw [e] at q; cases q
    | nil =>
      rw [e] at q
      dsimp only at q
      rw [Bool.and_eq_true, decide_eq_true_iff, beq_iff_eq] at q
      exact ⟨a, ext_tl e, q.1, q.2⟩
theorem low_low {c : Nat} (h2 : ¬ (65 ≤ c ∧ c ≤ 90)) : lowN c = c := if_neg h2
abbrev enS : Str := Str.ofString "abcdefghijklmnopqrstuvwxyz0123456789-_+"
abbrev en2S : Str := Str.ofString "abcdefghijklmnopqrstuvwxyz0123456789"
theorem sub_k {a b : String} (h : a.toList.all (fun c => b.toList.contains c) = true) : ∀ c ∈ tl (Str.ofString a), c ∈ tl (Str.ofString b) := by
  intro c hc
  rw [tl_ofString] at hc ⊢
  obtain ⟨d, hd, rfl⟩ := List.mem_map.mp hc
  have q := List.all_eq_true.mp h d hd
  exact List.mem_map.mpr ⟨d, by simpa using q, rfl⟩
theorem nin_k {a : String} {n : Nat} (h : a.toList.all (fun c => decide (c.toNat ≠ n)) = true) : n ∉ tl (Str.ofString a) := by
  intro hc
  rw [tl_ofString] at hc
  obtain ⟨d, hd, e⟩ := List.mem_map.mp hc
  exact of_decide_eq_true (List.all_eq_true.mp h d hd) e
theorem en_loc : ∀ c ∈ tl enS, c ∈ tl locS := sub_k (by decide +kernel)
theorem en2_lab : ∀ c ∈ tl en2S, c ∈ tl labS := sub_k (by decide +kernel)
theorem dot_loc : 46 ∈ tl locS := by rw [tl_ofString]; decide +kernel
theorem dot_en : 46 ∉ tl enS := nin_k (by decide +kernel)
theorem dot_lab : 46 ∉ tl labS := nin_k (by decide +kernel)
theorem hy_en2 : 45 ∉ tl en2S := nin_k (by decide +kernel)
theorem at_loc : 64 ∉ tl locS := nin_k (by decide +kernel)
theorem at_lab : 64 ∉ tl labS := nin_k (by decide +kernel)
theorem asc_loc : Asc locS := asc_of (by decide +kernel)
theorem asc_lab : Asc labS := asc_of (by decide +kernel)
theorem noup_k {a : String} (h : a.toList.all (fun c => decide (¬ (65 ≤ c.toNat ∧ c.toNat ≤ 90))) = true) : ∀ c ∈ tl (Str.ofString a), ¬ (65 ≤ c ∧ c ≤ 90) := by
  intro c hc
  rw [tl_ofString] at hc
  obtain ⟨d, hd, rfl⟩ := List.mem_map.mp hc
  exact of_decide_eq_true (List.all_eq_true.mp h d hd)
theorem noup_loc : ∀ c ∈ tl locS, ¬ (65 ≤ c ∧ c ≤ 90) := noup_k (by decide +kernel)
theorem noup_lab : ∀ c ∈ tl labS, ¬ (65 ≤ c ∧ c ≤ 90) := noup_k (by decide +kernel)
/-- words with dots between -/
def Wd1 (p : List Nat) : Prop := p ≠ [] ∧ ∀ c ∈ p, c ∈ tl enS
def Gd (l : List Nat) : Prop := l ≠ [] ∧ l.head? ≠ some 46 ∧ l.getLast? ≠ some 46 ∧ ¬ DD l
theorem nodot {p : List Nat} (h : Wd1 p) {i : Nat} : p[i]? ≠ some 46 := fun e => dot_en (h.2 46 (List.mem_of_getElem? e))
theorem gd_one {p : List Nat} (h : Wd1 p) : Gd p := by
  refine ⟨h.1, fun e => ?_, fun e => ?_, fun ⟨i, e, _⟩ => nodot h e⟩
  · rw [List.head?_eq_getElem?] at e
    exact nodot h e
  · rw [List.getLast?_eq_getElem?] at e
    exact nodot h e
theorem gd_app {p q : List Nat} (h : Wd1 p) (g : Gd q) : Gd (p ++ 46 :: q) := by
  obtain ⟨g1, g2, g3, g4⟩ := g
  refine ⟨by simp, ?_, ?_, ?_⟩
  · cases p with
    | nil => exact absurd rfl h.1
    | cons a r =>
      intro e
      exact nodot h (i := 0) (by simpa using e)
  · rw [List.getLast?_append]
    cases q with
    | nil => exact absurd rfl g1
    | cons b r =>
      rw [List.getLast?_cons_cons]
      cases e : (b :: r).getLast? with
      | none => simp at e
      | some z =>
        rw [e] at g3
        simpa using g3
  · rintro ⟨i, e1, e2⟩
    by_cases h1 : i < p.length
    · rw [List.getElem?_append_left h1] at e1
      exact nodot h e1
    · rw [List.getElem?_append_right (by omega)] at e2
      rw [show i + 1 - p.length = (i - p.length) + 1 by omega, List.getElem?_cons_succ] at e2
      rw [List.getElem?_append_right (by omega)] at e1
      cases hk : i - p.length with
      | zero =>
        rw [hk] at e2
        rw [List.head?_eq_getElem?] at g2
        exact g2 e2
      | succ k =>
        rw [hk, List.getElem?_cons_succ] at e1
        rw [hk] at e2
        exact g4 ⟨k, e1, e2⟩
theorem gd_join : ∀ {ps : List (List Nat)}, ps ≠ [] → (∀ p ∈ ps, Wd1 p) → Gd (joinL [46] ps)
  | [], h, _ => absurd rfl h
  | [p], _, h => gd_one (h p (by simp))
  | p :: q :: r, _, h => gd_app (h p (by simp)) (gd_join (by simp) fun x hx => h x (List.mem_cons_of_mem _ hx))
def LocP (x : Str) : Prop := x.length ≤ 40 ∧ ∃ ps : List (List Nat), ps ≠ [] ∧ (∀ p ∈ ps, Wd1 p) ∧ tl x = joinL [46] ps
theorem LocP.ok {x : Str} (h : LocP x) : LocalOk (tl x) := by
  obtain ⟨hl, ps, hn, hp, e⟩ := h
  obtain ⟨g1, g2, g3, g4⟩ := gd_join hn hp
  rw [← e] at g1 g2 g3 g4
  refine ⟨⟨?_, by rw [← len_tl]; exact hl, fun c hc => ?_⟩, g2, g3, g4⟩
  · cases q : tl x with
    | nil => exact absurd q g1
    | cons _ _ => simp
  · rw [e] at hc
    rcases joinL_mem hc with q | ⟨p, hp', q⟩
    · rw [List.mem_singleton.mp q]
      exact dot_loc
    · exact en_loc c ((hp p hp').2 c q)
def LabP (p : List Nat) : Prop := ∃ c m c', p = c :: (m ++ [c']) ∧ c ∈ tl en2S ∧ c' ∈ tl en2S ∧ m.length ≤ 3 ∧ ∀ d ∈ m, d ∈ tl labS
theorem LabP.in {p : List Nat} (h : LabP p) : ∀ d ∈ p, d ∈ tl labS := by
  obtain ⟨c, m, c', rfl, hc, hc', hm, hd⟩ := h
  intro d q
  rcases List.mem_cons.mp q with rfl | q
  · exact en2_lab _ hc
  · rcases List.mem_append.mp q with q | q
    · exact hd d q
    · rw [List.mem_singleton.mp q]
      exact en2_lab _ hc'
theorem LabP.len {p : List Nat} (h : LabP p) : 2 ≤ p.length ∧ p.length ≤ 5 := by
  obtain ⟨c, m, c', rfl, hc, hc', hm, hd⟩ := h
  simp only [List.length_cons, List.length_append, List.length_nil]
  omega
theorem LabP.ok {p : List Nat} (h : LabP p) : LabelOk p := by
  have h1 := h.in
  have h2 := h.len
  obtain ⟨c, m, c', rfl, hc, hc', hm, hd⟩ := h
  refine ⟨⟨by omega, by omega, h1⟩, fun e => ?_, fun e => ?_⟩
  · exact hy_en2 (by rw [← Option.some.inj e]; exact hc)
  · rw [show c :: (m ++ [c']) = (c :: m) ++ [c'] from rfl, List.getLast?_append] at e
    have e2 : some c' = some 45 := by simpa using e
    exact hy_en2 (by rw [← Option.some.inj e2]; exact hc')
def DomP (x : Str) : Prop := x.length ≤ 40 ∧ ∃ ps : List (List Nat), ps ≠ [] ∧ (∀ p ∈ ps, LabP p) ∧ tl x = joinL [46] ps
theorem DomP.ok {x : Str} (h : DomP x) : DomOk (tl x) := by
  obtain ⟨hl, ps, hn, hp, e⟩ := h
  refine ⟨by rw [← len_tl]; omega, fun p q => ?_⟩
  rw [e, spl_join hn fun p hp' => fun m => dot_lab ((hp p hp').in 46 m)] at q
  exact (hp p q).ok
theorem join_end : ∀ {ps : List (List Nat)}, ps ≠ [] → joinL [46] (ps ++ [[]]) = joinL [46] ps ++ [46]
  | [], h => absurd rfl h
  | [p], _ => by simp [joinL]
  | p :: q :: r, _ => by
    have ih := join_end (ps := q :: r) (by simp)
    show p ++ ([46] ++ joinL [46] ((q :: r) ++ [[]])) = (p ++ ([46] ++ joinL [46] (q :: r))) ++ [46]
    rw [ih, List.append_assoc, List.append_assoc]
theorem DomP.dot {x : Str} (h : DomP x) : ¬ DomOk (tl x ++ [46]) := by
  obtain ⟨hl, ps, hn, hp, e⟩ := h
  intro hd
  have q := hd.2 []
  rw [e, ← join_end hn, spl_join (by simp) fun p hp' => ?_] at q
  · have := (q (by simp)).1.1
    exact absurd this (by decide)
  · rcases List.mem_append.mp hp' with m | m
    · exact fun z => dot_lab ((hp p m).in 46 z)
    · rw [List.mem_singleton.mp m]
      simp
theorem LocP.in {x : Str} (h : LocP x) : ∀ c ∈ tl x, c ∈ tl locS := h.ok.1.2.2
theorem DomP.in {x : Str} (h : DomP x) : ∀ c ∈ tl x, c = 46 ∨ c ∈ tl labS := by
  obtain ⟨hl, ps, hn, hp, e⟩ := h
  intro c hc
  rw [e] at hc
  rcases joinL_mem hc with q | ⟨p, hp', q⟩
  · exact .inl (List.mem_singleton.mp q)
  · exact .inr ((hp p hp').in c q)
theorem dot_con {c : Nat} (h : c ≠ 46) : (Str.ofString ".").cps.contains c = false := by
  cases e : (Str.ofString ".").cps.contains c with
  | false => rfl
  | true =>
    rw [Array.contains_iff_mem] at e
    have q : c ∈ tl (Str.ofString ".") := Array.mem_def.mp e
    rw [tl_dot] at q
    exact absurd (List.mem_singleton.mp q) h
theorem LocP.fix {x : Str} (h : LocP x) : Txt.rstripChars (cutS x none (some 40)) (Str.ofString ".") = x := by
  rw [show cutS x none (some 40) = x from cut_id (n := 40) h.1]
  obtain ⟨_, _, g3, _⟩ := h.ok
  rcases List.eq_nil_or_concat (tl x) with e | ⟨l, c, e⟩
  · have := h.ok.1.1
    rw [e] at this
    exact absurd this (by decide)
  · have e' : tl x = l ++ [c] := by rw [e]; simp
    refine rs_id e' (dot_con fun z => g3 ?_)
    rw [e', List.getLast?_append, z]
    rfl
theorem LocP.mk {xs : List Str} (hn : xs ≠ []) (hp : ∀ x ∈ xs, Wd1 (tl x)) (hl : (Txt.join (Str.ofString ".") xs).length ≤ 40) : LocP (Txt.join (Str.ofString ".") xs) :=
  ⟨hl, xs.map tl, fun e => hn (List.map_eq_nil_iff.mp e), fun p h => by
    obtain ⟨x, hx, rfl⟩ := List.mem_map.mp h
    exact hp x hx, by rw [tl_joined, tl_dot]⟩
theorem DomP.mk {xs : List Str} (hn : xs ≠ []) (hp : ∀ x ∈ xs, LabP (tl x)) (hl : (Txt.join (Str.ofString ".") xs).length ≤ 40) : DomP (Txt.join (Str.ofString ".") xs) :=
  ⟨hl, xs.map tl, fun e => hn (List.map_eq_nil_iff.mp e), fun p h => by
    obtain ⟨x, hx, rfl⟩ := List.mem_map.mp h
    exact hp x hx, by rw [tl_joined, tl_dot]⟩
def zUpper : V → List V → Hp → VK → Prop := fun x xs H Q => ∃ a, x = V.str a ∧ xs = [] ∧ a.length ≤ 5592405 ∧ Q (.str (Txt.upper a)) H
theorem y_upper {X : Cx} : MtR X "str.upper" zUpper := mt_upper
section
variable {σ : L2.St} {H H1 : Hp} {Q : VK} {K : PySem.W.Frag} {st sc a p D : Addr} {ns : List Int} {ta : TE} {x y : Str} {bs : List Bool} {P : Program} {w : World} {ps : List (Nat × Nat)} {J : It} {Rl : Hp → Prop} {xs : List V} {vs : List Nat} {te : TE} {j : Nat} {Qd : Hp → Prop} {tt : TT}
theorem rd_m0 {f : V → List V → Hp → VK → Prop} (h : ta σ H fun x H1 => wM x (f x [] H1 Q)) : tM0 f ta σ H Q := h
theorem rd_upper (h : Q (.str (Txt.upper x)) H) (c : x.length ≤ 1000) : zUpper (.str x) [] H Q := ⟨x, rfl, rfl, by omega, h⟩
theorem rd_mk (h : ∀ p, H p = none → Q (.ref p) (upd H p (TabO P w ps p))) : zMk P w ps σ H Q := h
theorem rd_tr (e : H p = some (TabO P w ps p)) (c : x.length ≤ 100000) (b : ∀ c e, ps.lookup c = some e → e < 128) (h : Q (.str ⟨((tl x).map (tr1 ps)).toArray⟩) H) : zTr P w (.str x) [.ref p] H Q := ⟨x, p, ps, rfl, rfl, e, c, b, h⟩
theorem rd_all (c : SqL K H a (bs.map V.bl)) (h : Q (.bl (bs.all id)) H) : rAll K [.ref a] H Q := ⟨a, bs, rfl, c, h⟩
theorem rd_any (c : SqL K H a (bs.map V.bl)) (h : Q (.bl (bs.any id)) H) : rAny K [.ref a] H Q := ⟨a, bs, rfl, c, h⟩
theorem rd_split (h : ∀ p, H p = none → Q (.ref p) (upd H p (.lst ((Txt.split x y).map V.str)))) (e : (y.length == 0) = false) (c : x.length ≤ 100000) : zSplit (.str x) [.str y] H Q := ⟨x, y, rfl, rfl, e, line_of (by omega), h⟩
theorem rd_parti (h : ∀ p, H p = none → Q (.ref p) (upd H p (.tup [.str (Txt.partition x y).1, .str (Txt.partition x y).2.1, .str (Txt.partition x y).2.2]))) (e : (y.length == 0) = false) (c : x.length ≤ 100000) : zPartition (.str x) [.str y] H Q := ⟨x, y, rfl, rfl, e, line_of (by omega), h⟩
theorem rd_ninS (h : Q (.bl (!(!(Builtin.Str.occurrences y x 0 y.length 1).isEmpty))) H) : zInS true (.str x) (.str y) H Q := ⟨x, y, rfl, rfl, h⟩
theorem rd_inS (h : Q (.bl (!(Builtin.Str.occurrences y x 0 y.length 1).isEmpty)) H) : zInS false (.str x) (.str y) H Q := ⟨x, y, rfl, rfl, h⟩
/-- a comprehension with draws, item by item -/
theorem lcD (Wk : WalkOf J (fun _ => True) xs) (W : Wd K st sc ns H1) (nD : H1 D = none) (hn : xs.length ≤ 100000) (G : V → V → Prop)
    (hs : ∀ x ∈ xs, ∀ H (R : VK), Wd K st sc ns H → Dr st H1 H → (∀ y H', Dr st H H' → G x y → R y H') → wipe ((wipe σ vs).set j (some x)) vs = wipe σ vs ∧ te ((wipe σ vs).set j (some x)) H R)
    (hd : ∀ H' ys, Dr st H1 H' → Wd K st sc ns H' → D ≠ st → H' D = some (.lst ys) → ys.length = xs.length → (∀ (k : Nat) x y, xs[k]? = some x → ys[k]? = some y → G x y) → Qd H') : LcJ J (gName j) tYes te vs σ H1 D Qd := by
  have nS : D ≠ st := W.1.ne nD
  refine lcJ Wk (fun i H => Dr st H1 H ∧ ∃ ys, H D = some (.lst ys) ∧ ys.length = i ∧ ∀ (k : Nat) x y, xs[k]? = some x → ys[k]? = some y → G x y) ⟨W.dr.new nD, [], upd_same, rfl, fun k x y _ h => by simp at h⟩ (fun _ _ _ _ => trivial) (fun i x H hx p => ?_) (fun H p => ?_)
  · obtain ⟨d, ys, e, el, eg⟩ := p
    have q := hs x (List.mem_of_getElem? hx) H (fun y H4 => ∃ acc, H4 D = some (.lst acc) ∧ acc.length < sizeLine ∧ (Dr st H1 (upd H4 D (.lst (acc ++ [y]))) ∧ ∃ ys, (upd H4 D (.lst (acc ++ [y]))) D = some (.lst ys) ∧ ys.length = i + 1 ∧ ∀ (k : Nat) x y, xs[k]? = some x → ys[k]? = some y → G x y)) (W.next d) d (fun y H' d' gy => by
      have e' : H' D = some (.lst ys) := d'.1 _ _ nS e
      have hi := (List.getElem?_eq_some_iff.mp hx).1
      refine ⟨ys, e', lt_line (by omega), Dr.put W.1 (d.trans d') nD, ys ++ [y], upd_same, by rw [List.length_append, el]; rfl, fun k x2 y2 hx2 hy2 => ?_⟩
      by_cases hk : k < ys.length
      · rw [List.getElem?_append_left hk] at hy2
        exact eg k x2 y2 hx2 hy2
      · have hk2 := (List.getElem?_eq_some_iff.mp hy2).1
        rw [List.length_append] at hk2
        have hk3 : k < ys.length + 1 := hk2
        have ek : k = i := by omega
        rw [ek, ← el, List.getElem?_append_right (Nat.le_refl _), Nat.sub_self] at hy2
        rw [ek, hx] at hx2
        rw [← Option.some.inj hx2, ← Option.some.inj hy2]
        exact gy)
    exact ⟨q.1, q.2⟩
  · obtain ⟨d, ys, e, el, eg⟩ := p
    exact hd H ys d (W.next d) nS e el eg
end
theorem all_id {α : Type} (l : List α) (p : α → Bool) : (l.map p).all id = l.all p := by
  induction l with
  | nil => rfl
  | cons a r ih => rw [List.map_cons, List.all_cons, List.all_cons, ih]; rfl
theorem low_map {l : List Nat} (h : ∀ c ∈ l, c < 128) : l.map (tr1 upL) = l.map lowN := List.map_congr_left fun c hc => low_eq (h c hc)
theorem low_id {l : List Nat} (h : ∀ c ∈ l, ¬ (65 ≤ c ∧ c ≤ 90)) : l.map lowN = l := by
  have e : l.map lowN = l.map id := List.map_congr_left fun c hc => low_low (h c hc)
  rw [e, List.map_id]
theorem len_dd : (Str.ofString "..").length = 2 := by rw [len_of]; rfl
theorem tl_dd : tl (Str.ofString "..") = [46, 46] := by rw [tl_ofString]; rfl
theorem tl_hy : tl (Str.ofString "-") = [45] := by rw [tl_ofString]; rfl
theorem tl_at : tl (Str.ofString "@") = [64] := by rw [tl_ofString]; rfl
theorem tl_lt : tl (Str.ofString "<") = [60] := by rw [tl_ofString]; rfl
theorem tl_gt : tl (Str.ofString ">") = [62] := by rw [tl_ofString]; rfl
theorem tl_ltgt : tl (Str.ofString "<>") = [60, 62] := by rw [tl_ofString]; rfl
theorem spl_len (s : Nat) : ∀ (l acc : List Nat), (spl [s] 0 acc l).length ≤ l.length + 1
  | [], acc => by rw [spl_nil]; exact Nat.le_refl _
  | c :: r, acc => by
    by_cases h : pre [s] (c :: r) = true
    · rw [spl_hit h, List.length_cons, List.length_cons]
      exact Nat.succ_le_succ (spl_len s r [])
    · rw [Bool.not_eq_true] at h
      rw [spl_miss h, List.length_cons]
      exact Nat.le_succ_of_le (spl_len s r _)
theorem spl_mem (s : Nat) : ∀ (l acc : List Nat), ∀ p ∈ spl [s] 0 acc l, p.length ≤ acc.length + l.length
  | [], acc, p, h => by
    rw [spl_nil] at h
    rw [List.mem_singleton.mp h]
    exact Nat.le_add_right _ _
  | c :: r, acc, p, h => by
    by_cases e : pre [s] (c :: r) = true
    · rw [spl_hit e] at h
      rcases List.mem_cons.mp h with rfl | h
      · exact Nat.le_add_right _ _
      · have q := spl_mem s r [] p h
        rw [List.length_nil, Nat.zero_add] at q
        rw [List.length_cons]
        omega
    · rw [Bool.not_eq_true] at e
      rw [spl_miss e] at h
      have q := spl_mem s r _ p h
      rw [List.length_append] at q
      rw [List.length_cons]
      have q2 : p.length ≤ acc.length + 1 + r.length := q
      omega
theorem split_dot (z : Str) : (Txt.split z (Str.ofString ".")).map tl = spl [46] 0 [] (tl z) := by
  rw [split_spl z _ (by rw [tl_dot]; exact List.cons_ne_nil _ _) (kind_ok (by decide +kernel)), tl_dot]
theorem split_at (z : Str) : (Txt.split z (Str.ofString "@")).map tl = spl [64] 0 [] (tl z) := by
  rw [split_spl z _ (by rw [tl_at]; exact List.cons_ne_nil _ _) (kind_ok (by decide +kernel)), tl_at]
/-! ### errors -/
structure ExT (K : PySem.W.Frag) (mg : Str → Option Value) (C M : Addr) : Prop where
  gC : mg "InvalidAddress" = some (.ref C)
  gM : mg "MailError" = some (.ref M)
  xC : PySem.W.excIn K C [.type "ValueError", .type "Exception", .type "BaseException", .type "object"] "ValueError.__new__" = true
  kC : PySem.W.keepIn K (.ref C) = true
  bC : PySem.W.subIn K (.ref C) (.type "BaseException") = some true
  tC : PySem.W.typeIn K (.ref C) = some (.type "type")
  sC : PySem.W.subIn K (.ref C) (.ref C) = some true
  kM : PySem.W.kitOne K (.ref C) (.ref M) = some true
  kV : PySem.W.kitOne K (.ref C) (.type "ValueError") = some true
  e : ExcC K C
theorem ExT.exm {K : PySem.W.Frag} {mg : Str → Option Value} {C M : Addr} (h : ExT K mg C M) : PySem.W.exmOne K (.ref C) (.ref C) = some true := PySem.W.exm_ref h.bC h.e.hd h.tC h.sC
theorem ok_mkX {P : Program} {w : World} {K : PySem.W.Frag} {mg : Str → Option Value} {base : Heap} {k : Nat} {x : Str} {st : Stmt} {ps N : List Str} {sp : Sp} (d : Dn K mg x st ps) (S : FnScope N ps (defScope st))
    (len : ∀ vs H Q E, sp vs H Q E → vs.length = ps.length)
    (hbody : ∀ (f : Addr) (cdv : Value) (A : Around) (outer : List Env) (s : Shared) (H : Hp) (vs : List V) (Q : VK) (E : XK), Room k (A.deeper (envOfC x (defScope st) s.heap.objs.size f cdv)) → sp vs H Q E →
      ∃ t, PSs (cxOf (L2.CX P w) P w K mg base N x (defScope st) f cdv A outer s H E) (defBody st) t ∧ t ⟨fun _ H' => Q .non H', Q, fun _ _ => False, fun _ _ => False⟩ (start N vs) H) : OkD P w K mg base (L2.CX P w) (k + 1) x ps sp := by
  obtain ⟨f, fd, m, F, b⟩ := d
  exact ⟨f, fd, m, F.kp, binds_of b, F.okX S len fun cdv A outer s H vs Q E hr h => hbody f cdv A outer s H vs Q E hr h⟩
section
variable {X : Cx} {K : PySem.W.Frag} {σ : L2.St} {H : Hp} {Q : VK} {nx bk ct : L2.St → Hp → Prop} {rt : VK} {ta : TE} {as : TA} {W : WX} {C a : Addr} {cls : Value} {d : Option Addr} {x y : Str} {i : Int} {k : Nat}
theorem pe_callDS {k : Nat} {x : Str} {ps : List Str} {sp : Sp} {t : TA} {e : Expr} {es : List Expr} {p pos : Pos} {E : L2.St → XK} (O : OkD X.prog X.w X.K X.mg X.base (L2.CX X.prog X.w) k x ps sp) (hr : Room k X.A) (hg : Gl X x) (hx : ∀ σ, PassesAt (L2.CX X.prog X.w) X σ (E σ)) (ha : PA X (e :: es) t)
    (hdb : (x == ("__debug__" : Str)) = false := by decide) (he : starEach (e :: es) X.env = (false, eval e X.env) :: starEach es X.env := by rfl) (hpl : (backTo pos (starEach es X.env)).any (·.1) = false := by rfl) :
    PE X (.Call (.Name x p) (e :: es) [] pos) (tCallS sp E t) := by
  obtain ⟨f, fd, m, kp, b, F⟩ := O
  exact pe_callS F hr hg m kp b hx ha hdb he hpl
theorem rd_callS {sp : Sp} {E : L2.St → XK} (h : as σ H fun vs H1 => sp vs H1 Q (E σ)) : tCallS sp E as σ H Q := h
def zRaise (C : Addr) (W : WX) (ta : TE) : TS := fun _ σ H => ta σ H fun _ H1 => W (.ref C) none σ H1
theorem y_raise {x : Str} {e : Expr} {p pos pos2 : Pos} (hc : X.calm = true) (tk : Takes X W) (q : PySem.W.excIn X.K C [.type "ValueError", .type "Exception", .type "BaseException", .type "object"] "ValueError.__new__" = true) (gC : X.mg x = some (.ref C)) (kC : PySem.W.keepIn X.K (.ref C) = true) (r : Raises X (.ref C)) (hg : Gl X x)
    (he : PE X e ta) (hs : starEach [e] X.env = (false, eval e X.env) :: starEach [] X.env := by rfl) (hdb : (x == ("__debug__" : Str)) = false := by decide) :
    PS X (.Raise (some (.Call (.Name x p) [e] [] pos)) none pos2) (zRaise C W ta) := ps_raise hc tk (SkE.pmk_own1 PySem.F.excBase_ValueError q gC kC r hg he hs hdb)
theorem rd_raise {D : Ends} (h : ta σ H fun _ H1 => W (.ref C) none σ H1) : zRaise C W ta D σ H := h
def zTryO (K : PySem.W.Frag) (c : Value) (tb : WX → TS) (ts : Addr → Value → Option Addr → TS) (Wout : WX) : TS := fun D σ H => tb (wOnly K c ts Wout D) D σ H
def zTryA (K : PySem.W.Frag) (c : Value) (i : Nat) (tb : WX → TS) (ts : Addr → Value → Option Addr → TS) (Wout : WX) : TS := fun D σ H => tb (wAs K c i ts Wout D) D σ H
theorem y_tryO {x : Str} {c : Value} {body suite : List Stmt} {b₀ : Stmt} {np pos pos' : Pos} {tb : WX → TS} {ts : Addr → Value → Option Addr → TS} {Wout : WX} (hs : X.stack = X.env :: X.outer) (hf : X.env.frame = some X.env.locals) (hc : Names X x c) (tk : Takes X Wout)
    (hb : ∀ (W : WX) (pn : List (Addr × Obj)) (xe : Value → Shared → Prop), Takes (X.tr pn xe) W → PassesOwn (model X.prog X.w) X.A X.env xe → PSs (X.tr pn xe) body (tb W))
    (hsu : ∀ (a : Addr) (oe : Obj) (cls : Value) (d : Option Addr) (pn : List (Addr × Obj)), Zc cls d oe → (∃ vs, oe.data = .fields vs) → PSs (X.suite a ((a, oe) :: pn)) (b₀ :: suite) (ts a cls d)) :
    PS X (.Try body [.ExceptHandler (some (.Name x np)) none (b₀ :: suite) pos'] [] [] pos) (zTryO X.K c tb ts Wout) := ps_try_only hs hf hc tk hb hsu
theorem y_tryA {x n : Str} {c : Value} {i : Nat} {body suite : List Stmt} {b₀ : Stmt} {np pos pos' : Pos} {tb : WX → TS} {ts : Addr → Value → Option Addr → TS} {Wout : WX} (hs : X.stack = X.env :: X.outer) (hf : X.env.frame = some X.env.locals) (hN : X.N.Nodup) (hi : X.N[i]? = some n) (hln : X.env.kindOf n = some .local) (hc : Names X x c) (tk : Takes X Wout)
    (hb : ∀ (W : WX) (pn : List (Addr × Obj)) (xe : Value → Shared → Prop), Takes (X.tr pn xe) W → PassesOwn (model X.prog X.w) X.A X.env xe → PSs (X.tr pn xe) body (tb W))
    (hsu : ∀ (a : Addr) (oe : Obj) (cls : Value) (d : Option Addr) (pn : List (Addr × Obj)), Zc cls d oe → (∃ vs, oe.data = .fields vs) → PSs (X.suite a ((a, oe) :: pn)) (b₀ :: suite) (ts a cls d)) :
    PS X (.Try body [.ExceptHandler (some (.Name x np)) (some n) (b₀ :: suite) pos'] [] [] pos) (zTryA X.K c i tb ts Wout) := ps_try_as hs hf hN hi hln hc tk hb hsu
theorem rd_tryO {c : Value} {tb : WX → TS} {ts : Addr → Value → Option Addr → TS} {Wout : WX} (h : tb (wOnly K c ts Wout ⟨nx, rt, bk, ct⟩) ⟨nx, rt, bk, ct⟩ σ H) : zTryO K c tb ts Wout ⟨nx, rt, bk, ct⟩ σ H := h
theorem rd_tryA {c : Value} {i : Nat} {tb : WX → TS} {ts : Addr → Value → Option Addr → TS} {Wout : WX} (h : tb (wAs K c i ts Wout ⟨nx, rt, bk, ct⟩) ⟨nx, rt, bk, ct⟩ σ H) : zTryA K c i tb ts Wout ⟨nx, rt, bk, ct⟩ σ H := h
def zIsE (K : PySem.W.Frag) (D a : Addr) (cls : Value) (d : Option Addr) : List V → Hp → VK → Prop := fun xs H Q => cls = .ref D ∧ d = Option.none ∧ rIsE K D a xs H Q
theorem y_isE {a D : Addr} {oe : Obj} {cls : Value} {d : Option Addr} {pn : List (Addr × Obj)} (C : ExcC X.K D) (hz : Zc cls d oe) (hf : ∃ vs, oe.data = .fields vs) : CallR (X.suite a ((a, oe) :: pn)) (.builtin "isinstance") (zIsE X.K D a cls d) := by
  intro pins s σ H xs us Q I r h
  obtain ⟨rfl, rfl, h⟩ := h
  exact call_isE C hz hf pins s σ H xs us Q I r h
def zSIx : V → List V → Hp → VK → Prop := fun x xs H Q => ∃ (a b : Str) (k : Nat), x = V.str a ∧ xs = [V.str b] ∧ Txt.index0 a b = some k ∧ Q (.int (k : Nat)) H
theorem y_sIx : MtR X "str.index" zSIx := by
  intro pins s σ H x xs v us Q I rx rs h
  obtain ⟨a, b, k, rfl, rfl, hk, q⟩ := h
  obtain ⟨t, rfl⟩ := rx
  obtain ⟨u1, rfl, u, rfl⟩ := Vals.one rs
  cases e : Builtin.Str.occurrences a b 0 a.length 1 with
  | nil =>
    unfold Txt.index0 at hk
    rw [e] at hk
    cases hk
  | cons j rest =>
    unfold Txt.index0 at hk
    rw [e] at hk
    cases hk
    exact PySem.SC.index e ⟨.int (k : Nat), H, I.tok _, ⟨_, rfl⟩, q⟩
theorem rd_sIx (e : Txt.index0 x y = some k) (h : Q (.int (k : Nat)) H) : zSIx (.str x) [.str y] H Q := ⟨x, y, k, rfl, rfl, e, h⟩
theorem rd_ixS {c : Nat} (e : atI (tl x) i = some c) (l : x.length ≤ 100000) (h : Q (.str ⟨#[c]⟩) H) : rIxS (.str x) (.int i) H Q := ⟨x, i, c, rfl, rfl, line_of (by omega), e, h⟩
end
theorem first_at {s : Nat} : ∀ {l : List Nat}, s ∈ l → ∃ p r, l = p ++ s :: r ∧ s ∉ p
  | [], h => nomatch h
  | c :: t, h => by
    by_cases e : c = s
    · exact ⟨[], t, by rw [e]; rfl, by simp⟩
    · have ht : s ∈ t := by
        rcases List.mem_cons.mp h with q | q
        · exact absurd q.symm e
        · exact q
      obtain ⟨p, r, e1, e2⟩ := first_at ht
      refine ⟨c :: p, r, by rw [e1]; rfl, fun m => ?_⟩
      rcases List.mem_cons.mp m with q | q
      · exact e q.symm
      · exact e2 q
theorem split_uni {s : Nat} : ∀ {p p' r r' : List Nat}, s ∉ p → s ∉ p' → p ++ s :: r = p' ++ s :: r' → p = p' ∧ r = r'
  | [], [], r, r', _, _, h => ⟨rfl, (List.cons.inj h).2⟩
  | [], c :: p', r, r', _, h2, h => absurd (by rw [(List.cons.inj h).1]; exact List.mem_cons_self) h2
  | c :: p, [], r, r', h1, _, h => absurd (by rw [← (List.cons.inj h).1]; exact List.mem_cons_self) h1
  | c :: p, c' :: p', r, r', h1, h2, h => by
    obtain ⟨e1, e2⟩ := List.cons.inj h
    obtain ⟨g1, g2⟩ := split_uni (fun m => h1 (List.mem_cons_of_mem _ m)) (fun m => h2 (List.mem_cons_of_mem _ m)) e2
    exact ⟨by rw [e1, g1], g2⟩
theorem spl_has {s c : Nat} (hc : c ≠ s) : ∀ (l acc : List Nat), c ∈ acc ∨ c ∈ l → ∃ p ∈ spl [s] 0 acc l, c ∈ p
  | [], acc, h => by
    rw [spl_nil]
    refine ⟨acc, List.mem_cons_self, ?_⟩
    rcases h with h | h
    · exact h
    · cases h
  | a :: r, acc, h => by
    by_cases e : pre [s] (a :: r) = true
    · rw [spl_hit e]
      have ea : a = s := by
        have q : [a] = [s] := eq_of_beq e
        exact (List.cons.inj q).1
      rcases h with h | h
      · exact ⟨acc, List.mem_cons_self, h⟩
      · rcases List.mem_cons.mp h with q | q
        · exact absurd (q.trans ea) hc
        · obtain ⟨p, hp, hcp⟩ := spl_has hc r [] (.inr q)
          exact ⟨p, List.mem_cons_of_mem _ hp, hcp⟩
    · rw [Bool.not_eq_true] at e
      rw [spl_miss e]
      refine spl_has hc r _ ?_
      rcases h with h | h
      · exact .inl (List.mem_append_left _ h)
      · rcases List.mem_cons.mp h with q | q
        · exact .inl (List.mem_append_right _ (by rw [q]; exact List.mem_cons_self))
        · exact .inr q
theorem dom_noat {l : List Nat} (h : DomOk l) : 64 ∉ l := fun m => by
  obtain ⟨p, hp, hc⟩ := spl_has (s := 46) (by decide : (64 : Nat) ≠ 46) l [] (.inr m)
  exact at_lab ((h.2 p hp).1.2.2 64 hc)
theorem loc_noat {l : List Nat} (h : LocalOk l) : 64 ∉ l := fun m => at_loc (h.1.2.2 64 m)
theorem dom_nil : ¬ DomOk [] := fun h => by
  have q := (h.2 [] (by rw [spl_nil]; exact List.mem_cons_self)).1.1
  exact absurd q (by decide)
def Parsed (t : List Nat) (l d : Str) : Prop := t.map (tr1 upL) = tl l ++ 64 :: tl d ∧ LocalOk (tl l) ∧ DomOk (tl d)
theorem Parsed.uni {t : List Nat} {l d l' d' : Str} (h : Parsed t l d) (g : Parsed t l' d') : l = l' ∧ d = d' := by
  obtain ⟨e1, e2⟩ := split_uni (loc_noat h.2.1) (loc_noat g.2.1) (h.1.symm.trans g.1)
  exact ⟨ext_tl e1, ext_tl e2⟩
theorem idx_k : (List.range 26).all (fun i => decide (Txt.index0 upS ⟨#[65 + i]⟩ = some i)) = true := by decide +kernel
theorem fold_cat (z : Array Nat) : ∀ (n : Nat) (acc : Array Nat), ((List.replicate n z).foldl (· ++ ·) acc).toList = acc.toList ++ (List.replicate n z.toList).flatten
  | 0, acc => by simp
  | n + 1, acc => by
    rw [List.replicate_succ, List.foldl_cons, fold_cat z n, List.replicate_succ, List.flatten_cons, Array.toList_append, List.append_assoc]
def zMulS : R2 := fun x y H Q => ∃ (z : Str) (k : Int), x = .str z ∧ y = .int k ∧ 1 ≤ k ∧ k ≤ 1000 ∧ z.length ≤ 1000 ∧ ∀ r : Str, r.length ≤ z.length * k.toNat → 1 * z.length ≤ r.length → (∀ c ∈ tl r, c ∈ tl z) → Q (.str r) H
theorem y_repS {X : Cx} : OpR X (binaryOp .Mult) zMulS := by
  intro pins s σ H x y v u Q I rx ry h
  obtain ⟨z, k, rfl, rfl, k1, k2, hz, q⟩ := h
  obtain ⟨t, rfl⟩ := rx
  obtain ⟨t', rfl⟩ := ry
  have hb : z.length * k.toNat ≤ 1000 * 1000 := Nat.mul_le_mul hz (by omega)
  refine PySem.P.mul_str (by
    rw [decide_eq_false (by omega : ¬ k < -(2 ^ 63 : Int)), decide_eq_false (by omega : ¬ k ≥ 2 ^ 63)]
    rfl) (fun _ _ => ?_) (fun _ _ => PyProof.Rows.short24 (by omega)) ?_
  · have h2 : (1000 : Int) ≤ (2 ^ 63 - 1) / k := by
      rw [Int.le_ediv_iff_mul_le (by omega)]
      omega
    omega
  · rw [if_neg (by omega)]
    by_cases e : (k == 1 || z.length == 0) = true
    · rw [if_pos e]
      refine ⟨.str z, H, I, ⟨t, rfl⟩, q z ?_ (by omega) fun c h => h⟩
      have : 1 ≤ k.toNat := by omega
      calc z.length = z.length * 1 := (Nat.mul_one _).symm
        _ ≤ z.length * k.toNat := Nat.mul_le_mul_left _ this
    · rw [if_neg e]
      have hf := fold_cat z.cps k.toNat #[]
      have hr : tl (⟨(List.replicate k.toNat z.cps).foldl (· ++ ·) #[]⟩ : Str) = (List.replicate k.toNat (tl z)).flatten := by
        show ((List.replicate k.toNat z.cps).foldl (· ++ ·) #[]).toList = _
        rw [hf]
        rfl
      have hlen : (⟨(List.replicate k.toNat z.cps).foldl (· ++ ·) #[]⟩ : Str).length = k.toNat * z.length := by
        rw [len_tl, hr, List.length_flatten, List.map_replicate, List.sum_replicate_nat, ← len_tl]
      refine ⟨?_, .str _, H, I.tok _, ⟨_, rfl⟩, q _ ?_ ?_ fun c hc => ?_⟩
      · rw [hlen, Nat.mul_comm]
        exact line_of (by omega)
      · rw [hlen, Nat.mul_comm]
        exact Nat.le_refl _
      · rw [hlen]
        exact Nat.mul_le_mul_right _ (by omega)
      · rw [hr] at hc
        obtain ⟨l, hl, hcl⟩ := List.mem_flatten.mp hc
        rw [(List.mem_replicate.mp hl).2] at hcl
        exact hcl
section
variable {σ : L2.St} {H H1 : Hp} {Q : VK} {K : PySem.W.Frag} {D : Addr} {n j : Nat} {vs : List Nat} {te : TE} {Qd : Hp → Prop} {a b : Bool} {p q : Addr} {xs zs : List V}
theorem lcRp (nD : H1 D = none) (hn : n ≤ 100000) (f : Nat → V)
    (hs : ∀ i, i < n → ∀ H (R : VK), Same H1 H → (∀ H'', Same H H'' → R (f i) H'') → wipe ((wipe σ vs).set j (some (.int (0 + (i : Nat))))) vs = wipe σ vs ∧ te ((wipe σ vs).set j (some (.int (0 + (i : Nat))))) H R)
    (hd : ∀ H', Same H1 H' → H' D = some (.lst ((List.range n).map f)) → Qd H') : LcR n (gName j) te vs σ H1 D Qd := by
  refine lc_range (Pv := fun i H => Same H1 H ∧ H D = some (.lst ((List.range i).map f))) ⟨same_new nD, by rw [upd_same]; rfl⟩ (fun i H hi p => ?_) (fun H p => hd H p.1 p.2)
  obtain ⟨sm, e⟩ := p
  have q := hs i hi H (fun y H4 => ∃ acc, H4 D = some (.lst acc) ∧ acc.length < sizeLine ∧ (Same H1 (upd H4 D (.lst (acc ++ [y]))) ∧ (upd H4 D (.lst (acc ++ [y]))) D = some (.lst ((List.range (i + 1)).map f)))) sm (fun H'' s2 => by
    refine ⟨_, s2 _ _ e, lt_line (by rw [List.length_map, List.length_range]; omega), fun b o eb => ?_, ?_⟩
    · rw [upd_ne (ne_of_none eb nD)]
      exact s2 _ _ (sm _ _ eb)
    · rw [upd_same, List.range_succ, List.map_append]
      rfl)
  exact ⟨q.1, q.2⟩
theorem rd_mulS {z : Str} {k : Int} (k1 : 1 ≤ k) (k2 : k ≤ 1000) (hz : z.length ≤ 1000) (h : ∀ r : Str, r.length ≤ z.length * k.toNat → 1 * z.length ≤ r.length → (∀ c ∈ tl r, c ∈ tl z) → Q (.str r) H) : zMulS (.str z) (.int k) H Q := ⟨z, k, rfl, rfl, k1, k2, hz, h⟩
theorem rd_catL (h1 : H p = some (.lst xs)) (h2 : H q = some (.lst zs)) (c : xs.length + zs.length ≤ 100000) (h : ∀ r, H r = none → Q (.ref r) (upd H r (.lst (xs ++ zs)))) : rCat (.ref p) (.ref q) H Q := ⟨p, q, xs, zs, rfl, rfl, h1, h2, line_of (by omega), h⟩
theorem rd_eqB (h : Q (.bl (decide (a = b))) H) : rEq (.bl a) (.bl b) H Q := ⟨rfl, by
  rw [show decide (V.bl a = V.bl b) = decide (a = b) by simp only [V.bl.injEq]]
  exact h⟩
/-- data of one text: equal -/
theorem rd_neSame {x y : V} {d : PyData} (h1 : Dp K H x d) (h2 : Dp K H y d) (s : SeqAt.shaped d = true) (r : PyData.eqv d d = true) (h : Q (.bl false) H) : rNeD K x y H Q := ⟨d, d, h1, h2, s, s, by
  rw [r]
  exact h⟩
end
theorem one_eq {c n : Nat} {s : String} (h : tl (Str.ofString s) = [n]) : ((⟨#[c]⟩ : Str) = Str.ofString s) ↔ c = n := by
  constructor
  · intro e
    have q := congrArg tl e
    rw [h] at q
    exact (List.cons.inj q).1
  · intro e
    exact ext_tl (by rw [h, e])
theorem eqv2 (l d : Str) : PyData.eqvAll [.str l, .str d] [.str l, .str d] = true := by simp [PyData.eqvAll, PyData.eqv]
theorem shaped2 {l d : Str} (al : Asc l) (ad : Asc d) : SeqAt.shaped (.tuple [.str l, .str d]) = true := by
  refine shaped_strs (xs := [l, d]) fun x hx => ?_
  simp only [List.mem_cons, List.not_mem_nil, or_false] at hx
  rcases hx with rfl | rfl
  · exact al
  · exact ad
theorem up_iff {c : Nat} : c ∈ tl upS ↔ 65 ≤ c ∧ c ≤ 90 := by
  rw [tl_up, List.mem_map]
  constructor
  · rintro ⟨a, ha, rfl⟩
    have := List.mem_range.mp ha
    omega
  · intro h
    exact ⟨c - 65, List.mem_range.mpr (by omega), by omega⟩
theorem up_idx {c : Nat} (h : 65 ≤ c ∧ c ≤ 90) : Txt.index0 upS ⟨#[c]⟩ = some (c - 65) := by
  have q := of_decide_eq_true (List.all_eq_true.mp idx_k (c - 65) (List.mem_range.mpr (by omega)))
  rw [show 65 + (c - 65) = c by omega] at q
  exact q
theorem lo_at {c : Nat} (h : 65 ≤ c ∧ c ≤ 90) : atI (tl loS) ((c - 65 : Nat) : Int) = some (lowN c) := by
  refine atI_nat ?_
  rw [tl_lo, List.getElem?_map, List.getElem?_range (by omega)]
  show some (c - 65 + 97) = some (lowN c)
  rw [show lowN c = c + 32 from if_pos h]
  congr 1
  omega
theorem len_lo : loS.length = 26 := by rw [len_tl, tl_lo]; rfl
theorem asc_low {l : List Nat} (h : ∀ c ∈ l, c < 128) : ∀ c ∈ l.map lowN, c < 128 := fun c hc => by
  obtain ⟨a, ha, rfl⟩ := List.mem_map.mp hc
  have := h a ha
  unfold lowN
  by_cases q : 65 ≤ a ∧ a ≤ 90
  · rw [if_pos q]
    omega
  · rw [if_neg q]
    exact this
theorem flat_ones (f : Nat → Nat) : ∀ l : List Nat, ((l.map fun c => (⟨#[f c]⟩ : Str)).map tl).flatten = l.map f
  | [] => rfl
  | c :: l => by
    show f c :: ((l.map fun c => (⟨#[f c]⟩ : Str)).map tl).flatten = f c :: l.map f
    rw [flat_ones f l]
local macro_rules | `(tactic| walk_at "rd") => `(tactic| repeat (with_reducible first
  | refine rd_seq ?_ | refine rd_asg ?_ | refine rd_cons ?_ | refine rd_nil ?_ | refine rd_c ?_ | refine rd_op ?_
  | refine rd_v0 ?_ | refine rd_v1 ?_ | refine rd_v2 ?_ | refine rd_v3 ?_ | refine rd_v4 ?_ | refine rd_v5 ?_ | refine rd_v6 ?_ | refine rd_v7 ?_ | refine rd_v8 ?_ | refine rd_v9 ?_ | refine rd_v10 ?_ | refine rd_v11 ?_
  | refine rd_n0 ?_ | refine rd_n1 ?_ | refine rd_n2 ?_ | refine rd_n3 ?_ | refine rd_n4 ?_ | refine rd_n5 ?_ | refine rd_n6 ?_ | refine rd_n7 ?_ | refine rd_n8 ?_ | refine rd_n9 ?_ | refine rd_n10 ?_ | refine rd_n11 ?_
  | refine rd_i0 ?_ | refine rd_iC ?_ ?_ | refine rd_cb ?_ | refine rd_call ?_ | refine rd_test ?_ | refine rd_tB ?_ | refine rd_wBl ?_
  | refine rd_ifS ?_ | refine rd_ret ?_ | refine rd_next ?_ | refine rd_retN ?_ | refine rd_drop ?_
  | refine rd_eqI ?_ | refine rd_neI ?_ | refine rd_eqS ?_ | refine rd_neS ?_ | refine rd_un ?_ | refine rd_u ?_
  | refine rd_and ?_ | refine rd_or ?_ | refine rd_not ?_ | refine rd_notV ?_ | refine rd_andV ?_ | refine rd_orV ?_ | refine rd_ifE ?_ | refine rd_ch ?_ | refine rd_wCh ?_
  | refine rd_tt ?_ | refine rd_ls ?_ | refine rd_sl ?_ | refine rd_noP ?_ | refine rd_part ?_ | refine rd_wPart ?_ | refine rd_m1 ?_ | refine rd_wM ?_
  | refine rd_js ?_ | refine rd_jc ?_ | refine rd_jn ?_ | refine rd_wJs ?_ ?_ | refine rd_fmt ?_ | refine rd_fmtR ?_ | refine rd_wFmt ?_ ?_ | refine rd_wFmtR ?_ ?_
  | refine rd_lenS ?_ ?_ | refine rd_int ?_ | refine rd_intB ?_ | refine rd_starts ?_ | refine rd_ends ?_ | refine rd_rstrip ?_ ?_ | refine rd_adS ?_ ?_ | refine rd_slS ?_ ?_
  | refine rd_in1 ?_ | refine rd_isB ?_ | refine rd_isN ?_ | refine rd_notN ?_ | refine rd_iT ?_ | refine rd_iF ?_ | refine rd_yes ?_ | refine rd_truth ?_ | refine rd_lcR ?_ | refine rd_gSub ?_ | refine rd_forR ?_ | refine rd_bm ?_ | refine rd_lcT ?_ | refine rd_lcL ?_ | refine rd_lcS ?_ | refine rd_frT ?_ | refine rd_frL ?_ | refine rd_wStr ?_ | refine rd_gCons ?_ | refine rd_gNil ?_ | refine rd_tix ?_ | refine rd_iNT ?_ | refine rd_iNF ?_ | refine rd_m0 ?_ | refine rd_upper ?_ ?_ | refine rd_ninS ?_ | refine rd_inS ?_ | refine rd_callS ?_ | refine rd_raise ?_ | refine rd_tryO ?_ | refine rd_tryA ?_ | refine rd_eqB ?_))
local macro_rules | `(tactic| walk_at "sd") => `(tactic| (refine line_of ?_; simp only [len_app, len_empty, len_lit0, len_dot, len_at, len_tr, len_rec, len_rea, len_lt, len_gt, len_mk, len_1]; decide))
local macro_rules | `(tactic| walk_at "sd") => `(tactic| (refine line_of ?_; simp only [len_app, len_empty, len_lit0, len_dot, len_at, len_tr, len_rec, len_rea, len_lt, len_gt, len_mk, len_1]; omega))
local macro_rules | `(tactic| walk_at "sd") => `(tactic| (refine line_of ?_; omega))
local macro_rules | `(tactic| walk_at "sd") => `(tactic| ((show (0 : Int) < _); omega))
local macro_rules | `(tactic| walk_at "sd") => `(tactic| ((show CPow _ _); exact ⟨by decide, by decide, by decide⟩))
local macro_rules | `(tactic| walk_at "sd") => `(tactic| ((show CMul _ _); first | exact .inl ⟨by decide, by decide⟩ | exact .inr ⟨by decide, by decide⟩))
local macro_rules | `(tactic| walk_at "sd") => `(tactic| with_reducible assumption)
local macro_rules | `(tactic| walk_at "rs") => `(tactic| (walk_at "rd"; all_goals try walk_at "sd"))
local macro_rules | `(tactic| walk_at "wp") => `(tactic| (simp only [List.map, wipe, List.set]; walk_at "rd"; all_goals try walk_at "sd"))
def topS (i : Nat) : Stmt := PySem.Challenge.pw_dawkline_k02_strings_that_are_no_address.main.body.getD i (.Pass ⟨0, 0, 0, 0⟩)
abbrev s_Lrefill : Stmt := topS 18
abbrev N_Lrefill : List Str := ["script", "k", "cell"]
theorem sc_Lrefill : FnScope N_Lrefill ["script", "k"] (defScope s_Lrefill) := ⟨rfl, rfl, rfl, by decide +kernel, rfl, by decide +kernel, by decide +kernel⟩
abbrev s_Ldraw : Stmt := topS 19
abbrev N_Ldraw : List Str := ["state", "script", "size", "digit"]
theorem sc_Ldraw : FnScope N_Ldraw ["state", "script", "size"] (defScope s_Ldraw) := ⟨rfl, rfl, rfl, by decide +kernel, rfl, by decide +kernel, by decide +kernel⟩
abbrev s_Lpick : Stmt := topS 22
abbrev N_Lpick : List Str := ["state", "script", "signs", "k"]
theorem sc_Lpick : FnScope N_Lpick ["state", "script", "signs"] (defScope s_Lpick) := ⟨rfl, rfl, rfl, by decide +kernel, rfl, by decide +kernel, by decide +kernel⟩
abbrev s_Ldomain : Stmt := topS 25
abbrev N_Ldomain : List Str := ["state", "script", "ends", "labels", "k", "middle"]
theorem sc_Ldomain : FnScope N_Ldomain ["state", "script"] (defScope s_Ldomain) := ⟨rfl, rfl, rfl, by decide +kernel, rfl, by decide +kernel, by decide +kernel⟩
abbrev s_Lall : Stmt := topS 27
abbrev N_Lall : List Str := ["text", "signs", "sign"]
theorem sc_Lall : FnScope N_Lall ["text", "signs"] (defScope s_Lall) := ⟨rfl, rfl, rfl, by decide +kernel, rfl, by decide +kernel, by decide +kernel⟩
abbrev s_Lis_domain : Stmt := topS 29
abbrev N_Lis_domain : List Str := ["text", "signs", "label"]
theorem sc_Lis_domain : FnScope N_Lis_domain ["text"] (defScope s_Lis_domain) := ⟨rfl, rfl, rfl, by decide +kernel, rfl, by decide +kernel, by decide +kernel⟩
abbrev s_Lis_local : Stmt := topS 28
abbrev N_Lis_local : List Str := ["text", "signs", "k"]
theorem sc_Lis_local : FnScope N_Lis_local ["text"] (defScope s_Lis_local) := ⟨rfl, rfl, rfl, by decide +kernel, rfl, by decide +kernel, by decide +kernel⟩
abbrev s_Llower : Stmt := topS 26
abbrev N_Llower : List Str := ["text", "upper", "lower", "sign"]
theorem sc_Llower : FnScope N_Llower ["text"] (defScope s_Llower) := ⟨rfl, rfl, rfl, by decide +kernel, rfl, by decide +kernel, by decide +kernel⟩
abbrev s_Lexpected : Stmt := topS 30
abbrev N_Lexpected : List Str := ["text", "parts"]
theorem sc_Lexpected : FnScope N_Lexpected ["text"] (defScope s_Lexpected) := ⟨rfl, rfl, rfl, by decide +kernel, rfl, by decide +kernel, by decide +kernel⟩
abbrev s_Lexpected_path : Stmt := topS 33
abbrev N_Lexpected_path : List Str := ["text", "inner"]
theorem sc_Lexpected_path : FnScope N_Lexpected_path ["text"] (defScope s_Lexpected_path) := ⟨rfl, rfl, rfl, by decide +kernel, rfl, by decide +kernel, by decide +kernel⟩
abbrev s_Lword : Stmt := topS 23
abbrev N_Lword : List Str := ["state", "script", "signs", "most", "k"]
theorem sc_Lword : FnScope N_Lword ["state", "script", "signs", "most"] (defScope s_Lword) := ⟨rfl, rfl, rfl, by decide +kernel, rfl, by decide +kernel, by decide +kernel⟩
abbrev s_Llocal : Stmt := topS 24
abbrev N_Llocal : List Str := ["state", "script", "ends", "parts", "k"]
theorem sc_Llocal : FnScope N_Llocal ["state", "script"] (defScope s_Llocal) := ⟨rfl, rfl, rfl, by decide +kernel, rfl, by decide +kernel, by decide +kernel⟩
abbrev s_Llong : Stmt := topS 34
abbrev N_Llong : List Str := ["state", "script", "label", "kind"]
theorem sc_Llong : FnScope N_Llong ["state", "script"] (defScope s_Llong) := ⟨rfl, rfl, rfl, by decide +kernel, rfl, by decide +kernel, by decide +kernel⟩
abbrev s_consists_of : Stmt := topS 14
abbrev N_consists_of : List Str := ["text", "signs", "longest", "sign"]
theorem sc_consists_of : FnScope N_consists_of ["text", "signs", "longest"] (defScope s_consists_of) := ⟨rfl, rfl, rfl, by decide +kernel, rfl, by decide +kernel, by decide +kernel⟩
abbrev s_is_label : Stmt := topS 12
abbrev N_is_label : List Str := ["text"]
theorem sc_is_label : FnScope N_is_label ["text"] (defScope s_is_label) := ⟨rfl, rfl, rfl, by decide +kernel, rfl, by decide +kernel, by decide +kernel⟩
abbrev s_is_domain : Stmt := topS 11
abbrev N_is_domain : List Str := ["text", "label"]
theorem sc_is_domain : FnScope N_is_domain ["text"] (defScope s_is_domain) := ⟨rfl, rfl, rfl, by decide +kernel, rfl, by decide +kernel, by decide +kernel⟩
abbrev s_is_local_part : Stmt := topS 13
abbrev N_is_local_part : List Str := ["text"]
theorem sc_is_local_part : FnScope N_is_local_part ["text"] (defScope s_is_local_part) := ⟨rfl, rfl, rfl, by decide +kernel, rfl, by decide +kernel, by decide +kernel⟩
abbrev s_lower_letters : Stmt := topS 15
abbrev N_lower_letters : List Str := ["text"]
theorem sc_lower_letters : FnScope N_lower_letters ["text"] (defScope s_lower_letters) := ⟨rfl, rfl, rfl, by decide +kernel, rfl, by decide +kernel, by decide +kernel⟩
abbrev s_parse_address : Stmt := topS 9
abbrev N_parse_address : List Str := ["text", "local", "_", "domain"]
theorem sc_parse_address : FnScope N_parse_address ["text"] (defScope s_parse_address) := ⟨rfl, rfl, rfl, by decide +kernel, rfl, by decide +kernel, by decide +kernel⟩
abbrev s_Lparsed : Stmt := topS 31
abbrev N_Lparsed : List Str := ["text", "e"]
theorem sc_Lparsed : FnScope N_Lparsed ["text"] (defScope s_Lparsed) := ⟨rfl, rfl, rfl, by decide +kernel, rfl, by decide +kernel, by decide +kernel⟩
abbrev s_parse_path : Stmt := topS 10
abbrev N_parse_path : List Str := ["text"]
theorem sc_parse_path : FnScope N_parse_path ["text"] (defScope s_parse_path) := ⟨rfl, rfl, rfl, by decide +kernel, rfl, by decide +kernel, by decide +kernel⟩
abbrev s_Lpath : Stmt := topS 32
abbrev N_Lpath : List Str := ["text"]
theorem sc_Lpath : FnScope N_Lpath ["text"] (defScope s_Lpath) := ⟨rfl, rfl, rfl, by decide +kernel, rfl, by decide +kernel, by decide +kernel⟩
abbrev s_law : Stmt := topS 35
abbrev N_law : List Str := ["script", "state", "text", "signs", "k", "at", "sign", "cut", "expected", "one", "domain", "told"]
theorem sc_law : FnScope N_law ["script"] (defScope s_law) := ⟨rfl, rfl, rfl, by decide +kernel, rfl, by decide +kernel, by decide +kernel⟩
structure Tx (K : PySem.W.Frag) (mg : Str → Option Value) : Prop where
  d_Lrefill : Dn K mg "_law_refill" s_Lrefill ["script", "k"]
  d_Ldraw : Dn K mg "_law_draw" s_Ldraw ["state", "script", "size"]
  d_Lpick : Dn K mg "_law_pick" s_Lpick ["state", "script", "signs"]
  d_Ldomain : Dn K mg "_law_domain" s_Ldomain ["state", "script"]
  d_Lall : Dn K mg "_law_all" s_Lall ["text", "signs"]
  d_Lis_domain : Dn K mg "_law_is_domain" s_Lis_domain ["text"]
  d_Lis_local : Dn K mg "_law_is_local" s_Lis_local ["text"]
  d_Llower : Dn K mg "_law_lower" s_Llower ["text"]
  d_Lexpected : Dn K mg "_law_expected" s_Lexpected ["text"]
  d_Lexpected_path : Dn K mg "_law_expected_path" s_Lexpected_path ["text"]
  d_Lword : Dn K mg "_law_word" s_Lword ["state", "script", "signs", "most"]
  d_Llocal : Dn K mg "_law_local" s_Llocal ["state", "script"]
  d_Llong : Dn K mg "_law_long" s_Llong ["state", "script"]
  d_consists_of : Dn K mg "consists_of" s_consists_of ["text", "signs", "longest"]
  d_is_label : Dn K mg "is_label" s_is_label ["text"]
  d_is_domain : Dn K mg "is_domain" s_is_domain ["text"]
  d_is_local_part : Dn K mg "is_local_part" s_is_local_part ["text"]
  d_lower_letters : Dn K mg "lower_letters" s_lower_letters ["text"]
  d_parse_address : Dn K mg "parse_address" s_parse_address ["text"]
  d_Lparsed : Dn K mg "_law_parsed" s_Lparsed ["text"]
  d_parse_path : Dn K mg "parse_path" s_parse_path ["text"]
  d_Lpath : Dn K mg "_law_path" s_Lpath ["text"]
  d_law : Dn K mg "law" s_law ["script"]
  c_LABEL_SIGNS : ∃ t, mg "LABEL_SIGNS" = some (.str (Str.ofString "abcdefghijklmnopqrstuvwxyz0123456789-") t)
  c_LONGEST_LABEL : ∃ t, mg "LONGEST_LABEL" = some (.int 20 t)
  c_LONGEST_DOMAIN : ∃ t, mg "LONGEST_DOMAIN" = some (.int 80 t)
  c_LOCAL_SIGNS : ∃ t, mg "LOCAL_SIGNS" = some (.str (Str.ofString "abcdefghijklmnopqrstuvwxyz0123456789.-_+") t)
  c_LONGEST_LOCAL : ∃ t, mg "LONGEST_LOCAL" = some (.int 40 t)
  z_int : mg "int" = none
  z_len : mg "len" = none
  z_range : mg "range" = none
  z_all : mg "all" = none
  z_any : mg "any" = none
  z_str : mg "str" = none
  z_isinstance : mg "isinstance" = none
  z_ValueError : mg "ValueError" = none
  z_bool : mg "bool" = none

section
variable {P : Program} {w : World} {K : PySem.W.Frag} {mg : Str → Option Value} {base : Heap}
def spRefill (K : PySem.W.Frag) : Sp := fun vs H Q _ => ∃ (sc : Addr) (ns : List Int) (k : Int), vs = [.ref sc, .int k] ∧ SqL K H sc (ns.map V.int) ∧ ∀ j : Int, Q (.int j) H
theorem ok_Lrefill (T : Tx K mg) : OkD P w K mg base CX0 1 "_law_refill" ["script", "k"] (spRefill K) := by
  refine ok_mk T.d_Lrefill sc_Lrefill (fun vs H Q E h => ?_) (fun f cdv A outer s H vs Q E hr h => ?_)
  · obtain ⟨sc, ns, k, rfl, _⟩ := h
    rfl
  · obtain ⟨sc, ns, k, rfl, hS, q⟩ := h
    refine ⟨_, (pss_cons (ps_set (i := 2) sc_Lrefill.nd rfl (.inl rfl) pe_int)
      (pss_cons (ps_if (y_truth (pv 0) (by intro _; rfl)) (pss_one (ps_set (i := 2) sc_Lrefill.nd rfl (.inl rfl) (pe_ix ix_list (pv 0) (pe_op op_mod (pv 1) (pe_callB y_lenQ (by rfl) T.z_len (by decide +kernel) (pa_cons (pv 0) pa_nil))) (fun _ _ => rfl)))) pss_nil)
      (pss_cons (ps_if (pt_cmpR op_lt (pv 2) pe_int (nomark _)) (pss_one (ps_set (i := 2) sc_Lrefill.nd rfl (.inl rfl) (pe_op op_sub pe_int (pe_op op_mul pe_int (pv 2))))) pss_nil)
      (pss_cons (ps_if (PW.pt (pw_and (pt_cmpR op_ge (pv 2) (pe_op op_pow pe_int pe_int) (nomark _)) (pw_and1 (pt_cmpR op_lt (pv 1) (pe_callB y_lenQ (by rfl) T.z_len (by decide +kernel) (pa_cons (pv 0) pa_nil)) (nomark _))))) (pss_one (ps_ret (pv 2))) pss_nil)
      (pss_one (ps_ret (pe_op op_mod (pe_callTy y_int (by rfl) T.z_int (by decide +kernel) (pa_cons (pe_op op_add (pe_op op_mul (pe_callTy y_int (by rfl) T.z_int (by decide +kernel) (pa_cons (pe_op op_add (pe_op op_add (pe_op op_mul (pv 2) pe_int) (pe_op op_mul (pv 1) pe_int)) pe_int) pa_nil)) pe_int) pe_int) pa_nil)) pe_int))))))), ?_⟩
    rw [show start N_Lrefill [.ref sc, .int k] = [some (.ref sc), some (.int k), none] from rfl]
    walk_at "rs"
    refine rd_truL hS (if_b (fun e => ?_) (fun e => ?_))
    · walk_at "rs"
      have hl : 0 < ns.length := by
        cases ns with
        | nil => cases e
        | cons _ _ => exact Nat.succ_pos _
      refine rd_lenL hS ?_
      walk_at "rs"
      · obtain ⟨v, hv, ev⟩ := atI_in (xs := ns.map V.int) (i := k % ((ns.map V.int).length : Int)) (Int.emod_nonneg _ (by rw [List.length_map]; omega)) (Int.emod_lt_of_pos _ (by rw [List.length_map]; omega))
        obtain ⟨c, _, rfl⟩ := List.mem_map.mp hv
        refine rd_ixL hS ev ?_
        walk_at "rs"
        refine if_dec (fun _ => ?_) (fun _ => ?_) <;> walk_at "rs" <;> refine if_dec (fun _ => ?_) (fun _ => ?_) <;> walk_at "rs" <;> (try refine rd_lenL hS ?_) <;> walk_at "rs" <;> (try refine if_dec (fun _ => ?_) (fun _ => ?_)) <;> walk_at "rs" <;> exact q _
      · rw [List.length_map]
        omega
    · walk_at "rs"
      refine if_dec (fun _ => ?_) (fun _ => ?_) <;> walk_at "rs" <;> refine if_dec (fun _ => ?_) (fun _ => ?_) <;> walk_at "rs" <;> (try refine rd_lenL hS ?_) <;> walk_at "rs" <;> (try refine if_dec (fun _ => ?_) (fun _ => ?_)) <;> walk_at "rs" <;> exact q _
def spDraw (K : PySem.W.Frag) : Sp := fun vs H Q _ => ∃ (st sc : Addr) (ns : List Int) (z : Int), vs = [.ref st, .ref sc, .int z] ∧ Wd K st sc ns H ∧ 0 < z ∧ z < 1073741824 ∧
  ∀ d H', 0 ≤ d → d < z → Dr st H H' → Wd K st sc ns H' → Q (.int d) H'
theorem draw_i {st sc : Addr} {ns : List Int} {z : Int} {H : Hp} {Q : VK} {E : XK} (W : Wd K st sc ns H) (h0 : 0 < z) (h1 : z < 1073741824)
    (q : ∀ d H', 0 ≤ d → d < z → Dr st H H' → Wd K st sc ns H' → Q (.int d) H') : spDraw K [.ref st, .ref sc, .int z] H Q E := ⟨st, sc, ns, z, rfl, W, h0, h1, q⟩
theorem ok_Ldraw (T : Tx K mg) : OkD P w K mg base CX0 2 "_law_draw" ["state", "script", "size"] (spDraw K) := by
  refine ok_mk T.d_Ldraw sc_Ldraw (fun vs H Q E h => ?_) (fun f cdv A outer s H vs Q E hr h => ?_)
  · obtain ⟨st, sc, ns, z, rfl, _⟩ := h
    rfl
  · obtain ⟨st, sc, ns, z, rfl, W, h0, h1, q⟩ := h
    refine ⟨_, (pss_cons (ps_if (pt_cmpR op_eq (pe_ix ix_list (pv 0) pe_int (fun _ _ => rfl)) pe_int (nomark _)) (pss_cons (ps_asg (pe_callD (ok_Lrefill T) hr (by rfl) pass0 (pa_cons (pv 1) (pa_cons (pe_ix ix_list (pv 0) pe_int (fun _ _ => rfl)) pa_nil))) (pg_sub (pv 0) pe_int set_list))
      (pss_one (ps_asg (pe_op op_add (pe_ix ix_list (pv 0) pe_int (fun _ _ => rfl)) pe_int) (pg_sub (pv 0) pe_int set_list)))) pss_nil)
      (pss_cons (ps_set (i := 3) sc_Ldraw.nd rfl (.inl rfl) (pe_op op_mod (pe_callTy y_int (by rfl) T.z_int (by decide +kernel) (pa_cons (pe_ix ix_list (pv 0) pe_int (fun _ _ => rfl)) pa_nil)) (pv 2)))
      (pss_cons (ps_asg (pe_op op_fdivN (pe_ix ix_list (pv 0) pe_int (fun _ _ => rfl)) (pv 2)) (pg_sub (pv 0) pe_int set_list))
      (pss_one (ps_ret (pv 3)))))), ?_⟩
    rw [show start N_Ldraw [.ref st, .ref sc, .int z] = [some (.ref st), some (.ref sc), some (.int z), none] from rfl]
    have fin : ∀ (H1 : Hp) (k v : Int) (_ : Dr st H H1) (e : H1 st = some (.lst [.int k, .int v])), Q (.int (v % z)) (upd H1 st (.lst [.int k, .int (v.fdiv z)])) := fun H1 k v d e =>
      q _ _ (Int.emod_nonneg _ (by omega)) (Int.emod_lt_of_pos _ h0) d.upds (W.next d.upds)
    obtain ⟨k, v, e⟩ := W.1
    walk_at "rd"
    refine rd_ixL (SqL.of e) (i := 1) rfl ?_
    walk_at "rd"
    refine if_dec (fun _ => ?_) (fun _ => ?_)
    · walk_at "rd"
      refine rd_ixL (SqL.of e) (i := 0) rfl ?_
      walk_at "rd"
      refine ⟨sc, ns, k, rfl, W.list, fun j => ?_⟩
      walk_at "rd"
      refine rd_setL e (j := 1) rfl ?_
      walk_at "rd"
      refine rd_ixL (SqL.of upd_same) (i := 0) rfl ?_
      walk_at "rd"
      refine rd_setL upd_same (j := 0) rfl ?_
      walk_at "rd"
      refine rd_ixL (SqL.of upd_same) (i := 1) rfl ?_
      walk_at "rd"
      · refine rd_ixL (SqL.of upd_same) (i := 1) rfl ?_
        walk_at "rd"
        · refine rd_setL upd_same (j := 1) rfl ?_
          walk_at "rd"
          exact fin _ _ _ (Dr.upds (Dr.upds W.dr)) upd_same
        · exact ⟨by omega, by omega⟩
      · exact h0
    · walk_at "rd"
      refine rd_ixL (SqL.of e) (i := 1) rfl ?_
      walk_at "rd"
      · refine rd_ixL (SqL.of e) (i := 1) rfl ?_
        walk_at "rd"
        · refine rd_setL e (j := 1) rfl ?_
          walk_at "rd"
          exact fin _ _ _ W.dr e
        · exact ⟨by omega, by omega⟩
      · exact h0
def spPick (K : PySem.W.Frag) : Sp := fun vs H Q _ => ∃ (st sc : Addr) (ns : List Int) (z : Str), vs = [.ref st, .ref sc, .str z] ∧ Wd K st sc ns H ∧ 0 < z.length ∧ z.length < 1000 ∧
  ∀ c H', c ∈ tl z → Dr st H H' → Wd K st sc ns H' → Q (.str ⟨#[c]⟩) H'
theorem ok_Lpick (T : Tx K mg) : OkD P w K mg base CX0 3 "_law_pick" ["state", "script", "signs"] (spPick K) := by
  refine ok_mk T.d_Lpick sc_Lpick (fun vs H Q E h => ?_) (fun f cdv A outer s H vs Q E hr h => ?_)
  · obtain ⟨st, sc, ns, z, rfl, _⟩ := h
    rfl
  · obtain ⟨st, sc, ns, z, rfl, W, h0, h1, q⟩ := h
    refine ⟨_, (pss_cons (ps_set (i := 3) sc_Lpick.nd rfl (.inl rfl) (pe_callD (ok_Ldraw T) hr (by rfl) pass0 (pa_cons (pv 0) (pa_cons (pv 1) (pa_cons (pe_callB y_lenS (by rfl) T.z_len (by decide +kernel) (pa_cons (pv 2) pa_nil)) pa_nil)))))
      (pss_one (ps_ret (pe_slice sl_str (pv 2) (po_some (pv 3)) (po_some (pe_op op_add (pv 3) pe_int)))))), ?_⟩
    rw [show start N_Lpick [.ref st, .ref sc, .str z] = [some (.ref st), some (.ref sc), some (.str z), none] from rfl]
    have hz : z.length ≤ sizeLine := line_of (by omega)
    walk_at "rd"
    · refine draw_i W (by omega) (by omega) fun d H' d0 d1 D W' => ?_
      walk_at "rd"
      · obtain ⟨c, hc, ec⟩ := cut_one d0 d1
        rw [ec]
        exact q c H' hc D W'
      · exact hz
    · exact hz
def spWord (K : PySem.W.Frag) : Sp := fun vs H Q _ => ∃ (st sc : Addr) (ns : List Int) (z : Str) (m : Int), vs = [.ref st, .ref sc, .str z, .int m] ∧ Wd K st sc ns H ∧ 0 < z.length ∧ z.length < 1000 ∧ 0 < m ∧ m ≤ 100 ∧
  ∀ (x : Str) H', x.length ≤ m → 0 < x.length → (∀ c ∈ tl x, c ∈ tl z) → Dr st H H' → Wd K st sc ns H' → Q (.str x) H'
theorem ok_Lword (T : Tx K mg) : OkD P w K mg base CX0 4 "_law_word" ["state", "script", "signs", "most"] (spWord K) := by
  refine ok_mk T.d_Lword sc_Lword (fun vs H Q E h => ?_) (fun f cdv A outer s H vs Q E hr h => ?_)
  · obtain ⟨st, sc, ns, z, m, rfl, _⟩ := h
    rfl
  · obtain ⟨st, sc, ns, z, m, rfl, W, h0, h1, m0, m1, q⟩ := h
    refine ⟨_, (pss_one (ps_ret (pe_m1 PySem.F.slot_str_join PySem.F.type_str_join y_join pe_str (pe_lc (own := [("k", 4)]) (g := gName 4) rfl sc_Lword.nd (pi_range1 (by rfl) T.z_range (pa_cons (pe_op op_add pe_int (pe_callD (ok_Ldraw T) (hr.mono (by decide)) (by rfl) pass0 (pa_cons (pv 0) (pa_cons (pv 1) (pa_cons (pv 3) pa_nil))))) pa_nil)) (blkOk_by (N := N_Lword) (sc := defScope s_Lword) (by decide +kernel)) (fun _ _ _ _ _ => pg_name (i := 4) sc_Lword.nd rfl (Or.inl rfl)) (fun _ _ _ _ _ => pts_nil) (fun _ _ _ _ _ => (pe_callD (ok_Lpick T) hr (by rfl) pass0 (pa_cons (pv 0) (pa_cons (pv 1) (pa_cons (pv 2) pa_nil))))))))), ?_⟩
    rw [show start N_Lword [.ref st, .ref sc, .str z, .int m] = [some (.ref st), some (.ref sc), some (.str z), some (.int m), none] from rfl]
    walk_at "rd"
    refine draw_i W m0 (by omega) fun d H1 d0 d1 D1 W1 => ?_
    walk_at "rd"
    refine rd_wRg (by omega) (by omega) fun D nD => ?_
    refine lcR (G := fun y => ∃ c, c ∈ tl z ∧ y = .str ⟨#[c]⟩) W1 nD (by omega) (fun i H2 R hi W2 D2 r => ⟨rfl, ?_⟩) (fun H2 ys D2 W2 nS hD hl hg => ?_)
    · walk_at "wp"
      exact ⟨st, sc, ns, z, rfl, W2, h0, h1, fun c H' hc D' W' => r _ _ D' ⟨c, hc, rfl⟩⟩
    · obtain ⟨xs, rfl, hx⟩ := strs_of (G := fun x => ∃ c, c ∈ tl z ∧ x = ⟨#[c]⟩) (ys := ys) fun y hy => by
        obtain ⟨c, hc, e⟩ := hg y hy
        exact ⟨_, e, c, hc, rfl⟩
      have h1 : ∀ x ∈ xs, x.length ≤ 1 := fun x hx' => by
        obtain ⟨c, _, rfl⟩ := hx x hx'
        exact Nat.le_refl _
      have hs := lens_le h1
      rw [List.length_map] at hl
      refine rd_joinL (SqL.of hD) (by rw [len_lit0]; omega) ?_
      have e : (Txt.join (Str.ofString "") xs).length = xs.length := by
        rw [len_tl, tl_joined, tl_lit0, joinL_nil, len_ones fun x hx' => by
          obtain ⟨c, _, e⟩ := hx x hx'
          exact ⟨c, e⟩]
      refine q _ H2 (by rw [e]; omega) (by rw [e]; omega) (fun c hc => ?_) (D1.trans D2) W2
      rcases mem_joined hc with h | ⟨x, hx', h⟩
      · rw [tl_lit0] at h
        cases h
      · obtain ⟨c', hc', rfl⟩ := hx x hx'
        rw [List.mem_singleton.mp h]
        exact hc'
def spLocal (K : PySem.W.Frag) : Sp := fun vs H Q _ => ∃ (st sc : Addr) (ns : List Int), vs = [.ref st, .ref sc] ∧ Wd K st sc ns H ∧
  ∀ (x : Str) H', LocP x → Dr st H H' → Wd K st sc ns H' → Q (.str x) H'
theorem ok_Llocal (T : Tx K mg) : OkD P w K mg base CX0 5 "_law_local" ["state", "script"] (spLocal K) := by
  refine ok_mk T.d_Llocal sc_Llocal (fun vs H Q E h => ?_) (fun f cdv A outer s H vs Q E hr h => ?_)
  · obtain ⟨st, sc, ns, rfl, _⟩ := h
    rfl
  · obtain ⟨st, sc, ns, rfl, W, q⟩ := h
    refine ⟨_, (pss_cons (ps_set (i := 2) sc_Llocal.nd rfl (.inr rfl) pe_str)
      (pss_cons (ps_setLc (i := 3) (own := [("k", 4)]) (g := gName 4) rfl sc_Llocal.nd rfl rfl (sw_true rfl rfl rfl (by decide +kernel)) (pi_range1 (by rfl) T.z_range (pa_cons (pe_op op_add pe_int (pe_callD (ok_Ldraw T) (hr.mono (by decide)) (by rfl) pass0 (pa_cons (pv 0) (pa_cons (pv 1) (pa_cons pe_int pa_nil))))) pa_nil)) (blkOk_by (N := N_Llocal) (sc := defScope s_Llocal) (by decide +kernel)) (fun _ _ _ _ _ => pg_name (i := 4) sc_Llocal.nd rfl (Or.inl rfl)) (fun _ _ _ _ _ => pts_nil) (fun _ _ _ _ _ => (pe_callD (ok_Lword T) hr (by rfl) pass0 (pa_cons (pv 0) (pa_cons (pv 1) (pa_cons (pv 2) (pa_cons pe_int pa_nil)))))))
      (pss_cons (ps_if (pt_cmpR op_eq (pe_callD (ok_Ldraw T) (hr.mono (by decide)) (by rfl) pass0 (pa_cons (pv 0) (pa_cons (pv 1) (pa_cons pe_int pa_nil)))) pe_int (nomark _)) (pss_one (ps_set (i := 3) sc_Llocal.nd rfl (.inl rfl) (pe_lst (pa_cons (pe_m1 PySem.F.slot_str_join PySem.F.type_str_join y_join pe_str (pe_op op_rep (pe_lst (pa_cons (pe_callD (ok_Lpick T) (hr.mono (by decide)) (by rfl) pass0 (pa_cons (pv 0) (pa_cons (pv 1) (pa_cons (pv 2) pa_nil)))) pa_nil)) (pe_op op_add pe_int (pe_callD (ok_Ldraw T) (hr.mono (by decide)) (by rfl) pass0 (pa_cons (pv 0) (pa_cons (pv 1) (pa_cons pe_int pa_nil))))))) (pa_cons (pe_ix ix_list (pv 3) pe_int (fun _ _ => rfl)) pa_nil))))) pss_nil)
      (pss_one (ps_ret (pe_m1 PySem.F.slot_str_rstrip PySem.F.type_str_rstrip y_rstrip (pe_slice sl_str (pe_m1 PySem.F.slot_str_join PySem.F.type_str_join y_join pe_str (pv 3)) po_none (po_some pe_int)) pe_str)))))), ?_⟩
    rw [show start N_Llocal [.ref st, .ref sc] = [some (.ref st), some (.ref sc), none, none, none] from rfl]
    walk_at "rs"
    refine draw_i W (by decide) (by decide) fun d1 H1 a0 a1 D1 W1 => ?_
    walk_at "rs"
    refine rd_wRg (by omega) (by omega) fun D nD => ?_
    refine lcR (G := fun y => ∃ x : Str, y = .str x ∧ (x.length ≤ 5 ∧ Wd1 (tl x))) W1 nD (by omega) (fun i H2 R hi W2 D2 r => ⟨rfl, ?_⟩) (fun H2 ys D2 W2 nS hD hl hg => ?_)
    · walk_at "wp"
      exact ⟨st, sc, ns, _, 5, rfl, W2, by rw [len_ends]; decide, by rw [len_ends]; decide, by decide, by decide, fun x H' h1 h2 h3 D' W' => r _ _ D' ⟨x, rfl, by omega, fun e => by
        rw [len_tl, e] at h2
        exact absurd h2 (by decide), h3⟩⟩
    · obtain ⟨xs, rfl, hx⟩ := strs_of hg
      have hs := lens_le fun x h => (hx x h).1
      rw [List.length_map] at hl
      walk_at "rs"
      refine draw_i W2 (by decide) (by decide) fun d3 H3 b0 b1 D3 W3 => ?_
      walk_at "rs"
      have hD3 : H3 D = some _ := D3.at nS hD
      refine if_dec (fun _ => ?_) (fun _ => ?_)
      · walk_at "rs"
        refine ⟨st, sc, ns, _, rfl, W3, by rw [len_ends]; decide, by rw [len_ends]; decide, fun c H4 hc D4 W4 => ?_⟩
        walk_at "rs"
        refine rd_wLs (Nat.le_of_ble_eq_true rfl) fun p np => ?_
        walk_at "rs"
        refine draw_i (W4.new np) (by decide) (by decide) fun d5 H5 c0 c1 D5 W5 => ?_
        walk_at "rs"
        have hp : H5 p = some _ := D5.at (W4.1.ne np) upd_same
        refine rd_rep hp (by omega) (by omega) (Nat.le_of_ble_eq_true rfl) fun p2 np2 => ?_
        walk_at "rs"
        have er : (List.replicate (18 + d5).toNat [V.str ⟨#[c]⟩]).flatten = (List.replicate (18 + d5).toNat (⟨#[c]⟩ : Str)).map V.str := by rw [rep_one, List.map_replicate]
        have e1 : ∀ x ∈ List.replicate (18 + d5).toNat (⟨#[c]⟩ : Str), x.length ≤ 1 := fun x hx' => by
          rw [(List.mem_replicate.mp hx').2]
          exact Nat.le_refl _
        have es := lens_le e1
        rw [List.length_replicate] at es
        have W6 := W5.new (o := .lst (List.replicate (18 + d5).toNat [V.str ⟨#[c]⟩]).flatten) np2
        refine rd_joinL (xs := List.replicate (18 + d5).toNat (⟨#[c]⟩ : Str)) (by rw [er]; exact SqL.of upd_same) (by rw [len_lit0, List.length_replicate]; omega) ?_
        have ej := len_joined (Str.ofString "") (List.replicate (18 + d5).toNat (⟨#[c]⟩ : Str))
        rw [len_lit0, List.length_replicate] at ej
        walk_at "rs"
        have kD : upd H5 p2 (.lst (List.replicate (18 + d5).toNat [V.str ⟨#[c]⟩]).flatten) D = some (.lst (xs.map V.str)) := by
          rw [upd_ne (ne_of_none (D5.at nS ((Dr.new W4.dr np).at nS (D4.at nS hD3))) np2)]
          exact D5.at nS ((Dr.new W4.dr np).at nS (D4.at nS hD3))
        obtain ⟨y, hy, ey⟩ := atI_in (xs := xs.map V.str) (i := 0) (by decide) (by rw [List.length_map]; omega)
        obtain ⟨y, hy', rfl⟩ := List.mem_map.mp hy
        obtain ⟨y5, ya⟩ := hx y hy'
        refine rd_ixL (SqL.of kD) ey ?_
        walk_at "rs"
        refine rd_wLs (Nat.le_of_ble_eq_true rfl) fun p3 np3 => ?_
        walk_at "rs"
        refine rd_joinL (xs := [Txt.join (Str.ofString "") (List.replicate (18 + d5).toNat (⟨#[c]⟩ : Str)), y]) (SqL.of upd_same) (by rw [len_dot]; simp only [List.map_cons, List.map_nil, List.sum_cons, List.sum_nil, List.length_cons, List.length_nil]; omega) ?_
        have ek := len_joined (Str.ofString ".") [Txt.join (Str.ofString "") (List.replicate (18 + d5).toNat (⟨#[c]⟩ : Str)), y]
        rw [len_dot] at ek
        simp only [List.map_cons, List.map_nil, List.sum_cons, List.sum_nil, List.length_cons, List.length_nil] at ek
        have LP : LocP (Txt.join (Str.ofString ".") [Txt.join (Str.ofString "") (List.replicate (18 + d5).toNat (⟨#[c]⟩ : Str)), y]) := by
          refine LocP.mk (List.cons_ne_nil _ _) (fun x hx' => ?_) (by omega)
          simp only [List.mem_cons, List.not_mem_nil, or_false] at hx'
          rcases hx' with rfl | rfl
          · rw [tl_joined, tl_lit0, joinL_nil, List.map_replicate, show tl (⟨#[c]⟩ : Str) = [c] from rfl, rep_one]
            refine ⟨fun e => ?_, fun z hz => ?_⟩
            · have e2 := congrArg List.length e
              rw [List.length_replicate] at e2
              have e3 : (18 + d5).toNat = 0 := e2
              omega
            · rw [(List.mem_replicate.mp hz).2]
              exact hc
          · exact ya
        walk_at "rs"
        · rw [LP.fix]
          exact q _ _ LP (Dr.new (Dr.new (((((D1.trans D2).trans D3).trans D4).trans (Dr.new W4.dr np)).trans D5) np2) np3) (W6.new np3)
        · exact line_of (Nat.le_trans (len_cut _ _ _) (by omega))
      · walk_at "rs"
        refine rd_joinL (xs := xs) (SqL.of hD3) (by rw [len_dot]; omega) ?_
        have ek := len_joined (Str.ofString ".") xs
        rw [len_dot] at ek
        have LP : LocP (Txt.join (Str.ofString ".") xs) := LocP.mk (fun e => by
          rw [e] at hl
          have e3 : 0 = (1 + d1).toNat := hl
          omega) (fun x h => (hx x h).2) (by omega)
        walk_at "rs"
        · rw [LP.fix]
          exact q _ _ LP ((D1.trans D2).trans D3) W3
        · exact line_of (Nat.le_trans (len_cut _ _ _) (by omega))
def spDomain (K : PySem.W.Frag) : Sp := fun vs H Q _ => ∃ (st sc : Addr) (ns : List Int), vs = [.ref st, .ref sc] ∧ Wd K st sc ns H ∧
  ∀ (x : Str) H', DomP x → Dr st H H' → Wd K st sc ns H' → Q (.str x) H'
theorem ok_Ldomain (T : Tx K mg) : OkD P w K mg base CX0 4 "_law_domain" ["state", "script"] (spDomain K) := by
  refine ok_mk T.d_Ldomain sc_Ldomain (fun vs H Q E h => ?_) (fun f cdv A outer s H vs Q E hr h => ?_)
  · obtain ⟨st, sc, ns, rfl, _⟩ := h
    rfl
  · obtain ⟨st, sc, ns, rfl, W, q⟩ := h
    refine ⟨_, (pss_cons (ps_set (i := 2) sc_Ldomain.nd rfl (.inl rfl) pe_str)
      (pss_cons (ps_set (i := 3) sc_Ldomain.nd rfl (.inl rfl) (pe_lst pa_nil))
      (pss_cons (ps_for PassesOwn.never rfl (pi_range1 (by rfl) T.z_range (pa_cons (pe_op op_add pe_int (pe_callD (ok_Ldraw T) (hr.mono (by decide)) (by rfl) pass0 (pa_cons (pv 0) (pa_cons (pv 1) (pa_cons pe_int pa_nil))))) pa_nil)) (pg_name (i := 4) sc_Ldomain.nd rfl (Or.inl rfl)) (pss_cons (ps_set (i := 5) sc_Ldomain.nd rfl (.inl rfl) (pe_ix ix_list (pe_lst (pa_cons pe_str (pa_cons pe_str (pa_cons pe_str (pa_cons pe_str (pa_cons pe_str pa_nil)))))) (pe_callD (ok_Ldraw T) (hr.mono (by decide)) (by rfl) pass0 (pa_cons (pv 0) (pa_cons (pv 1) (pa_cons pe_int pa_nil)))) (fun _ _ => rfl)))
      (pss_one (ps_expr (pe_bm PySem.F.plainAttrs_list PySem.F.slot_list_append PySem.F.type_list_append mt_append (pv 3) (pa_cons (pe_op y_adS (pe_op y_adS (pe_callD (ok_Lpick T) hr (by rfl) pass0 (pa_cons (pv 0) (pa_cons (pv 1) (pa_cons (pv 2) pa_nil)))) (pv 5)) (pe_callD (ok_Lpick T) hr (by rfl) pass0 (pa_cons (pv 0) (pa_cons (pv 1) (pa_cons (pv 2) pa_nil))))) pa_nil))))))
      (pss_one (ps_ret (pe_m1 PySem.F.slot_str_join PySem.F.type_str_join y_join pe_str (pv 3))))))), ?_⟩
    rw [show start N_Ldomain [.ref st, .ref sc] = [some (.ref st), some (.ref sc), none, none, none, none] from rfl]
    walk_at "rs"
    refine rd_wLs (Nat.le_of_ble_eq_true rfl) fun L nL => ?_
    walk_at "rs"
    have WL := W.new (o := .lst []) nL
    have nLs : L ≠ st := W.1.ne nL
    refine draw_i WL (by decide) (by decide) fun d1 H1 a0 a1 D1 W1 => ?_
    walk_at "rs"
    have eL1 : H1 L = some _ := D1.at nLs upd_same
    refine rd_wRg (by omega) (by omega) ?_
    refine forR (fun i σ H' => Dr st H H' ∧ Wd K st sc ns H' ∧ ∃ k m, σ = [some (.ref st), some (.ref sc), some (.str (Str.ofString "abcdefghijklmnopqrstuvwxyz0123456789")), some (.ref L), k, m] ∧
      ∃ xs : List Str, H' L = some (.lst (xs.map V.str)) ∧ xs.length = i ∧ ∀ x ∈ xs, x.length ≤ 5 ∧ LabP (tl x)) ?_ (fun i σ H2 hi hP => ?_) (fun σ H2 hP => ?_)
    · exact ⟨(W.dr.new nL).trans D1, W1, none, none, rfl, [], eL1, rfl, fun _ h => nomatch h⟩
    · obtain ⟨D2, W2, k, m, rfl, xs, eL, el, ex⟩ := hP
      walk_at "rs"
      refine rd_wLs (Nat.le_of_ble_eq_true rfl) fun p np => ?_
      walk_at "rs"
      refine draw_i (W2.new np) (by decide) (by decide) fun d3 H3 b0 b1 D3 W3 => ?_
      have D3' := (Dr.same W2.1 (same_new np)).trans D3
      have eL3 : H3 L = some _ := D3'.at nLs eL
      have ep := D3.at (W2.1.ne np) upd_same
      obtain ⟨y, hy, ey⟩ := atI_in (xs := [V.str (Str.ofString ""), V.str (Str.ofString "-"), V.str (Str.ofString "--"), V.str (Str.ofString "x-y"), V.str (Str.ofString "z9")]) (i := d3) b0 b1
      have hy' : ∃ z : Str, y = .str z ∧ z.length ≤ 3 ∧ ∀ d ∈ tl z, d ∈ tl labS := by
        simp only [List.mem_cons, List.not_mem_nil, or_false] at hy
        rcases hy with rfl | rfl | rfl | rfl | rfl <;> exact ⟨_, rfl, by rw [len_of]; decide, sub_k (by decide +kernel)⟩
      obtain ⟨z, rfl, hz, za⟩ := hy'
      refine rd_ixL (SqL.of ep) ey ?_
      walk_at "rs"
      refine rd_wTyL (SqL.of eL3) ?_
      walk_at "rs"
      refine ⟨st, sc, ns, _, rfl, W3, by rw [len_ends2]; decide, by rw [len_ends2]; decide, fun c H4 hc D4 W4 => ?_⟩
      walk_at "rs"
      · refine ⟨st, sc, ns, _, rfl, W4, by rw [len_ends2]; decide, by rw [len_ends2]; decide, fun c' H5 hc' D5 W5 => ?_⟩
        walk_at "rs"
        · have eL5 : H5 L = some _ := D5.at nLs (D4.at nLs eL3)
          refine rd_append eL5 (by rw [List.length_map]; omega) ?_
          walk_at "rs"
          have D6 := Dr.put W.1 (((D2.trans D3').trans D4).trans D5) nL (o := .lst (xs.map V.str ++ [.str ((⟨#[c]⟩ : Str) ++ z ++ ⟨#[c']⟩)]))
          refine ⟨D6, W.next D6, some (.int (0 + (i : Nat))), some (.str z), rfl, xs ++ [(⟨#[c]⟩ : Str) ++ z ++ ⟨#[c']⟩], by rw [upd_same, List.map_append]; rfl, by rw [List.length_append, el]; rfl, fun x hx => ?_⟩
          rcases List.mem_append.mp hx with hx | hx
          · exact ex x hx
          · rw [List.mem_singleton.mp hx]
            refine ⟨?_, c, tl z, c', by rw [tl_append, tl_append]; rfl, hc, hc', by rw [← len_tl]; exact hz, za⟩
            rw [len_app, len_app]
            show 1 + z.length + 1 ≤ 5
            omega
        · rw [len_app]
          show (1 + z.length) + 1 ≤ _
          exact line_of (by omega)
      · show 1 + z.length ≤ _
        exact line_of (by omega)
    · obtain ⟨D2, W2, k, m, rfl, xs, eL, el, ex⟩ := hP
      walk_at "rs"
      have es := lens_le fun x h => (ex x h).1
      refine rd_joinL (SqL.of eL) (by rw [len_dot]; omega) ?_
      have ek := len_joined (Str.ofString ".") xs
      rw [len_dot] at ek
      walk_at "rs"
      exact q _ _ (DomP.mk (fun e => by
        rw [e] at el
        have e3 : 0 = (1 + d1).toNat := el
        omega) (fun x h => (ex x h).2) (by omega)) D2 W2
end

section
variable {P : Program} {w : World} {K : PySem.W.Frag} {mg : Str → Option Value} {base : Heap}
def spCons (K : PySem.W.Frag) : Sp := fun vs H Q _ => ∃ (z S : Str) (n : Nat), vs = [.str z, .str S, .int (n : Int)] ∧ z.length ≤ 2000 ∧ ∀ H', Same H H' → Q (.bl (dc (ConsOk (tl S) n (tl z)))) H'
theorem ok_consists_of (T : Tx K mg) : OkD P w K mg base CX0 1 "consists_of" ["text", "signs", "longest"] (spCons K) := by
  refine ok_mk T.d_consists_of sc_consists_of (fun vs H Q E h => ?_) (fun f cdv A outer s H vs Q E hr h => ?_)
  · obtain ⟨z, S, n, rfl, _⟩ := h
    rfl
  · obtain ⟨z, S, n, rfl, hz, q⟩ := h
    refine ⟨_, (pss_one (ps_ret (pe_and (pe_chain op_le op_le pe_int (pe_callB y_lenS (by rfl) T.z_len (by decide +kernel) (pa_cons (pv 0) pa_nil)) (pv 2)) (pe_one (pe_callB (cr_all rfl) (by rfl) T.z_all (by decide +kernel) (pa_cons (pe_lc (own := [("sign", 3)]) (g := gName 3) rfl sc_consists_of.nd (pi_str (pv 0)) (blkOk_by (N := N_consists_of) (sc := defScope s_consists_of) (by decide +kernel)) (fun _ _ _ _ _ => pg_name (i := 3) sc_consists_of.nd rfl (Or.inl rfl)) (fun _ _ _ _ _ => pts_nil) (fun _ _ _ _ _ => (pe_cmpR y_in1 (pv 3) (pv 1) (by rfl)))) pa_nil)))))), ?_⟩
    rw [show start N_consists_of [.str z, .str S, .int (n : Int)] = [some (.str z), some (.str S), some (.int (n : Int)), none] from rfl]
    have hl : z.length = (tl z).length := len_tl z
    walk_at "rs"
    refine if_dec (fun e1 => ?_) (fun e1 => ?_)
    · walk_at "rs"
      refine if_dec (fun e2 => ?_) (fun e2 => ?_)
      · walk_at "rs"
        intro D nD
        refine lcM1 walk_s (fun _ _ => trivial) nD (by rw [List.length_map, ← len_tl]; omega) (fun v => match v with | .str y => .bl (decide ((tl y).headD 0 ∈ tl S)) | v => v) (fun v hv H2 R sm r => ?_) (fun H2 sm e => ?_)
        · obtain ⟨c, hc, rfl⟩ := List.mem_map.mp hv
          refine ⟨rfl, ?_⟩
          unfold oneS
          walk_at "wp"
          exact r _ (Same.refl _)
        · walk_at "rs"
          refine rd_all (bs := (tl z).map fun c => decide (c ∈ tl S)) (by
            rw [List.map_map] at e
            rw [List.map_map]
            exact SqL.of e) ?_
          have ee : ((tl z).map fun c => decide (c ∈ tl S)).all id = dc (ConsOk (tl S) n (tl z)) := dc_of (by
            rw [all_id, List.all_eq_true]
            constructor
            · intro h
              exact ⟨by omega, by omega, fun c hc => of_decide_eq_true (h c hc)⟩
            · intro h c hc
              exact decide_eq_true (h.2.2 c hc))
          rw [ee]
          exact q _ sm
      · walk_at "rs"
        have q' := q H (Same.refl H)
        rw [dc_f (fun h => e2 (by have := h.2.1; omega))] at q'
        exact q'
    · walk_at "rs"
      have q' := q H (Same.refl H)
      rw [dc_f (fun h => e1 (by have := h.1; omega))] at q'
      exact q'
def spLabel (K : PySem.W.Frag) : Sp := fun vs H Q _ => ∃ z : Str, vs = [.str z] ∧ z.length ≤ 2000 ∧ ∀ H', Same H H' → Q (.bl (dc (LabelOk (tl z)))) H'
theorem ok_is_label (T : Tx K mg) : OkD P w K mg base CX0 2 "is_label" ["text"] (spLabel K) := by
  refine ok_mk T.d_is_label sc_is_label (fun vs H Q E h => ?_) (fun f cdv A outer s H vs Q E hr h => ?_)
  · obtain ⟨z, rfl, _⟩ := h
    rfl
  · obtain ⟨z, rfl, hz, q⟩ := h
    refine ⟨_, (pss_cons (ps_if (pt_not (pt_val (pe_callD (ok_consists_of T) hr (by rfl) pass0 (pa_cons (pv 0) (pa_cons (pe_kS (by rfl) T.c_LABEL_SIGNS) (pa_cons (pe_kI (by rfl) T.c_LONGEST_LABEL) pa_nil)))))) (pss_one (ps_ret pe_bl)) pss_nil)
      (pss_one (ps_ret (pe_and (pe_not (pe_m1 PySem.F.slot_str_startswith PySem.F.type_str_startswith y_starts (pv 0) pe_str)) (pe_one (pe_not (pe_m1 PySem.F.slot_str_endswith PySem.F.type_str_endswith y_ends (pv 0) pe_str))))))), ?_⟩
    rw [show start N_is_label [.str z] = [some (.str z)] from rfl]
    walk_at "rs"
    refine ⟨z, _, 20, rfl, hz, fun H' sm => ?_⟩
    have q' := q H' sm
    walk_at "rs"
    refine if_b (fun e => ?_) (fun e => ?_)
    · walk_at "rs"
      have e' : dc (ConsOk (tl labS) 20 (tl z)) = false := by
        cases h : dc (ConsOk (tl labS) 20 (tl z)) with
        | false => rfl
        | true => rw [show dc (ConsOk (tl (Str.ofString "abcdefghijklmnopqrstuvwxyz0123456789-")) 20 (tl z)) = true from h] at e; cases e
      rw [dc_f (fun h => by
        rw [dc_t h.1] at e'
        cases e')] at q'
      exact q'
    · walk_at "rs"
      have e' : ConsOk (tl labS) 20 (tl z) := by
        refine dc_iff.mp ?_
        cases h : dc (ConsOk (tl labS) 20 (tl z)) with
        | true => rfl
        | false => rw [show dc (ConsOk (tl (Str.ofString "abcdefghijklmnopqrstuvwxyz0123456789-")) 20 (tl z)) = false from h] at e; cases e
      rw [starts_one tl_hy]
      refine if_ndec (fun e1 => ?_) (fun e1 => ?_)
      · walk_at "rs"
        rw [ends_one tl_hy]
        rw [show (!decide ((tl z).getLast? = some 45)) = dc (LabelOk (tl z)) from dc_of (by
          rw [Bool.not_eq_true', decide_eq_false_iff_not]
          exact ⟨fun h => ⟨e', e1, h⟩, fun h => h.2.2⟩)]
        exact q'
      · walk_at "rs"
        rw [dc_f (fun h => h.2.1 e1)] at q'
        exact q'
def spLocalP (K : PySem.W.Frag) : Sp := fun vs H Q _ => ∃ z : Str, vs = [.str z] ∧ z.length ≤ 2000 ∧ ∀ H', Same H H' → Q (.bl (dc (LocalOk (tl z)))) H'
theorem ok_is_local_part (T : Tx K mg) : OkD P w K mg base CX0 2 "is_local_part" ["text"] (spLocalP K) := by
  refine ok_mk T.d_is_local_part sc_is_local_part (fun vs H Q E h => ?_) (fun f cdv A outer s H vs Q E hr h => ?_)
  · obtain ⟨z, rfl, _⟩ := h
    rfl
  · obtain ⟨z, rfl, hz, q⟩ := h
    refine ⟨_, (pss_cons (ps_if (pt_not (pt_val (pe_callD (ok_consists_of T) hr (by rfl) pass0 (pa_cons (pv 0) (pa_cons (pe_kS (by rfl) T.c_LOCAL_SIGNS) (pa_cons (pe_kI (by rfl) T.c_LONGEST_LOCAL) pa_nil)))))) (pss_one (ps_ret pe_bl)) pss_nil)
      (pss_one (ps_ret (pe_and (pe_not (pe_m1 PySem.F.slot_str_startswith PySem.F.type_str_startswith y_starts (pv 0) pe_str)) (pe_and (pe_not (pe_m1 PySem.F.slot_str_endswith PySem.F.type_str_endswith y_ends (pv 0) pe_str)) (pe_one (pe_cmpR y_ninS pe_str (pv 0) (by rfl)))))))), ?_⟩
    rw [show start N_is_local_part [.str z] = [some (.str z)] from rfl]
    walk_at "rs"
    refine ⟨z, _, 40, rfl, hz, fun H' sm => ?_⟩
    have q' := q H' sm
    walk_at "rs"
    refine if_b (fun e => ?_) (fun e => ?_)
    · walk_at "rs"
      have e' : dc (ConsOk (tl locS) 40 (tl z)) = false := by
        cases h : dc (ConsOk (tl locS) 40 (tl z)) with
        | false => rfl
        | true => rw [show dc (ConsOk (tl (Str.ofString "abcdefghijklmnopqrstuvwxyz0123456789.-_+")) 40 (tl z)) = true from h] at e; cases e
      rw [dc_f (fun h => by
        rw [dc_t h.1] at e'
        cases e')] at q'
      exact q'
    · walk_at "rs"
      have e' : ConsOk (tl locS) 40 (tl z) := by
        refine dc_iff.mp ?_
        cases h : dc (ConsOk (tl locS) 40 (tl z)) with
        | true => rfl
        | false => rw [show dc (ConsOk (tl (Str.ofString "abcdefghijklmnopqrstuvwxyz0123456789.-_+")) 40 (tl z)) = false from h] at e; cases e
      rw [starts_one tl_dot]
      refine if_ndec (fun e1 => ?_) (fun e1 => ?_)
      · walk_at "rs"
        rw [ends_one tl_dot]
        refine if_ndec (fun e2 => ?_) (fun e2 => ?_)
        · walk_at "rs"
          have ed := dd_in (z := z) tl_dd
          rw [show (!(!(Builtin.Str.occurrences z (Str.ofString "..") 0 z.length 1).isEmpty)) = dc (LocalOk (tl z)) from dc_of (by
            rw [Bool.not_eq_true', ← Bool.not_eq_true, ed]
            exact ⟨fun h => ⟨e', e1, e2, h⟩, fun h => h.2.2.2⟩)]
          exact q'
        · walk_at "rs"
          rw [dc_f (fun h => h.2.2.1 e2)] at q'
          exact q'
      · walk_at "rs"
        rw [dc_f (fun h => h.2.1 e1)] at q'
        exact q'
def spDomainP (K : PySem.W.Frag) : Sp := fun vs H Q _ => ∃ z : Str, vs = [.str z] ∧ z.length ≤ 2000 ∧ ∀ H', Same H H' → Q (.bl (dc (DomOk (tl z)))) H'
theorem ok_is_domain (T : Tx K mg) : OkD P w K mg base CX0 3 "is_domain" ["text"] (spDomainP K) := by
  refine ok_mk T.d_is_domain sc_is_domain (fun vs H Q E h => ?_) (fun f cdv A outer s H vs Q E hr h => ?_)
  · obtain ⟨z, rfl, _⟩ := h
    rfl
  · obtain ⟨z, rfl, hz, q⟩ := h
    refine ⟨_, (pss_cons (ps_if (pt_cmpR op_gt (pe_callB y_lenS (by rfl) T.z_len (by decide +kernel) (pa_cons (pv 0) pa_nil)) (pe_kI (by rfl) T.c_LONGEST_DOMAIN) (nomark _)) (pss_one (ps_ret pe_bl)) pss_nil)
      (pss_one (ps_ret (pe_callB (cr_all rfl) (by rfl) T.z_all (by decide +kernel) (pa_cons (pe_lc (own := [("label", 1)]) (g := gName 1) rfl sc_is_domain.nd (pi_list (pe_m1 PySem.F.slot_str_split PySem.F.type_str_split y_split (pv 0) pe_str)) (blkOk_by (N := N_is_domain) (sc := defScope s_is_domain) (by decide +kernel)) (fun _ _ _ _ _ => pg_name (i := 1) sc_is_domain.nd rfl (Or.inl rfl)) (fun _ _ _ _ _ => pts_nil) (fun _ _ _ _ _ => (pe_callD (ok_is_label T) hr (by rfl) pass0 (pa_cons (pv 1) pa_nil)))) pa_nil))))), ?_⟩
    rw [show start N_is_domain [.str z] = [some (.str z), none] from rfl]
    have hl : z.length = (tl z).length := len_tl z
    walk_at "rs"
    refine if_dec (fun e => ?_) (fun e => ?_)
    · walk_at "rs"
      have q' := q H (Same.refl H)
      rw [dc_f (fun h => by
        have := h.1
        omega)] at q'
      exact q'
    · walk_at "rs"
      refine rd_split (fun p np => ?_) (by rw [len_dot]; rfl) (by omega)
      walk_at "rs"
      refine rd_wSq (SqL.of upd_same) fun D nD => ?_
      have hs := split_dot z
      have hn : (Txt.split z (Str.ofString ".")).length ≤ 2001 := by
        have h1 := spl_len 46 (tl z) []
        rw [← hs, List.length_map] at h1
        omega
      refine lcM1 walk_l (fun H' sm => Same.seq sm (SqL.of upd_same)) nD (by rw [List.length_map]; omega) (fun v => match v with | .str y => .bl (dc (LabelOk (tl y))) | v => v) (fun v hv H2 R sm r => ?_) (fun H2 sm e => ?_)
      · obtain ⟨x, hx, rfl⟩ := List.mem_map.mp hv
        have hxl : x.length ≤ 2000 := by
          have h1 := spl_mem 46 (tl z) [] (tl x) (by rw [← hs]; exact List.mem_map.mpr ⟨x, hx, rfl⟩)
          rw [List.length_nil, Nat.zero_add, ← len_tl, ← len_tl] at h1
          omega
        refine ⟨rfl, ?_⟩
        walk_at "wp"
        exact ⟨x, rfl, hxl, fun H' sm' => r H' sm'⟩
      · walk_at "rs"
        refine rd_all (bs := (Txt.split z (Str.ofString ".")).map fun x => dc (LabelOk (tl x))) (by
          rw [List.map_map] at e
          rw [List.map_map]
          exact SqL.of e) ?_
        rw [show ((Txt.split z (Str.ofString ".")).map fun x => dc (LabelOk (tl x))).all id = dc (DomOk (tl z)) from dc_of (by
          rw [all_id, List.all_eq_true]
          constructor
          · intro h
            refine ⟨by omega, fun p hp => ?_⟩
            rw [← hs] at hp
            obtain ⟨x, hx, rfl⟩ := List.mem_map.mp hp
            exact dc_iff.mp (h x hx)
          · intro h x hx
            exact dc_t (h.2 (tl x) (by rw [← hs]; exact List.mem_map.mpr ⟨x, hx, rfl⟩)))]
        exact q _ ((same_new np).trans sm)
def spLower (K : PySem.W.Frag) : Sp := fun vs H Q _ => ∃ z : Str, vs = [.str z] ∧ z.length ≤ 2000 ∧ ∀ H', Same H H' → Q (.str ⟨((tl z).map (tr1 upL)).toArray⟩) H'
theorem ok_lower_letters (T : Tx K mg) : OkD P w K mg base CX0 1 "lower_letters" ["text"] (spLower K) := by
  refine ok_mk T.d_lower_letters sc_lower_letters (fun vs H Q E h => ?_) (fun f cdv A outer s H vs Q E hr h => ?_)
  · obtain ⟨z, rfl, _⟩ := h
    rfl
  · obtain ⟨z, rfl, hz, q⟩ := h
    refine ⟨_, (pss_one (ps_ret (pe_m1 PySem.F.slot_str_translate PySem.F.type_str_translate (y_trans rfl) (pv 0) (y_mk (by rfl) T.z_str up_len up_le up_nd)))), ?_⟩
    rw [show start N_lower_letters [.str z] = [some (.str z)] from rfl]
    walk_at "rs"
    refine rd_mk fun p np => ?_
    exact rd_tr upd_same (by omega) up_b (q _ (same_new np))
end


section
variable {P : Program} {w : World} {K : PySem.W.Frag} {mg : Str → Option Value} {base : Heap} {C M : Addr}
theorem repr_le {z : Str} (h : z.length ≤ 2000) (a : Asc z) : (reprText z).length ≤ 20002 := by
  have q := PySem.StrLaws.reprText_len z fun c hc => Nat.lt_trans (a c hc) (by decide)
  omega
theorem len_na : (Str.ofString "not an address: ").length = 16 := by rw [len_of]; rfl
theorem len_np : (Str.ofString "not a path: ").length = 12 := by rw [len_of]; rfl
/-- what a parse of z gives: the pair, or the error -/
def spParse (C : Addr) : Sp := fun vs H Q E => ∃ z : Str, vs = [.str z] ∧ z.length ≤ 2000 ∧ Asc z ∧ (∀ l d, Parsed (tl z) l d → ∀ p H', Same H H' → Tk H' p [.str l, .str d] → Q (.ref p) H') ∧
  ((∀ l d, ¬ Parsed (tl z) l d) → ∀ H', Same H H' → E (.ref C) none H')
theorem ok_parse_address (T : Tx K mg) (X9 : ExT K mg C M) : OkD P w K mg base (L2.CX P w) 4 "parse_address" ["text"] (spParse C) := by
  refine ok_mkX T.d_parse_address sc_parse_address (fun vs H Q E h => ?_) (fun f cdv A outer s H vs Q E hr h => ?_)
  · obtain ⟨z, rfl, _⟩ := h
    rfl
  · obtain ⟨z, rfl, hz, az, qy, qn⟩ := h
    refine ⟨_, (pss_cons (ps_asg (pe_m1 PySem.F.slot_str_partition PySem.F.type_str_partition y_partition (pe_callD (ok_lower_letters T) (hr.mono (by decide)) (by rfl) pass0 (pa_cons (pv 0) pa_nil)) pe_str) (pg_tup (by rfl) (pgs_cons (pg_name (i := 1) sc_parse_address.nd rfl (Or.inl rfl)) (pgs_cons (pg_name (i := 2) sc_parse_address.nd rfl (Or.inl rfl)) (pgs_cons (pg_name (i := 3) sc_parse_address.nd rfl (Or.inl rfl)) pgs_nil)))))
      (pss_cons (ps_if (PW.pt (pw_or (pt_not (pt_val (pe_callD (ok_is_local_part T) (hr.mono (by decide)) (by rfl) pass0 (pa_cons (pv 1) pa_nil)))) (pw_or1 (pt_not (pt_val (pe_callD (ok_is_domain T) hr (by rfl) pass0 (pa_cons (pv 3) pa_nil))))))) (pss_one (y_raise rfl (takes_of rfl rfl rfl rfl) X9.xC X9.gC X9.kC (raises_own X9.bC X9.tC) (by rfl) (y_joined (.cons pe_str (.cons (pe_fmtR (pv 0)) .nil))))) pss_nil)
      (pss_one (ps_ret (y_tt (pa_cons (pv 1) (pa_cons (pv 3) pa_nil))))))), ?_⟩
    rw [show start N_parse_address [.str z] = [some (.str z), none, none, none] from rfl]
    have hrp := repr_le hz az
    walk_at "rs"
    refine ⟨z, rfl, hz, fun H1 sm1 => ?_⟩
    generalize hL : (⟨((tl z).map (tr1 upL)).toArray⟩ : Str) = y
    have ty : tl y = (tl z).map (tr1 upL) := by rw [← hL]
    have ly : y.length = z.length := by rw [len_tl, ty, List.length_map, ← len_tl]
    walk_at "rs"
    refine rd_parti (fun p np => ?_) (by rw [len_at]; rfl) (by omega)
    have fail : ∀ (H' : Hp), Same H1 H' → (∀ l d, ¬ Parsed (tl z) l d) → E (.ref C) none H' := fun H' sm nn => qn nn H' (sm1.trans sm)
    by_cases hat : 64 ∈ tl y
    · obtain ⟨l1, r1, e1, e2⟩ := first_at hat
      have ey : y = (⟨l1.toArray⟩ : Str) ++ Str.ofString "@" ++ ⟨r1.toArray⟩ := ext_tl (by rw [e1, tl_append, tl_append, tl_at, List.append_assoc]; rfl)
      have ll : l1.length + r1.length + 1 = y.length := by
        rw [len_tl, e1, List.length_append, List.length_cons]
        omega
      rw [ey, partition_app (a := (⟨l1.toArray⟩ : Str)) (b := ⟨r1.toArray⟩) tl_at (show 64 ∉ l1 from e2)]
      refine rd_gTup (SqT.of upd_same) rfl ?_
      walk_at "rs"
      refine ⟨_, rfl, by rw [len_mk]; omega, fun H2 sm2 => ?_⟩
      walk_at "rs"
      have np1 : ∀ l d, Parsed (tl z) l d → tl l = l1 ∧ tl d = r1 := fun l d h => by
        have q := split_uni (loc_noat h.2.1) e2 (h.1.symm.trans (ty.symm.trans e1))
        exact q
      by_cases hloc : LocalOk l1
      · rw [show tl (⟨l1.toArray⟩ : Str) = l1 from rfl, dc_t hloc]
        walk_at "rs"
        refine ⟨_, rfl, by rw [len_mk]; omega, fun H3 sm3 => ?_⟩
        by_cases hdom : DomOk r1
        · rw [show tl (⟨r1.toArray⟩ : Str) = r1 from rfl, dc_t hdom]
          walk_at "rs"
          refine rd_wTT (Nat.le_of_ble_eq_true rfl) fun p4 H4 np4 sm4 t4 => ?_
          exact qy ⟨l1.toArray⟩ ⟨r1.toArray⟩ ⟨ty.symm.trans e1, hloc, hdom⟩ p4 H4 ((((sm1.trans (same_new np)).trans sm2).trans sm3).trans sm4) t4
        · rw [show tl (⟨r1.toArray⟩ : Str) = r1 from rfl, dc_f hdom]
          walk_at "rs"
          · exact fail _ (((same_new np).trans sm2).trans sm3) fun l d h => hdom (by rw [← (np1 l d h).2]; exact h.2.2)
          all_goals (refine line_of ?_; simp only [len_app, len_empty, len_na]; omega)
      · rw [show tl (⟨l1.toArray⟩ : Str) = l1 from rfl, dc_f hloc]
        walk_at "rs"
        · exact fail _ ((same_new np).trans sm2) fun l d h => hloc (by rw [← (np1 l d h).1]; exact h.2.1)
        all_goals (refine line_of ?_; simp only [len_app, len_empty, len_na]; omega)
    · rw [partition_none tl_at hat]
      have nn : ∀ l d, ¬ Parsed (tl z) l d := fun l d h => hat (by
        rw [ty, h.1]
        exact List.mem_append_right _ List.mem_cons_self)
      refine rd_gTup (SqT.of upd_same) rfl ?_
      walk_at "rs"
      refine ⟨y, rfl, by omega, fun H2 sm2 => ?_⟩
      walk_at "rs"
      refine if_b (fun e => ?_) (fun e => ?_)
      · walk_at "rs"
        · exact fail _ ((same_new np).trans sm2) nn
        all_goals (refine line_of ?_; simp only [len_app, len_empty, len_na]; omega)
      · walk_at "rs"
        refine ⟨_, rfl, Nat.zero_le _, fun H3 sm3 => ?_⟩
        rw [show tl Str.empty = [] from rfl, dc_f dom_nil]
        walk_at "rs"
        · exact fail _ (((same_new np).trans sm2).trans sm3) nn
        all_goals (refine line_of ?_; simp only [len_app, len_empty, len_na]; omega)
/-- a path: < the written address >, or <> -/
def PathOk (t : List Nat) (m : List Nat) : Prop := t = 60 :: (m ++ [62])
def spPPath (C : Addr) : Sp := fun vs H Q E => ∃ z : Str, vs = [.str z] ∧ z.length ≤ 2000 ∧ Asc z ∧ (PathOk (tl z) [] → ∀ H', Same H H' → Q .non H') ∧
  (∀ m l d, PathOk (tl z) m → Parsed m l d → ∀ p H', Same H H' → Tk H' p [.str l, .str d] → Q (.ref p) H') ∧ ((¬ PathOk (tl z) [] ∧ ∀ m l d, ¬ (PathOk (tl z) m ∧ Parsed m l d)) → ∀ H', Same H H' → E (.ref C) none H')
theorem path_of {t : List Nat} (h1 : t.head? = some 60) (h2 : t.getLast? = some 62) : ∃ m, PathOk t m := by
  cases t with
  | nil => cases h1
  | cons a r =>
    have ea : a = 60 := Option.some.inj h1
    rcases List.eq_nil_or_concat r with e | ⟨m, b, e⟩
    · rw [e] at h2
      have eb : a = 62 := Option.some.inj h2
      rw [ea] at eb
      cases eb
    · have e' : r = m ++ [b] := by rw [e]; simp
      refine ⟨m, ?_⟩
      rw [e', show a :: (m ++ [b]) = (a :: m) ++ [b] from rfl, List.getLast?_append] at h2
      have eb : b = 62 := Option.some.inj h2
      unfold PathOk
      rw [ea, e', eb]
theorem path_ends {t m : List Nat} (h : PathOk t m) : t.head? = some 60 ∧ t.getLast? = some 62 := by
  unfold PathOk at h
  rw [h]
  refine ⟨rfl, ?_⟩
  rw [show 60 :: (m ++ [62]) = (60 :: m) ++ [62] from rfl, List.getLast?_append]
  rfl
theorem path_uni {t m m' : List Nat} (h : PathOk t m) (g : PathOk t m') : m = m' := by
  unfold PathOk at h g
  have q := (List.cons.inj (h.symm.trans g)).2
  exact (List.append_inj' q rfl).1
theorem nil_unparsed {l d : Str} : ¬ Parsed [] l d := fun h => by
  have q := congrArg List.length h.1
  simp at q
theorem tl_inner {z : Str} {a b : Nat} {m : List Nat} (h : tl z = a :: (m ++ [b])) : tl (cutS z (some 1) (some (-1))) = m := by
  have hl : z.length = m.length + 2 := by
    rw [len_tl, h]
    simp
  unfold cutS
  rw [tl_mk]
  have e1 : HT.sIx z.length 0 (some 1) = 1 := by
    show (if (1 : Int) < 0 then ((1 : Int) + (z.length : Int)).toNat else min (1 : Int).toNat z.length) = 1
    rw [if_neg (by decide), hl]
    show min 1 (m.length + 2) = 1
    omega
  have e2 : HT.sIx z.length z.length (some (-1)) = m.length + 1 := by
    show (if (-1 : Int) < 0 then ((-1 : Int) + (z.length : Int)).toNat else min (-1 : Int).toNat z.length) = m.length + 1
    rw [if_pos (by decide), hl]
    omega
  rw [e1, e2, show z.cps.toList = a :: (m ++ [b]) from h]
  show List.take (m.length + 1 - 1) (m ++ [b]) = m
  exact List.take_left
theorem ok_parse_path (T : Tx K mg) (X9 : ExT K mg C M) : OkD P w K mg base (L2.CX P w) 5 "parse_path" ["text"] (spPPath C) := by
  refine ok_mkX T.d_parse_path sc_parse_path (fun vs H Q E h => ?_) (fun f cdv A outer s H vs Q E hr h => ?_)
  · obtain ⟨z, rfl, _⟩ := h
    rfl
  · obtain ⟨z, rfl, hz, az, q0, qy, qn⟩ := h
    refine ⟨_, (pss_cons (ps_if (pt_cmpR op_eq (pv 0) pe_str (nomark _)) (pss_one (ps_ret pe_non)) pss_nil)
      (pss_cons (ps_if (PW.pt (pw_or (pt_not (pt_val (pe_m1 PySem.F.slot_str_startswith PySem.F.type_str_startswith y_starts (pv 0) pe_str))) (pw_or1 (pt_not (pt_val (pe_m1 PySem.F.slot_str_endswith PySem.F.type_str_endswith y_ends (pv 0) pe_str)))))) (pss_one (y_raise rfl (takes_of rfl rfl rfl rfl) X9.xC X9.gC X9.kC (raises_own X9.bC X9.tC) (by rfl) (y_joined (.cons pe_str (.cons (pe_fmtR (pv 0)) .nil))))) pss_nil)
      (pss_one (ps_ret (pe_callDS (E := WE _) (ok_parse_address T X9) hr (by rfl) (fun σ => passAt (takes_of rfl rfl rfl rfl) σ) (pa_cons (pe_slice sl_str (pv 0) (po_some pe_int) (po_some (pe_un un_neg pe_int))) pa_nil)))))), ?_⟩
    rw [show start N_parse_path [.str z] = [some (.str z)] from rfl]
    have hrp := repr_le hz az
    walk_at "rs"
    refine if_dec (fun e => ?_) (fun e => ?_)
    · walk_at "rs"
      all_goals exact q0 (by rw [e, tl_ltgt]; rfl) H (Same.refl H)
    · walk_at "rs"
      have n0 : ¬ PathOk (tl z) [] := fun h => e (ext_tl (by rw [h, tl_ltgt]; rfl))
      rw [starts_one tl_lt]
      by_cases h1 : (tl z).head? = some 60
      · rw [decide_eq_true h1]
        walk_at "rs"
        rw [ends_one tl_gt]
        by_cases h2 : (tl z).getLast? = some 62
        · rw [decide_eq_true h2]
          walk_at "rs"
          obtain ⟨m, hm⟩ := path_of h1 h2
          have em := tl_inner hm
          refine ⟨_, rfl, Nat.le_trans (len_cut _ _ _) hz, asc_cut az, fun l d hp p H' sm t => ?_, fun nn H' sm => ?_⟩
          · rw [em] at hp
            exact qy m l d hm hp p H' sm t
          · refine qn ⟨n0, fun m' l d hh => ?_⟩ H' sm
            rw [path_uni hh.1 hm, ← em] at hh
            exact nn l d hh.2
        · rw [decide_eq_false h2]
          walk_at "rs"
          · exact qn ⟨n0, fun m l d hh => h2 (path_ends hh.1).2⟩ H (Same.refl H)
          all_goals (refine line_of ?_; simp only [len_app, len_empty, len_np]; omega)
      · rw [decide_eq_false h1]
        walk_at "rs"
        · exact qn ⟨n0, fun m l d hh => h1 (path_ends hh.1).1⟩ H (Same.refl H)
        all_goals (refine line_of ?_; simp only [len_app, len_empty, len_np]; omega)
/-- the law's own way to the same -/
def spExp (K : PySem.W.Frag) : Sp := fun vs H Q _ => ∃ z : Str, vs = [.str z] ∧ z.length ≤ 2000 ∧ Asc z ∧ (∀ l d, Parsed (tl z) l d → ∀ p H', Same H H' → Tk H' p [.str l, .str d] → Q (.ref p) H') ∧
  ((∀ l d, ¬ Parsed (tl z) l d) → ∀ H', Same H H' → Q .non H')
theorem ok_Lparsed (T : Tx K mg) (X9 : ExT K mg C M) : OkD P w K mg base CX0 5 "_law_parsed" ["text"] (spExp K) := by
  refine ok_mk T.d_Lparsed sc_Lparsed (fun vs H Q E h => ?_) (fun f cdv A outer s H vs Q E hr h => ?_)
  · obtain ⟨z, rfl, _⟩ := h
    rfl
  · obtain ⟨z, rfl, hz, az, qy, qn⟩ := h
    refine ⟨_, (pss_one (y_tryA (i := 1) rfl rfl sc_Lparsed.nd rfl rfl ⟨rfl, by decide, .inl X9.gC⟩ takes0 (fun W pn xe tk _ => (pss_one (ps_ret (pe_callDS (E := WE W) (ok_parse_address T X9) hr (by rfl) (fun σ => passAt tk σ) (pa_cons (pv 0) pa_nil))))) (fun a oe cls d pn hz hf => (pss_cons (ps_if (PW.pt (pw_or (pt_not (pt_val (pe_callB (y_isE X9.e hz hf) (by rfl) T.z_isinstance (by decide +kernel) (pa_cons (pv 1) (pa_cons (pe_glob (v := .ref _) (by rfl) X9.gM rfl) pa_nil))))) (pw_or1 (pt_not (pt_val (pe_callB (y_isE X9.e hz hf) (by rfl) T.z_isinstance (by decide +kernel) (pa_cons (pv 1) (pa_cons (pe_bltn (v := .ty "ValueError") (by rfl) T.z_ValueError (by decide +kernel) rfl) pa_nil)))))))) (pss_one (ps_ret (y_tt (pa_cons pe_str pa_nil)))) pss_nil)
      (pss_one (ps_ret pe_non)))))), ?_⟩
    rw [show start N_Lparsed [.str z] = [some (.str z), none] from rfl]
    walk_at "rs"
    refine ⟨z, rfl, hz, az, fun l d h p H' sm t => qy l d h p H' sm t, fun nn H' sm => ?_⟩
    refine ⟨true, X9.exm, fun _ a ha => ?_, fun q => nomatch q⟩
    walk_at "wp"
    refine ⟨rfl, rfl, .ref M, .ref M, true, rfl, fun u hu => hu, X9.kM, ?_⟩
    walk_at "rs"
    refine ⟨rfl, rfl, .ty "ValueError", .type "ValueError", true, rfl, fun u hu => hu, X9.kV, ?_⟩
    walk_at "rs"
    all_goals exact qn nn H' sm
/-- ('path', what the path says), or None -/
def pthS : Str := Str.ofString "path"
def spPth (K : PySem.W.Frag) : Sp := fun vs H Q _ => ∃ z : Str, vs = [.str z] ∧ z.length ≤ 2000 ∧ Asc z ∧ (PathOk (tl z) [] → ∀ p H', Same H H' → Tk H' p [.str pthS, .non] → Q (.ref p) H') ∧
  (∀ m l d, PathOk (tl z) m → Parsed m l d → ∀ p p2 H', Same H H' → Tk H' p2 [.str l, .str d] → Tk H' p [.str pthS, .ref p2] → Q (.ref p) H') ∧ ((¬ PathOk (tl z) [] ∧ ∀ m l d, ¬ (PathOk (tl z) m ∧ Parsed m l d)) → ∀ H', Same H H' → Q .non H')
theorem ok_Lpath (T : Tx K mg) (X9 : ExT K mg C M) : OkD P w K mg base CX0 6 "_law_path" ["text"] (spPth K) := by
  refine ok_mk T.d_Lpath sc_Lpath (fun vs H Q E h => ?_) (fun f cdv A outer s H vs Q E hr h => ?_)
  · obtain ⟨z, rfl, _⟩ := h
    rfl
  · obtain ⟨z, rfl, hz, az, q0, qy, qn⟩ := h
    refine ⟨_, (pss_one (y_tryO rfl rfl ⟨rfl, by decide, .inl X9.gC⟩ takes0 (fun W pn xe tk _ => (pss_one (ps_ret (y_tt (pa_cons pe_str (pa_cons (pe_callDS (E := WE W) (ok_parse_path T X9) hr (by rfl) (fun σ => passAt tk σ) (pa_cons (pv 0) pa_nil)) pa_nil)))))) (fun a oe cls d pn hz hf => (pss_one (ps_ret pe_non))))), ?_⟩
    rw [show start N_Lpath [.str z] = [some (.str z)] from rfl]
    walk_at "rs"
    refine ⟨z, rfl, hz, az, fun h H' sm => ?_, fun m l d hm h p H' sm t => ?_, fun nn H' sm => ?_⟩
    · walk_at "rs"
      refine rd_wTT (Nat.le_of_ble_eq_true rfl) fun p2 H2 np2 sm2 t2 => ?_
      exact q0 h p2 H2 (sm.trans sm2) t2
    · walk_at "rs"
      refine rd_wTT (Nat.le_of_ble_eq_true rfl) fun p2 H2 np2 sm2 t2 => ?_
      exact qy m l d hm h p2 p H2 (sm.trans sm2) (t.same sm2) t2
    · refine ⟨true, X9.exm, fun _ a ha => ?_, fun q => nomatch q⟩
      walk_at "rs"
      all_goals exact qn nn H' sm
end

section
variable {P : Program} {w : World} {K : PySem.W.Frag} {mg : Str → Option Value} {base : Heap} {C M : Addr}
def spLlower (K : PySem.W.Frag) : Sp := fun vs H Q _ => ∃ z : Str, vs = [.str z] ∧ z.length ≤ 2000 ∧ Asc z ∧ ∀ (x : Str) H', Same H H' → tl x = (tl z).map lowN → Q (.str x) H'
theorem ok_Llower (T : Tx K mg) : OkD P w K mg base CX0 1 "_law_lower" ["text"] (spLlower K) := by
  refine ok_mk T.d_Llower sc_Llower (fun vs H Q E h => ?_) (fun f cdv A outer s H vs Q E hr h => ?_)
  · obtain ⟨z, rfl, _⟩ := h
    rfl
  · obtain ⟨z, rfl, hz, az, q⟩ := h
    refine ⟨_, (pss_cons (ps_set (i := 1) sc_Llower.nd rfl (.inr rfl) pe_str)
      (pss_cons (ps_set (i := 2) sc_Llower.nd rfl (.inr rfl) pe_str)
      (pss_one (ps_ret (pe_m1 PySem.F.slot_str_join PySem.F.type_str_join y_join pe_str (pe_lc (own := [("sign", 3)]) (g := gName 3) rfl sc_Llower.nd (pi_str (pv 0)) (blkOk_by (N := N_Llower) (sc := defScope s_Llower) (by decide +kernel)) (fun _ _ _ _ _ => pg_name (i := 3) sc_Llower.nd rfl (Or.inl rfl)) (fun _ _ _ _ _ => pts_nil) (fun _ _ _ _ _ => (pe_ifExp (pt_cmpR y_in1 (pv 3) (pv 1) (by rfl)) (pe_ix ix_str (pv 2) (pe_m1 PySem.F.slot_str_index PySem.F.type_str_index y_sIx (pv 1) (pv 3)) (fun _ _ => rfl)) (pv 3))))))))), ?_⟩
    rw [show start N_Llower [.str z] = [some (.str z), none, none, none] from rfl]
    have hl : z.length = (tl z).length := len_tl z
    walk_at "rs"
    intro D nD
    refine lcM1 walk_s (fun _ _ => trivial) nD (by rw [List.length_map, ← len_tl]; omega) (fun v => match v with | .str y => .str ⟨#[lowN ((tl y).headD 0)]⟩ | v => v) (fun v hv H2 R sm r => ?_) (fun H2 sm e => ?_)
    · obtain ⟨c, hc, rfl⟩ := List.mem_map.mp hv
      have r' : R (.str ⟨#[lowN c]⟩) H2 := r _ (Same.refl _)
      refine ⟨rfl, ?_⟩
      unfold oneS
      walk_at "wp"
      refine if_dec (fun e => ?_) (fun e => ?_)
      · have e2 := up_iff.mp e
        walk_at "rs"
        refine rd_sIx (up_idx e2) ?_
        refine rd_ixS (lo_at e2) (by rw [len_lo]; decide) ?_
        exact r'
      · have e2 : ¬ (65 ≤ c ∧ c ≤ 90) := fun h => e (up_iff.mpr h)
        walk_at "rs"
        rw [low_low e2] at r'
        all_goals exact r'
    · walk_at "rs"
      have ee : (((tl z).map oneS).map (fun v => match v with | .str y => .str ⟨#[lowN ((tl y).headD 0)]⟩ | v => v)) = ((tl z).map fun c => (⟨#[lowN c]⟩ : Str)).map V.str := by
        rw [List.map_map, List.map_map]
        rfl
      rw [ee] at e
      have hs := lens_le (B := 1) (xs := (tl z).map fun c => (⟨#[lowN c]⟩ : Str)) fun x hx => by
        obtain ⟨c, _, rfl⟩ := List.mem_map.mp hx
        exact Nat.le_refl 1
      rw [List.length_map] at hs
      refine rd_joinL (SqL.of e) (by rw [len_lit0, List.length_map]; omega) ?_
      exact q _ H2 sm (by rw [tl_joined, tl_lit0, joinL_nil, flat_ones])
def spLall (K : PySem.W.Frag) : Sp := fun vs H Q _ => ∃ z S : Str, vs = [.str z, .str S] ∧ z.length ≤ 2000 ∧ ∀ H', Same H H' → Q (.bl (dc (∀ c ∈ tl z, c ∈ tl S))) H'
theorem ok_Lall (T : Tx K mg) : OkD P w K mg base CX0 1 "_law_all" ["text", "signs"] (spLall K) := by
  refine ok_mk T.d_Lall sc_Lall (fun vs H Q E h => ?_) (fun f cdv A outer s H vs Q E hr h => ?_)
  · obtain ⟨z, S, rfl, _⟩ := h
    rfl
  · obtain ⟨z, S, rfl, hz, q⟩ := h
    refine ⟨_, (pss_one (ps_ret (pe_callB (cr_all rfl) (by rfl) T.z_all (by decide +kernel) (pa_cons (pe_lc (own := [("sign", 2)]) (g := gName 2) rfl sc_Lall.nd (pi_str (pv 0)) (blkOk_by (N := N_Lall) (sc := defScope s_Lall) (by decide +kernel)) (fun _ _ _ _ _ => pg_name (i := 2) sc_Lall.nd rfl (Or.inl rfl)) (fun _ _ _ _ _ => pts_nil) (fun _ _ _ _ _ => (pe_cmpR y_in1 (pv 2) (pv 1) (by rfl)))) pa_nil)))), ?_⟩
    rw [show start N_Lall [.str z, .str S] = [some (.str z), some (.str S), none] from rfl]
    walk_at "rs"
    intro D nD
    refine lcM1 walk_s (fun _ _ => trivial) nD (by rw [List.length_map, ← len_tl]; omega) (fun v => match v with | .str y => .bl (decide ((tl y).headD 0 ∈ tl S)) | v => v) (fun v hv H2 R sm r => ?_) (fun H2 sm e => ?_)
    · obtain ⟨c, hc, rfl⟩ := List.mem_map.mp hv
      refine ⟨rfl, ?_⟩
      unfold oneS
      walk_at "wp"
      exact r _ (Same.refl _)
    · walk_at "rs"
      refine rd_all (bs := (tl z).map fun c => decide (c ∈ tl S)) (by
        rw [List.map_map] at e
        rw [List.map_map]
        exact SqL.of e) ?_
      rw [show ((tl z).map fun c => decide (c ∈ tl S)).all id = dc (∀ c ∈ tl z, c ∈ tl S) from dc_of (by
        rw [all_id, List.all_eq_true]
        exact ⟨fun h c hc => of_decide_eq_true (h c hc), fun h c hc => decide_eq_true (h c hc)⟩)]
      exact q _ sm
theorem ends_of {l : List Nat} (h : 1 ≤ l.length) : ∃ a b, atI l 0 = some a ∧ atI l ((l.length : Int) - 1) = some b ∧ l.head? = some a ∧ l.getLast? = some b := by
  have h0 : 0 < l.length := h
  refine ⟨l[0], l[l.length - 1], atI_nat (j := 0) (List.getElem?_eq_getElem h0), ?_, ?_, ?_⟩
  · rw [show ((l.length : Int) - 1) = ((l.length - 1 : Nat) : Int) by omega]
    exact atI_nat (List.getElem?_eq_getElem (by omega))
  · rw [List.head?_eq_getElem?]
    exact List.getElem?_eq_getElem h0
  · rw [List.getLast?_eq_getElem?]
    exact List.getElem?_eq_getElem (by omega)
theorem any_id {α : Type} (l : List α) (p : α → Bool) : (l.map p).any id = l.any p := by
  induction l with
  | nil => rfl
  | cons a r ih => rw [List.map_cons, List.any_cons, List.any_cons, ih]; rfl
def spLloc (K : PySem.W.Frag) : Sp := fun vs H Q _ => ∃ z : Str, vs = [.str z] ∧ z.length ≤ 2000 ∧ ∀ H', Same H H' → Q (.bl (dc (LocalOk (tl z)))) H'
theorem ok_Lis_local (T : Tx K mg) : OkD P w K mg base CX0 2 "_law_is_local" ["text"] (spLloc K) := by
  refine ok_mk T.d_Lis_local sc_Lis_local (fun vs H Q E h => ?_) (fun f cdv A outer s H vs Q E hr h => ?_)
  · obtain ⟨z, rfl, _⟩ := h
    rfl
  · obtain ⟨z, rfl, hz, q⟩ := h
    refine ⟨_, (pss_cons (ps_set (i := 1) sc_Lis_local.nd rfl (.inl rfl) pe_str)
      (pss_cons (ps_if (PW.pt (pw_or (pt_cmpR op_lt (pe_callB y_lenS (by rfl) T.z_len (by decide +kernel) (pa_cons (pv 0) pa_nil)) pe_int (nomark _)) (pw_or (pt_cmpR op_gt (pe_callB y_lenS (by rfl) T.z_len (by decide +kernel) (pa_cons (pv 0) pa_nil)) pe_int (nomark _)) (pw_or1 (pt_not (pt_val (pe_callD (ok_Lall T) hr (by rfl) pass0 (pa_cons (pv 0) (pa_cons (pv 1) pa_nil))))))))) (pss_one (ps_ret pe_bl)) pss_nil)
      (pss_cons (ps_if (PW.pt (pw_or (pt_cmpR op_eq (pe_ix ix_str (pv 0) pe_int (fun _ _ => rfl)) pe_str (nomark _)) (pw_or1 (pt_cmpR op_eq (pe_ix ix_str (pv 0) (pe_op op_sub (pe_callB y_lenS (by rfl) T.z_len (by decide +kernel) (pa_cons (pv 0) pa_nil)) pe_int) (fun _ _ => rfl)) pe_str (nomark _))))) (pss_one (ps_ret pe_bl)) pss_nil)
      (pss_one (ps_ret (pe_not (pe_callB (cr_any rfl) (by rfl) T.z_any (by decide +kernel) (pa_cons (pe_lc (own := [("k", 2)]) (g := gName 2) rfl sc_Lis_local.nd (pi_range1 (by rfl) T.z_range (pa_cons (pe_op op_sub (pe_callB y_lenS (by rfl) T.z_len (by decide +kernel) (pa_cons (pv 0) pa_nil)) pe_int) pa_nil)) (blkOk_by (N := N_Lis_local) (sc := defScope s_Lis_local) (by decide +kernel)) (fun _ _ _ _ _ => pg_name (i := 2) sc_Lis_local.nd rfl (Or.inl rfl)) (fun _ _ _ _ _ => pts_nil) (fun _ _ _ _ _ => (pe_and (pe_cmpR op_eq (pe_ix ix_str (pv 0) (pv 2) (fun _ _ => rfl)) pe_str (nomark _)) (pe_one (pe_cmpR op_eq (pe_ix ix_str (pv 0) (pe_op op_add (pv 2) pe_int) (fun _ _ => rfl)) pe_str (nomark _)))))) pa_nil)))))))), ?_⟩
    rw [show start N_Lis_local [.str z] = [some (.str z), none, none] from rfl]
    have hl : z.length = (tl z).length := len_tl z
    have no : ¬ LocalOk (tl z) → ∀ H', Same H H' → Q (.bl false) H' := fun h H' sm => by
      have q' := q H' sm
      rw [dc_f h] at q'
      exact q'
    walk_at "rs"
    refine if_dec (fun e => ?_) (fun e1 => ?_)
    · walk_at "rs"
      exact no (fun h => by have := h.1.1; omega) H (Same.refl H)
    · walk_at "rs"
      refine if_dec (fun e => ?_) (fun e2 => ?_)
      · walk_at "rs"
        exact no (fun h => by have := h.1.2.1; omega) H (Same.refl H)
      · walk_at "rs"
        refine ⟨z, _, rfl, hz, fun H1 sm1 => ?_⟩
        walk_at "rs"
        by_cases ha : ∀ c ∈ tl z, c ∈ tl locS
        · rw [show dc (∀ c ∈ tl z, c ∈ tl (Str.ofString "abcdefghijklmnopqrstuvwxyz0123456789.-_+")) = true from dc_t ha]
          walk_at "rs"
          obtain ⟨a, b, ea, eb, g1, g2⟩ := ends_of (l := tl z) (by omega)
          refine rd_ixS ea (by omega) ?_
          walk_at "rs"
          rw [show decide ((⟨#[a]⟩ : Str) = Str.ofString ".") = decide (a = 46) from decide_eq_decide.mpr (one_eq tl_dot)]
          refine if_dec (fun e3 => ?_) (fun e3 => ?_)
          · walk_at "rs"
            exact no (fun h => h.2.1 (by rw [g1, e3])) H1 sm1
          · walk_at "rs"
            refine rd_ixS (by rw [hl]; exact eb) (by omega) ?_
            walk_at "rs"
            rw [show decide ((⟨#[b]⟩ : Str) = Str.ofString ".") = decide (b = 46) from decide_eq_decide.mpr (one_eq tl_dot)]
            refine if_dec (fun e4 => ?_) (fun e4 => ?_)
            · walk_at "rs"
              exact no (fun h => h.2.2.1 (by rw [g2, e4])) H1 sm1
            · walk_at "rs"
              refine rd_wRg (by omega) (by omega) fun D nD => ?_
              refine lcRp nD (by omega) (fun k => .bl (decide ((tl z)[k]? = some 46 ∧ (tl z)[k + 1]? = some 46))) (fun k hk H2 R sm r => ?_) (fun H2 sm e => ?_)
              · have h1 : k < (tl z).length := by omega
                have h2 : k + 1 < (tl z).length := by omega
                have k1 : (tl z)[k]? = some (tl z)[k] := List.getElem?_eq_getElem h1
                have k2 : (tl z)[k + 1]? = some (tl z)[k + 1] := List.getElem?_eq_getElem h2
                have r' := r _ (Same.refl _)
                rw [k1, k2] at r'
                refine ⟨rfl, ?_⟩
                walk_at "wp"
                refine rd_ixS (c := (tl z)[k]) (by rw [show (0 + (k : Int)) = ((k : Nat) : Int) by omega]; exact atI_nat k1) (by omega) ?_
                walk_at "rs"
                rw [show decide ((⟨#[(tl z)[k]]⟩ : Str) = Str.ofString ".") = decide ((tl z)[k] = 46) from decide_eq_decide.mpr (one_eq tl_dot)]
                refine if_dec (fun e5 => ?_) (fun e5 => ?_)
                · walk_at "rs"
                  refine rd_ixS (c := (tl z)[k + 1]) (by rw [show (0 + (k : Int) + 1) = ((k + 1 : Nat) : Int) by omega]; exact atI_nat k2) (by omega) ?_
                  walk_at "rs"
                  rw [show decide ((⟨#[(tl z)[k + 1]]⟩ : Str) = Str.ofString ".") = decide (some (tl z)[k] = some 46 ∧ some (tl z)[k + 1] = some 46) from decide_eq_decide.mpr ((one_eq tl_dot).trans ⟨fun h => ⟨by rw [e5], by rw [h]⟩, fun h => Option.some.inj h.2⟩)]
                  all_goals exact r'
                · walk_at "rs"
                  rw [decide_eq_false (fun h => e5 (Option.some.inj h.1))] at r'
                  all_goals exact r'
              · walk_at "rs"
                refine rd_any (bs := (List.range (((z.length : Int) - 1).toNat)).map fun k => decide ((tl z)[k]? = some 46 ∧ (tl z)[k + 1]? = some 46)) (by
                  rw [List.map_map]
                  exact SqL.of e) ?_
                walk_at "rs"
                rw [show (!((List.range (((z.length : Int) - 1).toNat)).map fun k => decide ((tl z)[k]? = some 46 ∧ (tl z)[k + 1]? = some 46)).any id) = dc (LocalOk (tl z)) from dc_of (by
                  rw [Bool.not_eq_true', ← Bool.not_eq_true, any_id, List.any_eq_true]
                  constructor
                  · intro h
                    refine ⟨⟨by omega, by omega, ha⟩, fun e => e3 ?_, fun e => e4 ?_, fun ⟨i, i1, i2⟩ => h ⟨i, ?_, decide_eq_true ⟨i1, i2⟩⟩⟩
                    · rw [g1] at e
                      exact Option.some.inj e
                    · rw [g2] at e
                      exact Option.some.inj e
                    · have := (List.getElem?_eq_some_iff.mp i2).1
                      exact List.mem_range.mpr (by omega)
                  · rintro h ⟨i, _, hi⟩
                    exact h.2.2.2 ⟨i, of_decide_eq_true hi⟩)]
                exact q _ (sm1.trans sm)
        · rw [show dc (∀ c ∈ tl z, c ∈ tl (Str.ofString "abcdefghijklmnopqrstuvwxyz0123456789.-_+")) = false from dc_f ha]
          walk_at "rs"
          exact no (fun h => ha h.1.2.2) H1 sm1
def spLdom (K : PySem.W.Frag) : Sp := fun vs H Q _ => ∃ z : Str, vs = [.str z] ∧ z.length ≤ 2000 ∧ ∀ H', Same H H' → Q (.bl (dc (DomOk (tl z)))) H'
theorem ok_Lis_domain (T : Tx K mg) : OkD P w K mg base CX0 2 "_law_is_domain" ["text"] (spLdom K) := by
  refine ok_mk T.d_Lis_domain sc_Lis_domain (fun vs H Q E h => ?_) (fun f cdv A outer s H vs Q E hr h => ?_)
  · obtain ⟨z, rfl, _⟩ := h
    rfl
  · obtain ⟨z, rfl, hz, q⟩ := h
    refine ⟨_, (pss_cons (ps_set (i := 1) sc_Lis_domain.nd rfl (.inl rfl) pe_str)
      (pss_cons (ps_if (pt_cmpR op_gt (pe_callB y_lenS (by rfl) T.z_len (by decide +kernel) (pa_cons (pv 0) pa_nil)) pe_int (nomark _)) (pss_one (ps_ret pe_bl)) pss_nil)
      (pss_cons (ps_for PassesOwn.never rfl (pi_list (pe_m1 PySem.F.slot_str_split PySem.F.type_str_split y_split (pv 0) pe_str)) (pg_name (i := 2) sc_Lis_domain.nd rfl (Or.inl rfl)) (pss_cons (ps_if (PW.pt (pw_or (pt_cmpR op_lt (pe_callB y_lenS (by rfl) T.z_len (by decide +kernel) (pa_cons (pv 2) pa_nil)) pe_int (nomark _)) (pw_or (pt_cmpR op_gt (pe_callB y_lenS (by rfl) T.z_len (by decide +kernel) (pa_cons (pv 2) pa_nil)) pe_int (nomark _)) (pw_or1 (pt_not (pt_val (pe_callD (ok_Lall T) hr (by rfl) pass0 (pa_cons (pv 2) (pa_cons (pv 1) pa_nil))))))))) (pss_one (ps_ret pe_bl)) pss_nil)
      (pss_one (ps_if (PW.pt (pw_or (pt_cmpR op_eq (pe_ix ix_str (pv 2) pe_int (fun _ _ => rfl)) pe_str (nomark _)) (pw_or1 (pt_cmpR op_eq (pe_ix ix_str (pv 2) (pe_op op_sub (pe_callB y_lenS (by rfl) T.z_len (by decide +kernel) (pa_cons (pv 2) pa_nil)) pe_int) (fun _ _ => rfl)) pe_str (nomark _))))) (pss_one (ps_ret pe_bl)) pss_nil))))
      (pss_one (ps_ret pe_bl))))), ?_⟩
    rw [show start N_Lis_domain [.str z] = [some (.str z), none, none] from rfl]
    have hl : z.length = (tl z).length := len_tl z
    have no : ¬ DomOk (tl z) → ∀ H', Same H H' → Q (.bl false) H' := fun h H' sm => by
      have q' := q H' sm
      rw [dc_f h] at q'
      exact q'
    walk_at "rs"
    refine if_dec (fun e => ?_) (fun e1 => ?_)
    · walk_at "rs"
      exact no (fun h => by have := h.1; omega) H (Same.refl H)
    · walk_at "rs"
      refine rd_split (fun p np => ?_) (by rw [len_dot]; rfl) (by omega)
      walk_at "rs"
      refine rd_wSq (SqL.of upd_same) ?_
      have hs := split_dot z
      refine frJ (walk_l (xs := (Txt.split z (Str.ofString ".")).map V.str)) (fun i σ H' => Same (upd H p (.lst ((Txt.split z (Str.ofString ".")).map V.str))) H' ∧ (∃ y : Option V, σ = [some (.str z), some (.str (Str.ofString "abcdefghijklmnopqrstuvwxyz0123456789-")), y]) ∧ ∀ (k : Nat) x, k < i → (Txt.split z (Str.ofString "."))[k]? = some x → LabelOk (tl x))
        ⟨Same.refl _, ⟨none, rfl⟩, fun k x hk => absurd hk (Nat.not_lt_zero k)⟩ (fun i σ H' _ pv => Same.seq pv.1 (SqL.of upd_same)) (fun i v σ H' hv pv => ?_) (fun σ H' pv => ?_)
      · obtain ⟨sm, ⟨y, rfl⟩, hk⟩ := pv
        rw [List.getElem?_map] at hv
        cases hx : (Txt.split z (Str.ofString "."))[i]? with
        | none =>
          rw [hx] at hv
          cases hv
        | some x =>
          rw [hx] at hv
          cases Option.some.inj hv
          have hmem : tl x ∈ spl [46] 0 [] (tl z) := by
            rw [← hs]
            exact List.mem_map.mpr ⟨x, List.mem_of_getElem? hx, rfl⟩
          have hxl : x.length ≤ 2000 := by
            have h1 := spl_mem 46 (tl z) [] (tl x) hmem
            rw [List.length_nil, Nat.zero_add, ← len_tl, ← len_tl] at h1
            omega
          have hxt : x.length = (tl x).length := len_tl x
          have sm0 := (same_new np).trans sm
          have bad : ¬ LabelOk (tl x) → ∀ H'', Same H' H'' → Q (.bl false) H'' := fun h H'' s2 => no (fun hd => h (hd.2 _ hmem)) H'' (sm0.trans s2)
          walk_at "rs"
          refine if_dec (fun e => ?_) (fun e2 => ?_)
          · walk_at "rs"
            exact bad (fun h => by have := h.1.1; omega) H' (Same.refl _)
          · walk_at "rs"
            refine if_dec (fun e => ?_) (fun e3 => ?_)
            · walk_at "rs"
              exact bad (fun h => by have := h.1.2.1; omega) H' (Same.refl _)
            · walk_at "rs"
              refine ⟨x, _, rfl, hxl, fun H1 sm1 => ?_⟩
              walk_at "rs"
              by_cases ha : ∀ c ∈ tl x, c ∈ tl labS
              · rw [show dc (∀ c ∈ tl x, c ∈ tl (Str.ofString "abcdefghijklmnopqrstuvwxyz0123456789-")) = true from dc_t ha]
                walk_at "rs"
                obtain ⟨a, b, ea, eb, g1, g2⟩ := ends_of (l := tl x) (by omega)
                refine rd_ixS ea (by omega) ?_
                walk_at "rs"
                rw [show decide ((⟨#[a]⟩ : Str) = Str.ofString "-") = decide (a = 45) from decide_eq_decide.mpr (one_eq tl_hy)]
                refine if_dec (fun e4 => ?_) (fun e4 => ?_)
                · walk_at "rs"
                  exact bad (fun h => h.2.1 (by rw [g1, e4])) H1 sm1
                · walk_at "rs"
                  refine rd_ixS (by rw [hxt]; exact eb) (by omega) ?_
                  walk_at "rs"
                  rw [show decide ((⟨#[b]⟩ : Str) = Str.ofString "-") = decide (b = 45) from decide_eq_decide.mpr (one_eq tl_hy)]
                  refine if_dec (fun e5 => ?_) (fun e5 => ?_)
                  · walk_at "rs"
                    exact bad (fun h => h.2.2 (by rw [g2, e5])) H1 sm1
                  · walk_at "rs"
                    refine ⟨sm.trans sm1, ⟨_, rfl⟩, fun k x2 hk2 hx2 => ?_⟩
                    by_cases q2 : k < i
                    · exact hk k x2 q2 hx2
                    · rw [show k = i by omega, hx] at hx2
                      rw [← Option.some.inj hx2]
                      refine ⟨⟨by omega, by omega, ha⟩, fun e => e4 ?_, fun e => e5 ?_⟩
                      · rw [g1] at e
                        exact Option.some.inj e
                      · rw [g2] at e
                        exact Option.some.inj e
              · rw [show dc (∀ c ∈ tl x, c ∈ tl (Str.ofString "abcdefghijklmnopqrstuvwxyz0123456789-")) = false from dc_f ha]
                walk_at "rs"
                exact bad (fun h => ha h.1.2.2) H1 sm1
      · obtain ⟨sm, ⟨y, rfl⟩, hk⟩ := pv
        walk_at "rs"
        have q' := q H' ((same_new np).trans sm)
        rw [List.length_map] at hk
        rw [dc_t ⟨by omega, fun pp hp => by
          rw [← hs] at hp
          obtain ⟨x, hx, rfl⟩ := List.mem_map.mp hp
          obtain ⟨k, hk2⟩ := List.mem_iff_getElem?.mp hx
          exact hk k x (List.getElem?_eq_some_iff.mp hk2).1 hk2⟩] at q'
        all_goals exact q'
end

section
variable {P : Program} {w : World} {K : PySem.W.Frag} {mg : Str → Option Value} {base : Heap} {C M : Addr}
theorem low_tr {l : List Nat} (h : ∀ c ∈ l, c < 128) : l.map lowN = l.map (tr1 upL) := (low_map h).symm
theorem spl_two {l p r : List Nat} (h : l = p ++ 64 :: r) (hp : 64 ∉ p) : spl [64] 0 [] l = p :: spl [64] 0 [] r := by
  rw [h, show p ++ 64 :: r = p ++ ([64] ++ r) from rfl, spl_part1 hp, List.nil_append]
theorem ok_Lexpected (T : Tx K mg) : OkD P w K mg base CX0 3 "_law_expected" ["text"] (spExp K) := by
  refine ok_mk T.d_Lexpected sc_Lexpected (fun vs H Q E h => ?_) (fun f cdv A outer s H vs Q E hr h => ?_)
  · obtain ⟨z, rfl, _⟩ := h
    rfl
  · obtain ⟨z, rfl, hz, az, qy, qn⟩ := h
    refine ⟨_, (pss_cons (ps_set (i := 1) sc_Lexpected.nd rfl (.inl rfl) (pe_m1 PySem.F.slot_str_split PySem.F.type_str_split y_split (pe_callD (ok_Llower T) (hr.mono (by decide)) (by rfl) pass0 (pa_cons (pv 0) pa_nil)) pe_str))
      (pss_cons (ps_if (PW.pt (pw_or (pt_cmpR op_ne (pe_callB y_lenQ (by rfl) T.z_len (by decide +kernel) (pa_cons (pv 1) pa_nil)) pe_int (nomark _)) (pw_or (pt_not (pt_val (pe_callD (ok_Lis_local T) hr (by rfl) pass0 (pa_cons (pe_ix ix_list (pv 1) pe_int (fun _ _ => rfl)) pa_nil)))) (pw_or1 (pt_not (pt_val (pe_callD (ok_Lis_domain T) hr (by rfl) pass0 (pa_cons (pe_ix ix_list (pv 1) pe_int (fun _ _ => rfl)) pa_nil)))))))) (pss_one (ps_ret pe_non)) pss_nil)
      (pss_one (ps_ret (y_tt (pa_cons (pe_ix ix_list (pv 1) pe_int (fun _ _ => rfl)) (pa_cons (pe_ix ix_list (pv 1) pe_int (fun _ _ => rfl)) pa_nil))))))), ?_⟩
    rw [show start N_Lexpected [.str z] = [some (.str z), none] from rfl]
    walk_at "rs"
    refine ⟨z, rfl, hz, az, fun y H1 sm1 ty => ?_⟩
    have ty2 : tl y = (tl z).map (tr1 upL) := ty.trans (low_tr az)
    have ly : y.length = z.length := by rw [len_tl, ty, List.length_map, ← len_tl]
    walk_at "rs"
    refine rd_split (fun p np => ?_) (by rw [len_at]; rfl) (by omega)
    have hs := split_at y
    walk_at "rs"
    refine rd_lenL (SqL.of upd_same) ?_
    walk_at "rs"
    have sm2 := sm1.trans (same_new (o := .lst ((Txt.split y (Str.ofString "@")).map V.str)) np)
    have lens : ((Txt.split y (Str.ofString "@")).map V.str).length = (spl [64] 0 [] (tl y)).length := by rw [List.length_map, ← hs, List.length_map]
    by_cases hat : 64 ∈ tl y
    · obtain ⟨l1, r1, e1, e2⟩ := first_at hat
      have hp := spl_two e1 e2
      have np1 : ∀ l d, Parsed (tl z) l d → tl l = l1 ∧ tl d = r1 := fun l d h => split_uni (loc_noat h.2.1) e2 (h.1.symm.trans (ty2.symm.trans e1))
      have ll : l1.length + r1.length + 1 = y.length := by
        rw [len_tl, e1, List.length_append, List.length_cons]
        omega
      by_cases h2 : 64 ∈ r1
      · obtain ⟨l3, r3, e3, e4⟩ := first_at h2
        have nn : ∀ l d, ¬ Parsed (tl z) l d := fun l d h => dom_noat h.2.2 (by rw [(np1 l d h).2]; exact h2)
        have len3 : ¬ ((((Txt.split y (Str.ofString "@")).map V.str).length : Int) = 2) := by
          rw [lens, hp, spl_two e3 e4, List.length_cons, List.length_cons]
          intro q
          have h5 : (spl [64] 0 [] r3).length = 0 := by omega
          cases r3 with
          | nil => rw [spl_nil] at h5; cases h5
          | cons a t =>
            by_cases hh : pre [64] (a :: t) = true
            · rw [spl_hit hh] at h5
              cases h5
            · have h6 : ∀ (l acc : List Nat), (spl [64] 0 acc l).length ≠ 0 := by
                intro l
                induction l with
                | nil => intro acc; rw [spl_nil]; exact Nat.succ_ne_zero 0
                | cons a t ih =>
                  intro acc
                  by_cases h7 : pre [64] (a :: t) = true
                  · rw [spl_hit h7]
                    exact Nat.succ_ne_zero _
                  · rw [Bool.not_eq_true] at h7
                    rw [spl_miss h7]
                    exact ih _
              exact h6 _ _ h5
        rw [decide_eq_false len3]
        walk_at "rs"
        all_goals exact qn nn _ sm2
      · have es : Txt.split y (Str.ofString "@") = [(⟨l1.toArray⟩ : Str), ⟨r1.toArray⟩] := by
          refine map_tl_inj ?_
          rw [hs, hp, spl_last1 h2]
          rfl
        rw [decide_eq_true (by rw [lens, hp, spl_last1 h2]; rfl)]
        walk_at "rs"
        have hp0 : (upd H1 p (.lst ((Txt.split y (Str.ofString "@")).map V.str))) p = some (.lst [.str ⟨l1.toArray⟩, .str ⟨r1.toArray⟩]) := by rw [upd_same, es]; rfl
        generalize hH : upd H1 p (.lst ((Txt.split y (Str.ofString "@")).map V.str)) = H2 at hp0 sm2 ⊢
        refine rd_ixL (SqL.of hp0) (atI_nat (j := 0) rfl) ?_
        walk_at "rs"
        refine ⟨_, rfl, by rw [len_mk]; omega, fun H3 sm3 => ?_⟩
        by_cases hloc : LocalOk l1
        · rw [show tl (⟨l1.toArray⟩ : Str) = l1 from rfl, dc_t hloc]
          walk_at "rs"
          have hp3 := sm3 _ _ hp0
          refine rd_ixL (SqL.of hp3) (atI_nat (j := 1) rfl) ?_
          walk_at "rs"
          refine ⟨_, rfl, by rw [len_mk]; omega, fun H4 sm4 => ?_⟩
          have hp4 := sm4 _ _ hp3
          by_cases hdom : DomOk r1
          · rw [show tl (⟨r1.toArray⟩ : Str) = r1 from rfl, dc_t hdom]
            walk_at "rs"
            refine rd_ixL (SqL.of hp4) (atI_nat (j := 0) rfl) ?_
            walk_at "rs"
            refine rd_ixL (SqL.of hp4) (atI_nat (j := 1) rfl) ?_
            walk_at "rs"
            refine rd_wTT (Nat.le_of_ble_eq_true rfl) fun p5 H5 np5 sm5 t5 => ?_
            exact qy ⟨l1.toArray⟩ ⟨r1.toArray⟩ ⟨ty2.symm.trans e1, hloc, hdom⟩ p5 H5 (((sm2.trans sm3).trans sm4).trans sm5) t5
          · rw [show tl (⟨r1.toArray⟩ : Str) = r1 from rfl, dc_f hdom]
            walk_at "rs"
            all_goals exact qn (fun l d h => hdom (by rw [← (np1 l d h).2]; exact h.2.2)) _ ((sm2.trans sm3).trans sm4)
        · rw [show tl (⟨l1.toArray⟩ : Str) = l1 from rfl, dc_f hloc]
          walk_at "rs"
          all_goals exact qn (fun l d h => hloc (by rw [← (np1 l d h).1]; exact h.2.1)) _ (sm2.trans sm3)
    · have nn : ∀ l d, ¬ Parsed (tl z) l d := fun l d h => hat (by
        rw [ty2, h.1]
        exact List.mem_append_right _ List.mem_cons_self)
      rw [decide_eq_false (by
        rw [lens, spl_last1 hat]
        exact (by decide : ¬ ((1 : Nat) : Int) = 2))]
      walk_at "rs"
      all_goals exact qn nn _ sm2
theorem ok_Lexpected_path (T : Tx K mg) : OkD P w K mg base CX0 4 "_law_expected_path" ["text"] (spPth K) := by
  refine ok_mk T.d_Lexpected_path sc_Lexpected_path (fun vs H Q E h => ?_) (fun f cdv A outer s H vs Q E hr h => ?_)
  · obtain ⟨z, rfl, _⟩ := h
    rfl
  · obtain ⟨z, rfl, hz, az, q0, qy, qn⟩ := h
    refine ⟨_, (pss_cons (ps_if (PW.pt (pw_or (pt_cmpR op_lt (pe_callB y_lenS (by rfl) T.z_len (by decide +kernel) (pa_cons (pv 0) pa_nil)) pe_int (nomark _)) (pw_or (pt_cmpR op_ne (pe_ix ix_str (pv 0) pe_int (fun _ _ => rfl)) pe_str (nomark _)) (pw_or1 (pt_cmpR op_ne (pe_ix ix_str (pv 0) (pe_op op_sub (pe_callB y_lenS (by rfl) T.z_len (by decide +kernel) (pa_cons (pv 0) pa_nil)) pe_int) (fun _ _ => rfl)) pe_str (nomark _)))))) (pss_one (ps_ret pe_non)) pss_nil)
      (pss_cons (ps_set (i := 1) sc_Lexpected_path.nd rfl (.inl rfl) (pe_slice sl_str (pv 0) (po_some pe_int) (po_some (pe_op op_sub (pe_callB y_lenS (by rfl) T.z_len (by decide +kernel) (pa_cons (pv 0) pa_nil)) pe_int))))
      (pss_cons (ps_if (pt_cmpR op_eq (pv 1) pe_str (nomark _)) (pss_one (ps_ret (y_tt (pa_cons pe_str (pa_cons pe_non pa_nil))))) pss_nil)
      (pss_cons (ps_if (pt_cmpR y_isN (pe_callD (ok_Lexpected T) hr (by rfl) pass0 (pa_cons (pv 1) pa_nil)) pe_non (nomark _)) (pss_one (ps_ret pe_non)) pss_nil)
      (pss_one (ps_ret (y_tt (pa_cons pe_str (pa_cons (pe_callD (ok_Lexpected T) hr (by rfl) pass0 (pa_cons (pv 1) pa_nil)) pa_nil))))))))), ?_⟩
    rw [show start N_Lexpected_path [.str z] = [some (.str z), none] from rfl]
    have hl : z.length = (tl z).length := len_tl z
    have bad : (∀ m, ¬ PathOk (tl z) m) → ∀ H', Same H H' → Q .non H' := fun h H' sm => qn ⟨h [], fun m l d hh => h m hh.1⟩ H' sm
    walk_at "rs"
    refine if_dec (fun e => ?_) (fun e1 => ?_)
    · walk_at "rs"
      have nb : ∀ m, ¬ PathOk (tl z) m := fun m h => by
        have q := congrArg List.length (show tl z = 60 :: (m ++ [62]) from h)
        simp only [List.length_cons, List.length_append, List.length_nil] at q
        omega
      all_goals exact bad nb H (Same.refl H)
    · walk_at "rs"
      obtain ⟨a, b, ea, eb, g1, g2⟩ := ends_of (l := tl z) (by omega)
      refine rd_ixS ea (by omega) ?_
      walk_at "rs"
      rw [show decide ((⟨#[a]⟩ : Str) = Str.ofString "<") = decide (a = 60) from decide_eq_decide.mpr (one_eq tl_lt)]
      by_cases e3 : a = 60
      · rw [decide_eq_true e3]
        walk_at "rs"
        refine rd_ixS (by rw [hl]; exact eb) (by omega) ?_
        walk_at "rs"
        rw [show decide ((⟨#[b]⟩ : Str) = Str.ofString ">") = decide (b = 62) from decide_eq_decide.mpr (one_eq tl_gt)]
        by_cases e4 : b = 62
        · rw [decide_eq_true e4]
          walk_at "rs"
          obtain ⟨m, hm⟩ := path_of (t := tl z) (by rw [g1, e3]) (by rw [g2, e4])
          have hm1 : (tl z).length = m.length + 2 := by
            rw [show tl z = 60 :: (m ++ [62]) from hm]
            simp
          have ei : tl (cutS z (some 1) (some ((z.length : Int) - 1))) = m := by
            rw [show ((z.length : Int) - 1) = ((m.length + 1 : Nat) : Int) by omega]
            unfold cutS
            rw [tl_mk, show (some (1 : Int)) = some ((1 : Nat) : Int) from rfl, HT.sIx_nat, HT.sIx_nat, Nat.min_eq_left (by omega), Nat.min_eq_left (by omega), show z.cps.toList = 60 :: (m ++ [62]) from hm]
            show List.take (m.length + 1 - 1) (m ++ [62]) = m
            exact List.take_left
          generalize hI : cutS z (some 1) (some ((z.length : Int) - 1)) = inner at ei ⊢
          have li : inner.length ≤ 2000 := by
            rw [len_tl, ei]
            omega
          have ai : Asc inner := by
            rw [← hI]
            exact asc_cut az
          by_cases e5 : inner = Str.ofString ""
          · rw [decide_eq_true e5]
            walk_at "rs"
            refine rd_wTT (Nat.le_of_ble_eq_true rfl) fun p2 H2 np2 sm2 t2 => ?_
            refine q0 ?_ p2 H2 sm2 t2
            rw [e5, tl_lit0] at ei
            rw [ei]
            exact hm
          · rw [decide_eq_false e5]
            walk_at "rs"
            have m0 : m ≠ [] := fun e => e5 (ext_tl (by rw [ei, e, tl_lit0]))
            have n0 : ¬ PathOk (tl z) [] := fun h => m0 (path_uni hm h)
            refine ⟨inner, rfl, li, ai, fun l d hp p1 H1 sm1 t1 => ?_, fun nn H1 sm1 => ?_⟩
            · walk_at "rs"
              refine if_dec (fun e => nomatch e) (fun _ => ?_)
              walk_at "rs"
              refine ⟨inner, rfl, li, ai, fun l' d' hp' p2 H2 sm2 t2 => ?_, fun nn H2 sm2 => absurd hp (nn l d)⟩
              walk_at "rs"
              refine rd_wTT (Nat.le_of_ble_eq_true rfl) fun p3 H3 np3 sm3 t3 => ?_
              rw [ei] at hp'
              exact qy m l' d' hm hp' p3 p2 H3 ((sm1.trans sm2).trans sm3) (t2.same sm3) t3
            · walk_at "rs"
              rw [decide_eq_true rfl]
              walk_at "rs"
              all_goals exact qn ⟨n0, fun m' l d hh => by
                rw [path_uni hh.1 hm, ← ei] at hh
                exact nn l d hh.2⟩ H1 sm1
        · rw [decide_eq_false e4]
          walk_at "rs"
          all_goals exact bad (fun m h => e4 (by
            have q := (path_ends h).2
            rw [g2] at q
            exact Option.some.inj q)) H (Same.refl H)
      · rw [decide_eq_false e3]
        walk_at "rs"
        all_goals exact bad (fun m h => e3 (by
          have q := (path_ends h).1
          rw [g1] at q
          exact Option.some.inj q)) H (Same.refl H)
def spLong (K : PySem.W.Frag) : Sp := fun vs H Q _ => ∃ (st sc : Addr) (ns : List Int), vs = [.ref st, .ref sc] ∧ Wd K st sc ns H ∧
  ∀ (x : Str) H', x.length ≤ 300 → Asc x → Dr st H H' → Wd K st sc ns H' → Q (.str x) H'
theorem ok_Llong (T : Tx K mg) : OkD P w K mg base CX0 3 "_law_long" ["state", "script"] (spLong K) := by
  refine ok_mk T.d_Llong sc_Llong (fun vs H Q E h => ?_) (fun f cdv A outer s H vs Q E hr h => ?_)
  · obtain ⟨st, sc, ns, rfl, _⟩ := h
    rfl
  · obtain ⟨st, sc, ns, rfl, W, q⟩ := h
    refine ⟨_, (pss_cons (ps_set (i := 2) sc_Llong.nd rfl (.inl rfl) (pe_op y_repS (pe_ix ix_list (pe_lst (pa_cons pe_str (pa_cons pe_str (pa_cons pe_str pa_nil)))) (pe_callD (ok_Ldraw T) hr (by rfl) pass0 (pa_cons (pv 0) (pa_cons (pv 1) (pa_cons pe_int pa_nil)))) (fun _ _ => rfl)) (pe_op op_add pe_int (pe_callD (ok_Ldraw T) hr (by rfl) pass0 (pa_cons (pv 0) (pa_cons (pv 1) (pa_cons pe_int pa_nil)))))))
      (pss_cons (ps_set (i := 3) sc_Llong.nd rfl (.inl rfl) (pe_callD (ok_Ldraw T) hr (by rfl) pass0 (pa_cons (pv 0) (pa_cons (pv 1) (pa_cons pe_int pa_nil)))))
      (pss_cons (ps_if (pt_cmpR op_eq (pv 3) pe_int (nomark _)) (pss_one (ps_ret (pe_op y_adS (pe_op y_repS pe_str (pe_op op_add pe_int (pe_callD (ok_Ldraw T) hr (by rfl) pass0 (pa_cons (pv 0) (pa_cons (pv 1) (pa_cons pe_int pa_nil)))))) pe_str))) pss_nil)
      (pss_cons (ps_if (pt_cmpR op_eq (pv 3) pe_int (nomark _)) (pss_one (ps_ret (pe_op y_adS (pe_op y_adS pe_str (pv 2)) pe_str))) pss_nil)
      (pss_one (ps_ret (pe_op y_adS pe_str (pe_m1 PySem.F.slot_str_join PySem.F.type_str_join y_join pe_str (pe_op op_cat (pe_op op_rep (pe_lst (pa_cons pe_str pa_nil)) (pe_op op_add pe_int (pe_callD (ok_Ldraw T) hr (by rfl) pass0 (pa_cons (pv 0) (pa_cons (pv 1) (pa_cons pe_int pa_nil)))))) (pe_lst (pa_cons (pe_op y_repS pe_str (pe_op op_add pe_int (pe_callD (ok_Ldraw T) hr (by rfl) pass0 (pa_cons (pv 0) (pa_cons (pv 1) (pa_cons pe_int pa_nil)))))) pa_nil))))))))))), ?_⟩
    rw [show start N_Llong [.ref st, .ref sc] = [some (.ref st), some (.ref sc), none, none] from rfl]
    walk_at "rs"
    refine rd_wLs (Nat.le_of_ble_eq_true rfl) fun p np => ?_
    walk_at "rs"
    refine draw_i (W.new np) (by decide) (by decide) fun d1 H1 a0 a1 D1 W1 => ?_
    have D1' := (Dr.same W.1 (same_new np)).trans D1
    have ep := D1.at (W.1.ne np) upd_same
    walk_at "rs"
    obtain ⟨y, hy, ey⟩ := atI_in (xs := [V.str (Str.ofString "a"), V.str (Str.ofString "b-"), V.str (Str.ofString "7")]) (i := d1) a0 a1
    have hy' : ∃ z : Str, y = .str z ∧ z.length ≤ 2 ∧ Asc z := by
      simp only [List.mem_cons, List.not_mem_nil, or_false] at hy
      rcases hy with rfl | rfl | rfl <;> exact ⟨_, rfl, by rw [len_of]; decide, asc_of (by decide +kernel)⟩
    obtain ⟨z, rfl, hz, az⟩ := hy'
    refine rd_ixL (SqL.of ep) ey ?_
    walk_at "rs"
    refine draw_i W1 (by decide) (by decide) fun d2 H2 b0 b1 D2 W2 => ?_
    walk_at "rs"
    refine rd_mulS (by omega) (by omega) (by omega) fun lab l1 _ lc => ?_
    have ll : lab.length ≤ 42 := Nat.le_trans l1 (Nat.le_trans (Nat.mul_le_mul hz (show (9 + d2).toNat ≤ 21 by omega)) (by decide))
    have al : Asc lab := fun c hc => az c (lc c hc)
    walk_at "rs"
    refine draw_i W2 (by decide) (by decide) fun d3 H3 c0 c1 D3 W3 => ?_
    have D3' := (D1'.trans D2).trans D3
    walk_at "rs"
    refine if_dec (fun _ => ?_) (fun _ => ?_)
    · walk_at "rs"
      refine draw_i W3 (by decide) (by decide) fun d4 H4 f0 f1 D4 W4 => ?_
      walk_at "rs"
      refine rd_mulS (by omega) (by omega) (by rw [len_of]; decide) fun r1 l2 _ lc2 => ?_
      have ll2 : r1.length ≤ 41 := by
        rw [show (Str.ofString "a").length = 1 by rw [len_of]; rfl] at l2
        omega
      walk_at "rs"
      · refine q _ _ ?_ (asc_app (fun c hc => asc_of (x := Str.ofString "a") (by decide +kernel) c (lc2 c hc)) (asc_of (by decide +kernel))) (D3'.trans D4) W4
        rw [len_app, show (Str.ofString "@x").length = 2 by rw [len_of]; rfl]
        omega
      all_goals (rw [show (Str.ofString "@x").length = 2 by rw [len_of]; rfl]; exact line_of (by omega))
    · walk_at "rs"
      refine if_dec (fun _ => ?_) (fun _ => ?_)
      · walk_at "rs"
        · refine q _ _ ?_ (asc_app (asc_app (asc_of (by decide +kernel)) al) (asc_of (by decide +kernel))) D3' W3
          rw [len_app, len_app, show (Str.ofString "a@").length = 2 by rw [len_of]; rfl, show (Str.ofString ".y").length = 2 by rw [len_of]; rfl]
          omega
        all_goals (try rw [len_app])
        all_goals (try rw [show (Str.ofString "a@").length = 2 by rw [len_of]; rfl])
        all_goals (try rw [show (Str.ofString ".y").length = 2 by rw [len_of]; rfl])
        all_goals exact line_of (by omega)
      · walk_at "rs"
        refine rd_wLs (Nat.le_of_ble_eq_true rfl) fun p4 np4 => ?_
        walk_at "rs"
        refine draw_i (W3.new np4) (by decide) (by decide) fun d5 H5 f0 f1 D5 W5 => ?_
        walk_at "rs"
        have e4 := D5.at (W3.1.ne np4) upd_same
        refine rd_rep e4 (by omega) (by omega) (Nat.le_of_ble_eq_true rfl) fun p6 np6 => ?_
        have W6 := W5.new (o := .lst (List.replicate (7 + d5).toNat [V.str (Str.ofString "abcdefghi")]).flatten) np6
        walk_at "rs"
        refine draw_i W6 (by decide) (by decide) fun d7 H7 g0 g1 D7 W7 => ?_
        have e6 := D7.at (W5.1.ne np6) upd_same
        walk_at "rs"
        refine rd_mulS (by omega) (by omega) (by rw [len_of]; decide) fun r1 l2 _ lc2 => ?_
        have ll2 : r1.length ≤ 12 := by
          rw [show (Str.ofString "c").length = 1 by rw [len_of]; rfl] at l2
          omega
        walk_at "rs"
        refine rd_wLs (Nat.le_of_ble_eq_true rfl) fun p8 np8 => ?_
        have W8 := W7.new (o := .lst [V.str r1]) np8
        have e6' : (upd H7 p8 (.lst [V.str r1])) p6 = some (.lst (List.replicate (7 + d5).toNat [V.str (Str.ofString "abcdefghi")]).flatten) := by
          rw [upd_ne (ne_of_none e6 np8)]
          exact e6
        walk_at "rs"
        refine rd_catL e6' upd_same ?_ fun p9 np9 => ?_
        · rw [rep_one, List.length_replicate]
          show _ + 1 ≤ _
          omega
        · have ex : (List.replicate (7 + d5).toNat [V.str (Str.ofString "abcdefghi")]).flatten ++ [V.str r1] = (List.replicate (7 + d5).toNat (Str.ofString "abcdefghi") ++ [r1]).map V.str := by
            rw [rep_one, List.map_append, List.map_replicate]
            rfl
          have hx : ∀ x ∈ List.replicate (7 + d5).toNat (Str.ofString "abcdefghi") ++ [r1], x.length ≤ 12 ∧ Asc x := fun x hx => by
            rcases List.mem_append.mp hx with m | m
            · rw [(List.mem_replicate.mp m).2]
              exact ⟨by rw [len_of]; decide, asc_of (by decide +kernel)⟩
            · rw [List.mem_singleton.mp m]
              exact ⟨ll2, fun c hc => asc_of (x := Str.ofString "c") (by decide +kernel) c (lc2 c hc)⟩
          have hs := lens_le fun x h => (hx x h).1
          have hn : (List.replicate (7 + d5).toNat (Str.ofString "abcdefghi") ++ [r1]).length ≤ 9 := by
            rw [List.length_append, List.length_replicate]
            show _ + 1 ≤ _
            omega
          have ek := len_joined (Str.ofString ".") (List.replicate (7 + d5).toNat (Str.ofString "abcdefghi") ++ [r1])
          rw [len_dot] at ek
          walk_at "rs"
          refine rd_joinL (xs := List.replicate (7 + d5).toNat (Str.ofString "abcdefghi") ++ [r1]) (by rw [← ex]; exact SqL.of upd_same) (by rw [len_dot]; omega) ?_
          walk_at "rs"
          · refine q _ _ ?_ (asc_app (asc_of (by decide +kernel)) (asc_join asc_dot fun x h => (hx x h).2)) (Dr.new (Dr.new ((D3'.trans (Dr.same W3.1 (same_new np4))).trans (D5.trans ((Dr.same W5.1 (same_new np6)).trans D7))) np8) np9) (W8.new np9)
            rw [len_app, show (Str.ofString "a@").length = 2 by rw [len_of]; rfl]
            omega
          all_goals (rw [show (Str.ofString "a@").length = 2 by rw [len_of]; rfl]; exact line_of (by omega))
end

section
variable {P : Program} {w : World} {K : PySem.W.Frag} {mg : Str → Option Value} {base : Heap} {C M : Addr}
theorem LocP.asc {x : Str} (h : LocP x) : Asc x := fun c hc => asc_loc c (h.ok.1.2.2 c hc)
theorem DomP.asc {x : Str} (h : DomP x) : Asc x := fun c hc => by
  rcases h.in c hc with rfl | q
  · decide
  · exact asc_lab c q
theorem len_sg : (Str.ofString "..--@@<> ABCZabcz019_+!~,;:\"()").length = 30 := by rw [len_of]; rfl
theorem asc_sg : Asc (Str.ofString "..--@@<> ABCZabcz019_+!~,;:\"()") := asc_of (by decide +kernel)
theorem asc_path : Asc pthS := asc_of (by decide +kernel)
theorem eqv_path (d : PyData) (h : PyData.eqv d d = true) : PyData.eqv (.tuple [.str pthS, d]) (.tuple [.str pthS, d]) = true := by simp [PyData.eqv, PyData.eqvAll, h]
theorem sh_path0 : SeqAt.shaped (.tuple [.str pthS, .none]) = true := by decide +kernel
theorem sh_path2 {l d : Str} (al : Asc l) (ad : Asc d) : SeqAt.shaped (.tuple [.str pthS, .tuple [.str l, .str d]]) = true := by
  have h := shaped2 al ad
  simp only [SeqAt.shaped, PyData.canLay0, PyData.canLayAll0, PyData.depth, PyData.depthAll, ok_asc al, ok_asc ad, ok_asc asc_path, Bool.and_self]
  rfl
theorem Parsed.asc {t : List Nat} {l d : Str} (h : Parsed t l d) : Asc l ∧ Asc d := by
  refine ⟨fun c hc => asc_loc c (h.2.1.1.2.2 c hc), fun c hc => ?_⟩
  by_cases e : c = 46
  · rw [e]
    decide
  · obtain ⟨p, hp, hcp⟩ := spl_has e (tl d) [] (.inr hc)
    exact asc_lab c ((h.2.2.2 p hp).1.2.2 c hcp)
theorem if_tail {bb : Bool} {ta : TE} {g : TG} {nx bk ct : L2.St → Hp → Prop} {rt : VK} {σ : L2.St} {H : Hp} (Pre : L2.St → Hp → Prop) (tail : ∀ σ H, Pre σ H → nx σ H)
    (h : ∀ nx' : L2.St → Hp → Prop, (∀ σ H, Pre σ H → nx' σ H) → if bb = true then tAsg ta g ⟨nx', rt, bk, ct⟩ σ H else tNext ⟨nx', rt, bk, ct⟩ σ H) : if bb = true then tAsg ta g ⟨nx, rt, bk, ct⟩ σ H else tNext ⟨nx, rt, bk, ct⟩ σ H := h nx tail
theorem seq_tail2 {t u v : TS} {nx bk ct : L2.St → Hp → Prop} {rt : VK} {σ : L2.St} {H : Hp} (Pre : L2.St → Hp → Prop) (tail : ∀ σ H, Pre σ H → v ⟨nx, rt, bk, ct⟩ σ H)
    (h : ∀ nx' : L2.St → Hp → Prop, (∀ σ H, Pre σ H → nx' σ H) → tSeq t u ⟨nx', rt, bk, ct⟩ σ H) : tSeq t (tSeq u v) ⟨nx, rt, bk, ct⟩ σ H := h (v ⟨nx, rt, bk, ct⟩) tail
theorem spl_ne (s : Nat) : ∀ (l acc : List Nat), spl [s] 0 acc l ≠ []
  | [], acc => by rw [spl_nil]; exact List.cons_ne_nil _ _
  | a :: t, acc => by
    by_cases h : pre [s] (a :: t) = true
    · rw [spl_hit h]
      exact List.cons_ne_nil _ _
    · rw [Bool.not_eq_true] at h
      rw [spl_miss h]
      exact spl_ne s t _
def spLaw (K : PySem.W.Frag) : Sp := fun vs H Q _ => ∃ (sc : Addr) (ns : List Int), vs = [.ref sc] ∧ SqL K H sc (ns.map V.int) ∧ ∀ H', Q (.bl true) H'
theorem ok_law (T : Tx K mg) (X9 : ExT K mg C M) {f : Addr} {fd : FuncData} (F : Fun K "law" "law" s_law f fd) : FnOk P w K mg base CX0 7 f fd ["script"] (spLaw K) := by
  refine ok_F F sc_law (fun vs H Q E h => ?_) (fun cdv A outer s H vs Q E hr h => ?_)
  · obtain ⟨sc, ns, rfl, _⟩ := h
    rfl
  · obtain ⟨sc, ns, rfl, hS, q⟩ := h
    refine ⟨_, (pss_cons (ps_set (i := 1) sc_law.nd rfl (.inl rfl) (pe_lst (pa_cons pe_int (pa_cons pe_int pa_nil))))
      (pss_cons (ps_set (i := 2) sc_law.nd rfl (.inl rfl) (pe_op y_adS (pe_op y_adS (pe_callD (ok_Llocal T) (hr.mono (by decide)) (by rfl) pass0 (pa_cons (pv 1) (pa_cons (pv 0) pa_nil))) pe_str) (pe_callD (ok_Ldomain T) (hr.mono (by decide)) (by rfl) pass0 (pa_cons (pv 1) (pa_cons (pv 0) pa_nil)))))
      (pss_cons (ps_if (pt_cmpR op_eq (pe_callD (ok_Ldraw T) (hr.mono (by decide)) (by rfl) pass0 (pa_cons (pv 1) (pa_cons (pv 0) (pa_cons pe_int pa_nil)))) pe_int (nomark _)) (pss_one (ps_set (i := 2) sc_law.nd rfl (.inl rfl) (pe_callD (ok_Llong T) (hr.mono (by decide)) (by rfl) pass0 (pa_cons (pv 1) (pa_cons (pv 0) pa_nil))))) pss_nil)
      (pss_cons (ps_set (i := 3) sc_law.nd rfl (.inl rfl) pe_str)
      (pss_cons (ps_for PassesOwn.never rfl (pi_range1 (by rfl) T.z_range (pa_cons (pe_callD (ok_Ldraw T) (hr.mono (by decide)) (by rfl) pass0 (pa_cons (pv 1) (pa_cons (pv 0) (pa_cons pe_int pa_nil)))) pa_nil)) (pg_name (i := 4) sc_law.nd rfl (Or.inl rfl)) (pss_cons (ps_set (i := 5) sc_law.nd rfl (.inl rfl) (pe_callD (ok_Ldraw T) (hr.mono (by decide)) (by rfl) pass0 (pa_cons (pv 1) (pa_cons (pv 0) (pa_cons (pe_op op_add (pe_callB y_lenS (by rfl) T.z_len (by decide +kernel) (pa_cons (pv 2) pa_nil)) pe_int) pa_nil)))))
      (pss_cons (ps_set (i := 6) sc_law.nd rfl (.inl rfl) (pe_callD (ok_Lpick T) (hr.mono (by decide)) (by rfl) pass0 (pa_cons (pv 1) (pa_cons (pv 0) (pa_cons (pv 3) pa_nil)))))
      (pss_cons (ps_set (i := 7) sc_law.nd rfl (.inl rfl) (pe_callD (ok_Ldraw T) (hr.mono (by decide)) (by rfl) pass0 (pa_cons (pv 1) (pa_cons (pv 0) (pa_cons pe_int pa_nil)))))
      (pss_one (ps_set (i := 2) sc_law.nd rfl (.inl rfl) (pe_op y_adS (pe_op y_adS (pe_slice sl_str (pv 2) po_none (po_some (pv 5))) (pe_ix ix_list (pe_lst (pa_cons (pv 6) (pa_cons pe_str (pa_cons (pe_op y_adS (pv 6) (pv 6)) pa_nil)))) (pe_callD (ok_Ldraw T) (hr.mono (by decide)) (by rfl) pass0 (pa_cons (pv 1) (pa_cons (pv 0) (pa_cons pe_int pa_nil)))) (fun _ _ => rfl))) (pe_slice sl_str (pv 2) (po_some (pe_op op_add (pv 5) (pv 7))) po_none))))))))
      (pss_cons (ps_set (i := 8) sc_law.nd rfl (.inl rfl) (pe_callD (ok_Lexpected T) (hr.mono (by decide)) (by rfl) pass0 (pa_cons (pv 2) pa_nil)))
      (pss_cons (ps_if (pt_cmpR (op_neD hr.units) (pe_callD (ok_Lparsed T X9) (hr.mono (by decide)) (by rfl) pass0 (pa_cons (pv 2) pa_nil)) (pv 8) (nomark _)) (pss_one (ps_ret pe_bl)) pss_nil)
      (pss_cons (ps_for PassesOwn.never rfl (pi_list (pe_lst (pa_cons (pe_op y_adS (pe_op y_adS pe_str (pv 2)) pe_str) (pa_cons (pv 2) (pa_cons (pe_op y_adS pe_str (pv 2)) (pa_cons (pe_op y_adS (pv 2) pe_str) pa_nil)))))) (pg_name (i := 9) sc_law.nd rfl (Or.inl rfl)) (pss_one (ps_if (pt_cmpR (op_neD hr.units) (pe_callD (ok_Lpath T X9) hr (by rfl) pass0 (pa_cons (pv 9) pa_nil)) (pe_callD (ok_Lexpected_path T) (hr.mono (by decide)) (by rfl) pass0 (pa_cons (pv 9) pa_nil)) (nomark _)) (pss_one (ps_ret pe_bl)) pss_nil)))
      (pss_cons (ps_set (i := 10) sc_law.nd rfl (.inl rfl) (pe_ix ix_list (pe_m1 PySem.F.slot_str_split PySem.F.type_str_split y_split (pv 2) pe_str) pe_int (fun _ _ => rfl)))
      (pss_cons (ps_set (i := 11) sc_law.nd rfl (.inl rfl) (pe_callD (ok_is_domain T) (hr.mono (by decide)) (by rfl) pass0 (pa_cons (pv 10) pa_nil)))
      (pss_one (ps_ret (pe_and (pe_callB call_isi (by rfl) T.z_isinstance (by decide +kernel) (pa_cons (pv 11) (pa_cons (pe_bltn (v := .ty "bool") (by rfl) T.z_bool (by decide +kernel) rfl) pa_nil))) (pe_one (pe_cmpR op_eq (pv 11) (pe_callD (ok_Lis_domain T) (hr.mono (by decide)) (by rfl) pass0 (pa_cons (pv 10) pa_nil)) (nomark _)))))))))))))))), ?_⟩
    rw [show start N_law [.ref sc] = [some (.ref sc), none, none, none, none, none, none, none, none, none, none, none] from rfl]
    walk_at "rs"
    refine rd_wLs (Nat.le_of_ble_eq_true rfl) fun st nst => ?_
    have W : Wd K st sc ns (upd H st (.lst [.int 0, .int 0])) := ⟨⟨0, 0, upd_same⟩, fun H' k => Same.seq (fun a o e => k a o (ne_of_none e nst) (by rw [upd_ne (ne_of_none e nst)]; exact e)) hS⟩
    walk_at "rs"
    refine ⟨st, sc, ns, rfl, W, fun l H1 hl D1 W1 => ?_⟩
    walk_at "rs"
    have ll := hl.1
    · refine ⟨st, sc, ns, rfl, W1, fun d H2 hd D2 W2 => ?_⟩
      have ld := hd.1
      walk_at "rs"
      · refine draw_i W2 (by decide) (by decide) fun d3 H3 b0 b1 D3 W3 => ?_
        walk_at "rs"
        refine if_tail (fun σ H' => Wd K st sc ns H' ∧ ∃ x : Str, σ = [some (.ref sc), some (.ref st), some (.str x), none, none, none, none, none, none, none, none, none] ∧ x.length ≤ 300 ∧ Asc x) (fun σ H' pr => ?_) (fun nx' hnx => if_dec (fun _ => ?_) (fun _ => ?_))
        · obtain ⟨W4, x, rfl, lx, ax⟩ := pr
          walk_at "rs"
          refine draw_i W4 (by decide) (by decide) fun d5 H5 c0 c1 D5 W5 => ?_
          walk_at "rs"
          refine rd_wRg (by omega) (by omega) ?_
          refine forR (fun i σ H' => Wd K st sc ns H' ∧ ∃ (x : Str) (k a sg cu : Option V), σ = [some (.ref sc), some (.ref st), some (.str x), some (.str (Str.ofString "..--@@<> ABCZabcz019_+!~,;:\"()")), k, a, sg, cu, none, none, none, none] ∧ x.length ≤ 300 + 2 * i ∧ Asc x) ⟨W5, x, none, none, none, none, rfl, by omega, ax⟩ (fun i σ H6 hi pv => ?_) (fun σ H6 pv => ?_)
          · obtain ⟨W6, x, k, a, sg, cu, rfl, lx, ax⟩ := pv
            have hi3 : i < 3 := by omega
            walk_at "rs"
            refine draw_i W6 (by omega) (by omega) fun d7 H7 e0 e1 D7 W7 => ?_
            walk_at "rs"
            refine ⟨st, sc, ns, _, rfl, W7, by rw [len_sg]; decide, by rw [len_sg]; decide, fun c H8 hc D8 W8 => ?_⟩
            have ac := asc_sg c hc
            walk_at "rs"
            refine draw_i W8 (by decide) (by decide) fun d9 H9 f0 f1 D9 W9 => ?_
            walk_at "rs"
            · refine rd_wLs (Nat.le_of_ble_eq_true rfl) fun p np => ?_
              walk_at "rs"
              refine draw_i (W9.new np) (by decide) (by decide) fun d10 H10 g0 g1 D10 W10 => ?_
              have ep := D10.at (W9.1.ne np) upd_same
              walk_at "rs"
              obtain ⟨y, hy, ey⟩ := atI_in (xs := [V.str (⟨#[c]⟩ : Str), V.str (Str.ofString ""), V.str ((⟨#[c]⟩ : Str) ++ ⟨#[c]⟩)]) (i := d10) g0 g1
              have hy' : ∃ z : Str, y = .str z ∧ z.length ≤ 2 ∧ Asc z := by
                simp only [List.mem_cons, List.not_mem_nil, or_false] at hy
                rcases hy with rfl | rfl | rfl
                · exact ⟨_, rfl, (by decide : 1 ≤ 2), asc_one ac⟩
                · exact ⟨_, rfl, by rw [len_lit0]; decide, asc_lit0⟩
                · exact ⟨_, rfl, by rw [len_app]; exact (by decide : 1 + 1 ≤ 2), asc_app (asc_one ac) (asc_one ac)⟩
              obtain ⟨z, rfl, hz, az⟩ := hy'
              refine rd_ixL (SqL.of ep) ey ?_
              have k1 := len_cut x none (some d7)
              have k2 := len_cut x (some (d7 + d9)) none
              walk_at "rs"
              · refine ⟨W10, _, _, _, _, _, rfl, ?_, asc_app (asc_app (asc_cut ax) az) (asc_cut ax)⟩
                rw [len_app, len_app]
                have k3 : (cutS x none (some d7)).length + (cutS x (some (d7 + d9)) none).length ≤ x.length := by
                  obtain ⟨a7, rfl⟩ := Int.eq_ofNat_of_zero_le e0
                  have q1 := tl_cutTo x a7
                  have q2 : (cutS x (some ((a7 : Int) + d9)) none).length ≤ x.length - a7 := by
                    obtain ⟨a9, rfl⟩ := Int.eq_ofNat_of_zero_le f0
                    rw [show ((a7 : Int) + (a9 : Int)) = ((a7 + a9 : Nat) : Int) by omega, len_tl, tl_cutFrom, List.length_drop, ← len_tl]
                    omega
                  have q3 : (cutS x none (some (a7 : Int))).length ≤ a7 := by
                    rw [len_tl, q1, List.length_take]
                    omega
                  omega
                omega
              all_goals (refine line_of ?_; simp only [len_app]; omega)
            all_goals (refine line_of ?_; simp only [len_1]; omega)
          · obtain ⟨W6, x, k, a, sg, cu, rfl, lx, ax⟩ := pv
            have lx2 : x.length ≤ 310 := by omega
            refine seq_tail2 (fun σ H' => Same H6 H' ∧ ∃ v8, σ = [some (.ref sc), some (.ref st), some (.str x), some (.str (Str.ofString "..--@@<> ABCZabcz019_+!~,;:\"()")), k, a, sg, cu, some v8, none, none, none]) (fun σ H' pr => ?_) (fun nx' hnx => ?_)
            · obtain ⟨sm, v8, rfl⟩ := pr
              walk_at "rs"
              · refine rd_wLs (Nat.le_of_ble_eq_true rfl) fun p np => ?_
                walk_at "rs"
                refine rd_wSq (SqL.of upd_same) ?_
                refine frJ (walk_l (xs := [Str.ofString "<" ++ x ++ Str.ofString ">", x, Str.ofString "<" ++ x, x ++ Str.ofString ">"].map V.str)) (fun i σ H7 => Same (upd H' p (.lst ([Str.ofString "<" ++ x ++ Str.ofString ">", x, Str.ofString "<" ++ x, x ++ Str.ofString ">"].map V.str))) H7 ∧ ∃ y, σ = [some (.ref sc), some (.ref st), some (.str x), some (.str (Str.ofString "..--@@<> ABCZabcz019_+!~,;:\"()")), k, a, sg, cu, some v8, y, none, none])
                  ⟨Same.refl _, none, rfl⟩ (fun i σ H7 _ pv => Same.seq pv.1 (SqL.of upd_same)) (fun i v σ H7 hv pv => ?_) (fun σ H7 pv => ?_)
                · obtain ⟨sm7, y, rfl⟩ := pv
                  obtain ⟨z, hzm, rfl⟩ := List.mem_map.mp (List.mem_of_getElem? hv)
                  have hz : z.length ≤ 2000 ∧ Asc z := by
                    simp only [List.mem_cons, List.not_mem_nil, or_false] at hzm
                    have al : Asc (Str.ofString "<") := asc_of (by decide +kernel)
                    have ag : Asc (Str.ofString ">") := asc_of (by decide +kernel)
                    rcases hzm with rfl | rfl | rfl | rfl
                    · exact ⟨by rw [len_app, len_app, len_lt, len_gt]; omega, asc_app (asc_app al ax) ag⟩
                    · exact ⟨by omega, ax⟩
                    · exact ⟨by rw [len_app, len_lt]; omega, asc_app al ax⟩
                    · exact ⟨by rw [len_app, len_gt]; omega, asc_app ax ag⟩
                  obtain ⟨hz1, hz2⟩ := hz
                  walk_at "rs"
                  refine ⟨z, rfl, hz1, hz2, fun h0 p1 H8 sm8 t8 => ?_, fun m l d hm hp p1 p2 H8 sm8 t2 t1 => ?_, fun nn H8 sm8 => ?_⟩
                  · walk_at "rs"
                    refine ⟨z, rfl, hz1, hz2, fun _ p3 H9 sm9 t9 => ?_, fun m l d hm hp _ _ _ _ _ _ => ?_, fun nn _ _ => absurd h0 nn.1⟩
                    · refine rd_neSame (.tup (t8.same sm9).seq (.cons (.str pthS) (.cons .non .nil))) (.tup t9.seq (.cons (.str pthS) (.cons .non .nil))) sh_path0 (eqv_path _ rfl) ?_
                      walk_at "rs"
                      exact ⟨(sm7.trans sm8).trans sm9, _, rfl⟩
                    · rw [path_uni hm h0] at hp
                      exact absurd hp nil_unparsed
                  · walk_at "rs"
                    refine ⟨z, rfl, hz1, hz2, fun h0 _ _ _ _ => ?_, fun m' l' d' hm' hp' p3 p4 H9 sm9 t4 t3 => ?_, fun nn _ _ => absurd ⟨hm, hp⟩ (nn.2 m l d)⟩
                    · rw [path_uni hm h0] at hp
                      exact absurd hp nil_unparsed
                    · rw [path_uni hm' hm] at hp'
                      obtain ⟨rfl, rfl⟩ := hp'.uni hp
                      obtain ⟨al, ad⟩ := hp.asc
                      refine rd_neSame (.tup (t1.same sm9).seq (.cons (.str pthS) (.cons (.tup (t2.same sm9).seq (.cons (.str _) (.cons (.str _) .nil))) .nil))) (.tup t3.seq (.cons (.str pthS) (.cons (.tup t4.seq (.cons (.str _) (.cons (.str _) .nil))) .nil))) (sh_path2 al ad) (eqv_path _ (by rw [PyData.eqv]; exact eqv2 _ _)) ?_
                      walk_at "rs"
                      exact ⟨(sm7.trans sm8).trans sm9, _, rfl⟩
                  · walk_at "rs"
                    refine ⟨z, rfl, hz1, hz2, fun h0 _ _ _ _ => absurd h0 nn.1, fun m l d hm hp _ _ _ _ _ _ => absurd ⟨hm, hp⟩ (nn.2 m l d), fun _ H9 sm9 => ?_⟩
                    refine rd_neSame .non .non rfl rfl ?_
                    walk_at "rs"
                    exact ⟨(sm7.trans sm8).trans sm9, _, rfl⟩
                · obtain ⟨sm7, y, rfl⟩ := pv
                  walk_at "rs"
                  refine rd_split (fun p8 np8 => ?_) (by rw [len_at]; rfl) (by omega)
                  have hs := split_at x
                  obtain ⟨f0, fr, ef⟩ : ∃ f0 fr, Txt.split x (Str.ofString "@") = f0 :: fr := by
                    cases e : Txt.split x (Str.ofString "@") with
                    | nil =>
                      rw [e] at hs
                      exact absurd hs.symm (spl_ne 64 _ _)
                    | cons f0 fr => exact ⟨f0, fr, rfl⟩
                  have hf0 : f0.length ≤ 2000 := by
                    have h1 := spl_mem 64 (tl x) [] (tl f0) (by rw [← hs, ef]; exact List.mem_cons_self)
                    rw [List.length_nil, Nat.zero_add, ← len_tl, ← len_tl] at h1
                    omega
                  walk_at "rs"
                  refine rd_ixL (SqL.of upd_same) (atI_nat (j := 0) (v := .str f0) (by rw [ef]; rfl)) ?_
                  walk_at "rs"
                  refine ⟨f0, rfl, hf0, fun H9 sm9 => ?_⟩
                  walk_at "rs"
                  refine rd_isi (.base (.bl _)) (r := true) (by decide +kernel) ?_
                  walk_at "rs"
                  refine ⟨f0, rfl, hf0, fun H10 sm10 => ?_⟩
                  walk_at "rs"
                  rw [decide_eq_true rfl]
                  all_goals exact q _
              all_goals (refine line_of ?_; simp only [len_app, len_lt, len_gt]; omega)
            · walk_at "rs"
              refine ⟨x, rfl, by omega, ax, fun l d hp p H7 sm7 t7 => ?_, fun nn H7 sm7 => ?_⟩
              · walk_at "rs"
                refine ⟨x, rfl, by omega, ax, fun l' d' hp' p2 H8 sm8 t8 => ?_, fun nn _ _ => absurd hp (nn l d)⟩
                walk_at "rs"
                obtain ⟨rfl, rfl⟩ := hp'.uni hp
                obtain ⟨al, ad⟩ := hp.asc
                refine rd_neSame (.tup t8.seq (.cons (.str _) (.cons (.str _) .nil))) (.tup (t7.same sm8).seq (.cons (.str _) (.cons (.str _) .nil))) (shaped2 al ad) (by rw [PyData.eqv]; exact eqv2 _ _) ?_
                walk_at "rs"
                exact hnx _ _ ⟨sm7.trans sm8, _, rfl⟩
              · walk_at "rs"
                refine ⟨x, rfl, by omega, ax, fun l' d' hp' _ _ _ _ => absurd hp' (nn l' d'), fun _ H8 sm8 => ?_⟩
                walk_at "rs"
                refine rd_neSame .non .non rfl rfl ?_
                walk_at "rs"
                exact hnx _ _ ⟨sm7.trans sm8, _, rfl⟩
        · walk_at "rs"
          refine ⟨st, sc, ns, rfl, W3, fun x H4 lx ax D4 W4 => ?_⟩
          walk_at "rs"
          exact hnx _ _ ⟨W4, x, rfl, lx, ax⟩
        · walk_at "rs"
          refine hnx _ _ ⟨W3, _, rfl, ?_, asc_app (asc_app hl.asc (asc_of (by decide +kernel))) hd.asc⟩
          rw [len_app, len_app, len_at]
          omega
      all_goals (refine line_of ?_; simp only [len_app, len_at]; omega)
    all_goals (have l9 := hl.1; refine line_of ?_; simp only [len_app, len_at]; omega)
end
end Dw
set_option autoImplicit true
open PySem PySem.W PyProof.Rows
theorem Dw.ex_mk {K : PySem.W.Frag} {h : Heap} {mg : Str → Option Value} {C M : Addr} (X : K.In h) (G : h.Ns mainGlobals mg)
    (gC : PySem.W.nsIn K mainGlobals "InvalidAddress" = some (some (.ref C))) (gM : PySem.W.nsIn K mainGlobals "MailError" = some (some (.ref M)))
    (xC : PySem.W.excIn K C [.type "ValueError", .type "Exception", .type "BaseException", .type "object"] "ValueError.__new__" = true) (kC : PySem.W.keepIn K (.ref C) = true)
    (bC : PySem.W.subIn K (.ref C) (.type "BaseException") = some true) (tC : PySem.W.typeIn K (.ref C) = some (.type "type")) (sC : PySem.W.subIn K (.ref C) (.ref C) = some true)
    (kM : PySem.W.kitOne K (.ref C) (.ref M) = some true) (kV : PySem.W.kitOne K (.ref C) (.type "ValueError") = some true)
    (e1 : PySem.W.findIn K (.ref C) "__getattribute__" = some (some (.builtin "BaseException.__getattribute__"))) (e2 : PySem.W.findIn K (.ref C) "__getattr__" = some none) (e4 : PySem.W.hasDictIn K C = true)
    (e5 : PySem.W.findIn K (.ref C) "__class__" = some (some (.builtin "object.__class__"))) (e6 : PySem.W.specialIn K (.builtin "object.__class__") "__get__" = some (some (.builtin "getset_descriptor.__get__")))
    (e7 : PySem.W.takesIn K (.builtin "object.__class__") = some true) (e8 : PySem.W.mroIn K C (.type "object") = some true) : Dw.ExT K mg C M :=
  ⟨PySem.W.mg_of X G gC, PySem.W.mg_of X G gM, xC, kC, bC, tC, sC, kM, kV, ⟨e1, e2, bC, e4, e5, e6, e7, e8⟩⟩
theorem Dw.end_mk {l : PySem.W.OpenLaw} {w : World} {K : PySem.W.Frag} {mg : Str → Option Value} {fa : Addr} (hfa : mg "law" = some (.ref fa)) {C M : Addr} (T : Dw.Tx K mg) (X9 : Dw.ExT K mg C M) :
    ∃ fd : FuncData, (∀ (s : Shared) (v : Value), BindsTo s fd ⟨[v], []⟩ [("script", v)]) ∧ ∀ base : Heap, K.In base → base.Ns mainGlobals mg → L2.FnOk l.prog w K mg base L2.CX0 7 fa fd ["script"] (Dw.spLaw K) := by
  obtain ⟨f, fd, m, F, hb⟩ := T.d_law
  rw [hfa] at m
  cases m
  exact ⟨fd, fun s v => hb s [v] rfl, fun base _ _ => Dw.ok_law T X9 F⟩
set_option maxHeartbeats 0 in
theorem PySem.Challenge.cw_dawkline_k02_strings_that_are_no_address_holds : PySem.Challenge.rw_dawkline_k02_strings_that_are_no_address.Holds := by
  w_on; o_law; k_head; (case hw => w_witness2)
  k_fill
  refine L2.walk_of (l := PySem.Challenge.rw_dawkline_k02_strings_that_are_no_address) (n := 63) (k := 7) (x := "script") (CX := fun _ => L2.CX0) (sp := fun w => Dw.spLaw _) rfl (by decide) rfl ⟨rfl, by decide, by decide⟩ (fun w h Y => PySem.W.kIn_of Y) ?F (fun _ _ a ns hl _ hS => ⟨a, ns, rfl, hS, fun _ => rfl⟩) (fun _ _ _ _ _ h => h)
  case F =>
    intro w mg fa h KX G hmg
    refine' Dw.end_mk hmg ?T (Dw.ex_mk KX G ?gC ?gM ?xC ?kC ?bC ?tC ?sC ?kM ?kV ?e1 ?e2 ?e4 ?e5 ?e6 ?e7 ?e8)
    (case gC => k_is); (case gM => k_is); (case xC => k_exc); (case kC => k_is); (case bC => k_is); (case tC => k_is); (case sC => first | k_is | rfl); (case kM => first | k_is | rfl); (case kV => first | k_is | rfl)
    (case e1 => k_is); (case e2 => k_is); (case e4 => k_is); (case e5 => k_is); (case e6 => first | rfl | k_is); (case e7 => first | rfl | k_is); (case e8 => first | k_is | rfl)
    exact ⟨(by
      (refine' Dw.dn_mk KX G ?a ?l ?c ?k (fun _ _ _ _ _ _ us hl => match us, hl with | [_, _], _ => rfl); (case a => k_is); (case l => k_is); (case c => k_is); (case k => k_is))),
(by
      (refine' Dw.dn_mk KX G ?a ?l ?c ?k (fun _ _ _ _ _ _ us hl => match us, hl with | [_, _, _], _ => rfl); (case a => k_is); (case l => k_is); (case c => k_is); (case k => k_is))),
(by
      (refine' Dw.dn_mk KX G ?a ?l ?c ?k (fun _ _ _ _ _ _ us hl => match us, hl with | [_, _, _], _ => rfl); (case a => k_is); (case l => k_is); (case c => k_is); (case k => k_is))),
(by
      (refine' Dw.dn_mk KX G ?a ?l ?c ?k (fun _ _ _ _ _ _ us hl => match us, hl with | [_, _], _ => rfl); (case a => k_is); (case l => k_is); (case c => k_is); (case k => k_is))),
(by
      (refine' Dw.dn_mk KX G ?a ?l ?c ?k (fun _ _ _ _ _ _ us hl => match us, hl with | [_, _], _ => rfl); (case a => k_is); (case l => k_is); (case c => k_is); (case k => k_is))),
(by
      (refine' Dw.dn_mk KX G ?a ?l ?c ?k (fun _ _ _ _ _ _ us hl => match us, hl with | [_], _ => rfl); (case a => k_is); (case l => k_is); (case c => k_is); (case k => k_is))),
(by
      (refine' Dw.dn_mk KX G ?a ?l ?c ?k (fun _ _ _ _ _ _ us hl => match us, hl with | [_], _ => rfl); (case a => k_is); (case l => k_is); (case c => k_is); (case k => k_is))),
(by
      (refine' Dw.dn_mk KX G ?a ?l ?c ?k (fun _ _ _ _ _ _ us hl => match us, hl with | [_], _ => rfl); (case a => k_is); (case l => k_is); (case c => k_is); (case k => k_is))),
(by
      (refine' Dw.dn_mk KX G ?a ?l ?c ?k (fun _ _ _ _ _ _ us hl => match us, hl with | [_], _ => rfl); (case a => k_is); (case l => k_is); (case c => k_is); (case k => k_is))),
(by
      (refine' Dw.dn_mk KX G ?a ?l ?c ?k (fun _ _ _ _ _ _ us hl => match us, hl with | [_], _ => rfl); (case a => k_is); (case l => k_is); (case c => k_is); (case k => k_is))),
(by
      (refine' Dw.dn_mk KX G ?a ?l ?c ?k (fun _ _ _ _ _ _ us hl => match us, hl with | [_, _, _, _], _ => rfl); (case a => k_is); (case l => k_is); (case c => k_is); (case k => k_is))),
(by
      (refine' Dw.dn_mk KX G ?a ?l ?c ?k (fun _ _ _ _ _ _ us hl => match us, hl with | [_, _], _ => rfl); (case a => k_is); (case l => k_is); (case c => k_is); (case k => k_is))),
(by
      (refine' Dw.dn_mk KX G ?a ?l ?c ?k (fun _ _ _ _ _ _ us hl => match us, hl with | [_, _], _ => rfl); (case a => k_is); (case l => k_is); (case c => k_is); (case k => k_is))),
(by
      (refine' Dw.dn_mk KX G ?a ?l ?c ?k (fun _ _ _ _ _ _ us hl => match us, hl with | [_, _, _], _ => rfl); (case a => k_is); (case l => k_is); (case c => k_is); (case k => k_is))),
(by
      (refine' Dw.dn_mk KX G ?a ?l ?c ?k (fun _ _ _ _ _ _ us hl => match us, hl with | [_], _ => rfl); (case a => k_is); (case l => k_is); (case c => k_is); (case k => k_is))),
(by
      (refine' Dw.dn_mk KX G ?a ?l ?c ?k (fun _ _ _ _ _ _ us hl => match us, hl with | [_], _ => rfl); (case a => k_is); (case l => k_is); (case c => k_is); (case k => k_is))),
(by
      (refine' Dw.dn_mk KX G ?a ?l ?c ?k (fun _ _ _ _ _ _ us hl => match us, hl with | [_], _ => rfl); (case a => k_is); (case l => k_is); (case c => k_is); (case k => k_is))),
(by
      (refine' Dw.dn_mk KX G ?a ?l ?c ?k (fun _ _ _ _ _ _ us hl => match us, hl with | [_], _ => rfl); (case a => k_is); (case l => k_is); (case c => k_is); (case k => k_is))),
(by
      (refine' Dw.dn_mk KX G ?a ?l ?c ?k (fun _ _ _ _ _ _ us hl => match us, hl with | [_], _ => rfl); (case a => k_is); (case l => k_is); (case c => k_is); (case k => k_is))),
(by
      (refine' Dw.dn_mk KX G ?a ?l ?c ?k (fun _ _ _ _ _ _ us hl => match us, hl with | [_], _ => rfl); (case a => k_is); (case l => k_is); (case c => k_is); (case k => k_is))),
(by
      (refine' Dw.dn_mk KX G ?a ?l ?c ?k (fun _ _ _ _ _ _ us hl => match us, hl with | [_], _ => rfl); (case a => k_is); (case l => k_is); (case c => k_is); (case k => k_is))),
(by
      (refine' Dw.dn_mk KX G ?a ?l ?c ?k (fun _ _ _ _ _ _ us hl => match us, hl with | [_], _ => rfl); (case a => k_is); (case l => k_is); (case c => k_is); (case k => k_is))),
(by
      (refine' Dw.dn_mk KX G ?a ?l ?c ?k (fun _ _ _ _ _ _ us hl => match us, hl with | [_], _ => rfl); (case a => k_is); (case l => k_is); (case c => k_is); (case k => k_is))),
(by
      (refine' Dw.k_str (PySem.W.mg_of KX G ?a) ?e; (case a => k_is); (case e => decide +kernel))),
(by
      (refine' Dw.k_int (PySem.W.mg_of KX G ?a) ?e; (case a => k_is); (case e => decide +kernel))),
(by
      (refine' Dw.k_int (PySem.W.mg_of KX G ?a) ?e; (case a => k_is); (case e => decide +kernel))),
(by
      (refine' Dw.k_str (PySem.W.mg_of KX G ?a) ?e; (case a => k_is); (case e => decide +kernel))),
(by
      (refine' Dw.k_int (PySem.W.mg_of KX G ?a) ?e; (case a => k_is); (case e => decide +kernel))),
(by
      (refine' PySem.W.mg_none_of KX G ?a; (case a => k_is))),
(by
      (refine' PySem.W.mg_none_of KX G ?a; (case a => k_is))),
(by
      (refine' PySem.W.mg_none_of KX G ?a; (case a => k_is))),
(by
      (refine' PySem.W.mg_none_of KX G ?a; (case a => k_is))),
(by
      (refine' PySem.W.mg_none_of KX G ?a; (case a => k_is))),
(by
      (refine' PySem.W.mg_none_of KX G ?a; (case a => k_is))),
(by
      (refine' PySem.W.mg_none_of KX G ?a; (case a => k_is))),
(by
      (refine' PySem.W.mg_none_of KX G ?a; (case a => k_is))),
(by
      (refine' PySem.W.mg_none_of KX G ?a; (case a => k_is)))⟩
