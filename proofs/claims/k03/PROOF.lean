import PyProof.Rows.All
import HandS.ForMost
import HandS.FStr
import HandS.IsInst
import HandS.TupAny
import HandS.Style
import HandS.StrMore
import HandS.Strs
import Open.Row
import PySem.Challenge.RW_dawkline_k03_messages
set_option Elab.async false
set_option linter.all false
set_option maxRecDepth 100000
set_option autoImplicit false
namespace Dw
open PySem PySem.Spec PyProof.Rows L2 TL
/-! ### the state of the heap between two draws -/
def Keep (st : Addr) (H H' : Hp) : Prop := ∀ a o, a ≠ st → H a = some o → H' a = some o
def Stt (H : Hp) (st : Addr) : Prop := ∃ k v : Int, H st = some (.lst [.int k, .int v])
def Dr (st : Addr) (H H' : Hp) : Prop := Keep st H H' ∧ Stt H' st
def Wd (K : PySem.W.Frag) (st sc : Addr) (ns : List Int) (H : Hp) : Prop :=
  Stt H st ∧ ∀ H', Keep st H H' → SqL K H' sc (ns.map V.int)
section
variable {K : PySem.W.Frag} {st sc p D : Addr} {ns : List Int} {H H1 H2 H3 : Hp} {o : HO}
theorem Keep.refl (st : Addr) (H : Hp) : Keep st H H := fun _ _ _ h => h
theorem Keep.trans (a : Keep st H H1) (b : Keep st H1 H2) : Keep st H H2 := fun x o n h => b x o n (a x o n h)
theorem Keep.of (a : Same H H1) : Keep st H H1 := fun x o _ h => a x o h
theorem Wd.next (w : Wd K st sc ns H) (d : Dr st H H1) : Wd K st sc ns H1 := ⟨d.2, fun H' k => w.2 H' (d.1.trans k)⟩
theorem Wd.list (w : Wd K st sc ns H) : SqL K H sc (ns.map V.int) := w.2 H (Keep.refl st H)
theorem Wd.dr (w : Wd K st sc ns H) : Dr st H H := ⟨Keep.refl st H, w.1⟩
theorem Dr.trans (a : Dr st H H1) (b : Dr st H1 H2) : Dr st H H2 := ⟨a.1.trans b.1, b.2⟩
theorem Stt.ne (s : Stt H st) (h : H p = none) : p ≠ st := fun e => by
  obtain ⟨k, v, q⟩ := s
  rw [e, q] at h
  cases h
theorem Stt.upd (s : Stt H st) (h : p ≠ st) : Stt (upd H p o) st := by
  obtain ⟨k, v, q⟩ := s
  exact ⟨k, v, by rw [upd_ne h.symm]; exact q⟩
theorem same_new (h : H p = none) : Same H (upd H p o) := fun b x e => by
  rw [upd_ne (ne_of_none e h)]
  exact e
theorem Dr.same (w : Stt H st) (a : Same H H1) : Dr st H H1 := ⟨Keep.of a, by
  obtain ⟨k, v, q⟩ := w
  exact ⟨k, v, a _ _ q⟩⟩
theorem Dr.new (d : Dr st H H1) (h : H1 p = none) : Dr st H (upd H1 p o) := d.trans (Dr.same d.2 (same_new h))
theorem Dr.put (w : Stt H st) (d : Dr st H H1) (h : H p = none) : Dr st H (upd H1 p o) :=
  ⟨fun a x n e => by
    rw [upd_ne (ne_of_none e h)]
    exact d.1 a x n e, d.2.upd (w.ne h)⟩
theorem Wd.new (w : Wd K st sc ns H) (h : H p = none) : Wd K st sc ns (upd H p o) := w.next (Dr.same w.1 (same_new h))
theorem Wd.same (w : Wd K st sc ns H) (h : Same H H1) : Wd K st sc ns H1 := w.next (Dr.same w.1 h)
theorem Dr.at (d : Dr st H H1) (n : p ≠ st) (h : H p = some o) : H1 p = some o := d.1 p o n h
end
/-! ### tuples whose object has no dict -/
def Tk (H : Hp) (p : Addr) (xs : List V) : Prop := ∃ o : Obj, o.dict = Option.none ∧ H p = some (.frz o (.tup xs))
section
variable {K : PySem.W.Frag} {st sc p : Addr} {H H1 : Hp} {xs : List V}
theorem Tk.seq (h : Tk H p xs) : SqT K H p xs := let ⟨o, _, e⟩ := h; .inl (.inr ⟨o, e⟩)
theorem Tk.ne (h : Tk H p xs) (s : Stt H st) : p ≠ st := fun e => by
  obtain ⟨o, _, q⟩ := h
  obtain ⟨k, v, r⟩ := s
  rw [e, r] at q
  cases q
theorem Tk.next (h : Tk H p xs) (s : Stt H st) (d : Dr st H H1) : Tk H1 p xs := by
  have n := h.ne s
  obtain ⟨o, a, e⟩ := h
  exact ⟨o, a, d.1 _ _ n e⟩
theorem Tk.same (h : Tk H p xs) (d : Same H H1) : Tk H1 p xs := let ⟨o, a, e⟩ := h; ⟨o, a, d _ _ e⟩
theorem Tk.mk {o : Obj} (h : o.dict = Option.none) : Tk (upd H p (.frz o (.tup xs))) p xs := ⟨o, h, upd_same⟩
end
section
variable {X : Cx}
def zTup (K : PySem.W.Frag) : List V → Hp → VK → Prop := fun xs H Q => ∃ p ys, xs = [V.ref p] ∧ SqL K H p ys ∧
  ∀ (l : Addr) (o : Obj), H l = none → o.dict = Option.none → Q (.ref l) (upd H l (.frz o (.tup ys)))
theorem y_tup : CallR X (.type "tuple") (zTup X.K) := by
  intro pins s σ H xs us Q I r h
  obtain ⟨p, ys, rfl, hq, q⟩ := h
  obtain ⟨u, rfl, rx⟩ := vals1 r
  cases rx
  obtain ⟨its, r', pl, hz⟩ := I.list hq
  have hlen := r'.length
  refine call_tuple_list pl.isList (fun h' kp => ?_) (by simp only [List.size_toArray] <;> omega)
  have I1 : Inv X pins σ H { s with heap := h' } := I.kept (t' := s.toks) kp
  refine ⟨.ref h'.objs.size, _, I1.laid (t' := s.toks) (o := .frz { cls := .type "tuple", data := .seq its.toArray } (.tup ys)) (fun b o e => Heap.get?_push_of_some _ e) (Nat.le_refl _) ?_, rfl, q _ _ (I1.hok.fresh (Nat.le_refl _)) rfl⟩
  exact ⟨Heap.get?_push_size _ rfl, hz, its, r', IsTup.new _ _⟩
def zTT (t : TA) : TE := fun σ H Q => t σ H fun xs H1 => xs.length ≤ sizeLine ∧ ∀ (p : Addr) (o : Obj), H1 p = none → o.dict = Option.none → Q (.ref p) (upd H1 p (.frz o (.tup xs)))
theorem y_tt {es : List Expr} {t : TA} {pos : Pos} {x1} (h : PA X es t) : PE X (.Tuple es x1 pos) (zTT t) := by
  refine ⟨fun pins s σ H Q I hq => ?_⟩
  refine wpAny_Tuple_spliced (thn (h.run pos pins s σ H _ I hq) fun us s1 ⟨xs, H1, I1, r, z, q⟩ => ⟨by rw [← r.length]; exact z, ?_⟩)
  refine ⟨.ref s1.heap.objs.size, _, I1.laid (t' := s1.toks) (o := .frz { cls := .type "tuple", data := .seq us.toArray } (.tup xs)) (fun b u e => Heap.get?_push_of_some _ e) (Nat.le_refl _) ?_, rfl, q _ _ (I1.hok.fresh (Nat.le_refl _)) rfl⟩
  exact ⟨Heap.get?_push_size _ rfl, z, us, r, IsTup.new _ _⟩
def zCat : R2 := fun x y H Q => ∃ a b xs ys, x = .ref a ∧ y = .ref b ∧ Tk H a xs ∧ Tk H b ys ∧ xs ≠ [] ∧ xs.length + ys.length ≤ sizeLine ∧
  ∀ (p : Addr) (H' : Hp), Same H H' → Tk H' p (xs ++ ys) → Q (.ref p) H'
theorem y_cat : OpR X (binaryOp .Add) zCat := by
  intro pins s σ H x y v u Q I rx ry h
  obtain ⟨a, b, xs, ys, rfl, rfl, ha, hb, hx, hz, q⟩ := h
  cases rx
  cases ry
  have ha' : SqT X.K H a xs := ha.seq
  have hb' : SqT X.K H b ys := hb.seq
  obtain ⟨its, r1, p1, _⟩ := I.tuple ha'
  obtain ⟨its2, r2, p2, _⟩ := I.tuple hb'
  refine HT.cat_tup p1 p2 (fun z => hx (r1.nil_iff.mp z)) (fun z => ?_) (fun z => ?_) (by rw [← r1.length, ← r2.length]; exact hz)
  · have e := r2.nil_iff.mp z
    subst e
    exact ⟨.ref a, H, I, rfl, q a H (Same.refl H) (by rw [List.append_nil]; exact ha)⟩
  · refine ⟨.ref s.heap.objs.size, _, I.laid (t' := s.toks) (o := .frz { cls := .type "tuple", data := .seq (its ++ its2).toArray } (.tup (xs ++ ys))) (fun b ob q => Heap.get?_push_of_some _ q) (Nat.le_refl _) ?_, rfl, q _ _ (same_new (I.hok.fresh (Nat.le_refl _))) (Tk.mk rfl)⟩
    exact ⟨Heap.get?_push_size _ rfl, by rw [List.length_append]; exact hz, _, r1.append r2, IsTup.new _ _⟩
/-- t.index(z), z in t -/
def zTIx (to te : TE) : TE := fun σ H Q => to σ H fun x H1 => ∃ (p : Addr) (ys : List Str), x = .ref p ∧ Tk H1 p (ys.map V.str) ∧ te σ H1 fun y H2 => ∃ (z : Str) (j : Nat), y = .str z ∧ Tk H2 p (ys.map V.str) ∧
  ys[j]? = some z ∧ (∀ m, m < j → ys[m]? ≠ some z) ∧ Q (.int (j : Nat)) H2
theorem y_tix {o e : Expr} {to te : TE} {apos cpos : Pos} (ho : PE X o to) (he : PE X e te)
    (hbase : attributeBase o "index" X.env (eval o X.env) = eval o X.env := by rfl)
    (hfew : ((backTo cpos (starEach [e] X.env)).all (fun x => !x.1) && (backToKw cpos (keywordEach [] X.env)).all (fun x => x.1.isSome)
      && decide ([e].length + ([] : List Keyword).length + (if ([] : List Keyword).isEmpty then 0 else 1) < 30)) = true := by rfl)
    (hline : (apos.endLine == cpos.line) = true := by rfl) (hs : starEach [e] X.env = (false, eval e X.env) :: starEach [] X.env := by rfl) (hplain : (backTo cpos (starEach [] X.env)).any (·.1) = false := by rfl) :
    PE X (.Call (.Attribute o "index" apos) [e] [] cpos) (zTIx to te) := by
  refine ⟨fun pins s σ H Q I h => ?_⟩
  refine wpAny_Call_method_late hbase hfew hline rfl (thn (ho.run pins s σ H _ I h) fun v s1 ⟨x, H1, I1, r1, q1⟩ => ?_)
  obtain ⟨p, ys, rfl, tk, q1⟩ := q1
  cases r1
  obtain ⟨o, od, oe⟩ := tk
  obtain ⟨e1, z1, its1, r1', o2, e2, c2, n2, d2⟩ := I1.hok p _ oe
  have hA := (pa_cons he (pa_nil (X := X)) hs).run cpos pins s1 σ H1 (fun vs H2 => match vs with
    | [y] => ∃ (z : Str) (j : Nat), y = .str z ∧ Tk H2 p (ys.map V.str) ∧ ys[j]? = some z ∧ (∀ m, m < j → ys[m]? ≠ some z) ∧ Q (.int (j : Nat)) H2
    | _ => False) I1 q1
  rw [hs] at hA ⊢
  refine ⟨"tuple", "tuple.index", PySem.F.plainAttrs_tuple, PySem.F.slot_tuple_index, PySem.F.type_tuple_index, ⟨o2, e2, c2⟩, fun a ea => ?_, ?_⟩
  · cases ea
    exact ⟨o, e1, od⟩
  refine Calls.callWith_builtin (by show (false || (backTo cpos (starEach [] X.env)).any (·.1)) = false; rw [hplain] <;> rfl) (Calls.evalArgs_plain ?_)
  refine thn hA fun us s2 ⟨vs, H2, I2, r2, q2⟩ => ?_
  match vs, q2, r2 with
  | [y], q2, r2 =>
  obtain ⟨z, j, rfl, tk2, hj, hm, q⟩ := q2
  exact mt_tup_index pins s2 σ H2 (.ref p) [.str z] _ us Q I2 rfl r2 ⟨p, ys, z, j, rfl, rfl, tk2.seq, hj, hm, q⟩
end

/-! ### readings, one step at a time -/
def wBl (x : V) (H : Hp) (Q : Bool → Hp → Prop) : Prop := ∃ k, x = .bl k ∧ Q k H
def wPart (x : V) (H : Hp) (Q : Option Int → Hp → Prop) : Prop := ∃ i, x = V.int i ∧ Q (some i) H
def wM (x : V) (P : Prop) : Prop := (∃ a, x = V.str a) ∧ P
def zLenS : List V → Hp → VK → Prop := fun xs H Q => ∃ z, xs = [V.str z] ∧ z.length ≤ sizeLine ∧ Q (.int z.length) H
def zLenQ (K : PySem.W.Frag) : List V → Hp → VK → Prop := fun xs H Q => ∃ p ys, xs = [V.ref p] ∧ (SqL K H p ys ∨ SqT K H p ys) ∧ Q (.int ys.length) H
def zInt : List V → Hp → VK → Prop := fun xs H Q => (∃ i, xs = [V.int i] ∧ Q (.int i) H) ∨ ∃ k, xs = [V.bl k] ∧ Q (.int (if k then 1 else 0)) H
def zJoin (K : PySem.W.Frag) : V → List V → Hp → VK → Prop := fun x xs H Q => ∃ a p, ∃ ys : List Str, x = .str a ∧ xs = [V.ref p] ∧ (SqL K H p (ys.map V.str) ∨ SqT K H p (ys.map V.str)) ∧
    (ys.map (·.length)).sum + ys.length * a.length ≤ 16777216 ∧ Q (.str (Txt.join a ys)) H
def zStarts : V → List V → Hp → VK → Prop := fun x xs H Q => ∃ a b, x = .str a ∧ xs = [V.str b] ∧ Q (.bl (Txt.startswith a b)) H
def zEnds : V → List V → Hp → VK → Prop := fun x xs H Q => ∃ a b, x = .str a ∧ xs = [V.str b] ∧ Q (.bl (Txt.endswith a b)) H
def zRstrip : V → List V → Hp → VK → Prop := fun x xs H Q => ∃ a b, x = .str a ∧ xs = [V.str b] ∧ a.length ≤ sizeLine ∧ Q (.str (Txt.rstripChars a b)) H
def zSplit : V → List V → Hp → VK → Prop := fun x xs H Q => ∃ a b, x = .str a ∧ xs = [V.str b] ∧ (b.length == 0) = false ∧ a.length + 2 ≤ sizeLine ∧ rNewStrs (Txt.split a b) H Q
def zPartition : V → List V → Hp → VK → Prop := fun x xs H Q => ∃ a b, x = .str a ∧ xs = [V.str b] ∧ (b.length == 0) = false ∧ a.length ≤ sizeLine ∧
    ∀ p, H p = none → Q (.ref p) (upd H p (.tup [.str (Txt.partition a b).1, .str (Txt.partition a b).2.1, .str (Txt.partition a b).2.2]))
def zAdS : R2 := fun x y H Q => ∃ i j, x = .str i ∧ y = .str j ∧ i.length + j.length ≤ sizeLine ∧ Q (.str (i ++ j)) H
def zIn1 : R2 := fun x y H Q => ∃ (c : Nat) (z : Str), x = .str ⟨#[c]⟩ ∧ y = .str z ∧ Q (.bl (decide (c ∈ z.cps.toList))) H
def zInS (neg : Bool) : R2 := fun x y H Q => ∃ i j, x = .str i ∧ y = .str j ∧ Q (.bl (if neg then !(!(Builtin.Str.occurrences j i 0 j.length 1).isEmpty) else !(Builtin.Str.occurrences j i 0 j.length 1).isEmpty)) H
def zIsN (neg : Bool) : R2 := fun x y H Q => y = .non ∧ Q (.bl (if neg then !decide (x = .non) else decide (x = .non))) H
def zRepS : R2 := fun x y H Q => ∃ (z : Str) (k : Int), x = .str z ∧ y = .int k ∧ 0 ≤ k ∧ z.length * k.toNat ≤ sizeLine ∧ Q (.str ⟨((List.replicate k.toNat (tl z)).flatten).toArray⟩) H
def zTruth (K : PySem.W.Frag) (ta : TE) : TT := fun σ H Q => ta σ H fun x H' => ∃ k, TruV K x H' k ∧ Q k H'
def zJs (ts : List TE) : TE := fun σ H Q => tJs ts Str.empty σ H fun out H1 => Q (.str out) H1
def wJs (ts : List TE) (acc : Str) (σ : L2.St) (Q : Str → Hp → Prop) (x : V) (H : Hp) : Prop := ∃ y : Str, x = .str y ∧ (acc ++ y).length ≤ sizeLine ∧ tJs ts (acc ++ y) σ H Q
def wFmt (x : V) (H : Hp) (Q : VK) : Prop := (∃ y : Str, x = .str y ∧ y.length ≤ sizeLine ∧ Q (.str y) H) ∨ ∃ i : Int, x = .int i ∧ i.natAbs.log2 < 1920 ∧ Q (.str (toString i)) H
def wFmtR (x : V) (H : Hp) (Q : VK) : Prop := (∃ y : Str, x = .str y ∧ (reprText y).length ≤ sizeLine ∧ Q (.str (reprText y)) H) ∨ ∃ i : Int, x = .int i ∧ i.natAbs.log2 < 1920 ∧ Q (.str (toString i)) H
def wCh (r' : R2) (tc : TE) (σ : L2.St) (Q : VK) (y z : V) (H : Hp) : Prop := ∃ k, z = .bl k ∧ if k = true then tc σ H fun w H1 => r' y w H1 Q else Q (.bl false) H
section
variable {X : Cx}
theorem y_lenS : CallR X (.builtin "len") zLenS := call_len_str
theorem y_lenQ : CallR X (.builtin "len") (zLenQ X.K) := call_len_seq
theorem y_int : CallR X (.type "int") zInt := call_int1
theorem y_join : MtR X "str.join" (zJoin X.K) := mt_join
theorem y_starts : MtR X "str.startswith" zStarts := mt_startswith
theorem y_ends : MtR X "str.endswith" zEnds := mt_endswith
theorem y_rstrip : MtR X "str.rstrip" zRstrip := mt_rstripChars
theorem y_split : MtR X "str.split" zSplit := mt_split
theorem y_partition : MtR X "str.partition" zPartition := mt_partition
theorem y_adS : OpR X (binaryOp .Add) zAdS := op_add_str
theorem y_in1 : OpR X (compareOp .In) zIn1 := op_in_sign
theorem y_inS : OpR X (compareOp .In) (zInS false) := op_in_str
theorem y_ninS : OpR X (compareOp .NotIn) (zInS true) := op_notIn_str
theorem y_isN : OpR X (compareOp .Is) (zIsN false) := op_isN
theorem y_notN : OpR X (compareOp .IsNot) (zIsN true) := op_notN
theorem y_truth {a : Expr} {ta : TE} (ha : PE X a ta) (he : ∀ whole, isTrue a X.env whole = (do let v ← whole; standAt a.pos; holding [v] (truthy v))) : PT X a (zTruth X.K ta) := pt_truth ha he
theorem y_joined {v1 v2 : Expr} {rest : List Expr} {ts : List TE} {pos : Pos} (h : PJ X (v1 :: v2 :: rest) ts) : PE X (.JoinedStr (v1 :: v2 :: rest) pos) (zJs ts) := pe_joined h
end
section
variable {σ : L2.St} {H : Hp} {Q : VK} {QB : Bool → Hp → Prop} {QA : List V → Hp → Prop} {QO : Option Int → Hp → Prop} {QS : Str → Hp → Prop} {QG : L2.St → Hp → Prop}
  {nx bk ct : L2.St → Hp → Prop} {rt : VK} {t u : TS} {ta tb tc : TE} {tA tB' : TT} {as : TA} {g : TG} {v : V} {i j : Int} {x y : Str} {b : Bool} {r r' : R2} {P : Prop} {E : XK} {K : PySem.W.Frag}
theorem rd_seq (h : t ⟨u ⟨nx, rt, bk, ct⟩, rt, bk, ct⟩ σ H) : tSeq t u ⟨nx, rt, bk, ct⟩ σ H := h
theorem rd_next (h : nx σ H) : tNext ⟨nx, rt, bk, ct⟩ σ H := h
theorem rd_asg (h : ta σ H fun x H1 => g x σ H1 nx) : tAsg ta g ⟨nx, rt, bk, ct⟩ σ H := h
theorem rd_ifS (h : tA σ H fun b H1 => if b = true then t ⟨nx, rt, bk, ct⟩ σ H1 else u ⟨nx, rt, bk, ct⟩ σ H1) : tIfS tA t u ⟨nx, rt, bk, ct⟩ σ H := h
theorem rd_ret (h : ta σ H rt) : tRet ta ⟨nx, rt, bk, ct⟩ σ H := h
theorem rd_retN (h : rt .non H) : tRetN ⟨nx, rt, bk, ct⟩ σ H := h
theorem rd_drop (h : ta σ H fun _ H1 => nx σ H1) : tDrop ta ⟨nx, rt, bk, ct⟩ σ H := h
theorem rd_n0 {a} {l : L2.St} (h : QG (some v :: l) H) : gName 0 v (a :: l) H QG := h
theorem rd_n1 {a a1} {l : L2.St} (h : QG (a :: some v :: l) H) : gName 1 v (a :: a1 :: l) H QG := h
theorem rd_n2 {a a1 a2} {l : L2.St} (h : QG (a :: a1 :: some v :: l) H) : gName 2 v (a :: a1 :: a2 :: l) H QG := h
theorem rd_n3 {a a1 a2 a3} {l : L2.St} (h : QG (a :: a1 :: a2 :: some v :: l) H) : gName 3 v (a :: a1 :: a2 :: a3 :: l) H QG := h
theorem rd_n4 {a a1 a2 a3 a4} {l : L2.St} (h : QG (a :: a1 :: a2 :: a3 :: some v :: l) H) : gName 4 v (a :: a1 :: a2 :: a3 :: a4 :: l) H QG := h
theorem rd_n5 {a a1 a2 a3 a4 a5} {l : L2.St} (h : QG (a :: a1 :: a2 :: a3 :: a4 :: some v :: l) H) : gName 5 v (a :: a1 :: a2 :: a3 :: a4 :: a5 :: l) H QG := h
theorem rd_n6 {a a1 a2 a3 a4 a5 a6} {l : L2.St} (h : QG (a :: a1 :: a2 :: a3 :: a4 :: a5 :: some v :: l) H) : gName 6 v (a :: a1 :: a2 :: a3 :: a4 :: a5 :: a6 :: l) H QG := h
theorem rd_n7 {a a1 a2 a3 a4 a5 a6 a7} {l : L2.St} (h : QG (a :: a1 :: a2 :: a3 :: a4 :: a5 :: a6 :: some v :: l) H) : gName 7 v (a :: a1 :: a2 :: a3 :: a4 :: a5 :: a6 :: a7 :: l) H QG := h
theorem rd_n8 {a a1 a2 a3 a4 a5 a6 a7 a8} {l : L2.St} (h : QG (a :: a1 :: a2 :: a3 :: a4 :: a5 :: a6 :: a7 :: some v :: l) H) : gName 8 v (a :: a1 :: a2 :: a3 :: a4 :: a5 :: a6 :: a7 :: a8 :: l) H QG := h
theorem rd_n9 {a a1 a2 a3 a4 a5 a6 a7 a8 a9} {l : L2.St} (h : QG (a :: a1 :: a2 :: a3 :: a4 :: a5 :: a6 :: a7 :: a8 :: some v :: l) H) : gName 9 v (a :: a1 :: a2 :: a3 :: a4 :: a5 :: a6 :: a7 :: a8 :: a9 :: l) H QG := h
theorem rd_n10 {a a1 a2 a3 a4 a5 a6 a7 a8 a9 b0} {l : L2.St} (h : QG (a :: a1 :: a2 :: a3 :: a4 :: a5 :: a6 :: a7 :: a8 :: a9 :: some v :: l) H) : gName 10 v (a :: a1 :: a2 :: a3 :: a4 :: a5 :: a6 :: a7 :: a8 :: a9 :: b0 :: l) H QG := h
theorem rd_n11 {a a1 a2 a3 a4 a5 a6 a7 a8 a9 b0 b1} {l : L2.St} (h : QG (a :: a1 :: a2 :: a3 :: a4 :: a5 :: a6 :: a7 :: a8 :: a9 :: b0 :: some v :: l) H) : gName 11 v (a :: a1 :: a2 :: a3 :: a4 :: a5 :: a6 :: a7 :: a8 :: a9 :: b0 :: b1 :: l) H QG := h
theorem rd_v0 {l : L2.St} (h : Q v H) : tVar 0 (some v :: l) H Q := ⟨v, rfl, h⟩
theorem rd_v1 {a} {l : L2.St} (h : Q v H) : tVar 1 (a :: some v :: l) H Q := ⟨v, rfl, h⟩
theorem rd_v2 {a a1} {l : L2.St} (h : Q v H) : tVar 2 (a :: a1 :: some v :: l) H Q := ⟨v, rfl, h⟩
theorem rd_v3 {a a1 a2} {l : L2.St} (h : Q v H) : tVar 3 (a :: a1 :: a2 :: some v :: l) H Q := ⟨v, rfl, h⟩
theorem rd_v4 {a a1 a2 a3} {l : L2.St} (h : Q v H) : tVar 4 (a :: a1 :: a2 :: a3 :: some v :: l) H Q := ⟨v, rfl, h⟩
theorem rd_v5 {a a1 a2 a3 a4} {l : L2.St} (h : Q v H) : tVar 5 (a :: a1 :: a2 :: a3 :: a4 :: some v :: l) H Q := ⟨v, rfl, h⟩
theorem rd_v6 {a a1 a2 a3 a4 a5} {l : L2.St} (h : Q v H) : tVar 6 (a :: a1 :: a2 :: a3 :: a4 :: a5 :: some v :: l) H Q := ⟨v, rfl, h⟩
theorem rd_v7 {a a1 a2 a3 a4 a5 a6} {l : L2.St} (h : Q v H) : tVar 7 (a :: a1 :: a2 :: a3 :: a4 :: a5 :: a6 :: some v :: l) H Q := ⟨v, rfl, h⟩
theorem rd_v8 {a a1 a2 a3 a4 a5 a6 a7} {l : L2.St} (h : Q v H) : tVar 8 (a :: a1 :: a2 :: a3 :: a4 :: a5 :: a6 :: a7 :: some v :: l) H Q := ⟨v, rfl, h⟩
theorem rd_v9 {a a1 a2 a3 a4 a5 a6 a7 a8} {l : L2.St} (h : Q v H) : tVar 9 (a :: a1 :: a2 :: a3 :: a4 :: a5 :: a6 :: a7 :: a8 :: some v :: l) H Q := ⟨v, rfl, h⟩
theorem rd_v10 {a a1 a2 a3 a4 a5 a6 a7 a8 a9} {l : L2.St} (h : Q v H) : tVar 10 (a :: a1 :: a2 :: a3 :: a4 :: a5 :: a6 :: a7 :: a8 :: a9 :: some v :: l) H Q := ⟨v, rfl, h⟩
theorem rd_v11 {a a1 a2 a3 a4 a5 a6 a7 a8 a9 b0} {l : L2.St} (h : Q v H) : tVar 11 (a :: a1 :: a2 :: a3 :: a4 :: a5 :: a6 :: a7 :: a8 :: a9 :: b0 :: some v :: l) H Q := ⟨v, rfl, h⟩
theorem rd_c (h : Q v H) : tC v σ H Q := h
theorem rd_op (h : ta σ H fun x H1 => tb σ H1 fun y H2 => r x y H2 Q) : tOp r ta tb σ H Q := h
theorem rd_i0 {f : Int → Int → V} (h : Q (f i j) H) : rI0 f (.int i) (.int j) H Q := ⟨i, j, rfl, rfl, h⟩
theorem rd_iC {f : Int → Int → V} {C : Int → Int → Prop} (h : Q (f i j) H) (c : C i j) : rI C f (.int i) (.int j) H Q := ⟨i, j, rfl, rfl, c, h⟩
theorem rd_un {f : V → Hp → VK → Prop} (h : ta σ H fun x H1 => f x H1 Q) : tUn f ta σ H Q := h
theorem rd_u {f : Int → V} (h : Q (f i) H) : rU f (.int i) H Q := ⟨i, rfl, h⟩
theorem rd_eqI (h : Q (.bl (decide (i = j))) H) : rEq (.int i) (.int j) H Q := ⟨rfl, by
  rw [show decide (V.int i = V.int j) = decide (i = j) by simp only [V.int.injEq]]
  exact h⟩
theorem rd_neI (h : Q (.bl (!decide (i = j))) H) : rNe (.int i) (.int j) H Q := ⟨rfl, by
  rw [show decide (V.int i = V.int j) = decide (i = j) by simp only [V.int.injEq]]
  exact h⟩
theorem rd_eqS (h : Q (.bl (decide (x = y))) H) : rEq (.str x) (.str y) H Q := ⟨rfl, by
  rw [show decide (V.str x = V.str y) = decide (x = y) by simp only [V.str.injEq]]
  exact h⟩
theorem rd_neS (h : Q (.bl (!decide (x = y))) H) : rNe (.str x) (.str y) H Q := ⟨rfl, by
  rw [show decide (V.str x = V.str y) = decide (x = y) by simp only [V.str.injEq]]
  exact h⟩
theorem rd_test (h : ta σ H fun x H1 => wBl x H1 QB) : tTest ta σ H QB := h
theorem rd_tB (h : ta σ H fun x H1 => wBl x H1 QB) : tB ta σ H QB := h
theorem rd_wBl (h : QB b H) : wBl (.bl b) H QB := ⟨b, rfl, h⟩
theorem rd_and (h : tA σ H fun c H1 => if c = true then tB' σ H1 QB else QB false H1) : tAnd tA tB' σ H QB := h
theorem rd_or (h : tA σ H fun c H1 => if c = true then QB true H1 else tB' σ H1 QB) : tOr tA tB' σ H QB := h
theorem rd_not (h : tA σ H fun c H1 => QB (!c) H1) : tNot tA σ H QB := h
theorem rd_notV (h : ta σ H fun x H1 => wBl x H1 fun c H2 => Q (.bl (!c)) H2) : tNotV ta σ H Q := h
theorem rd_andV (h : ta σ H fun x H1 => wBl x H1 fun c H2 => if c = true then tb σ H2 Q else Q (.bl false) H2) : tAndV ta tb σ H Q := h
theorem rd_orV (h : ta σ H fun x H1 => wBl x H1 fun c H2 => if c = true then Q (.bl true) H2 else tb σ H2 Q) : tOrV ta tb σ H Q := h
theorem rd_ifE (h : tA σ H fun c H1 => if c = true then ta σ H1 Q else tb σ H1 Q) : tIf tA ta tb σ H Q := h
theorem rd_ch (h : ta σ H fun x H1 => tb σ H1 fun y H2 => r x y H2 fun z H3 => wCh r' tc σ Q y z H3) : tChain r r' ta tb tc σ H Q := h
theorem rd_wCh {y : V} (h : if b = true then tc σ H fun w H1 => r' y w H1 Q else Q (.bl false) H) : wCh r' tc σ Q y (.bl b) H := ⟨b, rfl, h⟩
theorem rd_cb {f : List V → Hp → VK → Prop} (h : as σ H fun vs H1 => f vs H1 Q) : tCB f as σ H Q := h
theorem rd_call {sp : Sp} (h : as σ H fun vs H1 => sp vs H1 Q E) : tCall sp [] E as σ H Q := by
  unfold tCall
  simpa only [List.append_nil] using h
theorem rd_cons {tr : TA} (h : ta σ H fun x H1 => tr σ H1 fun xs H2 => QA (x :: xs) H2) : tCons ta tr σ H QA := h
theorem rd_nil (h : QA [] H) : tNil σ H QA := h
def wTT (xs : List V) (H : Hp) (Q : VK) : Prop := xs.length ≤ sizeLine ∧ ∀ (p : Addr) (o : Obj), H p = none → o.dict = Option.none → Q (.ref p) (upd H p (.frz o (.tup xs)))
def wLs (xs : List V) (H : Hp) (Q : VK) : Prop := xs.length ≤ sizeLine ∧ ∀ (p : Addr), H p = none → Q (.ref p) (upd H p (.lst xs))
theorem rd_tt (h : as σ H fun xs H1 => wTT xs H1 Q) : zTT as σ H Q := h
theorem rd_ls (h : as σ H fun xs H1 => wLs xs H1 Q) : tLst as σ H Q := h
theorem rd_sl {f : V → Option Int → Option Int → Hp → VK → Prop} {tl' th : TO} (h : ta σ H fun x H1 => tl' σ H1 fun l H2 => th σ H2 fun u H3 => f x l u H3 Q) : tSl f ta tl' th σ H Q := h
theorem rd_noP (h : QO none H) : tNoPart σ H QO := h
theorem rd_part (h : ta σ H fun x H1 => wPart x H1 QO) : tPart ta σ H QO := h
theorem rd_wPart (h : QO (some i) H) : wPart (.int i) H QO := ⟨i, rfl, h⟩
theorem rd_m1 {f : V → List V → Hp → VK → Prop} (h : ta σ H fun x H1 => wM x (tb σ H1 fun y H2 => f x [y] H2 Q)) : tM1 f ta tb σ H Q := h
theorem rd_wM (h : P) : wM (.str x) P := ⟨⟨x, rfl⟩, h⟩
theorem rd_js {ts : List TE} (h : tJs (ta :: ts) Str.empty σ H fun out H1 => Q (.str out) H1) : zJs (ta :: ts) σ H Q := h
theorem rd_jc {ts : List TE} {acc : Str} (h : ta σ H fun x H1 => wJs ts acc σ QS x H1) : tJs (ta :: ts) acc σ H QS := h
theorem rd_jn {acc : Str} (h : QS acc H) : tJs [] acc σ H QS := h
theorem rd_wJs {ts : List TE} {acc : Str} (h : tJs ts (acc ++ x) σ H QS) (c : (acc ++ x).length ≤ sizeLine) : wJs ts acc σ QS (.str x) H := ⟨x, rfl, c, h⟩
theorem rd_fmt (h : ta σ H fun x H1 => wFmt x H1 Q) : tFmt ta σ H Q := h
theorem rd_fmtR (h : ta σ H fun x H1 => wFmtR x H1 Q) : tFmtR ta σ H Q := h
theorem rd_wFmt (h : Q (.str x) H) (c : x.length ≤ sizeLine) : wFmt (.str x) H Q := .inl ⟨x, rfl, c, h⟩
theorem rd_wFmtR (h : Q (.str (reprText x)) H) (c : (reprText x).length ≤ sizeLine) : wFmtR (.str x) H Q := .inl ⟨x, rfl, c, h⟩
theorem rd_lenS (h : Q (.int x.length) H) (c : x.length ≤ sizeLine) : zLenS [.str x] H Q := ⟨x, rfl, c, h⟩
theorem rd_int (h : Q (.int i) H) : zInt [.int i] H Q := .inl ⟨i, rfl, h⟩
theorem rd_intB (h : Q (.int (if b then 1 else 0)) H) : zInt [.bl b] H Q := .inr ⟨b, rfl, h⟩
theorem rd_starts (h : Q (.bl (Txt.startswith x y)) H) : zStarts (.str x) [.str y] H Q := ⟨x, y, rfl, rfl, h⟩
theorem rd_ends (h : Q (.bl (Txt.endswith x y)) H) : zEnds (.str x) [.str y] H Q := ⟨x, y, rfl, rfl, h⟩
theorem rd_rstrip (h : Q (.str (Txt.rstripChars x y)) H) (c : x.length ≤ sizeLine) : zRstrip (.str x) [.str y] H Q := ⟨x, y, rfl, rfl, c, h⟩
theorem rd_adS (h : Q (.str (x ++ y)) H) (c : x.length + y.length ≤ sizeLine) : zAdS (.str x) (.str y) H Q := ⟨x, y, rfl, rfl, c, h⟩
theorem rd_slS {lo hi : Option Int} (h : Q (.str (cutS x lo hi)) H) (c : x.length ≤ sizeLine) : rSlS (.str x) lo hi H Q := ⟨x, rfl, c, h⟩
theorem rd_in1 {c : Nat} (h : Q (.bl (decide (c ∈ tl y))) H) : zIn1 (.str ⟨#[c]⟩) (.str y) H Q := ⟨c, y, rfl, rfl, h⟩
theorem rd_isB {c : Bool} (h : Q (.bl (decide (b = c))) H) : rIsB (.bl b) (.bl c) H Q := ⟨b, c, rfl, rfl, h⟩
theorem rd_isN (h : Q (.bl (decide (v = .non))) H) : zIsN false v .non H Q := ⟨rfl, h⟩
theorem rd_notN (h : Q (.bl (!decide (v = .non))) H) : zIsN true v .non H Q := ⟨rfl, h⟩
theorem rd_iT {A B : Prop} (h : A) : if true = true then A else B := iteT h
theorem rd_iF {A B : Prop} (h : B) : if false = true then A else B := iteF h
theorem rd_yes (h : QB true H) : tYes σ H QB := h
theorem if_dec {c A B : Prop} [Decidable c] (h1 : c → A) (h2 : ¬ c → B) : if decide c = true then A else B := ite2 (fun e => h1 (of_decide_eq_true e)) (fun e => h2 fun z => e (decide_eq_true z))
theorem if_ndec {c A B : Prop} [Decidable c] (h1 : ¬ c → A) (h2 : c → B) : if (!decide c) = true then A else B := by
  by_cases e : c
  · rw [decide_eq_true e]
    exact iteF (h2 e)
  · rw [decide_eq_false e]
    exact iteT (h1 e)
theorem if_b {A B : Prop} (h1 : b = true → A) (h2 : b = false → B) : if b = true then A else B := by
  cases b
  · exact iteF (h2 rfl)
  · exact iteT (h1 rfl)
end
theorem line_of {n : Nat} (h : n ≤ 10000000) : n ≤ sizeLine := Nat.le_trans h (by decide)
theorem lt_line {n : Nat} (h : n < 10000000) : n < sizeLine := Nat.lt_of_lt_of_le h (by decide)
theorem len_app (x y : Str) : (x ++ y).length = x.length + y.length := by rw [len_tl, len_tl, len_tl, tl_append, List.length_append]
theorem len_cut (z : Str) (lo hi : Option Int) : (cutS z lo hi).length ≤ z.length := cutS_length z lo hi
theorem len_of (s : String) : (Str.ofString s).length = s.length := by rw [len_tl, tl_ofString, List.length_map]; rfl
theorem tl_empty : tl Str.empty = [] := rfl
theorem len_empty : Str.empty.length = 0 := rfl
/-! ### a def of the top -/
def Dn (K : PySem.W.Frag) (mg : Str → Option Value) (x : Str) (st : Stmt) (ps : List Str) : Prop := ∃ f fd, mg x = some (.ref f) ∧ Fun K x x st f fd ∧ ∀ (s : Shared) (us : List Value), us.length = ps.length → BindsTo s fd ⟨us, []⟩ (ps.zip us)
def OkD (P : Program) (w : World) (K : PySem.W.Frag) (mg : Str → Option Value) (base : Heap) (CX : CXT) (k : Nat) (x : Str) (ps : List Str) (sp : Sp) : Prop :=
  ∃ f fd, mg x = some (.ref f) ∧ PySem.W.keepIn K (.ref f) = true ∧ Binds K fd ps [] ∧ FnOk P w K mg base CX k f fd ps sp
theorem dn_mk {K : PySem.W.Frag} {h : Heap} {mg : Str → Option Value} {x : Str} {st : Stmt} {ps : List Str} {f : Addr} {oc kV doc pm cdv ct : Value} {od an : Option Addr} {osl : Array (Option Value)} (X : K.In h) (G : h.Ns mainGlobals mg)
    (a : PySem.W.nsIn K mainGlobals x = some (some (.ref f))) (l : K.lookup f = some ⟨oc, od, .func (PySem.W.fnOf x x (defArgs st) (defBody st) (defScope st) .none kV doc pm an cdv ct), osl⟩)
    (c : PySem.W.codeIn K cdv x = true) (k : PySem.W.keepIn K (.ref f) = true)
    (b : ∀ (kV doc pm : Value) (an : Option Addr) (cdv ct : Value) (us : List Value), us.length = ps.length → bindArgs (PySem.W.fnOf x x (defArgs st) (defBody st) (defScope st) .none kV doc pm an cdv ct) ⟨us, []⟩ = pure (ps.zip us)) : Dn K mg x st ps :=
  ⟨f, _, PySem.W.mg_of X G a, fun_mk l c k, fun s us hl => .of_eq (b kV doc pm an cdv ct us hl)⟩
theorem binds_of {K : PySem.W.Frag} {fd : FuncData} {ps : List Str} (b : ∀ (s : Shared) (us : List Value), us.length = ps.length → BindsTo s fd ⟨us, []⟩ (ps.zip us)) : Binds K fd ps [] := fun s us _ hl => by
  rw [List.append_nil] at hl ⊢
  exact b s us hl
theorem ok_F {P : Program} {w : World} {K : PySem.W.Frag} {mg : Str → Option Value} {base : Heap} {k : Nat} {x : Str} {st : Stmt} {ps N : List Str} {sp : Sp} {f : Addr} {fd : FuncData} (F : Fun K x x st f fd) (S : FnScope N ps (defScope st))
    (len : ∀ vs H Q E, sp vs H Q E → vs.length = ps.length)
    (hbody : ∀ (cdv : Value) (A : Around) (outer : List Env) (s : Shared) (H : Hp) (vs : List V) (Q : VK) (E : XK), Room k (A.deeper (envOfC x (defScope st) s.heap.objs.size f cdv)) → sp vs H Q E →
      ∃ t, PSs (cxOf CX0 P w K mg base N x (defScope st) f cdv A outer s H E).nox (defBody st) t ∧ t ⟨fun _ H' => Q .non H', Q, fun _ _ => False, fun _ _ => False⟩ (start N vs) H) : FnOk P w K mg base CX0 (k + 1) f fd ps sp :=
  F.ok S len fun cdv A outer s H vs Q E hr h => hbody cdv A outer s H vs Q E hr h
theorem ok_mk {P : Program} {w : World} {K : PySem.W.Frag} {mg : Str → Option Value} {base : Heap} {k : Nat} {x : Str} {st : Stmt} {ps N : List Str} {sp : Sp} (d : Dn K mg x st ps) (S : FnScope N ps (defScope st))
    (len : ∀ vs H Q E, sp vs H Q E → vs.length = ps.length)
    (hbody : ∀ (f : Addr) (cdv : Value) (A : Around) (outer : List Env) (s : Shared) (H : Hp) (vs : List V) (Q : VK) (E : XK), Room k (A.deeper (envOfC x (defScope st) s.heap.objs.size f cdv)) → sp vs H Q E →
      ∃ t, PSs (cxOf CX0 P w K mg base N x (defScope st) f cdv A outer s H E).nox (defBody st) t ∧ t ⟨fun _ H' => Q .non H', Q, fun _ _ => False, fun _ _ => False⟩ (start N vs) H) : OkD P w K mg base CX0 (k + 1) x ps sp := by
  obtain ⟨f, fd, m, F, b⟩ := d
  exact ⟨f, fd, m, F.kp, binds_of b, F.ok S len fun cdv A outer s H vs Q E hr h => hbody f cdv A outer s H vs Q E hr h⟩
section
variable {X : Cx}
theorem pe_callD {k : Nat} {x : Str} {ps : List Str} {sp : Sp} {t : TA} {e : Expr} {es : List Expr} {p pos : Pos} {E : XK} (O : OkD X.prog X.w X.K X.mg X.base CX0 k x ps sp) (hr : Room k X.A) (hg : Gl X x) (hx : Passes CX0 X E) (ha : PA X (e :: es) t)
    (hdb : (x == ("__debug__" : Str)) = false := by decide) (he : starEach (e :: es) X.env = (false, eval e X.env) :: starEach es X.env := by rfl) (hpl : (backTo pos (starEach es X.env)).any (·.1) = false := by rfl) :
    PE X (.Call (.Name x p) (e :: es) [] pos) (tCall sp [] E t) := by
  obtain ⟨f, fd, m, kp, b, F⟩ := O
  exact pe_call F hr hg m kp b .nil hx ha hdb he hpl
end
def wTru (K : PySem.W.Frag) (x : V) (H : Hp) (Q : Bool → Hp → Prop) : Prop := ∃ k, TruV K x H k ∧ Q k H
section
variable {σ : L2.St} {H : Hp} {Q : VK} {QB : Bool → Hp → Prop} {K : PySem.W.Frag} {a : Addr} {xs : List V} {i k : Int} {ta : TE}
theorem rd_truth (h : ta σ H fun x H1 => wTru K x H1 QB) : zTruth K ta σ H QB := h
theorem rd_truL (c : SqL K H a xs) (h : QB (!xs.isEmpty) H) : wTru K (.ref a) H QB := ⟨_, .inl ⟨xs, c, rfl⟩, h⟩
theorem rd_lenL (c : SqL K H a xs) (h : Q (.int xs.length) H) : zLenQ K [.ref a] H Q := ⟨a, xs, rfl, .inl c, h⟩
theorem rd_lenT (c : SqT K H a xs) (h : Q (.int xs.length) H) : zLenQ K [.ref a] H Q := ⟨a, xs, rfl, .inr c, h⟩
theorem rd_ixL {v : V} (c : SqL K H a xs) (e : atI xs i = some v) (h : Q v H) : rIxL K (.ref a) (.int i) H Q := ⟨a, xs, i, v, rfl, rfl, c, e, h⟩
theorem rd_ixT {v : V} (c : SqT K H a xs) (e : atI xs i = some v) (h : Q v H) : rIxT K (.ref a) (.int i) H Q := ⟨a, xs, i, v, rfl, rfl, c, e, h⟩
theorem atI_in {α : Type} {xs : List α} {i : Int} (h0 : 0 ≤ i) (h1 : i < xs.length) : ∃ v, v ∈ xs ∧ atI xs i = some v := by
  obtain ⟨j, rfl⟩ := Int.eq_ofNat_of_zero_le h0
  have hj : j < xs.length := by omega
  exact ⟨xs[j], List.getElem_mem hj, atI_nat (List.getElem?_eq_getElem hj)⟩
end
/-! ### comprehensions and loops over a range -/
def LcR (n : Nat) (g : TG) (te : TE) (vs : List Nat) (σ : L2.St) (H1 : Hp) (D : Addr) (Qd : Hp → Prop) : Prop := ∃ W : Nat → Nat → Hp → Prop, (∃ m, W 0 m (upd H1 D (.lst []))) ∧ ∀ i m H, W i m H →
  ((Itr 0 n).stop i H ∧ Qd H) ∨ ((Itr 0 n).go i H ∧ ∃ Nx : Hp → Prop, (∀ H', Nx H' → ∃ m', m' < m ∧ W (i + 1) m' H') ∧ ∀ x H', (Itr 0 n).yld i H x H' → g x (wipe σ vs) H' fun σ2 H2 => wipe σ2 vs = wipe σ vs ∧ tYes σ2 H2 fun b H3 =>
    if b = true then te σ2 H3 fun y H4 => ∃ acc, H4 D = some (.lst acc) ∧ acc.length < sizeLine ∧ Nx (upd H4 D (.lst (acc ++ [y]))) else Nx H3)
def wRg (zs : List V) (H : Hp) (R : Nat → Hp → Prop) : Prop := ∃ j : Int, zs = [V.int j] ∧ -(2 ^ 62) ≤ j ∧ j < 2 ^ 62 ∧ R j.toNat H
section
variable {σ : L2.St} {H H1 : Hp} {Q : VK} {QG : L2.St → Hp → Prop} {K : PySem.W.Frag} {st sc D : Addr} {ns : List Int} {as : TA} {g : TG} {te ta tb : TE} {vs : List Nat} {n : Nat} {G : V → Prop} {Qd : Hp → Prop}
theorem rd_lcR (h : as σ H fun zs H1 => wRg zs H1 fun n H2 => ∀ D, H2 D = none → LcR n g te vs σ H2 D (Q (.ref D))) : tLc (iRng1 as) g tYes te vs σ H Q := by
  unfold tLc iRng1
  exact h
theorem rd_wRg {j : Int} {R : Nat → Hp → Prop} (h0 : 0 ≤ j) (h1 : j ≤ 1000000) (h : R j.toNat H) : wRg [.int j] H R := ⟨j, rfl, by omega, by omega, h⟩
theorem lcR (W : Wd K st sc ns H1) (nD : H1 D = none) (hn : n ≤ 1000)
    (hs : ∀ (i : Nat) H (R : VK), i < n → Wd K st sc ns H → Dr st H1 H → (∀ y H', Dr st H H' → G y → R y H') → g (.int (0 + (i : Nat))) (wipe σ vs) H fun σ2 H2 => wipe σ2 vs = wipe σ vs ∧ te σ2 H2 R)
    (hd : ∀ H' ys, Dr st H1 H' → Wd K st sc ns H' → D ≠ st → H' D = some (.lst ys) → ys.length = n → (∀ y ∈ ys, G y) → Qd H') : LcR n g te vs σ H1 D Qd := by
  have nS : D ≠ st := W.1.ne nD
  refine lc_range (Pv := fun i H => Dr st H1 H ∧ ∃ ys, H D = some (.lst ys) ∧ ys.length = i ∧ ∀ y ∈ ys, G y) ?_ (fun i H hi hP => ?_) (fun H hP => ?_)
  · exact ⟨W.dr.new nD, [], upd_same, rfl, fun _ h => nomatch h⟩
  · obtain ⟨d, ys, e, el, eg⟩ := hP
    have q := hs i H (fun y H4 => ∃ acc, H4 D = some (.lst acc) ∧ acc.length < sizeLine ∧ (Dr st H1 (upd H4 D (.lst (acc ++ [y]))) ∧ ∃ ys, (upd H4 D (.lst (acc ++ [y]))) D = some (.lst ys) ∧ ys.length = i + 1 ∧ ∀ y ∈ ys, G y)) hi (W.next d) d (fun y H' d' gy => by
      have e' : H' D = some (.lst ys) := d'.1 _ _ nS e
      refine ⟨ys, e', lt_line (by omega), Dr.put W.1 (d.trans d') nD, ys ++ [y], upd_same, by rw [List.length_append, el]; rfl, fun z hz => ?_⟩
      rcases List.mem_append.mp hz with hz | hz
      · exact eg z hz
      · rw [List.mem_singleton.mp hz]
        exact gy)
    exact q
  · obtain ⟨d, ys, e, el, eg⟩ := hP
    exact hd H ys d (W.next d) nS e el eg
def wSet (t : TSet) (o i v : V) (H : Hp) (Q : Hp → Prop) : Prop := t o i v H Q
theorem rd_gSub {v : V} {t : TSet} (h : ta σ H fun o H1 => tb σ H1 fun i H2 => t o i v H2 fun H3 => QG σ H3) : gSub ta tb t v σ H QG := h
theorem rd_setL {a : Addr} {k : Int} {v : V} {xs : List V} {j : Nat} {QH : Hp → Prop} (e : H a = some (.lst xs)) (hj : ixN xs.length k = some j) (h : QH (upd H a (.lst (xs.set j v)))) : rSetL (.ref a) (.int k) v H QH := ⟨a, xs, k, j, rfl, rfl, e, hj, h⟩
theorem Dr.upds (d : Dr st H H1) {k v : Int} : Dr st H (upd H1 st (.lst [.int k, .int v])) :=
  ⟨fun a x n e => by
    rw [upd_ne n]
    exact d.1 a x n e, k, v, upd_same⟩
end
theorem cut_one {z : Str} {k : Int} (h0 : 0 ≤ k) (h1 : k < z.length) : ∃ c, c ∈ tl z ∧ cutS z (some k) (some (k + 1)) = ⟨#[c]⟩ := by
  obtain ⟨j, rfl⟩ := Int.eq_ofNat_of_zero_le h0
  have hj : j < (tl z).length := by rw [← len_tl]; omega
  have hz : z.length = (tl z).length := len_tl z
  refine ⟨(tl z)[j], List.getElem_mem hj, ?_⟩
  unfold cutS
  rw [show ((j : Int) + 1) = ((j + 1 : Nat) : Int) by omega, HT.sIx_nat, HT.sIx_nat, Nat.min_eq_left (by omega), Nat.min_eq_left (by omega), show j + 1 - j = 1 by omega]
  show (⟨(List.take 1 (List.drop j (tl z))).toArray⟩ : Str) = _
  rw [List.drop_eq_getElem_cons hj]
  rfl
/-! ### texts put together -/
theorem strs_of {G : Str → Prop} : ∀ {ys : List V}, (∀ y ∈ ys, ∃ x, y = .str x ∧ G x) → ∃ xs : List Str, ys = xs.map V.str ∧ ∀ x ∈ xs, G x
  | [], _ => ⟨[], rfl, fun _ h => nomatch h⟩
  | y :: ys, h => by
    obtain ⟨x, rfl, g⟩ := h y List.mem_cons_self
    obtain ⟨xs, rfl, gs⟩ := strs_of (ys := ys) fun z hz => h z (List.mem_cons_of_mem _ hz)
    refine ⟨x :: xs, rfl, fun z hz => ?_⟩
    rcases List.mem_cons.mp hz with rfl | hz
    · exact g
    · exact gs z hz
theorem joinL_len (S : List Nat) : ∀ ps : List (List Nat), (joinL S ps).length ≤ (ps.map (·.length)).sum + ps.length * S.length
  | [] => Nat.zero_le _
  | [p] => by simp [joinL]
  | p :: q :: r => by
    have h := joinL_len S (q :: r)
    have e : joinL S (p :: q :: r) = p ++ (S ++ joinL S (q :: r)) := by first | rfl | simp [joinL]
    rw [e, List.length_append, List.length_append]
    simp only [List.map_cons, List.sum_cons, List.length_cons] at h ⊢
    rw [Nat.succ_mul]
    omega
theorem joinL_mem {S : List Nat} {c : Nat} : ∀ {ps : List (List Nat)}, c ∈ joinL S ps → c ∈ S ∨ ∃ p ∈ ps, c ∈ p
  | [], h => by simp [joinL] at h
  | [p], h => .inr ⟨p, by simp, by simpa [joinL] using h⟩
  | p :: q :: r, h => by
    have e : joinL S (p :: q :: r) = p ++ (S ++ joinL S (q :: r)) := by first | rfl | simp [joinL]
    rw [e] at h
    rcases List.mem_append.mp h with h | h
    · exact .inr ⟨p, by simp, h⟩
    · rcases List.mem_append.mp h with h | h
      · exact .inl h
      · rcases joinL_mem h with h | ⟨p', hp, h⟩
        · exact .inl h
        · exact .inr ⟨p', List.mem_cons_of_mem _ hp, h⟩
theorem joinL_nil : ∀ ps : List (List Nat), joinL [] ps = ps.flatten
  | [] => rfl
  | [p] => by simp [joinL]
  | p :: q :: r => by
    have e : joinL [] (p :: q :: r) = p ++ ([] ++ joinL [] (q :: r)) := by first | rfl | simp [joinL]
    rw [e, joinL_nil (q :: r)]
    rfl
theorem sum_le {B : Nat} : ∀ {l : List Nat}, (∀ x ∈ l, x ≤ B) → l.sum ≤ l.length * B
  | [], _ => Nat.zero_le _
  | x :: l, h => by
    have h1 := h x List.mem_cons_self
    have h2 := sum_le (l := l) fun y hy => h y (List.mem_cons_of_mem _ hy)
    rw [List.sum_cons, List.length_cons, Nat.succ_mul]
    omega
theorem lens_le {B : Nat} {xs : List Str} (h : ∀ x ∈ xs, x.length ≤ B) : (xs.map (·.length)).sum ≤ xs.length * B := by
  have q := sum_le (B := B) (l := xs.map (·.length)) fun n hn => by
    obtain ⟨x, hx, rfl⟩ := List.mem_map.mp hn
    exact h x hx
  rwa [List.length_map] at q
theorem tl_joined (a : Str) (xs : List Str) : tl (Txt.join a xs) = joinL (tl a) (xs.map tl) := by rw [join_eq, tl_join]
theorem len_joined (a : Str) (xs : List Str) : (Txt.join a xs).length ≤ (xs.map (·.length)).sum + xs.length * a.length := by
  rw [len_tl, tl_joined, len_tl a]
  have h := joinL_len (tl a) (xs.map tl)
  rw [List.length_map, List.map_map] at h
  have e : (xs.map (·.length)) = xs.map ((·.length) ∘ tl) := List.map_congr_left fun x _ => len_tl x
  rw [e]
  exact h
theorem mem_joined {a : Str} {xs : List Str} {c : Nat} (h : c ∈ tl (Txt.join a xs)) : c ∈ tl a ∨ ∃ x ∈ xs, c ∈ tl x := by
  rw [tl_joined] at h
  rcases joinL_mem h with h | ⟨p, hp, h⟩
  · exact .inl h
  · obtain ⟨x, hx, rfl⟩ := List.mem_map.mp hp
    exact .inr ⟨x, hx, h⟩
theorem tl_lit0 : tl (Str.ofString "") = [] := by rw [tl_ofString]; rfl
theorem len_ones : ∀ {xs : List Str}, (∀ x ∈ xs, ∃ c, x = ⟨#[c]⟩) → ((xs.map tl).flatten).length = xs.length
  | [], _ => rfl
  | x :: xs, h => by
    obtain ⟨c, rfl⟩ := h x List.mem_cons_self
    rw [List.map_cons, List.flatten_cons, List.length_append, len_ones fun y hy => h y (List.mem_cons_of_mem _ hy)]
    exact Nat.add_comm 1 _
section
variable {H : Hp} {Q : VK} {K : PySem.W.Frag} {p : Addr} {xs : List Str} {a : Str}
theorem rd_joinL (c : SqL K H p (xs.map V.str)) (b : (xs.map (·.length)).sum + xs.length * a.length ≤ 16777216) (h : Q (.str (Txt.join a xs)) H) : zJoin K (.str a) [.ref p] H Q := ⟨a, p, xs, rfl, rfl, .inl c, b, h⟩
end
theorem len_lit0 : (Str.ofString "").length = 0 := by rw [len_of]; rfl
theorem len_dot : (Str.ofString ".").length = 1 := by rw [len_of]; rfl
theorem tl_dot : tl (Str.ofString ".") = [46] := by rw [tl_ofString]; rfl
theorem rep_one {α : Type} (x : α) : ∀ k : Nat, (List.replicate k [x]).flatten = List.replicate k x
  | 0 => rfl
  | k + 1 => by rw [List.replicate_succ, List.flatten_cons, rep_one x k]; rfl
theorem len_ends : (Str.ofString "abcdefghijklmnopqrstuvwxyz0123456789-_+").length = 39 := by rw [len_of]; rfl
theorem len_ends2 : (Str.ofString "abcdefghijklmnopqrstuvwxyz0123456789").length = 36 := by rw [len_of]; rfl
theorem len_rs (x y : Str) : (Txt.rstripChars x y).length ≤ x.length := by first | exact PyProof.Rows.len_rstripChars x y | exact len_rstripChars x y | exact Txt.len_rstripChars x y
theorem rd_wLs {xs : List V} {H : Hp} {Q : VK} (c : xs.length ≤ 1000) (h : ∀ (p : Addr), H p = none → Q (.ref p) (upd H p (.lst xs))) : wLs xs H Q := ⟨line_of (by omega), h⟩
theorem rd_wTT {xs : List V} {H : Hp} {Q : VK} (c : xs.length ≤ 1000) (h : ∀ (p : Addr) (H' : Hp), H p = none → Same H H' → Tk H' p xs → Q (.ref p) H') : wTT xs H Q := ⟨line_of (by omega), fun p o n d => h p _ n (same_new n) (Tk.mk d)⟩
theorem rd_rep {p : Addr} {k : Int} {xs : List V} {H : Hp} {Q : VK} (e : H p = some (.lst xs)) (k0 : 0 ≤ k) (k1 : k ≤ 1000) (c : xs.length ≤ 1000) (h : ∀ q, H q = none → Q (.ref q) (upd H q (.lst (List.replicate k.toNat xs).flatten))) : rRep (.ref p) (.int k) H Q :=
  ⟨p, k, xs, rfl, rfl, e, by omega, by omega, line_of (Nat.le_trans (Nat.mul_le_mul c (show k.toNat ≤ 1000 by omega)) (by decide)), h⟩
def FrR (n : Nat) (g : TG) (tb : TS) (D : Ends) (σ : L2.St) (H : Hp) : Prop := ∃ W : Nat → Nat → L2.St → Hp → Prop, (∃ m, W 0 m σ H) ∧ ∀ i m σ H, W i m σ H →
  ((Itr 0 n).stop i H ∧ D.nx σ H) ∨ ((Itr 0 n).go i H ∧ ∃ N : L2.St → Hp → Prop, (∀ σ' H', N σ' H' → ∃ m', m' < m ∧ W (i + 1) m' σ' H') ∧ ∀ x H', (Itr 0 n).yld i H x H' → g x σ H' fun σ2 H2 => tb { D with nx := N, ct := N, bk := D.nx } σ2 H2)
def wTy (K : PySem.W.Frag) (T : String) (x : V) (H : Hp) (P : Prop) : Prop := tyV K T x H ∧ P
section
variable {σ : L2.St} {H : Hp} {Q : VK} {nx bk ct : L2.St → Hp → Prop} {rt : VK} {K : PySem.W.Frag} {as : TA} {ta : TE} {g : TG} {tb : TS} {n : Nat} {T : String} {f : V → List V → Hp → VK → Prop} {a : Addr} {xs : List V} {y : V} {P : Prop}
theorem rd_forR (h : as σ H fun zs H1 => wRg zs H1 fun n H2 => FrR n g tb ⟨nx, rt, bk, ct⟩ σ H2) : tFor (iRng1 as) g tb ⟨nx, rt, bk, ct⟩ σ H := by
  unfold tFor iRng1
  exact h
theorem forR (Pv : Nat → L2.St → Hp → Prop) (h0 : Pv 0 σ H) (hs : ∀ (i : Nat) σ H, i < n → Pv i σ H → g (.int (0 + (i : Nat))) σ H fun σ2 H2 => tb ⟨Pv (i + 1), rt, nx, Pv (i + 1)⟩ σ2 H2) (hd : ∀ σ H, Pv n σ H → nx σ H) :
    FrR n g tb ⟨nx, rt, bk, ct⟩ σ H := for_range (D := ⟨nx, rt, bk, ct⟩) Pv h0 hs hd
theorem rd_bm (h : ta σ H fun x H1 => wTy K T x H1 (as σ H1 fun xs H2 => f x xs H2 Q)) : tBM K T f ta as σ H Q := h
theorem rd_wTyL (c : SqL K H a xs) (h : P) : wTy K "list" (.ref a) H P := ⟨.inl ⟨rfl, _, c⟩, h⟩
theorem rd_append (e : H a = some (.lst xs)) (c : xs.length ≤ 1000) (h : Q .non (upd H a (.lst (xs ++ [y])))) : rAppend (.ref a) [y] H Q := ⟨a, xs, y, rfl, rfl, e, lt_line (by omega), h⟩
end
/-! ### signs below 128 -/
def Asc (x : Str) : Prop := ∀ c ∈ tl x, c < 128
theorem asc_app {x y : Str} (h : Asc x) (g : Asc y) : Asc (x ++ y) := fun c hc => by
  rw [tl_append] at hc
  rcases List.mem_append.mp hc with hc | hc
  · exact h c hc
  · exact g c hc
theorem asc_cut {x : Str} {lo hi : Option Int} (h : Asc x) : Asc (cutS x lo hi) := fun c hc => h c (List.mem_of_mem_drop (List.mem_of_mem_take (show c ∈ List.take _ (List.drop _ (tl x)) from hc)))
theorem asc_rs {x y : Str} (h : Asc x) : Asc (Txt.rstripChars x y) := fun c hc => by
  obtain ⟨j, _, e⟩ := PyProof.Rows.stripBy_right y.cps.contains x
  rw [show Txt.rstripChars x y = Builtin.Str.strSub x 0 j from e, tl_strSub] at hc
  exact h c (List.mem_of_mem_drop (List.mem_of_mem_take hc))
theorem asc_join {a : Str} {xs : List Str} (h : Asc a) (g : ∀ x ∈ xs, Asc x) : Asc (Txt.join a xs) := fun c hc => by
  rcases mem_joined hc with hc | ⟨x, hx, hc⟩
  · exact h c hc
  · exact g x hx c hc
theorem asc_of {x : Str} (h : x.cps.all (fun c => decide (c < 128)) = true) : Asc x := fun c hc => by
  rw [Array.all_eq_true'] at h
  exact of_decide_eq_true (h c (Array.mem_def.mpr hc))
theorem asc_one {c : Nat} (h : c < 128) : Asc ⟨#[c]⟩ := fun d hd => by
  rw [List.mem_singleton.mp hd]
  exact h
theorem asc_ends : Asc (Str.ofString "abcdefghijklmnopqrstuvwxyz0123456789-_+") := asc_of (by decide +kernel)
theorem asc_ends2 : Asc (Str.ofString "abcdefghijklmnopqrstuvwxyz0123456789") := asc_of (by decide +kernel)
theorem asc_dot : Asc (Str.ofString ".") := asc_of (by decide +kernel)
theorem asc_lit0 : Asc (Str.ofString "") := asc_of (by decide +kernel)
theorem ok_asc {x : Str} (h : Asc x) : PyData.strOk x = true := by
  unfold PyData.strOk
  rw [Array.all_eq_true']
  exact fun c hc => decide_eq_true (Nat.lt_trans (h c (Array.mem_def.mp hc)) (by decide))
theorem canLay_strs : ∀ {xs : List Str}, (∀ x ∈ xs, Asc x) → PyData.canLayAll0 (xs.map PyData.str) = true
  | [], _ => by simp [PyData.canLayAll0]
  | x :: xs, h => by
    simp only [List.map_cons, PyData.canLayAll0, PyData.canLay0, ok_asc (h x List.mem_cons_self), canLay_strs fun y hy => h y (List.mem_cons_of_mem _ hy), Bool.and_self]
theorem depth_strs : ∀ xs : List Str, PyData.depthAll (xs.map PyData.str) = 0
  | [] => by simp [PyData.depthAll]
  | x :: xs => by
    rw [List.map_cons, PyData.depthAll, PyData.depth, depth_strs xs]
    rfl
theorem shaped_strs {xs : List Str} (h : ∀ x ∈ xs, Asc x) : SeqAt.shaped (.tuple (xs.map PyData.str)) = true := by
  simp only [SeqAt.shaped, PyData.canLay0, PyData.depth, canLay_strs h, depth_strs]
  decide
theorem eqv_strs : ∀ xs ys : List Str, PyData.eqvAll (xs.map PyData.str) (ys.map PyData.str) = decide (xs = ys)
  | [], [] => by simp [PyData.eqvAll]
  | [], _ :: _ => by simp [PyData.eqvAll]
  | _ :: _, [] => by simp [PyData.eqvAll]
  | x :: xs, y :: ys => by
    simp only [List.map_cons, PyData.eqvAll, PyData.eqv, eqv_strs xs ys]
    by_cases h : x = y <;> by_cases h' : xs = ys <;> simp [h, h']
theorem dp_strs {K : PySem.W.Frag} {H : Hp} : ∀ xs : List Str, DpAll K H (xs.map V.str) (xs.map PyData.str)
  | [] => .nil
  | x :: xs => .cons (.str x) (dp_strs xs)
section
variable {K : PySem.W.Frag} {H : Hp} {Q : VK} {p q : Addr} {xs ys : List Str} {v : V} {t : Value} {a b : String} {r : Bool} {zs : List V}
theorem rd_neT (h1 : SqT K H p (xs.map V.str)) (h2 : SqT K H q (ys.map V.str)) (a1 : ∀ x ∈ xs, Asc x) (a2 : ∀ x ∈ ys, Asc x) (h : Q (.bl (!decide (xs = ys))) H) : rNeD K (.ref p) (.ref q) H Q :=
  ⟨_, _, .tup h1 (dp_strs xs), .tup h2 (dp_strs ys), shaped_strs a1, shaped_strs a2, by
    rw [show PyData.eqv (.tuple (xs.map PyData.str)) (.tuple (ys.map PyData.str)) = PyData.eqvAll (xs.map PyData.str) (ys.map PyData.str) by rw [PyData.eqv], eqv_strs]
    exact h⟩
theorem rd_eqT (h1 : SqT K H p (xs.map V.str)) (h2 : SqT K H q (ys.map V.str)) (a1 : ∀ x ∈ xs, Asc x) (a2 : ∀ x ∈ ys, Asc x) (h : Q (.bl (decide (xs = ys))) H) : rEqD K (.ref p) (.ref q) H Q :=
  ⟨_, _, .tup h1 (dp_strs xs), .tup h2 (dp_strs ys), shaped_strs a1, shaped_strs a2, by
    rw [show PyData.eqv (.tuple (xs.map PyData.str)) (.tuple (ys.map PyData.str)) = PyData.eqvAll (xs.map PyData.str) (ys.map PyData.str) by rw [PyData.eqv], eqv_strs]
    exact h⟩
theorem rd_isi (c : TyX K H v (.type a)) (e : kitB a b = some r) (h : Q (.bl r) H) : rIsi K [v, .ty b] H Q := ⟨v, .ty b, .type a, .type b, r, rfl, .ty b, c, kit_ty e, h⟩
theorem Tk.ty {p : Addr} {zs : List V} (h : Tk H p zs) : TyX K H (.ref p) (.type "tuple") := let ⟨_, _, e⟩ := h; .fTuple e
theorem inV_strs (z : Str) : ∀ xs : List Str, inV (.str z) (xs.map V.str) = decide (z ∈ xs)
  | [] => by simp [inV]
  | x :: xs => by
    have h := inV_strs z xs
    unfold inV at h ⊢
    rw [List.map_cons, List.any_cons, h]
    show ((x == z) || _) = _
    by_cases e : x = z
    · simp [e]
    · have e' : ¬ z = x := fun q => e q.symm
      simp [e, e']
theorem flat_strs' : ∀ xs : List Str, (xs.map V.str).all flatV = true
  | [] => rfl
  | x :: xs => by rw [List.map_cons, List.all_cons, flat_strs' xs]; rfl
theorem rd_inT {z : Str} (c : SqT K H p (xs.map V.str)) (h : Q (.bl (decide (z ∈ xs))) H) : rIn K false (.str z) (.ref p) H Q := ⟨p, _, rfl, .inr c, rfl, flat_strs' xs, by
  rw [inV_strs]
  exact h⟩
theorem rd_tup (c : SqL K H p zs) (h : ∀ (l : Addr) (H' : Hp), H l = none → Same H H' → Tk H' l zs → Q (.ref l) H') : zTup K [.ref p] H Q := ⟨p, zs, rfl, c, fun l o n d => h l _ n (same_new n) (Tk.mk d)⟩
end
/-! ### what is walked: a list, a tuple, a text -/
def WalkOf (J : It) (R : Hp → Prop) (xs : List V) : Prop := ∀ H, R H → (∀ i, i < xs.length → J.go i H) ∧ (∀ i x H', i < xs.length → J.yld i H x H' → H' = H ∧ xs[i]? = some x) ∧ ∀ i, xs.length ≤ i → J.stop i H
def oneS (c : Nat) : V := .str ⟨#[c]⟩
theorem walk_l {K : PySem.W.Frag} {a : Addr} {xs : List V} : WalkOf (Itl K a) (fun H => SqL K H a xs) xs := fun H h =>
  ⟨fun i hi => ⟨xs, xs[i], h, List.getElem?_eq_getElem hi⟩, fun i x H' hi y => ⟨y.1, y.2 xs h⟩, fun i hi => ⟨xs, h, hi⟩⟩
theorem walk_t {K : PySem.W.Frag} {a : Addr} {xs : List V} : WalkOf (Itt K a) (fun H => SqT K H a xs) xs := fun H h =>
  ⟨fun i hi => ⟨xs, xs[i], h, List.getElem?_eq_getElem hi⟩, fun i x H' hi y => ⟨y.1, y.2 xs h⟩, fun i hi => ⟨xs, h, hi⟩⟩
theorem walk_s {z : Str} : WalkOf (Its z) (fun _ => True) ((tl z).map oneS) := fun H _ => by
  have e : ((tl z).map oneS).length = z.cps.size := by rw [List.length_map, Array.length_toList]
  refine ⟨fun i hi => ?_, fun i x H' hi y => ?_, fun i hi => ?_⟩
  · rw [e] at hi
    exact hi
  · obtain ⟨e1, c, hc, rfl⟩ := y
    refine ⟨e1, ?_⟩
    rw [List.getElem?_map, Array.getElem?_toList, hc]
    rfl
  · rw [e] at hi
    exact hi
def LcJ (J : It) (g : TG) (tt : TT) (te : TE) (vs : List Nat) (σ : L2.St) (H1 : Hp) (D : Addr) (Qd : Hp → Prop) : Prop := ∃ W : Nat → Nat → Hp → Prop, (∃ m, W 0 m (upd H1 D (.lst []))) ∧ ∀ i m H, W i m H →
  (J.stop i H ∧ Qd H) ∨ (J.go i H ∧ ∃ Nx : Hp → Prop, (∀ H', Nx H' → ∃ m', m' < m ∧ W (i + 1) m' H') ∧ ∀ x H', J.yld i H x H' → g x (wipe σ vs) H' fun σ2 H2 => wipe σ2 vs = wipe σ vs ∧ tt σ2 H2 fun b H3 =>
    if b = true then te σ2 H3 fun y H4 => ∃ acc, H4 D = some (.lst acc) ∧ acc.length < sizeLine ∧ Nx (upd H4 D (.lst (acc ++ [y]))) else Nx H3)
def FrJ (J : It) (g : TG) (tb : TS) (D : Ends) (σ : L2.St) (H : Hp) : Prop := ∃ W : Nat → Nat → L2.St → Hp → Prop, (∃ m, W 0 m σ H) ∧ ∀ i m σ H, W i m σ H →
  (J.stop i H ∧ D.nx σ H) ∨ (J.go i H ∧ ∃ N : L2.St → Hp → Prop, (∀ σ' H', N σ' H' → ∃ m', m' < m ∧ W (i + 1) m' σ' H') ∧ ∀ x H', J.yld i H x H' → g x σ H' fun σ2 H2 => tb { D with nx := N, ct := N, bk := D.nx } σ2 H2)
def wSq (P : Hp → Addr → List V → Prop) (x : V) (H : Hp) (R : Addr → Hp → Prop) : Prop := ∃ a, x = V.ref a ∧ (∃ xs, P H a xs) ∧ R a H
def wStr (x : V) (H : Hp) (R : Str → Hp → Prop) : Prop := ∃ z, x = V.str z ∧ R z H
section
variable {σ : L2.St} {H H1 : Hp} {Q : VK} {nx bk ct : L2.St → Hp → Prop} {rt : VK} {K : PySem.W.Frag} {ta : TE} {g : TG} {tt : TT} {te : TE} {vs : List Nat} {tb : TS} {n j : Nat} {a D : Addr} {xs : List V} {J : It} {Rl : Hp → Prop} {Qd : Hp → Prop}
theorem rd_lcT (h : ta σ H fun x H1 => wSq (SqT K) x H1 fun a H2 => ∀ D, H2 D = none → LcJ (Itt K a) g tt te vs σ H2 D (Q (.ref D))) : tLc (iTup K ta) g tt te vs σ H Q := by
  unfold tLc iTup
  exact h
theorem rd_lcL (h : ta σ H fun x H1 => wSq (SqL K) x H1 fun a H2 => ∀ D, H2 D = none → LcJ (Itl K a) g tt te vs σ H2 D (Q (.ref D))) : tLc (iList K ta) g tt te vs σ H Q := by
  unfold tLc iList
  exact h
theorem rd_lcS (h : ta σ H fun x H1 => wStr x H1 fun z H2 => ∀ D, H2 D = none → LcJ (Its z) g tt te vs σ H2 D (Q (.ref D))) : tLc (iStr ta) g tt te vs σ H Q := by
  unfold tLc iStr
  exact h
theorem rd_frT (h : ta σ H fun x H1 => wSq (SqT K) x H1 fun a H2 => FrJ (Itt K a) g tb ⟨nx, rt, bk, ct⟩ σ H2) : tFor (iTup K ta) g tb ⟨nx, rt, bk, ct⟩ σ H := by
  unfold tFor iTup
  exact h
theorem rd_frL (h : ta σ H fun x H1 => wSq (SqL K) x H1 fun a H2 => FrJ (Itl K a) g tb ⟨nx, rt, bk, ct⟩ σ H2) : tFor (iList K ta) g tb ⟨nx, rt, bk, ct⟩ σ H := by
  unfold tFor iList
  exact h
theorem rd_wSq {P : Hp → Addr → List V → Prop} {R : Addr → Hp → Prop} (c : P H a xs) (h : R a H) : wSq P (.ref a) H R := ⟨a, rfl, ⟨xs, c⟩, h⟩
theorem rd_wStr {z : Str} {R : Str → Hp → Prop} (h : R z H) : wStr (.str z) H R := ⟨z, rfl, h⟩
theorem lcJ (Wk : WalkOf J Rl xs) (Pv : Nat → Hp → Prop) (h0 : Pv 0 (upd H1 D (.lst []))) (hl : ∀ i H, i ≤ xs.length → Pv i H → Rl H)
    (hs : ∀ i x H, xs[i]? = some x → Pv i H → g x (wipe σ vs) H fun σ2 H2 => wipe σ2 vs = wipe σ vs ∧ tt σ2 H2 fun b H3 =>
      if b = true then te σ2 H3 fun y H4 => ∃ acc, H4 D = some (.lst acc) ∧ acc.length < sizeLine ∧ Pv (i + 1) (upd H4 D (.lst (acc ++ [y]))) else Pv (i + 1) H3)
    (hd : ∀ H, Pv xs.length H → Qd H) : LcJ J g tt te vs σ H1 D Qd := by
  refine ⟨fun i m H => m = xs.length - i ∧ i ≤ xs.length ∧ Pv i H, ⟨xs.length, rfl, Nat.zero_le _, h0⟩, ?_⟩
  intro i m H hW
  obtain ⟨em, hi, p⟩ := hW
  obtain ⟨w1, w2, w3⟩ := Wk H (hl i H hi p)
  by_cases hlt : i < xs.length
  · refine .inr ⟨w1 i hlt, Pv (i + 1), fun H' p' => ⟨xs.length - (i + 1), by omega, rfl, hlt, p'⟩, fun x H' y => ?_⟩
    obtain ⟨e, y⟩ := w2 i x H' hlt y
    rw [e]
    exact hs i x H y p
  · have e : i = xs.length := by omega
    rw [e] at p
    exact .inl ⟨w3 i (by omega), hd H p⟩
theorem frJ (Wk : WalkOf J Rl xs) (Pv : Nat → L2.St → Hp → Prop) (h0 : Pv 0 σ H) (hl : ∀ i σ H, i ≤ xs.length → Pv i σ H → Rl H)
    (hs : ∀ i x σ H, xs[i]? = some x → Pv i σ H → g x σ H fun σ2 H2 => tb ⟨Pv (i + 1), rt, nx, Pv (i + 1)⟩ σ2 H2)
    (hd : ∀ σ H, Pv xs.length σ H → nx σ H) : FrJ J g tb ⟨nx, rt, bk, ct⟩ σ H := by
  refine ⟨fun i m σ H => m = xs.length - i ∧ i ≤ xs.length ∧ Pv i σ H, ⟨xs.length, rfl, Nat.zero_le _, h0⟩, ?_⟩
  intro i m σ H hW
  obtain ⟨em, hi, p⟩ := hW
  obtain ⟨w1, w2, w3⟩ := Wk H (hl i σ H hi p)
  by_cases hlt : i < xs.length
  · refine .inr ⟨w1 i hlt, Pv (i + 1), fun σ' H' p' => ⟨xs.length - (i + 1), by omega, rfl, hlt, p'⟩, fun x H' y => ?_⟩
    obtain ⟨e, y⟩ := w2 i x H' hlt y
    rw [e]
    exact hs i x σ H y p
  · have e : i = xs.length := by omega
    rw [e] at p
    exact .inl ⟨w3 i (by omega), hd σ H p⟩
theorem lcM (Wk : WalkOf J Rl xs) (hR : ∀ H, Same H1 H → Rl H) (nD : H1 D = none) (hn : xs.length ≤ 1000000) (keep : V → Bool) (f : V → V)
    (hs : ∀ x ∈ xs, ∀ H, Same H1 H → wipe ((wipe σ vs).set j (some x)) vs = wipe σ vs ∧ (∀ B : Bool → Hp → Prop, (∀ H', Same H H' → B (keep x) H') → tt ((wipe σ vs).set j (some x)) H B) ∧
      (keep x = true → ∀ H' (R : VK), Same H H' → (∀ H'', Same H' H'' → R (f x) H'') → te ((wipe σ vs).set j (some x)) H' R))
    (hd : ∀ H', Same H1 H' → H' D = some (.lst ((xs.filter keep).map f)) → Qd H') : LcJ J (gName j) tt te vs σ H1 D Qd := by
  refine lcJ Wk (fun i H => Same H1 H ∧ H D = some (.lst (((xs.take i).filter keep).map f))) ⟨same_new nD, by rw [upd_same]; rfl⟩ (fun i H _ p => hR H p.1) (fun i x H hx p => ?_) (fun H p => ?_)
  · obtain ⟨sm, e⟩ := p
    obtain ⟨h1, h2, h3⟩ := hs x (List.mem_of_getElem? hx) H sm
    refine ⟨h1, h2 _ fun H' s2 => ?_⟩
    have et : xs.take (i + 1) = xs.take i ++ [x] := by rw [List.take_add_one, hx]; rfl
    have hk : ∀ b, keep x = b → if b = true then te ((wipe σ vs).set j (some x)) H' fun y H4 => ∃ acc, H4 D = some (.lst acc) ∧ acc.length < sizeLine ∧ (Same H1 (upd H4 D (.lst (acc ++ [y]))) ∧ (upd H4 D (.lst (acc ++ [y]))) D = some (.lst (((xs.take (i + 1)).filter keep).map f)))
        else (Same H1 H' ∧ H' D = some (.lst (((xs.take (i + 1)).filter keep).map f))) := fun b hb => by
      cases b with
      | true =>
        refine iteT (h3 hb H' _ s2 fun H'' s3 => ?_)
        have eD : H'' D = some _ := s3 _ _ (s2 _ _ e)
        refine ⟨_, eD, ?_, fun b o eb => ?_, ?_⟩
        · refine lt_line ?_
          rw [List.length_map]
          have q1 := List.length_filter_le keep (xs.take i)
          rw [List.length_take] at q1
          omega
        · rw [upd_ne (ne_of_none eb nD)]
          exact s3 _ _ (s2 _ _ (sm _ _ eb))
        · rw [upd_same, et, List.filter_append, List.map_append, List.filter_cons, hb]
          rfl
      | false =>
        refine iteF ⟨sm.trans s2, ?_⟩
        rw [et, List.filter_append, List.map_append, List.filter_cons, hb, s2 _ _ e]
        simp
    exact hk (keep x) rfl
  · rw [List.take_length] at p
    exact hd H p.1 p.2
theorem lcM1 (Wk : WalkOf J Rl xs) (hR : ∀ H, Same H1 H → Rl H) (nD : H1 D = none) (hn : xs.length ≤ 1000000) (f : V → V)
    (hs : ∀ x ∈ xs, ∀ H (R : VK), Same H1 H → (∀ H'', Same H H'' → R (f x) H'') → wipe ((wipe σ vs).set j (some x)) vs = wipe σ vs ∧ te ((wipe σ vs).set j (some x)) H R)
    (hd : ∀ H', Same H1 H' → H' D = some (.lst (xs.map f)) → Qd H') : LcJ J (gName j) tYes te vs σ H1 D Qd := by
  refine lcM Wk hR nD hn (fun _ => true) f (fun x hx H sm => ⟨(hs x hx H (fun _ _ => True) sm fun _ _ => trivial).1, fun B h => h H (Same.refl H), fun _ H' R s2 q => (hs x hx H' R (sm.trans s2) q).2⟩) (fun H' sm e => hd H' sm ?_)
  rw [e, List.filter_eq_self.mpr fun _ _ => rfl]
theorem pe_kS {X : Cx} {x z : Str} {p : Pos} (hg : Gl X x) (hm : ∃ t, X.mg x = some (.str z t)) (hd : (x == ("__debug__" : Str)) = false := by decide) : PE X (.Name x p) (tC (.str z)) := by
  obtain ⟨t, e⟩ := hm
  exact pe_glob hg e ⟨t, rfl⟩ hd
theorem pe_kI {X : Cx} {x : Str} {z : Int} {p : Pos} (hg : Gl X x) (hm : ∃ t, X.mg x = some (.int z t)) (hd : (x == ("__debug__" : Str)) = false := by decide) : PE X (.Name x p) (tC (.int z)) := by
  obtain ⟨t, e⟩ := hm
  exact pe_glob hg e ⟨t, rfl⟩ hd
theorem rd_gTup {v : Addr} {gs : TGs} {QG : L2.St → Hp → Prop} (c : SqT K H v xs) (e : xs.length = n) (h : gs xs σ H QG) : gTup K n gs (.ref v) σ H QG := ⟨v, xs, rfl, c, e, h⟩
theorem rd_gCons {v : V} {r : List V} {gs : TGs} {QG : L2.St → Hp → Prop} (h : g v σ H fun σ' H' => gs r σ' H' QG) : gCons g gs (v :: r) σ H QG := ⟨v, r, rfl, h⟩
theorem rd_gNil {QG : L2.St → Hp → Prop} (h : QG σ H) : gNil [] σ H QG := ⟨rfl, h⟩
theorem rd_tix {tb : TE} (h : ta σ H fun x H1 => ∃ (p : Addr) (ys : List Str), x = .ref p ∧ Tk H1 p (ys.map V.str) ∧ tb σ H1 fun y H2 => ∃ (z : Str) (j : Nat), y = .str z ∧ Tk H2 p (ys.map V.str) ∧
  ys[j]? = some z ∧ (∀ m, m < j → ys[m]? ≠ some z) ∧ Q (.int (j : Nat)) H2) : zTIx ta tb σ H Q := h
end
/-! ### beginnings -/
theorem starts_tl (x y : Str) : Txt.startswith x y = ((tl x).take y.length == tl y) := by
  unfold Txt.startswith
  rw [StrLaws.subAt_eq, List.drop_zero]
  by_cases h : ((tl x).take y.length == tl y) = true
  · have e : (tl x).take y.length = tl y := eq_of_beq h
    have l := congrArg List.length e
    rw [List.length_take, ← len_tl, ← len_tl] at l
    rw [h, Bool.and_true]
    exact decide_eq_true (by omega)
  · rw [Bool.not_eq_true] at h
    rw [h, Bool.and_false]
theorem tl_cutTo (x : Str) (k : Nat) : tl (cutS x none (some (k : Int))) = (tl x).take k := by
  unfold cutS
  rw [tl_mk, HT.sIx_nat, HT.sIx_none, Nat.sub_zero, List.drop_zero]
  have e : x.length = (tl x).length := len_tl x
  rw [e]
  by_cases h : k ≤ (tl x).length
  · rw [Nat.min_eq_left h]
  · rw [Nat.min_eq_right (by omega), List.take_of_length_le (Nat.le_refl _), List.take_of_length_le (by omega)]
theorem tl_cutFrom (x : Str) (k : Nat) : tl (cutS x (some (k : Int)) none) = (tl x).drop k := by
  unfold cutS
  rw [tl_mk, HT.sIx_nat, HT.sIx_none]
  have e : x.length = (tl x).length := len_tl x
  rw [e]
  by_cases h : k ≤ (tl x).length
  · rw [Nat.min_eq_left h]
    exact List.take_of_length_le (by rw [List.length_drop]; exact Nat.le_refl _)
  · rw [Nat.min_eq_right (by omega), Nat.sub_self, List.take_zero]
    exact (List.drop_of_length_le (by omega)).symm
theorem len_at : (Str.ofString "@").length = 1 := by rw [len_of]; rfl
theorem len_tr : (Str.ofString "Received: by ").length = 13 := by rw [len_of]; rfl
theorem len_rec : (Str.ofString "Recipient: ").length = 11 := by rw [len_of]; rfl
theorem len_rea : (Str.ofString "Reason: ").length = 8 := by rw [len_of]; rfl
theorem len_lt : (Str.ofString "<").length = 1 := by rw [len_of]; rfl
theorem len_gt : (Str.ofString ">").length = 1 := by rw [len_of]; rfl
theorem len_mk (l : List Nat) : (⟨l.toArray⟩ : Str).length = l.length := by rw [len_tl]
theorem len_1 (c : Nat) : (⟨#[c]⟩ : Str).length = 1 := rfl
theorem take_none {ls : List Str} {z : Str} (h : z ∉ ls) : ls.takeWhile (fun x => !decide (x = z)) = ls := by
  induction ls with
  | nil => rfl
  | cons x xs ih =>
    have hx : ¬ x = z := fun e => h (e ▸ List.mem_cons_self)
    rw [List.takeWhile_cons, decide_eq_false hx, Bool.not_false, if_pos rfl, ih fun m => h (List.mem_cons_of_mem _ m)]
theorem take_at {z : Str} : ∀ {ls : List Str}, z ∈ ls → ∃ j, j < ls.length ∧ ls[j]? = some z ∧ (∀ m, m < j → ls[m]? ≠ some z) ∧ ls.takeWhile (fun x => !decide (x = z)) = ls.take j
  | [], h => nomatch h
  | x :: xs, h => by
    by_cases e : x = z
    · refine ⟨0, Nat.succ_pos _, by rw [e]; rfl, fun m hm => absurd hm (Nat.not_lt_zero m), ?_⟩
      rw [List.takeWhile_cons, decide_eq_true e, Bool.not_true, if_neg Bool.false_ne_true, List.take_zero]
    · obtain ⟨j, h1, h2, h3, h4⟩ := take_at (ls := xs) (by
        rcases List.mem_cons.mp h with q | q
        · exact absurd q.symm e
        · exact q)
      refine ⟨j + 1, Nat.succ_lt_succ h1, h2, fun m hm => ?_, ?_⟩
      · cases m with
        | zero => exact fun q => e (Option.some.inj q)
        | succ m => exact h3 m (Nat.lt_of_succ_lt_succ hm)
      · rw [List.takeWhile_cons, decide_eq_false e, Bool.not_false, if_pos rfl, h4, List.take_succ_cons]
theorem rd_slTto {K : PySem.W.Frag} {p : Addr} {xs : List V} {k : Nat} {H : Hp} {Q : VK} (c : SqT K H p xs) (hk : k < xs.length) (h : ∀ q, H q = none → Q (.ref q) (upd H q (.tup (xs.take k)))) : rSlT K (.ref p) none (some (k : Int)) H Q := by
  refine ⟨p, xs, rfl, c, fun z => ?_, fun q n => ?_⟩
  · have z2 := z.2
    rw [HT.sIx_nat] at z2
    omega
  · have e : cutV xs none (some (k : Int)) = xs.take k := by
      unfold cutV
      rw [HT.sIx_nat, HT.sIx_none, Nat.sub_zero, List.drop_zero, Nat.min_eq_left (by omega)]
    rw [e]
    exact h q n
theorem same_tup {K : PySem.W.Frag} {H H' : Hp} {a : Addr} {xs : List V} (e : Same H H') (h : SqT K H a xs) : SqT K H' a xs := by
  rcases h with (h | ⟨o, h⟩) | h
  · exact .inl (.inl (e _ _ h))
  · exact .inl (.inr ⟨o, e _ _ h⟩)
  · exact .inr h
theorem rd_iNT {A B : Prop} (h : B) : if (!true) = true then A else B := iteF h
theorem rd_iNF {A B : Prop} (h : A) : if (!false) = true then A else B := iteT h
theorem k_str {mg : Str → Option Value} {x y z : Str} {t : Tok} (a : mg x = some (.str z t)) (e : z = y) : ∃ t, mg x = some (.str y t) := ⟨t, by rw [a, e]⟩
theorem k_int {mg : Str → Option Value} {x : Str} {y z : Int} {t : Tok} (a : mg x = some (.int z t)) (e : z = y) : ∃ t, mg x = some (.int y t) := ⟨t, by rw [a, e]⟩
local macro_rules | `(tactic| walk_at "rd") => `(tactic| repeat (with_reducible first
  | refine rd_seq ?_ | refine rd_asg ?_ | refine rd_cons ?_ | refine rd_nil ?_ | refine rd_c ?_ | refine rd_op ?_
  | refine rd_v0 ?_ | refine rd_v1 ?_ | refine rd_v2 ?_ | refine rd_v3 ?_ | refine rd_v4 ?_ | refine rd_v5 ?_ | refine rd_v6 ?_ | refine rd_v7 ?_ | refine rd_v8 ?_ | refine rd_v9 ?_ | refine rd_v10 ?_ | refine rd_v11 ?_
  | refine rd_n0 ?_ | refine rd_n1 ?_ | refine rd_n2 ?_ | refine rd_n3 ?_ | refine rd_n4 ?_ | refine rd_n5 ?_ | refine rd_n6 ?_ | refine rd_n7 ?_ | refine rd_n8 ?_ | refine rd_n9 ?_ | refine rd_n10 ?_ | refine rd_n11 ?_
  | refine rd_i0 ?_ | refine rd_iC ?_ ?_ | refine rd_cb ?_ | refine rd_call ?_ | refine rd_test ?_ | refine rd_tB ?_ | refine rd_wBl ?_
  | refine rd_ifS ?_ | refine rd_ret ?_ | refine rd_next ?_ | refine rd_retN ?_ | refine rd_drop ?_
  | refine rd_eqI ?_ | refine rd_neI ?_ | refine rd_eqS ?_ | refine rd_neS ?_ | refine rd_un ?_ | refine rd_u ?_
  | refine rd_and ?_ | refine rd_or ?_ | refine rd_not ?_ | refine rd_notV ?_ | refine rd_andV ?_ | refine rd_orV ?_ | refine rd_ifE ?_ | refine rd_ch ?_ | refine rd_wCh ?_
  | refine rd_tt ?_ | refine rd_ls ?_ | refine rd_sl ?_ | refine rd_noP ?_ | refine rd_part ?_ | refine rd_wPart ?_ | refine rd_m1 ?_ | refine rd_wM ?_
  | refine rd_js ?_ | refine rd_jc ?_ | refine rd_jn ?_ | refine rd_wJs ?_ ?_ | refine rd_fmt ?_ | refine rd_fmtR ?_ | refine rd_wFmt ?_ ?_ | refine rd_wFmtR ?_ ?_
  | refine rd_lenS ?_ ?_ | refine rd_int ?_ | refine rd_intB ?_ | refine rd_starts ?_ | refine rd_ends ?_ | refine rd_rstrip ?_ ?_ | refine rd_adS ?_ ?_ | refine rd_slS ?_ ?_
  | refine rd_in1 ?_ | refine rd_isB ?_ | refine rd_isN ?_ | refine rd_notN ?_ | refine rd_iT ?_ | refine rd_iF ?_ | refine rd_yes ?_ | refine rd_truth ?_ | refine rd_lcR ?_ | refine rd_gSub ?_ | refine rd_forR ?_ | refine rd_bm ?_ | refine rd_lcT ?_ | refine rd_lcL ?_ | refine rd_lcS ?_ | refine rd_frT ?_ | refine rd_frL ?_ | refine rd_wStr ?_ | refine rd_gCons ?_ | refine rd_gNil ?_ | refine rd_tix ?_ | refine rd_iNT ?_ | refine rd_iNF ?_))
local macro_rules | `(tactic| walk_at "sd") => `(tactic| (refine line_of ?_; simp only [len_app, len_empty, len_lit0, len_dot, len_at, len_tr, len_rec, len_rea, len_lt, len_gt, len_mk, len_1]; decide))
local macro_rules | `(tactic| walk_at "sd") => `(tactic| (refine line_of ?_; simp only [len_app, len_empty, len_lit0, len_dot, len_at, len_tr, len_rec, len_rea, len_lt, len_gt, len_mk, len_1]; omega))
local macro_rules | `(tactic| walk_at "sd") => `(tactic| (refine line_of ?_; omega))
local macro_rules | `(tactic| walk_at "sd") => `(tactic| ((show (0 : Int) < _); omega))
local macro_rules | `(tactic| walk_at "sd") => `(tactic| ((show CPow _ _); exact ⟨by decide, by decide, by decide⟩))
local macro_rules | `(tactic| walk_at "sd") => `(tactic| ((show CMul _ _); first | exact .inl ⟨by decide, by decide⟩ | exact .inr ⟨by decide, by decide⟩))
local macro_rules | `(tactic| walk_at "sd") => `(tactic| with_reducible assumption)
local macro_rules | `(tactic| walk_at "rs") => `(tactic| (walk_at "rd"; all_goals try walk_at "sd"))
local macro_rules | `(tactic| walk_at "wp") => `(tactic| (simp only [List.map, wipe, List.set]; walk_at "rd"; all_goals try walk_at "sd"))
def topS (i : Nat) : Stmt := PySem.Challenge.pw_dawkline_k03_messages.main.body.getD i (.Pass ⟨0, 0, 0, 0⟩)
abbrev s_Lrefill : Stmt := topS 12
abbrev N_Lrefill : List Str := ["script", "k", "cell"]
theorem sc_Lrefill : FnScope N_Lrefill ["script", "k"] (defScope s_Lrefill) := ⟨rfl, rfl, rfl, by decide +kernel, rfl, by decide +kernel, by decide +kernel⟩
abbrev s_Ldraw : Stmt := topS 13
abbrev N_Ldraw : List Str := ["state", "script", "size", "digit"]
theorem sc_Ldraw : FnScope N_Ldraw ["state", "script", "size"] (defScope s_Ldraw) := ⟨rfl, rfl, rfl, by decide +kernel, rfl, by decide +kernel, by decide +kernel⟩
abbrev s_Lpick : Stmt := topS 16
abbrev N_Lpick : List Str := ["state", "script", "signs", "k"]
theorem sc_Lpick : FnScope N_Lpick ["state", "script", "signs"] (defScope s_Lpick) := ⟨rfl, rfl, rfl, by decide +kernel, rfl, by decide +kernel, by decide +kernel⟩
abbrev s_Ldomain : Stmt := topS 19
abbrev N_Ldomain : List Str := ["state", "script", "ends", "labels", "k", "middle"]
theorem sc_Ldomain : FnScope N_Ldomain ["state", "script"] (defScope s_Ldomain) := ⟨rfl, rfl, rfl, by decide +kernel, rfl, by decide +kernel, by decide +kernel⟩
abbrev s_Lhops : Stmt := topS 22
abbrev N_Lhops : List Str := ["lines", "count", "inside", "line"]
theorem sc_Lhops : FnScope N_Lhops ["lines"] (defScope s_Lhops) := ⟨rfl, rfl, rfl, by decide +kernel, rfl, by decide +kernel, by decide +kernel⟩
abbrev s_Lis_integer : Stmt := topS 11
abbrev N_Lis_integer : List Str := ["actual"]
theorem sc_Lis_integer : FnScope N_Lis_integer ["actual"] (defScope s_Lis_integer) := ⟨rfl, rfl, rfl, by decide +kernel, rfl, by decide +kernel, by decide +kernel⟩
abbrev s_Lline : Stmt := topS 20
abbrev N_Lline : List Str := ["state", "script", "pool", "kind", "signs", "k"]
theorem sc_Lline : FnScope N_Lline ["state", "script"] (defScope s_Lline) := ⟨rfl, rfl, rfl, by decide +kernel, rfl, by decide +kernel, by decide +kernel⟩
abbrev s_Llines : Stmt := topS 21
abbrev N_Llines : List Str := ["state", "script", "most", "k"]
theorem sc_Llines : FnScope N_Llines ["state", "script", "most"] (defScope s_Llines) := ⟨rfl, rfl, rfl, by decide +kernel, rfl, by decide +kernel, by decide +kernel⟩
abbrev s_Lword : Stmt := topS 17
abbrev N_Lword : List Str := ["state", "script", "signs", "most", "k"]
theorem sc_Lword : FnScope N_Lword ["state", "script", "signs", "most"] (defScope s_Lword) := ⟨rfl, rfl, rfl, by decide +kernel, rfl, by decide +kernel, by decide +kernel⟩
abbrev s_Llocal : Stmt := topS 18
abbrev N_Llocal : List Str := ["state", "script", "ends", "parts", "k"]
theorem sc_Llocal : FnScope N_Llocal ["state", "script"] (defScope s_Llocal) := ⟨rfl, rfl, rfl, by decide +kernel, rfl, by decide +kernel, by decide +kernel⟩
abbrev s_Lstuffed : Stmt := topS 23
abbrev N_Lstuffed : List Str := ["line"]
theorem sc_Lstuffed : FnScope N_Lstuffed ["line"] (defScope s_Lstuffed) := ⟨rfl, rfl, rfl, by decide +kernel, rfl, by decide +kernel, by decide +kernel⟩
abbrev s_head : Stmt := topS 6
abbrev N_head : List Str := ["lines"]
theorem sc_head : FnScope N_head ["lines"] (defScope s_head) := ⟨rfl, rfl, rfl, by decide +kernel, rfl, by decide +kernel, by decide +kernel⟩
abbrev s_hops : Stmt := topS 5
abbrev N_hops : List Str := ["lines", "line"]
theorem sc_hops : FnScope N_hops ["lines"] (defScope s_hops) := ⟨rfl, rfl, rfl, by decide +kernel, rfl, by decide +kernel, by decide +kernel⟩
abbrev s_format_address : Stmt := topS 1
abbrev N_format_address : List Str := ["address", "local", "domain"]
theorem sc_format_address : FnScope N_format_address ["address"] (defScope s_format_address) := ⟨rfl, rfl, rfl, by decide +kernel, rfl, by decide +kernel, by decide +kernel⟩
abbrev s_report : Stmt := topS 9
abbrev N_report : List Str := ["recipient", "reason"]
theorem sc_report : FnScope N_report ["recipient", "reason"] (defScope s_report) := ⟨rfl, rfl, rfl, by decide +kernel, rfl, by decide +kernel, by decide +kernel⟩
abbrev s_stuff : Stmt := topS 7
abbrev N_stuff : List Str := ["lines", "line"]
theorem sc_stuff : FnScope N_stuff ["lines"] (defScope s_stuff) := ⟨rfl, rfl, rfl, by decide +kernel, rfl, by decide +kernel, by decide +kernel⟩
abbrev s_trace : Stmt := topS 4
abbrev N_trace : List Str := ["domain"]
theorem sc_trace : FnScope N_trace ["domain"] (defScope s_trace) := ⟨rfl, rfl, rfl, by decide +kernel, rfl, by decide +kernel, by decide +kernel⟩
abbrev s_unstuff : Stmt := topS 8
abbrev N_unstuff : List Str := ["line"]
theorem sc_unstuff : FnScope N_unstuff ["line"] (defScope s_unstuff) := ⟨rfl, rfl, rfl, by decide +kernel, rfl, by decide +kernel, by decide +kernel⟩
abbrev s_law : Stmt := topS 24
abbrev N_law : List Str := ["script", "state", "lines", "count", "stuffed", "line", "address", "reason", "told"]
theorem sc_law : FnScope N_law ["script"] (defScope s_law) := ⟨rfl, rfl, rfl, by decide +kernel, rfl, by decide +kernel, by decide +kernel⟩
structure Tx (K : PySem.W.Frag) (mg : Str → Option Value) : Prop where
  d_Lrefill : Dn K mg "_law_refill" s_Lrefill ["script", "k"]
  d_Ldraw : Dn K mg "_law_draw" s_Ldraw ["state", "script", "size"]
  d_Lpick : Dn K mg "_law_pick" s_Lpick ["state", "script", "signs"]
  d_Ldomain : Dn K mg "_law_domain" s_Ldomain ["state", "script"]
  d_Lhops : Dn K mg "_law_hops" s_Lhops ["lines"]
  d_Lis_integer : Dn K mg "_law_is_integer" s_Lis_integer ["actual"]
  d_Lline : Dn K mg "_law_line" s_Lline ["state", "script"]
  d_Llines : Dn K mg "_law_lines" s_Llines ["state", "script", "most"]
  d_Lword : Dn K mg "_law_word" s_Lword ["state", "script", "signs", "most"]
  d_Llocal : Dn K mg "_law_local" s_Llocal ["state", "script"]
  d_Lstuffed : Dn K mg "_law_stuffed" s_Lstuffed ["line"]
  d_head : Dn K mg "head" s_head ["lines"]
  d_hops : Dn K mg "hops" s_hops ["lines"]
  d_format_address : Dn K mg "format_address" s_format_address ["address"]
  d_report : Dn K mg "report" s_report ["recipient", "reason"]
  d_stuff : Dn K mg "stuff" s_stuff ["lines"]
  d_trace : Dn K mg "trace" s_trace ["domain"]
  d_unstuff : Dn K mg "unstuff" s_unstuff ["line"]
  d_law : Dn K mg "law" s_law ["script"]
  c_TRACE_START : ∃ t, mg "TRACE_START" = some (.str (Str.ofString "Received: by ") t)
  z_int : mg "int" = none
  z_len : mg "len" = none
  z_range : mg "range" = none
  z_isinstance : mg "isinstance" = none
  z_bool : mg "bool" = none
  z_tuple : mg "tuple" = none

section
variable {P : Program} {w : World} {K : PySem.W.Frag} {mg : Str → Option Value} {base : Heap}
def spRefill (K : PySem.W.Frag) : Sp := fun vs H Q _ => ∃ (sc : Addr) (ns : List Int) (k : Int), vs = [.ref sc, .int k] ∧ SqL K H sc (ns.map V.int) ∧ ∀ j : Int, Q (.int j) H
theorem ok_Lrefill (T : Tx K mg) : OkD P w K mg base CX0 1 "_law_refill" ["script", "k"] (spRefill K) := by
  refine ok_mk T.d_Lrefill sc_Lrefill (fun vs H Q E h => ?_) (fun f cdv A outer s H vs Q E hr h => ?_)
  · obtain ⟨sc, ns, k, rfl, _⟩ := h
    rfl
  · obtain ⟨sc, ns, k, rfl, hS, q⟩ := h
    refine ⟨_, (pss_cons (ps_set (i := 2) sc_Lrefill.nd rfl (.inl rfl) pe_int)
      (pss_cons (ps_if (y_truth (pv 0) (by intro _; rfl)) (pss_one (ps_set (i := 2) sc_Lrefill.nd rfl (.inl rfl) (pe_ix ix_list (pv 0) (pe_op op_mod (pv 1) (pe_callB y_lenQ (by rfl) T.z_len (by decide +kernel) (pa_cons (pv 0) pa_nil))) (fun _ _ => rfl)))) pss_nil)
      (pss_cons (ps_if (pt_cmpR op_lt (pv 2) pe_int (nomark _)) (pss_one (ps_set (i := 2) sc_Lrefill.nd rfl (.inl rfl) (pe_op op_sub pe_int (pe_op op_mul pe_int (pv 2))))) pss_nil)
      (pss_cons (ps_if (PW.pt (pw_and (pt_cmpR op_ge (pv 2) (pe_op op_pow pe_int pe_int) (nomark _)) (pw_and1 (pt_cmpR op_lt (pv 1) (pe_callB y_lenQ (by rfl) T.z_len (by decide +kernel) (pa_cons (pv 0) pa_nil)) (nomark _))))) (pss_one (ps_ret (pv 2))) pss_nil)
      (pss_one (ps_ret (pe_op op_mod (pe_callTy y_int (by rfl) T.z_int (by decide +kernel) (pa_cons (pe_op op_add (pe_op op_mul (pe_callTy y_int (by rfl) T.z_int (by decide +kernel) (pa_cons (pe_op op_add (pe_op op_add (pe_op op_mul (pv 2) pe_int) (pe_op op_mul (pv 1) pe_int)) pe_int) pa_nil)) pe_int) pe_int) pa_nil)) pe_int))))))), ?_⟩
    rw [show start N_Lrefill [.ref sc, .int k] = [some (.ref sc), some (.int k), none] from rfl]
    walk_at "rs"
    refine rd_truL hS (if_b (fun e => ?_) (fun e => ?_))
    · walk_at "rs"
      have hl : 0 < ns.length := by
        cases ns with
        | nil => cases e
        | cons _ _ => exact Nat.succ_pos _
      refine rd_lenL hS ?_
      walk_at "rs"
      · obtain ⟨v, hv, ev⟩ := atI_in (xs := ns.map V.int) (i := k % ((ns.map V.int).length : Int)) (Int.emod_nonneg _ (by rw [List.length_map]; omega)) (Int.emod_lt_of_pos _ (by rw [List.length_map]; omega))
        obtain ⟨c, _, rfl⟩ := List.mem_map.mp hv
        refine rd_ixL hS ev ?_
        walk_at "rs"
        refine if_dec (fun _ => ?_) (fun _ => ?_) <;> walk_at "rs" <;> refine if_dec (fun _ => ?_) (fun _ => ?_) <;> walk_at "rs" <;> (try refine rd_lenL hS ?_) <;> walk_at "rs" <;> (try refine if_dec (fun _ => ?_) (fun _ => ?_)) <;> walk_at "rs" <;> exact q _
      · rw [List.length_map]
        omega
    · walk_at "rs"
      refine if_dec (fun _ => ?_) (fun _ => ?_) <;> walk_at "rs" <;> refine if_dec (fun _ => ?_) (fun _ => ?_) <;> walk_at "rs" <;> (try refine rd_lenL hS ?_) <;> walk_at "rs" <;> (try refine if_dec (fun _ => ?_) (fun _ => ?_)) <;> walk_at "rs" <;> exact q _
def spDraw (K : PySem.W.Frag) : Sp := fun vs H Q _ => ∃ (st sc : Addr) (ns : List Int) (z : Int), vs = [.ref st, .ref sc, .int z] ∧ Wd K st sc ns H ∧ 0 < z ∧ z < 1073741824 ∧
  ∀ d H', 0 ≤ d → d < z → Dr st H H' → Wd K st sc ns H' → Q (.int d) H'
theorem draw_i {st sc : Addr} {ns : List Int} {z : Int} {H : Hp} {Q : VK} {E : XK} (W : Wd K st sc ns H) (h0 : 0 < z) (h1 : z < 1073741824)
    (q : ∀ d H', 0 ≤ d → d < z → Dr st H H' → Wd K st sc ns H' → Q (.int d) H') : spDraw K [.ref st, .ref sc, .int z] H Q E := ⟨st, sc, ns, z, rfl, W, h0, h1, q⟩
theorem ok_Ldraw (T : Tx K mg) : OkD P w K mg base CX0 2 "_law_draw" ["state", "script", "size"] (spDraw K) := by
  refine ok_mk T.d_Ldraw sc_Ldraw (fun vs H Q E h => ?_) (fun f cdv A outer s H vs Q E hr h => ?_)
  · obtain ⟨st, sc, ns, z, rfl, _⟩ := h
    rfl
  · obtain ⟨st, sc, ns, z, rfl, W, h0, h1, q⟩ := h
    refine ⟨_, (pss_cons (ps_if (pt_cmpR op_eq (pe_ix ix_list (pv 0) pe_int (fun _ _ => rfl)) pe_int (nomark _)) (pss_cons (ps_asg (pe_callD (ok_Lrefill T) hr (by rfl) pass0 (pa_cons (pv 1) (pa_cons (pe_ix ix_list (pv 0) pe_int (fun _ _ => rfl)) pa_nil))) (pg_sub (pv 0) pe_int set_list))
      (pss_one (ps_asg (pe_op op_add (pe_ix ix_list (pv 0) pe_int (fun _ _ => rfl)) pe_int) (pg_sub (pv 0) pe_int set_list)))) pss_nil)
      (pss_cons (ps_set (i := 3) sc_Ldraw.nd rfl (.inl rfl) (pe_op op_mod (pe_callTy y_int (by rfl) T.z_int (by decide +kernel) (pa_cons (pe_ix ix_list (pv 0) pe_int (fun _ _ => rfl)) pa_nil)) (pv 2)))
      (pss_cons (ps_asg (pe_op op_fdivN (pe_ix ix_list (pv 0) pe_int (fun _ _ => rfl)) (pv 2)) (pg_sub (pv 0) pe_int set_list))
      (pss_one (ps_ret (pv 3)))))), ?_⟩
    rw [show start N_Ldraw [.ref st, .ref sc, .int z] = [some (.ref st), some (.ref sc), some (.int z), none] from rfl]
    have fin : ∀ (H1 : Hp) (k v : Int) (_ : Dr st H H1) (e : H1 st = some (.lst [.int k, .int v])), Q (.int (v % z)) (upd H1 st (.lst [.int k, .int (v.fdiv z)])) := fun H1 k v d e =>
      q _ _ (Int.emod_nonneg _ (by omega)) (Int.emod_lt_of_pos _ h0) d.upds (W.next d.upds)
    obtain ⟨k, v, e⟩ := W.1
    walk_at "rd"
    refine rd_ixL (SqL.of e) (i := 1) rfl ?_
    walk_at "rd"
    refine if_dec (fun _ => ?_) (fun _ => ?_)
    · walk_at "rd"
      refine rd_ixL (SqL.of e) (i := 0) rfl ?_
      walk_at "rd"
      refine ⟨sc, ns, k, rfl, W.list, fun j => ?_⟩
      walk_at "rd"
      refine rd_setL e (j := 1) rfl ?_
      walk_at "rd"
      refine rd_ixL (SqL.of upd_same) (i := 0) rfl ?_
      walk_at "rd"
      refine rd_setL upd_same (j := 0) rfl ?_
      walk_at "rd"
      refine rd_ixL (SqL.of upd_same) (i := 1) rfl ?_
      walk_at "rd"
      · refine rd_ixL (SqL.of upd_same) (i := 1) rfl ?_
        walk_at "rd"
        · refine rd_setL upd_same (j := 1) rfl ?_
          walk_at "rd"
          exact fin _ _ _ (Dr.upds (Dr.upds W.dr)) upd_same
        · exact ⟨by omega, by omega⟩
      · exact h0
    · walk_at "rd"
      refine rd_ixL (SqL.of e) (i := 1) rfl ?_
      walk_at "rd"
      · refine rd_ixL (SqL.of e) (i := 1) rfl ?_
        walk_at "rd"
        · refine rd_setL e (j := 1) rfl ?_
          walk_at "rd"
          exact fin _ _ _ W.dr e
        · exact ⟨by omega, by omega⟩
      · exact h0
def spPick (K : PySem.W.Frag) : Sp := fun vs H Q _ => ∃ (st sc : Addr) (ns : List Int) (z : Str), vs = [.ref st, .ref sc, .str z] ∧ Wd K st sc ns H ∧ 0 < z.length ∧ z.length < 1000 ∧
  ∀ c H', c ∈ tl z → Dr st H H' → Wd K st sc ns H' → Q (.str ⟨#[c]⟩) H'
theorem ok_Lpick (T : Tx K mg) : OkD P w K mg base CX0 3 "_law_pick" ["state", "script", "signs"] (spPick K) := by
  refine ok_mk T.d_Lpick sc_Lpick (fun vs H Q E h => ?_) (fun f cdv A outer s H vs Q E hr h => ?_)
  · obtain ⟨st, sc, ns, z, rfl, _⟩ := h
    rfl
  · obtain ⟨st, sc, ns, z, rfl, W, h0, h1, q⟩ := h
    refine ⟨_, (pss_cons (ps_set (i := 3) sc_Lpick.nd rfl (.inl rfl) (pe_callD (ok_Ldraw T) hr (by rfl) pass0 (pa_cons (pv 0) (pa_cons (pv 1) (pa_cons (pe_callB y_lenS (by rfl) T.z_len (by decide +kernel) (pa_cons (pv 2) pa_nil)) pa_nil)))))
      (pss_one (ps_ret (pe_slice sl_str (pv 2) (po_some (pv 3)) (po_some (pe_op op_add (pv 3) pe_int)))))), ?_⟩
    rw [show start N_Lpick [.ref st, .ref sc, .str z] = [some (.ref st), some (.ref sc), some (.str z), none] from rfl]
    have hz : z.length ≤ sizeLine := line_of (by omega)
    walk_at "rd"
    · refine draw_i W (by omega) (by omega) fun d H' d0 d1 D W' => ?_
      walk_at "rd"
      · obtain ⟨c, hc, ec⟩ := cut_one d0 d1
        rw [ec]
        exact q c H' hc D W'
      · exact hz
    · exact hz
def spWord (K : PySem.W.Frag) : Sp := fun vs H Q _ => ∃ (st sc : Addr) (ns : List Int) (z : Str) (m : Int), vs = [.ref st, .ref sc, .str z, .int m] ∧ Wd K st sc ns H ∧ 0 < z.length ∧ z.length < 1000 ∧ 0 < m ∧ m ≤ 100 ∧
  ∀ (x : Str) H', x.length ≤ m → 0 < x.length → (∀ c ∈ tl x, c ∈ tl z) → Dr st H H' → Wd K st sc ns H' → Q (.str x) H'
theorem ok_Lword (T : Tx K mg) : OkD P w K mg base CX0 4 "_law_word" ["state", "script", "signs", "most"] (spWord K) := by
  refine ok_mk T.d_Lword sc_Lword (fun vs H Q E h => ?_) (fun f cdv A outer s H vs Q E hr h => ?_)
  · obtain ⟨st, sc, ns, z, m, rfl, _⟩ := h
    rfl
  · obtain ⟨st, sc, ns, z, m, rfl, W, h0, h1, m0, m1, q⟩ := h
    refine ⟨_, (pss_one (ps_ret (pe_m1 PySem.F.slot_str_join PySem.F.type_str_join y_join pe_str (pe_lc (own := [("k", 4)]) (g := gName 4) rfl sc_Lword.nd (pi_range1 (by rfl) T.z_range (pa_cons (pe_op op_add pe_int (pe_callD (ok_Ldraw T) (hr.mono (by decide)) (by rfl) pass0 (pa_cons (pv 0) (pa_cons (pv 1) (pa_cons (pv 3) pa_nil))))) pa_nil)) (blkOk_by (N := N_Lword) (sc := defScope s_Lword) (by decide +kernel)) (fun _ _ _ _ _ => pg_name (i := 4) sc_Lword.nd rfl (Or.inl rfl)) (fun _ _ _ _ _ => pts_nil) (fun _ _ _ _ _ => (pe_callD (ok_Lpick T) hr (by rfl) pass0 (pa_cons (pv 0) (pa_cons (pv 1) (pa_cons (pv 2) pa_nil))))))))), ?_⟩
    rw [show start N_Lword [.ref st, .ref sc, .str z, .int m] = [some (.ref st), some (.ref sc), some (.str z), some (.int m), none] from rfl]
    walk_at "rd"
    refine draw_i W m0 (by omega) fun d H1 d0 d1 D1 W1 => ?_
    walk_at "rd"
    refine rd_wRg (by omega) (by omega) fun D nD => ?_
    refine lcR (G := fun y => ∃ c, c ∈ tl z ∧ y = .str ⟨#[c]⟩) W1 nD (by omega) (fun i H2 R hi W2 D2 r => ⟨rfl, ?_⟩) (fun H2 ys D2 W2 nS hD hl hg => ?_)
    · walk_at "wp"
      exact ⟨st, sc, ns, z, rfl, W2, h0, h1, fun c H' hc D' W' => r _ _ D' ⟨c, hc, rfl⟩⟩
    · obtain ⟨xs, rfl, hx⟩ := strs_of (G := fun x => ∃ c, c ∈ tl z ∧ x = ⟨#[c]⟩) (ys := ys) fun y hy => by
        obtain ⟨c, hc, e⟩ := hg y hy
        exact ⟨_, e, c, hc, rfl⟩
      have h1 : ∀ x ∈ xs, x.length ≤ 1 := fun x hx' => by
        obtain ⟨c, _, rfl⟩ := hx x hx'
        exact Nat.le_refl _
      have hs := lens_le h1
      rw [List.length_map] at hl
      refine rd_joinL (SqL.of hD) (by rw [len_lit0]; omega) ?_
      have e : (Txt.join (Str.ofString "") xs).length = xs.length := by
        rw [len_tl, tl_joined, tl_lit0, joinL_nil, len_ones fun x hx' => by
          obtain ⟨c, _, e⟩ := hx x hx'
          exact ⟨c, e⟩]
      refine q _ H2 (by rw [e]; omega) (by rw [e]; omega) (fun c hc => ?_) (D1.trans D2) W2
      rcases mem_joined hc with h | ⟨x, hx', h⟩
      · rw [tl_lit0] at h
        cases h
      · obtain ⟨c', hc', rfl⟩ := hx x hx'
        rw [List.mem_singleton.mp h]
        exact hc'
def spLocal (K : PySem.W.Frag) : Sp := fun vs H Q _ => ∃ (st sc : Addr) (ns : List Int), vs = [.ref st, .ref sc] ∧ Wd K st sc ns H ∧
  ∀ (x : Str) H', x.length ≤ 40 → Asc x → Dr st H H' → Wd K st sc ns H' → Q (.str x) H'
theorem ok_Llocal (T : Tx K mg) : OkD P w K mg base CX0 5 "_law_local" ["state", "script"] (spLocal K) := by
  refine ok_mk T.d_Llocal sc_Llocal (fun vs H Q E h => ?_) (fun f cdv A outer s H vs Q E hr h => ?_)
  · obtain ⟨st, sc, ns, rfl, _⟩ := h
    rfl
  · obtain ⟨st, sc, ns, rfl, W, q⟩ := h
    refine ⟨_, (pss_cons (ps_set (i := 2) sc_Llocal.nd rfl (.inr rfl) pe_str)
      (pss_cons (ps_setLc (i := 3) (own := [("k", 4)]) (g := gName 4) rfl sc_Llocal.nd rfl rfl (sw_true rfl rfl rfl (by decide +kernel)) (pi_range1 (by rfl) T.z_range (pa_cons (pe_op op_add pe_int (pe_callD (ok_Ldraw T) (hr.mono (by decide)) (by rfl) pass0 (pa_cons (pv 0) (pa_cons (pv 1) (pa_cons pe_int pa_nil))))) pa_nil)) (blkOk_by (N := N_Llocal) (sc := defScope s_Llocal) (by decide +kernel)) (fun _ _ _ _ _ => pg_name (i := 4) sc_Llocal.nd rfl (Or.inl rfl)) (fun _ _ _ _ _ => pts_nil) (fun _ _ _ _ _ => (pe_callD (ok_Lword T) hr (by rfl) pass0 (pa_cons (pv 0) (pa_cons (pv 1) (pa_cons (pv 2) (pa_cons pe_int pa_nil)))))))
      (pss_cons (ps_if (pt_cmpR op_eq (pe_callD (ok_Ldraw T) (hr.mono (by decide)) (by rfl) pass0 (pa_cons (pv 0) (pa_cons (pv 1) (pa_cons pe_int pa_nil)))) pe_int (nomark _)) (pss_one (ps_set (i := 3) sc_Llocal.nd rfl (.inl rfl) (pe_lst (pa_cons (pe_m1 PySem.F.slot_str_join PySem.F.type_str_join y_join pe_str (pe_op op_rep (pe_lst (pa_cons (pe_callD (ok_Lpick T) (hr.mono (by decide)) (by rfl) pass0 (pa_cons (pv 0) (pa_cons (pv 1) (pa_cons (pv 2) pa_nil)))) pa_nil)) (pe_op op_add pe_int (pe_callD (ok_Ldraw T) (hr.mono (by decide)) (by rfl) pass0 (pa_cons (pv 0) (pa_cons (pv 1) (pa_cons pe_int pa_nil))))))) (pa_cons (pe_ix ix_list (pv 3) pe_int (fun _ _ => rfl)) pa_nil))))) pss_nil)
      (pss_one (ps_ret (pe_m1 PySem.F.slot_str_rstrip PySem.F.type_str_rstrip y_rstrip (pe_slice sl_str (pe_m1 PySem.F.slot_str_join PySem.F.type_str_join y_join pe_str (pv 3)) po_none (po_some pe_int)) pe_str)))))), ?_⟩
    rw [show start N_Llocal [.ref st, .ref sc] = [some (.ref st), some (.ref sc), none, none, none] from rfl]
    walk_at "rs"
    refine draw_i W (by decide) (by decide) fun d1 H1 a0 a1 D1 W1 => ?_
    walk_at "rs"
    refine rd_wRg (by omega) (by omega) fun D nD => ?_
    refine lcR (G := fun y => ∃ x : Str, y = .str x ∧ (x.length ≤ 5 ∧ Asc x)) W1 nD (by omega) (fun i H2 R hi W2 D2 r => ⟨rfl, ?_⟩) (fun H2 ys D2 W2 nS hD hl hg => ?_)
    · walk_at "wp"
      exact ⟨st, sc, ns, _, 5, rfl, W2, by rw [len_ends]; decide, by rw [len_ends]; decide, by decide, by decide, fun x H' h1 h2 h3 D' W' => r _ _ D' ⟨x, rfl, by omega, fun c hc => asc_ends c (h3 c hc)⟩⟩
    · obtain ⟨xs, rfl, hx⟩ := strs_of hg
      have hs := lens_le fun x h => (hx x h).1
      rw [List.length_map] at hl
      walk_at "rs"
      refine draw_i W2 (by decide) (by decide) fun d3 H3 b0 b1 D3 W3 => ?_
      walk_at "rs"
      have hD3 : H3 D = some _ := D3.at nS hD
      refine if_dec (fun _ => ?_) (fun _ => ?_)
      · walk_at "rs"
        refine ⟨st, sc, ns, _, rfl, W3, by rw [len_ends]; decide, by rw [len_ends]; decide, fun c H4 hc D4 W4 => ?_⟩
        walk_at "rs"
        refine rd_wLs (Nat.le_of_ble_eq_true rfl) fun p np => ?_
        walk_at "rs"
        refine draw_i (W4.new np) (by decide) (by decide) fun d5 H5 c0 c1 D5 W5 => ?_
        walk_at "rs"
        have hp : H5 p = some _ := D5.at (W4.1.ne np) upd_same
        refine rd_rep hp (by omega) (by omega) (Nat.le_of_ble_eq_true rfl) fun p2 np2 => ?_
        walk_at "rs"
        have er : (List.replicate (18 + d5).toNat [V.str ⟨#[c]⟩]).flatten = (List.replicate (18 + d5).toNat (⟨#[c]⟩ : Str)).map V.str := by rw [rep_one, List.map_replicate]
        have e1 : ∀ x ∈ List.replicate (18 + d5).toNat (⟨#[c]⟩ : Str), x.length ≤ 1 := fun x hx' => by
          rw [(List.mem_replicate.mp hx').2]
          exact Nat.le_refl _
        have es := lens_le e1
        rw [List.length_replicate] at es
        have W6 := W5.new (o := .lst (List.replicate (18 + d5).toNat [V.str ⟨#[c]⟩]).flatten) np2
        refine rd_joinL (xs := List.replicate (18 + d5).toNat (⟨#[c]⟩ : Str)) (by rw [er]; exact SqL.of upd_same) (by rw [len_lit0, List.length_replicate]; omega) ?_
        have ej := len_joined (Str.ofString "") (List.replicate (18 + d5).toNat (⟨#[c]⟩ : Str))
        rw [len_lit0, List.length_replicate] at ej
        walk_at "rs"
        have kD : upd H5 p2 (.lst (List.replicate (18 + d5).toNat [V.str ⟨#[c]⟩]).flatten) D = some (.lst (xs.map V.str)) := by
          rw [upd_ne (ne_of_none (D5.at nS ((Dr.new W4.dr np).at nS (D4.at nS hD3))) np2)]
          exact D5.at nS ((Dr.new W4.dr np).at nS (D4.at nS hD3))
        obtain ⟨y, hy, ey⟩ := atI_in (xs := xs.map V.str) (i := 0) (by decide) (by rw [List.length_map]; omega)
        obtain ⟨y, hy', rfl⟩ := List.mem_map.mp hy
        obtain ⟨y5, ya⟩ := hx y hy'
        refine rd_ixL (SqL.of kD) ey ?_
        walk_at "rs"
        refine rd_wLs (Nat.le_of_ble_eq_true rfl) fun p3 np3 => ?_
        walk_at "rs"
        refine rd_joinL (xs := [Txt.join (Str.ofString "") (List.replicate (18 + d5).toNat (⟨#[c]⟩ : Str)), y]) (SqL.of upd_same) (by rw [len_dot]; simp only [List.map_cons, List.map_nil, List.sum_cons, List.sum_nil, List.length_cons, List.length_nil]; omega) ?_
        have ek := len_joined (Str.ofString ".") [Txt.join (Str.ofString "") (List.replicate (18 + d5).toNat (⟨#[c]⟩ : Str)), y]
        rw [len_dot] at ek
        simp only [List.map_cons, List.map_nil, List.sum_cons, List.sum_nil, List.length_cons, List.length_nil] at ek
        walk_at "rs"
        · refine q _ _ ?_ (asc_rs (asc_cut (asc_join asc_dot fun x hx' => ?_))) (Dr.new (Dr.new (((((D1.trans D2).trans D3).trans D4).trans (Dr.new W4.dr np)).trans D5) np2) np3) (W6.new np3)
          · exact Nat.le_trans (len_rs _ _) (Nat.le_trans (len_cut _ _ _) (by omega))
          · simp only [List.mem_cons, List.not_mem_nil, or_false] at hx'
            rcases hx' with rfl | rfl
            · exact asc_join asc_lit0 fun x hx' => by
                rw [(List.mem_replicate.mp hx').2]
                exact asc_one (asc_ends c hc)
            · exact ya
        · exact line_of (Nat.le_trans (len_cut _ _ _) (by omega))
      · walk_at "rs"
        refine rd_joinL (xs := xs) (SqL.of hD3) (by rw [len_dot]; omega) ?_
        have ek := len_joined (Str.ofString ".") xs
        rw [len_dot] at ek
        walk_at "rs"
        · refine q _ _ ?_ (asc_rs (asc_cut (asc_join asc_dot fun x hx' => (hx x hx').2))) ((D1.trans D2).trans D3) W3
          exact Nat.le_trans (len_rs _ _) (Nat.le_trans (len_cut _ _ _) (by omega))
        · exact line_of (Nat.le_trans (len_cut _ _ _) (by omega))
def spDomain (K : PySem.W.Frag) : Sp := fun vs H Q _ => ∃ (st sc : Addr) (ns : List Int), vs = [.ref st, .ref sc] ∧ Wd K st sc ns H ∧
  ∀ (x : Str) H', x.length ≤ 40 → Asc x → Dr st H H' → Wd K st sc ns H' → Q (.str x) H'
theorem ok_Ldomain (T : Tx K mg) : OkD P w K mg base CX0 4 "_law_domain" ["state", "script"] (spDomain K) := by
  refine ok_mk T.d_Ldomain sc_Ldomain (fun vs H Q E h => ?_) (fun f cdv A outer s H vs Q E hr h => ?_)
  · obtain ⟨st, sc, ns, rfl, _⟩ := h
    rfl
  · obtain ⟨st, sc, ns, rfl, W, q⟩ := h
    refine ⟨_, (pss_cons (ps_set (i := 2) sc_Ldomain.nd rfl (.inl rfl) pe_str)
      (pss_cons (ps_set (i := 3) sc_Ldomain.nd rfl (.inl rfl) (pe_lst pa_nil))
      (pss_cons (ps_for PassesOwn.never rfl (pi_range1 (by rfl) T.z_range (pa_cons (pe_op op_add pe_int (pe_callD (ok_Ldraw T) (hr.mono (by decide)) (by rfl) pass0 (pa_cons (pv 0) (pa_cons (pv 1) (pa_cons pe_int pa_nil))))) pa_nil)) (pg_name (i := 4) sc_Ldomain.nd rfl (Or.inl rfl)) (pss_cons (ps_set (i := 5) sc_Ldomain.nd rfl (.inl rfl) (pe_ix ix_list (pe_lst (pa_cons pe_str (pa_cons pe_str (pa_cons pe_str (pa_cons pe_str (pa_cons pe_str pa_nil)))))) (pe_callD (ok_Ldraw T) (hr.mono (by decide)) (by rfl) pass0 (pa_cons (pv 0) (pa_cons (pv 1) (pa_cons pe_int pa_nil)))) (fun _ _ => rfl)))
      (pss_one (ps_expr (pe_bm PySem.F.plainAttrs_list PySem.F.slot_list_append PySem.F.type_list_append mt_append (pv 3) (pa_cons (pe_op y_adS (pe_op y_adS (pe_callD (ok_Lpick T) hr (by rfl) pass0 (pa_cons (pv 0) (pa_cons (pv 1) (pa_cons (pv 2) pa_nil)))) (pv 5)) (pe_callD (ok_Lpick T) hr (by rfl) pass0 (pa_cons (pv 0) (pa_cons (pv 1) (pa_cons (pv 2) pa_nil))))) pa_nil))))))
      (pss_one (ps_ret (pe_m1 PySem.F.slot_str_join PySem.F.type_str_join y_join pe_str (pv 3))))))), ?_⟩
    rw [show start N_Ldomain [.ref st, .ref sc] = [some (.ref st), some (.ref sc), none, none, none, none] from rfl]
    walk_at "rs"
    refine rd_wLs (Nat.le_of_ble_eq_true rfl) fun L nL => ?_
    walk_at "rs"
    have WL := W.new (o := .lst []) nL
    have nLs : L ≠ st := W.1.ne nL
    refine draw_i WL (by decide) (by decide) fun d1 H1 a0 a1 D1 W1 => ?_
    walk_at "rs"
    have eL1 : H1 L = some _ := D1.at nLs upd_same
    refine rd_wRg (by omega) (by omega) ?_
    refine forR (fun i σ H' => Dr st H H' ∧ Wd K st sc ns H' ∧ ∃ k m, σ = [some (.ref st), some (.ref sc), some (.str (Str.ofString "abcdefghijklmnopqrstuvwxyz0123456789")), some (.ref L), k, m] ∧
      ∃ xs : List Str, H' L = some (.lst (xs.map V.str)) ∧ xs.length = i ∧ ∀ x ∈ xs, x.length ≤ 5 ∧ Asc x) ?_ (fun i σ H2 hi hP => ?_) (fun σ H2 hP => ?_)
    · exact ⟨(W.dr.new nL).trans D1, W1, none, none, rfl, [], eL1, rfl, fun _ h => nomatch h⟩
    · obtain ⟨D2, W2, k, m, rfl, xs, eL, el, ex⟩ := hP
      walk_at "rs"
      refine rd_wLs (Nat.le_of_ble_eq_true rfl) fun p np => ?_
      walk_at "rs"
      refine draw_i (W2.new np) (by decide) (by decide) fun d3 H3 b0 b1 D3 W3 => ?_
      have D3' := (Dr.same W2.1 (same_new np)).trans D3
      have eL3 : H3 L = some _ := D3'.at nLs eL
      have ep := D3.at (W2.1.ne np) upd_same
      obtain ⟨y, hy, ey⟩ := atI_in (xs := [V.str (Str.ofString ""), V.str (Str.ofString "-"), V.str (Str.ofString "--"), V.str (Str.ofString "x-y"), V.str (Str.ofString "z9")]) (i := d3) b0 b1
      have hy' : ∃ z : Str, y = .str z ∧ z.length ≤ 3 ∧ Asc z := by
        simp only [List.mem_cons, List.not_mem_nil, or_false] at hy
        rcases hy with rfl | rfl | rfl | rfl | rfl <;> exact ⟨_, rfl, by rw [len_of]; decide, asc_of (by decide +kernel)⟩
      obtain ⟨z, rfl, hz, za⟩ := hy'
      refine rd_ixL (SqL.of ep) ey ?_
      walk_at "rs"
      refine rd_wTyL (SqL.of eL3) ?_
      walk_at "rs"
      refine ⟨st, sc, ns, _, rfl, W3, by rw [len_ends2]; decide, by rw [len_ends2]; decide, fun c H4 hc D4 W4 => ?_⟩
      walk_at "rs"
      · refine ⟨st, sc, ns, _, rfl, W4, by rw [len_ends2]; decide, by rw [len_ends2]; decide, fun c' H5 hc' D5 W5 => ?_⟩
        walk_at "rs"
        · have eL5 : H5 L = some _ := D5.at nLs (D4.at nLs eL3)
          refine rd_append eL5 (by rw [List.length_map]; omega) ?_
          walk_at "rs"
          have D6 := Dr.put W.1 (((D2.trans D3').trans D4).trans D5) nL (o := .lst (xs.map V.str ++ [.str ((⟨#[c]⟩ : Str) ++ z ++ ⟨#[c']⟩)]))
          refine ⟨D6, W.next D6, some (.int (0 + (i : Nat))), some (.str z), rfl, xs ++ [(⟨#[c]⟩ : Str) ++ z ++ ⟨#[c']⟩], by rw [upd_same, List.map_append]; rfl, by rw [List.length_append, el]; rfl, fun x hx => ?_⟩
          rcases List.mem_append.mp hx with hx | hx
          · exact ex x hx
          · rw [List.mem_singleton.mp hx]
            refine ⟨?_, asc_app (asc_app (asc_one (asc_ends2 c hc)) za) (asc_one (asc_ends2 c' hc'))⟩
            rw [len_app, len_app]
            show 1 + z.length + 1 ≤ 5
            omega
        · rw [len_app]
          show (1 + z.length) + 1 ≤ _
          exact line_of (by omega)
      · show 1 + z.length ≤ _
        exact line_of (by omega)
    · obtain ⟨D2, W2, k, m, rfl, xs, eL, el, ex⟩ := hP
      walk_at "rs"
      have es := lens_le fun x h => (ex x h).1
      refine rd_joinL (SqL.of eL) (by rw [len_dot]; omega) ?_
      have ek := len_joined (Str.ofString ".") xs
      rw [len_dot] at ek
      walk_at "rs"
      exact q _ _ (by omega) (asc_join asc_dot fun x h => (ex x h).2) D2 W2
end


/-! ### what the program computes -/
abbrev trS : Str := Str.ofString "Received: by "
abbrev dotS : Str := Str.ofString "."
abbrev empS : Str := Str.ofString ""
def headL (ls : List Str) : List Str := ls.takeWhile fun x => !decide (x = empS)
def hopsL (ls : List Str) : Nat := ((headL ls).filter fun x => Txt.startswith x trS).length
def stuffL (x : Str) : Str := if Txt.startswith x dotS = true then ⟨(46 :: tl x).toArray⟩ else x
def unstuffL (x : Str) : Str := if Txt.startswith x dotS = true then cutS x (some 1) none else x
theorem asc_tr : Asc trS := asc_of (by decide +kernel)
section
variable {P : Program} {w : World} {K : PySem.W.Frag} {mg : Str → Option Value} {base : Heap}
def spIsInt (K : PySem.W.Frag) : Sp := fun vs H Q _ => ∃ i : Int, vs = [.int i] ∧ Q (.bl true) H
theorem ok_Lis_integer (T : Tx K mg) : OkD P w K mg base CX0 1 "_law_is_integer" ["actual"] (spIsInt K) := by
  refine ok_mk T.d_Lis_integer sc_Lis_integer (fun vs H Q E h => ?_) (fun f cdv A outer s H vs Q E hr h => ?_)
  · obtain ⟨i, rfl, _⟩ := h
    rfl
  · obtain ⟨i, rfl, q⟩ := h
    refine ⟨_, (pss_one (ps_ret (pe_and (pe_callB call_isi (by rfl) T.z_isinstance (by decide +kernel) (pa_cons (pv 0) (pa_cons (pe_bltn (v := .ty "int") (by rfl) T.z_int (by decide +kernel) rfl) pa_nil))) (pe_one (pe_not (pe_callB call_isi (by rfl) T.z_isinstance (by decide +kernel) (pa_cons (pv 0) (pa_cons (pe_bltn (v := .ty "bool") (by rfl) T.z_bool (by decide +kernel) rfl) pa_nil)))))))), ?_⟩
    rw [show start N_Lis_integer [.int i] = [some (.int i)] from rfl]
    walk_at "rs"
    refine rd_isi (.base (.int i)) (r := true) (by decide +kernel) ?_
    walk_at "rs"
    refine rd_isi (.base (.int i)) (r := false) (by decide +kernel) ?_
    walk_at "rs"
    exact q
def spFmt (K : PySem.W.Frag) : Sp := fun vs H Q _ => ∃ (a : Addr) (l d : Str), vs = [.ref a] ∧ Tk H a [.str l, .str d] ∧ l.length ≤ 1000 ∧ d.length ≤ 1000 ∧ ∀ y : Str, tl y = tl l ++ 64 :: tl d → Q (.str y) H
theorem ok_format_address (T : Tx K mg) : OkD P w K mg base CX0 1 "format_address" ["address"] (spFmt K) := by
  refine ok_mk T.d_format_address sc_format_address (fun vs H Q E h => ?_) (fun f cdv A outer s H vs Q E hr h => ?_)
  · obtain ⟨a, l, d, rfl, _⟩ := h
    rfl
  · obtain ⟨a, l, d, rfl, t, hl, hd, q⟩ := h
    refine ⟨_, (pss_cons (ps_asg (pv 0) (pg_tup (by rfl) (pgs_cons (pg_name (i := 1) sc_format_address.nd rfl (Or.inl rfl)) (pgs_cons (pg_name (i := 2) sc_format_address.nd rfl (Or.inl rfl)) pgs_nil))))
      (pss_one (ps_ret (y_joined (.cons (pe_fmt (pv 1)) (.cons pe_str (.cons (pe_fmt (pv 2)) .nil))))))), ?_⟩
    rw [show start N_format_address [.ref a] = [some (.ref a), none, none] from rfl]
    walk_at "rs"
    refine rd_gTup t.seq rfl ?_
    walk_at "rs"
    · refine q _ ?_
      rw [tl_append, tl_append, tl_append, tl_empty, List.nil_append, List.append_assoc, tl_ofString]
      rfl
def spTrace (K : PySem.W.Frag) : Sp := fun vs H Q _ => ∃ (d : Str), vs = [.str d] ∧ d.length ≤ 1000 ∧ ∀ y : Str, tl y = tl trS ++ tl d → Q (.str y) H
theorem ok_trace (T : Tx K mg) : OkD P w K mg base CX0 1 "trace" ["domain"] (spTrace K) := by
  refine ok_mk T.d_trace sc_trace (fun vs H Q E h => ?_) (fun f cdv A outer s H vs Q E hr h => ?_)
  · obtain ⟨d, rfl, _⟩ := h
    rfl
  · obtain ⟨d, rfl, hd, q⟩ := h
    refine ⟨_, (pss_one (ps_ret (y_joined (.cons (pe_fmt (pe_kS (by rfl) T.c_TRACE_START)) (.cons (pe_fmt (pv 0)) .nil))))), ?_⟩
    rw [show start N_trace [.str d] = [some (.str d)] from rfl]
    walk_at "rs"
    · refine q _ ?_
      rw [tl_append, tl_append, tl_empty, List.nil_append]
def spHead (K : PySem.W.Frag) : Sp := fun vs H Q _ => ∃ (a : Addr) (ls : List Str), vs = [.ref a] ∧ Tk H a (ls.map V.str) ∧ ∀ p H', Same H H' → SqT K H' p ((headL ls).map V.str) → Q (.ref p) H'
theorem ok_head (T : Tx K mg) : OkD P w K mg base CX0 1 "head" ["lines"] (spHead K) := by
  refine ok_mk T.d_head sc_head (fun vs H Q E h => ?_) (fun f cdv A outer s H vs Q E hr h => ?_)
  · obtain ⟨a, ls, rfl, _⟩ := h
    rfl
  · obtain ⟨a, ls, rfl, t, q⟩ := h
    refine ⟨_, (pss_cons (ps_if (pt_cmpR op_in_seq pe_str (pv 0) (by rfl)) (pss_one (ps_ret (pe_slice sl_tup (pv 0) po_none (po_some (y_tix (pv 0) pe_str))))) pss_nil)
      (pss_one (ps_ret (pv 0)))), ?_⟩
    rw [show start N_head [.ref a] = [some (.ref a)] from rfl]
    walk_at "rs"
    refine rd_inT t.seq ?_
    walk_at "rs"
    refine if_dec (fun e => ?_) (fun e => ?_)
    · walk_at "rs"
      obtain ⟨j, hj, ej, nj, et⟩ := take_at e
      refine ⟨a, ls, rfl, t, ?_⟩
      walk_at "rs"
      refine ⟨_, j, rfl, t, ej, nj, ?_⟩
      walk_at "rs"
      refine rd_slTto t.seq (by rw [List.length_map]; exact hj) fun p np => ?_
      refine q p _ (same_new np) ?_
      unfold headL
      rw [et, List.map_take]
      exact SqT.of upd_same
    · walk_at "rs"
      refine q _ _ (Same.refl H) ?_
      rw [show headL ls = ls from take_none e]
      exact t.seq
def spStuff (K : PySem.W.Frag) : Sp := fun vs H Q _ => ∃ (a : Addr) (ls : List Str), vs = [.ref a] ∧ Tk H a (ls.map V.str) ∧ ls.length ≤ 1000 ∧ (∀ x ∈ ls, x.length ≤ 1000) ∧ ∀ p H', Same H H' → Tk H' p ((ls.map stuffL).map V.str) → Q (.ref p) H'
theorem ok_stuff (T : Tx K mg) : OkD P w K mg base CX0 1 "stuff" ["lines"] (spStuff K) := by
  refine ok_mk T.d_stuff sc_stuff (fun vs H Q E h => ?_) (fun f cdv A outer s H vs Q E hr h => ?_)
  · obtain ⟨a, ls, rfl, _⟩ := h
    rfl
  · obtain ⟨a, ls, rfl, t, hn, hl, q⟩ := h
    refine ⟨_, (pss_one (ps_ret (pe_callTy y_tup (by rfl) T.z_tuple (by decide +kernel) (pa_cons (pe_lc (own := [("line", 1)]) (g := gName 1) rfl sc_stuff.nd (pi_tup (pv 0)) (blkOk_by (N := N_stuff) (sc := defScope s_stuff) (by decide +kernel)) (fun _ _ _ _ _ => pg_name (i := 1) sc_stuff.nd rfl (Or.inl rfl)) (fun _ _ _ _ _ => pts_nil) (fun _ _ _ _ _ => (pe_ifExp (pt_val (pe_m1 PySem.F.slot_str_startswith PySem.F.type_str_startswith y_starts (pv 1) pe_str)) (y_joined (.cons pe_str (.cons (pe_fmt (pv 1)) .nil))) (pv 1)))) pa_nil)))), ?_⟩
    rw [show start N_stuff [.ref a] = [some (.ref a), none] from rfl]
    walk_at "rs"
    refine rd_wSq t.seq fun D nD => ?_
    refine lcM1 walk_t (fun H' sm => (t.same sm).seq) nD (by rw [List.length_map]; omega) (fun v => match v with | .str x => .str (stuffL x) | v => v) (fun v hv H2 R sm r => ?_) (fun H2 sm e => ?_)
    · obtain ⟨x, hx, rfl⟩ := List.mem_map.mp hv
      have hxl := hl x hx
      refine ⟨rfl, ?_⟩
      walk_at "wp"
      refine if_b (fun e => ?_) (fun e => ?_)
      · walk_at "rs"
        have ee : Str.empty ++ Str.ofString "." ++ x = stuffL x := by
          unfold stuffL
          rw [if_pos e]
          refine ext_tl ?_
          rw [tl_append, tl_append, tl_empty, tl_dot]
          rfl
        rw [ee]
        exact r _ (Same.refl _)
      · walk_at "rs"
        have ee : x = stuffL x := by
          unfold stuffL
          rw [e]
          rfl
        have r' : R (.str (stuffL x)) H2 := r _ (Same.refl _)
        rw [← ee] at r'
        exact r'
    · walk_at "rs"
      refine rd_tup (SqL.of e) fun p H3 np sm3 t3 => ?_
      refine q p H3 (sm.trans sm3) ?_
      rw [List.map_map] at t3
      rw [List.map_map]
      exact t3
def spUnstuff (K : PySem.W.Frag) : Sp := fun vs H Q _ => ∃ (x : Str), vs = [.str x] ∧ x.length ≤ 1000 ∧ Q (.str (unstuffL x)) H
theorem ok_unstuff (T : Tx K mg) : OkD P w K mg base CX0 1 "unstuff" ["line"] (spUnstuff K) := by
  refine ok_mk T.d_unstuff sc_unstuff (fun vs H Q E h => ?_) (fun f cdv A outer s H vs Q E hr h => ?_)
  · obtain ⟨x, rfl, _⟩ := h
    rfl
  · obtain ⟨x, rfl, hx, q⟩ := h
    refine ⟨_, (pss_one (ps_ret (pe_ifExp (pt_val (pe_m1 PySem.F.slot_str_startswith PySem.F.type_str_startswith y_starts (pv 0) pe_str)) (pe_slice sl_str (pv 0) (po_some pe_int) po_none) (pv 0)))), ?_⟩
    rw [show start N_unstuff [.str x] = [some (.str x)] from rfl]
    walk_at "rs"
    refine if_b (fun e => ?_) (fun e => ?_)
    · walk_at "rs"
      unfold unstuffL at q
      rw [if_pos e] at q
      exact q
    · walk_at "rs"
      unfold unstuffL at q
      rw [e] at q
      exact q
def spReport (K : PySem.W.Frag) : Sp := fun vs H Q _ => ∃ (a : Addr) (l d r : Str), vs = [.ref a, .str r] ∧ Tk H a [.str l, .str d] ∧ l.length ≤ 1000 ∧ d.length ≤ 1000 ∧ r.length ≤ 1000 ∧
  ∀ (y1 y2 : Str) p H', Same H H' → tl y1 = tl (Str.ofString "Recipient: ") ++ (tl l ++ 64 :: tl d) → tl y2 = tl (Str.ofString "Reason: ") ++ tl r → Tk H' p ([Str.ofString "Subject: undelivered", empS, y1, y2].map V.str) → Q (.ref p) H'
theorem ok_report (T : Tx K mg) : OkD P w K mg base CX0 2 "report" ["recipient", "reason"] (spReport K) := by
  refine ok_mk T.d_report sc_report (fun vs H Q E h => ?_) (fun f cdv A outer s H vs Q E hr h => ?_)
  · obtain ⟨a, l, d, r, rfl, _⟩ := h
    rfl
  · obtain ⟨a, l, d, r, rfl, t, hl, hd, hr', q⟩ := h
    refine ⟨_, (pss_one (ps_ret (y_tt (pa_cons pe_str (pa_cons pe_str (pa_cons (y_joined (.cons pe_str (.cons (pe_fmt (pe_callD (ok_format_address T) hr (by rfl) pass0 (pa_cons (pv 0) pa_nil))) .nil))) (pa_cons (y_joined (.cons pe_str (.cons (pe_fmt (pv 1)) .nil))) pa_nil))))))), ?_⟩
    rw [show start N_report [.ref a, .str r] = [some (.ref a), some (.str r)] from rfl]
    walk_at "rs"
    refine ⟨a, l, d, rfl, t, hl, hd, fun y ey => ?_⟩
    have yl : y.length ≤ 2001 := by
      rw [len_tl, ey, List.length_append, List.length_cons, ← len_tl, ← len_tl]
      omega
    walk_at "rs"
    refine rd_wTT (Nat.le_of_ble_eq_true rfl) fun p H' np sm t' => ?_
    refine q _ _ p H' sm ?_ ?_ t'
    · rw [tl_append, tl_append, tl_empty, ← ey]
      rfl
    · rw [tl_append, tl_append, tl_empty]
      rfl
def spHops (K : PySem.W.Frag) : Sp := fun vs H Q _ => ∃ (a : Addr) (ls : List Str), vs = [.ref a] ∧ Tk H a (ls.map V.str) ∧ ls.length ≤ 1000 ∧ ∀ H', Same H H' → Q (.int (hopsL ls : Nat)) H'
theorem head_len (ls : List Str) : (headL ls).length ≤ ls.length := (List.takeWhile_sublist _).length_le
theorem ok_hops (T : Tx K mg) : OkD P w K mg base CX0 2 "hops" ["lines"] (spHops K) := by
  refine ok_mk T.d_hops sc_hops (fun vs H Q E h => ?_) (fun f cdv A outer s H vs Q E hr h => ?_)
  · obtain ⟨a, ls, rfl, _⟩ := h
    rfl
  · obtain ⟨a, ls, rfl, t, hn, q⟩ := h
    refine ⟨_, (pss_one (ps_ret (pe_callB y_lenQ (by rfl) T.z_len (by decide +kernel) (pa_cons (pe_lc (own := [("line", 1)]) (g := gName 1) rfl sc_hops.nd (pi_tup (pe_callD (ok_head T) hr (by rfl) pass0 (pa_cons (pv 0) pa_nil))) (blkOk_by (N := N_hops) (sc := defScope s_hops) (by decide +kernel)) (fun _ _ _ _ _ => pg_name (i := 1) sc_hops.nd rfl (Or.inl rfl)) (fun _ _ _ _ _ => (pts_one (pt_val (pe_m1 PySem.F.slot_str_startswith PySem.F.type_str_startswith y_starts (pv 1) (pe_kS (by rfl) T.c_TRACE_START))))) (fun _ _ _ _ _ => (pv 1))) pa_nil)))), ?_⟩
    rw [show start N_hops [.ref a] = [some (.ref a), none] from rfl]
    walk_at "rs"
    refine ⟨a, ls, rfl, t, fun p H1 sm c => ?_⟩
    walk_at "rs"
    have hh := head_len ls
    refine rd_wSq c fun D nD => ?_
    refine lcM walk_t (fun H' sm' => same_tup sm' c) nD (by rw [List.length_map]; omega) (fun v => match v with | .str x => Txt.startswith x trS | _ => false) (fun v => v) (fun v hv H2 sm2 => ?_) (fun H2 sm2 e => ?_)
    · obtain ⟨x, hx, rfl⟩ := List.mem_map.mp hv
      refine ⟨rfl, fun B hB => ?_, fun _ H3 R sm3 r => ?_⟩
      · walk_at "wp"
        exact hB _ (Same.refl _)
      · walk_at "wp"
        exact r _ (Same.refl _)
    · walk_at "rs"
      refine rd_lenL (SqL.of e) ?_
      have el : (List.map (fun v => v) (List.filter (fun v => match v with | .str x => Txt.startswith x trS | _ => false) ((headL ls).map V.str))).length = hopsL ls := by
        rw [List.length_map, List.filter_map, List.length_map]
        rfl
      rw [el]
      exact q _ (sm.trans sm2)
end

section
variable {P : Program} {w : World} {K : PySem.W.Frag} {mg : Str → Option Value} {base : Heap}
def spLine (K : PySem.W.Frag) : Sp := fun vs H Q _ => ∃ (st sc : Addr) (ns : List Int), vs = [.ref st, .ref sc] ∧ Wd K st sc ns H ∧
  ∀ (x : Str) H', x.length ≤ 20 → Asc x → Dr st H H' → Wd K st sc ns H' → Q (.str x) H'
theorem len_signs : (Str.ofString " !\"#$&'()*+,-./0123456789:;<=>?@ABCDEFGHIJKLMNOPQRSTUVWXYZ[\\]^_`abcdefghijklmnopqrstuvwxyz{|}~").length = 94 := by rw [len_of]; rfl
theorem asc_signs : Asc (Str.ofString " !\"#$&'()*+,-./0123456789:;<=>?@ABCDEFGHIJKLMNOPQRSTUVWXYZ[\\]^_`abcdefghijklmnopqrstuvwxyz{|}~") := asc_of (by decide +kernel)
def poolL : List Str := [Str.ofString "", Str.ofString ".", Str.ofString "..", Str.ofString ". x", Str.ofString "Received: by ", Str.ofString "Received: by q.r", Str.ofString "received: by x", Str.ofString " Received: by y", Str.ofString "To: a", Str.ofString "~"]
theorem pool_ok : poolL.all (fun x => decide (x.length ≤ 20) && x.cps.all (fun c => decide (c < 128))) = true := by decide +kernel
theorem ok_Lline (T : Tx K mg) : OkD P w K mg base CX0 4 "_law_line" ["state", "script"] (spLine K) := by
  refine ok_mk T.d_Lline sc_Lline (fun vs H Q E h => ?_) (fun f cdv A outer s H vs Q E hr h => ?_)
  · obtain ⟨st, sc, ns, rfl, _⟩ := h
    rfl
  · obtain ⟨st, sc, ns, rfl, W, q⟩ := h
    refine ⟨_, (pss_cons (ps_set (i := 2) sc_Lline.nd rfl (.inl rfl) (pe_lst (pa_cons pe_str (pa_cons pe_str (pa_cons pe_str (pa_cons pe_str (pa_cons pe_str (pa_cons pe_str (pa_cons pe_str (pa_cons pe_str (pa_cons pe_str (pa_cons pe_str pa_nil))))))))))))
      (pss_cons (ps_set (i := 3) sc_Lline.nd rfl (.inl rfl) (pe_callD (ok_Ldraw T) (hr.mono (by decide)) (by rfl) pass0 (pa_cons (pv 0) (pa_cons (pv 1) (pa_cons pe_int pa_nil)))))
      (pss_cons (ps_if (pt_cmpR op_eq (pv 3) pe_int (nomark _)) (pss_one (ps_ret (pe_ix ix_list (pv 2) (pe_callD (ok_Ldraw T) (hr.mono (by decide)) (by rfl) pass0 (pa_cons (pv 0) (pa_cons (pv 1) (pa_cons pe_int pa_nil)))) (fun _ _ => rfl)))) pss_nil)
      (pss_cons (ps_set (i := 4) sc_Lline.nd rfl (.inr rfl) pe_str)
      (pss_one (ps_ret (pe_m1 PySem.F.slot_str_join PySem.F.type_str_join y_join pe_str (pe_lc (own := [("k", 5)]) (g := gName 5) rfl sc_Lline.nd (pi_range1 (by rfl) T.z_range (pa_cons (pe_callD (ok_Ldraw T) (hr.mono (by decide)) (by rfl) pass0 (pa_cons (pv 0) (pa_cons (pv 1) (pa_cons pe_int pa_nil)))) pa_nil)) (blkOk_by (N := N_Lline) (sc := defScope s_Lline) (by decide +kernel)) (fun _ _ _ _ _ => pg_name (i := 5) sc_Lline.nd rfl (Or.inl rfl)) (fun _ _ _ _ _ => pts_nil) (fun _ _ _ _ _ => (pe_callD (ok_Lpick T) hr (by rfl) pass0 (pa_cons (pv 0) (pa_cons (pv 1) (pa_cons (pv 4) pa_nil))))))))))))), ?_⟩
    rw [show start N_Lline [.ref st, .ref sc] = [some (.ref st), some (.ref sc), none, none, none, none] from rfl]
    walk_at "rs"
    refine rd_wLs (Nat.le_of_ble_eq_true rfl) fun p np => ?_
    walk_at "rs"
    refine draw_i (W.new np) (by decide) (by decide) fun d1 H1 a0 a1 D1 W1 => ?_
    have D1' := (Dr.same W.1 (same_new np)).trans D1
    have ep := D1.at (W.1.ne np) upd_same
    walk_at "rs"
    refine if_dec (fun _ => ?_) (fun _ => ?_)
    · walk_at "rs"
      refine draw_i W1 (by decide) (by decide) fun d2 H2 b0 b1 D2 W2 => ?_
      walk_at "rs"
      have ep2 : H2 p = some (.lst (poolL.map V.str)) := D2.at (W.1.ne np) ep
      obtain ⟨y, hy, ey⟩ := atI_in (xs := poolL.map V.str) (i := d2) b0 (by rw [List.length_map]; exact b1)
      obtain ⟨x, hx, rfl⟩ := List.mem_map.mp hy
      refine rd_ixL (SqL.of ep2) ey ?_
      walk_at "rs"
      have h := List.all_eq_true.mp pool_ok x hx
      rw [Bool.and_eq_true] at h
      exact q x H2 (of_decide_eq_true h.1) (asc_of h.2) (D1'.trans D2) W2
    · walk_at "rs"
      refine draw_i W1 (by decide) (by decide) fun d2 H2 b0 b1 D2 W2 => ?_
      walk_at "rs"
      refine rd_wRg (by omega) (by omega) fun D nD => ?_
      refine lcR (G := fun y => ∃ x : Str, y = .str x ∧ (x.length ≤ 1 ∧ Asc x)) W2 nD (by omega) (fun i H3 R hi W3 D3 r => ⟨rfl, ?_⟩) (fun H3 ys D3 W3 nS hD hl hg => ?_)
      · walk_at "wp"
        refine ⟨st, sc, ns, _, rfl, W3, by rw [len_signs]; decide, by rw [len_signs]; decide, fun c H' hc D' W' => r _ _ D' ⟨_, rfl, ?_, asc_one (asc_signs c hc)⟩⟩
        exact Nat.le_refl 1
      · obtain ⟨xs, rfl, hx⟩ := strs_of hg
        have hs := lens_le fun x h => (hx x h).1
        rw [List.length_map] at hl
        walk_at "rs"
        refine rd_joinL (SqL.of hD) (by rw [len_lit0]; omega) ?_
        have ek := len_joined (Str.ofString "") xs
        rw [len_lit0] at ek
        exact q _ H3 (by omega) (asc_join asc_lit0 fun x h => (hx x h).2) ((D1'.trans D2).trans D3) W3
def spLines (K : PySem.W.Frag) : Sp := fun vs H Q _ => ∃ (st sc : Addr) (ns : List Int) (m : Int), vs = [.ref st, .ref sc, .int m] ∧ Wd K st sc ns H ∧ 0 ≤ m ∧ m ≤ 500 ∧
  ∀ (ls : List Str) p H', ls.length ≤ 500 → (∀ x ∈ ls, x.length ≤ 20 ∧ Asc x) → Tk H' p (ls.map V.str) → Dr st H H' → Wd K st sc ns H' → Q (.ref p) H'
theorem ok_Llines (T : Tx K mg) : OkD P w K mg base CX0 5 "_law_lines" ["state", "script", "most"] (spLines K) := by
  refine ok_mk T.d_Llines sc_Llines (fun vs H Q E h => ?_) (fun f cdv A outer s H vs Q E hr h => ?_)
  · obtain ⟨st, sc, ns, m, rfl, _⟩ := h
    rfl
  · obtain ⟨st, sc, ns, m, rfl, W, m0, m1, q⟩ := h
    refine ⟨_, (pss_one (ps_ret (pe_callTy y_tup (by rfl) T.z_tuple (by decide +kernel) (pa_cons (pe_lc (own := [("k", 3)]) (g := gName 3) rfl sc_Llines.nd (pi_range1 (by rfl) T.z_range (pa_cons (pe_callD (ok_Ldraw T) (hr.mono (by decide)) (by rfl) pass0 (pa_cons (pv 0) (pa_cons (pv 1) (pa_cons (pe_op op_add (pv 2) pe_int) pa_nil)))) pa_nil)) (blkOk_by (N := N_Llines) (sc := defScope s_Llines) (by decide +kernel)) (fun _ _ _ _ _ => pg_name (i := 3) sc_Llines.nd rfl (Or.inl rfl)) (fun _ _ _ _ _ => pts_nil) (fun _ _ _ _ _ => (pe_callD (ok_Lline T) hr (by rfl) pass0 (pa_cons (pv 0) (pa_cons (pv 1) pa_nil))))) pa_nil)))), ?_⟩
    rw [show start N_Llines [.ref st, .ref sc, .int m] = [some (.ref st), some (.ref sc), some (.int m), none] from rfl]
    walk_at "rs"
    refine draw_i W (by omega) (by omega) fun d1 H1 a0 a1 D1 W1 => ?_
    walk_at "rs"
    refine rd_wRg (by omega) (by omega) fun D nD => ?_
    refine lcR (G := fun y => ∃ x : Str, y = .str x ∧ (x.length ≤ 20 ∧ Asc x)) W1 nD (by omega) (fun i H3 R hi W3 D3 r => ⟨rfl, ?_⟩) (fun H3 ys D3 W3 nS hD hl hg => ?_)
    · walk_at "wp"
      exact ⟨st, sc, ns, rfl, W3, fun x H' h1 h2 D' W' => r _ _ D' ⟨x, rfl, h1, h2⟩⟩
    · obtain ⟨xs, rfl, hx⟩ := strs_of hg
      rw [List.length_map] at hl
      walk_at "rs"
      refine rd_tup (SqL.of hD) fun p H4 np sm t => ?_
      exact q xs p H4 (by omega) hx t ((D1.trans D3).trans (Dr.same W3.1 sm)) (W3.same sm)
theorem hopsL_nil : hopsL [] = 0 := rfl
theorem hopsL_cons (x : Str) (r : List Str) : hopsL (x :: r) = if x = empS then 0 else (if Txt.startswith x trS = true then 1 else 0) + hopsL r := by
  unfold hopsL headL
  rw [List.takeWhile_cons]
  by_cases e : x = empS
  · rw [if_pos e, decide_eq_true e]
    rfl
  · rw [if_neg e, decide_eq_false e, Bool.not_false, if_pos rfl, List.filter_cons]
    by_cases h : Txt.startswith x trS = true
    · rw [if_pos h, if_pos h, List.length_cons, Nat.add_comm]
    · rw [if_neg h, if_neg h, Nat.zero_add]
theorem starts_cut (x z : Str) (n : Nat) (h : z.length = n) : Txt.startswith x z = decide (cutS x none (some (n : Int)) = z) := by
  rw [starts_tl, h]
  by_cases e : cutS x none (some (n : Int)) = z
  · rw [decide_eq_true e, ← tl_cutTo, e, beq_self_eq_true]
  · rw [decide_eq_false e]
    refine beq_eq_false_iff_ne.mpr fun q => e (ext_tl ?_)
    rw [tl_cutTo]
    exact q
def spLhops (K : PySem.W.Frag) : Sp := fun vs H Q _ => ∃ (a : Addr) (ls : List Str), vs = [.ref a] ∧ Tk H a (ls.map V.str) ∧ (∀ x ∈ ls, x.length ≤ 20) ∧ Q (.int (hopsL ls : Nat)) H
theorem ok_Lhops (T : Tx K mg) : OkD P w K mg base CX0 1 "_law_hops" ["lines"] (spLhops K) := by
  refine ok_mk T.d_Lhops sc_Lhops (fun vs H Q E h => ?_) (fun f cdv A outer s H vs Q E hr h => ?_)
  · obtain ⟨a, ls, rfl, _⟩ := h
    rfl
  · obtain ⟨a, ls, rfl, t, hl, q⟩ := h
    refine ⟨_, (pss_cons (ps_set (i := 1) sc_Lhops.nd rfl (.inl rfl) pe_int)
      (pss_cons (ps_set (i := 2) sc_Lhops.nd rfl (.inl rfl) pe_bl)
      (pss_cons (ps_for PassesOwn.never rfl (pi_tup (pv 0)) (pg_name (i := 3) sc_Lhops.nd rfl (Or.inl rfl)) (pss_cons (ps_if (pt_cmpR op_eq (pv 3) pe_str (nomark _)) (pss_one (ps_set (i := 2) sc_Lhops.nd rfl (.inl rfl) pe_bl)) pss_nil)
      (pss_one (ps_if (PW.pt (pw_and (pt_val (pv 2)) (pw_and1 (pt_cmpR op_eq (pe_slice sl_str (pv 3) po_none (po_some pe_int)) pe_str (nomark _))))) (pss_one (ps_set (i := 1) sc_Lhops.nd rfl (.inl rfl) (pe_op op_add (pv 1) pe_int))) pss_nil))))
      (pss_one (ps_ret (pv 1)))))), ?_⟩
    rw [show start N_Lhops [.ref a] = [some (.ref a), none, none, none] from rfl]
    walk_at "rs"
    refine rd_wSq t.seq ?_
    refine frJ (walk_t (xs := ls.map V.str)) (fun i σ H' => H' = H ∧ ∃ (c : Nat) (b : Bool) (y : Option V), σ = [some (.ref a), some (.int c), some (.bl b), y] ∧ c + (if b = true then hopsL (ls.drop i) else 0) = hopsL ls) ?_ (fun i σ H' _ p => ?_) (fun i v σ H' hv p => ?_) (fun σ H' p => ?_)
    · exact ⟨rfl, 0, true, none, rfl, by rw [List.drop_zero, Nat.zero_add]; rfl⟩
    · rw [p.1]
      exact t.seq
    · obtain ⟨rfl, c, b, y, rfl, e⟩ := p
      rw [List.getElem?_map] at hv
      cases hx : ls[i]? with
      | none =>
        rw [hx] at hv
        cases hv
      | some x =>
        rw [hx] at hv
        cases Option.some.inj hv
        have hxl := hl x (List.mem_of_getElem? hx)
        have ed : ls.drop i = x :: ls.drop (i + 1) := by
          obtain ⟨h1, h2⟩ := List.getElem?_eq_some_iff.mp hx
          rw [List.drop_eq_getElem_cons h1, h2]
        rw [ed, hopsL_cons] at e
        walk_at "rs"
        refine if_dec (fun e1 => ?_) (fun e1 => ?_)
        · walk_at "rs"
          refine ⟨rfl, c, false, _, rfl, ?_⟩
          rw [if_pos e1] at e
          rw [← e]
          cases b <;> rfl
        · walk_at "rs"
          rw [if_neg e1] at e
          refine if_b (fun eb => ?_) (fun eb => ?_)
          · subst eb
            walk_at "rs"
            have es : Txt.startswith x trS = decide (cutS x none (some 13) = trS) := starts_cut x trS 13 len_tr
            refine if_dec (fun e2 => ?_) (fun e2 => ?_)
            · walk_at "rs"
              refine ⟨rfl, c + 1, true, _, rfl, ?_⟩
              rw [decide_eq_true e2] at es
              rw [es] at e
              rw [← e]
              simp only [if_true]
              omega
            · walk_at "rs"
              refine ⟨rfl, c, true, _, rfl, ?_⟩
              rw [decide_eq_false e2] at es
              rw [es] at e
              rw [← e]
              simp
          · subst eb
            walk_at "rs"
            refine ⟨rfl, c, false, _, rfl, ?_⟩
            rw [← e]
            rfl
    · obtain ⟨rfl, c, b, y, rfl, e⟩ := p
      walk_at "rs"
      rw [List.length_map, List.drop_length, hopsL_nil] at e
      have e2 : c = hopsL ls := by
        rw [← e]
        cases b <;> simp
      rw [e2]
      exact q
def spLstuffed (K : PySem.W.Frag) : Sp := fun vs H Q _ => ∃ x : Str, vs = [.str x] ∧ x.length ≤ 1000 ∧ Q (.str (stuffL x)) H
theorem ok_Lstuffed (T : Tx K mg) : OkD P w K mg base CX0 1 "_law_stuffed" ["line"] (spLstuffed K) := by
  refine ok_mk T.d_Lstuffed sc_Lstuffed (fun vs H Q E h => ?_) (fun f cdv A outer s H vs Q E hr h => ?_)
  · obtain ⟨x, rfl, _⟩ := h
    rfl
  · obtain ⟨x, rfl, hx, q⟩ := h
    refine ⟨_, (pss_cons (ps_if (pt_cmpR op_eq (pe_slice sl_str (pv 0) po_none (po_some pe_int)) pe_str (nomark _)) (pss_one (ps_ret (pe_op y_adS pe_str (pv 0)))) pss_nil)
      (pss_one (ps_ret (pv 0)))), ?_⟩
    rw [show start N_Lstuffed [.str x] = [some (.str x)] from rfl]
    walk_at "rs"
    have es : Txt.startswith x dotS = decide (cutS x none (some 1) = dotS) := starts_cut x dotS 1 len_dot
    refine if_dec (fun e => ?_) (fun e => ?_)
    · walk_at "rs"
      rw [decide_eq_true e] at es
      have ee : Str.ofString "." ++ x = stuffL x := by
        unfold stuffL
        rw [if_pos es]
        refine ext_tl ?_
        rw [tl_append, tl_dot]
        rfl
      rw [ee]
      exact q
    · walk_at "rs"
      rw [decide_eq_false e] at es
      have ee : stuffL x = x := by
        unfold stuffL
        rw [es]
        rfl
      rw [ee] at q
      exact q
end

section
variable {P : Program} {w : World} {K : PySem.W.Frag} {mg : Str → Option Value} {base : Heap}
theorem starts_dot (x : Str) : Txt.startswith x dotS = true ↔ ∃ r, tl x = 46 :: r := by
  rw [starts_tl, len_dot, tl_dot, beq_iff_eq]
  cases h : tl x with
  | nil => simp
  | cons c r => simp
theorem asc_stuff {x : Str} (h : Asc x) : Asc (stuffL x) := by
  unfold stuffL
  by_cases e : Txt.startswith x dotS = true
  · rw [if_pos e]
    intro c hc
    rcases List.mem_cons.mp (show c ∈ 46 :: tl x from hc) with rfl | hc
    · decide
    · exact h c hc
  · rw [if_neg e]
    exact h
theorem len_stuff (x : Str) : (stuffL x).length ≤ x.length + 1 := by
  unfold stuffL
  by_cases e : Txt.startswith x dotS = true
  · rw [if_pos e, len_mk, List.length_cons, ← len_tl]
    omega
  · rw [if_neg e]
    omega
theorem unstuff_stuff (x : Str) : unstuffL (stuffL x) = x := by
  unfold unstuffL stuffL
  by_cases e : Txt.startswith x dotS = true
  · rw [if_pos e, if_pos ((starts_dot _).mpr ⟨tl x, rfl⟩)]
    refine ext_tl ?_
    have h := tl_cutFrom (⟨(46 :: tl x).toArray⟩ : Str) 1
    exact h
  · rw [if_neg e, if_neg e]
theorem stuff_ne (x : Str) : stuffL x ≠ dotS := by
  unfold stuffL
  intro h
  by_cases e : Txt.startswith x dotS = true
  · rw [if_pos e] at h
    obtain ⟨r, er⟩ := (starts_dot x).mp e
    have h2 := congrArg tl h
    rw [tl_dot] at h2
    have h3 : (46 :: tl x) = [46] := h2
    rw [er] at h3
    cases h3
  · rw [if_neg e] at h
    rw [h] at e
    exact e ((starts_dot _).mpr ⟨[], tl_dot⟩)
theorem len_unstuff (x : Str) : (unstuffL x).length ≤ x.length := by
  unfold unstuffL
  by_cases e : Txt.startswith x dotS = true
  · rw [if_pos e]
    exact len_cut _ _ _
  · rw [if_neg e]
    exact Nat.le_refl _
def spLaw (K : PySem.W.Frag) : Sp := fun vs H Q _ => ∃ (sc : Addr) (ns : List Int), vs = [.ref sc] ∧ SqL K H sc (ns.map V.int) ∧ ∀ H', Q (.bl true) H'
theorem ok_law (T : Tx K mg) {f : Addr} {fd : FuncData} (F : Fun K "law" "law" s_law f fd) : FnOk P w K mg base CX0 6 f fd ["script"] (spLaw K) := by
  refine ok_F F sc_law (fun vs H Q E h => ?_) (fun cdv A outer s H vs Q E hr h => ?_)
  · obtain ⟨sc, ns, rfl, _⟩ := h
    rfl
  · obtain ⟨sc, ns, rfl, hS, q⟩ := h
    refine ⟨_, (pss_cons (ps_set (i := 1) sc_law.nd rfl (.inl rfl) (pe_lst (pa_cons pe_int (pa_cons pe_int pa_nil))))
      (pss_cons (ps_set (i := 2) sc_law.nd rfl (.inl rfl) (pe_callD (ok_Llines T) hr (by rfl) pass0 (pa_cons (pv 1) (pa_cons (pv 0) (pa_cons pe_int pa_nil)))))
      (pss_cons (ps_set (i := 3) sc_law.nd rfl (.inl rfl) (pe_callD (ok_hops T) (hr.mono (by decide)) (by rfl) pass0 (pa_cons (pv 2) pa_nil)))
      (pss_cons (ps_if (PW.pt (pw_or (pt_not (pt_val (pe_callD (ok_Lis_integer T) (hr.mono (by decide)) (by rfl) pass0 (pa_cons (pv 3) pa_nil)))) (pw_or1 (pt_cmpR op_ne (pv 3) (pe_callD (ok_Lhops T) (hr.mono (by decide)) (by rfl) pass0 (pa_cons (pv 2) pa_nil)) (nomark _))))) (pss_one (ps_ret pe_bl)) pss_nil)
      (pss_cons (ps_set (i := 4) sc_law.nd rfl (.inl rfl) (pe_callD (ok_stuff T) (hr.mono (by decide)) (by rfl) pass0 (pa_cons (pv 2) pa_nil)))
      (pss_cons (ps_if (PW.pt (pw_or (pt_not (pt_val (pe_callB call_isi (by rfl) T.z_isinstance (by decide +kernel) (pa_cons (pv 4) (pa_cons (pe_bltn (v := .ty "tuple") (by rfl) T.z_tuple (by decide +kernel) rfl) pa_nil))))) (pw_or1 (pt_cmpR (op_neD hr.units) (pv 4) (pe_callTy y_tup (by rfl) T.z_tuple (by decide +kernel) (pa_cons (pe_lc (own := [("line", 5)]) (g := gName 5) rfl sc_law.nd (pi_tup (pv 2)) (blkOk_by (N := N_law) (sc := defScope s_law) (by decide +kernel)) (fun _ _ _ _ _ => pg_name (i := 5) sc_law.nd rfl (Or.inl rfl)) (fun _ _ _ _ _ => pts_nil) (fun _ _ _ _ _ => (pe_callD (ok_Lstuffed T) (hr.mono (by decide)) (by rfl) pass0 (pa_cons (pv 5) pa_nil)))) pa_nil)) (nomark _))))) (pss_one (ps_ret pe_bl)) pss_nil)
      (pss_cons (ps_if (PW.pt (pw_or (pt_cmpR (op_neD hr.units) (pe_callTy y_tup (by rfl) T.z_tuple (by decide +kernel) (pa_cons (pe_lc (own := [("line", 5)]) (g := gName 5) rfl sc_law.nd (pi_tup (pv 4)) (blkOk_by (N := N_law) (sc := defScope s_law) (by decide +kernel)) (fun _ _ _ _ _ => pg_name (i := 5) sc_law.nd rfl (Or.inl rfl)) (fun _ _ _ _ _ => pts_nil) (fun _ _ _ _ _ => (pe_callD (ok_unstuff T) (hr.mono (by decide)) (by rfl) pass0 (pa_cons (pv 5) pa_nil)))) pa_nil)) (pv 2) (nomark _)) (pw_or1 (pt_cmpR op_in_seq pe_str (pv 4) (by rfl))))) (pss_one (ps_ret pe_bl)) pss_nil)
      (pss_cons (ps_for PassesOwn.never rfl (pi_tup (pv 2)) (pg_name (i := 5) sc_law.nd rfl (Or.inl rfl)) (pss_one (ps_if (PW.pt (pw_and (pt_cmpR op_ne (pv 5) pe_str (nomark _)) (pw_and1 (pt_cmpR op_ne (pe_callD (ok_unstuff T) (hr.mono (by decide)) (by rfl) pass0 (pa_cons (pv 5) pa_nil)) (pe_ix ix_list (pe_lst (pa_cons (pv 5) (pa_cons (pe_slice sl_str (pv 5) (po_some pe_int) po_none) pa_nil))) (pe_callTy y_int (by rfl) T.z_int (by decide +kernel) (pa_cons (pe_cmpR op_eq (pe_slice sl_str (pv 5) po_none (po_some pe_int)) pe_str (nomark _)) pa_nil)) (fun _ _ => rfl)) (nomark _))))) (pss_one (ps_ret pe_bl)) pss_nil)))
      (pss_cons (ps_set (i := 6) sc_law.nd rfl (.inl rfl) (y_tt (pa_cons (pe_callD (ok_Llocal T) hr (by rfl) pass0 (pa_cons (pv 1) (pa_cons (pv 0) pa_nil))) (pa_cons (pe_callD (ok_Ldomain T) (hr.mono (by decide)) (by rfl) pass0 (pa_cons (pv 1) (pa_cons (pv 0) pa_nil))) pa_nil))))
      (pss_cons (ps_set (i := 7) sc_law.nd rfl (.inl rfl) (pe_callD (ok_Lline T) (hr.mono (by decide)) (by rfl) pass0 (pa_cons (pv 1) (pa_cons (pv 0) pa_nil))))
      (pss_cons (ps_set (i := 8) sc_law.nd rfl (.inl rfl) (pe_callD (ok_report T) (hr.mono (by decide)) (by rfl) pass0 (pa_cons (pv 6) (pa_cons (pv 7) pa_nil))))
      (pss_cons (ps_if (PW.pt (pw_or (pt_not (pt_val (pe_callB call_isi (by rfl) T.z_isinstance (by decide +kernel) (pa_cons (pv 8) (pa_cons (pe_bltn (v := .ty "tuple") (by rfl) T.z_tuple (by decide +kernel) rfl) pa_nil))))) (pw_or1 (pt_cmpR op_ne (pe_callB y_lenQ (by rfl) T.z_len (by decide +kernel) (pa_cons (pv 8) pa_nil)) pe_int (nomark _))))) (pss_one (ps_ret pe_bl)) pss_nil)
      (pss_cons (ps_if (pt_cmpR (op_neD hr.units) (pv 8) (y_tt (pa_cons pe_str (pa_cons pe_str (pa_cons (pe_op y_adS (pe_op y_adS (pe_op y_adS pe_str (pe_ix ix_tup (pv 6) pe_int (fun _ _ => rfl))) pe_str) (pe_ix ix_tup (pv 6) pe_int (fun _ _ => rfl))) (pa_cons (pe_op y_adS pe_str (pv 7)) pa_nil))))) (nomark _)) (pss_one (ps_ret pe_bl)) pss_nil)
      (pss_one (ps_ret (pe_and (pe_cmpR op_eq (pe_callD (ok_trace T) (hr.mono (by decide)) (by rfl) pass0 (pa_cons (pe_ix ix_tup (pv 6) pe_int (fun _ _ => rfl)) pa_nil)) (pe_op y_adS pe_str (pe_ix ix_tup (pv 6) pe_int (fun _ _ => rfl))) (nomark _)) (pe_one (pe_cmpR op_eq (pe_callD (ok_hops T) (hr.mono (by decide)) (by rfl) pass0 (pa_cons (pe_op y_cat (y_tt (pa_cons (pe_callD (ok_trace T) (hr.mono (by decide)) (by rfl) pass0 (pa_cons (pe_ix ix_tup (pv 6) pe_int (fun _ _ => rfl)) pa_nil)) pa_nil)) (pv 2)) pa_nil)) (pe_op op_add (pv 3) pe_int) (nomark _))))))))))))))))))), ?_⟩
    rw [show start N_law [.ref sc] = [some (.ref sc), none, none, none, none, none, none, none, none] from rfl]
    walk_at "rs"
    refine rd_wLs (Nat.le_of_ble_eq_true rfl) fun st nst => ?_
    have W : Wd K st sc ns (upd H st (.lst [.int 0, .int 0])) := ⟨⟨0, 0, upd_same⟩, fun H' k => Same.seq (fun a o e => k a o (ne_of_none e nst) (by rw [upd_ne (ne_of_none e nst)]; exact e)) hS⟩
    walk_at "rs"
    refine ⟨st, sc, ns, 9, rfl, W, by decide, by decide, fun ls p H1 ll lx t1 D1 W1 => ?_⟩
    walk_at "rs"
    refine ⟨p, ls, rfl, t1, by omega, fun H2 sm2 => ?_⟩
    have W2 := W1.same sm2
    have t2 := t1.same sm2
    walk_at "rs"
    refine ⟨_, rfl, ?_⟩
    walk_at "rs"
    refine ⟨p, ls, rfl, t2, fun x hx => (lx x hx).1, ?_⟩
    walk_at "rs"
    rw [decide_eq_true rfl]
    walk_at "rs"
    refine ⟨p, ls, rfl, t2, by omega, fun x hx => Nat.le_trans (lx x hx).1 (by decide), fun p3 H3 sm3 t3 => ?_⟩
    have W3 := W2.same sm3
    have t3' := t2.same sm3
    have ax : ∀ x ∈ ls, Asc x := fun x hx => (lx x hx).2
    have ax2 : ∀ x ∈ ls.map stuffL, Asc x := fun x hx => by
      obtain ⟨y, hy, rfl⟩ := List.mem_map.mp hx
      exact asc_stuff (ax y hy)
    walk_at "rs"
    refine rd_isi t3.ty (r := true) (by decide +kernel) ?_
    walk_at "rs"
    refine rd_wSq t3'.seq fun D nD => ?_
    refine lcM1 walk_t (fun H' sm => (t3'.same sm).seq) nD (by rw [List.length_map]; omega) (fun v => match v with | .str x => .str (stuffL x) | v => v) (fun v hv H4 R sm r => ?_) (fun H4 sm4 e4 => ?_)
    · obtain ⟨x, hx, rfl⟩ := List.mem_map.mp hv
      have hxl := (lx x hx).1
      refine ⟨rfl, ?_⟩
      walk_at "wp"
      exact ⟨x, rfl, by omega, r _ (Same.refl _)⟩
    walk_at "rs"
    refine rd_tup (SqL.of e4) fun p5 H5 np5 sm5 t5 => ?_
    rw [List.map_map] at t5
    have t5' : Tk H5 p5 ((ls.map stuffL).map V.str) := by
      rw [List.map_map]
      exact t5
    have sm35 := sm4.trans sm5
    refine rd_neT (t3.same sm35).seq t5'.seq ax2 ax2 ?_
    rw [decide_eq_true rfl]
    have W5 := W3.same sm35
    have t6 := t3'.same sm35
    have t7 := t3.same sm35
    walk_at "rs"
    refine rd_wSq t7.seq fun D6 nD6 => ?_
    refine lcM1 walk_t (fun H' sm => (t7.same sm).seq) nD6 (by rw [List.length_map, List.length_map]; omega) (fun v => match v with | .str x => .str (unstuffL x) | v => v) (fun v hv H4 R sm r => ?_) (fun H6 sm6 e6 => ?_)
    · obtain ⟨x, hx, rfl⟩ := List.mem_map.mp hv
      obtain ⟨y, hy, rfl⟩ := List.mem_map.mp hx
      have hxl := (lx y hy).1
      have hyl := len_stuff y
      refine ⟨rfl, ?_⟩
      walk_at "wp"
      exact ⟨_, rfl, by omega, r _ (Same.refl _)⟩
    walk_at "rs"
    refine rd_tup (SqL.of e6) fun p7 H7 np7 sm7 t8 => ?_
    have t8' : Tk H7 p7 (ls.map V.str) := by
      have ee : (List.map (fun v => match v with | .str x => .str (unstuffL x) | v => v) ((ls.map stuffL).map V.str)) = ls.map V.str := by
        rw [List.map_map, List.map_map]
        refine List.map_congr_left fun x _ => ?_
        show V.str (unstuffL (stuffL x)) = V.str x
        rw [unstuff_stuff]
      rw [ee] at t8
      exact t8
    have sm57 := sm6.trans sm7
    have t9 := t6.same sm57
    have W7 := W5.same sm57
    walk_at "rs"
    refine rd_neT t8'.seq t9.seq ax ax ?_
    rw [decide_eq_true rfl]
    walk_at "rs"
    refine rd_inT (t7.same sm57).seq ?_
    rw [decide_eq_false (fun h => by
      obtain ⟨y, hy, e⟩ := List.mem_map.mp h
      exact stuff_ne y e)]
    walk_at "rs"
    refine rd_wSq t9.seq ?_
    refine frJ (walk_t (xs := ls.map V.str)) (fun i σ H' => Same H7 H' ∧ ∃ y : Option V, σ = [some (.ref sc), some (.ref st), some (.ref p), some (.int (hopsL ls : Nat)), some (.ref p3), y, none, none, none]) ⟨Same.refl _, _, rfl⟩ (fun i σ H' _ p => (t9.same p.1).seq) (fun i v σ H' hv p => ?_) (fun σ H' p => ?_)
    · obtain ⟨sm, y, rfl⟩ := p
      obtain ⟨x, hx, rfl⟩ := List.mem_map.mp (List.mem_of_getElem? hv)
      have hxl := (lx x hx).1
      walk_at "rs"
      refine if_ndec (fun e1 => ?_) (fun e1 => ?_)
      · walk_at "rs"
        refine ⟨x, rfl, by omega, ?_⟩
        walk_at "rs"
        refine rd_wLs (Nat.le_of_ble_eq_true rfl) fun q1 nq1 => ?_
        walk_at "rs"
        have es : Txt.startswith x dotS = decide (cutS x none (some 1) = dotS) := starts_cut x dotS 1 len_dot
        by_cases e2 : cutS x none (some 1) = dotS
        · rw [decide_eq_true e2] at es ⊢
          rw [if_pos rfl]
          refine rd_ixL (SqL.of upd_same) (atI_nat (j := 1) rfl) ?_
          walk_at "rs"
          have eu : unstuffL x = cutS x (some 1) none := by
            unfold unstuffL
            rw [if_pos es]
          rw [eu, decide_eq_true rfl]
          walk_at "rs"
          exact ⟨sm.trans (same_new nq1), _, rfl⟩
        · rw [decide_eq_false e2] at es ⊢
          rw [if_neg Bool.false_ne_true]
          refine rd_ixL (SqL.of upd_same) (atI_nat (j := 0) rfl) ?_
          walk_at "rs"
          have eu : unstuffL x = x := by
            unfold unstuffL
            rw [es]
            rfl
          rw [eu, decide_eq_true rfl]
          walk_at "rs"
          exact ⟨sm.trans (same_new nq1), _, rfl⟩
      · walk_at "rs"
        exact ⟨sm, _, rfl⟩
    · obtain ⟨sm, y, rfl⟩ := p
      have W8 := W7.same sm
      have t10 := t9.same sm
      walk_at "rs"
      refine ⟨st, sc, ns, rfl, W8, fun l H8 hl la D8 W8 => ?_⟩
      walk_at "rs"
      refine ⟨st, sc, ns, rfl, W8, fun d H9 hd da D9 W9 => ?_⟩
      walk_at "rs"
      refine rd_wTT (Nat.le_of_ble_eq_true rfl) fun pa H10 npa sm10 ta => ?_
      have W10 := W9.same sm10
      walk_at "rs"
      refine ⟨st, sc, ns, rfl, W10, fun r H11 hr ra D11 W11 => ?_⟩
      have t11 : Tk H11 p (ls.map V.str) := (((t10.next (W7.same sm).1 D8).next W8.1 D9).same sm10).next W10.1 D11
      have ta11 := ta.next W10.1 D11
      walk_at "rs"
      refine ⟨pa, l, d, r, rfl, ta11, by omega, by omega, by omega, fun y1 y2 pt H12 sm12 e1 e2 tt => ?_⟩
      have W12 := W11.same sm12
      have t12 := t11.same sm12
      have ta12 := ta11.same sm12
      walk_at "rs"
      refine rd_isi tt.ty (r := true) (by decide +kernel) ?_
      walk_at "rs"
      refine rd_lenT tt.seq ?_
      walk_at "rs"
      rw [decide_eq_true (show ((([Str.ofString "Subject: undelivered", empS, y1, y2].map V.str).length : Int) = 4) from rfl)]
      walk_at "rs"
      refine rd_ixT ta12.seq (atI_nat (j := 0) rfl) ?_
      walk_at "rs"
      refine rd_ixT ta12.seq (atI_nat (j := 1) rfl) ?_
      walk_at "rs"
      refine rd_wTT (Nat.le_of_ble_eq_true rfl) fun px H13 npx sm13 tx => ?_
      have g1 : y1 = Str.ofString "Recipient: " ++ l ++ Str.ofString "@" ++ d := ext_tl (by
        rw [e1, tl_append, tl_append, tl_append, List.append_assoc, List.append_assoc, tl_ofString "@"]
        rfl)
      have g2 : y2 = Str.ofString "Reason: " ++ r := ext_tl (by rw [e2, tl_append])
      subst g1 g2
      have a4 : ∀ x ∈ [Str.ofString "Subject: undelivered", empS, Str.ofString "Recipient: " ++ l ++ Str.ofString "@" ++ d, Str.ofString "Reason: " ++ r], Asc x := fun x hx => by
        simp only [List.mem_cons, List.not_mem_nil, or_false] at hx
        rcases hx with rfl | rfl | rfl | rfl
        · exact asc_of (by decide +kernel)
        · exact asc_lit0
        · exact asc_app (asc_app (asc_app (asc_of (by decide +kernel)) la) (asc_of (by decide +kernel))) da
        · exact asc_app (asc_of (by decide +kernel)) ra
      refine rd_neT (tt.same sm13).seq (xs := [Str.ofString "Subject: undelivered", empS, Str.ofString "Recipient: " ++ l ++ Str.ofString "@" ++ d, Str.ofString "Reason: " ++ r]) (ys := [Str.ofString "Subject: undelivered", empS, Str.ofString "Recipient: " ++ l ++ Str.ofString "@" ++ d, Str.ofString "Reason: " ++ r]) tx.seq a4 a4 ?_
      rw [decide_eq_true rfl]
      have ta13 := ta12.same sm13
      have t13 := t12.same sm13
      walk_at "rs"
      refine rd_ixT ta13.seq (atI_nat (j := 1) rfl) ?_
      walk_at "rs"
      refine ⟨d, rfl, by omega, fun z ez => ?_⟩
      have gz : z = trS ++ d := ext_tl (by rw [ez, tl_append])
      walk_at "rs"
      refine rd_ixT ta13.seq (atI_nat (j := 1) rfl) ?_
      walk_at "rs"
      rw [decide_eq_true gz]
      walk_at "rs"
      refine rd_ixT ta13.seq (atI_nat (j := 1) rfl) ?_
      walk_at "rs"
      refine ⟨d, rfl, by omega, fun z2 ez2 => ?_⟩
      have gz2 : z2 = trS ++ d := ext_tl (by rw [ez2, tl_append])
      walk_at "rs"
      refine rd_wTT (Nat.le_of_ble_eq_true rfl) fun pz H14 npz sm14 tz => ?_
      walk_at "rs"
      refine ⟨pz, p, [V.str z2], ls.map V.str, rfl, rfl, tz, t13.same sm14, List.cons_ne_nil _ _, line_of (by rw [List.length_map]; show 1 + ls.length ≤ _; omega), fun pc H15 sm15 tc => ?_⟩
      walk_at "rs"
      refine ⟨pc, z2 :: ls, rfl, tc, by rw [List.length_cons]; omega, fun H16 sm16 => ?_⟩
      walk_at "rs"
      have ne : ¬ z2 = empS := fun e => by
        have h := congrArg tl e
        rw [ez2] at h
        have h2 := congrArg List.length h
        have h3 : tl empS = [] := tl_lit0
        rw [List.length_append, ← len_tl, ← len_tl, len_tr, h3, List.length_nil] at h2
        omega
      have st2 : Txt.startswith z2 trS = true := by
        rw [starts_tl, ez2, beq_iff_eq, len_tl trS]
        exact List.take_left
      rw [show decide (((hopsL (z2 :: ls) : Nat) : Int) = ((hopsL ls : Nat) : Int) + 1) = true from decide_eq_true (by
        rw [hopsL_cons, if_neg ne, if_pos st2]
        omega)]
      exact q _
end
end Dw
set_option autoImplicit true
open PySem PySem.W PyProof.Rows
theorem Dw.end_mk {l : PySem.W.OpenLaw} {w : World} {K : PySem.W.Frag} {mg : Str → Option Value} {fa : Addr} (hfa : mg "law" = some (.ref fa)) (T : Dw.Tx K mg) :
    ∃ fd : FuncData, (∀ (s : Shared) (v : Value), BindsTo s fd ⟨[v], []⟩ [("script", v)]) ∧ ∀ base : Heap, K.In base → base.Ns mainGlobals mg → L2.FnOk l.prog w K mg base L2.CX0 6 fa fd ["script"] (Dw.spLaw K) := by
  obtain ⟨f, fd, m, F, hb⟩ := T.d_law
  rw [hfa] at m
  cases m
  exact ⟨fd, fun s v => hb s [v] rfl, fun base _ _ => Dw.ok_law T F⟩
set_option maxHeartbeats 0 in
theorem PySem.Challenge.cw_dawkline_k03_messages_holds : PySem.Challenge.rw_dawkline_k03_messages.Holds := by
  w_on; o_law; k_head; (case hw => w_witness2)
  k_fill
  refine L2.walk_of (l := PySem.Challenge.rw_dawkline_k03_messages) (n := 63) (k := 6) (x := "script") (CX := fun _ => L2.CX0) (sp := fun w => Dw.spLaw _) rfl (by decide) rfl ⟨rfl, by decide, by decide⟩ (fun w h Y => PySem.W.kIn_of Y) ?F (fun _ _ a ns hl _ hS => ⟨a, ns, rfl, hS, fun _ => rfl⟩) (fun _ _ _ _ _ h => h)
  case F =>
    intro w mg fa h KX G hmg
    refine Dw.end_mk hmg ?_
    exact ⟨(by
      (refine' Dw.dn_mk KX G ?a ?l ?c ?k (fun _ _ _ _ _ _ us hl => match us, hl with | [_, _], _ => rfl); (case a => k_is); (case l => k_is); (case c => k_is); (case k => k_is))),
(by
      (refine' Dw.dn_mk KX G ?a ?l ?c ?k (fun _ _ _ _ _ _ us hl => match us, hl with | [_, _, _], _ => rfl); (case a => k_is); (case l => k_is); (case c => k_is); (case k => k_is))),
(by
      (refine' Dw.dn_mk KX G ?a ?l ?c ?k (fun _ _ _ _ _ _ us hl => match us, hl with | [_, _, _], _ => rfl); (case a => k_is); (case l => k_is); (case c => k_is); (case k => k_is))),
(by
      (refine' Dw.dn_mk KX G ?a ?l ?c ?k (fun _ _ _ _ _ _ us hl => match us, hl with | [_, _], _ => rfl); (case a => k_is); (case l => k_is); (case c => k_is); (case k => k_is))),
(by
      (refine' Dw.dn_mk KX G ?a ?l ?c ?k (fun _ _ _ _ _ _ us hl => match us, hl with | [_], _ => rfl); (case a => k_is); (case l => k_is); (case c => k_is); (case k => k_is))),
(by
      (refine' Dw.dn_mk KX G ?a ?l ?c ?k (fun _ _ _ _ _ _ us hl => match us, hl with | [_], _ => rfl); (case a => k_is); (case l => k_is); (case c => k_is); (case k => k_is))),
(by
      (refine' Dw.dn_mk KX G ?a ?l ?c ?k (fun _ _ _ _ _ _ us hl => match us, hl with | [_, _], _ => rfl); (case a => k_is); (case l => k_is); (case c => k_is); (case k => k_is))),
(by
      (refine' Dw.dn_mk KX G ?a ?l ?c ?k (fun _ _ _ _ _ _ us hl => match us, hl with | [_, _, _], _ => rfl); (case a => k_is); (case l => k_is); (case c => k_is); (case k => k_is))),
(by
      (refine' Dw.dn_mk KX G ?a ?l ?c ?k (fun _ _ _ _ _ _ us hl => match us, hl with | [_, _, _, _], _ => rfl); (case a => k_is); (case l => k_is); (case c => k_is); (case k => k_is))),
(by
      (refine' Dw.dn_mk KX G ?a ?l ?c ?k (fun _ _ _ _ _ _ us hl => match us, hl with | [_, _], _ => rfl); (case a => k_is); (case l => k_is); (case c => k_is); (case k => k_is))),
(by
      (refine' Dw.dn_mk KX G ?a ?l ?c ?k (fun _ _ _ _ _ _ us hl => match us, hl with | [_], _ => rfl); (case a => k_is); (case l => k_is); (case c => k_is); (case k => k_is))),
(by
      (refine' Dw.dn_mk KX G ?a ?l ?c ?k (fun _ _ _ _ _ _ us hl => match us, hl with | [_], _ => rfl); (case a => k_is); (case l => k_is); (case c => k_is); (case k => k_is))),
(by
      (refine' Dw.dn_mk KX G ?a ?l ?c ?k (fun _ _ _ _ _ _ us hl => match us, hl with | [_], _ => rfl); (case a => k_is); (case l => k_is); (case c => k_is); (case k => k_is))),
(by
      (refine' Dw.dn_mk KX G ?a ?l ?c ?k (fun _ _ _ _ _ _ us hl => match us, hl with | [_], _ => rfl); (case a => k_is); (case l => k_is); (case c => k_is); (case k => k_is))),
(by
      (refine' Dw.dn_mk KX G ?a ?l ?c ?k (fun _ _ _ _ _ _ us hl => match us, hl with | [_, _], _ => rfl); (case a => k_is); (case l => k_is); (case c => k_is); (case k => k_is))),
(by
      (refine' Dw.dn_mk KX G ?a ?l ?c ?k (fun _ _ _ _ _ _ us hl => match us, hl with | [_], _ => rfl); (case a => k_is); (case l => k_is); (case c => k_is); (case k => k_is))),
(by
      (refine' Dw.dn_mk KX G ?a ?l ?c ?k (fun _ _ _ _ _ _ us hl => match us, hl with | [_], _ => rfl); (case a => k_is); (case l => k_is); (case c => k_is); (case k => k_is))),
(by
      (refine' Dw.dn_mk KX G ?a ?l ?c ?k (fun _ _ _ _ _ _ us hl => match us, hl with | [_], _ => rfl); (case a => k_is); (case l => k_is); (case c => k_is); (case k => k_is))),
(by
      (refine' Dw.dn_mk KX G ?a ?l ?c ?k (fun _ _ _ _ _ _ us hl => match us, hl with | [_], _ => rfl); (case a => k_is); (case l => k_is); (case c => k_is); (case k => k_is))),
(by
      (refine' Dw.k_str (PySem.W.mg_of KX G ?a) ?e; (case a => k_is); (case e => decide +kernel))),
(by
      (refine' PySem.W.mg_none_of KX G ?a; (case a => k_is))),
(by
      (refine' PySem.W.mg_none_of KX G ?a; (case a => k_is))),
(by
      (refine' PySem.W.mg_none_of KX G ?a; (case a => k_is))),
(by
      (refine' PySem.W.mg_none_of KX G ?a; (case a => k_is))),
(by
      (refine' PySem.W.mg_none_of KX G ?a; (case a => k_is))),
(by
      (refine' PySem.W.mg_none_of KX G ?a; (case a => k_is)))⟩
