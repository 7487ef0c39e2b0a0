import PyProof.Rows.All
import HandS.ForMost
import HandS.FStr
import HandS.IsInst
import HandS.TupAny
import HandS.Style
import HandS.StrMore
import HandS.Strs
import Open.Row
import HandS.ForExc
import HandS.ExcOwn
import HandS.TryOnly
import HandS.ExcIs
import HandS.RaiseMore
import PySem.Challenge.RW_dawkline_k06_disk
set_option Elab.async false
set_option linter.all false
set_option maxRecDepth 100000
set_option autoImplicit false
namespace Dw
open PySem PySem.Spec PyProof.Rows L2 TL
/-! ### the state of the heap between two draws -/
def Keep (st : Addr) (H H' : Hp) : Prop := ∀ a o, a ≠ st → H a = some o → H' a = some o
def Stt (H : Hp) (st : Addr) : Prop := ∃ k v : Int, H st = some (.lst [.int k, .int v])
def Dr (st : Addr) (H H' : Hp) : Prop := Keep st H H' ∧ Stt H' st
def Wd (K : PySem.W.Frag) (st sc : Addr) (ns : List Int) (H : Hp) : Prop :=
  Stt H st ∧ ∀ H', Keep st H H' → SqL K H' sc (ns.map V.int)
section
variable {K : PySem.W.Frag} {st sc p D : Addr} {ns : List Int} {H H1 H2 H3 : Hp} {o : HO}
theorem Keep.refl (st : Addr) (H : Hp) : Keep st H H := fun _ _ _ h => h
theorem Keep.trans (a : Keep st H H1) (b : Keep st H1 H2) : Keep st H H2 := fun x o n h => b x o n (a x o n h)
theorem Keep.of (a : Same H H1) : Keep st H H1 := fun x o _ h => a x o h
theorem Wd.next (w : Wd K st sc ns H) (d : Dr st H H1) : Wd K st sc ns H1 := ⟨d.2, fun H' k => w.2 H' (d.1.trans k)⟩
theorem Wd.list (w : Wd K st sc ns H) : SqL K H sc (ns.map V.int) := w.2 H (Keep.refl st H)
theorem Wd.dr (w : Wd K st sc ns H) : Dr st H H := ⟨Keep.refl st H, w.1⟩
theorem Dr.trans (a : Dr st H H1) (b : Dr st H1 H2) : Dr st H H2 := ⟨a.1.trans b.1, b.2⟩
theorem Stt.ne (s : Stt H st) (h : H p = none) : p ≠ st := fun e => by
  obtain ⟨k, v, q⟩ := s
  rw [e, q] at h
  cases h
theorem Stt.upd (s : Stt H st) (h : p ≠ st) : Stt (upd H p o) st := by
  obtain ⟨k, v, q⟩ := s
  exact ⟨k, v, by rw [upd_ne h.symm]; exact q⟩
theorem same_new (h : H p = none) : Same H (upd H p o) := fun b x e => by
  rw [upd_ne (ne_of_none e h)]
  exact e
theorem Dr.same (w : Stt H st) (a : Same H H1) : Dr st H H1 := ⟨Keep.of a, by
  obtain ⟨k, v, q⟩ := w
  exact ⟨k, v, a _ _ q⟩⟩
theorem Dr.new (d : Dr st H H1) (h : H1 p = none) : Dr st H (upd H1 p o) := d.trans (Dr.same d.2 (same_new h))
theorem Dr.put (w : Stt H st) (d : Dr st H H1) (h : H p = none) : Dr st H (upd H1 p o) :=
  ⟨fun a x n e => by
    rw [upd_ne (ne_of_none e h)]
    exact d.1 a x n e, d.2.upd (w.ne h)⟩
theorem Wd.new (w : Wd K st sc ns H) (h : H p = none) : Wd K st sc ns (upd H p o) := w.next (Dr.same w.1 (same_new h))
theorem Wd.same (w : Wd K st sc ns H) (h : Same H H1) : Wd K st sc ns H1 := w.next (Dr.same w.1 h)
theorem Dr.at (d : Dr st H H1) (n : p ≠ st) (h : H p = some o) : H1 p = some o := d.1 p o n h
end
/-! ### tuples whose object has no dict -/
def Tk (H : Hp) (p : Addr) (xs : List V) : Prop := ∃ o : Obj, o.dict = Option.none ∧ H p = some (.frz o (.tup xs))
section
variable {K : PySem.W.Frag} {st sc p : Addr} {H H1 : Hp} {xs : List V}
theorem Tk.seq (h : Tk H p xs) : SqT K H p xs := let ⟨o, _, e⟩ := h; .inl (.inr ⟨o, e⟩)
theorem Tk.ne (h : Tk H p xs) (s : Stt H st) : p ≠ st := fun e => by
  obtain ⟨o, _, q⟩ := h
  obtain ⟨k, v, r⟩ := s
  rw [e, r] at q
  cases q
theorem Tk.next (h : Tk H p xs) (s : Stt H st) (d : Dr st H H1) : Tk H1 p xs := by
  have n := h.ne s
  obtain ⟨o, a, e⟩ := h
  exact ⟨o, a, d.1 _ _ n e⟩
theorem Tk.same (h : Tk H p xs) (d : Same H H1) : Tk H1 p xs := let ⟨o, a, e⟩ := h; ⟨o, a, d _ _ e⟩
theorem Tk.mk {o : Obj} (h : o.dict = Option.none) : Tk (upd H p (.frz o (.tup xs))) p xs := ⟨o, h, upd_same⟩
end
section
variable {X : Cx}
def zTup (K : PySem.W.Frag) : List V → Hp → VK → Prop := fun xs H Q => ∃ p ys, xs = [V.ref p] ∧ SqL K H p ys ∧
  ∀ (l : Addr) (o : Obj), H l = none → o.dict = Option.none → Q (.ref l) (upd H l (.frz o (.tup ys)))
theorem y_tup : CallR X (.type "tuple") (zTup X.K) := by
  intro pins s σ H xs us Q I r h
  obtain ⟨p, ys, rfl, hq, q⟩ := h
  obtain ⟨u, rfl, rx⟩ := vals1 r
  cases rx
  obtain ⟨its, r', pl, hz⟩ := I.list hq
  have hlen := r'.length
  refine call_tuple_list pl.isList (fun h' kp => ?_) (by simp only [List.size_toArray] <;> omega)
  have I1 : Inv X pins σ H { s with heap := h' } := I.kept (t' := s.toks) kp
  refine ⟨.ref h'.objs.size, _, I1.laid (t' := s.toks) (o := .frz { cls := .type "tuple", data := .seq its.toArray } (.tup ys)) (fun b o e => Heap.get?_push_of_some _ e) (Nat.le_refl _) ?_, rfl, q _ _ (I1.hok.fresh (Nat.le_refl _)) rfl⟩
  exact ⟨Heap.get?_push_size _ rfl, hz, its, r', IsTup.new _ _⟩
def zTT (t : TA) : TE := fun σ H Q => t σ H fun xs H1 => xs.length ≤ sizeLine ∧ ∀ (p : Addr) (o : Obj), H1 p = none → o.dict = Option.none → Q (.ref p) (upd H1 p (.frz o (.tup xs)))
theorem y_tt {es : List Expr} {t : TA} {pos : Pos} {x1} (h : PA X es t) : PE X (.Tuple es x1 pos) (zTT t) := by
  refine ⟨fun pins s σ H Q I hq => ?_⟩
  refine wpAny_Tuple_spliced (thn (h.run pos pins s σ H _ I hq) fun us s1 ⟨xs, H1, I1, r, z, q⟩ => ⟨by rw [← r.length]; exact z, ?_⟩)
  refine ⟨.ref s1.heap.objs.size, _, I1.laid (t' := s1.toks) (o := .frz { cls := .type "tuple", data := .seq us.toArray } (.tup xs)) (fun b u e => Heap.get?_push_of_some _ e) (Nat.le_refl _) ?_, rfl, q _ _ (I1.hok.fresh (Nat.le_refl _)) rfl⟩
  exact ⟨Heap.get?_push_size _ rfl, z, us, r, IsTup.new _ _⟩
def zCat : R2 := fun x y H Q => ∃ a b xs ys, x = .ref a ∧ y = .ref b ∧ Tk H a xs ∧ Tk H b ys ∧ xs ≠ [] ∧ xs.length + ys.length ≤ sizeLine ∧
  ∀ (p : Addr) (H' : Hp), Same H H' → Tk H' p (xs ++ ys) → Q (.ref p) H'
theorem y_cat : OpR X (binaryOp .Add) zCat := by
  intro pins s σ H x y v u Q I rx ry h
  obtain ⟨a, b, xs, ys, rfl, rfl, ha, hb, hx, hz, q⟩ := h
  cases rx
  cases ry
  have ha' : SqT X.K H a xs := ha.seq
  have hb' : SqT X.K H b ys := hb.seq
  obtain ⟨its, r1, p1, _⟩ := I.tuple ha'
  obtain ⟨its2, r2, p2, _⟩ := I.tuple hb'
  refine HT.cat_tup p1 p2 (fun z => hx (r1.nil_iff.mp z)) (fun z => ?_) (fun z => ?_) (by rw [← r1.length, ← r2.length]; exact hz)
  · have e := r2.nil_iff.mp z
    subst e
    exact ⟨.ref a, H, I, rfl, q a H (Same.refl H) (by rw [List.append_nil]; exact ha)⟩
  · refine ⟨.ref s.heap.objs.size, _, I.laid (t' := s.toks) (o := .frz { cls := .type "tuple", data := .seq (its ++ its2).toArray } (.tup (xs ++ ys))) (fun b ob q => Heap.get?_push_of_some _ q) (Nat.le_refl _) ?_, rfl, q _ _ (same_new (I.hok.fresh (Nat.le_refl _))) (Tk.mk rfl)⟩
    exact ⟨Heap.get?_push_size _ rfl, by rw [List.length_append]; exact hz, _, r1.append r2, IsTup.new _ _⟩
/-- t.index(z), z in t -/
def zTIx (to te : TE) : TE := fun σ H Q => to σ H fun x H1 => ∃ (p : Addr) (ys : List Str), x = .ref p ∧ Tk H1 p (ys.map V.str) ∧ te σ H1 fun y H2 => ∃ (z : Str) (j : Nat), y = .str z ∧ Tk H2 p (ys.map V.str) ∧
  ys[j]? = some z ∧ (∀ m, m < j → ys[m]? ≠ some z) ∧ Q (.int (j : Nat)) H2
theorem y_tix {o e : Expr} {to te : TE} {apos cpos : Pos} (ho : PE X o to) (he : PE X e te)
    (hbase : attributeBase o "index" X.env (eval o X.env) = eval o X.env := by rfl)
    (hfew : ((backTo cpos (starEach [e] X.env)).all (fun x => !x.1) && (backToKw cpos (keywordEach [] X.env)).all (fun x => x.1.isSome)
      && decide ([e].length + ([] : List Keyword).length + (if ([] : List Keyword).isEmpty then 0 else 1) < 30)) = true := by rfl)
    (hline : (apos.endLine == cpos.line) = true := by rfl) (hs : starEach [e] X.env = (false, eval e X.env) :: starEach [] X.env := by rfl) (hplain : (backTo cpos (starEach [] X.env)).any (·.1) = false := by rfl) :
    PE X (.Call (.Attribute o "index" apos) [e] [] cpos) (zTIx to te) := by
  refine ⟨fun pins s σ H Q I h => ?_⟩
  refine wpAny_Call_method_late hbase hfew hline rfl (thn (ho.run pins s σ H _ I h) fun v s1 ⟨x, H1, I1, r1, q1⟩ => ?_)
  obtain ⟨p, ys, rfl, tk, q1⟩ := q1
  cases r1
  obtain ⟨o, od, oe⟩ := tk
  obtain ⟨e1, z1, its1, r1', o2, e2, c2, n2, d2⟩ := I1.hok p _ oe
  have hA := (pa_cons he (pa_nil (X := X)) hs).run cpos pins s1 σ H1 (fun vs H2 => match vs with
    | [y] => ∃ (z : Str) (j : Nat), y = .str z ∧ Tk H2 p (ys.map V.str) ∧ ys[j]? = some z ∧ (∀ m, m < j → ys[m]? ≠ some z) ∧ Q (.int (j : Nat)) H2
    | _ => False) I1 q1
  rw [hs] at hA ⊢
  refine ⟨"tuple", "tuple.index", PySem.F.plainAttrs_tuple, PySem.F.slot_tuple_index, PySem.F.type_tuple_index, ⟨o2, e2, c2⟩, fun a ea => ?_, ?_⟩
  · cases ea
    exact ⟨o, e1, od⟩
  refine Calls.callWith_builtin (by show (false || (backTo cpos (starEach [] X.env)).any (·.1)) = false; rw [hplain] <;> rfl) (Calls.evalArgs_plain ?_)
  refine thn hA fun us s2 ⟨vs, H2, I2, r2, q2⟩ => ?_
  match vs, q2, r2 with
  | [y], q2, r2 =>
  obtain ⟨z, j, rfl, tk2, hj, hm, q⟩ := q2
  exact mt_tup_index pins s2 σ H2 (.ref p) [.str z] _ us Q I2 rfl r2 ⟨p, ys, z, j, rfl, rfl, tk2.seq, hj, hm, q⟩
end

/-! ### readings, one step at a time -/
def wBl (x : V) (H : Hp) (Q : Bool → Hp → Prop) : Prop := ∃ k, x = .bl k ∧ Q k H
def wPart (x : V) (H : Hp) (Q : Option Int → Hp → Prop) : Prop := ∃ i, x = V.int i ∧ Q (some i) H
def wM (x : V) (P : Prop) : Prop := (∃ a, x = V.str a) ∧ P
def zLenS : List V → Hp → VK → Prop := fun xs H Q => ∃ z, xs = [V.str z] ∧ z.length ≤ sizeLine ∧ Q (.int z.length) H
def zLenQ (K : PySem.W.Frag) : List V → Hp → VK → Prop := fun xs H Q => ∃ p ys, xs = [V.ref p] ∧ (SqL K H p ys ∨ SqT K H p ys) ∧ Q (.int ys.length) H
def zInt : List V → Hp → VK → Prop := fun xs H Q => (∃ i, xs = [V.int i] ∧ Q (.int i) H) ∨ ∃ k, xs = [V.bl k] ∧ Q (.int (if k then 1 else 0)) H
def zJoin (K : PySem.W.Frag) : V → List V → Hp → VK → Prop := fun x xs H Q => ∃ a p, ∃ ys : List Str, x = .str a ∧ xs = [V.ref p] ∧ (SqL K H p (ys.map V.str) ∨ SqT K H p (ys.map V.str)) ∧
    (ys.map (·.length)).sum + ys.length * a.length ≤ 16777216 ∧ Q (.str (Txt.join a ys)) H
def zStarts : V → List V → Hp → VK → Prop := fun x xs H Q => ∃ a b, x = .str a ∧ xs = [V.str b] ∧ Q (.bl (Txt.startswith a b)) H
def zEnds : V → List V → Hp → VK → Prop := fun x xs H Q => ∃ a b, x = .str a ∧ xs = [V.str b] ∧ Q (.bl (Txt.endswith a b)) H
def zRstrip : V → List V → Hp → VK → Prop := fun x xs H Q => ∃ a b, x = .str a ∧ xs = [V.str b] ∧ a.length ≤ sizeLine ∧ Q (.str (Txt.rstripChars a b)) H
def zSplit : V → List V → Hp → VK → Prop := fun x xs H Q => ∃ a b, x = .str a ∧ xs = [V.str b] ∧ (b.length == 0) = false ∧ a.length + 2 ≤ sizeLine ∧ rNewStrs (Txt.split a b) H Q
def zPartition : V → List V → Hp → VK → Prop := fun x xs H Q => ∃ a b, x = .str a ∧ xs = [V.str b] ∧ (b.length == 0) = false ∧ a.length ≤ sizeLine ∧
    ∀ p, H p = none → Q (.ref p) (upd H p (.tup [.str (Txt.partition a b).1, .str (Txt.partition a b).2.1, .str (Txt.partition a b).2.2]))
def zAdS : R2 := fun x y H Q => ∃ i j, x = .str i ∧ y = .str j ∧ i.length + j.length ≤ sizeLine ∧ Q (.str (i ++ j)) H
def zIn1 : R2 := fun x y H Q => ∃ (c : Nat) (z : Str), x = .str ⟨#[c]⟩ ∧ y = .str z ∧ Q (.bl (decide (c ∈ z.cps.toList))) H
def zInS (neg : Bool) : R2 := fun x y H Q => ∃ i j, x = .str i ∧ y = .str j ∧ Q (.bl (if neg then !(!(Builtin.Str.occurrences j i 0 j.length 1).isEmpty) else !(Builtin.Str.occurrences j i 0 j.length 1).isEmpty)) H
def zIsN (neg : Bool) : R2 := fun x y H Q => y = .non ∧ Q (.bl (if neg then !decide (x = .non) else decide (x = .non))) H
def zRepS : R2 := fun x y H Q => ∃ (z : Str) (k : Int), x = .str z ∧ y = .int k ∧ 0 ≤ k ∧ z.length * k.toNat ≤ sizeLine ∧ Q (.str ⟨((List.replicate k.toNat (tl z)).flatten).toArray⟩) H
def zTruth (K : PySem.W.Frag) (ta : TE) : TT := fun σ H Q => ta σ H fun x H' => ∃ k, TruV K x H' k ∧ Q k H'
def zJs (ts : List TE) : TE := fun σ H Q => tJs ts Str.empty σ H fun out H1 => Q (.str out) H1
def wJs (ts : List TE) (acc : Str) (σ : L2.St) (Q : Str → Hp → Prop) (x : V) (H : Hp) : Prop := ∃ y : Str, x = .str y ∧ (acc ++ y).length ≤ sizeLine ∧ tJs ts (acc ++ y) σ H Q
def wFmt (x : V) (H : Hp) (Q : VK) : Prop := (∃ y : Str, x = .str y ∧ y.length ≤ sizeLine ∧ Q (.str y) H) ∨ ∃ i : Int, x = .int i ∧ i.natAbs.log2 < 1920 ∧ Q (.str (toString i)) H
def wFmtR (x : V) (H : Hp) (Q : VK) : Prop := (∃ y : Str, x = .str y ∧ (reprText y).length ≤ sizeLine ∧ Q (.str (reprText y)) H) ∨ ∃ i : Int, x = .int i ∧ i.natAbs.log2 < 1920 ∧ Q (.str (toString i)) H
def wCh (r' : R2) (tc : TE) (σ : L2.St) (Q : VK) (y z : V) (H : Hp) : Prop := ∃ k, z = .bl k ∧ if k = true then tc σ H fun w H1 => r' y w H1 Q else Q (.bl false) H
section
variable {X : Cx}
theorem y_lenS : CallR X (.builtin "len") zLenS := call_len_str
theorem y_lenQ : CallR X (.builtin "len") (zLenQ X.K) := call_len_seq
theorem y_int : CallR X (.type "int") zInt := call_int1
theorem y_join : MtR X "str.join" (zJoin X.K) := mt_join
theorem y_starts : MtR X "str.startswith" zStarts := mt_startswith
theorem y_ends : MtR X "str.endswith" zEnds := mt_endswith
theorem y_rstrip : MtR X "str.rstrip" zRstrip := mt_rstripChars
theorem y_split : MtR X "str.split" zSplit := mt_split
theorem y_partition : MtR X "str.partition" zPartition := mt_partition
theorem y_adS : OpR X (binaryOp .Add) zAdS := op_add_str
theorem y_in1 : OpR X (compareOp .In) zIn1 := op_in_sign
theorem y_inS : OpR X (compareOp .In) (zInS false) := op_in_str
theorem y_ninS : OpR X (compareOp .NotIn) (zInS true) := op_notIn_str
theorem y_isN : OpR X (compareOp .Is) (zIsN false) := op_isN
theorem y_notN : OpR X (compareOp .IsNot) (zIsN true) := op_notN
theorem y_truth {a : Expr} {ta : TE} (ha : PE X a ta) (he : ∀ whole, isTrue a X.env whole = (do let v ← whole; standAt a.pos; holding [v] (truthy v))) : PT X a (zTruth X.K ta) := pt_truth ha he
theorem y_joined {v1 v2 : Expr} {rest : List Expr} {ts : List TE} {pos : Pos} (h : PJ X (v1 :: v2 :: rest) ts) : PE X (.JoinedStr (v1 :: v2 :: rest) pos) (zJs ts) := pe_joined h
end
section
variable {σ : L2.St} {H : Hp} {Q : VK} {QB : Bool → Hp → Prop} {QA : List V → Hp → Prop} {QO : Option Int → Hp → Prop} {QS : Str → Hp → Prop} {QG : L2.St → Hp → Prop}
  {nx bk ct : L2.St → Hp → Prop} {rt : VK} {t u : TS} {ta tb tc : TE} {tA tB' : TT} {as : TA} {g : TG} {v : V} {i j : Int} {x y : Str} {b : Bool} {r r' : R2} {P : Prop} {E : XK} {K : PySem.W.Frag}
theorem rd_seq (h : t ⟨u ⟨nx, rt, bk, ct⟩, rt, bk, ct⟩ σ H) : tSeq t u ⟨nx, rt, bk, ct⟩ σ H := h
theorem rd_next (h : nx σ H) : tNext ⟨nx, rt, bk, ct⟩ σ H := h
theorem rd_asg (h : ta σ H fun x H1 => g x σ H1 nx) : tAsg ta g ⟨nx, rt, bk, ct⟩ σ H := h
theorem rd_ifS (h : tA σ H fun b H1 => if b = true then t ⟨nx, rt, bk, ct⟩ σ H1 else u ⟨nx, rt, bk, ct⟩ σ H1) : tIfS tA t u ⟨nx, rt, bk, ct⟩ σ H := h
theorem rd_ret (h : ta σ H rt) : tRet ta ⟨nx, rt, bk, ct⟩ σ H := h
theorem rd_retN (h : rt .non H) : tRetN ⟨nx, rt, bk, ct⟩ σ H := h
theorem rd_drop (h : ta σ H fun _ H1 => nx σ H1) : tDrop ta ⟨nx, rt, bk, ct⟩ σ H := h
theorem rd_n0 {a} {l : L2.St} (h : QG (some v :: l) H) : gName 0 v (a :: l) H QG := h
theorem rd_n1 {a a1} {l : L2.St} (h : QG (a :: some v :: l) H) : gName 1 v (a :: a1 :: l) H QG := h
theorem rd_n2 {a a1 a2} {l : L2.St} (h : QG (a :: a1 :: some v :: l) H) : gName 2 v (a :: a1 :: a2 :: l) H QG := h
theorem rd_n3 {a a1 a2 a3} {l : L2.St} (h : QG (a :: a1 :: a2 :: some v :: l) H) : gName 3 v (a :: a1 :: a2 :: a3 :: l) H QG := h
theorem rd_n4 {a a1 a2 a3 a4} {l : L2.St} (h : QG (a :: a1 :: a2 :: a3 :: some v :: l) H) : gName 4 v (a :: a1 :: a2 :: a3 :: a4 :: l) H QG := h
theorem rd_n5 {a a1 a2 a3 a4 a5} {l : L2.St} (h : QG (a :: a1 :: a2 :: a3 :: a4 :: some v :: l) H) : gName 5 v (a :: a1 :: a2 :: a3 :: a4 :: a5 :: l) H QG := h
theorem rd_n6 {a a1 a2 a3 a4 a5 a6} {l : L2.St} (h : QG (a :: a1 :: a2 :: a3 :: a4 :: a5 :: some v :: l) H) : gName 6 v (a :: a1 :: a2 :: a3 :: a4 :: a5 :: a6 :: l) H QG := h
theorem rd_n7 {a a1 a2 a3 a4 a5 a6 a7} {l : L2.St} (h : QG (a :: a1 :: a2 :: a3 :: a4 :: a5 :: a6 :: some v :: l) H) : gName 7 v (a :: a1 :: a2 :: a3 :: a4 :: a5 :: a6 :: a7 :: l) H QG := h
theorem rd_n8 {a a1 a2 a3 a4 a5 a6 a7 a8} {l : L2.St} (h : QG (a :: a1 :: a2 :: a3 :: a4 :: a5 :: a6 :: a7 :: some v :: l) H) : gName 8 v (a :: a1 :: a2 :: a3 :: a4 :: a5 :: a6 :: a7 :: a8 :: l) H QG := h
theorem rd_n9 {a a1 a2 a3 a4 a5 a6 a7 a8 a9} {l : L2.St} (h : QG (a :: a1 :: a2 :: a3 :: a4 :: a5 :: a6 :: a7 :: a8 :: some v :: l) H) : gName 9 v (a :: a1 :: a2 :: a3 :: a4 :: a5 :: a6 :: a7 :: a8 :: a9 :: l) H QG := h
theorem rd_n10 {a a1 a2 a3 a4 a5 a6 a7 a8 a9 b0} {l : L2.St} (h : QG (a :: a1 :: a2 :: a3 :: a4 :: a5 :: a6 :: a7 :: a8 :: a9 :: some v :: l) H) : gName 10 v (a :: a1 :: a2 :: a3 :: a4 :: a5 :: a6 :: a7 :: a8 :: a9 :: b0 :: l) H QG := h
theorem rd_n11 {a a1 a2 a3 a4 a5 a6 a7 a8 a9 b0 b1} {l : L2.St} (h : QG (a :: a1 :: a2 :: a3 :: a4 :: a5 :: a6 :: a7 :: a8 :: a9 :: b0 :: some v :: l) H) : gName 11 v (a :: a1 :: a2 :: a3 :: a4 :: a5 :: a6 :: a7 :: a8 :: a9 :: b0 :: b1 :: l) H QG := h
theorem rd_v0 {l : L2.St} (h : Q v H) : tVar 0 (some v :: l) H Q := ⟨v, rfl, h⟩
theorem rd_v1 {a} {l : L2.St} (h : Q v H) : tVar 1 (a :: some v :: l) H Q := ⟨v, rfl, h⟩
theorem rd_v2 {a a1} {l : L2.St} (h : Q v H) : tVar 2 (a :: a1 :: some v :: l) H Q := ⟨v, rfl, h⟩
theorem rd_v3 {a a1 a2} {l : L2.St} (h : Q v H) : tVar 3 (a :: a1 :: a2 :: some v :: l) H Q := ⟨v, rfl, h⟩
theorem rd_v4 {a a1 a2 a3} {l : L2.St} (h : Q v H) : tVar 4 (a :: a1 :: a2 :: a3 :: some v :: l) H Q := ⟨v, rfl, h⟩
theorem rd_v5 {a a1 a2 a3 a4} {l : L2.St} (h : Q v H) : tVar 5 (a :: a1 :: a2 :: a3 :: a4 :: some v :: l) H Q := ⟨v, rfl, h⟩
theorem rd_v6 {a a1 a2 a3 a4 a5} {l : L2.St} (h : Q v H) : tVar 6 (a :: a1 :: a2 :: a3 :: a4 :: a5 :: some v :: l) H Q := ⟨v, rfl, h⟩
theorem rd_v7 {a a1 a2 a3 a4 a5 a6} {l : L2.St} (h : Q v H) : tVar 7 (a :: a1 :: a2 :: a3 :: a4 :: a5 :: a6 :: some v :: l) H Q := ⟨v, rfl, h⟩
theorem rd_v8 {a a1 a2 a3 a4 a5 a6 a7} {l : L2.St} (h : Q v H) : tVar 8 (a :: a1 :: a2 :: a3 :: a4 :: a5 :: a6 :: a7 :: some v :: l) H Q := ⟨v, rfl, h⟩
theorem rd_v9 {a a1 a2 a3 a4 a5 a6 a7 a8} {l : L2.St} (h : Q v H) : tVar 9 (a :: a1 :: a2 :: a3 :: a4 :: a5 :: a6 :: a7 :: a8 :: some v :: l) H Q := ⟨v, rfl, h⟩
theorem rd_v10 {a a1 a2 a3 a4 a5 a6 a7 a8 a9} {l : L2.St} (h : Q v H) : tVar 10 (a :: a1 :: a2 :: a3 :: a4 :: a5 :: a6 :: a7 :: a8 :: a9 :: some v :: l) H Q := ⟨v, rfl, h⟩
theorem rd_v11 {a a1 a2 a3 a4 a5 a6 a7 a8 a9 b0} {l : L2.St} (h : Q v H) : tVar 11 (a :: a1 :: a2 :: a3 :: a4 :: a5 :: a6 :: a7 :: a8 :: a9 :: b0 :: some v :: l) H Q := ⟨v, rfl, h⟩
theorem rd_c (h : Q v H) : tC v σ H Q := h
theorem rd_op (h : ta σ H fun x H1 => tb σ H1 fun y H2 => r x y H2 Q) : tOp r ta tb σ H Q := h
theorem rd_i0 {f : Int → Int → V} (h : Q (f i j) H) : rI0 f (.int i) (.int j) H Q := ⟨i, j, rfl, rfl, h⟩
theorem rd_iC {f : Int → Int → V} {C : Int → Int → Prop} (h : Q (f i j) H) (c : C i j) : rI C f (.int i) (.int j) H Q := ⟨i, j, rfl, rfl, c, h⟩
theorem rd_un {f : V → Hp → VK → Prop} (h : ta σ H fun x H1 => f x H1 Q) : tUn f ta σ H Q := h
theorem rd_u {f : Int → V} (h : Q (f i) H) : rU f (.int i) H Q := ⟨i, rfl, h⟩
theorem rd_eqI (h : Q (.bl (decide (i = j))) H) : rEq (.int i) (.int j) H Q := ⟨rfl, by
  rw [show decide (V.int i = V.int j) = decide (i = j) by simp only [V.int.injEq]]
  exact h⟩
theorem rd_neI (h : Q (.bl (!decide (i = j))) H) : rNe (.int i) (.int j) H Q := ⟨rfl, by
  rw [show decide (V.int i = V.int j) = decide (i = j) by simp only [V.int.injEq]]
  exact h⟩
theorem rd_eqS (h : Q (.bl (decide (x = y))) H) : rEq (.str x) (.str y) H Q := ⟨rfl, by
  rw [show decide (V.str x = V.str y) = decide (x = y) by simp only [V.str.injEq]]
  exact h⟩
theorem rd_neS (h : Q (.bl (!decide (x = y))) H) : rNe (.str x) (.str y) H Q := ⟨rfl, by
  rw [show decide (V.str x = V.str y) = decide (x = y) by simp only [V.str.injEq]]
  exact h⟩
theorem rd_test (h : ta σ H fun x H1 => wBl x H1 QB) : tTest ta σ H QB := h
theorem rd_tB (h : ta σ H fun x H1 => wBl x H1 QB) : tB ta σ H QB := h
theorem rd_wBl (h : QB b H) : wBl (.bl b) H QB := ⟨b, rfl, h⟩
theorem rd_and (h : tA σ H fun c H1 => if c = true then tB' σ H1 QB else QB false H1) : tAnd tA tB' σ H QB := h
theorem rd_or (h : tA σ H fun c H1 => if c = true then QB true H1 else tB' σ H1 QB) : tOr tA tB' σ H QB := h
theorem rd_not (h : tA σ H fun c H1 => QB (!c) H1) : tNot tA σ H QB := h
theorem rd_notV (h : ta σ H fun x H1 => wBl x H1 fun c H2 => Q (.bl (!c)) H2) : tNotV ta σ H Q := h
theorem rd_andV (h : ta σ H fun x H1 => wBl x H1 fun c H2 => if c = true then tb σ H2 Q else Q (.bl false) H2) : tAndV ta tb σ H Q := h
theorem rd_orV (h : ta σ H fun x H1 => wBl x H1 fun c H2 => if c = true then Q (.bl true) H2 else tb σ H2 Q) : tOrV ta tb σ H Q := h
theorem rd_ifE (h : tA σ H fun c H1 => if c = true then ta σ H1 Q else tb σ H1 Q) : tIf tA ta tb σ H Q := h
theorem rd_ch (h : ta σ H fun x H1 => tb σ H1 fun y H2 => r x y H2 fun z H3 => wCh r' tc σ Q y z H3) : tChain r r' ta tb tc σ H Q := h
theorem rd_wCh {y : V} (h : if b = true then tc σ H fun w H1 => r' y w H1 Q else Q (.bl false) H) : wCh r' tc σ Q y (.bl b) H := ⟨b, rfl, h⟩
theorem rd_cb {f : List V → Hp → VK → Prop} (h : as σ H fun vs H1 => f vs H1 Q) : tCB f as σ H Q := h
theorem rd_call {sp : Sp} (h : as σ H fun vs H1 => sp vs H1 Q E) : tCall sp [] E as σ H Q := by
  unfold tCall
  simpa only [List.append_nil] using h
theorem rd_cons {tr : TA} (h : ta σ H fun x H1 => tr σ H1 fun xs H2 => QA (x :: xs) H2) : tCons ta tr σ H QA := h
theorem rd_nil (h : QA [] H) : tNil σ H QA := h
def wTT (xs : List V) (H : Hp) (Q : VK) : Prop := xs.length ≤ sizeLine ∧ ∀ (p : Addr) (o : Obj), H p = none → o.dict = Option.none → Q (.ref p) (upd H p (.frz o (.tup xs)))
def wLs (xs : List V) (H : Hp) (Q : VK) : Prop := xs.length ≤ sizeLine ∧ ∀ (p : Addr), H p = none → Q (.ref p) (upd H p (.lst xs))
theorem rd_tt (h : as σ H fun xs H1 => wTT xs H1 Q) : zTT as σ H Q := h
theorem rd_ls (h : as σ H fun xs H1 => wLs xs H1 Q) : tLst as σ H Q := h
theorem rd_sl {f : V → Option Int → Option Int → Hp → VK → Prop} {tl' th : TO} (h : ta σ H fun x H1 => tl' σ H1 fun l H2 => th σ H2 fun u H3 => f x l u H3 Q) : tSl f ta tl' th σ H Q := h
theorem rd_noP (h : QO none H) : tNoPart σ H QO := h
theorem rd_part (h : ta σ H fun x H1 => wPart x H1 QO) : tPart ta σ H QO := h
theorem rd_wPart (h : QO (some i) H) : wPart (.int i) H QO := ⟨i, rfl, h⟩
theorem rd_m1 {f : V → List V → Hp → VK → Prop} (h : ta σ H fun x H1 => wM x (tb σ H1 fun y H2 => f x [y] H2 Q)) : tM1 f ta tb σ H Q := h
theorem rd_wM (h : P) : wM (.str x) P := ⟨⟨x, rfl⟩, h⟩
theorem rd_js {ts : List TE} (h : tJs (ta :: ts) Str.empty σ H fun out H1 => Q (.str out) H1) : zJs (ta :: ts) σ H Q := h
theorem rd_jc {ts : List TE} {acc : Str} (h : ta σ H fun x H1 => wJs ts acc σ QS x H1) : tJs (ta :: ts) acc σ H QS := h
theorem rd_jn {acc : Str} (h : QS acc H) : tJs [] acc σ H QS := h
theorem rd_wJs {ts : List TE} {acc : Str} (h : tJs ts (acc ++ x) σ H QS) (c : (acc ++ x).length ≤ sizeLine) : wJs ts acc σ QS (.str x) H := ⟨x, rfl, c, h⟩
theorem rd_fmt (h : ta σ H fun x H1 => wFmt x H1 Q) : tFmt ta σ H Q := h
theorem rd_fmtR (h : ta σ H fun x H1 => wFmtR x H1 Q) : tFmtR ta σ H Q := h
theorem rd_wFmt (h : Q (.str x) H) (c : x.length ≤ sizeLine) : wFmt (.str x) H Q := .inl ⟨x, rfl, c, h⟩
theorem rd_wFmtR (h : Q (.str (reprText x)) H) (c : (reprText x).length ≤ sizeLine) : wFmtR (.str x) H Q := .inl ⟨x, rfl, c, h⟩
theorem rd_lenS (h : Q (.int x.length) H) (c : x.length ≤ sizeLine) : zLenS [.str x] H Q := ⟨x, rfl, c, h⟩
theorem rd_int (h : Q (.int i) H) : zInt [.int i] H Q := .inl ⟨i, rfl, h⟩
theorem rd_intB (h : Q (.int (if b then 1 else 0)) H) : zInt [.bl b] H Q := .inr ⟨b, rfl, h⟩
theorem rd_starts (h : Q (.bl (Txt.startswith x y)) H) : zStarts (.str x) [.str y] H Q := ⟨x, y, rfl, rfl, h⟩
theorem rd_ends (h : Q (.bl (Txt.endswith x y)) H) : zEnds (.str x) [.str y] H Q := ⟨x, y, rfl, rfl, h⟩
theorem rd_rstrip (h : Q (.str (Txt.rstripChars x y)) H) (c : x.length ≤ sizeLine) : zRstrip (.str x) [.str y] H Q := ⟨x, y, rfl, rfl, c, h⟩
theorem rd_adS (h : Q (.str (x ++ y)) H) (c : x.length + y.length ≤ sizeLine) : zAdS (.str x) (.str y) H Q := ⟨x, y, rfl, rfl, c, h⟩
theorem rd_slS {lo hi : Option Int} (h : Q (.str (cutS x lo hi)) H) (c : x.length ≤ sizeLine) : rSlS (.str x) lo hi H Q := ⟨x, rfl, c, h⟩
theorem rd_in1 {c : Nat} (h : Q (.bl (decide (c ∈ tl y))) H) : zIn1 (.str ⟨#[c]⟩) (.str y) H Q := ⟨c, y, rfl, rfl, h⟩
theorem rd_isB {c : Bool} (h : Q (.bl (decide (b = c))) H) : rIsB (.bl b) (.bl c) H Q := ⟨b, c, rfl, rfl, h⟩
theorem rd_isN (h : Q (.bl (decide (v = .non))) H) : zIsN false v .non H Q := ⟨rfl, h⟩
theorem rd_notN (h : Q (.bl (!decide (v = .non))) H) : zIsN true v .non H Q := ⟨rfl, h⟩
theorem rd_iT {A B : Prop} (h : A) : if true = true then A else B := iteT h
theorem rd_iF {A B : Prop} (h : B) : if false = true then A else B := iteF h
theorem rd_yes (h : QB true H) : tYes σ H QB := h
theorem if_dec {c A B : Prop} [Decidable c] (h1 : c → A) (h2 : ¬ c → B) : if decide c = true then A else B := ite2 (fun e => h1 (of_decide_eq_true e)) (fun e => h2 fun z => e (decide_eq_true z))
theorem if_ndec {c A B : Prop} [Decidable c] (h1 : ¬ c → A) (h2 : c → B) : if (!decide c) = true then A else B := by
  by_cases e : c
  · rw [decide_eq_true e]
    exact iteF (h2 e)
  · rw [decide_eq_false e]
    exact iteT (h1 e)
theorem if_b {A B : Prop} (h1 : b = true → A) (h2 : b = false → B) : if b = true then A else B := by
  cases b
  · exact iteF (h2 rfl)
  · exact iteT (h1 rfl)
end
theorem line_of {n : Nat} (h : n ≤ 10000000) : n ≤ sizeLine := Nat.le_trans h (by decide)
theorem lt_line {n : Nat} (h : n < 10000000) : n < sizeLine := Nat.lt_of_lt_of_le h (by decide)
theorem len_app (x y : Str) : (x ++ y).length = x.length + y.length := by rw [len_tl, len_tl, len_tl, tl_append, List.length_append]
theorem len_cut (z : Str) (lo hi : Option Int) : (cutS z lo hi).length ≤ z.length := cutS_length z lo hi
theorem len_of (s : String) : (Str.ofString s).length = s.length := by rw [len_tl, tl_ofString, List.length_map]; rfl
theorem tl_empty : tl Str.empty = [] := rfl
theorem len_empty : Str.empty.length = 0 := rfl
/-! ### a def of the top -/
def Dn (K : PySem.W.Frag) (mg : Str → Option Value) (x : Str) (st : Stmt) (ps : List Str) : Prop := ∃ f fd, mg x = some (.ref f) ∧ Fun K x x st f fd ∧ ∀ (s : Shared) (us : List Value), us.length = ps.length → BindsTo s fd ⟨us, []⟩ (ps.zip us)
def OkD (P : Program) (w : World) (K : PySem.W.Frag) (mg : Str → Option Value) (base : Heap) (CX : CXT) (k : Nat) (x : Str) (ps : List Str) (sp : Sp) : Prop :=
  ∃ f fd, mg x = some (.ref f) ∧ PySem.W.keepIn K (.ref f) = true ∧ Binds K fd ps [] ∧ FnOk P w K mg base CX k f fd ps sp
theorem dn_mk {K : PySem.W.Frag} {h : Heap} {mg : Str → Option Value} {x : Str} {st : Stmt} {ps : List Str} {f : Addr} {oc kV doc pm cdv ct : Value} {od an : Option Addr} {osl : Array (Option Value)} (X : K.In h) (G : h.Ns mainGlobals mg)
    (a : PySem.W.nsIn K mainGlobals x = some (some (.ref f))) (l : K.lookup f = some ⟨oc, od, .func (PySem.W.fnOf x x (defArgs st) (defBody st) (defScope st) .none kV doc pm an cdv ct), osl⟩)
    (c : PySem.W.codeIn K cdv x = true) (k : PySem.W.keepIn K (.ref f) = true)
    (b : ∀ (kV doc pm : Value) (an : Option Addr) (cdv ct : Value) (us : List Value), us.length = ps.length → bindArgs (PySem.W.fnOf x x (defArgs st) (defBody st) (defScope st) .none kV doc pm an cdv ct) ⟨us, []⟩ = pure (ps.zip us)) : Dn K mg x st ps :=
  ⟨f, _, PySem.W.mg_of X G a, fun_mk l c k, fun s us hl => .of_eq (b kV doc pm an cdv ct us hl)⟩
theorem binds_of {K : PySem.W.Frag} {fd : FuncData} {ps : List Str} (b : ∀ (s : Shared) (us : List Value), us.length = ps.length → BindsTo s fd ⟨us, []⟩ (ps.zip us)) : Binds K fd ps [] := fun s us _ hl => by
  rw [List.append_nil] at hl ⊢
  exact b s us hl
theorem ok_F {P : Program} {w : World} {K : PySem.W.Frag} {mg : Str → Option Value} {base : Heap} {k : Nat} {x : Str} {st : Stmt} {ps N : List Str} {sp : Sp} {f : Addr} {fd : FuncData} (F : Fun K x x st f fd) (S : FnScope N ps (defScope st))
    (len : ∀ vs H Q E, sp vs H Q E → vs.length = ps.length)
    (hbody : ∀ (cdv : Value) (A : Around) (outer : List Env) (s : Shared) (H : Hp) (vs : List V) (Q : VK) (E : XK), Room k (A.deeper (envOfC x (defScope st) s.heap.objs.size f cdv)) → sp vs H Q E →
      ∃ t, PSs (cxOf CX0 P w K mg base N x (defScope st) f cdv A outer s H E).nox (defBody st) t ∧ t ⟨fun _ H' => Q .non H', Q, fun _ _ => False, fun _ _ => False⟩ (start N vs) H) : FnOk P w K mg base CX0 (k + 1) f fd ps sp :=
  F.ok S len fun cdv A outer s H vs Q E hr h => hbody cdv A outer s H vs Q E hr h
theorem ok_mk {P : Program} {w : World} {K : PySem.W.Frag} {mg : Str → Option Value} {base : Heap} {k : Nat} {x : Str} {st : Stmt} {ps N : List Str} {sp : Sp} (d : Dn K mg x st ps) (S : FnScope N ps (defScope st))
    (len : ∀ vs H Q E, sp vs H Q E → vs.length = ps.length)
    (hbody : ∀ (f : Addr) (cdv : Value) (A : Around) (outer : List Env) (s : Shared) (H : Hp) (vs : List V) (Q : VK) (E : XK), Room k (A.deeper (envOfC x (defScope st) s.heap.objs.size f cdv)) → sp vs H Q E →
      ∃ t, PSs (cxOf CX0 P w K mg base N x (defScope st) f cdv A outer s H E).nox (defBody st) t ∧ t ⟨fun _ H' => Q .non H', Q, fun _ _ => False, fun _ _ => False⟩ (start N vs) H) : OkD P w K mg base CX0 (k + 1) x ps sp := by
  obtain ⟨f, fd, m, F, b⟩ := d
  exact ⟨f, fd, m, F.kp, binds_of b, F.ok S len fun cdv A outer s H vs Q E hr h => hbody f cdv A outer s H vs Q E hr h⟩
section
variable {X : Cx}
theorem pe_callD {k : Nat} {x : Str} {ps : List Str} {sp : Sp} {t : TA} {e : Expr} {es : List Expr} {p pos : Pos} {E : XK} (O : OkD X.prog X.w X.K X.mg X.base CX0 k x ps sp) (hr : Room k X.A) (hg : Gl X x) (hx : Passes CX0 X E) (ha : PA X (e :: es) t)
    (hdb : (x == ("__debug__" : Str)) = false := by decide) (he : starEach (e :: es) X.env = (false, eval e X.env) :: starEach es X.env := by rfl) (hpl : (backTo pos (starEach es X.env)).any (·.1) = false := by rfl) :
    PE X (.Call (.Name x p) (e :: es) [] pos) (tCall sp [] E t) := by
  obtain ⟨f, fd, m, kp, b, F⟩ := O
  exact pe_call F hr hg m kp b .nil hx ha hdb he hpl
end
def wTru (K : PySem.W.Frag) (x : V) (H : Hp) (Q : Bool → Hp → Prop) : Prop := ∃ k, TruV K x H k ∧ Q k H
section
variable {σ : L2.St} {H : Hp} {Q : VK} {QB : Bool → Hp → Prop} {K : PySem.W.Frag} {a : Addr} {xs : List V} {i k : Int} {ta : TE}
theorem rd_truth (h : ta σ H fun x H1 => wTru K x H1 QB) : zTruth K ta σ H QB := h
theorem rd_truL (c : SqL K H a xs) (h : QB (!xs.isEmpty) H) : wTru K (.ref a) H QB := ⟨_, .inl ⟨xs, c, rfl⟩, h⟩
theorem rd_lenL (c : SqL K H a xs) (h : Q (.int xs.length) H) : zLenQ K [.ref a] H Q := ⟨a, xs, rfl, .inl c, h⟩
theorem rd_lenT (c : SqT K H a xs) (h : Q (.int xs.length) H) : zLenQ K [.ref a] H Q := ⟨a, xs, rfl, .inr c, h⟩
theorem rd_ixL {v : V} (c : SqL K H a xs) (e : atI xs i = some v) (h : Q v H) : rIxL K (.ref a) (.int i) H Q := ⟨a, xs, i, v, rfl, rfl, c, e, h⟩
theorem rd_ixT {v : V} (c : SqT K H a xs) (e : atI xs i = some v) (h : Q v H) : rIxT K (.ref a) (.int i) H Q := ⟨a, xs, i, v, rfl, rfl, c, e, h⟩
theorem atI_in {α : Type} {xs : List α} {i : Int} (h0 : 0 ≤ i) (h1 : i < xs.length) : ∃ v, v ∈ xs ∧ atI xs i = some v := by
  obtain ⟨j, rfl⟩ := Int.eq_ofNat_of_zero_le h0
  have hj : j < xs.length := by omega
  exact ⟨xs[j], List.getElem_mem hj, atI_nat (List.getElem?_eq_getElem hj)⟩
end
/-! ### comprehensions and loops over a range -/
def LcR (n : Nat) (g : TG) (te : TE) (vs : List Nat) (σ : L2.St) (H1 : Hp) (D : Addr) (Qd : Hp → Prop) : Prop := ∃ W : Nat → Nat → Hp → Prop, (∃ m, W 0 m (upd H1 D (.lst []))) ∧ ∀ i m H, W i m H →
  ((Itr 0 n).stop i H ∧ Qd H) ∨ ((Itr 0 n).go i H ∧ ∃ Nx : Hp → Prop, (∀ H', Nx H' → ∃ m', m' < m ∧ W (i + 1) m' H') ∧ ∀ x H', (Itr 0 n).yld i H x H' → g x (wipe σ vs) H' fun σ2 H2 => wipe σ2 vs = wipe σ vs ∧ tYes σ2 H2 fun b H3 =>
    if b = true then te σ2 H3 fun y H4 => ∃ acc, H4 D = some (.lst acc) ∧ acc.length < sizeLine ∧ Nx (upd H4 D (.lst (acc ++ [y]))) else Nx H3)
def wRg (zs : List V) (H : Hp) (R : Nat → Hp → Prop) : Prop := ∃ j : Int, zs = [V.int j] ∧ -(2 ^ 62) ≤ j ∧ j < 2 ^ 62 ∧ R j.toNat H
section
variable {σ : L2.St} {H H1 : Hp} {Q : VK} {QG : L2.St → Hp → Prop} {K : PySem.W.Frag} {st sc D : Addr} {ns : List Int} {as : TA} {g : TG} {te ta tb : TE} {vs : List Nat} {n : Nat} {G : V → Prop} {Qd : Hp → Prop}
theorem rd_lcR (h : as σ H fun zs H1 => wRg zs H1 fun n H2 => ∀ D, H2 D = none → LcR n g te vs σ H2 D (Q (.ref D))) : tLc (iRng1 as) g tYes te vs σ H Q := by
  unfold tLc iRng1
  exact h
theorem rd_wRg {j : Int} {R : Nat → Hp → Prop} (h0 : 0 ≤ j) (h1 : j ≤ 1000000) (h : R j.toNat H) : wRg [.int j] H R := ⟨j, rfl, by omega, by omega, h⟩
theorem lcR (W : Wd K st sc ns H1) (nD : H1 D = none) (hn : n ≤ 1000)
    (hs : ∀ (i : Nat) H (R : VK), i < n → Wd K st sc ns H → Dr st H1 H → (∀ y H', Dr st H H' → G y → R y H') → g (.int (0 + (i : Nat))) (wipe σ vs) H fun σ2 H2 => wipe σ2 vs = wipe σ vs ∧ te σ2 H2 R)
    (hd : ∀ H' ys, Dr st H1 H' → Wd K st sc ns H' → D ≠ st → H' D = some (.lst ys) → ys.length = n → (∀ y ∈ ys, G y) → Qd H') : LcR n g te vs σ H1 D Qd := by
  have nS : D ≠ st := W.1.ne nD
  refine lc_range (Pv := fun i H => Dr st H1 H ∧ ∃ ys, H D = some (.lst ys) ∧ ys.length = i ∧ ∀ y ∈ ys, G y) ?_ (fun i H hi hP => ?_) (fun H hP => ?_)
  · exact ⟨W.dr.new nD, [], upd_same, rfl, fun _ h => nomatch h⟩
  · obtain ⟨d, ys, e, el, eg⟩ := hP
    have q := hs i H (fun y H4 => ∃ acc, H4 D = some (.lst acc) ∧ acc.length < sizeLine ∧ (Dr st H1 (upd H4 D (.lst (acc ++ [y]))) ∧ ∃ ys, (upd H4 D (.lst (acc ++ [y]))) D = some (.lst ys) ∧ ys.length = i + 1 ∧ ∀ y ∈ ys, G y)) hi (W.next d) d (fun y H' d' gy => by
      have e' : H' D = some (.lst ys) := d'.1 _ _ nS e
      refine ⟨ys, e', lt_line (by omega), Dr.put W.1 (d.trans d') nD, ys ++ [y], upd_same, by rw [List.length_append, el]; rfl, fun z hz => ?_⟩
      rcases List.mem_append.mp hz with hz | hz
      · exact eg z hz
      · rw [List.mem_singleton.mp hz]
        exact gy)
    exact q
  · obtain ⟨d, ys, e, el, eg⟩ := hP
    exact hd H ys d (W.next d) nS e el eg
def wSet (t : TSet) (o i v : V) (H : Hp) (Q : Hp → Prop) : Prop := t o i v H Q
theorem rd_gSub {v : V} {t : TSet} (h : ta σ H fun o H1 => tb σ H1 fun i H2 => t o i v H2 fun H3 => QG σ H3) : gSub ta tb t v σ H QG := h
theorem rd_setL {a : Addr} {k : Int} {v : V} {xs : List V} {j : Nat} {QH : Hp → Prop} (e : H a = some (.lst xs)) (hj : ixN xs.length k = some j) (h : QH (upd H a (.lst (xs.set j v)))) : rSetL (.ref a) (.int k) v H QH := ⟨a, xs, k, j, rfl, rfl, e, hj, h⟩
theorem Dr.upds (d : Dr st H H1) {k v : Int} : Dr st H (upd H1 st (.lst [.int k, .int v])) :=
  ⟨fun a x n e => by
    rw [upd_ne n]
    exact d.1 a x n e, k, v, upd_same⟩
end
theorem cut_one {z : Str} {k : Int} (h0 : 0 ≤ k) (h1 : k < z.length) : ∃ c, c ∈ tl z ∧ cutS z (some k) (some (k + 1)) = ⟨#[c]⟩ := by
  obtain ⟨j, rfl⟩ := Int.eq_ofNat_of_zero_le h0
  have hj : j < (tl z).length := by rw [← len_tl]; omega
  have hz : z.length = (tl z).length := len_tl z
  refine ⟨(tl z)[j], List.getElem_mem hj, ?_⟩
  unfold cutS
  rw [show ((j : Int) + 1) = ((j + 1 : Nat) : Int) by omega, HT.sIx_nat, HT.sIx_nat, Nat.min_eq_left (by omega), Nat.min_eq_left (by omega), show j + 1 - j = 1 by omega]
  show (⟨(List.take 1 (List.drop j (tl z))).toArray⟩ : Str) = _
  rw [List.drop_eq_getElem_cons hj]
  rfl
/-! ### texts put together -/
theorem strs_of {G : Str → Prop} : ∀ {ys : List V}, (∀ y ∈ ys, ∃ x, y = .str x ∧ G x) → ∃ xs : List Str, ys = xs.map V.str ∧ ∀ x ∈ xs, G x
  | [], _ => ⟨[], rfl, fun _ h => nomatch h⟩
  | y :: ys, h => by
    obtain ⟨x, rfl, g⟩ := h y List.mem_cons_self
    obtain ⟨xs, rfl, gs⟩ := strs_of (ys := ys) fun z hz => h z (List.mem_cons_of_mem _ hz)
    refine ⟨x :: xs, rfl, fun z hz => ?_⟩
    rcases List.mem_cons.mp hz with rfl | hz
    · exact g
    · exact gs z hz
theorem joinL_len (S : List Nat) : ∀ ps : List (List Nat), (joinL S ps).length ≤ (ps.map (·.length)).sum + ps.length * S.length
  | [] => Nat.zero_le _
  | [p] => by simp [joinL]
  | p :: q :: r => by
    have h := joinL_len S (q :: r)
    have e : joinL S (p :: q :: r) = p ++ (S ++ joinL S (q :: r)) := by first | rfl | simp [joinL]
    rw [e, List.length_append, List.length_append]
    simp only [List.map_cons, List.sum_cons, List.length_cons] at h ⊢
    rw [Nat.succ_mul]
    omega
theorem joinL_mem {S : List Nat} {c : Nat} : ∀ {ps : List (List Nat)}, c ∈ joinL S ps → c ∈ S ∨ ∃ p ∈ ps, c ∈ p
  | [], h => by simp [joinL] at h
  | [p], h => .inr ⟨p, by simp, by simpa [joinL] using h⟩
  | p :: q :: r, h => by
    have e : joinL S (p :: q :: r) = p ++ (S ++ joinL S (q :: r)) := by first | rfl | simp [joinL]
    rw [e] at h
    rcases List.mem_append.mp h with h | h
    · exact .inr ⟨p, by simp, h⟩
    · rcases List.mem_append.mp h with h | h
      · exact .inl h
      · rcases joinL_mem h with h | ⟨p', hp, h⟩
        · exact .inl h
        · exact .inr ⟨p', List.mem_cons_of_mem _ hp, h⟩
theorem joinL_nil : ∀ ps : List (List Nat), joinL [] ps = ps.flatten
  | [] => rfl
  | [p] => by simp [joinL]
  | p :: q :: r => by
    have e : joinL [] (p :: q :: r) = p ++ ([] ++ joinL [] (q :: r)) := by first | rfl | simp [joinL]
    rw [e, joinL_nil (q :: r)]
    rfl
theorem sum_le {B : Nat} : ∀ {l : List Nat}, (∀ x ∈ l, x ≤ B) → l.sum ≤ l.length * B
  | [], _ => Nat.zero_le _
  | x :: l, h => by
    have h1 := h x List.mem_cons_self
    have h2 := sum_le (l := l) fun y hy => h y (List.mem_cons_of_mem _ hy)
    rw [List.sum_cons, List.length_cons, Nat.succ_mul]
    omega
theorem lens_le {B : Nat} {xs : List Str} (h : ∀ x ∈ xs, x.length ≤ B) : (xs.map (·.length)).sum ≤ xs.length * B := by
  have q := sum_le (B := B) (l := xs.map (·.length)) fun n hn => by
    obtain ⟨x, hx, rfl⟩ := List.mem_map.mp hn
    exact h x hx
  rwa [List.length_map] at q
theorem tl_joined (a : Str) (xs : List Str) : tl (Txt.join a xs) = joinL (tl a) (xs.map tl) := by rw [join_eq, tl_join]
theorem len_joined (a : Str) (xs : List Str) : (Txt.join a xs).length ≤ (xs.map (·.length)).sum + xs.length * a.length := by
  rw [len_tl, tl_joined, len_tl a]
  have h := joinL_len (tl a) (xs.map tl)
  rw [List.length_map, List.map_map] at h
  have e : (xs.map (·.length)) = xs.map ((·.length) ∘ tl) := List.map_congr_left fun x _ => len_tl x
  rw [e]
  exact h
theorem mem_joined {a : Str} {xs : List Str} {c : Nat} (h : c ∈ tl (Txt.join a xs)) : c ∈ tl a ∨ ∃ x ∈ xs, c ∈ tl x := by
  rw [tl_joined] at h
  rcases joinL_mem h with h | ⟨p, hp, h⟩
  · exact .inl h
  · obtain ⟨x, hx, rfl⟩ := List.mem_map.mp hp
    exact .inr ⟨x, hx, h⟩
theorem tl_lit0 : tl (Str.ofString "") = [] := by rw [tl_ofString]; rfl
theorem len_ones : ∀ {xs : List Str}, (∀ x ∈ xs, ∃ c, x = ⟨#[c]⟩) → ((xs.map tl).flatten).length = xs.length
  | [], _ => rfl
  | x :: xs, h => by
    obtain ⟨c, rfl⟩ := h x List.mem_cons_self
    rw [List.map_cons, List.flatten_cons, List.length_append, len_ones fun y hy => h y (List.mem_cons_of_mem _ hy)]
    exact Nat.add_comm 1 _
section
variable {H : Hp} {Q : VK} {K : PySem.W.Frag} {p : Addr} {xs : List Str} {a : Str}
theorem rd_joinL (c : SqL K H p (xs.map V.str)) (b : (xs.map (·.length)).sum + xs.length * a.length ≤ 16777216) (h : Q (.str (Txt.join a xs)) H) : zJoin K (.str a) [.ref p] H Q := ⟨a, p, xs, rfl, rfl, .inl c, b, h⟩
end
theorem len_lit0 : (Str.ofString "").length = 0 := by rw [len_of]; rfl
theorem len_dot : (Str.ofString ".").length = 1 := by rw [len_of]; rfl
theorem tl_dot : tl (Str.ofString ".") = [46] := by rw [tl_ofString]; rfl
theorem rep_one {α : Type} (x : α) : ∀ k : Nat, (List.replicate k [x]).flatten = List.replicate k x
  | 0 => rfl
  | k + 1 => by rw [List.replicate_succ, List.flatten_cons, rep_one x k]; rfl
theorem len_ends : (Str.ofString "abcdefghijklmnopqrstuvwxyz0123456789-_+").length = 39 := by rw [len_of]; rfl
theorem len_ends2 : (Str.ofString "abcdefghijklmnopqrstuvwxyz0123456789").length = 36 := by rw [len_of]; rfl
theorem len_rs (x y : Str) : (Txt.rstripChars x y).length ≤ x.length := by first | exact PyProof.Rows.len_rstripChars x y | exact len_rstripChars x y | exact Txt.len_rstripChars x y
theorem rd_wLs {xs : List V} {H : Hp} {Q : VK} (c : xs.length ≤ 1000) (h : ∀ (p : Addr), H p = none → Q (.ref p) (upd H p (.lst xs))) : wLs xs H Q := ⟨line_of (by omega), h⟩
theorem rd_wTT {xs : List V} {H : Hp} {Q : VK} (c : xs.length ≤ 1000) (h : ∀ (p : Addr) (H' : Hp), H p = none → Same H H' → Tk H' p xs → Q (.ref p) H') : wTT xs H Q := ⟨line_of (by omega), fun p o n d => h p _ n (same_new n) (Tk.mk d)⟩
theorem rd_rep {p : Addr} {k : Int} {xs : List V} {H : Hp} {Q : VK} (e : H p = some (.lst xs)) (k0 : 0 ≤ k) (k1 : k ≤ 1000) (c : xs.length ≤ 1000) (h : ∀ q, H q = none → Q (.ref q) (upd H q (.lst (List.replicate k.toNat xs).flatten))) : rRep (.ref p) (.int k) H Q :=
  ⟨p, k, xs, rfl, rfl, e, by omega, by omega, line_of (Nat.le_trans (Nat.mul_le_mul c (show k.toNat ≤ 1000 by omega)) (by decide)), h⟩
def FrR (n : Nat) (g : TG) (tb : TS) (D : Ends) (σ : L2.St) (H : Hp) : Prop := ∃ W : Nat → Nat → L2.St → Hp → Prop, (∃ m, W 0 m σ H) ∧ ∀ i m σ H, W i m σ H →
  ((Itr 0 n).stop i H ∧ D.nx σ H) ∨ ((Itr 0 n).go i H ∧ ∃ N : L2.St → Hp → Prop, (∀ σ' H', N σ' H' → ∃ m', m' < m ∧ W (i + 1) m' σ' H') ∧ ∀ x H', (Itr 0 n).yld i H x H' → g x σ H' fun σ2 H2 => tb { D with nx := N, ct := N, bk := D.nx } σ2 H2)
def wTy (K : PySem.W.Frag) (T : String) (x : V) (H : Hp) (P : Prop) : Prop := tyV K T x H ∧ P
section
variable {σ : L2.St} {H : Hp} {Q : VK} {nx bk ct : L2.St → Hp → Prop} {rt : VK} {K : PySem.W.Frag} {as : TA} {ta : TE} {g : TG} {tb : TS} {n : Nat} {T : String} {f : V → List V → Hp → VK → Prop} {a : Addr} {xs : List V} {y : V} {P : Prop}
theorem rd_forR (h : as σ H fun zs H1 => wRg zs H1 fun n H2 => FrR n g tb ⟨nx, rt, bk, ct⟩ σ H2) : tFor (iRng1 as) g tb ⟨nx, rt, bk, ct⟩ σ H := by
  unfold tFor iRng1
  exact h
theorem forR (Pv : Nat → L2.St → Hp → Prop) (h0 : Pv 0 σ H) (hs : ∀ (i : Nat) σ H, i < n → Pv i σ H → g (.int (0 + (i : Nat))) σ H fun σ2 H2 => tb ⟨Pv (i + 1), rt, nx, Pv (i + 1)⟩ σ2 H2) (hd : ∀ σ H, Pv n σ H → nx σ H) :
    FrR n g tb ⟨nx, rt, bk, ct⟩ σ H := for_range (D := ⟨nx, rt, bk, ct⟩) Pv h0 hs hd
theorem rd_bm (h : ta σ H fun x H1 => wTy K T x H1 (as σ H1 fun xs H2 => f x xs H2 Q)) : tBM K T f ta as σ H Q := h
theorem rd_wTyL (c : SqL K H a xs) (h : P) : wTy K "list" (.ref a) H P := ⟨.inl ⟨rfl, _, c⟩, h⟩
theorem rd_append (e : H a = some (.lst xs)) (c : xs.length ≤ 1000) (h : Q .non (upd H a (.lst (xs ++ [y])))) : rAppend (.ref a) [y] H Q := ⟨a, xs, y, rfl, rfl, e, lt_line (by omega), h⟩
end
/-! ### signs below 128 -/
def Asc (x : Str) : Prop := ∀ c ∈ tl x, c < 128
theorem asc_app {x y : Str} (h : Asc x) (g : Asc y) : Asc (x ++ y) := fun c hc => by
  rw [tl_append] at hc
  rcases List.mem_append.mp hc with hc | hc
  · exact h c hc
  · exact g c hc
theorem asc_cut {x : Str} {lo hi : Option Int} (h : Asc x) : Asc (cutS x lo hi) := fun c hc => h c (List.mem_of_mem_drop (List.mem_of_mem_take (show c ∈ List.take _ (List.drop _ (tl x)) from hc)))
theorem asc_rs {x y : Str} (h : Asc x) : Asc (Txt.rstripChars x y) := fun c hc => by
  obtain ⟨j, _, e⟩ := PyProof.Rows.stripBy_right y.cps.contains x
  rw [show Txt.rstripChars x y = Builtin.Str.strSub x 0 j from e, tl_strSub] at hc
  exact h c (List.mem_of_mem_drop (List.mem_of_mem_take hc))
theorem asc_join {a : Str} {xs : List Str} (h : Asc a) (g : ∀ x ∈ xs, Asc x) : Asc (Txt.join a xs) := fun c hc => by
  rcases mem_joined hc with hc | ⟨x, hx, hc⟩
  · exact h c hc
  · exact g x hx c hc
theorem asc_of {x : Str} (h : x.cps.all (fun c => decide (c < 128)) = true) : Asc x := fun c hc => by
  rw [Array.all_eq_true'] at h
  exact of_decide_eq_true (h c (Array.mem_def.mpr hc))
theorem asc_one {c : Nat} (h : c < 128) : Asc ⟨#[c]⟩ := fun d hd => by
  rw [List.mem_singleton.mp hd]
  exact h
theorem asc_ends : Asc (Str.ofString "abcdefghijklmnopqrstuvwxyz0123456789-_+") := asc_of (by decide +kernel)
theorem asc_ends2 : Asc (Str.ofString "abcdefghijklmnopqrstuvwxyz0123456789") := asc_of (by decide +kernel)
theorem asc_dot : Asc (Str.ofString ".") := asc_of (by decide +kernel)
theorem asc_lit0 : Asc (Str.ofString "") := asc_of (by decide +kernel)
theorem ok_asc {x : Str} (h : Asc x) : PyData.strOk x = true := by
  unfold PyData.strOk
  rw [Array.all_eq_true']
  exact fun c hc => decide_eq_true (Nat.lt_trans (h c (Array.mem_def.mp hc)) (by decide))
theorem canLay_strs : ∀ {xs : List Str}, (∀ x ∈ xs, Asc x) → PyData.canLayAll0 (xs.map PyData.str) = true
  | [], _ => by simp [PyData.canLayAll0]
  | x :: xs, h => by
    simp only [List.map_cons, PyData.canLayAll0, PyData.canLay0, ok_asc (h x List.mem_cons_self), canLay_strs fun y hy => h y (List.mem_cons_of_mem _ hy), Bool.and_self]
theorem depth_strs : ∀ xs : List Str, PyData.depthAll (xs.map PyData.str) = 0
  | [] => by simp [PyData.depthAll]
  | x :: xs => by
    rw [List.map_cons, PyData.depthAll, PyData.depth, depth_strs xs]
    rfl
theorem shaped_strs {xs : List Str} (h : ∀ x ∈ xs, Asc x) : SeqAt.shaped (.tuple (xs.map PyData.str)) = true := by
  simp only [SeqAt.shaped, PyData.canLay0, PyData.depth, canLay_strs h, depth_strs]
  decide
theorem eqv_strs : ∀ xs ys : List Str, PyData.eqvAll (xs.map PyData.str) (ys.map PyData.str) = decide (xs = ys)
  | [], [] => by simp [PyData.eqvAll]
  | [], _ :: _ => by simp [PyData.eqvAll]
  | _ :: _, [] => by simp [PyData.eqvAll]
  | x :: xs, y :: ys => by
    simp only [List.map_cons, PyData.eqvAll, PyData.eqv, eqv_strs xs ys]
    by_cases h : x = y <;> by_cases h' : xs = ys <;> simp [h, h']
theorem dp_strs {K : PySem.W.Frag} {H : Hp} : ∀ xs : List Str, DpAll K H (xs.map V.str) (xs.map PyData.str)
  | [] => .nil
  | x :: xs => .cons (.str x) (dp_strs xs)
section
variable {K : PySem.W.Frag} {H : Hp} {Q : VK} {p q : Addr} {xs ys : List Str} {v : V} {t : Value} {a b : String} {r : Bool} {zs : List V}
theorem rd_neT (h1 : SqT K H p (xs.map V.str)) (h2 : SqT K H q (ys.map V.str)) (a1 : ∀ x ∈ xs, Asc x) (a2 : ∀ x ∈ ys, Asc x) (h : Q (.bl (!decide (xs = ys))) H) : rNeD K (.ref p) (.ref q) H Q :=
  ⟨_, _, .tup h1 (dp_strs xs), .tup h2 (dp_strs ys), shaped_strs a1, shaped_strs a2, by
    rw [show PyData.eqv (.tuple (xs.map PyData.str)) (.tuple (ys.map PyData.str)) = PyData.eqvAll (xs.map PyData.str) (ys.map PyData.str) by rw [PyData.eqv], eqv_strs]
    exact h⟩
theorem rd_eqT (h1 : SqT K H p (xs.map V.str)) (h2 : SqT K H q (ys.map V.str)) (a1 : ∀ x ∈ xs, Asc x) (a2 : ∀ x ∈ ys, Asc x) (h : Q (.bl (decide (xs = ys))) H) : rEqD K (.ref p) (.ref q) H Q :=
  ⟨_, _, .tup h1 (dp_strs xs), .tup h2 (dp_strs ys), shaped_strs a1, shaped_strs a2, by
    rw [show PyData.eqv (.tuple (xs.map PyData.str)) (.tuple (ys.map PyData.str)) = PyData.eqvAll (xs.map PyData.str) (ys.map PyData.str) by rw [PyData.eqv], eqv_strs]
    exact h⟩
theorem rd_isi (c : TyX K H v (.type a)) (e : kitB a b = some r) (h : Q (.bl r) H) : rIsi K [v, .ty b] H Q := ⟨v, .ty b, .type a, .type b, r, rfl, .ty b, c, kit_ty e, h⟩
theorem Tk.ty {p : Addr} {zs : List V} (h : Tk H p zs) : TyX K H (.ref p) (.type "tuple") := let ⟨_, _, e⟩ := h; .fTuple e
theorem inV_strs (z : Str) : ∀ xs : List Str, inV (.str z) (xs.map V.str) = decide (z ∈ xs)
  | [] => by simp [inV]
  | x :: xs => by
    have h := inV_strs z xs
    unfold inV at h ⊢
    rw [List.map_cons, List.any_cons, h]
    show ((x == z) || _) = _
    by_cases e : x = z
    · simp [e]
    · have e' : ¬ z = x := fun q => e q.symm
      simp [e, e']
theorem flat_strs' : ∀ xs : List Str, (xs.map V.str).all flatV = true
  | [] => rfl
  | x :: xs => by rw [List.map_cons, List.all_cons, flat_strs' xs]; rfl
theorem rd_inT {z : Str} (c : SqT K H p (xs.map V.str)) (h : Q (.bl (decide (z ∈ xs))) H) : rIn K false (.str z) (.ref p) H Q := ⟨p, _, rfl, .inr c, rfl, flat_strs' xs, by
  rw [inV_strs]
  exact h⟩
theorem rd_tup (c : SqL K H p zs) (h : ∀ (l : Addr) (H' : Hp), H l = none → Same H H' → Tk H' l zs → Q (.ref l) H') : zTup K [.ref p] H Q := ⟨p, zs, rfl, c, fun l o n d => h l _ n (same_new n) (Tk.mk d)⟩
end
/-! ### what is walked: a list, a tuple, a text -/
def WalkOf (J : It) (R : Hp → Prop) (xs : List V) : Prop := ∀ H, R H → (∀ i, i < xs.length → J.go i H) ∧ (∀ i x H', i < xs.length → J.yld i H x H' → H' = H ∧ xs[i]? = some x) ∧ ∀ i, xs.length ≤ i → J.stop i H
def oneS (c : Nat) : V := .str ⟨#[c]⟩
theorem walk_l {K : PySem.W.Frag} {a : Addr} {xs : List V} : WalkOf (Itl K a) (fun H => SqL K H a xs) xs := fun H h =>
  ⟨fun i hi => ⟨xs, xs[i], h, List.getElem?_eq_getElem hi⟩, fun i x H' hi y => ⟨y.1, y.2 xs h⟩, fun i hi => ⟨xs, h, hi⟩⟩
theorem walk_t {K : PySem.W.Frag} {a : Addr} {xs : List V} : WalkOf (Itt K a) (fun H => SqT K H a xs) xs := fun H h =>
  ⟨fun i hi => ⟨xs, xs[i], h, List.getElem?_eq_getElem hi⟩, fun i x H' hi y => ⟨y.1, y.2 xs h⟩, fun i hi => ⟨xs, h, hi⟩⟩
theorem walk_s {z : Str} : WalkOf (Its z) (fun _ => True) ((tl z).map oneS) := fun H _ => by
  have e : ((tl z).map oneS).length = z.cps.size := by rw [List.length_map, Array.length_toList]
  refine ⟨fun i hi => ?_, fun i x H' hi y => ?_, fun i hi => ?_⟩
  · rw [e] at hi
    exact hi
  · obtain ⟨e1, c, hc, rfl⟩ := y
    refine ⟨e1, ?_⟩
    rw [List.getElem?_map, Array.getElem?_toList, hc]
    rfl
  · rw [e] at hi
    exact hi
def LcJ (J : It) (g : TG) (tt : TT) (te : TE) (vs : List Nat) (σ : L2.St) (H1 : Hp) (D : Addr) (Qd : Hp → Prop) : Prop := ∃ W : Nat → Nat → Hp → Prop, (∃ m, W 0 m (upd H1 D (.lst []))) ∧ ∀ i m H, W i m H →
  (J.stop i H ∧ Qd H) ∨ (J.go i H ∧ ∃ Nx : Hp → Prop, (∀ H', Nx H' → ∃ m', m' < m ∧ W (i + 1) m' H') ∧ ∀ x H', J.yld i H x H' → g x (wipe σ vs) H' fun σ2 H2 => wipe σ2 vs = wipe σ vs ∧ tt σ2 H2 fun b H3 =>
    if b = true then te σ2 H3 fun y H4 => ∃ acc, H4 D = some (.lst acc) ∧ acc.length < sizeLine ∧ Nx (upd H4 D (.lst (acc ++ [y]))) else Nx H3)
def FrJ (J : It) (g : TG) (tb : TS) (D : Ends) (σ : L2.St) (H : Hp) : Prop := ∃ W : Nat → Nat → L2.St → Hp → Prop, (∃ m, W 0 m σ H) ∧ ∀ i m σ H, W i m σ H →
  (J.stop i H ∧ D.nx σ H) ∨ (J.go i H ∧ ∃ N : L2.St → Hp → Prop, (∀ σ' H', N σ' H' → ∃ m', m' < m ∧ W (i + 1) m' σ' H') ∧ ∀ x H', J.yld i H x H' → g x σ H' fun σ2 H2 => tb { D with nx := N, ct := N, bk := D.nx } σ2 H2)
def wSq (P : Hp → Addr → List V → Prop) (x : V) (H : Hp) (R : Addr → Hp → Prop) : Prop := ∃ a, x = V.ref a ∧ (∃ xs, P H a xs) ∧ R a H
def wStr (x : V) (H : Hp) (R : Str → Hp → Prop) : Prop := ∃ z, x = V.str z ∧ R z H
section
variable {σ : L2.St} {H H1 : Hp} {Q : VK} {nx bk ct : L2.St → Hp → Prop} {rt : VK} {K : PySem.W.Frag} {ta : TE} {g : TG} {tt : TT} {te : TE} {vs : List Nat} {tb : TS} {n j : Nat} {a D : Addr} {xs : List V} {J : It} {Rl : Hp → Prop} {Qd : Hp → Prop}
theorem rd_lcT (h : ta σ H fun x H1 => wSq (SqT K) x H1 fun a H2 => ∀ D, H2 D = none → LcJ (Itt K a) g tt te vs σ H2 D (Q (.ref D))) : tLc (iTup K ta) g tt te vs σ H Q := by
  unfold tLc iTup
  exact h
theorem rd_lcL (h : ta σ H fun x H1 => wSq (SqL K) x H1 fun a H2 => ∀ D, H2 D = none → LcJ (Itl K a) g tt te vs σ H2 D (Q (.ref D))) : tLc (iList K ta) g tt te vs σ H Q := by
  unfold tLc iList
  exact h
theorem rd_lcS (h : ta σ H fun x H1 => wStr x H1 fun z H2 => ∀ D, H2 D = none → LcJ (Its z) g tt te vs σ H2 D (Q (.ref D))) : tLc (iStr ta) g tt te vs σ H Q := by
  unfold tLc iStr
  exact h
theorem rd_frT (h : ta σ H fun x H1 => wSq (SqT K) x H1 fun a H2 => FrJ (Itt K a) g tb ⟨nx, rt, bk, ct⟩ σ H2) : tFor (iTup K ta) g tb ⟨nx, rt, bk, ct⟩ σ H := by
  unfold tFor iTup
  exact h
theorem rd_frL (h : ta σ H fun x H1 => wSq (SqL K) x H1 fun a H2 => FrJ (Itl K a) g tb ⟨nx, rt, bk, ct⟩ σ H2) : tFor (iList K ta) g tb ⟨nx, rt, bk, ct⟩ σ H := by
  unfold tFor iList
  exact h
theorem rd_wSq {P : Hp → Addr → List V → Prop} {R : Addr → Hp → Prop} (c : P H a xs) (h : R a H) : wSq P (.ref a) H R := ⟨a, rfl, ⟨xs, c⟩, h⟩
theorem rd_wStr {z : Str} {R : Str → Hp → Prop} (h : R z H) : wStr (.str z) H R := ⟨z, rfl, h⟩
theorem lcJ (Wk : WalkOf J Rl xs) (Pv : Nat → Hp → Prop) (h0 : Pv 0 (upd H1 D (.lst []))) (hl : ∀ i H, i ≤ xs.length → Pv i H → Rl H)
    (hs : ∀ i x H, xs[i]? = some x → Pv i H → g x (wipe σ vs) H fun σ2 H2 => wipe σ2 vs = wipe σ vs ∧ tt σ2 H2 fun b H3 =>
      if b = true then te σ2 H3 fun y H4 => ∃ acc, H4 D = some (.lst acc) ∧ acc.length < sizeLine ∧ Pv (i + 1) (upd H4 D (.lst (acc ++ [y]))) else Pv (i + 1) H3)
    (hd : ∀ H, Pv xs.length H → Qd H) : LcJ J g tt te vs σ H1 D Qd := by
  refine ⟨fun i m H => m = xs.length - i ∧ i ≤ xs.length ∧ Pv i H, ⟨xs.length, rfl, Nat.zero_le _, h0⟩, ?_⟩
  intro i m H hW
  obtain ⟨em, hi, p⟩ := hW
  obtain ⟨w1, w2, w3⟩ := Wk H (hl i H hi p)
  by_cases hlt : i < xs.length
  · refine .inr ⟨w1 i hlt, Pv (i + 1), fun H' p' => ⟨xs.length - (i + 1), by omega, rfl, hlt, p'⟩, fun x H' y => ?_⟩
    obtain ⟨e, y⟩ := w2 i x H' hlt y
    rw [e]
    exact hs i x H y p
  · have e : i = xs.length := by omega
    rw [e] at p
    exact .inl ⟨w3 i (by omega), hd H p⟩
theorem frJ (Wk : WalkOf J Rl xs) (Pv : Nat → L2.St → Hp → Prop) (h0 : Pv 0 σ H) (hl : ∀ i σ H, i ≤ xs.length → Pv i σ H → Rl H)
    (hs : ∀ i x σ H, xs[i]? = some x → Pv i σ H → g x σ H fun σ2 H2 => tb ⟨Pv (i + 1), rt, nx, Pv (i + 1)⟩ σ2 H2)
    (hd : ∀ σ H, Pv xs.length σ H → nx σ H) : FrJ J g tb ⟨nx, rt, bk, ct⟩ σ H := by
  refine ⟨fun i m σ H => m = xs.length - i ∧ i ≤ xs.length ∧ Pv i σ H, ⟨xs.length, rfl, Nat.zero_le _, h0⟩, ?_⟩
  intro i m σ H hW
  obtain ⟨em, hi, p⟩ := hW
  obtain ⟨w1, w2, w3⟩ := Wk H (hl i σ H hi p)
  by_cases hlt : i < xs.length
  · refine .inr ⟨w1 i hlt, Pv (i + 1), fun σ' H' p' => ⟨xs.length - (i + 1), by omega, rfl, hlt, p'⟩, fun x H' y => ?_⟩
    obtain ⟨e, y⟩ := w2 i x H' hlt y
    rw [e]
    exact hs i x σ H y p
  · have e : i = xs.length := by omega
    rw [e] at p
    exact .inl ⟨w3 i (by omega), hd σ H p⟩
theorem lcM (Wk : WalkOf J Rl xs) (hR : ∀ H, Same H1 H → Rl H) (nD : H1 D = none) (hn : xs.length ≤ 1000000) (keep : V → Bool) (f : V → V)
    (hs : ∀ x ∈ xs, ∀ H, Same H1 H → wipe ((wipe σ vs).set j (some x)) vs = wipe σ vs ∧ (∀ B : Bool → Hp → Prop, (∀ H', Same H H' → B (keep x) H') → tt ((wipe σ vs).set j (some x)) H B) ∧
      (keep x = true → ∀ H' (R : VK), Same H H' → (∀ H'', Same H' H'' → R (f x) H'') → te ((wipe σ vs).set j (some x)) H' R))
    (hd : ∀ H', Same H1 H' → H' D = some (.lst ((xs.filter keep).map f)) → Qd H') : LcJ J (gName j) tt te vs σ H1 D Qd := by
  refine lcJ Wk (fun i H => Same H1 H ∧ H D = some (.lst (((xs.take i).filter keep).map f))) ⟨same_new nD, by rw [upd_same]; rfl⟩ (fun i H _ p => hR H p.1) (fun i x H hx p => ?_) (fun H p => ?_)
  · obtain ⟨sm, e⟩ := p
    obtain ⟨h1, h2, h3⟩ := hs x (List.mem_of_getElem? hx) H sm
    refine ⟨h1, h2 _ fun H' s2 => ?_⟩
    have et : xs.take (i + 1) = xs.take i ++ [x] := by rw [List.take_add_one, hx]; rfl
    have hk : ∀ b, keep x = b → if b = true then te ((wipe σ vs).set j (some x)) H' fun y H4 => ∃ acc, H4 D = some (.lst acc) ∧ acc.length < sizeLine ∧ (Same H1 (upd H4 D (.lst (acc ++ [y]))) ∧ (upd H4 D (.lst (acc ++ [y]))) D = some (.lst (((xs.take (i + 1)).filter keep).map f)))
        else (Same H1 H' ∧ H' D = some (.lst (((xs.take (i + 1)).filter keep).map f))) := fun b hb => by
      cases b with
      | true =>
        refine iteT (h3 hb H' _ s2 fun H'' s3 => ?_)
        have eD : H'' D = some _ := s3 _ _ (s2 _ _ e)
        refine ⟨_, eD, ?_, fun b o eb => ?_, ?_⟩
        · refine lt_line ?_
          rw [List.length_map]
          have q1 := List.length_filter_le keep (xs.take i)
          rw [List.length_take] at q1
          omega
        · rw [upd_ne (ne_of_none eb nD)]
          exact s3 _ _ (s2 _ _ (sm _ _ eb))
        · rw [upd_same, et, List.filter_append, List.map_append, List.filter_cons, hb]
          rfl
      | false =>
        refine iteF ⟨sm.trans s2, ?_⟩
        rw [et, List.filter_append, List.map_append, List.filter_cons, hb, s2 _ _ e]
        simp
    exact hk (keep x) rfl
  · rw [List.take_length] at p
    exact hd H p.1 p.2
theorem lcM1 (Wk : WalkOf J Rl xs) (hR : ∀ H, Same H1 H → Rl H) (nD : H1 D = none) (hn : xs.length ≤ 1000000) (f : V → V)
    (hs : ∀ x ∈ xs, ∀ H (R : VK), Same H1 H → (∀ H'', Same H H'' → R (f x) H'') → wipe ((wipe σ vs).set j (some x)) vs = wipe σ vs ∧ te ((wipe σ vs).set j (some x)) H R)
    (hd : ∀ H', Same H1 H' → H' D = some (.lst (xs.map f)) → Qd H') : LcJ J (gName j) tYes te vs σ H1 D Qd := by
  refine lcM Wk hR nD hn (fun _ => true) f (fun x hx H sm => ⟨(hs x hx H (fun _ _ => True) sm fun _ _ => trivial).1, fun B h => h H (Same.refl H), fun _ H' R s2 q => (hs x hx H' R (sm.trans s2) q).2⟩) (fun H' sm e => hd H' sm ?_)
  rw [e, List.filter_eq_self.mpr fun _ _ => rfl]
theorem pe_kS {X : Cx} {x z : Str} {p : Pos} (hg : Gl X x) (hm : ∃ t, X.mg x = some (.str z t)) (hd : (x == ("__debug__" : Str)) = false := by decide) : PE X (.Name x p) (tC (.str z)) := by
  obtain ⟨t, e⟩ := hm
  exact pe_glob hg e ⟨t, rfl⟩ hd
theorem pe_kI {X : Cx} {x : Str} {z : Int} {p : Pos} (hg : Gl X x) (hm : ∃ t, X.mg x = some (.int z t)) (hd : (x == ("__debug__" : Str)) = false := by decide) : PE X (.Name x p) (tC (.int z)) := by
  obtain ⟨t, e⟩ := hm
  exact pe_glob hg e ⟨t, rfl⟩ hd
theorem rd_gTup {v : Addr} {gs : TGs} {QG : L2.St → Hp → Prop} (c : SqT K H v xs) (e : xs.length = n) (h : gs xs σ H QG) : gTup K n gs (.ref v) σ H QG := ⟨v, xs, rfl, c, e, h⟩
theorem rd_gCons {v : V} {r : List V} {gs : TGs} {QG : L2.St → Hp → Prop} (h : g v σ H fun σ' H' => gs r σ' H' QG) : gCons g gs (v :: r) σ H QG := ⟨v, r, rfl, h⟩
theorem rd_gNil {QG : L2.St → Hp → Prop} (h : QG σ H) : gNil [] σ H QG := ⟨rfl, h⟩
theorem rd_tix {tb : TE} (h : ta σ H fun x H1 => ∃ (p : Addr) (ys : List Str), x = .ref p ∧ Tk H1 p (ys.map V.str) ∧ tb σ H1 fun y H2 => ∃ (z : Str) (j : Nat), y = .str z ∧ Tk H2 p (ys.map V.str) ∧
  ys[j]? = some z ∧ (∀ m, m < j → ys[m]? ≠ some z) ∧ Q (.int (j : Nat)) H2) : zTIx ta tb σ H Q := h
end
/-! ### beginnings -/
theorem starts_tl (x y : Str) : Txt.startswith x y = ((tl x).take y.length == tl y) := by
  unfold Txt.startswith
  rw [StrLaws.subAt_eq, List.drop_zero]
  by_cases h : ((tl x).take y.length == tl y) = true
  · have e : (tl x).take y.length = tl y := eq_of_beq h
    have l := congrArg List.length e
    rw [List.length_take, ← len_tl, ← len_tl] at l
    rw [h, Bool.and_true]
    exact decide_eq_true (by omega)
  · rw [Bool.not_eq_true] at h
    rw [h, Bool.and_false]
theorem tl_cutTo (x : Str) (k : Nat) : tl (cutS x none (some (k : Int))) = (tl x).take k := by
  unfold cutS
  rw [tl_mk, HT.sIx_nat, HT.sIx_none, Nat.sub_zero, List.drop_zero]
  have e : x.length = (tl x).length := len_tl x
  rw [e]
  by_cases h : k ≤ (tl x).length
  · rw [Nat.min_eq_left h]
  · rw [Nat.min_eq_right (by omega), List.take_of_length_le (Nat.le_refl _), List.take_of_length_le (by omega)]
theorem tl_cutFrom (x : Str) (k : Nat) : tl (cutS x (some (k : Int)) none) = (tl x).drop k := by
  unfold cutS
  rw [tl_mk, HT.sIx_nat, HT.sIx_none]
  have e : x.length = (tl x).length := len_tl x
  rw [e]
  by_cases h : k ≤ (tl x).length
  · rw [Nat.min_eq_left h]
    exact List.take_of_length_le (by rw [List.length_drop]; exact Nat.le_refl _)
  · rw [Nat.min_eq_right (by omega), Nat.sub_self, List.take_zero]
    exact (List.drop_of_length_le (by omega)).symm
theorem len_at : (Str.ofString "@").length = 1 := by rw [len_of]; rfl
theorem len_tr : (Str.ofString "Received: by ").length = 13 := by rw [len_of]; rfl
theorem len_rec : (Str.ofString "Recipient: ").length = 11 := by rw [len_of]; rfl
theorem len_rea : (Str.ofString "Reason: ").length = 8 := by rw [len_of]; rfl
theorem len_lt : (Str.ofString "<").length = 1 := by rw [len_of]; rfl
theorem len_gt : (Str.ofString ">").length = 1 := by rw [len_of]; rfl
theorem len_mk (l : List Nat) : (⟨l.toArray⟩ : Str).length = l.length := by rw [len_tl]
theorem len_1 (c : Nat) : (⟨#[c]⟩ : Str).length = 1 := rfl
theorem take_none {ls : List Str} {z : Str} (h : z ∉ ls) : ls.takeWhile (fun x => !decide (x = z)) = ls := by
  induction ls with
  | nil => rfl
  | cons x xs ih =>
    have hx : ¬ x = z := fun e => h (e ▸ List.mem_cons_self)
    rw [List.takeWhile_cons, decide_eq_false hx, Bool.not_false, if_pos rfl, ih fun m => h (List.mem_cons_of_mem _ m)]
theorem take_at {z : Str} : ∀ {ls : List Str}, z ∈ ls → ∃ j, j < ls.length ∧ ls[j]? = some z ∧ (∀ m, m < j → ls[m]? ≠ some z) ∧ ls.takeWhile (fun x => !decide (x = z)) = ls.take j
  | [], h => nomatch h
  | x :: xs, h => by
    by_cases e : x = z
    · refine ⟨0, Nat.succ_pos _, by rw [e]; rfl, fun m hm => absurd hm (Nat.not_lt_zero m), ?_⟩
      rw [List.takeWhile_cons, decide_eq_true e, Bool.not_true, if_neg Bool.false_ne_true, List.take_zero]
    · obtain ⟨j, h1, h2, h3, h4⟩ := take_at (ls := xs) (by
        rcases List.mem_cons.mp h with q | q
        · exact absurd q.symm e
        · exact q)
      refine ⟨j + 1, Nat.succ_lt_succ h1, h2, fun m hm => ?_, ?_⟩
      · cases m with
        | zero => exact fun q => e (Option.some.inj q)
        | succ m => exact h3 m (Nat.lt_of_succ_lt_succ hm)
      · rw [List.takeWhile_cons, decide_eq_false e, Bool.not_false, if_pos rfl, h4, List.take_succ_cons]
theorem rd_slTto {K : PySem.W.Frag} {p : Addr} {xs : List V} {k : Nat} {H : Hp} {Q : VK} (c : SqT K H p xs) (hk : k < xs.length) (h : ∀ q, H q = none → Q (.ref q) (upd H q (.tup (xs.take k)))) : rSlT K (.ref p) none (some (k : Int)) H Q := by
  refine ⟨p, xs, rfl, c, fun z => ?_, fun q n => ?_⟩
  · have z2 := z.2
    rw [HT.sIx_nat] at z2
    omega
  · have e : cutV xs none (some (k : Int)) = xs.take k := by
      unfold cutV
      rw [HT.sIx_nat, HT.sIx_none, Nat.sub_zero, List.drop_zero, Nat.min_eq_left (by omega)]
    rw [e]
    exact h q n
theorem same_tup {K : PySem.W.Frag} {H H' : Hp} {a : Addr} {xs : List V} (e : Same H H') (h : SqT K H a xs) : SqT K H' a xs := by
  rcases h with (h | ⟨o, h⟩) | h
  · exact .inl (.inl (e _ _ h))
  · exact .inl (.inr ⟨o, e _ _ h⟩)
  · exact .inr h
theorem rd_iNT {A B : Prop} (h : B) : if (!true) = true then A else B := iteF h
theorem rd_iNF {A B : Prop} (h : A) : if (!false) = true then A else B := iteT h
theorem k_str {mg : Str → Option Value} {x y z : Str} {t : Tok} (a : mg x = some (.str z t)) (e : z = y) : ∃ t, mg x = some (.str y t) := ⟨t, by rw [a, e]⟩
theorem k_int {mg : Str → Option Value} {x : Str} {y z : Int} {t : Tok} (a : mg x = some (.int z t)) (e : z = y) : ∃ t, mg x = some (.int y t) := ⟨t, by rw [a, e]⟩
/-! ### str.maketrans and translate -/
theorem va_app (k' k : Int) (v : Value) : ∀ kvs : List (Int × Value), (∀ kv ∈ kvs, kv.1 ≠ k) → valueAt (kvs ++ [(k, v)]) k' = if k' = k then some v else valueAt kvs k'
  | [], _ => by
    by_cases e : k' = k
    · simp [valueAt, e]
    · have e' : ¬ k = k' := fun q => e q.symm
      simp [valueAt, e, e']
  | kv :: r, h => by
    have ih := va_app k' k v r fun x hx => h x (List.mem_cons_of_mem _ hx)
    unfold valueAt at ih ⊢
    rw [List.cons_append, List.find?_cons, List.find?_cons]
    by_cases e : kv.1 = k'
    · have ne : ¬ k' = k := fun q => h kv List.mem_cons_self (e.trans q)
      rw [decide_eq_true e, if_neg ne]
    · rw [decide_eq_false e]
      exact ih
def Tab (ps : List (Nat × Nat)) (kvs : List (Int × Value)) : Prop := ∀ c : Nat, match ps.lookup c with
  | some d => ∃ t, valueAt kvs (c : Int) = some (.int (d : Int) t)
  | none => valueAt kvs (c : Int) = none
section
variable {prog : Program} {w : World} {A : Around} {E : Value → Shared → Prop} {s : Shared}
theorem mt_run {a b : Str} {t u : Tok} {Q : Value → Shared → Prop} (hl : a.length = b.length) (hz : a.length ≤ 1000) (nd : ((tl a).zip (tl b)).Pairwise fun p q => p.1 ≠ q.1)
    (h : ∀ h' k kvs, h'.DictOf (intKind prog w) s.heap.objs.size kvs → Tab ((tl a).zip (tl b)).reverse kvs → (∀ b o, s.heap.get? b = some o → h'.get? b = some o) → Q (.ref s.heap.objs.size) { s with heap := h', toks := k }) :
    wpAny (model prog w) A (Builtin.«str.maketrans» ⟨[.str a t, .str b u], []⟩) (fun fin s' => ∃ v, fin = .done (.ret v) ∧ Q v s') E s := by
  unfold Builtin.«str.maketrans»
  refine wpAny_bind (wpAny_of_eq (a := ()) (by first | rfl | kernel_rfl) ?_)
  refine wpAny_bind (wpAny_of_eq (a := ()) (by first | rfl | kernel_rfl) ?_)
  refine wpAny_bind (wpAny_of_eq (a := some b) (by first | rfl | kernel_rfl) ?_)
  refine wpAny_bind (wpAny_of_eq (a := none) (by first | rfl | kernel_rfl) ?_)
  refine wpAny_bind (wpAny_newObj_type ?_)
  dsimp only
  refine wpAny_bind (wpAny_holding ?_)
  refine wpAny_bind (wpAny_of_eq (a := some a) rfl ?_)
  dsimp only
  rw [show (a.length != b.length) = false by rw [hl]; simp, if_neg Bool.false_ne_true]
  refine wpAny_bind (wpAny_forIn_list _ (fun rest _ s' => ∃ past h' k kvs, (tl a).zip (tl b) = past ++ rest ∧ kvs.length ≤ past.length ∧ (∀ kv ∈ kvs, ∃ p ∈ past, kv.1 = (p.1 : Int)) ∧ h'.DictOf (intKind prog w) s.heap.objs.size kvs ∧ Tab past.reverse kvs ∧
    (∀ b o, s.heap.get? b = some o → h'.get? b = some o) ∧ s' = { s with heap := h', toks := k }) _ ?turn ?fin _ _ ?start)
  case start =>
    refine ⟨[], s.heap.push { cls := .type "dict", data := .dict #[] }, s.toks, [], rfl, Nat.zero_le _, fun _ hk => (nomatch hk), ?_, fun c => rfl, fun b o e => Heap.get?_push_of_some _ e, rfl⟩
    exact Heap.DictOf.new (knd := intKind prog w) s.heap
  case turn =>
    rintro ⟨x, y⟩ rest _ s' ⟨past, h', k, kvs, e1, e2, e3, e4, e5, e6, rfl⟩
    dsimp only
    refine wpAny_bind (wpAny_mkInt (wpAny_bind (wpAny_mkInt (wpAny_bind (wpAny_dictSet_pairs (knd := intKind prog w) (k := (x : Int)) (intKind_is prog w _ _) e4 (fun h2 hd hsb => wpAny_pure ?_) ?_)))))
    · have no : ∀ kv ∈ kvs, kv.1 ≠ (x : Int) := fun kv hkv e => by
        obtain ⟨p, hp, e'⟩ := e3 kv hkv
        rw [e1] at nd
        have := (List.pairwise_append.mp nd).2.2 p hp (x, y) List.mem_cons_self
        exact this (by
          have e2 : p.1 = x := by omega
          exact e2)
      have est : stored kvs (x : Int) (.int (y : Int) (k + 1)) = kvs ++ [((x : Int), .int (y : Int) (k + 1))] := by
        unfold stored
        rw [if_neg]
        intro hh
        obtain ⟨kv, hkv, e⟩ := List.any_eq_true.mp hh
        exact no kv hkv (of_decide_eq_true e)
      rw [est] at hd
      refine ⟨past ++ [(x, y)], h2, _, _, by rw [e1, List.append_assoc]; rfl, by rw [List.length_append, List.length_append]; exact Nat.succ_le_succ e2, fun kv hkv => ?_, hd, fun c => ?_, fun b o e => ?_, rfl⟩
      · rcases List.mem_append.mp hkv with q | q
        · obtain ⟨p, hp, e'⟩ := e3 kv q
          exact ⟨p, List.mem_append_left _ hp, e'⟩
        · exact ⟨(x, y), List.mem_append_right _ List.mem_cons_self, by rw [List.mem_singleton.mp q]⟩
      · rw [List.reverse_append]
        have t5 := e5 c
        show match List.lookup c ((x, y) :: past.reverse) with | some d => _ | none => _
        rw [List.lookup_cons, va_app _ _ _ _ no]
        by_cases e : c = x
        · rw [e, beq_self_eq_true, if_pos rfl]
          exact ⟨_, rfl⟩
        · have ec : (c == x) = false := beq_eq_false_iff_ne.mpr e
          rw [ec, if_neg (show ¬ (c : Int) = (x : Int) by omega)]
          exact t5
      · have nb : b ≠ s.heap.objs.size := fun q => by
          rw [q, Heap.get?_none_of_le (Nat.le_refl _)] at e
          cases e
        exact (hsb.2 b nb).trans (e6 b o e)
    · have hlen := congrArg List.length e1
      rw [List.length_zip, List.length_append, ← len_tl, ← len_tl] at hlen
      exact line_of (by omega)
  case fin =>
    rintro _ s' ⟨past, h', k, kvs, e1, e2, e3, e4, e5, e6, rfl⟩
    rw [List.append_nil] at e1
    refine wpAny_bind ?_
    refine wpAny_of_eq (a := PUnit.unit) (by first | rfl | kernel_rfl) ?_
    refine wpAny_pure ?_
    refine wpAny_pure ⟨_, rfl, ?_⟩
    rw [← e1] at e5
    exact h h' k kvs e4 e5 e6
theorem mt_entry : entryFor table "str.maketrans" = some Builtin.«str.maketrans» := entryFor_of_tree (by kernel_rfl)
theorem mt_plain : plainId "str.maketrans" = true := by decide +kernel
theorem mt_check {x y : Value} : checkBuiltinCall "str.maketrans" ⟨[x, y], []⟩ = pure () := by first | kernel_rfl | rfl
theorem call_mt {a b : Str} {t u : Tok} {Q : Value → Shared → Prop} (hl : a.length = b.length) (hz : a.length ≤ 1000) (nd : ((tl a).zip (tl b)).Pairwise fun p q => p.1 ≠ q.1)
    (h : ∀ h' k kvs, h'.DictOf (intKind prog w) s.heap.objs.size kvs → Tab ((tl a).zip (tl b)).reverse kvs → (∀ b o, s.heap.get? b = some o → h'.get? b = some o) → Q (.ref s.heap.objs.size) { s with heap := h', toks := k }) :
    wpAny (model prog w) A (call (.builtin "str.maketrans") [.str a t, .str b u]) Q E s := by
  refine wpAny_call (codeAny_call_builtin mt_plain mt_entry (wpAny_of_eq mt_check ?_))
  refine wpAny_mono (mt_run hl hz nd h) (fun fin s' hf => ?_) fun _ _ x => x
  obtain ⟨v, rfl, q⟩ := hf
  exact q
theorem cls_mt (K : PySem.W.Frag) : PySem.W.findCls K (.type "str") (.type "type") (Str.ofString "maketrans") = some (.val (.builtin "str.maketrans")) := by first | kernel_rfl | rfl
theorem get_mt {K : PySem.W.Frag} {pl : Sem Bool} {Q : Value × List Value → Shared → Prop} (X : K.In s.heap) (h : Q (.builtin "str.maketrans", []) { s with toks := s.toks + 1 }) :
    wpAny (model prog w) A (getMethod (.type "str") (Str.ofString "maketrans") pl) Q E s := by
  have h0 : opaqueClassAbove (.type "str") = pure none := by
    unfold opaqueClassAbove
    dsimp only
    rw [show Manifest.isStub "str" = false by decide +kernel]
    all_goals rfl
  have h1 : typeOf (.type "str") = pure (.type "type") := by first | rfl | kernel_rfl
  have hg : PySem.W.findIn K (.type "type") "__getattribute__" = some (some (.builtin "type.__getattribute__")) := PySem.W.type_tga
  unfold getMethod specialOf
  refine wpAny_bind (wpAny_bind ((PySem.W.Looks.of_pure h1).here ((PySem.W.looks_findIn X hg).here ?_)))
  dsimp only
  rw [if_pos PySem.W.canon_tga]
  refine wpAny_bind (wpAny_mono (Q := fun v => Q (v, [])) (E := E) ?_ (fun _ _ z => wpAny_pure z) fun _ _ z => z)
  refine PySem.W.cls_open X (PySem.W.Looks.of_pure h0) (PySem.W.Looks.of_pure h1) hg (PySem.W.looks_hook X (r := none) (by rfl)) (by show PySem.W.subIn K _ _ = _; rfl) (cls_mt K) ?_
  exact wpAny_pure (wpAny_pure h)
def mapd (ps : List (Nat × Nat)) (c : Nat) : Builtin.Str.Mapped := match ps.lookup c with
  | some e => .char e
  | none => .keep
def tr1 (ps : List (Nat × Nat)) (c : Nat) : Nat := (ps.lookup c).getD c
theorem look_one {d : Addr} {c : Nat} {ps : List (Nat × Nat)} {kvs : List (Int × Value)} {Q : Builtin.Str.Mapped → Shared → Prop} (hh : A.handled = none) (hd : (d == sysModules) = false) (hm : s.heap.DictOf (intKind prog w) d kvs) (hk : Tab ps kvs) (hb : ∀ e, ps.lookup c = some e → e < 128)
    (h : ∀ h' k, (∀ b o, s.heap.get? b = some o → h'.get? b = some o) → Q (mapd ps c) { s with heap := h', toks := k }) : wpAny (model prog w) A (Builtin.Str.tableLookup (.ref d) c) Q E s := by
  unfold Builtin.Str.tableLookup
  refine wpAny_bind (wpAny_attempt (wpAny_bind (wpAny_mkInt ?_)))
  have hc := hk c
  unfold mapd at h
  cases el : ps.lookup c with
  | some e =>
    rw [el] at hc h
    obtain ⟨t, hv⟩ := hc
    have he := hb e el
    refine wpAny_getItem_of (knd := intKind prog w) (k := (c : Int)) (intKind_is prog w _ _) hm.mapOf hv ?_
    dsimp only
    refine wpAny_bind (wpAny_of_eq (a := some (e : Int)) rfl ?_)
    dsimp only
    rw [if_neg (by
      rw [Bool.or_eq_true, decide_eq_true_iff, decide_eq_true_iff]
      omega)]
    exact wpAny_pure (h s.heap _ fun _ _ q => q)
  | none =>
    rw [el] at hc h
    refine wpAny_getItem_missing_of (knd := intKind prog w) (k := (c : Int)) (intKind_is prog w _ _) hd hh hm.mapOf hc fun h' e hx => ?_
    obtain ⟨ob, t, ho, hcl, _⟩ := hx.there
    dsimp only
    refine wpAny_bind (wpAny_isInstance (T := "KeyError") (b := true) ⟨ob, ho, hcl⟩ (by first | rfl | kernel_rfl) ?_)
    rw [if_pos rfl]
    exact wpAny_bind (wpAny_rule (wpAny_pure (h h' _ hx.keeps)))
end
theorem glue (f : Nat → Nat) : ∀ (l : List Nat) (acc : Array Nat), List.foldl (fun acc (p : Str) => acc ++ p.cps) acc (l.map fun c => (⟨#[f c]⟩ : Str)) = acc ++ (l.map f).toArray
  | [], acc => (Array.append_empty).symm
  | c :: l, acc => by
    rw [List.map_cons, List.foldl_cons, glue f l]
    apply Array.toList_inj.mp
    simp
def TrI (ps : List (Nat × Nat)) (x : List Nat) (f0 : Bool) (s : Shared) (rest : List Nat) (st : List Str × Nat × Bool × List (Nat × Option Nat) × Bool) (s' : Shared) : Prop :=
  ∃ (past : List Nat) (out : List Str) (kn : List (Nat × Option Nat)) (h' : Heap) (k : Nat), x = past ++ rest ∧ st = (out, past.length, f0, kn, false) ∧ out.reverse = past.map (fun c => (⟨#[tr1 ps c]⟩ : Str)) ∧
    (∀ c v, List.lookup c kn = some v → v = some (tr1 ps c)) ∧ s' = { s with heap := h', toks := k } ∧ ∀ b o, s.heap.get? b = some o → h'.get? b = some o
theorem TrI.go {ps : List (Nat × Nat)} {x rest past : List Nat} {f0 : Bool} {s : Shared} {c e : Nat} {out : List Str} {kn : List (Nat × Option Nat)} {h' : Heap} {k : Nat} (h1 : x = past ++ c :: rest) (he : e = tr1 ps c)
    (h3 : out.reverse = past.map (fun c => (⟨#[tr1 ps c]⟩ : Str))) (h4 : ∀ c v, List.lookup c kn = some v → v = some (tr1 ps c)) (h6 : ∀ b o, s.heap.get? b = some o → h'.get? b = some o) :
    TrI ps x f0 s rest (⟨#[e]⟩ :: out, past.length + 1, f0, kn, false) { s with heap := h', toks := k } := by
  refine ⟨past ++ [c], ⟨#[e]⟩ :: out, kn, h', k, by rw [h1, List.append_assoc]; rfl, by rw [List.length_append]; rfl, ?_, h4, rfl, h6⟩
  rw [List.reverse_cons, h3, List.map_append, he]
  rfl
theorem tr_run {prog : Program} {w : World} {A : Around} {E : Value → Shared → Prop} {s : Shared} {z : Str} {t : Tok} {d : Addr} {ps : List (Nat × Nat)} {kvs : List (Int × Value)} {Q : Value → Shared → Prop} (hh : A.handled = none) (hd : (d == sysModules) = false) (hz : z.length ≤ 100000)
    (hm : s.heap.DictOf (intKind prog w) d kvs) (hk : Tab ps kvs) (hb : ∀ c e, ps.lookup c = some e → e < 128)
    (h : ∀ h' k t', (∀ b o, s.heap.get? b = some o → h'.get? b = some o) → Q (.str ⟨((tl z).map (tr1 ps)).toArray⟩ t') { s with heap := h', toks := k }) :
    wpAny (model prog w) A (Builtin.«str.translate» ⟨[.str z t, .ref d], []⟩) (fun fin s' => ∃ v, fin = .done (.ret v) ∧ Q v s') E s := by
  unfold Builtin.«str.translate»
  refine wpAny_bind (wpAny_of_eq (a := (.str z t, z, .ref d)) (by first | rfl | kernel_rfl) ?_)
  dsimp only
  by_cases h0 : (z.length == 0) = true
  · rw [if_pos h0]
    have ez : tl z = [] := List.eq_nil_of_length_eq_zero (by rw [← len_tl]; exact eq_of_beq h0)
    have ez2 : z = ⟨((tl z).map (tr1 ps)).toArray⟩ := ext_tl (by
      show tl z = (tl z).map (tr1 ps)
      rw [ez]
      rfl)
    refine wpAny_bind (wpAny_rule ?_)
    refine wpAny_bind (wpAny_of_eq (a := .str z t) (by first | rfl | kernel_rfl) ?_)
    refine wpAny_pure ⟨_, rfl, ?_⟩
    have q := h s.heap s.toks t fun _ _ q => q
    rw [← ez2] at q
    exact q
  · rw [if_neg h0]
    generalize (z.cps.all fun y => decide (y < 128)) = f0
    refine wpAny_bind (MeetsSeq2.wpAny_forIn_array _ (TrI ps (tl z) f0 s) _ (fun c rest st s' hI => ?turn) (fun st s' hI => ?fin) z.cps ([], 0, f0, [], false) ?start)
    case start => exact ⟨[], [], [], s.heap, s.toks, rfl, rfl, rfl, fun c v q => (nomatch q), rfl, fun _ _ q => q⟩
    case turn =>
      obtain ⟨past, out, kn, h', k, e1, rfl, e3, e4, rfl, e6⟩ := hI
      have hp : past.length ≤ 100000 := by
        have q := congrArg List.length e1
        rw [List.length_append, ← len_tl] at q
        omega
      have hm' : Heap.DictOf (intKind prog w) h' d kvs := hm.keep e6
      dsimp only
      rw [show Builtin.Str.tooLong past.length = false from PyProof.Rows.short24 (by omega), if_neg Bool.false_ne_true]
      have lk : ∀ (kk : Nat) (R : Builtin.Str.Mapped → Shared → Prop), (∀ h2 k2, (∀ b o, s.heap.get? b = some o → h2.get? b = some o) → R (mapd ps c) { s with heap := h2, toks := k2 }) →
          wpAny (model prog w) A (Builtin.Str.tableLookup (.ref d) c) R E { s with heap := h', toks := k } := fun kk R hR =>
        look_one hh hd hm' hk (hb c) fun h2 k2 q => hR h2 k2 fun b o e => q b o (e6 b o e)
      have new : ∀ v, v = some (tr1 ps c) → ∀ c' v', List.lookup c' ((c, v) :: kn) = some v' → v' = some (tr1 ps c') := fun v hv c' v' q => by
        rw [List.lookup_cons] at q
        by_cases e : c' = c
        · rw [e, beq_self_eq_true] at q
          rw [← Option.some.inj q, hv, e]
        · rw [beq_eq_false_iff_ne.mpr e] at q
          exact e4 c' v' q
      cases f0 with
      | true =>
        rw [if_pos rfl]
        cases hl : List.lookup c kn with
        | some v =>
          have hv := e4 c v hl
          subst hv
          dsimp only
          refine wpAny_bind (wpAny_pure ?_)
          exact wpAny_pure (TrI.go e1 rfl e3 e4 e6)
        | none =>
          dsimp only
          cases el : ps.lookup c with
          | some e =>
            have et : e = tr1 ps c := by unfold tr1; rw [el]; rfl
            have eb := hb c e el
            refine wpAny_bind (lk k _ fun h2 k2 q => ?_)
            rw [show mapd ps c = .char e by unfold mapd; rw [el]]
            dsimp only
            rw [if_pos eb]
            dsimp only
            refine wpAny_bind (wpAny_pure ?_)
            exact wpAny_pure (TrI.go e1 et e3 (new _ (by rw [et])) q)
          | none =>
            have et : c = tr1 ps c := by unfold tr1; rw [el]; rfl
            refine wpAny_bind (lk k _ fun h2 k2 q => ?_)
            rw [show mapd ps c = .keep by unfold mapd; rw [el]]
            dsimp only
            refine wpAny_bind (wpAny_pure ?_)
            exact wpAny_pure (TrI.go e1 et e3 (new _ (by rw [← et])) q)
      | false =>
        rw [if_neg Bool.false_ne_true, if_neg Bool.false_ne_true]
        cases el : ps.lookup c with
        | some e =>
          have et : e = tr1 ps c := by unfold tr1; rw [el]; rfl
          refine wpAny_bind (lk k _ fun h2 k2 q => ?_)
          rw [show mapd ps c = .char e by unfold mapd; rw [el]]
          exact wpAny_pure (TrI.go e1 et e3 e4 q)
        | none =>
          have et : c = tr1 ps c := by unfold tr1; rw [el]; rfl
          refine wpAny_bind (lk k _ fun h2 k2 q => ?_)
          rw [show mapd ps c = .keep by unfold mapd; rw [el]]
          exact wpAny_pure (TrI.go e1 et e3 e4 q)
    case fin =>
      obtain ⟨past, out, kn, h', k, e1, rfl, e3, e4, rfl, e6⟩ := hI
      rw [List.append_nil] at e1
      have hp : past.length ≤ 100000 := by
        have q := congrArg List.length e1
        rw [← len_tl] at q
        omega
      dsimp only
      rw [show Builtin.Str.tooLong past.length = false from PyProof.Rows.short24 (by omega), if_neg Bool.false_ne_true, e3, glue (tr1 ps), Array.empty_append, ← e1]
      refine wpAny_bind (wpAny_mkStr (wpAny_pure ⟨_, rfl, h _ _ _ e6⟩) ?_)
      rw [len_tl, tl_mk, List.length_map, ← len_tl]
      exact line_of (by omega)
def TabO (prog : Program) (w : World) (ps : List (Nat × Nat)) (p : Addr) : HO := .ext fun h => (p == sysModules) = false ∧ ∃ kvs, h.DictOf (intKind prog w) p kvs ∧ Tab ps kvs
section
variable {X : Cx}
def zMk (P : Program) (w : World) (ps : List (Nat × Nat)) : TE := fun _ H Q => ∀ p, H p = none → Q (.ref p) (upd H p (TabO P w ps p))
theorem y_mk {a b : Str} {p apos pos p1 p2 : Pos} {j1 j2} {pl : Sem Bool} (hg : Gl X "str") (hm : X.mg "str" = none) (hl : a.length = b.length) (hz : a.length ≤ 1000) (nd : ((tl a).zip (tl b)).Pairwise fun p q => p.1 ≠ q.1)
    (he : eval (.Call (.Attribute (.Name "str" p) "maketrans" apos) [.Constant (.str a) j1 p1, .Constant (.str b) j2 p2] [] pos) X.env = (do
      let ov ← eval (.Name "str" p) X.env
      standAt apos.atName
      let (f, first) ← holding [ov] (getMethod ov "maketrans" pl)
      callWith pos f first (backTo pos (starEach [.Constant (.str a) j1 p1, .Constant (.str b) j2 p2] X.env)) (backToKw pos (keywordEach [] X.env))) := by rfl)
    (hpl : (backTo pos (starEach [.Constant (.str a) j1 p1, .Constant (.str b) j2 p2] X.env)).any (·.1) = false := by rfl) :
    PE X (.Call (.Attribute (.Name "str" p) "maketrans" apos) [.Constant (.str a) j1 p1, .Constant (.str b) j2 p2] [] pos) (zMk X.prog X.w ((tl a).zip (tl b)).reverse) := by
  refine ⟨fun pins s σ H Q I h => ?_⟩
  refine PySem.W.methodCall_KW (ld_blt I hg hm PyProof.Rows.boot_str ?_ (by decide) (by decide)) he
  refine get_mt I.kIn ?_
  have I1 : Inv X pins σ H { s with toks := s.toks + 1 } := I.tok _
  have ha : PA X [.Constant (.str a) j1 p1, .Constant (.str b) j2 p2] (tCons (tC (.str a)) (tCons (tC (.str b)) tNil)) := pa_cons pe_str (pa_cons pe_str pa_nil)
  refine Calls.callWith_builtin hpl (Calls.evalArgs_plain ?_)
  refine thn (ha.run pos pins _ σ H (fun vs H' => vs = [.str a, .str b] ∧ H' = H) I1 ⟨rfl, rfl⟩) fun us s2 ⟨vs, H2, I2, rv, ev, eh⟩ => ?_
  subst ev eh
  obtain ⟨u1, u2, rfl, ⟨t1, rfl⟩, ⟨t2, rfl⟩⟩ := rv.two
  refine call_mt hl hz nd fun h' k kvs hd ht kp => ?_
  have hsys : (s2.heap.objs.size == sysModules) = false := beq_eq_false_iff_ne.mpr (Ne.symm (Nat.ne_of_lt I2.big))
  refine ⟨.ref s2.heap.objs.size, _, I2.laid (t' := k) (o := TabO X.prog X.w ((tl a).zip (tl b)).reverse s2.heap.objs.size) kp (Nat.le_refl _) ?_, rfl, h _ I2.fresh⟩
  refine ⟨⟨hsys, kvs, hd, ht⟩, ?_, fun h1 h2 f1 kk => ?_⟩
  · obtain ⟨o, es, ep, ho, _⟩ := hd
    exact ⟨o, ho⟩
  · obtain ⟨g1, kvs', ⟨o, es, ep, ho, r⟩, g3⟩ := f1
    exact ⟨g1, kvs', ⟨o, es, ep, kk _ ho, r⟩, g3⟩
def zTr (P : Program) (w : World) : V → List V → Hp → VK → Prop := fun x xs H Q => ∃ (z : Str) (d : Addr) (ps : List (Nat × Nat)), x = .str z ∧ xs = [V.ref d] ∧ H d = some (TabO P w ps d) ∧ z.length ≤ 100000 ∧ (∀ c e, ps.lookup c = some e → e < 128) ∧ Q (.str ⟨((tl z).map (tr1 ps)).toArray⟩) H
theorem y_trans (hc : X.calm = true) : MtR X "str.translate" (zTr X.prog X.w) := by
  intro pins s σ H x xs v us Q I rx rs h
  obtain ⟨z, d, ps, rfl, rfl, ht, hz, hb, q⟩ := h
  obtain ⟨t, rfl⟩ := rx
  obtain ⟨u, rfl, ru⟩ := Vals.one rs
  cases ru
  obtain ⟨⟨hsys, kvs, hd, htab⟩, _⟩ := I.hok d _ ht
  refine wpAny_call_entry F.slot_str_translate (typeIs_str _ _ _) F.entry_str_translate ?_ (F.args_str_translate_2 _ _)
  refine tr_run (I.ok.hd hc) hsys hz hd htab hb fun h' k t' kp => ?_
  exact ⟨.str _, H, I.kept (t' := k) kp, ⟨t', rfl⟩, q⟩
end
/-! ### addresses on lists of signs -/
noncomputable def dc (P : Prop) : Bool := @decide P (Classical.propDecidable P)
theorem dc_iff {P : Prop} : dc P = true ↔ P := by
  unfold dc
  exact @decide_eq_true_iff P (Classical.propDecidable P)
theorem dc_of {P : Prop} {b : Bool} (h : b = true ↔ P) : b = dc P := Bool.eq_iff_iff.mpr (h.trans dc_iff.symm)
theorem dc_t {P : Prop} (h : P) : dc P = true := dc_iff.mpr h
theorem dc_f {P : Prop} (h : ¬ P) : dc P = false := by
  cases e : dc P with
  | false => rfl
  | true => exact absurd (dc_iff.mp e) h
abbrev locS : Str := Str.ofString "abcdefghijklmnopqrstuvwxyz0123456789.-_+"
abbrev labS : Str := Str.ofString "abcdefghijklmnopqrstuvwxyz0123456789-"
abbrev upS : Str := Str.ofString "ABCDEFGHIJKLMNOPQRSTUVWXYZ"
abbrev loS : Str := Str.ofString "abcdefghijklmnopqrstuvwxyz"
def DD (l : List Nat) : Prop := ∃ i : Nat, l[i]? = some 46 ∧ l[i + 1]? = some 46
def ConsOk (S : List Nat) (n : Nat) (l : List Nat) : Prop := 1 ≤ l.length ∧ l.length ≤ n ∧ ∀ c ∈ l, c ∈ S
def LabelOk (l : List Nat) : Prop := ConsOk (tl labS) 20 l ∧ l.head? ≠ some 45 ∧ l.getLast? ≠ some 45
def LocalOk (l : List Nat) : Prop := ConsOk (tl locS) 40 l ∧ l.head? ≠ some 46 ∧ l.getLast? ≠ some 46 ∧ ¬ DD l
def DomOk (l : List Nat) : Prop := l.length ≤ 80 ∧ ∀ p ∈ spl [46] 0 [] l, LabelOk p
theorem starts_one {x y : Str} {c : Nat} (hy : tl y = [c]) : Txt.startswith x y = decide ((tl x).head? = some c) := by
  rw [starts_tl, len_tl y, hy]
  cases tl x with
  | nil => rfl
  | cons a r =>
    by_cases e : a = c
    · simp [e]
    · simp [e]
theorem ends_one {x y : Str} {c : Nat} (hy : tl y = [c]) : Txt.endswith x y = decide ((tl x).getLast? = some c) := by
  unfold Txt.endswith
  rw [StrLaws.subAt_eq]
  show (decide (0 + y.length ≤ x.length) && (((tl x).drop (x.length - y.length)).take y.length == tl y)) = _
  rw [len_tl y, hy, len_tl x]
  show (decide (0 + 1 ≤ (tl x).length) && (((tl x).drop ((tl x).length - 1)).take 1 == [c])) = _
  rcases List.eq_nil_or_concat (tl x) with e | ⟨l, a, e⟩
  · rw [e]
    rfl
  · have e' : tl x = l ++ [a] := by rw [e]; simp
    rw [e', List.length_append, show l.length + [a].length - 1 = l.length from rfl, List.drop_left, List.getLast?_append]
    by_cases h : a = c
    · simp [h]
    · simp [h]
theorem dd_in {z y : Str} (hy : tl y = [46, 46]) : (!(Builtin.Str.occurrences z y 0 z.length 1).isEmpty) = true ↔ DD (tl z) := by
  rw [StrLaws.found_iff]
  have ly : y.length = 2 := by rw [len_tl, hy]; rfl
  constructor
  · rintro ⟨i, h1, h2⟩
    rw [StrLaws.subAt_eq, ly, beq_iff_eq] at h2
    have h3 : ((tl z).drop i).take 2 = [46, 46] := h2.trans hy
    rw [ly, len_tl] at h1
    refine ⟨i, ?_, ?_⟩
    · have q := congrArg (fun l => l[0]?) h3
      simp only [List.getElem?_take, List.getElem?_drop] at q
      simpa using q
    · have q := congrArg (fun l => l[1]?) h3
      simp only [List.getElem?_take, List.getElem?_drop] at q
      simpa using q
  · rintro ⟨i, h1, h2⟩
    obtain ⟨l1, g1⟩ := List.getElem?_eq_some_iff.mp h1
    obtain ⟨l2, g2⟩ := List.getElem?_eq_some_iff.mp h2
    refine ⟨i, by rw [ly, len_tl]; omega, ?_⟩
    rw [StrLaws.subAt_eq, ly, beq_iff_eq]
    show ((tl z).drop i).take 2 = tl y
    rw [hy, List.drop_eq_getElem_cons l1, List.drop_eq_getElem_cons l2, g1, g2]
    rfl
theorem rs_id {x y : Str} {l : List Nat} {c : Nat} (e : tl x = l ++ [c]) (h : y.cps.contains c = false) : Txt.rstripChars x y = x := by
  unfold Txt.rstripChars Txt.stripBy
  refine if_pos ?_
  unfold stripSame stripHi stripLo
  have e1 : ((x.cps.toList.drop 0).reverse.takeWhile y.cps.contains) = [] := by
    rw [List.drop_zero, show x.cps.toList = l ++ [c] from e, List.reverse_append]
    show List.takeWhile y.cps.contains (c :: l.reverse) = []
    rw [List.takeWhile_cons, h]
    rfl
  simp only [Bool.false_eq_true, if_false, if_true]
  rw [e1]
  simp
theorem cut_id {x : Str} {n : Nat} (h : x.length ≤ n) : cutS x none (some (n : Int)) = x := ext_tl (by
  rw [tl_cutTo]
  exact List.take_of_length_le (by rw [← len_tl]; exact h))
theorem tl_up : tl upS = (List.range 26).map (· + 65) := by rw [tl_ofString]; rfl
theorem tl_lo : tl loS = (List.range 26).map (· + 97) := by rw [tl_ofString]; rfl
def upL : List (Nat × Nat) := ((tl upS).zip (tl loS)).reverse
def upK : List (Nat × Nat) := (((List.range 26).map (· + 65)).zip ((List.range 26).map (· + 97))).reverse
theorem upL_eq : upL = upK := by unfold upL upK; rw [tl_up, tl_lo]
theorem up_len : upS.length = loS.length := by rw [len_tl, len_tl, tl_up, tl_lo]; rfl
theorem up_le : upS.length ≤ 1000 := by rw [len_tl, tl_up]; decide
theorem up_nd : ((tl upS).zip (tl loS)).Pairwise fun p q => p.1 ≠ q.1 := by rw [tl_up, tl_lo]; decide
theorem up_b : ∀ c e, upL.lookup c = some e → e < 128 := by
  rw [upL_eq]
  intro c e h
  have hm : ∀ p ∈ upK, p.2 < 128 := by decide
  have gen : ∀ l : List (Nat × Nat), (∀ p ∈ l, p.2 < 128) → l.lookup c = some e → e < 128 := by
    intro l
    induction l with
    | nil => intro _ h; cases h
    | cons p r ih =>
      intro hp h
      obtain ⟨a, b⟩ := p
      rw [List.lookup_cons] at h
      by_cases q : c = a
      · rw [q, beq_self_eq_true] at h
        cases h
        exact hp _ List.mem_cons_self
      · rw [beq_eq_false_iff_ne.mpr q] at h
        exact ih (fun p hp' => hp p (List.mem_cons_of_mem _ hp')) h
  exact gen upK hm h
def lowN (c : Nat) : Nat := if 65 ≤ c ∧ c ≤ 90 then c + 32 else c
theorem low_k : (List.range 128).all (fun c => tr1 upK c == lowN c) = true := by decide +kernel
theorem low_eq {c : Nat} (h : c < 128) : tr1 upL c = lowN c := by
  rw [upL_eq]
  exact eq_of_beq (List.all_eq_true.mp low_k c (List.mem_range.mpr h))
theorem upper_k : (List.range 128).all (fun c => (decide (65 ≤ c) && decide (c ≤ 90)) || (match (Txt.upper ⟨#[c]⟩).cps.toList with | [e] => decide (e < 128) && lowN e == c | _ => false)) = true := by decide +kernel
theorem upper_eq {c : Nat} (h : c < 128) (h2 : ¬ (65 ≤ c ∧ c ≤ 90)) : ∃ e, Txt.upper ⟨#[c]⟩ = ⟨#[e]⟩ ∧ e < 128 ∧ lowN e = c := by
  have q := List.all_eq_true.mp upper_k c (List.mem_range.mpr h)
  have h3 : (decide (65 ≤ c) && decide (c ≤ 90)) = false := by
    cases e : (decide (65 ≤ c) && decide (c ≤ 90)) with
    | false => rfl
    | true =>
      rw [Bool.and_eq_true, decide_eq_true_iff, decide_eq_true_iff] at e
      exact absurd e h2
  rw [h3, Bool.false_or] at q
  cases e : (Txt.upper ⟨#[c]⟩).cps.toList with
  | nil => rw [e] at q; cases q
  | cons a r =>
    cases r with
    | cons b r => rw [e] at q; cases q
    | nil =>
      rw [e] at q
      dsimp only at q
      rw [Bool.and_eq_true, decide_eq_true_iff, beq_iff_eq] at q
      exact ⟨a, ext_tl e, q.1, q.2⟩
theorem low_low {c : Nat} (h2 : ¬ (65 ≤ c ∧ c ≤ 90)) : lowN c = c := if_neg h2
abbrev enS : Str := Str.ofString "abcdefghijklmnopqrstuvwxyz0123456789-_+"
abbrev en2S : Str := Str.ofString "abcdefghijklmnopqrstuvwxyz0123456789"
theorem sub_k {a b : String} (h : a.toList.all (fun c => b.toList.contains c) = true) : ∀ c ∈ tl (Str.ofString a), c ∈ tl (Str.ofString b) := by
  intro c hc
  rw [tl_ofString] at hc ⊢
  obtain ⟨d, hd, rfl⟩ := List.mem_map.mp hc
  have q := List.all_eq_true.mp h d hd
  exact List.mem_map.mpr ⟨d, by simpa using q, rfl⟩
theorem nin_k {a : String} {n : Nat} (h : a.toList.all (fun c => decide (c.toNat ≠ n)) = true) : n ∉ tl (Str.ofString a) := by
  intro hc
  rw [tl_ofString] at hc
  obtain ⟨d, hd, e⟩ := List.mem_map.mp hc
  exact of_decide_eq_true (List.all_eq_true.mp h d hd) e
theorem en_loc : ∀ c ∈ tl enS, c ∈ tl locS := sub_k (by decide +kernel)
theorem en2_lab : ∀ c ∈ tl en2S, c ∈ tl labS := sub_k (by decide +kernel)
theorem dot_loc : 46 ∈ tl locS := by rw [tl_ofString]; decide +kernel
theorem dot_en : 46 ∉ tl enS := nin_k (by decide +kernel)
theorem dot_lab : 46 ∉ tl labS := nin_k (by decide +kernel)
theorem hy_en2 : 45 ∉ tl en2S := nin_k (by decide +kernel)
theorem at_loc : 64 ∉ tl locS := nin_k (by decide +kernel)
theorem at_lab : 64 ∉ tl labS := nin_k (by decide +kernel)
theorem asc_loc : Asc locS := asc_of (by decide +kernel)
theorem asc_lab : Asc labS := asc_of (by decide +kernel)
theorem noup_k {a : String} (h : a.toList.all (fun c => decide (¬ (65 ≤ c.toNat ∧ c.toNat ≤ 90))) = true) : ∀ c ∈ tl (Str.ofString a), ¬ (65 ≤ c ∧ c ≤ 90) := by
  intro c hc
  rw [tl_ofString] at hc
  obtain ⟨d, hd, rfl⟩ := List.mem_map.mp hc
  exact of_decide_eq_true (List.all_eq_true.mp h d hd)
theorem noup_loc : ∀ c ∈ tl locS, ¬ (65 ≤ c ∧ c ≤ 90) := noup_k (by decide +kernel)
theorem noup_lab : ∀ c ∈ tl labS, ¬ (65 ≤ c ∧ c ≤ 90) := noup_k (by decide +kernel)
/-- words with dots between -/
def Wd1 (p : List Nat) : Prop := p ≠ [] ∧ ∀ c ∈ p, c ∈ tl enS
def Gd (l : List Nat) : Prop := l ≠ [] ∧ l.head? ≠ some 46 ∧ l.getLast? ≠ some 46 ∧ ¬ DD l
theorem nodot {p : List Nat} (h : Wd1 p) {i : Nat} : p[i]? ≠ some 46 := fun e => dot_en (h.2 46 (List.mem_of_getElem? e))
theorem gd_one {p : List Nat} (h : Wd1 p) : Gd p := by
  refine ⟨h.1, fun e => ?_, fun e => ?_, fun ⟨i, e, _⟩ => nodot h e⟩
  · rw [List.head?_eq_getElem?] at e
    exact nodot h e
  · rw [List.getLast?_eq_getElem?] at e
    exact nodot h e
theorem gd_app {p q : List Nat} (h : Wd1 p) (g : Gd q) : Gd (p ++ 46 :: q) := by
  obtain ⟨g1, g2, g3, g4⟩ := g
  refine ⟨by simp, ?_, ?_, ?_⟩
  · cases p with
    | nil => exact absurd rfl h.1
    | cons a r =>
      intro e
      exact nodot h (i := 0) (by simpa using e)
  · rw [List.getLast?_append]
    cases q with
    | nil => exact absurd rfl g1
    | cons b r =>
      rw [List.getLast?_cons_cons]
      cases e : (b :: r).getLast? with
      | none => simp at e
      | some z =>
        rw [e] at g3
        simpa using g3
  · rintro ⟨i, e1, e2⟩
    by_cases h1 : i < p.length
    · rw [List.getElem?_append_left h1] at e1
      exact nodot h e1
    · rw [List.getElem?_append_right (by omega)] at e2
      rw [show i + 1 - p.length = (i - p.length) + 1 by omega, List.getElem?_cons_succ] at e2
      rw [List.getElem?_append_right (by omega)] at e1
      cases hk : i - p.length with
      | zero =>
        rw [hk] at e2
        rw [List.head?_eq_getElem?] at g2
        exact g2 e2
      | succ k =>
        rw [hk, List.getElem?_cons_succ] at e1
        rw [hk] at e2
        exact g4 ⟨k, e1, e2⟩
theorem gd_join : ∀ {ps : List (List Nat)}, ps ≠ [] → (∀ p ∈ ps, Wd1 p) → Gd (joinL [46] ps)
  | [], h, _ => absurd rfl h
  | [p], _, h => gd_one (h p (by simp))
  | p :: q :: r, _, h => gd_app (h p (by simp)) (gd_join (by simp) fun x hx => h x (List.mem_cons_of_mem _ hx))
def LocP (x : Str) : Prop := x.length ≤ 40 ∧ ∃ ps : List (List Nat), ps ≠ [] ∧ (∀ p ∈ ps, Wd1 p) ∧ tl x = joinL [46] ps
theorem LocP.ok {x : Str} (h : LocP x) : LocalOk (tl x) := by
  obtain ⟨hl, ps, hn, hp, e⟩ := h
  obtain ⟨g1, g2, g3, g4⟩ := gd_join hn hp
  rw [← e] at g1 g2 g3 g4
  refine ⟨⟨?_, by rw [← len_tl]; exact hl, fun c hc => ?_⟩, g2, g3, g4⟩
  · cases q : tl x with
    | nil => exact absurd q g1
    | cons _ _ => simp
  · rw [e] at hc
    rcases joinL_mem hc with q | ⟨p, hp', q⟩
    · rw [List.mem_singleton.mp q]
      exact dot_loc
    · exact en_loc c ((hp p hp').2 c q)
def LabP (p : List Nat) : Prop := ∃ c m c', p = c :: (m ++ [c']) ∧ c ∈ tl en2S ∧ c' ∈ tl en2S ∧ m.length ≤ 3 ∧ ∀ d ∈ m, d ∈ tl labS
theorem LabP.in {p : List Nat} (h : LabP p) : ∀ d ∈ p, d ∈ tl labS := by
  obtain ⟨c, m, c', rfl, hc, hc', hm, hd⟩ := h
  intro d q
  rcases List.mem_cons.mp q with rfl | q
  · exact en2_lab _ hc
  · rcases List.mem_append.mp q with q | q
    · exact hd d q
    · rw [List.mem_singleton.mp q]
      exact en2_lab _ hc'
theorem LabP.len {p : List Nat} (h : LabP p) : 2 ≤ p.length ∧ p.length ≤ 5 := by
  obtain ⟨c, m, c', rfl, hc, hc', hm, hd⟩ := h
  simp only [List.length_cons, List.length_append, List.length_nil]
  omega
theorem LabP.ok {p : List Nat} (h : LabP p) : LabelOk p := by
  have h1 := h.in
  have h2 := h.len
  obtain ⟨c, m, c', rfl, hc, hc', hm, hd⟩ := h
  refine ⟨⟨by omega, by omega, h1⟩, fun e => ?_, fun e => ?_⟩
  · exact hy_en2 (by rw [← Option.some.inj e]; exact hc)
  · rw [show c :: (m ++ [c']) = (c :: m) ++ [c'] from rfl, List.getLast?_append] at e
    have e2 : some c' = some 45 := by simpa using e
    exact hy_en2 (by rw [← Option.some.inj e2]; exact hc')
def DomP (x : Str) : Prop := x.length ≤ 40 ∧ ∃ ps : List (List Nat), ps ≠ [] ∧ (∀ p ∈ ps, LabP p) ∧ tl x = joinL [46] ps
theorem DomP.ok {x : Str} (h : DomP x) : DomOk (tl x) := by
  obtain ⟨hl, ps, hn, hp, e⟩ := h
  refine ⟨by rw [← len_tl]; omega, fun p q => ?_⟩
  rw [e, spl_join hn fun p hp' => fun m => dot_lab ((hp p hp').in 46 m)] at q
  exact (hp p q).ok
theorem join_end : ∀ {ps : List (List Nat)}, ps ≠ [] → joinL [46] (ps ++ [[]]) = joinL [46] ps ++ [46]
  | [], h => absurd rfl h
  | [p], _ => by simp [joinL]
  | p :: q :: r, _ => by
    have ih := join_end (ps := q :: r) (by simp)
    show p ++ ([46] ++ joinL [46] ((q :: r) ++ [[]])) = (p ++ ([46] ++ joinL [46] (q :: r))) ++ [46]
    rw [ih, List.append_assoc, List.append_assoc]
theorem DomP.dot {x : Str} (h : DomP x) : ¬ DomOk (tl x ++ [46]) := by
  obtain ⟨hl, ps, hn, hp, e⟩ := h
  intro hd
  have q := hd.2 []
  rw [e, ← join_end hn, spl_join (by simp) fun p hp' => ?_] at q
  · have := (q (by simp)).1.1
    exact absurd this (by decide)
  · rcases List.mem_append.mp hp' with m | m
    · exact fun z => dot_lab ((hp p m).in 46 z)
    · rw [List.mem_singleton.mp m]
      simp
theorem LocP.in {x : Str} (h : LocP x) : ∀ c ∈ tl x, c ∈ tl locS := h.ok.1.2.2
theorem DomP.in {x : Str} (h : DomP x) : ∀ c ∈ tl x, c = 46 ∨ c ∈ tl labS := by
  obtain ⟨hl, ps, hn, hp, e⟩ := h
  intro c hc
  rw [e] at hc
  rcases joinL_mem hc with q | ⟨p, hp', q⟩
  · exact .inl (List.mem_singleton.mp q)
  · exact .inr ((hp p hp').in c q)
theorem dot_con {c : Nat} (h : c ≠ 46) : (Str.ofString ".").cps.contains c = false := by
  cases e : (Str.ofString ".").cps.contains c with
  | false => rfl
  | true =>
    rw [Array.contains_iff_mem] at e
    have q : c ∈ tl (Str.ofString ".") := Array.mem_def.mp e
    rw [tl_dot] at q
    exact absurd (List.mem_singleton.mp q) h
theorem LocP.fix {x : Str} (h : LocP x) : Txt.rstripChars (cutS x none (some 40)) (Str.ofString ".") = x := by
  rw [show cutS x none (some 40) = x from cut_id (n := 40) h.1]
  obtain ⟨_, _, g3, _⟩ := h.ok
  rcases List.eq_nil_or_concat (tl x) with e | ⟨l, c, e⟩
  · have := h.ok.1.1
    rw [e] at this
    exact absurd this (by decide)
  · have e' : tl x = l ++ [c] := by rw [e]; simp
    refine rs_id e' (dot_con fun z => g3 ?_)
    rw [e', List.getLast?_append, z]
    rfl
theorem LocP.mk {xs : List Str} (hn : xs ≠ []) (hp : ∀ x ∈ xs, Wd1 (tl x)) (hl : (Txt.join (Str.ofString ".") xs).length ≤ 40) : LocP (Txt.join (Str.ofString ".") xs) :=
  ⟨hl, xs.map tl, fun e => hn (List.map_eq_nil_iff.mp e), fun p h => by
    obtain ⟨x, hx, rfl⟩ := List.mem_map.mp h
    exact hp x hx, by rw [tl_joined, tl_dot]⟩
theorem DomP.mk {xs : List Str} (hn : xs ≠ []) (hp : ∀ x ∈ xs, LabP (tl x)) (hl : (Txt.join (Str.ofString ".") xs).length ≤ 40) : DomP (Txt.join (Str.ofString ".") xs) :=
  ⟨hl, xs.map tl, fun e => hn (List.map_eq_nil_iff.mp e), fun p h => by
    obtain ⟨x, hx, rfl⟩ := List.mem_map.mp h
    exact hp x hx, by rw [tl_joined, tl_dot]⟩
def zUpper : V → List V → Hp → VK → Prop := fun x xs H Q => ∃ a, x = V.str a ∧ xs = [] ∧ a.length ≤ 5592405 ∧ Q (.str (Txt.upper a)) H
theorem y_upper {X : Cx} : MtR X "str.upper" zUpper := mt_upper
section
variable {σ : L2.St} {H H1 : Hp} {Q : VK} {K : PySem.W.Frag} {st sc a p D : Addr} {ns : List Int} {ta : TE} {x y : Str} {bs : List Bool} {P : Program} {w : World} {ps : List (Nat × Nat)} {J : It} {Rl : Hp → Prop} {xs : List V} {vs : List Nat} {te : TE} {j : Nat} {Qd : Hp → Prop} {tt : TT}
theorem rd_m0 {f : V → List V → Hp → VK → Prop} (h : ta σ H fun x H1 => wM x (f x [] H1 Q)) : tM0 f ta σ H Q := h
theorem rd_upper (h : Q (.str (Txt.upper x)) H) (c : x.length ≤ 1000) : zUpper (.str x) [] H Q := ⟨x, rfl, rfl, by omega, h⟩
theorem rd_mk (h : ∀ p, H p = none → Q (.ref p) (upd H p (TabO P w ps p))) : zMk P w ps σ H Q := h
theorem rd_tr (e : H p = some (TabO P w ps p)) (c : x.length ≤ 100000) (b : ∀ c e, ps.lookup c = some e → e < 128) (h : Q (.str ⟨((tl x).map (tr1 ps)).toArray⟩) H) : zTr P w (.str x) [.ref p] H Q := ⟨x, p, ps, rfl, rfl, e, c, b, h⟩
theorem rd_all (c : SqL K H a (bs.map V.bl)) (h : Q (.bl (bs.all id)) H) : rAll K [.ref a] H Q := ⟨a, bs, rfl, c, h⟩
theorem rd_any (c : SqL K H a (bs.map V.bl)) (h : Q (.bl (bs.any id)) H) : rAny K [.ref a] H Q := ⟨a, bs, rfl, c, h⟩
theorem rd_split (h : ∀ p, H p = none → Q (.ref p) (upd H p (.lst ((Txt.split x y).map V.str)))) (e : (y.length == 0) = false) (c : x.length ≤ 100000) : zSplit (.str x) [.str y] H Q := ⟨x, y, rfl, rfl, e, line_of (by omega), h⟩
theorem rd_parti (h : ∀ p, H p = none → Q (.ref p) (upd H p (.tup [.str (Txt.partition x y).1, .str (Txt.partition x y).2.1, .str (Txt.partition x y).2.2]))) (e : (y.length == 0) = false) (c : x.length ≤ 100000) : zPartition (.str x) [.str y] H Q := ⟨x, y, rfl, rfl, e, line_of (by omega), h⟩
theorem rd_ninS (h : Q (.bl (!(!(Builtin.Str.occurrences y x 0 y.length 1).isEmpty))) H) : zInS true (.str x) (.str y) H Q := ⟨x, y, rfl, rfl, h⟩
theorem rd_inS (h : Q (.bl (!(Builtin.Str.occurrences y x 0 y.length 1).isEmpty)) H) : zInS false (.str x) (.str y) H Q := ⟨x, y, rfl, rfl, h⟩
/-- a comprehension with draws, item by item -/
theorem lcD (Wk : WalkOf J (fun _ => True) xs) (W : Wd K st sc ns H1) (nD : H1 D = none) (hn : xs.length ≤ 100000) (G : V → V → Prop)
    (hs : ∀ x ∈ xs, ∀ H (R : VK), Wd K st sc ns H → Dr st H1 H → (∀ y H', Dr st H H' → G x y → R y H') → wipe ((wipe σ vs).set j (some x)) vs = wipe σ vs ∧ te ((wipe σ vs).set j (some x)) H R)
    (hd : ∀ H' ys, Dr st H1 H' → Wd K st sc ns H' → D ≠ st → H' D = some (.lst ys) → ys.length = xs.length → (∀ (k : Nat) x y, xs[k]? = some x → ys[k]? = some y → G x y) → Qd H') : LcJ J (gName j) tYes te vs σ H1 D Qd := by
  have nS : D ≠ st := W.1.ne nD
  refine lcJ Wk (fun i H => Dr st H1 H ∧ ∃ ys, H D = some (.lst ys) ∧ ys.length = i ∧ ∀ (k : Nat) x y, xs[k]? = some x → ys[k]? = some y → G x y) ⟨W.dr.new nD, [], upd_same, rfl, fun k x y _ h => by simp at h⟩ (fun _ _ _ _ => trivial) (fun i x H hx p => ?_) (fun H p => ?_)
  · obtain ⟨d, ys, e, el, eg⟩ := p
    have q := hs x (List.mem_of_getElem? hx) H (fun y H4 => ∃ acc, H4 D = some (.lst acc) ∧ acc.length < sizeLine ∧ (Dr st H1 (upd H4 D (.lst (acc ++ [y]))) ∧ ∃ ys, (upd H4 D (.lst (acc ++ [y]))) D = some (.lst ys) ∧ ys.length = i + 1 ∧ ∀ (k : Nat) x y, xs[k]? = some x → ys[k]? = some y → G x y)) (W.next d) d (fun y H' d' gy => by
      have e' : H' D = some (.lst ys) := d'.1 _ _ nS e
      have hi := (List.getElem?_eq_some_iff.mp hx).1
      refine ⟨ys, e', lt_line (by omega), Dr.put W.1 (d.trans d') nD, ys ++ [y], upd_same, by rw [List.length_append, el]; rfl, fun k x2 y2 hx2 hy2 => ?_⟩
      by_cases hk : k < ys.length
      · rw [List.getElem?_append_left hk] at hy2
        exact eg k x2 y2 hx2 hy2
      · have hk2 := (List.getElem?_eq_some_iff.mp hy2).1
        rw [List.length_append] at hk2
        have hk3 : k < ys.length + 1 := hk2
        have ek : k = i := by omega
        rw [ek, ← el, List.getElem?_append_right (Nat.le_refl _), Nat.sub_self] at hy2
        rw [ek, hx] at hx2
        rw [← Option.some.inj hx2, ← Option.some.inj hy2]
        exact gy)
    exact ⟨q.1, q.2⟩
  · obtain ⟨d, ys, e, el, eg⟩ := p
    exact hd H ys d (W.next d) nS e el eg
end
theorem all_id {α : Type} (l : List α) (p : α → Bool) : (l.map p).all id = l.all p := by
  induction l with
  | nil => rfl
  | cons a r ih => rw [List.map_cons, List.all_cons, List.all_cons, ih]; rfl
theorem low_map {l : List Nat} (h : ∀ c ∈ l, c < 128) : l.map (tr1 upL) = l.map lowN := List.map_congr_left fun c hc => low_eq (h c hc)
theorem low_id {l : List Nat} (h : ∀ c ∈ l, ¬ (65 ≤ c ∧ c ≤ 90)) : l.map lowN = l := by
  have e : l.map lowN = l.map id := List.map_congr_left fun c hc => low_low (h c hc)
  rw [e, List.map_id]
theorem len_dd : (Str.ofString "..").length = 2 := by rw [len_of]; rfl
theorem tl_dd : tl (Str.ofString "..") = [46, 46] := by rw [tl_ofString]; rfl
theorem tl_hy : tl (Str.ofString "-") = [45] := by rw [tl_ofString]; rfl
theorem tl_at : tl (Str.ofString "@") = [64] := by rw [tl_ofString]; rfl
theorem tl_lt : tl (Str.ofString "<") = [60] := by rw [tl_ofString]; rfl
theorem tl_gt : tl (Str.ofString ">") = [62] := by rw [tl_ofString]; rfl
theorem tl_ltgt : tl (Str.ofString "<>") = [60, 62] := by rw [tl_ofString]; rfl
theorem spl_len (s : Nat) : ∀ (l acc : List Nat), (spl [s] 0 acc l).length ≤ l.length + 1
  | [], acc => by rw [spl_nil]; exact Nat.le_refl _
  | c :: r, acc => by
    by_cases h : pre [s] (c :: r) = true
    · rw [spl_hit h, List.length_cons, List.length_cons]
      exact Nat.succ_le_succ (spl_len s r [])
    · rw [Bool.not_eq_true] at h
      rw [spl_miss h, List.length_cons]
      exact Nat.le_succ_of_le (spl_len s r _)
theorem spl_mem (s : Nat) : ∀ (l acc : List Nat), ∀ p ∈ spl [s] 0 acc l, p.length ≤ acc.length + l.length
  | [], acc, p, h => by
    rw [spl_nil] at h
    rw [List.mem_singleton.mp h]
    exact Nat.le_add_right _ _
  | c :: r, acc, p, h => by
    by_cases e : pre [s] (c :: r) = true
    · rw [spl_hit e] at h
      rcases List.mem_cons.mp h with rfl | h
      · exact Nat.le_add_right _ _
      · have q := spl_mem s r [] p h
        rw [List.length_nil, Nat.zero_add] at q
        rw [List.length_cons]
        omega
    · rw [Bool.not_eq_true] at e
      rw [spl_miss e] at h
      have q := spl_mem s r _ p h
      rw [List.length_append] at q
      rw [List.length_cons]
      have q2 : p.length ≤ acc.length + 1 + r.length := q
      omega
theorem split_dot (z : Str) : (Txt.split z (Str.ofString ".")).map tl = spl [46] 0 [] (tl z) := by
  rw [split_spl z _ (by rw [tl_dot]; exact List.cons_ne_nil _ _) (kind_ok (by decide +kernel)), tl_dot]
theorem split_at (z : Str) : (Txt.split z (Str.ofString "@")).map tl = spl [64] 0 [] (tl z) := by
  rw [split_spl z _ (by rw [tl_at]; exact List.cons_ne_nil _ _) (kind_ok (by decide +kernel)), tl_at]
/-! ### errors -/
structure ExT (K : PySem.W.Frag) (mg : Str → Option Value) (C M : Addr) : Prop where
  gC : mg "InvalidAddress" = some (.ref C)
  gM : mg "MailError" = some (.ref M)
  xC : PySem.W.excIn K C [.type "ValueError", .type "Exception", .type "BaseException", .type "object"] "ValueError.__new__" = true
  kC : PySem.W.keepIn K (.ref C) = true
  bC : PySem.W.subIn K (.ref C) (.type "BaseException") = some true
  tC : PySem.W.typeIn K (.ref C) = some (.type "type")
  sC : PySem.W.subIn K (.ref C) (.ref C) = some true
  kM : PySem.W.kitOne K (.ref C) (.ref M) = some true
  kV : PySem.W.kitOne K (.ref C) (.type "ValueError") = some true
  e : ExcC K C
theorem ExT.exm {K : PySem.W.Frag} {mg : Str → Option Value} {C M : Addr} (h : ExT K mg C M) : PySem.W.exmOne K (.ref C) (.ref C) = some true := PySem.W.exm_ref h.bC h.e.hd h.tC h.sC
theorem ok_mkX {P : Program} {w : World} {K : PySem.W.Frag} {mg : Str → Option Value} {base : Heap} {k : Nat} {x : Str} {st : Stmt} {ps N : List Str} {sp : Sp} (d : Dn K mg x st ps) (S : FnScope N ps (defScope st))
    (len : ∀ vs H Q E, sp vs H Q E → vs.length = ps.length)
    (hbody : ∀ (f : Addr) (cdv : Value) (A : Around) (outer : List Env) (s : Shared) (H : Hp) (vs : List V) (Q : VK) (E : XK), Room k (A.deeper (envOfC x (defScope st) s.heap.objs.size f cdv)) → sp vs H Q E →
      ∃ t, PSs (cxOf (L2.CX P w) P w K mg base N x (defScope st) f cdv A outer s H E) (defBody st) t ∧ t ⟨fun _ H' => Q .non H', Q, fun _ _ => False, fun _ _ => False⟩ (start N vs) H) : OkD P w K mg base (L2.CX P w) (k + 1) x ps sp := by
  obtain ⟨f, fd, m, F, b⟩ := d
  exact ⟨f, fd, m, F.kp, binds_of b, F.okX S len fun cdv A outer s H vs Q E hr h => hbody f cdv A outer s H vs Q E hr h⟩
section
variable {X : Cx} {K : PySem.W.Frag} {σ : L2.St} {H : Hp} {Q : VK} {nx bk ct : L2.St → Hp → Prop} {rt : VK} {ta : TE} {as : TA} {W : WX} {C a : Addr} {cls : Value} {d : Option Addr} {x y : Str} {i : Int} {k : Nat}
theorem pe_callDS {k : Nat} {x : Str} {ps : List Str} {sp : Sp} {t : TA} {e : Expr} {es : List Expr} {p pos : Pos} {E : L2.St → XK} (O : OkD X.prog X.w X.K X.mg X.base (L2.CX X.prog X.w) k x ps sp) (hr : Room k X.A) (hg : Gl X x) (hx : ∀ σ, PassesAt (L2.CX X.prog X.w) X σ (E σ)) (ha : PA X (e :: es) t)
    (hdb : (x == ("__debug__" : Str)) = false := by decide) (he : starEach (e :: es) X.env = (false, eval e X.env) :: starEach es X.env := by rfl) (hpl : (backTo pos (starEach es X.env)).any (·.1) = false := by rfl) :
    PE X (.Call (.Name x p) (e :: es) [] pos) (tCallS sp E t) := by
  obtain ⟨f, fd, m, kp, b, F⟩ := O
  exact pe_callS F hr hg m kp b hx ha hdb he hpl
theorem rd_callS {sp : Sp} {E : L2.St → XK} (h : as σ H fun vs H1 => sp vs H1 Q (E σ)) : tCallS sp E as σ H Q := h
def zRaise (C : Addr) (W : WX) (ta : TE) : TS := fun _ σ H => ta σ H fun _ H1 => W (.ref C) none σ H1
theorem y_raise {x : Str} {e : Expr} {p pos pos2 : Pos} (hc : X.calm = true) (tk : Takes X W) (q : PySem.W.excIn X.K C [.type "ValueError", .type "Exception", .type "BaseException", .type "object"] "ValueError.__new__" = true) (gC : X.mg x = some (.ref C)) (kC : PySem.W.keepIn X.K (.ref C) = true) (r : Raises X (.ref C)) (hg : Gl X x)
    (he : PE X e ta) (hs : starEach [e] X.env = (false, eval e X.env) :: starEach [] X.env := by rfl) (hdb : (x == ("__debug__" : Str)) = false := by decide) :
    PS X (.Raise (some (.Call (.Name x p) [e] [] pos)) none pos2) (zRaise C W ta) := ps_raise hc tk (SkE.pmk_own1 PySem.F.excBase_ValueError q gC kC r hg he hs hdb)
theorem rd_raise {D : Ends} (h : ta σ H fun _ H1 => W (.ref C) none σ H1) : zRaise C W ta D σ H := h
def zTryO (K : PySem.W.Frag) (c : Value) (tb : WX → TS) (ts : Addr → Value → Option Addr → TS) (Wout : WX) : TS := fun D σ H => tb (wOnly K c ts Wout D) D σ H
def zTryA (K : PySem.W.Frag) (c : Value) (i : Nat) (tb : WX → TS) (ts : Addr → Value → Option Addr → TS) (Wout : WX) : TS := fun D σ H => tb (wAs K c i ts Wout D) D σ H
theorem y_tryO {x : Str} {c : Value} {body suite : List Stmt} {b₀ : Stmt} {np pos pos' : Pos} {tb : WX → TS} {ts : Addr → Value → Option Addr → TS} {Wout : WX} (hs : X.stack = X.env :: X.outer) (hf : X.env.frame = some X.env.locals) (hc : Names X x c) (tk : Takes X Wout)
    (hb : ∀ (W : WX) (pn : List (Addr × Obj)) (xe : Value → Shared → Prop), Takes (X.tr pn xe) W → PassesOwn (model X.prog X.w) X.A X.env xe → PSs (X.tr pn xe) body (tb W))
    (hsu : ∀ (a : Addr) (oe : Obj) (cls : Value) (d : Option Addr) (pn : List (Addr × Obj)), Zc cls d oe → (∃ vs, oe.data = .fields vs) → PSs (X.suite a ((a, oe) :: pn)) (b₀ :: suite) (ts a cls d)) :
    PS X (.Try body [.ExceptHandler (some (.Name x np)) none (b₀ :: suite) pos'] [] [] pos) (zTryO X.K c tb ts Wout) := ps_try_only hs hf hc tk hb hsu
theorem y_tryA {x n : Str} {c : Value} {i : Nat} {body suite : List Stmt} {b₀ : Stmt} {np pos pos' : Pos} {tb : WX → TS} {ts : Addr → Value → Option Addr → TS} {Wout : WX} (hs : X.stack = X.env :: X.outer) (hf : X.env.frame = some X.env.locals) (hN : X.N.Nodup) (hi : X.N[i]? = some n) (hln : X.env.kindOf n = some .local) (hc : Names X x c) (tk : Takes X Wout)
    (hb : ∀ (W : WX) (pn : List (Addr × Obj)) (xe : Value → Shared → Prop), Takes (X.tr pn xe) W → PassesOwn (model X.prog X.w) X.A X.env xe → PSs (X.tr pn xe) body (tb W))
    (hsu : ∀ (a : Addr) (oe : Obj) (cls : Value) (d : Option Addr) (pn : List (Addr × Obj)), Zc cls d oe → (∃ vs, oe.data = .fields vs) → PSs (X.suite a ((a, oe) :: pn)) (b₀ :: suite) (ts a cls d)) :
    PS X (.Try body [.ExceptHandler (some (.Name x np)) (some n) (b₀ :: suite) pos'] [] [] pos) (zTryA X.K c i tb ts Wout) := ps_try_as hs hf hN hi hln hc tk hb hsu
theorem rd_tryO {c : Value} {tb : WX → TS} {ts : Addr → Value → Option Addr → TS} {Wout : WX} (h : tb (wOnly K c ts Wout ⟨nx, rt, bk, ct⟩) ⟨nx, rt, bk, ct⟩ σ H) : zTryO K c tb ts Wout ⟨nx, rt, bk, ct⟩ σ H := h
theorem rd_tryA {c : Value} {i : Nat} {tb : WX → TS} {ts : Addr → Value → Option Addr → TS} {Wout : WX} (h : tb (wAs K c i ts Wout ⟨nx, rt, bk, ct⟩) ⟨nx, rt, bk, ct⟩ σ H) : zTryA K c i tb ts Wout ⟨nx, rt, bk, ct⟩ σ H := h
def zIsE (K : PySem.W.Frag) (D a : Addr) (cls : Value) (d : Option Addr) : List V → Hp → VK → Prop := fun xs H Q => cls = .ref D ∧ d = Option.none ∧ rIsE K D a xs H Q
theorem y_isE {a D : Addr} {oe : Obj} {cls : Value} {d : Option Addr} {pn : List (Addr × Obj)} (C : ExcC X.K D) (hz : Zc cls d oe) (hf : ∃ vs, oe.data = .fields vs) : CallR (X.suite a ((a, oe) :: pn)) (.builtin "isinstance") (zIsE X.K D a cls d) := by
  intro pins s σ H xs us Q I r h
  obtain ⟨rfl, rfl, h⟩ := h
  exact call_isE C hz hf pins s σ H xs us Q I r h
def zSIx : V → List V → Hp → VK → Prop := fun x xs H Q => ∃ (a b : Str) (k : Nat), x = V.str a ∧ xs = [V.str b] ∧ Txt.index0 a b = some k ∧ Q (.int (k : Nat)) H
theorem y_sIx : MtR X "str.index" zSIx := by
  intro pins s σ H x xs v us Q I rx rs h
  obtain ⟨a, b, k, rfl, rfl, hk, q⟩ := h
  obtain ⟨t, rfl⟩ := rx
  obtain ⟨u1, rfl, u, rfl⟩ := Vals.one rs
  cases e : Builtin.Str.occurrences a b 0 a.length 1 with
  | nil =>
    unfold Txt.index0 at hk
    rw [e] at hk
    cases hk
  | cons j rest =>
    unfold Txt.index0 at hk
    rw [e] at hk
    cases hk
    exact PySem.SC.index e ⟨.int (k : Nat), H, I.tok _, ⟨_, rfl⟩, q⟩
theorem rd_sIx (e : Txt.index0 x y = some k) (h : Q (.int (k : Nat)) H) : zSIx (.str x) [.str y] H Q := ⟨x, y, k, rfl, rfl, e, h⟩
theorem rd_ixS {c : Nat} (e : atI (tl x) i = some c) (l : x.length ≤ 100000) (h : Q (.str ⟨#[c]⟩) H) : rIxS (.str x) (.int i) H Q := ⟨x, i, c, rfl, rfl, line_of (by omega), e, h⟩
end
theorem first_at {s : Nat} : ∀ {l : List Nat}, s ∈ l → ∃ p r, l = p ++ s :: r ∧ s ∉ p
  | [], h => nomatch h
  | c :: t, h => by
    by_cases e : c = s
    · exact ⟨[], t, by rw [e]; rfl, by simp⟩
    · have ht : s ∈ t := by
        rcases List.mem_cons.mp h with q | q
        · exact absurd q.symm e
        · exact q
      obtain ⟨p, r, e1, e2⟩ := first_at ht
      refine ⟨c :: p, r, by rw [e1]; rfl, fun m => ?_⟩
      rcases List.mem_cons.mp m with q | q
      · exact e q.symm
      · exact e2 q
theorem split_uni {s : Nat} : ∀ {p p' r r' : List Nat}, s ∉ p → s ∉ p' → p ++ s :: r = p' ++ s :: r' → p = p' ∧ r = r'
  | [], [], r, r', _, _, h => ⟨rfl, (List.cons.inj h).2⟩
  | [], c :: p', r, r', _, h2, h => absurd (by rw [(List.cons.inj h).1]; exact List.mem_cons_self) h2
  | c :: p, [], r, r', h1, _, h => absurd (by rw [← (List.cons.inj h).1]; exact List.mem_cons_self) h1
  | c :: p, c' :: p', r, r', h1, h2, h => by
    obtain ⟨e1, e2⟩ := List.cons.inj h
    obtain ⟨g1, g2⟩ := split_uni (fun m => h1 (List.mem_cons_of_mem _ m)) (fun m => h2 (List.mem_cons_of_mem _ m)) e2
    exact ⟨by rw [e1, g1], g2⟩
theorem spl_has {s c : Nat} (hc : c ≠ s) : ∀ (l acc : List Nat), c ∈ acc ∨ c ∈ l → ∃ p ∈ spl [s] 0 acc l, c ∈ p
  | [], acc, h => by
    rw [spl_nil]
    refine ⟨acc, List.mem_cons_self, ?_⟩
    rcases h with h | h
    · exact h
    · cases h
  | a :: r, acc, h => by
    by_cases e : pre [s] (a :: r) = true
    · rw [spl_hit e]
      have ea : a = s := by
        have q : [a] = [s] := eq_of_beq e
        exact (List.cons.inj q).1
      rcases h with h | h
      · exact ⟨acc, List.mem_cons_self, h⟩
      · rcases List.mem_cons.mp h with q | q
        · exact absurd (q.trans ea) hc
        · obtain ⟨p, hp, hcp⟩ := spl_has hc r [] (.inr q)
          exact ⟨p, List.mem_cons_of_mem _ hp, hcp⟩
    · rw [Bool.not_eq_true] at e
      rw [spl_miss e]
      refine spl_has hc r _ ?_
      rcases h with h | h
      · exact .inl (List.mem_append_left _ h)
      · rcases List.mem_cons.mp h with q | q
        · exact .inl (List.mem_append_right _ (by rw [q]; exact List.mem_cons_self))
        · exact .inr q
theorem dom_noat {l : List Nat} (h : DomOk l) : 64 ∉ l := fun m => by
  obtain ⟨p, hp, hc⟩ := spl_has (s := 46) (by decide : (64 : Nat) ≠ 46) l [] (.inr m)
  exact at_lab ((h.2 p hp).1.2.2 64 hc)
theorem loc_noat {l : List Nat} (h : LocalOk l) : 64 ∉ l := fun m => at_loc (h.1.2.2 64 m)
theorem dom_nil : ¬ DomOk [] := fun h => by
  have q := (h.2 [] (by rw [spl_nil]; exact List.mem_cons_self)).1.1
  exact absurd q (by decide)
def Parsed (t : List Nat) (l d : Str) : Prop := t.map (tr1 upL) = tl l ++ 64 :: tl d ∧ LocalOk (tl l) ∧ DomOk (tl d)
theorem Parsed.uni {t : List Nat} {l d l' d' : Str} (h : Parsed t l d) (g : Parsed t l' d') : l = l' ∧ d = d' := by
  obtain ⟨e1, e2⟩ := split_uni (loc_noat h.2.1) (loc_noat g.2.1) (h.1.symm.trans g.1)
  exact ⟨ext_tl e1, ext_tl e2⟩
theorem idx_k : (List.range 26).all (fun i => decide (Txt.index0 upS ⟨#[65 + i]⟩ = some i)) = true := by decide +kernel
theorem fold_cat (z : Array Nat) : ∀ (n : Nat) (acc : Array Nat), ((List.replicate n z).foldl (· ++ ·) acc).toList = acc.toList ++ (List.replicate n z.toList).flatten
  | 0, acc => by simp
  | n + 1, acc => by
    rw [List.replicate_succ, List.foldl_cons, fold_cat z n, List.replicate_succ, List.flatten_cons, Array.toList_append, List.append_assoc]
def zMulS : R2 := fun x y H Q => ∃ (z : Str) (k : Int), x = .str z ∧ y = .int k ∧ 1 ≤ k ∧ k ≤ 1000 ∧ z.length ≤ 1000 ∧ ∀ r : Str, r.length ≤ z.length * k.toNat → 1 * z.length ≤ r.length → (∀ c ∈ tl r, c ∈ tl z) → Q (.str r) H
theorem y_repS {X : Cx} : OpR X (binaryOp .Mult) zMulS := by
  intro pins s σ H x y v u Q I rx ry h
  obtain ⟨z, k, rfl, rfl, k1, k2, hz, q⟩ := h
  obtain ⟨t, rfl⟩ := rx
  obtain ⟨t', rfl⟩ := ry
  have hb : z.length * k.toNat ≤ 1000 * 1000 := Nat.mul_le_mul hz (by omega)
  refine PySem.P.mul_str (by
    rw [decide_eq_false (by omega : ¬ k < -(2 ^ 63 : Int)), decide_eq_false (by omega : ¬ k ≥ 2 ^ 63)]
    rfl) (fun _ _ => ?_) (fun _ _ => PyProof.Rows.short24 (by omega)) ?_
  · have h2 : (1000 : Int) ≤ (2 ^ 63 - 1) / k := by
      rw [Int.le_ediv_iff_mul_le (by omega)]
      omega
    omega
  · rw [if_neg (by omega)]
    by_cases e : (k == 1 || z.length == 0) = true
    · rw [if_pos e]
      refine ⟨.str z, H, I, ⟨t, rfl⟩, q z ?_ (by omega) fun c h => h⟩
      have : 1 ≤ k.toNat := by omega
      calc z.length = z.length * 1 := (Nat.mul_one _).symm
        _ ≤ z.length * k.toNat := Nat.mul_le_mul_left _ this
    · rw [if_neg e]
      have hf := fold_cat z.cps k.toNat #[]
      have hr : tl (⟨(List.replicate k.toNat z.cps).foldl (· ++ ·) #[]⟩ : Str) = (List.replicate k.toNat (tl z)).flatten := by
        show ((List.replicate k.toNat z.cps).foldl (· ++ ·) #[]).toList = _
        rw [hf]
        rfl
      have hlen : (⟨(List.replicate k.toNat z.cps).foldl (· ++ ·) #[]⟩ : Str).length = k.toNat * z.length := by
        rw [len_tl, hr, List.length_flatten, List.map_replicate, List.sum_replicate_nat, ← len_tl]
      refine ⟨?_, .str _, H, I.tok _, ⟨_, rfl⟩, q _ ?_ ?_ fun c hc => ?_⟩
      · rw [hlen, Nat.mul_comm]
        exact line_of (by omega)
      · rw [hlen, Nat.mul_comm]
        exact Nat.le_refl _
      · rw [hlen]
        exact Nat.mul_le_mul_right _ (by omega)
      · rw [hr] at hc
        obtain ⟨l, hl, hcl⟩ := List.mem_flatten.mp hc
        rw [(List.mem_replicate.mp hl).2] at hcl
        exact hcl
section
variable {σ : L2.St} {H H1 : Hp} {Q : VK} {K : PySem.W.Frag} {D : Addr} {n j : Nat} {vs : List Nat} {te : TE} {Qd : Hp → Prop} {a b : Bool} {p q : Addr} {xs zs : List V}
theorem lcRp (nD : H1 D = none) (hn : n ≤ 100000) (f : Nat → V)
    (hs : ∀ i, i < n → ∀ H (R : VK), Same H1 H → (∀ H'', Same H H'' → R (f i) H'') → wipe ((wipe σ vs).set j (some (.int (0 + (i : Nat))))) vs = wipe σ vs ∧ te ((wipe σ vs).set j (some (.int (0 + (i : Nat))))) H R)
    (hd : ∀ H', Same H1 H' → H' D = some (.lst ((List.range n).map f)) → Qd H') : LcR n (gName j) te vs σ H1 D Qd := by
  refine lc_range (Pv := fun i H => Same H1 H ∧ H D = some (.lst ((List.range i).map f))) ⟨same_new nD, by rw [upd_same]; rfl⟩ (fun i H hi p => ?_) (fun H p => hd H p.1 p.2)
  obtain ⟨sm, e⟩ := p
  have q := hs i hi H (fun y H4 => ∃ acc, H4 D = some (.lst acc) ∧ acc.length < sizeLine ∧ (Same H1 (upd H4 D (.lst (acc ++ [y]))) ∧ (upd H4 D (.lst (acc ++ [y]))) D = some (.lst ((List.range (i + 1)).map f)))) sm (fun H'' s2 => by
    refine ⟨_, s2 _ _ e, lt_line (by rw [List.length_map, List.length_range]; omega), fun b o eb => ?_, ?_⟩
    · rw [upd_ne (ne_of_none eb nD)]
      exact s2 _ _ (sm _ _ eb)
    · rw [upd_same, List.range_succ, List.map_append]
      rfl)
  exact ⟨q.1, q.2⟩
theorem rd_mulS {z : Str} {k : Int} (k1 : 1 ≤ k) (k2 : k ≤ 1000) (hz : z.length ≤ 1000) (h : ∀ r : Str, r.length ≤ z.length * k.toNat → 1 * z.length ≤ r.length → (∀ c ∈ tl r, c ∈ tl z) → Q (.str r) H) : zMulS (.str z) (.int k) H Q := ⟨z, k, rfl, rfl, k1, k2, hz, h⟩
theorem rd_catL (h1 : H p = some (.lst xs)) (h2 : H q = some (.lst zs)) (c : xs.length + zs.length ≤ 100000) (h : ∀ r, H r = none → Q (.ref r) (upd H r (.lst (xs ++ zs)))) : rCat (.ref p) (.ref q) H Q := ⟨p, q, xs, zs, rfl, rfl, h1, h2, line_of (by omega), h⟩
theorem rd_eqB (h : Q (.bl (decide (a = b))) H) : rEq (.bl a) (.bl b) H Q := ⟨rfl, by
  rw [show decide (V.bl a = V.bl b) = decide (a = b) by simp only [V.bl.injEq]]
  exact h⟩
/-- data of one text: equal -/
theorem rd_neSame {x y : V} {d : PyData} (h1 : Dp K H x d) (h2 : Dp K H y d) (s : SeqAt.shaped d = true) (r : PyData.eqv d d = true) (h : Q (.bl false) H) : rNeD K x y H Q := ⟨d, d, h1, h2, s, s, by
  rw [r]
  exact h⟩
end
theorem one_eq {c n : Nat} {s : String} (h : tl (Str.ofString s) = [n]) : ((⟨#[c]⟩ : Str) = Str.ofString s) ↔ c = n := by
  constructor
  · intro e
    have q := congrArg tl e
    rw [h] at q
    exact (List.cons.inj q).1
  · intro e
    exact ext_tl (by rw [h, e])
theorem eqv2 (l d : Str) : PyData.eqvAll [.str l, .str d] [.str l, .str d] = true := by simp [PyData.eqvAll, PyData.eqv]
theorem shaped2 {l d : Str} (al : Asc l) (ad : Asc d) : SeqAt.shaped (.tuple [.str l, .str d]) = true := by
  refine shaped_strs (xs := [l, d]) fun x hx => ?_
  simp only [List.mem_cons, List.not_mem_nil, or_false] at hx
  rcases hx with rfl | rfl
  · exact al
  · exact ad
theorem up_iff {c : Nat} : c ∈ tl upS ↔ 65 ≤ c ∧ c ≤ 90 := by
  rw [tl_up, List.mem_map]
  constructor
  · rintro ⟨a, ha, rfl⟩
    have := List.mem_range.mp ha
    omega
  · intro h
    exact ⟨c - 65, List.mem_range.mpr (by omega), by omega⟩
theorem up_idx {c : Nat} (h : 65 ≤ c ∧ c ≤ 90) : Txt.index0 upS ⟨#[c]⟩ = some (c - 65) := by
  have q := of_decide_eq_true (List.all_eq_true.mp idx_k (c - 65) (List.mem_range.mpr (by omega)))
  rw [show 65 + (c - 65) = c by omega] at q
  exact q
theorem lo_at {c : Nat} (h : 65 ≤ c ∧ c ≤ 90) : atI (tl loS) ((c - 65 : Nat) : Int) = some (lowN c) := by
  refine atI_nat ?_
  rw [tl_lo, List.getElem?_map, List.getElem?_range (by omega)]
  show some (c - 65 + 97) = some (lowN c)
  rw [show lowN c = c + 32 from if_pos h]
  congr 1
  omega
theorem len_lo : loS.length = 26 := by rw [len_tl, tl_lo]; rfl
theorem asc_low {l : List Nat} (h : ∀ c ∈ l, c < 128) : ∀ c ∈ l.map lowN, c < 128 := fun c hc => by
  obtain ⟨a, ha, rfl⟩ := List.mem_map.mp hc
  have := h a ha
  unfold lowN
  by_cases q : 65 ≤ a ∧ a ≤ 90
  · rw [if_pos q]
    omega
  · rw [if_neg q]
    exact this
theorem flat_ones (f : Nat → Nat) : ∀ l : List Nat, ((l.map fun c => (⟨#[f c]⟩ : Str)).map tl).flatten = l.map f
  | [] => rfl
  | c :: l => by
    show f c :: ((l.map fun c => (⟨#[f c]⟩ : Str)).map tl).flatten = f c :: l.map f
    rw [flat_ones f l]
/-! ### values at any depth: none, truth values, ints, texts, tuples (all of them immutable: what is denoted stays) -/
mutual
inductive Va (H : Hp) : V → PyData → Prop
  | non : Va H .non .none
  | bl (b : Bool) : Va H (.bl b) (.bool b)
  | int (i : Int) : Va H (.int i) (.int i)
  | str (x : Str) : Va H (.str x) (.str x)
  | tup {a : Addr} {xs : List V} {ds : List PyData} : Tk H a xs → VaL H xs ds → Va H (.ref a) (.tuple ds)
inductive VaL (H : Hp) : List V → List PyData → Prop
  | nil : VaL H [] []
  | cons {v : V} {vs : List V} {d : PyData} {ds : List PyData} : Va H v d → VaL H vs ds → VaL H (v :: vs) (d :: ds)
end
section
variable {K : PySem.W.Frag} {st : Addr} {H H1 : Hp}
mutual
theorem Va.mono (k : ∀ a xs, Tk H a xs → Tk H1 a xs) : ∀ {v : V} {d : PyData}, Va H v d → Va H1 v d
  | _, _, .non => .non
  | _, _, .bl b => .bl b
  | _, _, .int i => .int i
  | _, _, .str x => .str x
  | _, _, .tup t r => .tup (k _ _ t) (VaL.mono k r)
theorem VaL.mono (k : ∀ a xs, Tk H a xs → Tk H1 a xs) : ∀ {vs : List V} {ds : List PyData}, VaL H vs ds → VaL H1 vs ds
  | _, _, .nil => .nil
  | _, _, .cons a r => .cons (Va.mono k a) (VaL.mono k r)
end
theorem Va.same {v : V} {d : PyData} (h : Va H v d) (s : Same H H1) : Va H1 v d := h.mono fun _ _ t => t.same s
theorem VaL.same {v : List V} {d : List PyData} (h : VaL H v d) (s : Same H H1) : VaL H1 v d := h.mono fun _ _ t => t.same s
theorem Va.next {v : V} {d : PyData} (h : Va H v d) (s : Stt H st) (r : Dr st H H1) : Va H1 v d := h.mono fun _ _ t => t.next s r
theorem VaL.next {v : List V} {d : List PyData} (h : VaL H v d) (s : Stt H st) (r : Dr st H H1) : VaL H1 v d := h.mono fun _ _ t => t.next s r
mutual
theorem Va.dp : ∀ {v : V} {d : PyData}, Va H v d → Dp K H v d
  | _, _, .non => .non
  | _, _, .bl b => .bl b
  | _, _, .int i => .int i
  | _, _, .str x => .str x
  | _, _, .tup t r => .tup t.seq (VaL.dp r)
theorem VaL.dp : ∀ {vs : List V} {ds : List PyData}, VaL H vs ds → DpAll K H vs ds
  | _, _, .nil => .nil
  | _, _, .cons a r => .cons (Va.dp a) (VaL.dp r)
end
theorem VaL.length : ∀ {vs : List V} {ds : List PyData}, VaL H vs ds → vs.length = ds.length
  | _, _, .nil => rfl
  | _, _, .cons _ r => by rw [List.length_cons, List.length_cons, VaL.length r]
theorem VaL.get : ∀ {vs : List V} {ds : List PyData} {i : Nat} {v : V}, VaL H vs ds → vs[i]? = some v → ∃ d, ds[i]? = some d ∧ Va H v d
  | _, _, i, v, .nil, e => by simp at e
  | _, _, 0, v, .cons (d := d) a _, e => by
    obtain rfl := Option.some.inj e
    exact ⟨d, rfl, a⟩
  | _, _, i + 1, v, .cons _ r, e => VaL.get (i := i) r e
theorem VaL.snoc : ∀ {vs : List V} {ds : List PyData} {v : V} {d : PyData}, VaL H vs ds → Va H v d → VaL H (vs ++ [v]) (ds ++ [d])
  | _, _, _, _, .nil, a => .cons a .nil
  | _, _, _, _, .cons b r, a => .cons b (VaL.snoc r a)
theorem Va.inv {v : V} {d : PyData} (h : Va H v d) : (v = .non ∧ d = .none) ∨ (∃ b, v = .bl b ∧ d = .bool b) ∨ (∃ i, v = .int i ∧ d = .int i) ∨ (∃ x, v = .str x ∧ d = .str x) ∨
    ∃ a xs ds, v = .ref a ∧ d = .tuple ds ∧ Tk H a xs ∧ VaL H xs ds := by
  cases h with
  | non => exact .inl ⟨rfl, rfl⟩
  | bl b => exact .inr (.inl ⟨b, rfl, rfl⟩)
  | int i => exact .inr (.inr (.inl ⟨i, rfl, rfl⟩))
  | str x => exact .inr (.inr (.inr (.inl ⟨x, rfl, rfl⟩)))
  | tup t r => exact .inr (.inr (.inr (.inr ⟨_, _, _, rfl, rfl, t, r⟩)))
end
/-! ### records -/
/-- a count in groups of seven bits -/
def cnt (n : Nat) : List Int := if h : n < 128 then [(n : Int)] else (128 + (n % 128 : Nat) : Int) :: cnt (n / 128)
termination_by n
decreasing_by omega
theorem cnt_lt {n : Nat} (h : n < 128) : cnt n = [(n : Int)] := by
  rw [cnt, dif_pos h]
theorem cnt_ge {n : Nat} (h : 128 ≤ n) : cnt n = (128 + (n % 128 : Nat) : Int) :: cnt (n / 128) := by
  rw [cnt, dif_neg (by omega)]
theorem cnt_pos (n : Nat) : 1 ≤ (cnt n).length := by
  by_cases h : n < 128
  · rw [cnt_lt h]
    exact Nat.le_refl 1
  · rw [cnt_ge (by omega)]
    simp
theorem cnt_len : ∀ (k n : Nat), n < 128 ^ (k + 1) → (cnt n).length ≤ k + 1
  | 0, n, h => by
    rw [cnt_lt (by simpa using h)]
    exact Nat.le_refl 1
  | k + 1, n, h => by
    by_cases c : n < 128
    · rw [cnt_lt c]
      simp
    · rw [cnt_ge (by omega), List.length_cons]
      have q : n / 128 < 128 ^ (k + 1) := by
        rw [Nat.div_lt_iff_lt_mul (by decide)]
        rw [Nat.pow_succ] at h
        exact h
      have := cnt_len k (n / 128) q
      omega
theorem cnt_byte (n : Nat) : ∀ b ∈ cnt n, 0 ≤ b ∧ b < 256 := by
  induction n using Nat.strongRecOn with
  | ind n ih =>
    intro b hb
    by_cases c : n < 128
    · rw [cnt_lt c] at hb
      obtain rfl := List.mem_singleton.mp hb
      omega
    · rw [cnt_ge (by omega)] at hb
      rcases List.mem_cons.mp hb with rfl | hb
      · omega
      · exact ih (n / 128) (by omega) b hb
/-- the signs of a text, as bytes -/
def sgn (x : Str) : List Int := x.cps.toList.map fun c : Nat => (c : Int)
mutual
def rcd : PyData → List Int
  | .none => [0]
  | .bool b => [if b then 2 else 1]
  | .int i => if 0 ≤ i then 3 :: cnt i.toNat else 4 :: cnt (-i - 1).toNat
  | .str x => 5 :: (cnt x.length ++ sgn x)
  | .tuple ds => 6 :: (cnt ds.length ++ rcdL ds)
  | .list _ => []
  | .dict _ => []
def rcdL : List PyData → List Int
  | [] => []
  | d :: ds => rcd d ++ rcdL ds
end
theorem rcdL_snoc : ∀ (ds : List PyData) (d : PyData), rcdL (ds ++ [d]) = rcdL ds ++ rcd d
  | [], d => by simp [rcdL]
  | e :: ds, d => by
    rw [List.cons_append, rcdL, rcdL, rcdL_snoc ds d, List.append_assoc]
/-- a sign that may stand in a text -/
def okSign (n : Nat) : Prop := 32 ≤ n ∧ n ≤ 126 ∧ n ≠ 37
mutual
/-- a value of the document, with small texts and ints -/
def OkV : PyData → Prop
  | .none => True
  | .bool _ => True
  | .int i => i.natAbs < 2 ^ 100
  | .str x => x.length ≤ 1000 ∧ ∀ c ∈ x.cps.toList, okSign c
  | .tuple ds => ds.length ≤ 1000 ∧ OkL ds
  | .list _ => False
  | .dict _ => False
def OkL : List PyData → Prop
  | [] => True
  | d :: ds => OkV d ∧ OkL ds
end
theorem OkL.snoc : ∀ {ds : List PyData} {d : PyData}, OkL ds → OkV d → OkL (ds ++ [d])
  | [], d, _, h => by
    show OkL [d]
    unfold OkL OkL
    exact ⟨h, trivial⟩
  | e :: ds, d, h, k => by
    unfold OkL at h
    show OkL (e :: (ds ++ [d]))
    unfold OkL
    exact ⟨h.1, OkL.snoc h.2 k⟩
theorem depthAll_snoc : ∀ (ds : List PyData) (d : PyData), PyData.depthAll (ds ++ [d]) = max (PyData.depthAll ds) d.depth
  | [], d => by simp [PyData.depthAll]
  | e :: ds, d => by
    rw [List.cons_append, PyData.depthAll, PyData.depthAll, depthAll_snoc ds d]
    omega
/-! ### a method of a class of the program's own -/
def Mn (K : PySem.W.Frag) (C : Addr) (m q : Str) (st : Stmt) (ps : List Str) : Prop := ∃ f fd, Meth K C m f ∧ Fun K m q st f fd ∧ ∀ (s : Shared) (us : List Value), us.length = ps.length → BindsTo s fd ⟨us, []⟩ (ps.zip us)
def OkM (P : Program) (w : World) (K : PySem.W.Frag) (mg : Str → Option Value) (base : Heap) (CX : CXT) (k : Nat) (C : Addr) (m : Str) (ps : List Str) (sp : Sp) : Prop :=
  ∃ f fd, Meth K C m f ∧ Binds K fd ps [] ∧ FnOk P w K mg base CX k f fd ps sp
structure Cs (K : PySem.W.Frag) (mg : Str → Option Value) (x : Str) (C : Addr) : Prop where
  cl : Cls K C
  g : mg x = some (.ref C)
  made : PySem.W.makesIn K C = true
  kp : PySem.W.keepIn K (.ref C) = true
theorem cs_mk {K : PySem.W.Frag} {h : Heap} {mg : Str → Option Value} {x : Str} {C : Addr} (X : K.In h) (G : h.Ns mainGlobals mg) (a : PySem.W.nsIn K mainGlobals x = some (some (.ref C)))
    (pg : PySem.W.plainGet K C Str.empty = true) (hd : PySem.W.hasDictIn K C = true) (po : PySem.W.plainOver K C = true) (sa : PySem.W.findIn K (.ref C) "__setattr__" = some (some (.builtin "object.__setattr__"))) (mk : PySem.W.makesIn K C = true) (kc : PySem.W.keepIn K (.ref C) = true) : Cs K mg x C :=
  ⟨⟨pg, hd, po, sa⟩, PySem.W.mg_of X G a, mk, kc⟩
theorem mn_mk {K : PySem.W.Frag} {C : Addr} {m q : Str} {st : Stmt} {ps : List Str} {f : Addr} {oc kV doc pm cdv ct : Value} {od an : Option Addr} {osl : Array (Option Value)}
    (a : PySem.W.findIn K (.ref C) m = some (some (.ref f))) (i : PySem.W.isFn K (.ref f) = true) (l : K.lookup f = some ⟨oc, od, .func (PySem.W.fnOf m q (defArgs st) (defBody st) (defScope st) .none kV doc pm an cdv ct), osl⟩)
    (c : PySem.W.codeIn K cdv q = true) (k : PySem.W.keepIn K (.ref f) = true)
    (b : ∀ (kV doc pm : Value) (an : Option Addr) (cdv ct : Value) (us : List Value), us.length = ps.length → bindArgs (PySem.W.fnOf m q (defArgs st) (defBody st) (defScope st) .none kV doc pm an cdv ct) ⟨us, []⟩ = pure (ps.zip us)) : Mn K C m q st ps :=
  ⟨f, _, ⟨a, i, k⟩, fun_mk l c k, fun s us hl => .of_eq (b kV doc pm an cdv ct us hl)⟩
section
variable {P : Program} {w : World} {K : PySem.W.Frag} {mg : Str → Option Value} {base : Heap} {k : Nat} {C : Addr} {m q : Str} {st : Stmt} {ps N : List Str} {sp : Sp}
theorem ok_mkM (d : Mn K C m q st ps) (S : FnScope N ps (defScope st)) (len : ∀ vs H Q E, sp vs H Q E → vs.length = ps.length)
    (hbody : ∀ (f : Addr) (cdv : Value) (A : Around) (outer : List Env) (s : Shared) (H : Hp) (vs : List V) (Q : VK) (E : XK), Room k (A.deeper (envOfC q (defScope st) s.heap.objs.size f cdv)) → sp vs H Q E →
      ∃ t, PSs (cxOf CX0 P w K mg base N q (defScope st) f cdv A outer s H E).nox (defBody st) t ∧ t ⟨fun _ H' => Q .non H', Q, fun _ _ => False, fun _ _ => False⟩ (start N vs) H) : OkM P w K mg base CX0 (k + 1) C m ps sp := by
  obtain ⟨f, fd, M, F, b⟩ := d
  exact ⟨f, fd, M, binds_of b, F.ok S len fun cdv A outer s H vs Q E hr h => hbody f cdv A outer s H vs Q E hr h⟩
theorem ok_mkMX (d : Mn K C m q st ps) (S : FnScope N ps (defScope st)) (len : ∀ vs H Q E, sp vs H Q E → vs.length = ps.length)
    (hbody : ∀ (f : Addr) (cdv : Value) (A : Around) (outer : List Env) (s : Shared) (H : Hp) (vs : List V) (Q : VK) (E : XK), Room k (A.deeper (envOfC q (defScope st) s.heap.objs.size f cdv)) → sp vs H Q E →
      ∃ t, PSs (cxOf (L2.CX P w) P w K mg base N q (defScope st) f cdv A outer s H E) (defBody st) t ∧ t ⟨fun _ H' => Q .non H', Q, fun _ _ => False, fun _ _ => False⟩ (start N vs) H) : OkM P w K mg base (L2.CX P w) (k + 1) C m ps sp := by
  obtain ⟨f, fd, M, F, b⟩ := d
  exact ⟨f, fd, M, binds_of b, F.okX S len fun cdv A outer s H vs Q E hr h => hbody f cdv A outer s H vs Q E hr h⟩
end
section
variable {X : Cx} {C : Addr} {k : Nat} {m x : Str} {ps : List Str} {sp : Sp} {ta : TE} {t : TA} {o e : Expr} {es : List Expr} {p pos apos : Pos} {E : XK} {E' : L2.St → XK}
theorem pe_methD {pl : Sem Bool} {CX : CXT} (c : Cls X.K C) (O : OkM X.prog X.w X.K X.mg X.base CX k C m ps sp) (hr : Room k X.A) (hx : Passes CX X E) (he : PE X o ta) (ha : PA X (e :: es) t)
    (hst : starEach (e :: es) X.env = (false, eval e X.env) :: starEach es X.env := by rfl) (hpl : (backTo pos (starEach es X.env)).any (·.1) = false := by rfl)
    (ht : eval (.Call (.Attribute o m apos) (e :: es) [] pos) X.env = (do
      let ov ← eval o X.env; standAt apos.atName
      let (f, first) ← holding [ov] (getMethod ov m pl); callWith pos f first (backTo pos (starEach (e :: es) X.env)) (backToKw pos (keywordEach [] X.env))) := by rfl) :
    PE X (.Call (.Attribute o m apos) (e :: es) [] pos) (tMeth C m sp [] E ta t) := by
  obtain ⟨f, fd, M, b, F⟩ := O
  exact pe_meth he c M F hr b .nil hx ha hst hpl ht
theorem pe_methD0 {pl : Sem Bool} {CX : CXT} (c : Cls X.K C) (O : OkM X.prog X.w X.K X.mg X.base CX k C m ps sp) (hr : Room k X.A) (hx : Passes CX X E) (he : PE X o ta)
    (ht : eval (.Call (.Attribute o m apos) [] [] pos) X.env = (do
      let ov ← eval o X.env; standAt apos.atName
      let (f, first) ← holding [ov] (getMethod ov m pl); callWith pos f first (backTo pos (starEach [] X.env)) (backToKw pos (keywordEach [] X.env))) := by rfl) :
    PE X (.Call (.Attribute o m apos) [] [] pos) (tMeth C m sp [] E ta tNil) := by
  obtain ⟨f, fd, M, b, F⟩ := O
  exact pe_meth0 he c M F hr b .nil hx ht
theorem pe_makeC (c : Cs X.K X.mg x C) (O : OkM X.prog X.w X.K X.mg X.base CX0 k C "__init__" ps sp) (hr : Room (k + 1) X.A) (hg : Gl X x) (hx : Passes CX0 X E) (ha : PA X (e :: es) t)
    (hdb : (x == ("__debug__" : Str)) = false := by decide) (he : starEach (e :: es) X.env = (false, eval e X.env) :: starEach es X.env := by rfl) (hpl : (backTo pos (starEach es X.env)).any (·.1) = false := by rfl) :
    PE X (.Call (.Name x p) (e :: es) [] pos) (tMake C sp [] E t) := by
  obtain ⟨f, fd, M, b, F⟩ := O
  exact pe_make ⟨c.made, M.at_, M.fn, c.kp⟩ F hr hg c.g b .nil hx ha hdb he hpl
theorem pe_makeC0 (c : Cs X.K X.mg x C) (O : OkM X.prog X.w X.K X.mg X.base CX0 k C "__init__" ps sp) (hr : Room (k + 1) X.A) (hg : Gl X x) (hx : Passes CX0 X E)
    (hdb : (x == ("__debug__" : Str)) = false := by decide) :
    PE X (.Call (.Name x p) [] [] pos) (tMake C sp [] E tNil) := by
  obtain ⟨f, fd, M, b, F⟩ := O
  exact pe_make0 ⟨c.made, M.at_, M.fn, c.kp⟩ F hr hg c.g b .nil hx hdb
/-- the same where what is raised may depend on the slots -/
def zMethS (C : Addr) (m : Str) (sp : Sp) (E' : L2.St → XK) (ta : TE) (t : TA) : TE := fun σ H Q => ta σ H fun x H1 => ∃ a dx fs, x = .ref a ∧ H1 a = some (.ins C dx fs) ∧ fs.lookup m = none ∧ t σ H1 fun vs H2 => sp (x :: vs) H2 Q (E' σ)
theorem pe_methDS {pl : Sem Bool} (c : Cls X.K C) (O : OkM X.prog X.w X.K X.mg X.base (L2.CX X.prog X.w) k C m ps sp) (hr : Room k X.A) (hx : ∀ σ, PassesAt (L2.CX X.prog X.w) X σ (E' σ)) (he : PE X o ta) (ha : PA X (e :: es) t)
    (hst : starEach (e :: es) X.env = (false, eval e X.env) :: starEach es X.env := by rfl) (hpl : (backTo pos (starEach es X.env)).any (·.1) = false := by rfl)
    (ht : eval (.Call (.Attribute o m apos) (e :: es) [] pos) X.env = (do
      let ov ← eval o X.env; standAt apos.atName
      let (f, first) ← holding [ov] (getMethod ov m pl); callWith pos f first (backTo pos (starEach (e :: es) X.env)) (backToKw pos (keywordEach [] X.env))) := by rfl) :
    PE X (.Call (.Attribute o m apos) (e :: es) [] pos) (zMethS C m sp E' ta t) := by
  obtain ⟨f, fd, M, b, F⟩ := O
  constructor
  intro pins s σ H Q I h
  have one := he.run pins s σ H _ I h
  refine PySem.W.methodCall_KW (pl := pl) (thn one ?_) ht
  rintro u s1 ⟨x, H1, I1, rx, a, dx, fs, rfl, ea, l, q⟩
  cases rx
  refine getmeth_ok I1 ea c M l ?_
  have two := ha.run pos pins s1 σ H1 _ I1 q
  refine PySem.W.callWith_K (first := [.ref a]) (h₀ := X.base) I.ok.mod.kin M.kp (thn two ?_) hst hpl
  rintro us s2 ⟨vs, H2, I2, r, q2⟩
  exact ⟨I2.kIn, run_fnS (us := .ref a :: us) (vs := .ref a :: vs) F hr b (hx σ) I2 (.cons rfl r) q2⟩
end
def zStrI : List V → Hp → VK → Prop := fun xs H Q => ∃ i, xs = [V.int i] ∧ i.natAbs.log2 < 1920 ∧ Q (.str (toString i)) H
def zListOf (K : PySem.W.Frag) : List V → Hp → VK → Prop := fun xs H Q => ∃ p ys, xs = [V.ref p] ∧ (SqL K H p ys ∨ SqT K H p ys) ∧ ∀ l, H l = none → Q (.ref l) (upd H l (.lst ys))
def zFind : V → List V → Hp → VK → Prop := fun x xs H Q => ∃ a b, x = V.str a ∧ xs = [V.str b] ∧ Q (.int (Txt.find a b)) H
section
variable {X : Cx} {K : PySem.W.Frag} {σ : L2.St} {H H1 : Hp} {Q : VK} {i : Int} {a : Addr} {ys : List V} {x y : Str} {n j : Nat} {st sc D : Addr} {ns : List Int} {g : TG} {te : TE} {vs : List Nat} {Qd : Hp → Prop}
theorem y_strI : CallR X (.type "str") zStrI := call_str_int
theorem y_listOf : CallR X (.type "list") (zListOf X.K) := call_list_of
theorem y_find : MtR X "str.find" zFind := mt_find
theorem rd_strI (h0 : 0 ≤ i) (h1 : i < 1000) (h : Q (.str (toString i)) H) : zStrI [.int i] H Q := ⟨i, rfl, Nat.lt_of_le_of_lt (Nat.log2_le_self _) (by omega), h⟩
theorem rd_listL (c : SqL K H a ys) (h : ∀ l, H l = none → Q (.ref l) (upd H l (.lst ys))) : zListOf K [.ref a] H Q := ⟨a, ys, rfl, .inl c, h⟩
theorem rd_listT (c : SqT K H a ys) (h : ∀ l, H l = none → Q (.ref l) (upd H l (.lst ys))) : zListOf K [.ref a] H Q := ⟨a, ys, rfl, .inr c, h⟩
theorem rd_find (h : Q (.int (Txt.find x y)) H) : zFind (.str x) [.str y] H Q := ⟨x, y, rfl, rfl, h⟩
/-- a comprehension over range(n) with draws: what holds of the item at each place -/
theorem lcRj (G : Nat → Hp → V → Prop) (mono : ∀ i H H' y, Dr st H H' → Stt H st → G i H y → G i H' y) (W : Wd K st sc ns H1) (nD : H1 D = none) (hn : n ≤ 100000)
    (hs : ∀ (i : Nat) H (R : VK), i < n → Wd K st sc ns H → Dr st H1 H → (∃ zs, H D = some (.lst zs)) → (∀ y H', Dr st H H' → G i H' y → R y H') → g (.int (0 + (i : Nat))) (wipe σ vs) H fun σ2 H2 => wipe σ2 vs = wipe σ vs ∧ te σ2 H2 R)
    (hd : ∀ H' ys, Dr st H1 H' → Wd K st sc ns H' → D ≠ st → H' D = some (.lst ys) → ys.length = n → (∀ i y, ys[i]? = some y → G i H' y) → Qd H') (put : ∀ i H y zs, H1 D = none → H D = some (.lst zs) → G i H y → ∀ o, G i (upd H D o) y) : LcR n g te vs σ H1 D Qd := by
  have nS : D ≠ st := W.1.ne nD
  refine lc_range (Pv := fun i H => Dr st H1 H ∧ ∃ ys, H D = some (.lst ys) ∧ ys.length = i ∧ ∀ k y, ys[k]? = some y → G k H y) ?_ (fun i H hi hP => ?_) (fun H hP => ?_)
  · exact ⟨W.dr.new nD, [], upd_same, rfl, fun k y h => by simp at h⟩
  · obtain ⟨d, ys, e, el, eg⟩ := hP
    have q := hs i H (fun y H4 => ∃ acc, H4 D = some (.lst acc) ∧ acc.length < sizeLine ∧ (Dr st H1 (upd H4 D (.lst (acc ++ [y]))) ∧ ∃ ys, (upd H4 D (.lst (acc ++ [y]))) D = some (.lst ys) ∧ ys.length = i + 1 ∧ ∀ k z, ys[k]? = some z → G k (upd H4 D (.lst (acc ++ [y]))) z)) hi (W.next d) d ⟨_, e⟩ (fun y H' d' gy => by
      have e' : H' D = some (.lst ys) := d'.1 _ _ nS e
      refine ⟨ys, e', lt_line (by omega), Dr.put W.1 (d.trans d') nD, ys ++ [y], upd_same, by rw [List.length_append, el]; rfl, fun k z hz => ?_⟩
      by_cases hk : k < ys.length
      · rw [List.getElem?_append_left hk] at hz
        exact put k H' z ys nD e' (mono k H H' z d' d.2 (eg k z hz)) _
      · have h2 := (List.getElem?_eq_some_iff.mp hz).1
        rw [List.length_append] at h2
        have h3 : k < ys.length + 1 := h2
        have ek : k = i := by omega
        rw [ek, ← el, List.getElem?_append_right (Nat.le_refl _), Nat.sub_self] at hz
        rw [ek, ← Option.some.inj hz]
        exact put i H' y ys nD e' gy _)
    exact q
  · obtain ⟨d, ys, e, el, eg⟩ := hP
    exact hd H ys d (W.next d) nS e el eg
theorem lcRi (G : Nat → Hp → V → Prop) (mono : ∀ i H H' y, Dr st H H' → Stt H st → G i H y → G i H' y) (W : Wd K st sc ns H1) (nD : H1 D = none) (hn : n ≤ 100000)
    (hs : ∀ (i : Nat) H (R : VK), i < n → Wd K st sc ns H → Dr st H1 H → (∀ y H', Dr st H H' → G i H' y → R y H') → g (.int (0 + (i : Nat))) (wipe σ vs) H fun σ2 H2 => wipe σ2 vs = wipe σ vs ∧ te σ2 H2 R)
    (hd : ∀ H' ys, Dr st H1 H' → Wd K st sc ns H' → D ≠ st → H' D = some (.lst ys) → ys.length = n → (∀ i y, ys[i]? = some y → G i H' y) → Qd H') (put : ∀ i H y zs, H1 D = none → H D = some (.lst zs) → G i H y → ∀ o, G i (upd H D o) y) : LcR n g te vs σ H1 D Qd :=
  lcRj G mono W nD hn (fun i H R hi w d _ r => hs i H R hi w d r) hd put
end
section
variable {σ : L2.St} {H1 : Hp} {te : TE} {vs : List Nat} {j : Nat} {D : Addr} {xs : List V} {J : It} {Rl : Hp → Prop} {Qd : Hp → Prop}
/-- a comprehension that only reads: the item at each place -/
theorem lcSi (Wk : WalkOf J Rl xs) (hR : ∀ H, Same H1 H → Rl H) (nD : H1 D = none) (hn : xs.length ≤ 1000000) (F : Nat → V)
    (hs : ∀ i x, xs[i]? = some x → ∀ H (R : VK), Same H1 H → (∀ H'', Same H H'' → R (F i) H'') → wipe ((wipe σ vs).set j (some x)) vs = wipe σ vs ∧ te ((wipe σ vs).set j (some x)) H R)
    (hd : ∀ H', Same H1 H' → H' D = some (.lst ((List.range xs.length).map F)) → Qd H') : LcJ J (gName j) tYes te vs σ H1 D Qd := by
  refine lcJ Wk (fun i H => Same H1 H ∧ H D = some (.lst ((List.range i).map F))) ⟨same_new nD, by rw [upd_same]; rfl⟩ (fun i H _ p => hR H p.1) (fun i x H hx p => ?_) (fun H p => hd H p.1 p.2)
  obtain ⟨sm, e⟩ := p
  have hi := (List.getElem?_eq_some_iff.mp hx).1
  have q := hs i x hx H (fun y H4 => ∃ acc, H4 D = some (.lst acc) ∧ acc.length < sizeLine ∧ (Same H1 (upd H4 D (.lst (acc ++ [y]))) ∧ (upd H4 D (.lst (acc ++ [y]))) D = some (.lst ((List.range (i + 1)).map F)))) sm (fun H'' s2 => by
    refine ⟨_, s2 _ _ e, lt_line (by rw [List.length_map, List.length_range]; omega), fun b o eb => ?_, ?_⟩
    · rw [upd_ne (ne_of_none eb nD)]
      exact s2 _ _ (sm _ _ eb)
    · rw [upd_same, List.range_succ, List.map_append]
      rfl)
  exact ⟨q.1, q.2⟩
end
theorem range_get {α β : Type} (l : List α) (f : α → β) (F : Nat → β) (h : ∀ i a, l[i]? = some a → F i = f a) : (List.range l.length).map F = l.map f := by
  refine List.ext_getElem (by simp) fun i h1 h2 => ?_
  rw [List.getElem_map, List.getElem_range, List.getElem_map]
  exact h i _ (List.getElem?_eq_getElem _)
theorem Tk.put {H : Hp} {p l : Addr} {xs zs : List V} {o : HO} (t : Tk H p xs) (e : H l = some (.lst zs)) : Tk (upd H l o) p xs := by
  obtain ⟨b, h, q⟩ := t
  refine ⟨b, h, ?_⟩
  rw [upd_ne fun z => ?_]
  · exact q
  · rw [z, e] at q
    cases q
theorem rd_wLsG {xs : List V} {H : Hp} {Q : VK} (c : xs.length ≤ 1000) (h : ∀ (p : Addr) (H' : Hp), H p = none → Same H H' → H' p = some (.lst xs) → Q (.ref p) H') : wLs xs H Q := ⟨line_of (by omega), fun p n => h p _ n (same_new n) upd_same⟩
def zMin2 : List V → Hp → VK → Prop := fun xs H Q => ∃ i j, xs = [V.int i, V.int j] ∧ Q (.int (if j < i then j else i)) H
theorem y_min2 {X : Cx} (hc : X.calm = true) : CallR X (.builtin "min") zMin2 := call_min2 hc
def zMax2 : List V → Hp → VK → Prop := fun xs H Q => ∃ i j, xs = [V.int i, V.int j] ∧ Q (.int (if j > i then j else i)) H
theorem y_max2 {X : Cx} (hc : X.calm = true) : CallR X (.builtin "max") zMax2 := call_max2 hc
theorem rd_max2 {H : Hp} {Q : VK} {i j : Int} (h : Q (.int (if j > i then j else i)) H) : zMax2 [.int i, .int j] H Q := ⟨i, j, rfl, h⟩
structure ExN (K : PySem.W.Frag) (mg : Str → Option Value) (x : Str) (C M : Addr) : Prop where
  gC : mg x = some (.ref C)
  gM : mg "MailError" = some (.ref M)
  xC : PySem.W.excIn K C [.type "ValueError", .type "Exception", .type "BaseException", .type "object"] "ValueError.__new__" = true
  kC : PySem.W.keepIn K (.ref C) = true
  bC : PySem.W.subIn K (.ref C) (.type "BaseException") = some true
  tC : PySem.W.typeIn K (.ref C) = some (.type "type")
  sC : PySem.W.subIn K (.ref C) (.ref C) = some true
  kM : PySem.W.kitOne K (.ref C) (.ref M) = some true
  e : ExcC K C
theorem ExN.exm {K : PySem.W.Frag} {mg : Str → Option Value} {x : Str} {C M : Addr} (h : ExN K mg x C M) : PySem.W.exmOne K (.ref C) (.ref C) = some true := PySem.W.exm_ref h.bC h.e.hd h.tC h.sC
theorem exn_mk {K : PySem.W.Frag} {h : Heap} {mg : Str → Option Value} {x : Str} {C M : Addr} (X : K.In h) (G : h.Ns mainGlobals mg)
    (gC : PySem.W.nsIn K mainGlobals x = some (some (.ref C))) (gM : PySem.W.nsIn K mainGlobals "MailError" = some (some (.ref M)))
    (xC : PySem.W.excIn K C [.type "ValueError", .type "Exception", .type "BaseException", .type "object"] "ValueError.__new__" = true) (kC : PySem.W.keepIn K (.ref C) = true)
    (bC : PySem.W.subIn K (.ref C) (.type "BaseException") = some true) (tC : PySem.W.typeIn K (.ref C) = some (.type "type")) (sC : PySem.W.subIn K (.ref C) (.ref C) = some true)
    (kM : PySem.W.kitOne K (.ref C) (.ref M) = some true)
    (e1 : PySem.W.findIn K (.ref C) "__getattribute__" = some (some (.builtin "BaseException.__getattribute__"))) (e2 : PySem.W.findIn K (.ref C) "__getattr__" = some none) (e4 : PySem.W.hasDictIn K C = true)
    (e5 : PySem.W.findIn K (.ref C) "__class__" = some (some (.builtin "object.__class__"))) (e6 : PySem.W.specialIn K (.builtin "object.__class__") "__get__" = some (some (.builtin "getset_descriptor.__get__")))
    (e7 : PySem.W.takesIn K (.builtin "object.__class__") = some true) (e8 : PySem.W.mroIn K C (.type "object") = some true) : ExN K mg x C M :=
  ⟨PySem.W.mg_of X G gC, PySem.W.mg_of X G gM, xC, kC, bC, tC, sC, kM, ⟨e1, e2, bC, e4, e5, e6, e7, e8⟩⟩
section
variable {σ : L2.St} {H : Hp} {Q : VK} {K : PySem.W.Frag} {to : TE} {T : String} {r : V → List V → Hp → VK → Prop} {l b : Addr} {xs zs : List V} {i j : Int} {y : V}
theorem rd_bm0 (h : to σ H fun x H1 => wTy K T x H1 (r x [] H1 Q)) : tBM0 K T r to σ H Q := h
theorem rd_clear (e : H l = some (.lst xs)) (h : Q .non (upd H l (.lst []))) : rClear (.ref l) [] H Q := ⟨l, xs, rfl, rfl, e, h⟩
theorem rd_extend (e : H l = some (.lst xs)) (g : H b = some (.lst zs)) (c : xs.length + zs.length ≤ 1000000) (h : Q .non (upd H l (.lst (xs ++ zs)))) : rExtend (.ref l) [.ref b] H Q := ⟨l, b, xs, zs, rfl, rfl, e, g, line_of (by omega), h⟩
theorem rd_appendB (e : H l = some (.lst xs)) (c : xs.length ≤ 1000000) (h : Q .non (upd H l (.lst (xs ++ [y])))) : rAppend (.ref l) [y] H Q := ⟨l, xs, y, rfl, rfl, e, lt_line (by omega), h⟩
theorem rd_min2 (h : Q (.int (if j < i then j else i)) H) : zMin2 [.int i, .int j] H Q := ⟨i, j, rfl, h⟩
theorem rd_slLto {k : Nat} (c : SqL K H l xs) (h : ∀ p, H p = none → Q (.ref p) (upd H p (.lst (xs.take k)))) : rSlL K (.ref l) none (some (k : Int)) H Q := by
  refine ⟨l, xs, rfl, c, fun p n => ?_⟩
  have e : cutV xs none (some (k : Int)) = xs.take k := by
    unfold cutV
    rw [HT.sIx_nat, HT.sIx_none, Nat.sub_zero, List.drop_zero]
    by_cases g : k ≤ xs.length
    · rw [Nat.min_eq_left g]
    · rw [Nat.min_eq_right (by omega), List.take_of_length_le (Nat.le_refl _), List.take_of_length_le (by omega)]
  rw [e]
  exact h p n
end
theorem whN {tb : TS} {nx bk ct : L2.St → Hp → Prop} {rt : VK} {σ : L2.St} {H : Hp} {W : Nat → L2.St → Hp → Prop} {m : Nat} (h : tb ⟨fun σ' H' => ∃ m', m' < m ∧ W m' σ' H', rt, nx, fun σ' H' => ∃ m', m' < m ∧ W m' σ' H'⟩ σ H) :
    ∃ N : L2.St → Hp → Prop, (∀ σ' H', N σ' H' → ∃ m', m' < m ∧ W m' σ' H') ∧ tb { (⟨nx, rt, bk, ct⟩ : Ends) with nx := N, ct := N, bk := nx } σ H := ⟨_, fun _ _ h => h, h⟩
theorem rd_shr {i j : Int} {H : Hp} {Q : VK} (h : Q (.int (i / 2 ^ j.toNat)) H) (c : 0 ≤ j) : rI (fun _ j => 0 ≤ j) (fun i j => .int (i / 2 ^ j.toNat)) (.int i) (.int j) H Q := ⟨i, j, rfl, rfl, c, h⟩
theorem rd_inI {K : PySem.W.Frag} {H : Hp} {Q : VK} {p : Addr} {i a b : Int} (c : SqT K H p [.int a, .int b]) (h : Q (.bl (decide (i = a ∨ i = b))) H) : rIn K false (.int i) (.ref p) H Q := ⟨p, _, rfl, .inr c, rfl, rfl, by
  have e : inV (.int i) [V.int a, V.int b] = decide (i = a ∨ i = b) := by
    show ((a == i) || ((b == i) || false)) = _
    by_cases h1 : i = a
    · simp [h1]
    · by_cases h2 : i = b
      · simp [h2]
      · have h1' : ¬ a = i := fun e => h1 e.symm
        have h2' : ¬ b = i := fun e => h2 e.symm
        simp [h1, h2, h1', h2']
  rw [e]
  exact h⟩
theorem if_tail {bb : Bool} {ta : TE} {g : TG} {nx bk ct : L2.St → Hp → Prop} {rt : VK} {σ : L2.St} {H : Hp} (Pre : L2.St → Hp → Prop) (tail : ∀ σ H, Pre σ H → nx σ H)
    (h : ∀ nx' : L2.St → Hp → Prop, (∀ σ H, Pre σ H → nx' σ H) → if bb = true then tAsg ta g ⟨nx', rt, bk, ct⟩ σ H else tNext ⟨nx', rt, bk, ct⟩ σ H) : if bb = true then tAsg ta g ⟨nx, rt, bk, ct⟩ σ H else tNext ⟨nx, rt, bk, ct⟩ σ H := h nx tail
/-- what stands behind a statement, once -/
theorem seq_to {t u : TS} {nx bk ct : L2.St → Hp → Prop} {rt : VK} {σ : L2.St} {H : Hp} (Pre : L2.St → Hp → Prop) (tail : ∀ σ H, Pre σ H → u ⟨nx, rt, bk, ct⟩ σ H)
    (h : ∀ nx' : L2.St → Hp → Prop, (∀ σ H, Pre σ H → nx' σ H) → t ⟨nx', rt, bk, ct⟩ σ H) : tSeq t u ⟨nx, rt, bk, ct⟩ σ H := h (u ⟨nx, rt, bk, ct⟩) tail
def wFld (K : PySem.W.Frag) (f : Str) (x : V) (H : Hp) (Q : VK) : Prop := ∃ a C dx fs v, x = .ref a ∧ H a = some (.ins C dx fs) ∧ Cls K C ∧ NoAttr K C f ∧ fs.lookup f = some v ∧ Q v H
def wSFld (K : PySem.W.Frag) (f : Str) (y : V) (x : V) (H : Hp) (R : Hp → Prop) : Prop := ∃ a C dx fs, x = .ref a ∧ H a = some (.ins C dx fs) ∧ Cls K C ∧ NoAttr K C f ∧ fs.length < 1000 ∧ R (upd H a (.ins C dx (putF f y fs)))
def wMeth (C : Addr) (m : Str) (x : V) (H : Hp) (R : Prop) : Prop := ∃ a dx fs, x = .ref a ∧ H a = some (.ins C dx fs) ∧ fs.lookup m = none ∧ R
section
variable {K : PySem.W.Frag} {σ : L2.St} {H : Hp} {Q : VK} {nx bk ct : L2.St → Hp → Prop} {rt : VK} {ta tv : TE} {t : TA} {a C dx : Addr} {fs : List (Str × V)} {f m : Str} {v y : V} {sp : Sp} {E : XK} {E' : L2.St → XK} {R : Hp → Prop} {R' : Prop}
theorem rd_fld (h : ta σ H fun x H1 => wFld K f x H1 Q) : tFld K ta f σ H Q := h
theorem rd_sfld (h : tv σ H fun y H1 => ta σ H1 fun x H2 => wSFld K f y x H2 fun H3 => nx σ H3) : sFld K ta tv f ⟨nx, rt, bk, ct⟩ σ H := h
theorem rd_wFld (e : H a = some (.ins C dx fs)) (c : Cls K C) (n : NoAttr K C f) (l : fs.lookup f = some v) (h : Q v H) : wFld K f (.ref a) H Q := ⟨a, C, dx, fs, v, rfl, e, c, n, l, h⟩
theorem rd_wSFld (e : H a = some (.ins C dx fs)) (c : Cls K C) (n : NoAttr K C f) (l : fs.length < 1000) (h : R (upd H a (.ins C dx (putF f y fs)))) : wSFld K f y (.ref a) H R := ⟨a, C, dx, fs, rfl, e, c, n, l, h⟩
theorem rd_meth (h : ta σ H fun x H1 => wMeth C m x H1 (t σ H1 fun vs H2 => sp (x :: vs) H2 Q E)) : tMeth C m sp [] E ta t σ H Q := by
  unfold tMeth
  simp only [List.append_nil]
  exact h
theorem rd_methS (h : ta σ H fun x H1 => wMeth C m x H1 (t σ H1 fun vs H2 => sp (x :: vs) H2 Q (E' σ))) : zMethS C m sp E' ta t σ H Q := h
theorem rd_wMeth (e : H a = some (.ins C dx fs)) (l : fs.lookup m = none) (h : R') : wMeth C m (.ref a) H R' := ⟨a, dx, fs, rfl, e, l, h⟩
theorem rd_make (h : t σ H fun vs H1 => ∀ x dx, H1 x = none → H1 dx = none → dx ≠ x → sp (.ref x :: vs) (upd (upd H1 dx (.own x)) x (.ins C dx [])) (fun v H2 => v = .non ∧ Q (.ref x) H2) E) : tMake C sp [] E t σ H Q := by
  unfold tMake
  simpa only [List.append_nil] using h
theorem rd_v12 {a0 a1 a2 a3 a4 a5 a6 a7 a8 a9 a10 a11} {l : L2.St} (h : Q v H) : tVar 12 (a0 :: a1 :: a2 :: a3 :: a4 :: a5 :: a6 :: a7 :: a8 :: a9 :: a10 :: a11 :: some v :: l) H Q := ⟨v, rfl, h⟩
theorem rd_n12 {a0 a1 a2 a3 a4 a5 a6 a7 a8 a9 a10 a11 b} {l : L2.St} {QG : L2.St → Hp → Prop} (h : QG (a0 :: a1 :: a2 :: a3 :: a4 :: a5 :: a6 :: a7 :: a8 :: a9 :: a10 :: a11 :: some v :: l) H) : gName 12 v (a0 :: a1 :: a2 :: a3 :: a4 :: a5 :: a6 :: a7 :: a8 :: a9 :: a10 :: a11 :: b :: l) H QG := h
theorem rd_v13 {a0 a1 a2 a3 a4 a5 a6 a7 a8 a9 a10 a11 a12} {l : L2.St} (h : Q v H) : tVar 13 (a0 :: a1 :: a2 :: a3 :: a4 :: a5 :: a6 :: a7 :: a8 :: a9 :: a10 :: a11 :: a12 :: some v :: l) H Q := ⟨v, rfl, h⟩
theorem rd_n13 {a0 a1 a2 a3 a4 a5 a6 a7 a8 a9 a10 a11 a12 b} {l : L2.St} {QG : L2.St → Hp → Prop} (h : QG (a0 :: a1 :: a2 :: a3 :: a4 :: a5 :: a6 :: a7 :: a8 :: a9 :: a10 :: a11 :: a12 :: some v :: l) H) : gName 13 v (a0 :: a1 :: a2 :: a3 :: a4 :: a5 :: a6 :: a7 :: a8 :: a9 :: a10 :: a11 :: a12 :: b :: l) H QG := h
theorem rd_v14 {a0 a1 a2 a3 a4 a5 a6 a7 a8 a9 a10 a11 a12 a13} {l : L2.St} (h : Q v H) : tVar 14 (a0 :: a1 :: a2 :: a3 :: a4 :: a5 :: a6 :: a7 :: a8 :: a9 :: a10 :: a11 :: a12 :: a13 :: some v :: l) H Q := ⟨v, rfl, h⟩
theorem rd_n14 {a0 a1 a2 a3 a4 a5 a6 a7 a8 a9 a10 a11 a12 a13 b} {l : L2.St} {QG : L2.St → Hp → Prop} (h : QG (a0 :: a1 :: a2 :: a3 :: a4 :: a5 :: a6 :: a7 :: a8 :: a9 :: a10 :: a11 :: a12 :: a13 :: some v :: l) H) : gName 14 v (a0 :: a1 :: a2 :: a3 :: a4 :: a5 :: a6 :: a7 :: a8 :: a9 :: a10 :: a11 :: a12 :: a13 :: b :: l) H QG := h
theorem rd_v15 {a0 a1 a2 a3 a4 a5 a6 a7 a8 a9 a10 a11 a12 a13 a14} {l : L2.St} (h : Q v H) : tVar 15 (a0 :: a1 :: a2 :: a3 :: a4 :: a5 :: a6 :: a7 :: a8 :: a9 :: a10 :: a11 :: a12 :: a13 :: a14 :: some v :: l) H Q := ⟨v, rfl, h⟩
theorem rd_n15 {a0 a1 a2 a3 a4 a5 a6 a7 a8 a9 a10 a11 a12 a13 a14 b} {l : L2.St} {QG : L2.St → Hp → Prop} (h : QG (a0 :: a1 :: a2 :: a3 :: a4 :: a5 :: a6 :: a7 :: a8 :: a9 :: a10 :: a11 :: a12 :: a13 :: a14 :: some v :: l) H) : gName 15 v (a0 :: a1 :: a2 :: a3 :: a4 :: a5 :: a6 :: a7 :: a8 :: a9 :: a10 :: a11 :: a12 :: a13 :: a14 :: b :: l) H QG := h
theorem rd_v16 {a0 a1 a2 a3 a4 a5 a6 a7 a8 a9 a10 a11 a12 a13 a14 a15} {l : L2.St} (h : Q v H) : tVar 16 (a0 :: a1 :: a2 :: a3 :: a4 :: a5 :: a6 :: a7 :: a8 :: a9 :: a10 :: a11 :: a12 :: a13 :: a14 :: a15 :: some v :: l) H Q := ⟨v, rfl, h⟩
theorem rd_n16 {a0 a1 a2 a3 a4 a5 a6 a7 a8 a9 a10 a11 a12 a13 a14 a15 b} {l : L2.St} {QG : L2.St → Hp → Prop} (h : QG (a0 :: a1 :: a2 :: a3 :: a4 :: a5 :: a6 :: a7 :: a8 :: a9 :: a10 :: a11 :: a12 :: a13 :: a14 :: a15 :: some v :: l) H) : gName 16 v (a0 :: a1 :: a2 :: a3 :: a4 :: a5 :: a6 :: a7 :: a8 :: a9 :: a10 :: a11 :: a12 :: a13 :: a14 :: a15 :: b :: l) H QG := h
theorem rd_v17 {a0 a1 a2 a3 a4 a5 a6 a7 a8 a9 a10 a11 a12 a13 a14 a15 a16} {l : L2.St} (h : Q v H) : tVar 17 (a0 :: a1 :: a2 :: a3 :: a4 :: a5 :: a6 :: a7 :: a8 :: a9 :: a10 :: a11 :: a12 :: a13 :: a14 :: a15 :: a16 :: some v :: l) H Q := ⟨v, rfl, h⟩
theorem rd_n17 {a0 a1 a2 a3 a4 a5 a6 a7 a8 a9 a10 a11 a12 a13 a14 a15 a16 b} {l : L2.St} {QG : L2.St → Hp → Prop} (h : QG (a0 :: a1 :: a2 :: a3 :: a4 :: a5 :: a6 :: a7 :: a8 :: a9 :: a10 :: a11 :: a12 :: a13 :: a14 :: a15 :: a16 :: some v :: l) H) : gName 17 v (a0 :: a1 :: a2 :: a3 :: a4 :: a5 :: a6 :: a7 :: a8 :: a9 :: a10 :: a11 :: a12 :: a13 :: a14 :: a15 :: a16 :: b :: l) H QG := h
theorem rd_v18 {a0 a1 a2 a3 a4 a5 a6 a7 a8 a9 a10 a11 a12 a13 a14 a15 a16 a17} {l : L2.St} (h : Q v H) : tVar 18 (a0 :: a1 :: a2 :: a3 :: a4 :: a5 :: a6 :: a7 :: a8 :: a9 :: a10 :: a11 :: a12 :: a13 :: a14 :: a15 :: a16 :: a17 :: some v :: l) H Q := ⟨v, rfl, h⟩
theorem rd_n18 {a0 a1 a2 a3 a4 a5 a6 a7 a8 a9 a10 a11 a12 a13 a14 a15 a16 a17 b} {l : L2.St} {QG : L2.St → Hp → Prop} (h : QG (a0 :: a1 :: a2 :: a3 :: a4 :: a5 :: a6 :: a7 :: a8 :: a9 :: a10 :: a11 :: a12 :: a13 :: a14 :: a15 :: a16 :: a17 :: some v :: l) H) : gName 18 v (a0 :: a1 :: a2 :: a3 :: a4 :: a5 :: a6 :: a7 :: a8 :: a9 :: a10 :: a11 :: a12 :: a13 :: a14 :: a15 :: a16 :: a17 :: b :: l) H QG := h
theorem rd_v19 {a0 a1 a2 a3 a4 a5 a6 a7 a8 a9 a10 a11 a12 a13 a14 a15 a16 a17 a18} {l : L2.St} (h : Q v H) : tVar 19 (a0 :: a1 :: a2 :: a3 :: a4 :: a5 :: a6 :: a7 :: a8 :: a9 :: a10 :: a11 :: a12 :: a13 :: a14 :: a15 :: a16 :: a17 :: a18 :: some v :: l) H Q := ⟨v, rfl, h⟩
theorem rd_n19 {a0 a1 a2 a3 a4 a5 a6 a7 a8 a9 a10 a11 a12 a13 a14 a15 a16 a17 a18 b} {l : L2.St} {QG : L2.St → Hp → Prop} (h : QG (a0 :: a1 :: a2 :: a3 :: a4 :: a5 :: a6 :: a7 :: a8 :: a9 :: a10 :: a11 :: a12 :: a13 :: a14 :: a15 :: a16 :: a17 :: a18 :: some v :: l) H) : gName 19 v (a0 :: a1 :: a2 :: a3 :: a4 :: a5 :: a6 :: a7 :: a8 :: a9 :: a10 :: a11 :: a12 :: a13 :: a14 :: a15 :: a16 :: a17 :: a18 :: b :: l) H QG := h
theorem rd_v20 {a0 a1 a2 a3 a4 a5 a6 a7 a8 a9 a10 a11 a12 a13 a14 a15 a16 a17 a18 a19} {l : L2.St} (h : Q v H) : tVar 20 (a0 :: a1 :: a2 :: a3 :: a4 :: a5 :: a6 :: a7 :: a8 :: a9 :: a10 :: a11 :: a12 :: a13 :: a14 :: a15 :: a16 :: a17 :: a18 :: a19 :: some v :: l) H Q := ⟨v, rfl, h⟩
theorem rd_n20 {a0 a1 a2 a3 a4 a5 a6 a7 a8 a9 a10 a11 a12 a13 a14 a15 a16 a17 a18 a19 b} {l : L2.St} {QG : L2.St → Hp → Prop} (h : QG (a0 :: a1 :: a2 :: a3 :: a4 :: a5 :: a6 :: a7 :: a8 :: a9 :: a10 :: a11 :: a12 :: a13 :: a14 :: a15 :: a16 :: a17 :: a18 :: a19 :: some v :: l) H) : gName 20 v (a0 :: a1 :: a2 :: a3 :: a4 :: a5 :: a6 :: a7 :: a8 :: a9 :: a10 :: a11 :: a12 :: a13 :: a14 :: a15 :: a16 :: a17 :: a18 :: a19 :: b :: l) H QG := h
theorem rd_v21 {a0 a1 a2 a3 a4 a5 a6 a7 a8 a9 a10 a11 a12 a13 a14 a15 a16 a17 a18 a19 a20} {l : L2.St} (h : Q v H) : tVar 21 (a0 :: a1 :: a2 :: a3 :: a4 :: a5 :: a6 :: a7 :: a8 :: a9 :: a10 :: a11 :: a12 :: a13 :: a14 :: a15 :: a16 :: a17 :: a18 :: a19 :: a20 :: some v :: l) H Q := ⟨v, rfl, h⟩
theorem rd_n21 {a0 a1 a2 a3 a4 a5 a6 a7 a8 a9 a10 a11 a12 a13 a14 a15 a16 a17 a18 a19 a20 b} {l : L2.St} {QG : L2.St → Hp → Prop} (h : QG (a0 :: a1 :: a2 :: a3 :: a4 :: a5 :: a6 :: a7 :: a8 :: a9 :: a10 :: a11 :: a12 :: a13 :: a14 :: a15 :: a16 :: a17 :: a18 :: a19 :: a20 :: some v :: l) H) : gName 21 v (a0 :: a1 :: a2 :: a3 :: a4 :: a5 :: a6 :: a7 :: a8 :: a9 :: a10 :: a11 :: a12 :: a13 :: a14 :: a15 :: a16 :: a17 :: a18 :: a19 :: a20 :: b :: l) H QG := h
theorem rd_v22 {a0 a1 a2 a3 a4 a5 a6 a7 a8 a9 a10 a11 a12 a13 a14 a15 a16 a17 a18 a19 a20 a21} {l : L2.St} (h : Q v H) : tVar 22 (a0 :: a1 :: a2 :: a3 :: a4 :: a5 :: a6 :: a7 :: a8 :: a9 :: a10 :: a11 :: a12 :: a13 :: a14 :: a15 :: a16 :: a17 :: a18 :: a19 :: a20 :: a21 :: some v :: l) H Q := ⟨v, rfl, h⟩
theorem rd_n22 {a0 a1 a2 a3 a4 a5 a6 a7 a8 a9 a10 a11 a12 a13 a14 a15 a16 a17 a18 a19 a20 a21 b} {l : L2.St} {QG : L2.St → Hp → Prop} (h : QG (a0 :: a1 :: a2 :: a3 :: a4 :: a5 :: a6 :: a7 :: a8 :: a9 :: a10 :: a11 :: a12 :: a13 :: a14 :: a15 :: a16 :: a17 :: a18 :: a19 :: a20 :: a21 :: some v :: l) H) : gName 22 v (a0 :: a1 :: a2 :: a3 :: a4 :: a5 :: a6 :: a7 :: a8 :: a9 :: a10 :: a11 :: a12 :: a13 :: a14 :: a15 :: a16 :: a17 :: a18 :: a19 :: a20 :: a21 :: b :: l) H QG := h
theorem rd_v23 {a0 a1 a2 a3 a4 a5 a6 a7 a8 a9 a10 a11 a12 a13 a14 a15 a16 a17 a18 a19 a20 a21 a22} {l : L2.St} (h : Q v H) : tVar 23 (a0 :: a1 :: a2 :: a3 :: a4 :: a5 :: a6 :: a7 :: a8 :: a9 :: a10 :: a11 :: a12 :: a13 :: a14 :: a15 :: a16 :: a17 :: a18 :: a19 :: a20 :: a21 :: a22 :: some v :: l) H Q := ⟨v, rfl, h⟩
theorem rd_n23 {a0 a1 a2 a3 a4 a5 a6 a7 a8 a9 a10 a11 a12 a13 a14 a15 a16 a17 a18 a19 a20 a21 a22 b} {l : L2.St} {QG : L2.St → Hp → Prop} (h : QG (a0 :: a1 :: a2 :: a3 :: a4 :: a5 :: a6 :: a7 :: a8 :: a9 :: a10 :: a11 :: a12 :: a13 :: a14 :: a15 :: a16 :: a17 :: a18 :: a19 :: a20 :: a21 :: a22 :: some v :: l) H) : gName 23 v (a0 :: a1 :: a2 :: a3 :: a4 :: a5 :: a6 :: a7 :: a8 :: a9 :: a10 :: a11 :: a12 :: a13 :: a14 :: a15 :: a16 :: a17 :: a18 :: a19 :: a20 :: a21 :: a22 :: b :: l) H QG := h
theorem rd_v24 {a0 a1 a2 a3 a4 a5 a6 a7 a8 a9 a10 a11 a12 a13 a14 a15 a16 a17 a18 a19 a20 a21 a22 a23} {l : L2.St} (h : Q v H) : tVar 24 (a0 :: a1 :: a2 :: a3 :: a4 :: a5 :: a6 :: a7 :: a8 :: a9 :: a10 :: a11 :: a12 :: a13 :: a14 :: a15 :: a16 :: a17 :: a18 :: a19 :: a20 :: a21 :: a22 :: a23 :: some v :: l) H Q := ⟨v, rfl, h⟩
theorem rd_n24 {a0 a1 a2 a3 a4 a5 a6 a7 a8 a9 a10 a11 a12 a13 a14 a15 a16 a17 a18 a19 a20 a21 a22 a23 b} {l : L2.St} {QG : L2.St → Hp → Prop} (h : QG (a0 :: a1 :: a2 :: a3 :: a4 :: a5 :: a6 :: a7 :: a8 :: a9 :: a10 :: a11 :: a12 :: a13 :: a14 :: a15 :: a16 :: a17 :: a18 :: a19 :: a20 :: a21 :: a22 :: a23 :: some v :: l) H) : gName 24 v (a0 :: a1 :: a2 :: a3 :: a4 :: a5 :: a6 :: a7 :: a8 :: a9 :: a10 :: a11 :: a12 :: a13 :: a14 :: a15 :: a16 :: a17 :: a18 :: a19 :: a20 :: a21 :: a22 :: a23 :: b :: l) H QG := h
theorem rd_v25 {a0 a1 a2 a3 a4 a5 a6 a7 a8 a9 a10 a11 a12 a13 a14 a15 a16 a17 a18 a19 a20 a21 a22 a23 a24} {l : L2.St} (h : Q v H) : tVar 25 (a0 :: a1 :: a2 :: a3 :: a4 :: a5 :: a6 :: a7 :: a8 :: a9 :: a10 :: a11 :: a12 :: a13 :: a14 :: a15 :: a16 :: a17 :: a18 :: a19 :: a20 :: a21 :: a22 :: a23 :: a24 :: some v :: l) H Q := ⟨v, rfl, h⟩
theorem rd_n25 {a0 a1 a2 a3 a4 a5 a6 a7 a8 a9 a10 a11 a12 a13 a14 a15 a16 a17 a18 a19 a20 a21 a22 a23 a24 b} {l : L2.St} {QG : L2.St → Hp → Prop} (h : QG (a0 :: a1 :: a2 :: a3 :: a4 :: a5 :: a6 :: a7 :: a8 :: a9 :: a10 :: a11 :: a12 :: a13 :: a14 :: a15 :: a16 :: a17 :: a18 :: a19 :: a20 :: a21 :: a22 :: a23 :: a24 :: some v :: l) H) : gName 25 v (a0 :: a1 :: a2 :: a3 :: a4 :: a5 :: a6 :: a7 :: a8 :: a9 :: a10 :: a11 :: a12 :: a13 :: a14 :: a15 :: a16 :: a17 :: a18 :: a19 :: a20 :: a21 :: a22 :: a23 :: a24 :: b :: l) H QG := h
theorem rd_nil0 {QA : List V → Hp → Prop} (h : QA [] H) : tNil σ H QA := h
end
/-! ### data that may be compared -/
def Sh (n : Nat) (d : PyData) : Prop := d.canLay0 = true ∧ d.depth ≤ n
theorem Sh.mono {n m : Nat} {d : PyData} (h : Sh n d) (l : n ≤ m) : Sh m d := ⟨h.1, Nat.le_trans h.2 l⟩
theorem Sh.none : Sh 0 .none := ⟨by simp [PyData.canLay0], by simp [PyData.depth]⟩
theorem Sh.bool (b : Bool) : Sh 0 (.bool b) := ⟨by simp [PyData.canLay0], by simp [PyData.depth]⟩
theorem Sh.int (i : Int) : Sh 0 (.int i) := ⟨by simp [PyData.canLay0], by simp [PyData.depth]⟩
theorem Sh.str {x : Str} (h : Asc x) : Sh 0 (.str x) := ⟨by simp [PyData.canLay0, ok_asc h], by simp [PyData.depth]⟩
theorem sh_all {n : Nat} : ∀ {ds : List PyData}, (∀ d ∈ ds, Sh n d) → PyData.canLayAll0 ds = true ∧ PyData.depthAll ds ≤ n
  | [], _ => ⟨by simp [PyData.canLayAll0], by simp [PyData.depthAll]⟩
  | d :: ds, h => by
    have h1 := h d List.mem_cons_self
    have h2 := sh_all (ds := ds) fun e he => h e (List.mem_cons_of_mem _ he)
    refine ⟨?_, ?_⟩
    · rw [PyData.canLayAll0, h1.1, h2.1, Bool.and_self]
    · rw [PyData.depthAll]
      have a := h1.2
      have b := h2.2
      omega
theorem Sh.tuple {n : Nat} {ds : List PyData} (h : ∀ d ∈ ds, Sh n d) : Sh (n + 1) (.tuple ds) := by
  obtain ⟨a, b⟩ := sh_all h
  refine ⟨by rw [PyData.canLay0]; exact a, ?_⟩
  rw [PyData.depth]
  omega
theorem Sh.list {n : Nat} {ds : List PyData} (h : ∀ d ∈ ds, Sh n d) : Sh (n + 1) (.list ds) := by
  obtain ⟨a, b⟩ := sh_all h
  refine ⟨by rw [PyData.canLay0]; exact a, ?_⟩
  rw [PyData.depth]
  omega
theorem Sh.shaped {n : Nat} {d : PyData} (h : Sh n d) (l : n ≤ 64 := by decide) : SeqAt.shaped d = true := by
  unfold SeqAt.shaped
  rw [h.1, decide_eq_true (Nat.le_trans h.2 l)]
  rfl
theorem Sh.refl {n : Nat} {d : PyData} (h : Sh n d) : PyData.eqv d d = true := SeqAt.eqv_refl d h.1
theorem Sh.two {n : Nat} {d e : PyData} (h : Sh n d) (g : Sh n e) : ∀ z ∈ [d, e], Sh n z := fun z hz => by
  simp only [List.mem_cons, List.not_mem_nil, or_false] at hz
  rcases hz with rfl | rfl
  · exact h
  · exact g
theorem Sh.three {n : Nat} {d e f : PyData} (h : Sh n d) (g : Sh n e) (k : Sh n f) : ∀ z ∈ [d, e, f], Sh n z := fun z hz => by
  simp only [List.mem_cons, List.not_mem_nil, or_false] at hz
  rcases hz with rfl | rfl | rfl
  · exact h
  · exact g
  · exact k
theorem Sh.one {n : Nat} {d : PyData} (h : Sh n d) : ∀ z ∈ [d], Sh n z := fun z hz => by
  rw [List.mem_singleton.mp hz]
  exact h
section
variable {K : PySem.W.Frag} {H : Hp} {Q : VK} {x y : V} {d : PyData} {n : Nat}
theorem rd_neV (h1 : Va H x d) (h2 : Va H y d) (s : Sh n d) (h : Q (.bl false) H) (l : n ≤ 64 := by decide) : rNeD K x y H Q := rd_neSame h1.dp h2.dp (s.shaped l) s.refl h
end
theorem Va.pair {H : Hp} {a : Addr} {v w : V} {d e : PyData} (t : Tk H a [v, w]) (h : Va H v d) (g : Va H w e) : Va H (.ref a) (.tuple [d, e]) := .tup t (.cons h (.cons g .nil))
theorem Va.tri {H : Hp} {a : Addr} {u v w : V} {c d e : PyData} (t : Tk H a [u, v, w]) (f : Va H u c) (h : Va H v d) (g : Va H w e) : Va H (.ref a) (.tuple [c, d, e]) := .tup t (.cons f (.cons h (.cons g .nil)))
theorem VaL.strs {H : Hp} : ∀ xs : List Str, VaL H (xs.map V.str) (xs.map PyData.str)
  | [] => .nil
  | x :: xs => .cons (.str x) (VaL.strs xs)
theorem sh_strs {xs : List Str} (h : ∀ x ∈ xs, Asc x) : Sh 1 (.tuple (xs.map PyData.str)) := Sh.tuple fun d hd => by
  obtain ⟨x, hx, rfl⟩ := List.mem_map.mp hd
  exact Sh.str (h x hx)
theorem Va.put {H : Hp} {v : V} {d : PyData} {l : Addr} {zs : List V} {o : HO} (h : Va H v d) (e : H l = some (.lst zs)) : Va (upd H l o) v d := h.mono fun _ _ t => t.put e
theorem VaL.put {H : Hp} {v : List V} {d : List PyData} {l : Addr} {zs : List V} {o : HO} (h : VaL H v d) (e : H l = some (.lst zs)) : VaL (upd H l o) v d := h.mono fun _ _ t => t.put e
/-! ### the end of a text that another is -/
theorem ends_tl (x y : Str) : Txt.endswith x y = (decide (y.length ≤ x.length) && ((tl x).drop (x.length - y.length) == tl y)) := by
  unfold Txt.endswith
  rw [StrLaws.subAt_eq, Nat.zero_add]
  by_cases h : y.length ≤ x.length
  · rw [decide_eq_true h, Bool.true_and, Bool.true_and]
    have e : ((tl x).drop (x.length - y.length)).length = y.length := by
      rw [List.length_drop, ← len_tl]
      omega
    show ((List.drop (x.length - y.length) (tl x)).take y.length == tl y) = _
    rw [List.take_of_length_le (Nat.le_of_eq e)]
  · rw [decide_eq_false h]
    rfl
theorem cut_end (d s : Str) : decide (cutS d (some (-(s.length : Int) - 1)) none = Str.ofString "." ++ s) = Txt.endswith d (Str.ofString "." ++ s) := by
  have hl : (Str.ofString "." ++ s).length = s.length + 1 := by rw [len_app, len_dot, Nat.add_comm]
  have hs : HT.sIx d.length 0 (some (-(s.length : Int) - 1)) = d.length - (s.length + 1) := by
    show (if (-(s.length : Int) - 1) < 0 then ((-(s.length : Int) - 1) + (d.length : Int)).toNat else min (-(s.length : Int) - 1).toNat d.length) = _
    rw [if_pos (by omega)]
    omega
  have hc : tl (cutS d (some (-(s.length : Int) - 1)) none) = (tl d).drop (d.length - (s.length + 1)) := by
    unfold cutS
    rw [tl_mk, hs, HT.sIx_none]
    exact List.take_of_length_le (by rw [List.length_drop, ← len_tl]; exact Nat.le_refl _)
  rw [ends_tl, hl]
  by_cases e : cutS d (some (-(s.length : Int) - 1)) none = Str.ofString "." ++ s
  · rw [decide_eq_true e, ← hc, e, beq_self_eq_true, Bool.and_true]
    have q := congrArg Str.length e
    have k := len_cut d (some (-(s.length : Int) - 1)) none
    rw [q, hl] at k
    exact (decide_eq_true k).symm
  · rw [decide_eq_false e]
    symm
    rw [Bool.and_eq_false_iff]
    by_cases g : s.length + 1 ≤ d.length
    · right
      refine beq_eq_false_iff_ne.mpr fun q => e (ext_tl ?_)
      rw [hc]
      exact q
    · exact .inl (decide_eq_false g)
/-! ### routes: the place of the longest end that matches, of those of one length the first -/
def mch (dom s : Str) : Bool := decide (s = Str.ofString "") || decide (dom = s) || Txt.endswith dom (Str.ofString "." ++ s)
def bst (dom : Str) (rs : List Str) : Nat → Option Nat
  | 0 => none
  | i + 1 => match rs[i]? with
    | none => bst dom rs i
    | some s => if mch dom s = true then (match bst dom rs i with
        | none => some i
        | some k => if ((rs[k]?).getD Str.empty).length < s.length then some i else some k) else bst dom rs i
theorem bst_lt (dom : Str) (rs : List Str) : ∀ i k, bst dom rs i = some k → k < i ∧ k < rs.length
  | 0, k, h => by cases h
  | i + 1, k, h => by
    unfold bst at h
    cases e : rs[i]? with
    | none =>
      rw [e] at h
      have := bst_lt dom rs i k h
      omega
    | some s =>
      have hi := (List.getElem?_eq_some_iff.mp e).1
      rw [e] at h
      dsimp only at h
      by_cases m : mch dom s = true
      · rw [if_pos m] at h
        cases f : bst dom rs i with
        | none =>
          rw [f] at h
          obtain rfl := Option.some.inj h
          omega
        | some j =>
          rw [f] at h
          dsimp only at h
          have q := bst_lt dom rs i j f
          by_cases l : ((rs[j]?).getD Str.empty).length < s.length
          · rw [if_pos l] at h
            obtain rfl := Option.some.inj h
            omega
          · rw [if_neg l] at h
            obtain rfl := Option.some.inj h
            omega
      · rw [if_neg m] at h
        have := bst_lt dom rs i k h
        omega
/-! ### what steps do to a content: a step is a byte, or -1 for a clearing -/
def aft1 (c : List Int) (z : Int) : List Int := if z = -1 then [] else c ++ [z]
def aft (c q : List Int) : List Int := q.foldl aft1 c
theorem aft_snoc (c q : List Int) (z : Int) : aft c (q ++ [z]) = aft1 (aft c q) z := by
  unfold aft
  rw [List.foldl_append]
  rfl
theorem aft_len : ∀ (q c : List Int), (aft c q).length ≤ c.length + q.length
  | [], c => Nat.le_refl _
  | z :: q, c => by
    have h := aft_len q (aft1 c z)
    show (aft (aft1 c z) q).length ≤ _
    have h2 : (aft1 c z).length ≤ c.length + 1 := by
      unfold aft1
      split
      · exact Nat.zero_le _
      · rw [List.length_append]
        exact Nat.le_refl _
    rw [List.length_cons]
    omega
def ByL (c : List Int) : Prop := ∀ z ∈ c, 0 ≤ z ∧ z ≤ 255
def StL (q : List Int) : Prop := ∀ z ∈ q, -1 ≤ z ∧ z ≤ 255
theorem aft_by : ∀ {q c : List Int}, ByL c → StL q → ByL (aft c q)
  | [], c, h, _ => h
  | z :: q, c, h, g => by
    refine aft_by (c := aft1 c z) (q := q) (fun y hy => ?_) (fun y hy => g y (List.mem_cons_of_mem _ hy))
    unfold aft1 at hy
    by_cases e : z = -1
    · rw [if_pos e] at hy
      cases hy
    · rw [if_neg e] at hy
      rcases List.mem_append.mp hy with hy | hy
      · exact h y hy
      · rw [List.mem_singleton.mp hy]
        have := g z List.mem_cons_self
        omega
/-! ### the two files -/
abbrev Fls := Nat → List Int × List Int
def upF (F : Fls) (f : Nat) (x : List Int × List Int) : Fls := fun j => if j = f then x else F j
def Sz (F : Fls) (n : Nat) : Prop := ∀ j, (F j).1.length + (F j).2.length ≤ n
def OkF (F : Fls) : Prop := ∀ j, ByL (F j).1 ∧ StL (F j).2
theorem upF_at (F : Fls) (f : Nat) (x : List Int × List Int) : upF F f x f = x := if_pos rfl
theorem upF_ne {F : Fls} {f j : Nat} {x : List Int × List Int} (h : j ≠ f) : upF F f x j = F j := if_neg h
theorem Sz.up {F : Fls} {f n m : Nat} {x : List Int × List Int} (h : Sz F n) (l : n ≤ m) (k : x.1.length + x.2.length ≤ m) : Sz (upF F f x) m := fun j => by
  by_cases e : j = f
  · rw [e, upF_at]
    exact k
  · rw [upF_ne e]
    exact Nat.le_trans (h j) l
theorem OkF.up {F : Fls} {f : Nat} {x : List Int × List Int} (h : OkF F) (a : ByL x.1) (b : StL x.2) : OkF (upF F f x) := fun j => by
  by_cases e : j = f
  · rw [e, upF_at]
    exact ⟨a, b⟩
  · rw [upF_ne e]
    exact h j
def pwV : Option Nat → V
  | none => .non
  | some n => .int n
def cntO (pw : Option Nat) (n : Nat) : Nat := match pw with
  | none => n
  | some k => min k n
theorem cntO_le (pw : Option Nat) (n : Nat) : cntO pw n ≤ n := by
  cases pw with
  | none => exact Nat.le_refl _
  | some k => exact Nat.min_le_right _ _
def stp (k : Nat) (bs : List Int) : List Int := if k = 0 then bs else [-1]
def durF (F : Fls) (f many : Nat) : Fls := upF F f (aft (F f).1 ((F f).2.take many), [])
def opF (k f : Nat) (bs : List Int) (F : Fls) (pw : Option Nat) : Fls :=
  if k = 2 then (if cntO pw 1 = 1 then upF F f (aft (F f).1 (F f).2, []) else F) else upF F f ((F f).1, (F f).2 ++ (stp k bs).take (cntO pw (stp k bs).length))
def spP (pw : Option Nat) (n : Nat) : Option Nat := pw.map (· - cntO pw n)
def opB (k : Nat) (bs : List Int) (pw : Option Nat) : Bool := decide (cntO pw (stp k bs).length = (stp k bs).length)
/-! ### what a change leaves -/
def Chg (o : List Addr) (H H' : Hp) : Prop := ∀ a ob, a ∉ o → H a = some ob → H' a = some ob
theorem Chg.refl (o : List Addr) (H : Hp) : Chg o H H := fun _ _ _ h => h
theorem Chg.same {o : List Addr} {H H' : Hp} (s : Same H H') : Chg o H H' := fun a ob _ h => s a ob h
theorem Chg.trans {o o' : List Addr} {H H1 H2 : Hp} (a : Chg o H H1) (b : Chg o' H1 H2) (s : ∀ x ∈ o', x ∈ o ∨ H x = none) : Chg o H H2 := fun x ob n h => b x ob (fun m => by
  rcases s x m with q | q
  · exact n q
  · rw [q] at h
    cases h) (a x ob n h)
theorem Chg.put {o : List Addr} {H H1 : Hp} {p : Addr} {u : HO} (a : Chg o H H1) (s : p ∈ o ∨ H p = none) : Chg o H (upd H1 p u) := fun x ob n h => by
  rw [upd_ne fun e => ?_]
  · exact a x ob n h
  · subst e
    rcases s with q | q
    · exact n q
    · rw [q] at h
      cases h
/-! ### a disk -/
theorem n_ds : ¬ (("_durable" : Str) = "_steps") := by decide +kernel
theorem n_dp : ¬ (("_durable" : Str) = "_power") := by decide +kernel
theorem n_sp : ¬ (("_steps" : Str) = "_power") := by decide +kernel
def kfl (d s : Addr) (pw : V) : List (Str × V) := putF "_power" pw (putF "_steps" (.ref s) (putF "_durable" (.ref d) []))
theorem kfl_d (d s : Addr) (pw : V) : (kfl d s pw).lookup ("_durable" : Str) = some (.ref d) := by
  unfold kfl
  rw [lookup_putF, if_neg n_dp, lookup_putF, if_neg n_ds, lookup_putF, if_pos rfl]
theorem kfl_s (d s : Addr) (pw : V) : (kfl d s pw).lookup ("_steps" : Str) = some (.ref s) := by
  unfold kfl
  rw [lookup_putF, if_neg n_sp, lookup_putF, if_pos rfl]
theorem kfl_p (d s : Addr) (pw : V) : (kfl d s pw).lookup ("_power" : Str) = some pw := by
  unfold kfl
  rw [lookup_putF, if_pos rfl]
theorem kfl_no (d s : Addr) (pw : V) {m : Str} (h1 : ¬ m = "_power") (h2 : ¬ m = "_steps") (h3 : ¬ m = "_durable") : (kfl d s pw).lookup m = none := by
  unfold kfl
  rw [lookup_putF, if_neg h1, lookup_putF, if_neg h2, lookup_putF, if_neg h3]
  rfl
theorem kfl_eq (d s : Addr) (pw : V) : kfl d s pw = ([("_durable", V.ref d), ("_steps", V.ref s), ("_power", pw)] : List (Str × V)) := by
  unfold kfl
  show putF "_power" pw (if ("_durable" : Str) = "_steps" then _ else ("_durable", V.ref d) :: [("_steps", V.ref s)]) = _
  rw [if_neg n_ds]
  show (if ("_durable" : Str) = "_power" then _ else (("_durable" : Str), V.ref d) :: (if ("_steps" : Str) = "_power" then _ else ("_steps", V.ref s) :: [("_power", pw)])) = _
  rw [if_neg n_dp, if_neg n_sp]
theorem kfl_put (d s : Addr) (pw y : V) : putF "_power" y (kfl d s pw) = kfl d s y := by
  rw [kfl_eq, kfl_eq]
  show (if ("_durable" : Str) = "_power" then _ else (("_durable" : Str), V.ref d) :: (if ("_steps" : Str) = "_power" then _ else ("_steps", V.ref s) :: (if ("_power" : Str) = "_power" then [(("_power" : Str), y)] else _))) = _
  rw [if_neg n_dp, if_neg n_sp, if_pos rfl]
theorem kfl_len (d s : Addr) (pw : V) : (kfl d s pw).length < 1000 := by
  rw [kfl_eq]
  exact (by decide : 3 < 1000)
structure Dk0 (C : Addr) (H : Hp) (p dx d s a0 a1 b0 b1 : Addr) (F : Fls) (pw : Option Nat) : Prop where
  ep : H p = some (.ins C dx (kfl d s (pwV pw)))
  ed : H d = some (.lst [.ref a0, .ref a1])
  es : H s = some (.lst [.ref b0, .ref b1])
  e0 : H a0 = some (.lst ((F 0).1.map V.int))
  e1 : H a1 = some (.lst ((F 1).1.map V.int))
  g0 : H b0 = some (.lst ((F 0).2.map V.int))
  g1 : H b1 = some (.lst ((F 1).2.map V.int))
def Dk (C : Addr) (H : Hp) (p : Addr) (o : List Addr) (F : Fls) (pw : Option Nat) : Prop := ∃ dx d s a0 a1 b0 b1, o = [p, d, s, a0, a1, b0, b1] ∧ [d, s, a0, a1, b0, b1].Nodup ∧ Dk0 C H p dx d s a0 a1 b0 b1 F pw
theorem Dk.alive {C : Addr} {H : Hp} {p : Addr} {o : List Addr} {F : Fls} {pw : Option Nat} (h : Dk C H p o F pw) : ∀ x ∈ o, ∃ u, H x = some u ∧ ∀ b xs, u ≠ .frz b (.tup xs) := by
  obtain ⟨dx, d, s, a0, a1, b0, b1, rfl, _, k⟩ := h
  intro x hx
  simp only [List.mem_cons, List.not_mem_nil, or_false] at hx
  rcases hx with rfl | rfl | rfl | rfl | rfl | rfl | rfl
  · exact ⟨_, k.ep, fun b xs e => by cases e⟩
  · exact ⟨_, k.ed, fun b xs e => by cases e⟩
  · exact ⟨_, k.es, fun b xs e => by cases e⟩
  · exact ⟨_, k.e0, fun b xs e => by cases e⟩
  · exact ⟨_, k.e1, fun b xs e => by cases e⟩
  · exact ⟨_, k.g0, fun b xs e => by cases e⟩
  · exact ⟨_, k.g1, fun b xs e => by cases e⟩
theorem Dk.keep {C : Addr} {H H1 : Hp} {p : Addr} {o : List Addr} {F : Fls} {pw : Option Nat} (h : Dk C H p o F pw) (k : ∀ x ∈ o, ∀ u, H x = some u → H1 x = some u) : Dk C H1 p o F pw := by
  obtain ⟨dx, d, s, a0, a1, b0, b1, rfl, nd, q⟩ := h
  exact ⟨dx, d, s, a0, a1, b0, b1, rfl, nd, k p (by simp) _ q.ep, k d (by simp) _ q.ed, k s (by simp) _ q.es, k a0 (by simp) _ q.e0, k a1 (by simp) _ q.e1, k b0 (by simp) _ q.g0, k b1 (by simp) _ q.g1⟩
theorem Dk.same {C : Addr} {H H1 : Hp} {p : Addr} {o : List Addr} {F : Fls} {pw : Option Nat} (h : Dk C H p o F pw) (s : Same H H1) : Dk C H1 p o F pw := h.keep fun x _ u e => s x u e
theorem nd6 {d s a0 a1 b0 b1 : Addr} (h : [d, s, a0, a1, b0, b1].Nodup) : (d ≠ s ∧ d ≠ a0 ∧ d ≠ a1 ∧ d ≠ b0 ∧ d ≠ b1) ∧ (s ≠ a0 ∧ s ≠ a1 ∧ s ≠ b0 ∧ s ≠ b1) ∧ (a0 ≠ a1 ∧ a0 ≠ b0 ∧ a0 ≠ b1) ∧ (a1 ≠ b0 ∧ a1 ≠ b1) ∧ b0 ≠ b1 := by
  simp only [List.nodup_cons, List.mem_cons, List.not_mem_nil, or_false, not_or] at h
  exact ⟨h.1, h.2.1, h.2.2.1, h.2.2.2.1, h.2.2.2.2.1⟩
theorem nd6_mk {d s a0 a1 b0 b1 : Addr} (h : (d ≠ s ∧ d ≠ a0 ∧ d ≠ a1 ∧ d ≠ b0 ∧ d ≠ b1) ∧ (s ≠ a0 ∧ s ≠ a1 ∧ s ≠ b0 ∧ s ≠ b1) ∧ (a0 ≠ a1 ∧ a0 ≠ b0 ∧ a0 ≠ b1) ∧ (a1 ≠ b0 ∧ a1 ≠ b1) ∧ b0 ≠ b1) : [d, s, a0, a1, b0, b1].Nodup := by
  obtain ⟨⟨h1, h2, h3, h4, h5⟩, ⟨h6, h7, h8, h9⟩, ⟨h10, h11, h12⟩, ⟨h13, h14⟩, h15⟩ := h
  simp [h1, h2, h3, h4, h5, h6, h7, h8, h9, h10, h11, h12, h13, h14, h15]
theorem Chg.then {o : List Addr} {H H1 H2 : Hp} (a : Chg o H H1) (s : Same H1 H2) : Chg o H H2 := fun x ob n h => s x ob (a x ob n h)
theorem free_upd {H : Hp} {d n : Addr} {u : HO} (h : (upd H d u) n = none) : H n = none ∧ n ≠ d := by
  by_cases e : n = d
  · rw [e, upd_same] at h
    cases h
  · rw [upd_ne e] at h
    exact ⟨h, e⟩
theorem ins_lst {H : Hp} {p x C dx : Addr} {fs : List (Str × V)} {xs : List V} (h : H p = some (.ins C dx fs)) (g : H x = some (.lst xs)) : p ≠ x := ne_of h g (by intro z; cases z)
/-! ### the law's own model of a disk -/
def lv (z : Int) : V := if z = -1 then .non else .int z
theorem lv_by {bs : List Int} (h : ByL bs) : bs.map V.int = bs.map lv := List.map_congr_left fun z hz => by
  have := h z hz
  unfold lv
  rw [if_neg (by omega)]
structure Md0 (H : Hp) (m fl t0 t1 u0 w0 u1 w1 : Addr) (F : Fls) (pw : Option Nat) : Prop where
  em : H m = some (.lst [.ref fl, pwV pw])
  ef : H fl = some (.lst [.ref t0, .ref t1])
  k0 : Tk H t0 [.ref u0, .ref w0]
  k1 : Tk H t1 [.ref u1, .ref w1]
  e0 : H u0 = some (.lst ((F 0).1.map V.int))
  g0 : H w0 = some (.lst ((F 0).2.map lv))
  e1 : H u1 = some (.lst ((F 1).1.map V.int))
  g1 : H w1 = some (.lst ((F 1).2.map lv))
def Md (H : Hp) (m : Addr) (o : List Addr) (F : Fls) (pw : Option Nat) : Prop := ∃ fl t0 t1 u0 w0 u1 w1, o = [m, fl, t0, t1, u0, w0, u1, w1] ∧ (m ≠ fl ∧ (u0 ≠ m ∧ u0 ≠ fl) ∧ (w0 ≠ m ∧ w0 ≠ fl) ∧ (u1 ≠ m ∧ u1 ≠ fl) ∧ (w1 ≠ m ∧ w1 ≠ fl)) ∧ Md0 H m fl t0 t1 u0 w0 u1 w1 F pw
theorem Tk.al {H : Hp} {p : Addr} {xs : List V} (h : Tk H p xs) : ∃ u, H p = some u := let ⟨_, _, e⟩ := h; ⟨_, e⟩
theorem Tk.keep {H H1 : Hp} {p : Addr} {xs : List V} (h : Tk H p xs) (k : ∀ u, H p = some u → H1 p = some u) : Tk H1 p xs := let ⟨o, d, e⟩ := h; ⟨o, d, k _ e⟩
theorem Md.alive {H : Hp} {m : Addr} {o : List Addr} {F : Fls} {pw : Option Nat} (h : Md H m o F pw) : ∀ x ∈ o, ∃ u, H x = some u := by
  obtain ⟨fl, t0, t1, u0, w0, u1, w1, rfl, _, k⟩ := h
  intro x hx
  simp only [List.mem_cons, List.not_mem_nil, or_false] at hx
  rcases hx with rfl | rfl | rfl | rfl | rfl | rfl | rfl | rfl
  · exact ⟨_, k.em⟩
  · exact ⟨_, k.ef⟩
  · exact k.k0.al
  · exact k.k1.al
  · exact ⟨_, k.e0⟩
  · exact ⟨_, k.g0⟩
  · exact ⟨_, k.e1⟩
  · exact ⟨_, k.g1⟩
theorem Md.keep {H H1 : Hp} {m : Addr} {o : List Addr} {F : Fls} {pw : Option Nat} (h : Md H m o F pw) (k : ∀ x ∈ o, ∀ u, H x = some u → H1 x = some u) : Md H1 m o F pw := by
  obtain ⟨fl, t0, t1, u0, w0, u1, w1, rfl, n, q⟩ := h
  exact ⟨fl, t0, t1, u0, w0, u1, w1, rfl, n, k m (by simp) _ q.em, k fl (by simp) _ q.ef, q.k0.keep (k t0 (by simp)), q.k1.keep (k t1 (by simp)), k u0 (by simp) _ q.e0, k w0 (by simp) _ q.g0, k u1 (by simp) _ q.e1, k w1 (by simp) _ q.g1⟩
theorem Md.same {H H1 : Hp} {m : Addr} {o : List Addr} {F : Fls} {pw : Option Nat} (h : Md H m o F pw) (s : Same H H1) : Md H1 m o F pw := h.keep fun x _ u e => s x u e
theorem Md.pow {H : Hp} {m : Addr} {o : List Addr} {F : Fls} {pw : Option Nat} (h : Md H m o F pw) : ∃ fl, H m = some (.lst [.ref fl, pwV pw]) ∧ ∀ pw', Md (upd H m (.lst [.ref fl, pwV pw'])) m o F pw' ∧ Chg o H (upd H m (.lst [.ref fl, pwV pw'])) := by
  obtain ⟨fl, t0, t1, u0, w0, u1, w1, rfl, n, q⟩ := h
  obtain ⟨n1, ⟨n2, n3⟩, ⟨n4, n5⟩, ⟨n6, n7⟩, n8, n9⟩ := id n
  refine ⟨fl, q.em, fun pw' => ⟨⟨fl, t0, t1, u0, w0, u1, w1, rfl, n, upd_same, (upd_ne n1.symm).trans q.ef, q.k0.put q.em, q.k1.put q.em, (upd_ne n2).trans q.e0, (upd_ne n4).trans q.g0, (upd_ne n6).trans q.e1, (upd_ne n8).trans q.g1⟩, Chg.put (Chg.refl _ _) (.inl (by simp))⟩⟩
theorem Tk.nl {H : Hp} {p l : Addr} {xs zs : List V} (t : Tk H p xs) (e : H l = some (.lst zs)) : p ≠ l := fun z => by
  obtain ⟨o, d, q⟩ := t
  rw [z, e] at q
  cases q
theorem Md.set {H : Hp} {m : Addr} {o : List Addr} {F : Fls} {pw : Option Nat} {f : Nat} (h : Md H m o F pw) (hf : f < 2) : ∃ fl t xs u w, H m = some (.lst [.ref fl, pwV pw]) ∧ H fl = some (.lst xs) ∧ atI xs (f : Int) = some (.ref t) ∧ ixN xs.length (f : Int) = some f ∧
    Tk H t [.ref u, .ref w] ∧ H u = some (.lst ((F f).1.map V.int)) ∧ H w = some (.lst ((F f).2.map lv)) ∧ (u ∈ o ∧ u ≠ m ∧ u ≠ fl) ∧
    ∀ H1 t' u' w' c q, Same H H1 → Tk H1 t' [.ref u', .ref w'] → H1 u' = some (.lst (c.map V.int)) → H1 w' = some (.lst (q.map lv)) → H t' = none → ((u' ∈ o ∨ H u' = none) ∧ u' ≠ m ∧ u' ≠ fl) → H w' = none →
      ∃ o', Md (upd H1 fl (.lst (xs.set f (.ref t')))) m o' (upF F f (c, q)) pw ∧ (∀ x ∈ o', x ∈ o ∨ H x = none) ∧ Chg o H (upd H1 fl (.lst (xs.set f (.ref t')))) := by
  obtain ⟨fl, t0, t1, u0, w0, u1, w1, rfl, n, q⟩ := h
  obtain ⟨n1, ⟨n2, n3⟩, ⟨n4, n5⟩, ⟨n6, n7⟩, n8, n9⟩ := id n
  obtain rfl | rfl : f = 0 ∨ f = 1 := by omega
  · refine ⟨fl, t0, _, u0, w0, q.em, q.ef, rfl, rfl, q.k0, q.e0, q.g0, ⟨by simp, n2, n3⟩, fun H1 t' u' w' c p s tk eu ew nt hu nw => ?_⟩
    obtain ⟨hu1, hu2, hu3⟩ := hu
    have wm : w' ≠ m := (ne_of_none q.em nw).symm
    have wf : w' ≠ fl := (ne_of_none q.ef nw).symm
    have ef1 := s _ _ q.ef
    refine ⟨[m, fl, t', t1, u', w', u1, w1], ⟨fl, t', t1, u', w', u1, w1, rfl, ⟨n1, ⟨hu2, hu3⟩, ⟨wm, wf⟩, ⟨n6, n7⟩, n8, n9⟩, ⟨(upd_ne n1).trans (s _ _ q.em), upd_same, tk.put ef1, (q.k1.same s).put ef1, ?_, ?_, ?_, ?_⟩⟩, fun x hx => ?_, Chg.put (Chg.same s) (.inl (by simp))⟩
    · rw [upF_at]
      exact (upd_ne hu3).trans eu
    · rw [upF_at]
      exact (upd_ne wf).trans ew
    · exact (upd_ne n7).trans (s _ _ q.e1)
    · exact (upd_ne n9).trans (s _ _ q.g1)
    · simp only [List.mem_cons, List.not_mem_nil, or_false] at hx
      rcases hx with rfl | rfl | rfl | rfl | rfl | rfl | rfl | rfl
      all_goals first
        | exact .inr nt
        | exact .inr nw
        | exact hu1
        | exact .inl (by simp)
  · refine ⟨fl, t1, _, u1, w1, q.em, q.ef, rfl, rfl, q.k1, q.e1, q.g1, ⟨by simp, n6, n7⟩, fun H1 t' u' w' c p s tk eu ew nt hu nw => ?_⟩
    obtain ⟨hu1, hu2, hu3⟩ := hu
    have wm : w' ≠ m := (ne_of_none q.em nw).symm
    have wf : w' ≠ fl := (ne_of_none q.ef nw).symm
    have ef1 := s _ _ q.ef
    refine ⟨[m, fl, t0, t', u0, w0, u', w'], ⟨fl, t0, t', u0, w0, u', w', rfl, ⟨n1, ⟨n2, n3⟩, ⟨n4, n5⟩, ⟨hu2, hu3⟩, wm, wf⟩, ⟨(upd_ne n1).trans (s _ _ q.em), upd_same, (q.k0.same s).put ef1, tk.put ef1, ?_, ?_, ?_, ?_⟩⟩, fun x hx => ?_, Chg.put (Chg.same s) (.inl (by simp))⟩
    · exact (upd_ne n3).trans (s _ _ q.e0)
    · exact (upd_ne n5).trans (s _ _ q.g0)
    · rw [upF_at]
      exact (upd_ne hu3).trans eu
    · rw [upF_at]
      exact (upd_ne wf).trans ew
    · simp only [List.mem_cons, List.not_mem_nil, or_false] at hx
      rcases hx with rfl | rfl | rfl | rfl | rfl | rfl | rfl | rfl
      all_goals first
        | exact .inr nt
        | exact .inr nw
        | exact hu1
        | exact .inl (by simp)
theorem SqT.put {K : PySem.W.Frag} {H : Hp} {p l : Addr} {xs zs : List V} {o : HO} (t : SqT K H p xs) (e : H l = some (.lst zs)) : SqT K (upd H l o) p xs := by
  rcases t with (h | ⟨b, h⟩) | h
  · refine .inl (.inl ?_)
    rw [upd_ne fun z => ?_]
    · exact h
    · rw [z, e] at h
      cases h
  · refine .inl (.inr ⟨b, ?_⟩)
    rw [upd_ne fun z => ?_]
    · exact h
    · rw [z, e] at h
      cases h
  · exact .inr h
theorem DpAll.ints {K : PySem.W.Frag} {H : Hp} : ∀ c : List Int, DpAll K H (c.map V.int) (c.map PyData.int)
  | [] => .nil
  | x :: c => .cons (.int x) (DpAll.ints c)
theorem sh_ints (c : List Int) : Sh 1 (.list (c.map PyData.int)) := Sh.list fun d hd => by
  obtain ⟨x, _, rfl⟩ := List.mem_map.mp hd
  exact Sh.int x
theorem rd_neInts {K : PySem.W.Frag} {H : Hp} {Q : VK} {a b : Addr} {c : List Int} (h1 : SqL K H a (c.map V.int)) (h2 : SqL K H b (c.map V.int)) (h : Q (.bl false) H) : rNeD K (.ref a) (.ref b) H Q :=
  rd_neSame (.lst h1 (DpAll.ints c)) (.lst h2 (DpAll.ints c)) (sh_ints c).shaped (sh_ints c).refl h
theorem rd_slTfrom1 {K : PySem.W.Frag} {H : Hp} {Q : VK} {a : Addr} {x y z : V} (c : SqT K H a [x, y, z]) (h : ∀ p, H p = none → Q (.ref p) (upd H p (.tup [y, z]))) : rSlT K (.ref a) (some 1) none H Q :=
  ⟨a, [x, y, z], rfl, c, (fun w => by
    have := w.1
    cases this), (fun p n => h p n)⟩
theorem rd_catT {K : PySem.W.Frag} {H : Hp} {Q : VK} {a b : Addr} {x y z : V} (c : SqT K H a [x]) (d : SqT K H b [y, z]) (h : ∀ p, H p = none → Q (.ref p) (upd H p (.tup [x, y, z]))) : rCatT K (.ref a) (.ref b) H Q :=
  ⟨a, b, [x], [y, z], rfl, rfl, c, d, List.cons_ne_nil _ _, line_of (Nat.le_of_ble_eq_true rfl), (fun e => by cases e), (fun _ p n => h p n)⟩
local macro_rules | `(tactic| walk_at "rd") => `(tactic| repeat (with_reducible first
  | refine rd_seq ?_ | refine rd_asg ?_ | refine rd_cons ?_ | refine rd_nil ?_ | refine rd_c ?_ | refine rd_op ?_
  | refine rd_v0 ?_ | refine rd_v1 ?_ | refine rd_v2 ?_ | refine rd_v3 ?_ | refine rd_v4 ?_ | refine rd_v5 ?_ | refine rd_v6 ?_ | refine rd_v7 ?_ | refine rd_v8 ?_ | refine rd_v9 ?_ | refine rd_v10 ?_ | refine rd_v11 ?_
  | refine rd_n0 ?_ | refine rd_n1 ?_ | refine rd_n2 ?_ | refine rd_n3 ?_ | refine rd_n4 ?_ | refine rd_n5 ?_ | refine rd_n6 ?_ | refine rd_n7 ?_ | refine rd_n8 ?_ | refine rd_n9 ?_ | refine rd_n10 ?_ | refine rd_n11 ?_
  | refine rd_i0 ?_ | refine rd_iC ?_ ?_ | refine rd_cb ?_ | refine rd_call ?_ | refine rd_test ?_ | refine rd_tB ?_ | refine rd_wBl ?_
  | refine rd_ifS ?_ | refine rd_ret ?_ | refine rd_next ?_ | refine rd_retN ?_ | refine rd_drop ?_
  | refine rd_eqI ?_ | refine rd_neI ?_ | refine rd_eqS ?_ | refine rd_neS ?_ | refine rd_un ?_ | refine rd_u ?_
  | refine rd_and ?_ | refine rd_or ?_ | refine rd_not ?_ | refine rd_notV ?_ | refine rd_andV ?_ | refine rd_orV ?_ | refine rd_ifE ?_ | refine rd_ch ?_ | refine rd_wCh ?_
  | refine rd_tt ?_ | refine rd_ls ?_ | refine rd_sl ?_ | refine rd_noP ?_ | refine rd_part ?_ | refine rd_wPart ?_ | refine rd_m1 ?_ | refine rd_wM ?_
  | refine rd_js ?_ | refine rd_jc ?_ | refine rd_jn ?_ | refine rd_wJs ?_ ?_ | refine rd_fmt ?_ | refine rd_fmtR ?_ | refine rd_wFmt ?_ ?_ | refine rd_wFmtR ?_ ?_
  | refine rd_lenS ?_ ?_ | refine rd_int ?_ | refine rd_intB ?_ | refine rd_starts ?_ | refine rd_ends ?_ | refine rd_rstrip ?_ ?_ | refine rd_adS ?_ ?_ | refine rd_slS ?_ ?_
  | refine rd_in1 ?_ | refine rd_isB ?_ | refine rd_isN ?_ | refine rd_notN ?_ | refine rd_iT ?_ | refine rd_iF ?_ | refine rd_yes ?_ | refine rd_truth ?_ | refine rd_lcR ?_ | refine rd_gSub ?_ | refine rd_forR ?_ | refine rd_bm ?_ | refine rd_lcT ?_ | refine rd_lcL ?_ | refine rd_lcS ?_ | refine rd_frT ?_ | refine rd_frL ?_ | refine rd_wStr ?_ | refine rd_gCons ?_ | refine rd_gNil ?_ | refine rd_tix ?_ | refine rd_iNT ?_ | refine rd_iNF ?_ | refine rd_m0 ?_ | refine rd_upper ?_ ?_ | refine rd_ninS ?_ | refine rd_inS ?_ | refine rd_callS ?_ | refine rd_raise ?_ | refine rd_tryO ?_ | refine rd_tryA ?_ | refine rd_eqB ?_ | refine rd_fld ?_ | refine rd_sfld ?_ | refine rd_meth ?_ | refine rd_methS ?_ | refine rd_make ?_ | refine rd_nil0 ?_ | refine rd_find ?_ | refine rd_bm0 ?_ | refine rd_min2 ?_ | refine rd_max2 ?_
  | refine rd_v12 ?_ | refine rd_v13 ?_ | refine rd_v14 ?_ | refine rd_v15 ?_ | refine rd_v16 ?_ | refine rd_v17 ?_ | refine rd_v18 ?_ | refine rd_v19 ?_ | refine rd_v20 ?_ | refine rd_v21 ?_ | refine rd_v22 ?_ | refine rd_v23 ?_ | refine rd_v24 ?_ | refine rd_v25 ?_
  | refine rd_n12 ?_ | refine rd_n13 ?_ | refine rd_n14 ?_ | refine rd_n15 ?_ | refine rd_n16 ?_ | refine rd_n17 ?_ | refine rd_n18 ?_ | refine rd_n19 ?_ | refine rd_n20 ?_ | refine rd_n21 ?_ | refine rd_n22 ?_ | refine rd_n23 ?_ | refine rd_n24 ?_ | refine rd_n25 ?_ ))
local macro_rules | `(tactic| walk_at "sd") => `(tactic| (refine line_of ?_; simp only [len_app, len_empty, len_lit0, len_dot, len_at, len_tr, len_rec, len_rea, len_lt, len_gt, len_mk, len_1]; decide))
local macro_rules | `(tactic| walk_at "sd") => `(tactic| (refine line_of ?_; simp only [len_app, len_empty, len_lit0, len_dot, len_at, len_tr, len_rec, len_rea, len_lt, len_gt, len_mk, len_1]; omega))
local macro_rules | `(tactic| walk_at "sd") => `(tactic| (refine line_of ?_; omega))
local macro_rules | `(tactic| walk_at "sd") => `(tactic| ((show (0 : Int) < _); omega))
local macro_rules | `(tactic| walk_at "sd") => `(tactic| ((show CPow _ _); exact ⟨by decide, by decide, by decide⟩))
local macro_rules | `(tactic| walk_at "sd") => `(tactic| ((show CMul _ _); first | exact .inl ⟨by decide, by decide⟩ | exact .inr ⟨by decide, by decide⟩))
local macro_rules | `(tactic| walk_at "sd") => `(tactic| with_reducible assumption)
local macro_rules | `(tactic| walk_at "rs") => `(tactic| (walk_at "rd"; all_goals try walk_at "sd"))
local macro_rules | `(tactic| walk_at "wp") => `(tactic| (simp only [List.map, wipe, List.set]; walk_at "rd"; all_goals try walk_at "sd"))
def topS (i : Nat) : Stmt := PySem.Challenge.pw_dawkline_k06_disk.main.body.getD i (.Pass ⟨0, 0, 0, 0⟩)
abbrev s_content_after : Stmt := topS 6
abbrev N_content_after : List Str := ["content", "steps", "changed", "step"]
theorem sc_content_after : FnScope N_content_after ["content", "steps"] (defScope s_content_after) := ⟨rfl, rfl, rfl, by decide +kernel, rfl, by decide +kernel, by decide +kernel⟩
abbrev s_Disk_make_durable : Stmt := inClass (topS 5) 10
abbrev N_Disk_make_durable : List Str := ["self", "file", "many"]
theorem sc_Disk_make_durable : FnScope N_Disk_make_durable ["self", "file", "many"] (defScope s_Disk_make_durable) := ⟨rfl, rfl, rfl, by decide +kernel, rfl, by decide +kernel, by decide +kernel⟩
abbrev s_Disk_crash : Stmt := inClass (topS 5) 7
abbrev N_Disk_crash : List Str := ["self", "a", "b"]
theorem sc_Disk_crash : FnScope N_Disk_crash ["self", "a", "b"] (defScope s_Disk_crash) := ⟨rfl, rfl, rfl, by decide +kernel, rfl, by decide +kernel, by decide +kernel⟩
abbrev s_Disk_init : Stmt := inClass (topS 5) 0
abbrev N_Disk_init : List Str := ["self"]
theorem sc_Disk_init : FnScope N_Disk_init ["self"] (defScope s_Disk_init) := ⟨rfl, rfl, rfl, by decide +kernel, rfl, by decide +kernel, by decide +kernel⟩
abbrev s_Disk_limit : Stmt := inClass (topS 5) 6
abbrev N_Disk_limit : List Str := ["self", "steps"]
theorem sc_Disk_limit : FnScope N_Disk_limit ["self", "steps"] (defScope s_Disk_limit) := ⟨rfl, rfl, rfl, by decide +kernel, rfl, by decide +kernel, by decide +kernel⟩
abbrev s_Lafter : Stmt := topS 14
abbrev N_Lafter : List Str := ["content", "steps", "step"]
theorem sc_Lafter : FnScope N_Lafter ["content", "steps"] (defScope s_Lafter) := ⟨rfl, rfl, rfl, by decide +kernel, rfl, by decide +kernel, by decide +kernel⟩
abbrev s_Disk_spend : Stmt := inClass (topS 5) 9
abbrev N_Disk_spend : List Str := ["self", "steps", "lasting"]
theorem sc_Disk_spend : FnScope N_Disk_spend ["self", "steps"] (defScope s_Disk_spend) := ⟨rfl, rfl, rfl, by decide +kernel, rfl, by decide +kernel, by decide +kernel⟩
abbrev s_Disk_perform : Stmt := inClass (topS 5) 8
abbrev N_Disk_perform : List Str := ["self", "file", "steps", "lasting"]
theorem sc_Disk_perform : FnScope N_Disk_perform ["self", "file", "steps"] (defScope s_Disk_perform) := ⟨rfl, rfl, rfl, by decide +kernel, rfl, by decide +kernel, by decide +kernel⟩
abbrev s_Disk_append : Stmt := inClass (topS 5) 1
abbrev N_Disk_append : List Str := ["self", "file", "data"]
theorem sc_Disk_append : FnScope N_Disk_append ["self", "file", "data"] (defScope s_Disk_append) := ⟨rfl, rfl, rfl, by decide +kernel, rfl, by decide +kernel, by decide +kernel⟩
abbrev s_Disk_clear : Stmt := inClass (topS 5) 2
abbrev N_Disk_clear : List Str := ["self", "file"]
theorem sc_Disk_clear : FnScope N_Disk_clear ["self", "file"] (defScope s_Disk_clear) := ⟨rfl, rfl, rfl, by decide +kernel, rfl, by decide +kernel, by decide +kernel⟩
abbrev s_Disk_sync : Stmt := inClass (topS 5) 3
abbrev N_Disk_sync : List Str := ["self", "file"]
theorem sc_Disk_sync : FnScope N_Disk_sync ["self", "file"] (defScope s_Disk_sync) := ⟨rfl, rfl, rfl, by decide +kernel, rfl, by decide +kernel, by decide +kernel⟩
abbrev s_Ldo : Stmt := topS 15
abbrev N_Ldo : List Str := ["disk", "act", "e"]
theorem sc_Ldo : FnScope N_Ldo ["disk", "act"] (defScope s_Ldo) := ⟨rfl, rfl, rfl, by decide +kernel, rfl, by decide +kernel, by decide +kernel⟩
abbrev s_Lrefill : Stmt := topS 9
abbrev N_Lrefill : List Str := ["script", "k", "cell"]
theorem sc_Lrefill : FnScope N_Lrefill ["script", "k"] (defScope s_Lrefill) := ⟨rfl, rfl, rfl, by decide +kernel, rfl, by decide +kernel, by decide +kernel⟩
abbrev s_Ldraw : Stmt := topS 10
abbrev N_Ldraw : List Str := ["state", "script", "size", "digit"]
theorem sc_Ldraw : FnScope N_Ldraw ["state", "script", "size"] (defScope s_Ldraw) := ⟨rfl, rfl, rfl, by decide +kernel, rfl, by decide +kernel, by decide +kernel⟩
abbrev s_Lmodel : Stmt := topS 16
abbrev N_Lmodel : List Str := ["model", "act", "files", "power", "steps", "count"]
theorem sc_Lmodel : FnScope N_Lmodel ["model", "act"] (defScope s_Lmodel) := ⟨rfl, rfl, rfl, by decide +kernel, rfl, by decide +kernel, by decide +kernel⟩
abbrev s_Disk_content : Stmt := inClass (topS 5) 4
abbrev N_Disk_content : List Str := ["self", "file"]
theorem sc_Disk_content : FnScope N_Disk_content ["self", "file"] (defScope s_Disk_content) := ⟨rfl, rfl, rfl, by decide +kernel, rfl, by decide +kernel, by decide +kernel⟩
abbrev s_Disk_pending : Stmt := inClass (topS 5) 5
abbrev N_Disk_pending : List Str := ["self", "file"]
theorem sc_Disk_pending : FnScope N_Disk_pending ["self", "file"] (defScope s_Disk_pending) := ⟨rfl, rfl, rfl, by decide +kernel, rfl, by decide +kernel, by decide +kernel⟩
abbrev s_Lis_integer : Stmt := topS 8
abbrev N_Lis_integer : List Str := ["actual"]
theorem sc_Lis_integer : FnScope N_Lis_integer ["actual"] (defScope s_Lis_integer) := ⟨rfl, rfl, rfl, by decide +kernel, rfl, by decide +kernel, by decide +kernel⟩
abbrev s_Lis_bytes : Stmt := topS 13
abbrev N_Lis_bytes : List Str := ["actual", "byte"]
theorem sc_Lis_bytes : FnScope N_Lis_bytes ["actual"] (defScope s_Lis_bytes) := ⟨rfl, rfl, rfl, by decide +kernel, rfl, by decide +kernel, by decide +kernel⟩
abbrev s_Lsame : Stmt := topS 17
abbrev N_Lsame : List Str := ["disk", "model", "k", "content"]
theorem sc_Lsame : FnScope N_Lsame ["disk", "model"] (defScope s_Lsame) := ⟨rfl, rfl, rfl, by decide +kernel, rfl, by decide +kernel, by decide +kernel⟩
abbrev s_law : Stmt := topS 18
abbrev N_law : List Str := ["script", "state", "disk", "model", "k", "kind", "file", "act", "handed", "expected", "told", "steps", "keep", "j"]
theorem sc_law : FnScope N_law ["script"] (defScope s_law) := ⟨rfl, rfl, rfl, by decide +kernel, rfl, by decide +kernel, by decide +kernel⟩
structure Tx (K : PySem.W.Frag) (mg : Str → Option Value) : Prop where
  d_content_after : Dn K mg "content_after" s_content_after ["content", "steps"]
  d_Lafter : Dn K mg "_law_after" s_Lafter ["content", "steps"]
  d_Ldo : Dn K mg "_law_do" s_Ldo ["disk", "act"]
  d_Lrefill : Dn K mg "_law_refill" s_Lrefill ["script", "k"]
  d_Ldraw : Dn K mg "_law_draw" s_Ldraw ["state", "script", "size"]
  d_Lmodel : Dn K mg "_law_model" s_Lmodel ["model", "act"]
  d_Lis_integer : Dn K mg "_law_is_integer" s_Lis_integer ["actual"]
  d_Lis_bytes : Dn K mg "_law_is_bytes" s_Lis_bytes ["actual"]
  d_Lsame : Dn K mg "_law_same" s_Lsame ["disk", "model"]
  d_law : Dn K mg "law" s_law ["script"]
  c_CLEARING : ∃ t, mg "CLEARING" = some (.int (-1) t)
  z_list : mg "list" = none
  z_max : mg "max" = none
  z_min : mg "min" = none
  z_len : mg "len" = none
  z_isinstance : mg "isinstance" = none
  z_int : mg "int" = none
  z_bool : mg "bool" = none
  z_all : mg "all" = none
  z_range : mg "range" = none
structure Cs_Disk (K : PySem.W.Frag) (mg : Str → Option Value) (C : Addr) : Prop where
  c : Cs K mg "Disk" C
  n_durable : NoAttr K C "_durable"
  n_steps : NoAttr K C "_steps"
  n_power : NoAttr K C "_power"
  m_Disk_make_durable : Mn K C "_make_durable" "Disk._make_durable" s_Disk_make_durable ["self", "file", "many"]
  m_Disk_crash : Mn K C "crash" "Disk.crash" s_Disk_crash ["self", "a", "b"]
  m_Disk_init : Mn K C "__init__" "Disk.__init__" s_Disk_init ["self"]
  m_Disk_limit : Mn K C "limit" "Disk.limit" s_Disk_limit ["self", "steps"]
  m_Disk_spend : Mn K C "_spend" "Disk._spend" s_Disk_spend ["self", "steps"]
  m_Disk_perform : Mn K C "_perform" "Disk._perform" s_Disk_perform ["self", "file", "steps"]
  m_Disk_append : Mn K C "append" "Disk.append" s_Disk_append ["self", "file", "data"]
  m_Disk_clear : Mn K C "clear" "Disk.clear" s_Disk_clear ["self", "file"]
  m_Disk_sync : Mn K C "sync" "Disk.sync" s_Disk_sync ["self", "file"]
  m_Disk_content : Mn K C "content" "Disk.content" s_Disk_content ["self", "file"]
  m_Disk_pending : Mn K C "pending" "Disk.pending" s_Disk_pending ["self", "file"]

section
variable {P : Program} {w : World} {K : PySem.W.Frag} {mg : Str → Option Value} {base : Heap}
def spRefill (K : PySem.W.Frag) : Sp := fun vs H Q _ => ∃ (sc : Addr) (ns : List Int) (k : Int), vs = [.ref sc, .int k] ∧ SqL K H sc (ns.map V.int) ∧ ∀ j : Int, Q (.int j) H
theorem ok_Lrefill (T : Tx K mg) : OkD P w K mg base CX0 1 "_law_refill" ["script", "k"] (spRefill K) := by
  refine ok_mk T.d_Lrefill sc_Lrefill (fun vs H Q E h => ?_) (fun f cdv A outer s H vs Q E hr h => ?_)
  · obtain ⟨sc, ns, k, rfl, _⟩ := h
    rfl
  · obtain ⟨sc, ns, k, rfl, hS, q⟩ := h
    refine ⟨_, (pss_cons (ps_set (i := 2) sc_Lrefill.nd rfl (.inl rfl) pe_int)
      (pss_cons (ps_if (y_truth (pv 0) (by intro _; rfl)) (pss_one (ps_set (i := 2) sc_Lrefill.nd rfl (.inl rfl) (pe_ix ix_list (pv 0) (pe_op op_mod (pv 1) (pe_callB y_lenQ (by rfl) T.z_len (by decide +kernel) (pa_cons (pv 0) pa_nil))) (fun _ _ => rfl)))) pss_nil)
      (pss_cons (ps_if (pt_cmpR op_lt (pv 2) pe_int (nomark _)) (pss_one (ps_set (i := 2) sc_Lrefill.nd rfl (.inl rfl) (pe_op op_sub pe_int (pe_op op_mul pe_int (pv 2))))) pss_nil)
      (pss_cons (ps_if (PW.pt (pw_and (pt_cmpR op_ge (pv 2) (pe_op op_pow pe_int pe_int) (nomark _)) (pw_and1 (pt_cmpR op_lt (pv 1) (pe_callB y_lenQ (by rfl) T.z_len (by decide +kernel) (pa_cons (pv 0) pa_nil)) (nomark _))))) (pss_one (ps_ret (pv 2))) pss_nil)
      (pss_one (ps_ret (pe_op op_mod (pe_callTy y_int (by rfl) T.z_int (by decide +kernel) (pa_cons (pe_op op_add (pe_op op_mul (pe_callTy y_int (by rfl) T.z_int (by decide +kernel) (pa_cons (pe_op op_add (pe_op op_add (pe_op op_mul (pv 2) pe_int) (pe_op op_mul (pv 1) pe_int)) pe_int) pa_nil)) pe_int) pe_int) pa_nil)) pe_int))))))), ?_⟩
    rw [show start N_Lrefill [.ref sc, .int k] = [some (.ref sc), some (.int k), none] from rfl]
    walk_at "rs"
    refine rd_truL hS (if_b (fun e => ?_) (fun e => ?_))
    · walk_at "rs"
      have hl : 0 < ns.length := by
        cases ns with
        | nil => cases e
        | cons _ _ => exact Nat.succ_pos _
      refine rd_lenL hS ?_
      walk_at "rs"
      · obtain ⟨v, hv, ev⟩ := atI_in (xs := ns.map V.int) (i := k % ((ns.map V.int).length : Int)) (Int.emod_nonneg _ (by rw [List.length_map]; omega)) (Int.emod_lt_of_pos _ (by rw [List.length_map]; omega))
        obtain ⟨c, _, rfl⟩ := List.mem_map.mp hv
        refine rd_ixL hS ev ?_
        walk_at "rs"
        refine if_dec (fun _ => ?_) (fun _ => ?_) <;> walk_at "rs" <;> refine if_dec (fun _ => ?_) (fun _ => ?_) <;> walk_at "rs" <;> (try refine rd_lenL hS ?_) <;> walk_at "rs" <;> (try refine if_dec (fun _ => ?_) (fun _ => ?_)) <;> walk_at "rs" <;> exact q _
      · rw [List.length_map]
        omega
    · walk_at "rs"
      refine if_dec (fun _ => ?_) (fun _ => ?_) <;> walk_at "rs" <;> refine if_dec (fun _ => ?_) (fun _ => ?_) <;> walk_at "rs" <;> (try refine rd_lenL hS ?_) <;> walk_at "rs" <;> (try refine if_dec (fun _ => ?_) (fun _ => ?_)) <;> walk_at "rs" <;> exact q _
def spDraw (K : PySem.W.Frag) : Sp := fun vs H Q _ => ∃ (st sc : Addr) (ns : List Int) (z : Int), vs = [.ref st, .ref sc, .int z] ∧ Wd K st sc ns H ∧ 0 < z ∧ z < 1073741824 ∧
  ∀ d H', 0 ≤ d → d < z → Dr st H H' → Wd K st sc ns H' → Q (.int d) H'
theorem draw_i {st sc : Addr} {ns : List Int} {z : Int} {H : Hp} {Q : VK} {E : XK} (W : Wd K st sc ns H) (h0 : 0 < z) (h1 : z < 1073741824)
    (q : ∀ d H', 0 ≤ d → d < z → Dr st H H' → Wd K st sc ns H' → Q (.int d) H') : spDraw K [.ref st, .ref sc, .int z] H Q E := ⟨st, sc, ns, z, rfl, W, h0, h1, q⟩
theorem ok_Ldraw (T : Tx K mg) : OkD P w K mg base CX0 2 "_law_draw" ["state", "script", "size"] (spDraw K) := by
  refine ok_mk T.d_Ldraw sc_Ldraw (fun vs H Q E h => ?_) (fun f cdv A outer s H vs Q E hr h => ?_)
  · obtain ⟨st, sc, ns, z, rfl, _⟩ := h
    rfl
  · obtain ⟨st, sc, ns, z, rfl, W, h0, h1, q⟩ := h
    refine ⟨_, (pss_cons (ps_if (pt_cmpR op_eq (pe_ix ix_list (pv 0) pe_int (fun _ _ => rfl)) pe_int (nomark _)) (pss_cons (ps_asg (pe_callD (ok_Lrefill T) hr (by rfl) pass0 (pa_cons (pv 1) (pa_cons (pe_ix ix_list (pv 0) pe_int (fun _ _ => rfl)) pa_nil))) (pg_sub (pv 0) pe_int set_list))
      (pss_one (ps_asg (pe_op op_add (pe_ix ix_list (pv 0) pe_int (fun _ _ => rfl)) pe_int) (pg_sub (pv 0) pe_int set_list)))) pss_nil)
      (pss_cons (ps_set (i := 3) sc_Ldraw.nd rfl (.inl rfl) (pe_op op_mod (pe_callTy y_int (by rfl) T.z_int (by decide +kernel) (pa_cons (pe_ix ix_list (pv 0) pe_int (fun _ _ => rfl)) pa_nil)) (pv 2)))
      (pss_cons (ps_asg (pe_op op_fdivN (pe_ix ix_list (pv 0) pe_int (fun _ _ => rfl)) (pv 2)) (pg_sub (pv 0) pe_int set_list))
      (pss_one (ps_ret (pv 3)))))), ?_⟩
    rw [show start N_Ldraw [.ref st, .ref sc, .int z] = [some (.ref st), some (.ref sc), some (.int z), none] from rfl]
    have fin : ∀ (H1 : Hp) (k v : Int) (_ : Dr st H H1) (e : H1 st = some (.lst [.int k, .int v])), Q (.int (v % z)) (upd H1 st (.lst [.int k, .int (v.fdiv z)])) := fun H1 k v d e =>
      q _ _ (Int.emod_nonneg _ (by omega)) (Int.emod_lt_of_pos _ h0) d.upds (W.next d.upds)
    obtain ⟨k, v, e⟩ := W.1
    walk_at "rd"
    refine rd_ixL (SqL.of e) (i := 1) rfl ?_
    walk_at "rd"
    refine if_dec (fun _ => ?_) (fun _ => ?_)
    · walk_at "rd"
      refine rd_ixL (SqL.of e) (i := 0) rfl ?_
      walk_at "rd"
      refine ⟨sc, ns, k, rfl, W.list, fun j => ?_⟩
      walk_at "rd"
      refine rd_setL e (j := 1) rfl ?_
      walk_at "rd"
      refine rd_ixL (SqL.of upd_same) (i := 0) rfl ?_
      walk_at "rd"
      refine rd_setL upd_same (j := 0) rfl ?_
      walk_at "rd"
      refine rd_ixL (SqL.of upd_same) (i := 1) rfl ?_
      walk_at "rd"
      · refine rd_ixL (SqL.of upd_same) (i := 1) rfl ?_
        walk_at "rd"
        · refine rd_setL upd_same (j := 1) rfl ?_
          walk_at "rd"
          exact fin _ _ _ (Dr.upds (Dr.upds W.dr)) upd_same
        · exact ⟨by omega, by omega⟩
      · exact h0
    · walk_at "rd"
      refine rd_ixL (SqL.of e) (i := 1) rfl ?_
      walk_at "rd"
      · refine rd_ixL (SqL.of e) (i := 1) rfl ?_
        walk_at "rd"
        · refine rd_setL e (j := 1) rfl ?_
          walk_at "rd"
          exact fin _ _ _ W.dr e
        · exact ⟨by omega, by omega⟩
      · exact h0
end


section
variable {P : Program} {w : World} {K : PySem.W.Frag} {mg : Str → Option Value} {base : Heap} {C E0 M : Addr}
def spCA (K : PySem.W.Frag) : Sp := fun vs H Q _ => ∃ (a b : Addr) (c q : List Int), vs = [.ref a, .ref b] ∧ SqL K H a (c.map V.int) ∧ SqL K H b (q.map V.int) ∧ c.length + q.length ≤ 100000 ∧ ∀ l H', Same H H' → H l = none → H' l = some (.lst ((aft c q).map V.int)) → Q (.ref l) H'
theorem ok_content_after (T : Tx K mg) : OkD P w K mg base CX0 1 "content_after" ["content", "steps"] (spCA K) := by
  refine ok_mk T.d_content_after sc_content_after (fun vs H Q E h => ?_) (fun f cdv A outer s H vs Q E hr h => ?_)
  · obtain ⟨a, b, c, q, rfl, _⟩ := h
    rfl
  · obtain ⟨a, b, c, q, rfl, ha, hb, hl, k⟩ := h
    refine ⟨_, (pss_cons (ps_set (i := 2) sc_content_after.nd rfl (.inl rfl) (pe_callTy y_listOf (by rfl) T.z_list (by decide +kernel) (pa_cons (pv 0) pa_nil)))
      (pss_cons (ps_for PassesOwn.never rfl (pi_list (pv 1)) (pg_name (i := 3) sc_content_after.nd rfl (Or.inl rfl)) (pss_one (ps_if (pt_cmpR op_eq (pv 3) (pe_kI (by rfl) T.c_CLEARING) (nomark _)) (pss_one (ps_expr (pe_bm0 PySem.F.plainAttrs_list PySem.F.slot_list_clear PySem.F.type_list_clear mt_clear (pv 2)))) (pss_one (ps_expr (pe_bm PySem.F.plainAttrs_list PySem.F.slot_list_append PySem.F.type_list_append mt_append (pv 2) (pa_cons (pv 3) pa_nil)))))))
      (pss_one (ps_ret (pv 2))))), ?_⟩
    rw [show start N_content_after [.ref a, .ref b] = [some (.ref a), some (.ref b), none, none] from rfl]
    walk_at "rs"
    refine rd_listL ha fun l nl => ?_
    walk_at "rs"
    have hb' : ∀ H', Same H H' → SqL K H' b (q.map V.int) := fun H' s => Same.seq s hb
    refine rd_wSq (hb' _ (same_new nl)) ?_
    refine frJ (walk_l (xs := q.map V.int)) (fun i σ H' => Same H H' ∧ H' l = some (.lst ((aft c (q.take i)).map V.int)) ∧ ∃ x3, σ = [some (.ref a), some (.ref b), some (.ref l), x3]) ⟨same_new nl, by rw [upd_same]; rfl, none, rfl⟩ (fun i σ H' _ p => hb' _ p.1) (fun i v σ H' hv p => ?_) (fun σ H' p => ?_)
    · obtain ⟨sm, el, x3, rfl⟩ := p
      obtain ⟨z, hz, rfl⟩ : ∃ z, q[i]? = some z ∧ v = .int z := by
        rw [List.getElem?_map] at hv
        cases hx : q[i]? with
        | none =>
          rw [hx] at hv
          cases hv
        | some z =>
          rw [hx] at hv
          exact ⟨z, rfl, (Option.some.inj hv).symm⟩
      have et : q.take (i + 1) = q.take i ++ [z] := by rw [List.take_add_one, hz]; rfl
      have ll := aft_len (q.take i) c
      have lt : (q.take i).length ≤ q.length := List.length_take_le' _ _
      walk_at "rs"
      refine if_dec (fun c1 => ?_) (fun c1 => ?_)
      · walk_at "rs"
        refine rd_wTyL (SqL.of el) ?_
        refine rd_clear el ?_
        walk_at "rs"
        refine ⟨fun b' o e => ?_, ?_, _, rfl⟩
        · rw [upd_ne (ne_of_none e nl)]
          exact sm _ _ e
        · rw [upd_same, et, aft_snoc]
          unfold aft1
          rw [if_pos c1]
          rfl
      · walk_at "rs"
        refine rd_wTyL (SqL.of el) ?_
        walk_at "rs"
        refine rd_appendB el (by rw [List.length_map]; omega) ?_
        walk_at "rs"
        refine ⟨fun b' o e => ?_, ?_, _, rfl⟩
        · rw [upd_ne (ne_of_none e nl)]
          exact sm _ _ e
        · rw [upd_same, et, aft_snoc]
          unfold aft1
          rw [if_neg c1, List.map_append]
          rfl
    · obtain ⟨sm, el, x3, rfl⟩ := p
      rw [List.length_map, List.take_length] at el
      walk_at "rs"
      exact k l H' sm nl el
/-- what stands behind a change of a disk -/
def DkA (C : Addr) (H : Hp) (p : Addr) (o : List Addr) (F : Fls) (pw : Option Nat) (R : Hp → Prop) : Prop := ∀ H' o', Chg o H H' → (∀ x ∈ o', x ∈ o ∨ H x = none) → Dk C H' p o' F pw → R H'
def spDkInit (C : Addr) : Sp := fun vs H Q _ => ∃ (p dx : Addr), vs = [.ref p] ∧ H p = some (.ins C dx []) ∧ ∀ H' o', (∀ x ob, x ≠ p → H x = some ob → H' x = some ob) → (∀ x ∈ o', x = p ∨ H x = none) → Dk C H' p o' (fun _ => ([], [])) none → Q .non H'
theorem ok_Disk_init (T : Tx K mg) (Z : Cs_Disk K mg C) : OkM P w K mg base CX0 1 C "__init__" ["self"] (spDkInit C) := by
  refine ok_mkM Z.m_Disk_init sc_Disk_init (fun vs H Q E h => ?_) (fun f cdv A outer s H vs Q E hr h => ?_)
  · obtain ⟨p, dx, rfl, _⟩ := h
    rfl
  · obtain ⟨p, dx, rfl, e, q⟩ := h
    refine ⟨_, (pss_cons (ps_fld (pv 0) (pe_lst (pa_cons (pe_lst pa_nil) (pa_cons (pe_lst pa_nil) pa_nil))) rfl)
      (pss_cons (ps_fld (pv 0) (pe_lst (pa_cons (pe_lst pa_nil) (pa_cons (pe_lst pa_nil) pa_nil))) rfl)
      (pss_one (ps_fld (pv 0) pe_non rfl)))), ?_⟩
    rw [show start N_Disk_init [.ref p] = [some (.ref p)] from rfl]
    walk_at "rs"
    refine rd_wLsG (Nat.le_of_ble_eq_true rfl) fun a0 H1 na0 s1 ea0 => ?_
    walk_at "rs"
    refine rd_wLsG (Nat.le_of_ble_eq_true rfl) fun a1 H2 na1 s2 ea1 => ?_
    walk_at "rs"
    refine rd_wLsG (Nat.le_of_ble_eq_true rfl) fun d H3 nd s3 ed => ?_
    walk_at "rs"
    have ep3 := s3 _ _ (s2 _ _ (s1 _ _ e))
    have ea03 := s3 _ _ (s2 _ _ ea0)
    have ea13 := s3 _ _ ea1
    refine rd_wSFld ep3 Z.c.cl Z.n_durable (by show 0 < 1000; decide) ?_
    walk_at "rs"
    have ea04 : (upd H3 p (.ins C dx (putF "_durable" (.ref d) []))) a0 = _ := (upd_ne (ins_lst ep3 ea03).symm).trans ea03
    have ea14 : (upd H3 p (.ins C dx (putF "_durable" (.ref d) []))) a1 = _ := (upd_ne (ins_lst ep3 ea13).symm).trans ea13
    have ed4 : (upd H3 p (.ins C dx (putF "_durable" (.ref d) []))) d = _ := (upd_ne (ins_lst ep3 ed).symm).trans ed
    refine rd_wLsG (Nat.le_of_ble_eq_true rfl) fun b0 H5 nb0 s5 eb0 => ?_
    walk_at "rs"
    refine rd_wLsG (Nat.le_of_ble_eq_true rfl) fun b1 H6 nb1 s6 eb1 => ?_
    walk_at "rs"
    refine rd_wLsG (Nat.le_of_ble_eq_true rfl) fun s H7 ns s7 es => ?_
    walk_at "rs"
    have s47 := (s5.trans s6).trans s7
    have ep7 := s47 _ _ (upd_same (H := H3) (a := p) (o := .ins C dx (putF "_durable" (.ref d) [])))
    have ea07 := s47 _ _ ea04
    have ea17 := s47 _ _ ea14
    have ed7 := s47 _ _ ed4
    have eb07 := s7 _ _ (s6 _ _ eb0)
    have eb17 := s7 _ _ eb1
    refine rd_wSFld ep7 Z.c.cl Z.n_steps (by show 1 < 1000; decide) ?_
    walk_at "rs"
    refine rd_wSFld upd_same Z.c.cl Z.n_power (by show (putF _ _ [_]).length < 1000; unfold putF; split <;> simp [putF]) ?_
    walk_at "rs"
    refine q _ [p, d, s, a0, a1, b0, b1] (fun x ob nx hx => ?_) (fun x hx => ?_) ⟨dx, d, s, a0, a1, b0, b1, rfl, nd6_mk ⟨⟨?_, ?_, ?_, ?_, ?_⟩, ⟨?_, ?_, ?_, ?_⟩, ⟨?_, ?_, ?_⟩, ⟨?_, ?_⟩, ?_⟩, ⟨upd_same, ?_, ?_, ?_, ?_, ?_, ?_⟩⟩
    · rw [upd_ne nx, upd_ne nx]
      refine s47 _ _ ?_
      rw [upd_ne nx]
      exact s3 _ _ (s2 _ _ (s1 _ _ hx))
    · simp only [List.mem_cons, List.not_mem_nil, or_false] at hx
      have f4 : ∀ z, (upd H3 p (.ins C dx (putF "_durable" (.ref d) []))) z = none → H z = none := fun z hz => s1.free (s2.free (s3.free (free_upd hz).1))
      rcases hx with rfl | rfl | rfl | rfl | rfl | rfl | rfl
      · exact .inl rfl
      · exact .inr (s1.free (s2.free nd))
      · exact .inr (f4 _ (s5.free (s6.free ns)))
      · exact .inr na0
      · exact .inr (s1.free na1)
      · exact .inr (f4 _ nb0)
      · exact .inr (f4 _ (s5.free nb1))
    · exact ne_of_none (s6 _ _ (s5 _ _ ed4)) ns
    · exact (ne_of_none (s2 _ _ ea0) nd).symm
    · exact (ne_of_none ea1 nd).symm
    · exact ne_of_none ed4 nb0
    · exact ne_of_none (s5 _ _ ed4) nb1
    · exact (ne_of_none (s6 _ _ (s5 _ _ ea04)) ns).symm
    · exact (ne_of_none (s6 _ _ (s5 _ _ ea14)) ns).symm
    · exact (ne_of_none (s6 _ _ eb0) ns).symm
    · exact (ne_of_none eb1 ns).symm
    · exact ne_of_none ea0 na1
    · exact ne_of_none ea04 nb0
    · exact ne_of_none (s5 _ _ ea04) nb1
    · exact ne_of_none ea14 nb0
    · exact ne_of_none (s5 _ _ ea14) nb1
    · exact ne_of_none eb0 nb1
    all_goals first
      | exact (upd_ne (ins_lst ep7 ed7).symm).trans ((upd_ne (ins_lst ep7 ed7).symm).trans ed7)
      | exact (upd_ne (ins_lst ep7 es).symm).trans ((upd_ne (ins_lst ep7 es).symm).trans es)
      | exact (upd_ne (ins_lst ep7 ea07).symm).trans ((upd_ne (ins_lst ep7 ea07).symm).trans ea07)
      | exact (upd_ne (ins_lst ep7 ea17).symm).trans ((upd_ne (ins_lst ep7 ea17).symm).trans ea17)
      | exact (upd_ne (ins_lst ep7 eb07).symm).trans ((upd_ne (ins_lst ep7 eb07).symm).trans eb07)
      | exact (upd_ne (ins_lst ep7 eb17).symm).trans ((upd_ne (ins_lst ep7 eb17).symm).trans eb17)
def spSpend (C : Addr) : Sp := fun vs H Q _ => ∃ (p : Addr) (o : List Addr) (F : Fls) (pw : Option Nat) (n : Nat), vs = [.ref p, .int n] ∧ Dk C H p o F pw ∧ DkA C H p o F (spP pw n) (Q (.int (cntO pw n : Nat)))
theorem Dk.pow {H : Hp} {p : Addr} {o : List Addr} {F : Fls} {pw : Option Nat} (h : Dk C H p o F pw) : ∃ dx d s, H p = some (.ins C dx (kfl d s (pwV pw))) ∧ ∀ pw', Dk C (upd H p (.ins C dx (kfl d s (pwV pw')))) p o F pw' ∧ Chg o H (upd H p (.ins C dx (kfl d s (pwV pw')))) := by
  obtain ⟨dx, d, s, a0, a1, b0, b1, rfl, nd, k⟩ := h
  refine ⟨dx, d, s, k.ep, fun pw' => ⟨⟨dx, d, s, a0, a1, b0, b1, rfl, nd, ⟨upd_same, (upd_ne (ins_lst k.ep k.ed).symm).trans k.ed, (upd_ne (ins_lst k.ep k.es).symm).trans k.es, (upd_ne (ins_lst k.ep k.e0).symm).trans k.e0, (upd_ne (ins_lst k.ep k.e1).symm).trans k.e1, (upd_ne (ins_lst k.ep k.g0).symm).trans k.g0, (upd_ne (ins_lst k.ep k.g1).symm).trans k.g1⟩⟩, Chg.put (Chg.refl _ _) (.inl (by simp))⟩⟩
theorem ok_Disk_spend (T : Tx K mg) (Z : Cs_Disk K mg C) : OkM P w K mg base CX0 1 C "_spend" ["self", "steps"] (spSpend C) := by
  refine ok_mkM Z.m_Disk_spend sc_Disk_spend (fun vs H Q E h => ?_) (fun f cdv A outer s H vs Q E hr h => ?_)
  · obtain ⟨p, o, F, pw, n, rfl, _⟩ := h
    rfl
  · obtain ⟨p, o, F, pw, n, rfl, hD, q⟩ := h
    obtain ⟨dx, d, s, ep, hup⟩ := hD.pow
    refine ⟨_, (pss_cons (ps_if (pt_cmpR y_isN (pe_fld (pv 0) rfl) pe_non (nomark _)) (pss_one (ps_ret (pv 1))) pss_nil)
      (pss_cons (ps_set (i := 2) sc_Disk_spend.nd rfl (.inl rfl) (pe_callB (y_max2 rfl) (by rfl) T.z_max (by decide +kernel) (pa_cons pe_int (pa_cons (pe_callB (y_min2 rfl) (by rfl) T.z_min (by decide +kernel) (pa_cons (pv 1) (pa_cons (pe_fld (pv 0) rfl) pa_nil))) pa_nil))))
      (pss_cons (ps_fld (pv 0) (pe_op op_sub (pe_fld (pv 0) rfl) (pv 2)) rfl)
      (pss_one (ps_ret (pv 2)))))), ?_⟩
    rw [show start N_Disk_spend [.ref p, .int n] = [some (.ref p), some (.int n), none] from rfl]
    walk_at "rs"
    refine rd_wFld ep Z.c.cl Z.n_power (kfl_p _ _ _) ?_
    walk_at "rs"
    cases pw with
    | none =>
      refine if_dec (fun _ => ?_) (fun c => absurd rfl c)
      walk_at "rs"
      exact q H o (Chg.refl _ _) (fun x h => .inl h) hD
    | some k =>
      refine if_dec (fun c => by cases c) (fun _ => ?_)
      walk_at "rs"
      refine rd_wFld ep Z.c.cl Z.n_power (kfl_p _ _ _) ?_
      rw [show pwV (some k) = V.int k from rfl]
      walk_at "rs"
      refine rd_wFld ep Z.c.cl Z.n_power (kfl_p _ _ _) ?_
      rw [show pwV (some k) = V.int k from rfl]
      walk_at "rs"
      refine rd_wSFld ep Z.c.cl Z.n_power (kfl_len _ _ _) ?_
      walk_at "rs"
      have em : (if (k : Int) < n then (k : Int) else n) = (min k n : Nat) := by
        by_cases g : k < n
        · rw [if_pos (by omega), Nat.min_eq_left (by omega)]
        · rw [if_neg (by omega), Nat.min_eq_right (by omega)]
      have e0 : (if ((min k n : Nat) : Int) > 0 then ((min k n : Nat) : Int) else 0) = (min k n : Nat) := by
        split <;> omega
      rw [em, e0, kfl_put, show (k : Int) - (min k n : Nat) = (k - min k n : Nat) by omega]
      obtain ⟨D2, c2⟩ := hup (some (k - min k n))
      exact q _ o c2 (fun x h => .inl h) D2
def spMd (C : Addr) : Sp := fun vs H Q _ => ∃ (p : Addr) (o : List Addr) (F : Fls) (pw : Option Nat) (f many : Nat), vs = [.ref p, .int f, .int many] ∧ Dk C H p o F pw ∧ f < 2 ∧ Sz F 10000 ∧ DkA C H p o (durF F f many) pw (Q .non)
theorem ok_Disk_make_durable (T : Tx K mg) (Z : Cs_Disk K mg C) : OkM P w K mg base CX0 2 C "_make_durable" ["self", "file", "many"] (spMd C) := by
  refine ok_mkM Z.m_Disk_make_durable sc_Disk_make_durable (fun vs H Q E h => ?_) (fun f cdv A outer s H vs Q E hr h => ?_)
  · obtain ⟨p, o, F, pw, f, many, rfl, _⟩ := h
    rfl
  · obtain ⟨p, o, F, pw, f, many, rfl, hD, hf, hz, q⟩ := h
    obtain ⟨dx, d, s, a0, a1, b0, b1, rfl, nd, k⟩ := hD
    refine ⟨_, (pss_cons (ps_asg (pe_callD (ok_content_after T) hr (by rfl) pass0 (pa_cons (pe_ix ix_list (pe_fld (pv 0) rfl) (pv 1) (fun _ _ => rfl)) (pa_cons (pe_slice sl_list (pe_ix ix_list (pe_fld (pv 0) rfl) (pv 1) (fun _ _ => rfl)) po_none (po_some (pe_callB (y_max2 rfl) (by rfl) T.z_max (by decide +kernel) (pa_cons pe_int (pa_cons (pv 2) pa_nil))))) pa_nil))) (pg_sub (pe_fld (pv 0) rfl) (pv 1) set_list))
      (pss_one (ps_asg (pe_lst pa_nil) (pg_sub (pe_fld (pv 0) rfl) (pv 1) set_list)))), ?_⟩
    rw [show start N_Disk_make_durable [.ref p, .int f, .int many] = [some (.ref p), some (.int f), some (.int many)] from rfl]
    obtain rfl | rfl : f = 0 ∨ f = 1 := by omega
    · walk_at "rs"
      refine rd_wFld k.ep Z.c.cl Z.n_durable (kfl_d _ _ _) ?_
      walk_at "rs"
      refine rd_ixL (SqL.of k.ed) (i := ((0 : Nat) : Int)) (v := .ref a0) rfl ?_
      walk_at "rs"
      refine rd_wFld k.ep Z.c.cl Z.n_steps (kfl_s _ _ _) ?_
      walk_at "rs"
      refine rd_ixL (SqL.of k.es) (i := ((0 : Nat) : Int)) (v := .ref b0) rfl ?_
      walk_at "rs"
      rw [show (if (many : Int) > 0 then (many : Int) else 0) = (many : Nat) by split <;> omega]
      refine rd_slLto (SqL.of k.g0) fun n1 nn1 => ?_
      walk_at "rs"
      have s1 := same_new nn1 (o := .lst ((((F 0).2.map V.int)).take many))
      refine ⟨a0, n1, (F 0).1, (F 0).2.take many, rfl, SqL.of (s1 _ _ k.e0), SqL.of (by rw [upd_same, List.map_take]), (by have := hz 0; have := List.length_take_le' many (F 0).2; omega), fun l H2 sm2 nl el => ?_⟩
      have s2 := s1.trans sm2
      have nl' : H l = none := s1.free nl
      walk_at "rs"
      refine rd_wFld (s2 _ _ k.ep) Z.c.cl Z.n_durable (kfl_d _ _ _) ?_
      walk_at "rs"
      refine rd_setL (s2 _ _ k.ed) (j := 0) rfl ?_
      walk_at "rs"
      refine rd_wLsG (Nat.le_of_ble_eq_true rfl) fun n2 H4 nn2 s4 en2 => ?_
      walk_at "rs"
      obtain ⟨n2a, n2d⟩ := free_upd nn2
      have nn2' : H n2 = none := s2.free n2a
      obtain ⟨⟨h1, h2, h3, h4, h5⟩, ⟨h6, h7, h8, h9⟩, ⟨h10, h11, h12⟩, ⟨h13, h14⟩, h15⟩ := nd6 nd
      have ep4 := s4 _ _ ((upd_ne (ins_lst k.ep k.ed)).trans (s2 _ _ k.ep))
      have es4 := s4 _ _ ((upd_ne h1.symm).trans (s2 _ _ k.es))
      have eO4 := s4 _ _ ((upd_ne h3.symm).trans (s2 _ _ k.e1))
      have gO4 := s4 _ _ ((upd_ne h5.symm).trans (s2 _ _ k.g1))
      have nld : l ≠ d := (ne_of_none k.ed nl').symm
      have nls : l ≠ s := (ne_of_none k.es nl').symm
      have el4 := s4 _ _ ((upd_ne nld).trans el)
      have ed4 := s4 _ _ (upd_same (H := H2) (a := d))
      refine rd_wFld ep4 Z.c.cl Z.n_steps (kfl_s _ _ _) ?_
      walk_at "rs"
      refine rd_setL es4 (j := 0) rfl ?_
      walk_at "rs"
      have n2s : n2 ≠ s := (ne_of_none k.es nn2').symm
      have n2l : n2 ≠ l := (ne_of_none el n2a).symm
      refine q _ [p, d, s, l, a1, n2, b1] (Chg.put (Chg.then (Chg.put (Chg.same s2) (.inl (by simp))) s4) (.inl (by simp))) (fun x hx => ?_) ⟨dx, d, s, l, a1, n2, b1, rfl, nd6_mk ⟨⟨?_, ?_, ?_, ?_, ?_⟩, ⟨?_, ?_, ?_, ?_⟩, ⟨?_, ?_, ?_⟩, ⟨?_, ?_⟩, ?_⟩, ⟨?_, ?_, ?_, ?_, ?_, ?_, ?_⟩⟩
      · simp only [List.mem_cons, List.not_mem_nil, or_false] at hx
        rcases hx with rfl | rfl | rfl | rfl | rfl | rfl | rfl
        all_goals first
          | exact .inr nl'
          | exact .inr nn2'
          | exact .inl (by simp)
      all_goals first
        | assumption
        | exact Ne.symm (by assumption)
        | exact ne_of_none k.e0 nl'
        | exact ne_of_none k.e1 nl'
        | exact ne_of_none k.g0 nl'
        | exact ne_of_none k.g1 nl'
        | exact (ne_of_none k.e0 nl').symm
        | exact (ne_of_none k.e1 nl').symm
        | exact (ne_of_none k.g0 nl').symm
        | exact (ne_of_none k.g1 nl').symm
        | exact ne_of_none k.ed nn2'
        | exact ne_of_none k.e0 nn2'
        | exact ne_of_none k.e1 nn2'
        | exact ne_of_none k.g0 nn2'
        | exact ne_of_none k.g1 nn2'
        | exact (ne_of_none k.e0 nn2').symm
        | exact (ne_of_none k.e1 nn2').symm
        | exact (ne_of_none k.g0 nn2').symm
        | exact (ne_of_none k.g1 nn2').symm
        | exact (upd_ne (ins_lst k.ep k.es)).trans ep4
        | exact (upd_ne h1).trans ed4
        | exact upd_same
        | exact (upd_ne (by assumption)).trans eO4
        | exact (upd_ne (Ne.symm (by assumption))).trans eO4
        | exact (upd_ne (by assumption)).trans gO4
        | exact (upd_ne (Ne.symm (by assumption))).trans gO4
        | exact (upd_ne nls).trans el4
        | exact (upd_ne n2s).trans en2
    · walk_at "rs"
      refine rd_wFld k.ep Z.c.cl Z.n_durable (kfl_d _ _ _) ?_
      walk_at "rs"
      refine rd_ixL (SqL.of k.ed) (i := ((1 : Nat) : Int)) (v := .ref a1) rfl ?_
      walk_at "rs"
      refine rd_wFld k.ep Z.c.cl Z.n_steps (kfl_s _ _ _) ?_
      walk_at "rs"
      refine rd_ixL (SqL.of k.es) (i := ((1 : Nat) : Int)) (v := .ref b1) rfl ?_
      walk_at "rs"
      rw [show (if (many : Int) > 0 then (many : Int) else 0) = (many : Nat) by split <;> omega]
      refine rd_slLto (SqL.of k.g1) fun n1 nn1 => ?_
      walk_at "rs"
      have s1 := same_new nn1 (o := .lst ((((F 1).2.map V.int)).take many))
      refine ⟨a1, n1, (F 1).1, (F 1).2.take many, rfl, SqL.of (s1 _ _ k.e1), SqL.of (by rw [upd_same, List.map_take]), (by have := hz 1; have := List.length_take_le' many (F 1).2; omega), fun l H2 sm2 nl el => ?_⟩
      have s2 := s1.trans sm2
      have nl' : H l = none := s1.free nl
      walk_at "rs"
      refine rd_wFld (s2 _ _ k.ep) Z.c.cl Z.n_durable (kfl_d _ _ _) ?_
      walk_at "rs"
      refine rd_setL (s2 _ _ k.ed) (j := 1) rfl ?_
      walk_at "rs"
      refine rd_wLsG (Nat.le_of_ble_eq_true rfl) fun n2 H4 nn2 s4 en2 => ?_
      walk_at "rs"
      obtain ⟨n2a, n2d⟩ := free_upd nn2
      have nn2' : H n2 = none := s2.free n2a
      obtain ⟨⟨h1, h2, h3, h4, h5⟩, ⟨h6, h7, h8, h9⟩, ⟨h10, h11, h12⟩, ⟨h13, h14⟩, h15⟩ := nd6 nd
      have ep4 := s4 _ _ ((upd_ne (ins_lst k.ep k.ed)).trans (s2 _ _ k.ep))
      have es4 := s4 _ _ ((upd_ne h1.symm).trans (s2 _ _ k.es))
      have eO4 := s4 _ _ ((upd_ne h2.symm).trans (s2 _ _ k.e0))
      have gO4 := s4 _ _ ((upd_ne h4.symm).trans (s2 _ _ k.g0))
      have nld : l ≠ d := (ne_of_none k.ed nl').symm
      have nls : l ≠ s := (ne_of_none k.es nl').symm
      have el4 := s4 _ _ ((upd_ne nld).trans el)
      have ed4 := s4 _ _ (upd_same (H := H2) (a := d))
      refine rd_wFld ep4 Z.c.cl Z.n_steps (kfl_s _ _ _) ?_
      walk_at "rs"
      refine rd_setL es4 (j := 1) rfl ?_
      walk_at "rs"
      have n2s : n2 ≠ s := (ne_of_none k.es nn2').symm
      have n2l : n2 ≠ l := (ne_of_none el n2a).symm
      refine q _ [p, d, s, a0, l, b0, n2] (Chg.put (Chg.then (Chg.put (Chg.same s2) (.inl (by simp))) s4) (.inl (by simp))) (fun x hx => ?_) ⟨dx, d, s, a0, l, b0, n2, rfl, nd6_mk ⟨⟨?_, ?_, ?_, ?_, ?_⟩, ⟨?_, ?_, ?_, ?_⟩, ⟨?_, ?_, ?_⟩, ⟨?_, ?_⟩, ?_⟩, ⟨?_, ?_, ?_, ?_, ?_, ?_, ?_⟩⟩
      · simp only [List.mem_cons, List.not_mem_nil, or_false] at hx
        rcases hx with rfl | rfl | rfl | rfl | rfl | rfl | rfl
        all_goals first
          | exact .inr nl'
          | exact .inr nn2'
          | exact .inl (by simp)
      all_goals first
        | assumption
        | exact Ne.symm (by assumption)
        | exact ne_of_none k.e0 nl'
        | exact ne_of_none k.e1 nl'
        | exact ne_of_none k.g0 nl'
        | exact ne_of_none k.g1 nl'
        | exact (ne_of_none k.e0 nl').symm
        | exact (ne_of_none k.e1 nl').symm
        | exact (ne_of_none k.g0 nl').symm
        | exact (ne_of_none k.g1 nl').symm
        | exact ne_of_none k.ed nn2'
        | exact ne_of_none k.e0 nn2'
        | exact ne_of_none k.e1 nn2'
        | exact ne_of_none k.g0 nn2'
        | exact ne_of_none k.g1 nn2'
        | exact (ne_of_none k.e0 nn2').symm
        | exact (ne_of_none k.e1 nn2').symm
        | exact (ne_of_none k.g0 nn2').symm
        | exact (ne_of_none k.g1 nn2').symm
        | exact (upd_ne (ins_lst k.ep k.es)).trans ep4
        | exact (upd_ne h1).trans ed4
        | exact upd_same
        | exact (upd_ne (by assumption)).trans eO4
        | exact (upd_ne (Ne.symm (by assumption))).trans eO4
        | exact (upd_ne (by assumption)).trans gO4
        | exact (upd_ne (Ne.symm (by assumption))).trans gO4
        | exact (upd_ne nls).trans el4
        | exact (upd_ne n2s).trans en2
theorem DkA.two {H H1 : Hp} {p : Addr} {o o1 : List Addr} {F : Fls} {pw : Option Nat} {R : Hp → Prop} (c : Chg o H H1) (i : ∀ x ∈ o1, x ∈ o ∨ H x = none) (h : DkA C H p o F pw R) : DkA C H1 p o1 F pw R := fun H2 o2 c2 i2 D => by
  have dead : ∀ x, H1 x = none → x ∈ o ∨ H x = none := fun x hx => by
    by_cases m : x ∈ o
    · exact .inl m
    · cases e : H x with
      | none => exact .inr rfl
      | some u =>
        rw [c x u m e] at hx
        cases hx
  refine h H2 o2 (c.trans c2 i) (fun x hx => ?_) D
  rcases i2 x hx with g | g
  · exact i x g
  · exact dead x g
def spCont (C : Addr) : Sp := fun vs H Q _ => ∃ (p : Addr) (o : List Addr) (F : Fls) (pw : Option Nat) (f : Nat), vs = [.ref p, .int f] ∧ Dk C H p o F pw ∧ f < 2 ∧ Sz F 10000 ∧ ∀ l H', Same H H' → H l = none → H' l = some (.lst ((aft (F f).1 (F f).2).map V.int)) → Q (.ref l) H'
theorem Dk.file {H : Hp} {p : Addr} {o : List Addr} {F : Fls} {pw : Option Nat} (h : Dk C H p o F pw) {f : Nat} (hf : f < 2) : ∃ dx d s a b xs ys, H p = some (.ins C dx (kfl d s (pwV pw))) ∧ H d = some (.lst xs) ∧ atI xs (f : Int) = some (.ref a) ∧ H s = some (.lst ys) ∧ atI ys (f : Int) = some (.ref b) ∧
    H a = some (.lst ((F f).1.map V.int)) ∧ H b = some (.lst ((F f).2.map V.int)) := by
  obtain ⟨dx, d, s, a0, a1, b0, b1, rfl, nd, k⟩ := h
  obtain rfl | rfl : f = 0 ∨ f = 1 := by omega
  · exact ⟨dx, d, s, a0, b0, _, _, k.ep, k.ed, rfl, k.es, rfl, k.e0, k.g0⟩
  · exact ⟨dx, d, s, a1, b1, _, _, k.ep, k.ed, rfl, k.es, rfl, k.e1, k.g1⟩
theorem ok_Disk_content (T : Tx K mg) (Z : Cs_Disk K mg C) : OkM P w K mg base CX0 2 C "content" ["self", "file"] (spCont C) := by
  refine ok_mkM Z.m_Disk_content sc_Disk_content (fun vs H Q E h => ?_) (fun f cdv A outer s H vs Q E hr h => ?_)
  · obtain ⟨p, o, F, pw, f, rfl, _⟩ := h
    rfl
  · obtain ⟨p, o, F, pw, f, rfl, hD, hf, hz, q⟩ := h
    obtain ⟨dx, d, s, a, b, xs, ys, ep, ed, ia, es, ib, ea, eb⟩ := hD.file hf
    refine ⟨_, (pss_one (ps_ret (pe_callD (ok_content_after T) hr (by rfl) pass0 (pa_cons (pe_ix ix_list (pe_fld (pv 0) rfl) (pv 1) (fun _ _ => rfl)) (pa_cons (pe_ix ix_list (pe_fld (pv 0) rfl) (pv 1) (fun _ _ => rfl)) pa_nil))))), ?_⟩
    rw [show start N_Disk_content [.ref p, .int f] = [some (.ref p), some (.int f)] from rfl]
    walk_at "rs"
    refine rd_wFld ep Z.c.cl Z.n_durable (kfl_d _ _ _) ?_
    walk_at "rs"
    refine rd_ixL (SqL.of ed) ia ?_
    walk_at "rs"
    refine rd_wFld ep Z.c.cl Z.n_steps (kfl_s _ _ _) ?_
    walk_at "rs"
    refine rd_ixL (SqL.of es) ib ?_
    walk_at "rs"
    exact ⟨a, b, _, _, rfl, SqL.of ea, SqL.of eb, by have := hz f; omega, q⟩
def spPend (C : Addr) : Sp := fun vs H Q _ => ∃ (p : Addr) (o : List Addr) (F : Fls) (pw : Option Nat) (f : Nat), vs = [.ref p, .int f] ∧ Dk C H p o F pw ∧ f < 2 ∧ Q (.int ((F f).2.length : Nat)) H
theorem ok_Disk_pending (T : Tx K mg) (Z : Cs_Disk K mg C) : OkM P w K mg base CX0 1 C "pending" ["self", "file"] (spPend C) := by
  refine ok_mkM Z.m_Disk_pending sc_Disk_pending (fun vs H Q E h => ?_) (fun f cdv A outer s H vs Q E hr h => ?_)
  · obtain ⟨p, o, F, pw, f, rfl, _⟩ := h
    rfl
  · obtain ⟨p, o, F, pw, f, rfl, hD, hf, q⟩ := h
    obtain ⟨dx, d, s, a, b, xs, ys, ep, ed, ia, es, ib, ea, eb⟩ := hD.file hf
    refine ⟨_, (pss_one (ps_ret (pe_callB y_lenQ (by rfl) T.z_len (by decide +kernel) (pa_cons (pe_ix ix_list (pe_fld (pv 0) rfl) (pv 1) (fun _ _ => rfl)) pa_nil)))), ?_⟩
    rw [show start N_Disk_pending [.ref p, .int f] = [some (.ref p), some (.int f)] from rfl]
    walk_at "rs"
    refine rd_wFld ep Z.c.cl Z.n_steps (kfl_s _ _ _) ?_
    walk_at "rs"
    refine rd_ixL (SqL.of es) ib ?_
    refine rd_lenL (SqL.of eb) ?_
    rw [List.length_map]
    exact q
def spLimit (C : Addr) : Sp := fun vs H Q _ => ∃ (p : Addr) (o : List Addr) (F : Fls) (pw pw' : Option Nat), vs = [.ref p, pwV pw'] ∧ Dk C H p o F pw ∧ DkA C H p o F pw' (Q .non)
theorem ok_Disk_limit (T : Tx K mg) (Z : Cs_Disk K mg C) : OkM P w K mg base CX0 1 C "limit" ["self", "steps"] (spLimit C) := by
  refine ok_mkM Z.m_Disk_limit sc_Disk_limit (fun vs H Q E h => ?_) (fun f cdv A outer s H vs Q E hr h => ?_)
  · obtain ⟨p, o, F, pw, pw', rfl, _⟩ := h
    rfl
  · obtain ⟨p, o, F, pw, pw', rfl, hD, q⟩ := h
    obtain ⟨dx, d, s, ep, hup⟩ := hD.pow
    refine ⟨_, (pss_one (ps_fld (pv 0) (pv 1) rfl)), ?_⟩
    rw [show start N_Disk_limit [.ref p, pwV pw'] = [some (.ref p), some (pwV pw')] from rfl]
    walk_at "rs"
    refine rd_wSFld ep Z.c.cl Z.n_power (kfl_len _ _ _) ?_
    rw [kfl_put]
    obtain ⟨D2, c2⟩ := hup pw'
    exact q _ o c2 (fun x h => .inl h) D2
def spCrash (C : Addr) : Sp := fun vs H Q _ => ∃ (p : Addr) (o : List Addr) (F : Fls) (pw : Option Nat) (a b : Nat), vs = [.ref p, .int a, .int b] ∧ Dk C H p o F pw ∧ Sz F 10000 ∧ DkA C H p o (durF (durF F 0 a) 1 b) none (Q .non)
theorem durF_sz {F : Fls} {f many n : Nat} (h : Sz F n) : Sz (durF F f many) n := Sz.up h (Nat.le_refl _) (by
  have h1 := aft_len ((F f).2.take many) (F f).1
  have h2 := List.length_take_le' many (F f).2
  have h3 := h f
  show (aft (F f).1 ((F f).2.take many)).length + 0 ≤ n
  omega)
theorem ok_Disk_crash (T : Tx K mg) (Z : Cs_Disk K mg C) : OkM P w K mg base CX0 3 C "crash" ["self", "a", "b"] (spCrash C) := by
  refine ok_mkM Z.m_Disk_crash sc_Disk_crash (fun vs H Q E h => ?_) (fun f cdv A outer s H vs Q E hr h => ?_)
  · obtain ⟨p, o, F, pw, a, b, rfl, _⟩ := h
    rfl
  · obtain ⟨p, o, F, pw, a, b, rfl, hD, hz, q⟩ := h
    obtain ⟨dx, d, s, ep, _⟩ := hD.pow
    refine ⟨_, (pss_cons (ps_expr (pe_methD Z.c.cl (ok_Disk_make_durable T Z) hr pass0 (pv 0) (pa_cons pe_int (pa_cons (pv 1) pa_nil))))
      (pss_cons (ps_expr (pe_methD Z.c.cl (ok_Disk_make_durable T Z) hr pass0 (pv 0) (pa_cons pe_int (pa_cons (pv 2) pa_nil))))
      (pss_one (ps_fld (pv 0) pe_non rfl)))), ?_⟩
    rw [show start N_Disk_crash [.ref p, .int a, .int b] = [some (.ref p), some (.int a), some (.int b)] from rfl]
    walk_at "rs"
    refine rd_wMeth ep (kfl_no _ _ _ (by decide +kernel) (by decide +kernel) (by decide +kernel)) ?_
    walk_at "rs"
    refine ⟨p, o, F, pw, 0, a, rfl, hD, by decide, hz, fun H1 o1 c1 i1 D1 => ?_⟩
    obtain ⟨dx1, d1, s1, ep1, _⟩ := D1.pow
    walk_at "rs"
    refine rd_wMeth ep1 (kfl_no _ _ _ (by decide +kernel) (by decide +kernel) (by decide +kernel)) ?_
    walk_at "rs"
    refine ⟨p, o1, _, pw, 1, b, rfl, D1, by decide, durF_sz hz, fun H2 o2 c2 i2 D2 => ?_⟩
    obtain ⟨dx2, d2, s2, ep2, hup⟩ := D2.pow
    walk_at "rs"
    refine rd_wSFld ep2 Z.c.cl Z.n_power (kfl_len _ _ _) ?_
    rw [kfl_put]
    obtain ⟨D3, c3⟩ := hup none
    exact DkA.two c2 i2 (DkA.two c1 i1 q) _ o2 c3 (fun x h => .inl h) D3
def spPerf (C E0 : Addr) : Sp := fun vs H Q E => ∃ (p b : Addr) (o : List Addr) (F : Fls) (pw : Option Nat) (f : Nat) (bs : List Int), vs = [.ref p, .int f, .ref b] ∧ Dk C H p o F pw ∧ f < 2 ∧ Sz F 10000 ∧ H b = some (.lst (bs.map V.int)) ∧ b ∉ o ∧ bs.length ≤ 10000 ∧
  DkA C H p o (upF F f ((F f).1, (F f).2 ++ bs.take (cntO pw bs.length))) (spP pw bs.length) (fun H' => if cntO pw bs.length = bs.length then Q .non H' else E (.ref E0) none H')
theorem ok_Disk_perform (T : Tx K mg) (Z : Cs_Disk K mg C) (X9 : ExN K mg "PowerCut" E0 M) : OkM P w K mg base (L2.CX P w) 2 C "_perform" ["self", "file", "steps"] (spPerf C E0) := by
  refine ok_mkMX Z.m_Disk_perform sc_Disk_perform (fun vs H Q E h => ?_) (fun f cdv A outer s H vs Q E hr h => ?_)
  · obtain ⟨p, b, o, F, pw, f, bs, rfl, _⟩ := h
    rfl
  · obtain ⟨p, b, o, F, pw, f, bs, rfl, hD, hf, hz, eb, hb, hl, q⟩ := h
    obtain ⟨dx0, d0, s0, ep0, _⟩ := hD.pow
    refine ⟨_, (pss_cons (ps_set (i := 3) sc_Disk_perform.nd rfl (.inl rfl) (pe_methD Z.c.cl (ok_Disk_spend T Z) hr pass0 (pv 0) (pa_cons (pe_callB y_lenQ (by rfl) T.z_len (by decide +kernel) (pa_cons (pv 2) pa_nil)) pa_nil)))
      (pss_cons (ps_expr (pe_bm PySem.F.plainAttrs_list PySem.F.slot_list_extend PySem.F.type_list_extend mt_extend (pe_ix ix_list (pe_fld (pv 0) rfl) (pv 1) (fun _ _ => rfl)) (pa_cons (pe_slice sl_list (pv 2) po_none (po_some (pv 3))) pa_nil)))
      (pss_one (ps_if (pt_cmpR op_lt (pv 3) (pe_callB y_lenQ (by rfl) T.z_len (by decide +kernel) (pa_cons (pv 2) pa_nil)) (nomark _)) (pss_one (y_raise rfl (takes_of rfl rfl rfl rfl) X9.xC X9.gC X9.kC (raises_own X9.bC X9.tC) (by rfl) pe_str)) pss_nil)))), ?_⟩
    rw [show start N_Disk_perform [.ref p, .int f, .ref b] = [some (.ref p), some (.int f), some (.ref b), none] from rfl]
    walk_at "rs"
    refine rd_wMeth ep0 (kfl_no _ _ _ (by decide +kernel) (by decide +kernel) (by decide +kernel)) ?_
    walk_at "rs"
    refine rd_lenL (SqL.of eb) ?_
    walk_at "rs"
    rw [List.length_map]
    refine ⟨p, o, F, pw, bs.length, rfl, hD, fun H1 o1 c1 i1 D1 => ?_⟩
    have eb1 := c1 _ _ hb eb
    obtain ⟨dx, d, s, a0, a1, b0, b1, rfl, nd, k⟩ := D1
    obtain rfl | rfl : f = 0 ∨ f = 1 := by omega
    · walk_at "rs"
      refine rd_wFld k.ep Z.c.cl Z.n_steps (kfl_s _ _ _) ?_
      walk_at "rs"
      refine rd_ixL (SqL.of k.es) (i := ((0 : Nat) : Int)) (v := .ref b0) rfl ?_
      walk_at "rs"
      refine rd_wTyL (SqL.of k.g0) ?_
      walk_at "rs"
      refine rd_slLto (SqL.of eb1) fun n1 nn1 => ?_
      have s2 := same_new nn1 (o := .lst ((bs.map V.int).take (cntO pw bs.length)))
      walk_at "rs"
      obtain ⟨⟨h1, h2, h3, h4, h5⟩, ⟨h6, h7, h8, h9⟩, ⟨h10, h11, h12⟩, ⟨h13, h14⟩, h15⟩ := nd6 nd
      refine rd_extend (s2 _ _ k.g0) upd_same (by have := hz 0; rw [List.length_map, List.length_take, List.length_map]; omega) ?_
      have D3 : Dk C (upd (upd H1 n1 (.lst ((bs.map V.int).take (cntO pw bs.length)))) b0 (.lst ((F 0).2.map V.int ++ (bs.map V.int).take (cntO pw bs.length)))) p [p, d, s, a0, a1, b0, b1] (upF F 0 ((F 0).1, (F 0).2 ++ bs.take (cntO pw bs.length))) (spP pw bs.length) := by
        refine ⟨dx, d, s, a0, a1, b0, b1, rfl, nd, ⟨?_, ?_, ?_, ?_, ?_, ?_, ?_⟩⟩
        · exact (upd_ne (ins_lst k.ep k.g0)).trans (s2 _ _ k.ep)
        · exact (upd_ne h4).trans (s2 _ _ k.ed)
        · exact (upd_ne h8).trans (s2 _ _ k.es)
        · exact (upd_ne h11).trans (s2 _ _ k.e0)
        · exact (upd_ne h13).trans (s2 _ _ k.e1)
        · rw [upd_same, upF_at, List.map_append, List.map_take]
        · exact (upd_ne h15.symm).trans (s2 _ _ k.g1)
      have c3 := Chg.put (u := .lst ((F 0).2.map V.int ++ (bs.map V.int).take (cntO pw bs.length))) (p := b0) (c1.then s2) (by
        rcases i1 b0 (by simp) with g | g
        · exact .inl g
        · exact .inr g)
      walk_at "rs"
      have eb3 : (upd (upd H1 n1 (.lst ((bs.map V.int).take (cntO pw bs.length)))) b0 (.lst ((F 0).2.map V.int ++ (bs.map V.int).take (cntO pw bs.length)))) b = some (.lst (bs.map V.int)) := c3 _ _ hb eb
      have q3 := q _ _ c3 i1 D3
      refine rd_lenL (SqL.of eb3) ?_
      walk_at "rs"
      rw [List.length_map]
      have hle := cntO_le pw bs.length
      refine if_dec (fun c => ?_) (fun c => ?_)
      · walk_at "rs"
        dsimp only at q3
        rw [if_neg (by omega)] at q3
        exact q3
      · walk_at "rs"
        dsimp only at q3
        rw [if_pos (by omega)] at q3
        exact q3
    · walk_at "rs"
      refine rd_wFld k.ep Z.c.cl Z.n_steps (kfl_s _ _ _) ?_
      walk_at "rs"
      refine rd_ixL (SqL.of k.es) (i := ((1 : Nat) : Int)) (v := .ref b1) rfl ?_
      walk_at "rs"
      refine rd_wTyL (SqL.of k.g1) ?_
      walk_at "rs"
      refine rd_slLto (SqL.of eb1) fun n1 nn1 => ?_
      have s2 := same_new nn1 (o := .lst ((bs.map V.int).take (cntO pw bs.length)))
      walk_at "rs"
      obtain ⟨⟨h1, h2, h3, h4, h5⟩, ⟨h6, h7, h8, h9⟩, ⟨h10, h11, h12⟩, ⟨h13, h14⟩, h15⟩ := nd6 nd
      refine rd_extend (s2 _ _ k.g1) upd_same (by have := hz 1; rw [List.length_map, List.length_take, List.length_map]; omega) ?_
      have D3 : Dk C (upd (upd H1 n1 (.lst ((bs.map V.int).take (cntO pw bs.length)))) b1 (.lst ((F 1).2.map V.int ++ (bs.map V.int).take (cntO pw bs.length)))) p [p, d, s, a0, a1, b0, b1] (upF F 1 ((F 1).1, (F 1).2 ++ bs.take (cntO pw bs.length))) (spP pw bs.length) := by
        refine ⟨dx, d, s, a0, a1, b0, b1, rfl, nd, ⟨?_, ?_, ?_, ?_, ?_, ?_, ?_⟩⟩
        · exact (upd_ne (ins_lst k.ep k.g1)).trans (s2 _ _ k.ep)
        · exact (upd_ne h5).trans (s2 _ _ k.ed)
        · exact (upd_ne h9).trans (s2 _ _ k.es)
        · exact (upd_ne h12).trans (s2 _ _ k.e0)
        · exact (upd_ne h14).trans (s2 _ _ k.e1)
        · exact (upd_ne h15).trans (s2 _ _ k.g0)
        · rw [upd_same, upF_at, List.map_append, List.map_take]
      have c3 := Chg.put (u := .lst ((F 1).2.map V.int ++ (bs.map V.int).take (cntO pw bs.length))) (p := b1) (c1.then s2) (by
        rcases i1 b1 (by simp) with g | g
        · exact .inl g
        · exact .inr g)
      walk_at "rs"
      have eb3 : (upd (upd H1 n1 (.lst ((bs.map V.int).take (cntO pw bs.length)))) b1 (.lst ((F 1).2.map V.int ++ (bs.map V.int).take (cntO pw bs.length)))) b = some (.lst (bs.map V.int)) := c3 _ _ hb eb
      have q3 := q _ _ c3 i1 D3
      refine rd_lenL (SqL.of eb3) ?_
      walk_at "rs"
      rw [List.length_map]
      have hle := cntO_le pw bs.length
      refine if_dec (fun c => ?_) (fun c => ?_)
      · walk_at "rs"
        dsimp only at q3
        rw [if_neg (by omega)] at q3
        exact q3
      · walk_at "rs"
        dsimp only at q3
        rw [if_pos (by omega)] at q3
        exact q3
theorem ok_Disk_append (T : Tx K mg) (Z : Cs_Disk K mg C) (X9 : ExN K mg "PowerCut" E0 M) : OkM P w K mg base (L2.CX P w) 3 C "append" ["self", "file", "data"] (spPerf C E0) := by
  refine ok_mkMX Z.m_Disk_append sc_Disk_append (fun vs H Q E h => ?_) (fun f cdv A outer s H vs Q E hr h => ?_)
  · obtain ⟨p, b, o, F, pw, f, bs, rfl, _⟩ := h
    rfl
  · obtain ⟨p, b, o, F, pw, f, bs, rfl, hD, hf, hz, eb, hb, hl, q⟩ := h
    obtain ⟨dx0, d0, s0, ep0, _⟩ := hD.pow
    refine ⟨_, (pss_one (ps_expr (pe_methDS (E' := WE _) Z.c.cl (ok_Disk_perform T Z X9) hr (fun σ => passAt (takes_of rfl rfl rfl rfl) σ) (pv 0) (pa_cons (pv 1) (pa_cons (pv 2) pa_nil))))), ?_⟩
    rw [show start N_Disk_append [.ref p, .int f, .ref b] = [some (.ref p), some (.int f), some (.ref b)] from rfl]
    walk_at "rs"
    refine rd_wMeth ep0 (kfl_no _ _ _ (by decide +kernel) (by decide +kernel) (by decide +kernel)) ?_
    walk_at "rs"
    exact ⟨p, b, o, F, pw, f, bs, rfl, hD, hf, hz, eb, hb, hl, q⟩
def spClear (C E0 : Addr) : Sp := fun vs H Q E => ∃ (p : Addr) (o : List Addr) (F : Fls) (pw : Option Nat) (f : Nat), vs = [.ref p, .int f] ∧ Dk C H p o F pw ∧ f < 2 ∧ Sz F 10000 ∧
  DkA C H p o (upF F f ((F f).1, (F f).2 ++ [(-1 : Int)].take (cntO pw 1))) (spP pw 1) (fun H' => if cntO pw 1 = 1 then Q .non H' else E (.ref E0) none H')
theorem ok_Disk_clear (T : Tx K mg) (Z : Cs_Disk K mg C) (X9 : ExN K mg "PowerCut" E0 M) : OkM P w K mg base (L2.CX P w) 3 C "clear" ["self", "file"] (spClear C E0) := by
  refine ok_mkMX Z.m_Disk_clear sc_Disk_clear (fun vs H Q E h => ?_) (fun f cdv A outer s H vs Q E hr h => ?_)
  · obtain ⟨p, o, F, pw, f, rfl, _⟩ := h
    rfl
  · obtain ⟨p, o, F, pw, f, rfl, hD, hf, hz, q⟩ := h
    obtain ⟨dx0, d0, s0, ep0, _⟩ := hD.pow
    refine ⟨_, (pss_one (ps_expr (pe_methDS (E' := WE _) Z.c.cl (ok_Disk_perform T Z X9) hr (fun σ => passAt (takes_of rfl rfl rfl rfl) σ) (pv 0) (pa_cons (pv 1) (pa_cons (pe_lst (pa_cons (pe_kI (by rfl) T.c_CLEARING) pa_nil)) pa_nil))))), ?_⟩
    rw [show start N_Disk_clear [.ref p, .int f] = [some (.ref p), some (.int f)] from rfl]
    walk_at "rs"
    refine rd_wMeth ep0 (kfl_no _ _ _ (by decide +kernel) (by decide +kernel) (by decide +kernel)) ?_
    walk_at "rs"
    refine rd_wLsG (Nat.le_of_ble_eq_true rfl) fun b H1 nb s1 eb => ?_
    walk_at "rs"
    have hb : b ∉ o := fun m => by
      obtain ⟨u, hu, _⟩ := hD.alive b m
      rw [hu] at nb
      cases nb
    exact ⟨p, b, o, F, pw, f, [-1], rfl, hD.same s1, hf, hz, eb, hb, by decide, DkA.two (Chg.same s1) (fun x h => .inl h) q⟩
def spSync (C E0 : Addr) : Sp := fun vs H Q E => ∃ (p : Addr) (o : List Addr) (F : Fls) (pw : Option Nat) (f : Nat), vs = [.ref p, .int f] ∧ Dk C H p o F pw ∧ f < 2 ∧ Sz F 10000 ∧
  DkA C H p o (if cntO pw 1 = 1 then upF F f (aft (F f).1 (F f).2, []) else F) (spP pw 1) (fun H' => if cntO pw 1 = 1 then Q .non H' else E (.ref E0) none H')
theorem ok_Disk_sync (T : Tx K mg) (Z : Cs_Disk K mg C) (X9 : ExN K mg "PowerCut" E0 M) : OkM P w K mg base (L2.CX P w) 3 C "sync" ["self", "file"] (spSync C E0) := by
  refine ok_mkMX Z.m_Disk_sync sc_Disk_sync (fun vs H Q E h => ?_) (fun f cdv A outer s H vs Q E hr h => ?_)
  · obtain ⟨p, o, F, pw, f, rfl, _⟩ := h
    rfl
  · obtain ⟨p, o, F, pw, f, rfl, hD, hf, hz, q⟩ := h
    obtain ⟨dx0, d0, s0, ep0, _⟩ := hD.pow
    refine ⟨_, (pss_cons (ps_if (pt_cmpR op_lt (pe_methD Z.c.cl (ok_Disk_spend T Z) (hr.mono (by decide)) pass0 (pv 0) (pa_cons pe_int pa_nil)) pe_int (nomark _)) (pss_one (y_raise rfl (takes_of rfl rfl rfl rfl) X9.xC X9.gC X9.kC (raises_own X9.bC X9.tC) (by rfl) pe_str)) pss_nil)
      (pss_one (ps_expr (pe_methD Z.c.cl (ok_Disk_make_durable T Z) hr pass0 (pv 0) (pa_cons (pv 1) (pa_cons (pe_callB y_lenQ (by rfl) T.z_len (by decide +kernel) (pa_cons (pe_ix ix_list (pe_fld (pv 0) rfl) (pv 1) (fun _ _ => rfl)) pa_nil)) pa_nil)))))), ?_⟩
    rw [show start N_Disk_sync [.ref p, .int f] = [some (.ref p), some (.int f)] from rfl]
    walk_at "rs"
    refine rd_wMeth ep0 (kfl_no _ _ _ (by decide +kernel) (by decide +kernel) (by decide +kernel)) ?_
    walk_at "rs"
    refine ⟨p, o, F, pw, 1, rfl, hD, fun H1 o1 c1 i1 D1 => ?_⟩
    have hle := cntO_le pw 1
    walk_at "rs"
    refine if_dec (fun c => ?_) (fun c => ?_)
    · walk_at "rs"
      have q3 := q _ _ c1 i1 (by rw [if_neg (by omega)]; exact D1)
      dsimp only at q3
      rw [if_neg (by omega)] at q3
      exact q3
    · obtain ⟨dx, d, s, a, b, xs, ys, ep, ed, ia, es, ib, ea, eb⟩ := D1.file hf
      walk_at "rs"
      refine rd_wMeth ep (kfl_no _ _ _ (by decide +kernel) (by decide +kernel) (by decide +kernel)) ?_
      walk_at "rs"
      refine rd_wFld ep Z.c.cl Z.n_steps (kfl_s _ _ _) ?_
      walk_at "rs"
      refine rd_ixL (SqL.of es) ib ?_
      walk_at "rs"
      refine rd_lenL (SqL.of eb) ?_
      rw [List.length_map]
      walk_at "rs"
      refine ⟨p, o1, F, _, f, (F f).2.length, rfl, D1, hf, hz, fun H2 o2 c2 i2 D2 => ?_⟩
      have ed2 : durF F f (F f).2.length = upF F f (aft (F f).1 (F f).2, []) := by
        unfold durF
        rw [List.take_length]
      rw [ed2] at D2
      have q2 := DkA.two c1 i1 q _ o2 c2 i2 (by rw [if_pos (by omega)]; exact D2)
      rw [if_pos (by omega)] at q2
      exact q2
end


section
variable {P : Program} {w : World} {K : PySem.W.Frag} {mg : Str → Option Value} {base : Heap} {C E0 M : Addr}
def spIsInt (K : PySem.W.Frag) : Sp := fun vs H Q _ => ∃ i : Int, vs = [.int i] ∧ Q (.bl true) H
theorem ok_Lis_integer (T : Tx K mg) : OkD P w K mg base CX0 1 "_law_is_integer" ["actual"] (spIsInt K) := by
  refine ok_mk T.d_Lis_integer sc_Lis_integer (fun vs H Q E h => ?_) (fun f cdv A outer s H vs Q E hr h => ?_)
  · obtain ⟨i, rfl, _⟩ := h
    rfl
  · obtain ⟨i, rfl, q⟩ := h
    refine ⟨_, (pss_one (ps_ret (pe_and (pe_callB call_isi (by rfl) T.z_isinstance (by decide +kernel) (pa_cons (pv 0) (pa_cons (pe_bltn (v := .ty "int") (by rfl) T.z_int (by decide +kernel) rfl) pa_nil))) (pe_one (pe_not (pe_callB call_isi (by rfl) T.z_isinstance (by decide +kernel) (pa_cons (pv 0) (pa_cons (pe_bltn (v := .ty "bool") (by rfl) T.z_bool (by decide +kernel) rfl) pa_nil)))))))), ?_⟩
    rw [show start N_Lis_integer [.int i] = [some (.int i)] from rfl]
    walk_at "rs"
    refine rd_isi (.base (.int i)) (r := true) (by decide +kernel) ?_
    walk_at "rs"
    refine rd_isi (.base (.int i)) (r := false) (by decide +kernel) ?_
    walk_at "rs"
    exact q
def Byt (bs : List Int) : Prop := ∀ b ∈ bs, 0 ≤ b ∧ b < 256
def spIsBytes (K : PySem.W.Frag) : Sp := fun vs H Q _ => ∃ (a : Addr) (bs : List Int), vs = [.ref a] ∧ H a = some (.lst (bs.map V.int)) ∧ bs.length ≤ 100000 ∧ Byt bs ∧ ∀ H', Same H H' → Q (.bl true) H'
theorem ok_Lis_bytes (T : Tx K mg) : OkD P w K mg base CX0 2 "_law_is_bytes" ["actual"] (spIsBytes K) := by
  refine ok_mk T.d_Lis_bytes sc_Lis_bytes (fun vs H Q E h => ?_) (fun f cdv A outer s H vs Q E hr h => ?_)
  · obtain ⟨a, bs, rfl, _⟩ := h
    rfl
  · obtain ⟨a, bs, rfl, ea, hl, hb, q⟩ := h
    refine ⟨_, (pss_cons (ps_if (pt_not (pt_val (pe_callB call_isi (by rfl) T.z_isinstance (by decide +kernel) (pa_cons (pv 0) (pa_cons (pe_bltn (v := .ty "list") (by rfl) T.z_list (by decide +kernel) rfl) pa_nil))))) (pss_one (ps_ret pe_bl)) pss_nil)
      (pss_one (ps_ret (pe_callB (cr_all rfl) (by rfl) T.z_all (by decide +kernel) (pa_cons (pe_lc (own := [("byte", 1)]) (g := gName 1) rfl sc_Lis_bytes.nd (pi_list (pv 0)) (blkOk_by (N := N_Lis_bytes) (sc := defScope s_Lis_bytes) (by decide +kernel)) (fun _ _ _ _ _ => pg_name (i := 1) sc_Lis_bytes.nd rfl (Or.inl rfl)) (fun _ _ _ _ _ => pts_nil) (fun _ _ _ _ _ => (pe_and (pe_callD (ok_Lis_integer T) hr (by rfl) pass0 (pa_cons (pv 1) pa_nil)) (pe_one (pe_chain op_le op_le pe_int (pv 1) pe_int))))) pa_nil))))), ?_⟩
    rw [show start N_Lis_bytes [.ref a] = [some (.ref a), none] from rfl]
    walk_at "rs"
    refine rd_isi (.base (.lst ea)) (r := true) (by decide +kernel) ?_
    walk_at "rs"
    refine rd_wSq (SqL.of ea) fun D nD => ?_
    refine lcM1 walk_l (fun H' sm => SqL.of (sm _ _ ea)) nD (by rw [List.length_map]; omega) (fun _ => V.bl true) (fun v hv H2 R sm r => ?_) (fun H2 sm e => ?_)
    · obtain ⟨x, hx, rfl⟩ := List.mem_map.mp hv
      have hb' := hb x hx
      refine ⟨rfl, ?_⟩
      walk_at "wp"
      refine ⟨x, rfl, ?_⟩
      walk_at "rs"
      refine if_dec (fun _ => ?_) (fun c => absurd hb'.1 c)
      walk_at "rs"
      rw [decide_eq_true (show x ≤ 255 by omega)]
      exact r _ (Same.refl _)
    · walk_at "rs"
      refine rd_all (bs := bs.map fun _ => true) (SqL.of ?_) ?_
      · rw [e, List.map_map, List.map_map]
        rfl
      · rw [show (bs.map fun _ => true).all id = true by simp]
        exact q _ sm
def spLA (K : PySem.W.Frag) : Sp := fun vs H Q _ => ∃ (a b : Addr) (c q : List Int), vs = [.ref a, .ref b] ∧ SqL K H a (c.map V.int) ∧ SqL K H b (q.map lv) ∧ c.length + q.length ≤ 100000 ∧ ∀ l H', Same H H' → H l = none → H' l = some (.lst ((aft c q).map V.int)) → Q (.ref l) H'
theorem ok_Lafter (T : Tx K mg) : OkD P w K mg base CX0 1 "_law_after" ["content", "steps"] (spLA K) := by
  refine ok_mk T.d_Lafter sc_Lafter (fun vs H Q E h => ?_) (fun f cdv A outer s H vs Q E hr h => ?_)
  · obtain ⟨a, b, c, q, rfl, _⟩ := h
    rfl
  · obtain ⟨a, b, c, q, rfl, ha, hb, hl, k⟩ := h
    refine ⟨_, (pss_cons (ps_set (i := 0) sc_Lafter.nd rfl (.inl rfl) (pe_callTy y_listOf (by rfl) T.z_list (by decide +kernel) (pa_cons (pv 0) pa_nil)))
      (pss_cons (ps_for PassesOwn.never rfl (pi_list (pv 1)) (pg_name (i := 2) sc_Lafter.nd rfl (Or.inl rfl)) (pss_one (ps_if (pt_cmpR y_isN (pv 2) pe_non (nomark _)) (pss_one (ps_set (i := 0) sc_Lafter.nd rfl (.inl rfl) (pe_lst pa_nil))) (pss_one (ps_expr (pe_bm PySem.F.plainAttrs_list PySem.F.slot_list_append PySem.F.type_list_append mt_append (pv 0) (pa_cons (pv 2) pa_nil)))))))
      (pss_one (ps_ret (pv 0))))), ?_⟩
    rw [show start N_Lafter [.ref a, .ref b] = [some (.ref a), some (.ref b), none] from rfl]
    walk_at "rs"
    refine rd_listL ha fun l nl => ?_
    walk_at "rs"
    have hb' : ∀ H', Same H H' → SqL K H' b (q.map lv) := fun H' s => Same.seq s hb
    refine rd_wSq (hb' _ (same_new nl)) ?_
    refine frJ (walk_l (xs := q.map lv)) (fun i σ H' => Same H H' ∧ ∃ l x2, σ = [some (.ref l), some (.ref b), x2] ∧ H l = none ∧ H' l = some (.lst ((aft c (q.take i)).map V.int))) ⟨same_new nl, l, none, rfl, nl, by rw [upd_same]; rfl⟩ (fun i σ H' _ p => hb' _ p.1) (fun i v σ H' hv p => ?_) (fun σ H' p => ?_)
    · obtain ⟨sm, l, x2, rfl, nl, el⟩ := p
      obtain ⟨z, hz, rfl⟩ : ∃ z, q[i]? = some z ∧ v = lv z := by
        rw [List.getElem?_map] at hv
        cases hx : q[i]? with
        | none =>
          rw [hx] at hv
          cases hv
        | some z =>
          rw [hx] at hv
          exact ⟨z, rfl, (Option.some.inj hv).symm⟩
      have et : q.take (i + 1) = q.take i ++ [z] := by rw [List.take_add_one, hz]; rfl
      have ll := aft_len (q.take i) c
      have lt : (q.take i).length ≤ q.length := List.length_take_le' _ _
      by_cases c1 : z = -1
      · rw [show lv z = V.non from if_pos c1]
        walk_at "rs"
        refine if_dec (fun _ => ?_) (fun c => absurd rfl c)
        walk_at "rs"
        refine rd_wLsG (Nat.le_of_ble_eq_true rfl) fun n H2 nn s2 en => ?_
        walk_at "rs"
        refine ⟨sm.trans s2, n, _, rfl, sm.free nn, ?_⟩
        rw [en, et, aft_snoc]
        unfold aft1
        rw [if_pos c1]
        rfl
      · rw [show lv z = V.int z from if_neg c1]
        walk_at "rs"
        refine if_dec (fun c => by cases c) (fun _ => ?_)
        walk_at "rs"
        refine rd_wTyL (SqL.of el) ?_
        walk_at "rs"
        refine rd_appendB el (by rw [List.length_map]; omega) ?_
        walk_at "rs"
        refine ⟨fun b' o e => ?_, l, _, rfl, nl, ?_⟩
        · rw [upd_ne (ne_of_none e nl)]
          exact sm _ _ e
        · rw [upd_same, et, aft_snoc]
          unfold aft1
          rw [if_neg c1, List.map_append]
          rfl
    · obtain ⟨sm, l, x2, rfl, nl, el⟩ := p
      rw [List.length_map, List.take_length] at el
      walk_at "rs"
      exact k l H' sm nl el
/-- the act of the law -/
def spModel (K : PySem.W.Frag) : Sp := fun vs H Q _ => ∃ (m a b : Addr) (o : List Addr) (F : Fls) (pw : Option Nat) (k f : Nat) (bs : List Int), vs = [.ref m, .ref a] ∧ Md H m o F pw ∧ SqT K H a [.int k, .int f, .ref b] ∧ H b = some (.lst (bs.map V.int)) ∧ ByL bs ∧ k ≤ 2 ∧ f < 2 ∧ Sz F 10000 ∧ bs.length ≤ 1000 ∧
  ∀ H' o', Chg o H H' → (∀ x ∈ o', x ∈ o ∨ H x = none) → Md H' m o' (opF k f bs F pw) (spP pw (stp k bs).length) → Q (.bl (opB k bs pw)) H'
theorem stp_len {k : Nat} {bs : List Int} (h : bs.length ≤ 1000) : (stp k bs).length ≤ 1000 := by
  unfold stp
  split
  · exact h
  · exact (by decide : 1 ≤ 1000)
theorem ok_Lmodel (T : Tx K mg) : OkD P w K mg base CX0 2 "_law_model" ["model", "act"] (spModel K) := by
  refine ok_mk T.d_Lmodel sc_Lmodel (fun vs H Q E h => ?_) (fun f cdv A outer s H vs Q E hr h => ?_)
  · obtain ⟨m, a, b, o, F, pw, k, f, bs, rfl, _⟩ := h
    rfl
  · obtain ⟨m, a, b, o, F, pw, k, f, bs, rfl, hM, ha, eb, hby, hk, hf, hz, hl, q⟩ := h
    obtain ⟨fl, t, xs, u, w', em, ef, it, jt, tk, eu, ew, hu, mk⟩ := hM.set hf
    refine ⟨_, (pss_cons (ps_set (i := 2) sc_Lmodel.nd rfl (.inl rfl) (pe_ix ix_list (pv 0) pe_int (fun _ _ => rfl)))
      (pss_cons (ps_set (i := 3) sc_Lmodel.nd rfl (.inl rfl) (pe_ix ix_list (pv 0) pe_int (fun _ _ => rfl)))
      (pss_cons (ps_set (i := 4) sc_Lmodel.nd rfl (.inl rfl) (pe_lst (pa_cons pe_non pa_nil)))
      (pss_cons (ps_if (pt_cmpR op_eq (pe_ix ix_tup (pv 1) pe_int (fun _ _ => rfl)) pe_int (nomark _)) (pss_one (ps_set (i := 4) sc_Lmodel.nd rfl (.inl rfl) (pe_callTy y_listOf (by rfl) T.z_list (by decide +kernel) (pa_cons (pe_ix ix_tup (pv 1) pe_int (fun _ _ => rfl)) pa_nil)))) pss_nil)
      (pss_cons (ps_set (i := 5) sc_Lmodel.nd rfl (.inl rfl) (pe_callB y_lenQ (by rfl) T.z_len (by decide +kernel) (pa_cons (pv 4) pa_nil)))
      (pss_cons (ps_if (PW.pt (pw_and (pt_cmpR y_notN (pv 3) pe_non (nomark _)) (pw_and1 (pt_cmpR op_lt (pv 3) (pv 5) (nomark _))))) (pss_one (ps_set (i := 5) sc_Lmodel.nd rfl (.inl rfl) (pv 3))) pss_nil)
      (pss_cons (ps_if (pt_cmpR op_eq (pe_ix ix_tup (pv 1) pe_int (fun _ _ => rfl)) pe_int (nomark _)) (pss_one (ps_if (pt_cmpR op_eq (pv 5) pe_int (nomark _)) (pss_one (ps_asg (y_tt (pa_cons (pe_callD (ok_Lafter T) hr (by rfl) pass0 (pa_cons (pe_ix ix_tup (pe_ix ix_list (pv 2) (pe_ix ix_tup (pv 1) pe_int (fun _ _ => rfl)) (fun _ _ => rfl)) pe_int (fun _ _ => rfl)) (pa_cons (pe_ix ix_tup (pe_ix ix_list (pv 2) (pe_ix ix_tup (pv 1) pe_int (fun _ _ => rfl)) (fun _ _ => rfl)) pe_int (fun _ _ => rfl)) pa_nil))) (pa_cons (pe_lst pa_nil) pa_nil))) (pg_sub (pv 2) (pe_ix ix_tup (pv 1) pe_int (fun _ _ => rfl)) set_list))) pss_nil)) (pss_one (ps_asg (y_tt (pa_cons (pe_ix ix_tup (pe_ix ix_list (pv 2) (pe_ix ix_tup (pv 1) pe_int (fun _ _ => rfl)) (fun _ _ => rfl)) pe_int (fun _ _ => rfl)) (pa_cons (pe_op op_cat (pe_ix ix_tup (pe_ix ix_list (pv 2) (pe_ix ix_tup (pv 1) pe_int (fun _ _ => rfl)) (fun _ _ => rfl)) pe_int (fun _ _ => rfl)) (pe_slice sl_list (pv 4) po_none (po_some (pv 5)))) pa_nil))) (pg_sub (pv 2) (pe_ix ix_tup (pv 1) pe_int (fun _ _ => rfl)) set_list))))
      (pss_cons (ps_if (pt_cmpR y_notN (pv 3) pe_non (nomark _)) (pss_one (ps_asg (pe_op op_sub (pv 3) (pv 5)) (pg_sub (pv 0) pe_int set_list))) pss_nil)
      (pss_one (ps_ret (pe_cmpR op_eq (pv 5) (pe_callB y_lenQ (by rfl) T.z_len (by decide +kernel) (pa_cons (pv 4) pa_nil)) (nomark _)))))))))))), ?_⟩
    rw [show start N_Lmodel [.ref m, .ref a] = [some (.ref m), some (.ref a), none, none, none, none] from rfl]
    walk_at "rs"
    refine rd_ixL (SqL.of em) (i := 0) (v := .ref fl) rfl ?_
    walk_at "rs"
    refine rd_ixL (SqL.of em) (i := 1) (v := pwV pw) rfl ?_
    walk_at "rs"
    refine rd_wLsG (Nat.le_of_ble_eq_true rfl) fun s0 H1 ns0 s1 es0 => ?_
    walk_at "rs"
    refine rd_ixT (same_tup s1 ha) (i := 0) (v := .int k) rfl ?_
    walk_at "rs"
    refine if_tail (fun σ H' => Same H H' ∧ ∃ s, σ = [some (.ref m), some (.ref a), some (.ref fl), some (pwV pw), some (.ref s), none] ∧ H s = none ∧ H' s = some (.lst ((stp k bs).map lv))) (fun σ H2 pr => ?_) (fun nx' hnx => if_dec (fun c => ?_) (fun c => ?_))
    · obtain ⟨s2, s, rfl, ns, es⟩ := pr
      have hlen := stp_len (k := k) hl
      walk_at "rs"
      refine rd_lenL (SqL.of es) ?_
      rw [List.length_map]
      refine rd_n5 ?_
      have hle := cntO_le pw (stp k bs).length
      refine seq_to (fun σ H' => H' = H2 ∧ σ = [some (.ref m), some (.ref a), some (.ref fl), some (pwV pw), some (.ref s), some (.int (cntO pw (stp k bs).length : Nat))]) (fun σ H3 pr => ?_) (fun nx' hnx => ?_)
      · obtain ⟨rfl, rfl⟩ := pr
        refine seq_to (fun σ H' => ∃ o', Md H' m o' (opF k f bs F pw) pw ∧ (∀ x ∈ o', x ∈ o ∨ H x = none) ∧ Chg o H H' ∧ H' s = some (.lst ((stp k bs).map lv)) ∧ σ = [some (.ref m), some (.ref a), some (.ref fl), some (pwV pw), some (.ref s), some (.int (cntO pw (stp k bs).length : Nat))]) (fun σ H4 pr => ?_) (fun nx' hnx => ?_)
        · obtain ⟨o', M4, i4, c4, es4, rfl⟩ := pr
          obtain ⟨fl4, em4, hup⟩ := M4.pow
          have fin : ∀ H5, Chg o H H5 → Md H5 m o' (opF k f bs F pw) (spP pw (stp k bs).length) → H5 s = some (.lst ((stp k bs).map lv)) → Q (.bl (decide ((cntO pw (stp k bs).length : Int) = ((stp k bs).length : Nat)))) H5 := fun H5 c5 M5 e5 => by
            have := q H5 o' c5 i4 M5
            unfold opB at this
            rw [show decide ((cntO pw (stp k bs).length : Int) = ((stp k bs).length : Nat)) = decide (cntO pw (stp k bs).length = (stp k bs).length) by congr 1; simp only [Int.ofNat_inj]]
            exact this
          walk_at "rs"
          cases pw with
          | none =>
            refine if_ndec (fun c => absurd rfl c) (fun _ => ?_)
            walk_at "rs"
            refine rd_lenL (SqL.of es4) ?_
            rw [List.length_map]
            walk_at "rs"
            exact fin _ c4 M4 es4
          | some p =>
            refine if_ndec (fun _ => ?_) (fun c => by cases c)
            walk_at "rs"
            rw [show pwV (some p) = V.int p from rfl]
            walk_at "rs"
            refine rd_setL em4 (j := 1) rfl ?_
            walk_at "rs"
            obtain ⟨M5, c5⟩ := hup (some (p - cntO (some p) (stp k bs).length))
            have hle2 : cntO (some p) (stp k bs).length ≤ p := Nat.min_le_left _ _
            rw [show (p : Int) - (cntO (some p) (stp k bs).length : Nat) = ((p - cntO (some p) (stp k bs).length : Nat) : Int) by omega]
            have ms : s ≠ m := (ne_of_none em ns).symm
            have e5 := (upd_ne (H := H4) (o := .lst [.ref fl4, pwV (some (p - cntO (some p) (stp k bs).length))]) ms).trans es4
            refine rd_lenL (SqL.of e5) ?_
            rw [List.length_map]
            walk_at "rs"
            exact fin _ (c4.trans c5 i4) M5 e5
        · have ha3 := same_tup s2 ha
          have es3 := es
          have flS : s ≠ fl := (ne_of_none ef ns).symm
          walk_at "rs"
          refine rd_ixT ha3 (i := 0) (v := .int k) rfl ?_
          walk_at "rs"
          refine if_dec (fun c => ?_) (fun c => ?_)
          · have k2 : k = 2 := by omega
            subst k2
            walk_at "rs"
            refine if_dec (fun c1 => ?_) (fun c1 => ?_)
            · walk_at "rs"
              refine rd_ixT ha3 (i := 1) (v := .int f) rfl ?_
              walk_at "rs"
              refine rd_ixL (SqL.of (s2 _ _ ef)) it ?_
              walk_at "rs"
              refine rd_ixT (tk.same s2).seq (i := 0) (v := .ref u) rfl ?_
              walk_at "rs"
              refine rd_ixT ha3 (i := 1) (v := .int f) rfl ?_
              walk_at "rs"
              refine rd_ixL (SqL.of (s2 _ _ ef)) it ?_
              walk_at "rs"
              refine rd_ixT (tk.same s2).seq (i := 1) (v := .ref w') rfl ?_
              walk_at "rs"
              refine ⟨u, w', _, _, rfl, SqL.of (s2 _ _ eu), SqL.of (s2 _ _ ew), by have := hz f; omega, fun l H4 s4 nl el => ?_⟩
              walk_at "rs"
              refine rd_wLsG (Nat.le_of_ble_eq_true rfl) fun n5 H5 nn5 s5 en5 => ?_
              walk_at "rs"
              refine rd_wTT (Nat.le_of_ble_eq_true rfl) fun t6 H6 nt6 s6 tk6 => ?_
              have s26 := (s4.trans s5).trans s6
              have s06 := s2.trans s26
              walk_at "rs"
              refine rd_ixT (same_tup s26 ha3) (i := 1) (v := .int f) rfl ?_
              walk_at "rs"
              refine rd_setL (s06 _ _ ef) jt ?_
              walk_at "rs"
              have nlH : H l = none := s2.free nl
              obtain ⟨o', M7, i7, c7⟩ := mk H6 t6 l n5 _ [] s06 tk6 (s6 _ _ (s5 _ _ el)) (s6 _ _ en5) ((s2.trans s4).free (s5.free nt6)) ⟨.inr nlH, (ne_of_none em nlH).symm, (ne_of_none ef nlH).symm⟩ ((s2.trans s4).free nn5)
              refine hnx _ _ ⟨o', ?_, i7, c7, (upd_ne flS).trans (s26 _ _ es3), rfl⟩
              have e1 : opF 2 f bs F pw = upF F f (aft (F f).1 (F f).2, []) := by
                unfold opF
                rw [if_pos rfl, if_pos (by have : (stp 2 bs).length = 1 := rfl; rw [this] at c1; omega)]
              rw [e1]
              exact M7
            · walk_at "rs"
              refine hnx _ _ ⟨o, ?_, fun x h => .inl h, Chg.same s2, es3, rfl⟩
              have e1 : opF 2 f bs F pw = F := by
                unfold opF
                rw [if_pos rfl, if_neg (by have : (stp 2 bs).length = 1 := rfl; rw [this] at c1; omega)]
              rw [e1]
              exact hM.same s2
          · walk_at "rs"
            refine rd_ixT ha3 (i := 1) (v := .int f) rfl ?_
            walk_at "rs"
            refine rd_ixL (SqL.of (s2 _ _ ef)) it ?_
            walk_at "rs"
            refine rd_ixT (tk.same s2).seq (i := 0) (v := .ref u) rfl ?_
            walk_at "rs"
            refine rd_ixT ha3 (i := 1) (v := .int f) rfl ?_
            walk_at "rs"
            refine rd_ixL (SqL.of (s2 _ _ ef)) it ?_
            walk_at "rs"
            refine rd_ixT (tk.same s2).seq (i := 1) (v := .ref w') rfl ?_
            walk_at "rs"
            refine rd_slLto (SqL.of es3) fun n4 nn4 => ?_
            have s4 := same_new nn4 (o := .lst (((stp k bs).map lv).take (cntO pw (stp k bs).length)))
            refine rd_catL (s4 _ _ (s2 _ _ ew)) upd_same (by have := hz f; rw [List.length_take, List.length_map, List.length_map]; omega) fun n5 nn5 => ?_
            have s5 := same_new nn5 (o := .lst ((F f).2.map lv ++ ((stp k bs).map lv).take (cntO pw (stp k bs).length)))
            walk_at "rs"
            refine rd_wTT (Nat.le_of_ble_eq_true rfl) fun t6 H6 nt6 s6 tk6 => ?_
            have s26 := (s4.trans s5).trans s6
            have s06 := s2.trans s26
            walk_at "rs"
            refine rd_ixT (same_tup s26 ha3) (i := 1) (v := .int f) rfl ?_
            walk_at "rs"
            refine rd_setL (s06 _ _ ef) jt ?_
            walk_at "rs"
            obtain ⟨o', M7, i7, c7⟩ := mk H6 t6 u n5 (F f).1 ((F f).2 ++ (stp k bs).take (cntO pw (stp k bs).length)) s06 tk6 (s06 _ _ eu) (s6 _ _ (by rw [upd_same, List.map_append, List.map_take])) ((s2.trans s4).free (s5.free nt6)) ⟨.inl hu.1, hu.2⟩ ((s2.trans s4).free nn5)
            refine hnx _ _ ⟨o', ?_, i7, c7, (upd_ne flS).trans (s26 _ _ es3), rfl⟩
            have e1 : opF k f bs F pw = upF F f ((F f).1, (F f).2 ++ (stp k bs).take (cntO pw (stp k bs).length)) := by
              unfold opF
              rw [if_neg (by omega)]
            rw [e1]
            exact M7
      · walk_at "rs"
        cases pw with
        | none =>
          refine if_ndec (fun c => absurd rfl c) (fun _ => ?_)
          walk_at "rs"
          exact hnx _ _ ⟨rfl, rfl⟩
        | some p =>
          refine if_ndec (fun _ => ?_) (fun c => by cases c)
          walk_at "rs"
          rw [show pwV (some p) = V.int p from rfl]
          walk_at "rs"
          refine if_dec (fun c => ?_) (fun c => ?_)
          · walk_at "rs"
            refine hnx _ _ ⟨rfl, ?_⟩
            rw [show cntO (some p) (stp k bs).length = p from Nat.min_eq_left (by omega)]
            rfl
          · walk_at "rs"
            refine hnx _ _ ⟨rfl, ?_⟩
            rw [show cntO (some p) (stp k bs).length = (stp k bs).length from Nat.min_eq_right (by omega)]
            rfl
    · have k0 : k = 0 := by omega
      subst k0
      walk_at "rs"
      refine rd_ixT (same_tup s1 ha) (i := 2) (v := .ref b) rfl ?_
      walk_at "rs"
      refine rd_listL (SqL.of (s1 _ _ eb)) fun l nl => ?_
      walk_at "rs"
      refine hnx _ _ ⟨s1.trans (same_new nl), l, rfl, s1.free nl, ?_⟩
      rw [upd_same, show stp 0 bs = bs from rfl, lv_by hby]
    · walk_at "rs"
      refine hnx _ _ ⟨s1, s0, rfl, ns0, ?_⟩
      rw [es0, show stp k bs = [-1] from if_neg (by omega)]
      rfl
end

section
variable {P : Program} {w : World} {K : PySem.W.Frag} {mg : Str → Option Value} {base : Heap} {C E0 M : Addr}
def spDo (K : PySem.W.Frag) (C : Addr) : Sp := fun vs H Q _ => ∃ (p a b : Addr) (o : List Addr) (F : Fls) (pw : Option Nat) (k f : Nat) (bs : List Int), vs = [.ref p, .ref a] ∧ Dk C H p o F pw ∧ SqT K H a [.int k, .int f, .ref b] ∧ H b = some (.lst (bs.map V.int)) ∧ b ∉ o ∧ k ≤ 2 ∧ f < 2 ∧ Sz F 10000 ∧ bs.length ≤ 1000 ∧
  DkA C H p o (opF k f bs F pw) (spP pw (stp k bs).length) (fun H' => (opB k bs pw = true → Q .non H') ∧ (opB k bs pw = false → ∀ q H'', Same H' H'' → Tk H'' q [.str "cut", .bl true] → Q (.ref q) H''))
theorem ok_Ldo (T : Tx K mg) (Z : Cs_Disk K mg C) (X9 : ExN K mg "PowerCut" E0 M) : OkD P w K mg base CX0 4 "_law_do" ["disk", "act"] (spDo K C) := by
  refine ok_mk T.d_Ldo sc_Ldo (fun vs H Q E h => ?_) (fun f cdv A outer s H vs Q E hr h => ?_)
  · obtain ⟨p, a, b, o, F, pw, k, f, bs, rfl, _⟩ := h
    rfl
  · obtain ⟨p, a, b, o, F, pw, k, f, bs, rfl, hD, ha, eb, hb, hk, hf, hz, hl, q⟩ := h
    obtain ⟨dx0, d0, s0, ep0, _⟩ := hD.pow
    refine ⟨_, (pss_one (y_tryA (i := 2) rfl rfl sc_Ldo.nd rfl rfl ⟨rfl, by decide, .inl X9.gC⟩ takes0 (fun W pn xe tk _ => (pss_cons (ps_if (pt_cmpR op_eq (pe_ix (show IxR _ (rIxT K) from ix_tup) (pv 1) pe_int (fun _ _ => rfl)) pe_int (nomark _)) (pss_one (ps_ret (pe_methDS (E' := WE W) Z.c.cl (ok_Disk_append T Z X9) hr (fun σ => passAt tk σ) (pv 0) (pa_cons (pe_ix (show IxR _ (rIxT K) from ix_tup) (pv 1) pe_int (fun _ _ => rfl)) (pa_cons (pe_ix (show IxR _ (rIxT K) from ix_tup) (pv 1) pe_int (fun _ _ => rfl)) pa_nil))))) pss_nil)
      (pss_cons (ps_if (pt_cmpR op_eq (pe_ix (show IxR _ (rIxT K) from ix_tup) (pv 1) pe_int (fun _ _ => rfl)) pe_int (nomark _)) (pss_one (ps_ret (pe_methDS (E' := WE W) Z.c.cl (ok_Disk_clear T Z X9) hr (fun σ => passAt tk σ) (pv 0) (pa_cons (pe_ix (show IxR _ (rIxT K) from ix_tup) (pv 1) pe_int (fun _ _ => rfl)) pa_nil)))) pss_nil)
      (pss_one (ps_ret (pe_methDS (E' := WE W) Z.c.cl (ok_Disk_sync T Z X9) hr (fun σ => passAt tk σ) (pv 0) (pa_cons (pe_ix (show IxR _ (rIxT K) from ix_tup) (pv 1) pe_int (fun _ _ => rfl)) pa_nil))))))) (fun a oe cls d pn hz hf => (pss_one (ps_ret (y_tt (pa_cons pe_str (pa_cons (pe_callB (y_isE X9.e hz hf) (by rfl) T.z_isinstance (by decide +kernel) (pa_cons (pv 2) (pa_cons (pe_glob (v := .ref _) (by rfl) X9.gM rfl) pa_nil))) pa_nil)))))))), ?_⟩
    rw [show start N_Ldo [.ref p, .ref a] = [some (.ref p), some (.ref a), none] from rfl]
    walk_at "rs"
    refine rd_ixT ha (i := 0) (v := .int k) rfl ?_
    walk_at "rs"
    refine if_dec (fun c => ?_) (fun c => ?_)
    · have k0 : k = 0 := by omega
      subst k0
      walk_at "rs"
      refine rd_wMeth ep0 (kfl_no _ _ _ (by decide +kernel) (by decide +kernel) (by decide +kernel)) ?_
      walk_at "rs"
      refine rd_ixT ha (i := 1) (v := .int f) rfl ?_
      walk_at "rs"
      refine rd_ixT ha (i := 2) (v := .ref b) rfl ?_
      walk_at "rs"
      refine ⟨p, b, o, F, pw, f, bs, rfl, hD, hf, hz, eb, hb, by omega, fun H1 o1 c1 i1 D1 => ?_⟩
      have q1 := q H1 o1 c1 i1 D1
      have ob : opB 0 bs pw = decide (cntO pw bs.length = bs.length) := rfl
      by_cases e : cntO pw bs.length = bs.length
      · show ite (cntO pw bs.length = bs.length) _ _
        rw [if_pos e]
        walk_at "rs"
        exact q1.1 (by rw [ob, decide_eq_true e])
      · show ite (cntO pw bs.length = bs.length) _ _
        rw [if_neg e]
        refine ⟨true, X9.exm, fun _ a ha => ?_, fun q => nomatch q⟩
        walk_at "wp"
        refine ⟨rfl, rfl, .ref M, .ref M, true, rfl, fun u hu => hu, X9.kM, ?_⟩
        walk_at "rs"
        refine rd_wTT (Nat.le_of_ble_eq_true rfl) fun t9 H9 nt9 s9 tk9 => ?_
        exact q1.2 (by rw [ob, decide_eq_false e]) t9 H9 s9 tk9

    · walk_at "rs"
      refine rd_ixT ha (i := 0) (v := .int k) rfl ?_
      walk_at "rs"
      refine if_dec (fun c1 => ?_) (fun c1 => ?_)
      · have k1 : k = 1 := by omega
        subst k1
        walk_at "rs"
        refine rd_wMeth ep0 (kfl_no _ _ _ (by decide +kernel) (by decide +kernel) (by decide +kernel)) ?_
        walk_at "rs"
        refine rd_ixT ha (i := 1) (v := .int f) rfl ?_
        walk_at "rs"
        refine ⟨p, o, F, pw, f, rfl, hD, hf, hz, fun H1 o1 c1 i1 D1 => ?_⟩
        have q1 := q H1 o1 c1 i1 D1
        have ob : opB 1 bs pw = decide (cntO pw 1 = 1) := rfl
        by_cases e : cntO pw 1 = 1
        · show ite (cntO pw 1 = 1) _ _
          rw [if_pos e]
          walk_at "rs"
          exact q1.1 (by rw [ob, decide_eq_true e])
        · show ite (cntO pw 1 = 1) _ _
          rw [if_neg e]
          refine ⟨true, X9.exm, fun _ a ha => ?_, fun q => nomatch q⟩
          walk_at "wp"
          refine ⟨rfl, rfl, .ref M, .ref M, true, rfl, fun u hu => hu, X9.kM, ?_⟩
          walk_at "rs"
          refine rd_wTT (Nat.le_of_ble_eq_true rfl) fun t9 H9 nt9 s9 tk9 => ?_
          exact q1.2 (by rw [ob, decide_eq_false e]) t9 H9 s9 tk9

      · have k2 : k = 2 := by omega
        subst k2
        walk_at "rs"
        refine rd_wMeth ep0 (kfl_no _ _ _ (by decide +kernel) (by decide +kernel) (by decide +kernel)) ?_
        walk_at "rs"
        refine rd_ixT ha (i := 1) (v := .int f) rfl ?_
        walk_at "rs"
        refine ⟨p, o, F, pw, f, rfl, hD, hf, hz, fun H1 o1 c1 i1 D1 => ?_⟩
        have q1 := q H1 o1 c1 i1 D1
        have ob : opB 2 bs pw = decide (cntO pw 1 = 1) := rfl
        by_cases e : cntO pw 1 = 1
        · show ite (cntO pw 1 = 1) _ _
          rw [if_pos e]
          walk_at "rs"
          exact q1.1 (by rw [ob, decide_eq_true e])
        · show ite (cntO pw 1 = 1) _ _
          rw [if_neg e]
          refine ⟨true, X9.exm, fun _ a ha => ?_, fun q => nomatch q⟩
          walk_at "wp"
          refine ⟨rfl, rfl, .ref M, .ref M, true, rfl, fun u hu => hu, X9.kM, ?_⟩
          walk_at "rs"
          refine rd_wTT (Nat.le_of_ble_eq_true rfl) fun t9 H9 nt9 s9 tk9 => ?_
          exact q1.2 (by rw [ob, decide_eq_false e]) t9 H9 s9 tk9

def spSame (K : PySem.W.Frag) (C : Addr) : Sp := fun vs H Q _ => ∃ (p m : Addr) (o o2 : List Addr) (F : Fls) (pw : Option Nat), vs = [.ref p, .ref m] ∧ Dk C H p o F pw ∧ Md H m o2 F pw ∧ OkF F ∧ Sz F 10000 ∧ ∀ H', Same H H' → Q (.bl true) H'
theorem ok_Lsame (T : Tx K mg) (Z : Cs_Disk K mg C) : OkD P w K mg base CX0 3 "_law_same" ["disk", "model"] (spSame K C) := by
  refine ok_mk T.d_Lsame sc_Lsame (fun vs H Q E h => ?_) (fun f cdv A outer s H vs Q E hr h => ?_)
  · obtain ⟨p, m, o, o2, F, pw, rfl, _⟩ := h
    rfl
  · obtain ⟨p, m, o, o2, F, pw, rfl, hD, hM, hF, hz, q⟩ := h
    refine ⟨_, (pss_cons (ps_for PassesOwn.never rfl (pi_range1 (by rfl) T.z_range (pa_cons pe_int pa_nil)) (pg_name (i := 2) sc_Lsame.nd rfl (Or.inl rfl)) (pss_cons (ps_set (i := 3) sc_Lsame.nd rfl (.inl rfl) (pe_methD Z.c.cl (ok_Disk_content T Z) hr pass0 (pv 0) (pa_cons (pv 2) pa_nil)))
      (pss_cons (ps_if (PW.pt (pw_or (pt_not (pt_val (pe_callD (ok_Lis_bytes T) hr (by rfl) pass0 (pa_cons (pv 3) pa_nil)))) (pw_or1 (pt_cmpR (op_neD hr.units) (pv 3) (pe_callD (ok_Lafter T) (hr.mono (by decide)) (by rfl) pass0 (pa_cons (pe_ix ix_tup (pe_ix ix_list (pe_ix ix_list (pv 1) pe_int (fun _ _ => rfl)) (pv 2) (fun _ _ => rfl)) pe_int (fun _ _ => rfl)) (pa_cons (pe_ix ix_tup (pe_ix ix_list (pe_ix ix_list (pv 1) pe_int (fun _ _ => rfl)) (pv 2) (fun _ _ => rfl)) pe_int (fun _ _ => rfl)) pa_nil))) (nomark _))))) (pss_one (ps_ret pe_bl)) pss_nil)
      (pss_cons (ps_if (PW.pt (pw_or (pt_not (pt_val (pe_callD (ok_Lis_integer T) (hr.mono (by decide)) (by rfl) pass0 (pa_cons (pe_methD Z.c.cl (ok_Disk_pending T Z) (hr.mono (by decide)) pass0 (pv 0) (pa_cons (pv 2) pa_nil)) pa_nil)))) (pw_or1 (pt_cmpR op_ne (pe_methD Z.c.cl (ok_Disk_pending T Z) (hr.mono (by decide)) pass0 (pv 0) (pa_cons (pv 2) pa_nil)) (pe_callB y_lenQ (by rfl) T.z_len (by decide +kernel) (pa_cons (pe_ix ix_tup (pe_ix ix_list (pe_ix ix_list (pv 1) pe_int (fun _ _ => rfl)) (pv 2) (fun _ _ => rfl)) pe_int (fun _ _ => rfl)) pa_nil)) (nomark _))))) (pss_one (ps_ret pe_bl)) pss_nil)
      (pss_one (ps_expr (pe_bm PySem.F.plainAttrs_list PySem.F.slot_list_append PySem.F.type_list_append mt_append (pv 3) (pa_cons pe_int pa_nil))))))))
      (pss_one (ps_ret pe_bl))), ?_⟩
    rw [show start N_Lsame [.ref p, .ref m] = [some (.ref p), some (.ref m), none, none] from rfl]
    walk_at "rs"
    refine rd_wRg (by omega) (by omega) ?_
    refine forR (fun i σ H' => Same H H' ∧ ∃ (x2 x3 : Option V), σ = [some (.ref p), some (.ref m), x2, x3]) ⟨Same.refl _, none, none, rfl⟩ (fun i σ H1 hi pr => ?_) (fun σ H1 pr => ?_)
    · obtain ⟨s1, x2, x3, rfl⟩ := pr
      have D1 := hD.same s1
      have M1 := hM.same s1
      have hi2 : i < 2 := by omega
      obtain ⟨dx0, d0, s0, ep0, _⟩ := D1.pow
      have no : ∀ mm : Str, ¬ mm = "_power" → ¬ mm = "_steps" → ¬ mm = "_durable" → (kfl d0 s0 (pwV pw)).lookup mm = none := fun mm a b c => kfl_no _ _ _ a b c
      rw [Int.zero_add]
      walk_at "rs"
      refine rd_wMeth ep0 (no _ (by decide +kernel) (by decide +kernel) (by decide +kernel)) ?_
      walk_at "rs"
      refine ⟨p, o, F, pw, i, rfl, D1, hi2, hz, fun l H2 s2 nl el => ?_⟩
      walk_at "rs"
      have hb := aft_by (hF i).1 (hF i).2
      have hln := aft_len (F i).2 (F i).1
      have hzi := hz i
      refine ⟨l, _, rfl, el, by omega, fun b hb' => by have := hb b hb'; omega, fun H3 s3 => ?_⟩
      have s13 := s2.trans s3
      obtain ⟨fl, t, xs, u, w', em, ef, it, jt, tk, eu, ew, hu, _⟩ := (M1.same s13).set hi2
      walk_at "rs"
      refine rd_ixL (SqL.of em) (i := 0) (v := .ref fl) rfl ?_
      walk_at "rs"
      refine rd_ixL (SqL.of ef) it ?_
      walk_at "rs"
      refine rd_ixT tk.seq (i := 0) (v := .ref u) rfl ?_
      walk_at "rs"
      refine rd_ixL (SqL.of em) (i := 0) (v := .ref fl) rfl ?_
      walk_at "rs"
      refine rd_ixL (SqL.of ef) it ?_
      walk_at "rs"
      refine rd_ixT tk.seq (i := 1) (v := .ref w') rfl ?_
      walk_at "rs"
      refine ⟨u, w', _, _, rfl, SqL.of eu, SqL.of ew, by omega, fun l2 H4 s4 nl2 el2 => ?_⟩
      have el4 := s4 _ _ (s3 _ _ el)
      refine rd_neInts (SqL.of el4) (SqL.of el2) ?_
      walk_at "rs"
      have s14 := s13.trans s4
      have D4 := D1.same s14
      obtain ⟨dx4, d4, s4', ep4, _⟩ := D4.pow
      refine rd_wMeth ep4 (kfl_no _ _ _ (by decide +kernel) (by decide +kernel) (by decide +kernel)) ?_
      walk_at "rs"
      refine ⟨p, o, F, pw, i, rfl, D4, hi2, ?_⟩
      walk_at "rs"
      refine ⟨_, rfl, ?_⟩
      walk_at "rs"
      refine rd_wMeth ep4 (kfl_no _ _ _ (by decide +kernel) (by decide +kernel) (by decide +kernel)) ?_
      walk_at "rs"
      refine ⟨p, o, F, pw, i, rfl, D4, hi2, ?_⟩
      walk_at "rs"
      refine rd_ixL (SqL.of (s4 _ _ em)) (i := 0) (v := .ref fl) rfl ?_
      walk_at "rs"
      refine rd_ixL (SqL.of (s4 _ _ ef)) it ?_
      walk_at "rs"
      refine rd_ixT (tk.same s4).seq (i := 1) (v := .ref w') rfl ?_
      walk_at "rs"
      refine rd_lenL (SqL.of (s4 _ _ ew)) ?_
      rw [List.length_map]
      walk_at "rs"
      rw [decide_eq_true rfl]
      refine iteF ?_
      walk_at "rs"
      refine rd_wTyL (SqL.of el4) ?_
      walk_at "rs"
      refine rd_appendB el4 (by rw [List.length_map]; omega) ?_
      walk_at "rs"
      refine ⟨fun b ob e => ?_, _, _, rfl⟩
      rw [upd_ne (ne_of_none (s1 _ _ e) nl)]
      exact s14 _ _ (s1 _ _ e)
    · obtain ⟨s1, x2, x3, rfl⟩ := pr
      walk_at "rs"
      exact q _ s1
end

/-! ### the disk and its model side by side -/
structure Iv (C st : Addr) (H0 H : Hp) (p m : Addr) (o o2 : List Addr) (F : Fls) (pw : Option Nat) (F2 : Fls) (pw2 : Option Nat) : Prop where
  s : Stt H0 st
  d : Dr st H0 H
  D : Dk C H p o F pw
  M : Md H m o2 F2 pw2
  a1 : ∀ x ∈ o, H0 x = none
  a2 : ∀ x ∈ o2, H0 x = none
  dj : ∀ x ∈ o, x ∉ o2
section
variable {C st p m : Addr} {H0 H H1 : Hp} {o o2 o' : List Addr} {F F2 F' : Fls} {pw pw2 pw' : Option Nat}
theorem Dr.dead (d : Dr st H0 H) {x : Addr} (h : H x = none) : H0 x = none := by
  cases e : H0 x with
  | none => rfl
  | some u =>
    by_cases g : x = st
    · obtain ⟨k, v, q⟩ := d.2
      rw [g, q] at h
      cases h
    · rw [d.1 x u g e] at h
      cases h
theorem Dr.chg (s : Stt H0 st) (d : Dr st H0 H) (a : ∀ x ∈ o, H0 x = none) (c : Chg o H H1) : Dr st H0 H1 := by
  have al : ∀ x u, H0 x = some u → x ∉ o := fun x u e h => by
    rw [a x h] at e
    cases e
  refine ⟨fun x u n e => c x u (al x u e) (d.1 x u n e), ?_⟩
  obtain ⟨k, v, q⟩ := d.2
  obtain ⟨k0, v0, q0⟩ := s
  exact ⟨k, v, c st _ (al st _ q0) q⟩
theorem Dr.dead' (d : Dr st H H1) {k v : Int} (e : H st = some (.lst [.int k, .int v])) {x : Addr} (h : H1 x = none) : H x = none := Dr.dead d h
theorem Iv.same (I : Iv C st H0 H p m o o2 F pw F2 pw2) (s : Same H H1) : Iv C st H0 H1 p m o o2 F pw F2 pw2 := ⟨I.s, I.d.trans (Dr.same I.d.2 s), I.D.same s, I.M.same s, I.a1, I.a2, I.dj⟩
theorem Iv.dr (I : Iv C st H0 H p m o o2 F pw F2 pw2) (d : Dr st H H1) : Iv C st H0 H1 p m o o2 F pw F2 pw2 := by
  have n : ∀ x, H0 x = none → x ≠ st := fun x h e => by
    obtain ⟨k, v, q⟩ := I.s
    rw [e, q] at h
    cases h
  exact ⟨I.s, I.d.trans d, I.D.keep fun x hx u e => d.1 x u (n x (I.a1 x hx)) e, I.M.keep fun x hx u e => d.1 x u (n x (I.a2 x hx)) e, I.a1, I.a2, I.dj⟩
theorem Iv.disk (I : Iv C st H0 H p m o o2 F pw F2 pw2) (c : Chg o H H1) (i : ∀ x ∈ o', x ∈ o ∨ H x = none) (D : Dk C H1 p o' F' pw') : Iv C st H0 H1 p m o' o2 F' pw' F2 pw2 := by
  refine ⟨I.s, Dr.chg I.s I.d I.a1 c, D, I.M.keep fun x hx u e => c x u (fun h => I.dj x h hx) e, fun x hx => ?_, I.a2, fun x hx hx2 => ?_⟩
  · rcases i x hx with g | g
    · exact I.a1 x g
    · exact I.d.dead g
  · rcases i x hx with g | g
    · exact I.dj x g hx2
    · obtain ⟨u, e⟩ := I.M.alive x hx2
      rw [e] at g
      cases g
theorem Iv.model {m' : Addr} {o2' : List Addr} (I : Iv C st H0 H p m o o2 F pw F2 pw2) (c : Chg o2 H H1) (i : ∀ x ∈ o2', x ∈ o2 ∨ H x = none) (M : Md H1 m' o2' F' pw') : Iv C st H0 H1 p m' o o2' F pw F' pw' := by
  refine ⟨I.s, Dr.chg I.s I.d I.a2 c, I.D.keep fun x hx u e => c x u (I.dj x hx) e, M, I.a1, fun x hx => ?_, fun x hx hx2 => ?_⟩
  · rcases i x hx with g | g
    · exact I.a2 x g
    · exact I.d.dead g
  · rcases i x hx2 with g | g
    · exact I.dj x hx g
    · obtain ⟨u, e, _⟩ := I.D.alive x hx
      rw [e] at g
      cases g
theorem Iv.new (I : Iv C st H0 H p m o o2 F pw F2 pw2) {x : Addr} (h : H x = none) : x ∉ o ∧ x ∉ o2 ∧ H0 x = none := by
  refine ⟨fun g => ?_, fun g => ?_, I.d.dead h⟩
  · obtain ⟨u, e, _⟩ := I.D.alive x g
    rw [e] at h
    cases h
  · obtain ⟨u, e⟩ := I.M.alive x g
    rw [e] at h
    cases h
theorem Iv.put (I : Iv C st H0 H p m o o2 F pw F2 pw2) {x : Addr} {u : HO} (n : x ∉ o ∧ x ∉ o2 ∧ H0 x = none) : Iv C st H0 (upd H x u) p m o o2 F pw F2 pw2 := by
  refine ⟨I.s, Dr.chg (o := [x]) I.s I.d (fun y hy => by rw [List.mem_singleton.mp hy]; exact n.2.2) (Chg.put (Chg.refl _ _) (.inl (by simp))), I.D.keep fun y hy v e => ?_, I.M.keep fun y hy v e => ?_, I.a1, I.a2, I.dj⟩
  · rw [upd_ne fun z => n.1 (by rw [← z]; exact hy)]
    exact e
  · rw [upd_ne fun z => n.2.1 (by rw [← z]; exact hy)]
    exact e
theorem SqT.chg {K : PySem.W.Frag} {a : Addr} {xs : List V} (t : SqT K H a xs) (c : Chg o H H1) (n : a ∉ o) : SqT K H1 a xs := by
  rcases t with (h | ⟨b, h⟩) | h
  · exact .inl (.inl (c _ _ n h))
  · exact .inl (.inr ⟨b, c _ _ n h⟩)
  · exact .inr h
end
theorem opF_ok {F : Fls} {k f : Nat} {bs : List Int} {pw : Option Nat} (h : OkF F) (hb : ByL bs) : OkF (opF k f bs F pw) := by
  unfold opF
  split
  · split
    · exact h.up (aft_by (h f).1 (h f).2) fun z hz => nomatch hz
    · exact h
  · refine h.up (h f).1 fun z hz => ?_
    rcases List.mem_append.mp hz with hz | hz
    · exact (h f).2 z hz
    · have hz := List.mem_of_mem_take hz
      unfold stp at hz
      split at hz
      · have := hb z hz
        omega
      · rw [List.mem_singleton.mp hz]
        decide
theorem opF_sz {F : Fls} {k f n : Nat} {bs : List Int} {pw : Option Nat} (h : Sz F n) (hb : bs.length ≤ 5) : Sz (opF k f bs F pw) (n + 5) := by
  have hf := h f
  unfold opF
  split
  · split
    · refine h.up (by omega) ?_
      have := aft_len (F f).2 (F f).1
      show (aft (F f).1 (F f).2).length + 0 ≤ _
      omega
    · exact fun j => Nat.le_trans (h j) (by omega)
  · refine h.up (by omega) ?_
    have h1 := List.length_take_le' (cntO pw (stp k bs).length) (stp k bs)
    have h2 : (stp k bs).length ≤ 5 := by
      unfold stp
      split
      · exact hb
      · exact (by decide : 1 ≤ 5)
    show (F f).1.length + ((F f).2 ++ (stp k bs).take (cntO pw (stp k bs).length)).length ≤ _
    rw [List.length_append]
    omega
theorem ints255 {ys : List V} (h : ∀ y ∈ ys, ∃ i : Int, y = .int i ∧ (0 ≤ i ∧ i ≤ 255)) : ∃ bs : List Int, ys = bs.map V.int ∧ ByL bs := by
  induction ys with
  | nil => exact ⟨[], rfl, fun _ h => nomatch h⟩
  | cons y ys ih =>
    obtain ⟨i, rfl, a⟩ := h y List.mem_cons_self
    obtain ⟨bs, rfl, hb⟩ := ih fun z hz => h z (List.mem_cons_of_mem _ hz)
    refine ⟨i :: bs, rfl, fun z hz => ?_⟩
    rcases List.mem_cons.mp hz with rfl | hz
    · exact a
    · exact hb z hz
theorem durF_ok {F : Fls} {f n : Nat} (h : OkF F) : OkF (durF F f n) := h.up (aft_by (h f).1 fun z hz => (h f).2 z (List.mem_of_mem_take hz)) fun z hz => nomatch hz
section
variable {P : Program} {w : World} {K : PySem.W.Frag} {mg : Str → Option Value} {base : Heap} {C E0 M : Addr}
def spLaw (K : PySem.W.Frag) : Sp := fun vs H Q _ => ∃ (sc : Addr) (ns : List Int), vs = [.ref sc] ∧ SqL K H sc (ns.map V.int) ∧ ∀ H', Q (.bl true) H'
theorem ok_law (T : Tx K mg) (Z : Cs_Disk K mg C) (X9 : ExN K mg "PowerCut" E0 M) {f : Addr} {fd : FuncData} (F : Fun K "law" "law" s_law f fd) : FnOk P w K mg base CX0 5 f fd ["script"] (spLaw K) := by
  refine ok_F F sc_law (fun vs H Q E h => ?_) (fun cdv A outer s H vs Q E hr h => ?_)
  · obtain ⟨sc, ns, rfl, _⟩ := h
    rfl
  · obtain ⟨sc, ns, rfl, hS, q⟩ := h
    refine ⟨_, (pss_cons (ps_set (i := 1) sc_law.nd rfl (.inr rfl) (pe_lst (pa_cons pe_int (pa_cons pe_int pa_nil))))
      (pss_cons (ps_set (i := 2) sc_law.nd rfl (.inl rfl) (pe_makeC0 Z.c (ok_Disk_init T Z) (hr.mono (by decide)) (by rfl) pass0))
      (pss_cons (ps_set (i := 3) sc_law.nd rfl (.inr rfl) (pe_lst (pa_cons (pe_lst (pa_cons (y_tt (pa_cons (pe_lst pa_nil) (pa_cons (pe_lst pa_nil) pa_nil))) (pa_cons (y_tt (pa_cons (pe_lst pa_nil) (pa_cons (pe_lst pa_nil) pa_nil))) pa_nil))) (pa_cons pe_non pa_nil))))
      (pss_cons (ps_if (pt_not (pt_val (pe_callD (ok_Lsame T Z) (hr.mono (by decide)) (by rfl) pass0 (pa_cons (pv 2) (pa_cons (pv 3) pa_nil))))) (pss_one (ps_ret pe_bl)) pss_nil)
      (pss_cons (ps_for PassesOwn.never rfl (pi_range1 (by rfl) T.z_range (pa_cons (pe_callD (ok_Ldraw T) (hr.mono (by decide)) (by rfl) pass0 (pa_cons (pv 1) (pa_cons (pv 0) (pa_cons pe_int pa_nil)))) pa_nil)) (pg_name (i := 4) sc_law.nd rfl (Or.inl rfl)) (pss_cons (ps_set (i := 5) sc_law.nd rfl (.inl rfl) (pe_callD (ok_Ldraw T) (hr.mono (by decide)) (by rfl) pass0 (pa_cons (pv 1) (pa_cons (pv 0) (pa_cons pe_int pa_nil)))))
      (pss_cons (ps_set (i := 6) sc_law.nd rfl (.inl rfl) (pe_callD (ok_Ldraw T) (hr.mono (by decide)) (by rfl) pass0 (pa_cons (pv 1) (pa_cons (pv 0) (pa_cons pe_int pa_nil)))))
      (pss_cons (ps_if (pt_cmpR op_le (pv 5) pe_int (nomark _)) (pss_cons (ps_set (i := 7) sc_law.nd rfl (.inl rfl) (y_tt (pa_cons (pe_callB (y_min2 rfl) (by rfl) T.z_min (by decide +kernel) (pa_cons (pv 5) (pa_cons pe_int pa_nil))) (pa_cons (pv 6) (pa_cons (pe_lc (own := [("j", 13)]) (g := gName 13) rfl sc_law.nd (pi_range1 (by rfl) T.z_range (pa_cons (pe_callD (ok_Ldraw T) (hr.mono (by decide)) (by rfl) pass0 (pa_cons (pv 1) (pa_cons (pv 0) (pa_cons pe_int pa_nil)))) pa_nil)) (blkOk_by (N := N_law) (sc := defScope s_law) (by decide +kernel)) (fun _ _ _ _ _ => pg_name (i := 13) sc_law.nd rfl (Or.inl rfl)) (fun _ _ _ _ _ => pts_nil) (fun _ _ _ _ _ => (pe_callD (ok_Ldraw T) (hr.mono (by decide)) (by rfl) pass0 (pa_cons (pv 1) (pa_cons (pv 0) (pa_cons pe_int pa_nil)))))) pa_nil)))))
      (pss_cons (ps_if (pt_cmpR op_eq (pv 5) pe_int (nomark _)) (pss_one (ps_set (i := 7) sc_law.nd rfl (.inl rfl) (pe_op op_catT (y_tt (pa_cons pe_int pa_nil)) (pe_slice sl_tup (pv 7) (po_some pe_int) po_none)))) pss_nil)
      (pss_cons (ps_set (i := 8) sc_law.nd rfl (.inl rfl) (pe_callTy y_listOf (by rfl) T.z_list (by decide +kernel) (pa_cons (pe_ix ix_tup (pv 7) pe_int (fun _ _ => rfl)) pa_nil)))
      (pss_cons (ps_set (i := 9) sc_law.nd rfl (.inl rfl) (pe_callD (ok_Lmodel T) (hr.mono (by decide)) (by rfl) pass0 (pa_cons (pv 3) (pa_cons (pv 7) pa_nil))))
      (pss_cons (ps_set (i := 10) sc_law.nd rfl (.inl rfl) (pe_callD (ok_Ldo T Z X9) hr (by rfl) pass0 (pa_cons (pv 2) (pa_cons (y_tt (pa_cons (pe_ix ix_tup (pv 7) pe_int (fun _ _ => rfl)) (pa_cons (pv 6) (pa_cons (pv 8) pa_nil)))) pa_nil))))
      (pss_cons (ps_if (PW.pt (pw_or (pt_cmpR (op_neD hr.units) (pv 10) (pe_ix ix_list (pe_lst (pa_cons (y_tt (pa_cons pe_str (pa_cons pe_bl pa_nil))) (pa_cons pe_non pa_nil))) (pe_callTy y_int (by rfl) T.z_int (by decide +kernel) (pa_cons (pv 9) pa_nil)) (fun _ _ => rfl)) (nomark _)) (pw_or1 (pt_cmpR (op_neD hr.units) (pv 8) (pe_ix ix_tup (pv 7) pe_int (fun _ _ => rfl)) (nomark _))))) (pss_one (ps_ret pe_bl)) pss_nil)
      (pss_one (ps_expr (pe_bm PySem.F.plainAttrs_list PySem.F.slot_list_append PySem.F.type_list_append mt_append (pv 8) (pa_cons pe_int pa_nil)))))))))) (pss_one (ps_if (pt_cmpR op_eq (pv 5) pe_int (nomark _)) (pss_cons (ps_set (i := 11) sc_law.nd rfl (.inl rfl) (pe_ix ix_list (pe_lst (pa_cons pe_non (pa_cons (pe_callD (ok_Ldraw T) (hr.mono (by decide)) (by rfl) pass0 (pa_cons (pv 1) (pa_cons (pv 0) (pa_cons pe_int pa_nil)))) pa_nil))) (pe_callD (ok_Ldraw T) (hr.mono (by decide)) (by rfl) pass0 (pa_cons (pv 1) (pa_cons (pv 0) (pa_cons pe_int pa_nil)))) (fun _ _ => rfl)))
      (pss_cons (ps_expr (pe_methD Z.c.cl (ok_Disk_limit T Z) (hr.mono (by decide)) pass0 (pv 2) (pa_cons (pv 11) pa_nil)))
      (pss_one (ps_asg (pv 11) (pg_sub (pv 3) pe_int set_list))))) (pss_cons (ps_set (i := 12) sc_law.nd rfl (.inr rfl) (pe_lc (own := [("j", 13)]) (g := gName 13) rfl sc_law.nd (pi_range1 (by rfl) T.z_range (pa_cons pe_int pa_nil)) (blkOk_by (N := N_law) (sc := defScope s_law) (by decide +kernel)) (fun _ _ _ _ _ => pg_name (i := 13) sc_law.nd rfl (Or.inl rfl)) (fun _ _ _ _ _ => pts_nil) (fun _ _ _ _ _ => (pe_ix (show IxR _ (rIxL K) from ix_list) (pe_lst (pa_cons (pe_callD (ok_Ldraw T) (hr.mono (by decide)) (by rfl) pass0 (pa_cons (pv 1) (pa_cons (pv 0) (pa_cons pe_int pa_nil)))) (pa_cons pe_int pa_nil))) (pe_callD (ok_Ldraw T) (hr.mono (by decide)) (by rfl) pass0 (pa_cons (pv 1) (pa_cons (pv 0) (pa_cons pe_int pa_nil)))) (fun _ _ => rfl)))))
      (pss_cons (ps_expr (pe_methD Z.c.cl (ok_Disk_crash T Z) (hr.mono (by decide)) pass0 (pv 2) (pa_cons (pe_ix ix_list (pv 12) pe_int (fun _ _ => rfl)) (pa_cons (pe_ix ix_list (pv 12) pe_int (fun _ _ => rfl)) pa_nil))))
      (pss_one (ps_set (i := 3) sc_law.nd rfl (.inr rfl) (pe_lst (pa_cons (pe_lc (own := [("j", 13)]) (g := gName 13) rfl sc_law.nd (pi_range1 (by rfl) T.z_range (pa_cons pe_int pa_nil)) (blkOk_by (N := N_law) (sc := defScope s_law) (by decide +kernel)) (fun _ _ _ _ _ => pg_name (i := 13) sc_law.nd rfl (Or.inl rfl)) (fun _ _ _ _ _ => pts_nil) (fun _ _ _ _ _ => (y_tt (pa_cons (pe_callD (ok_Lafter T) (hr.mono (by decide)) (by rfl) pass0 (pa_cons (pe_ix (show IxR _ (rIxT K) from ix_tup) (pe_ix (show IxR _ (rIxL K) from ix_list) (pe_ix (show IxR _ (rIxL K) from ix_list) (pv 3) pe_int (fun _ _ => rfl)) (pv 13) (fun _ _ => rfl)) pe_int (fun _ _ => rfl)) (pa_cons (pe_slice (show SlR _ (rSlL K) from sl_list) (pe_ix (show IxR _ (rIxT K) from ix_tup) (pe_ix (show IxR _ (rIxL K) from ix_list) (pe_ix (show IxR _ (rIxL K) from ix_list) (pv 3) pe_int (fun _ _ => rfl)) (pv 13) (fun _ _ => rfl)) pe_int (fun _ _ => rfl)) po_none (po_some (pe_ix (show IxR _ (rIxL K) from ix_list) (pv 12) (pv 13) (fun _ _ => rfl)))) pa_nil))) (pa_cons (pe_lst pa_nil) pa_nil))))) (pa_cons pe_non pa_nil))))))))))
      (pss_one (ps_if (pt_not (pt_val (pe_callD (ok_Lsame T Z) (hr.mono (by decide)) (by rfl) pass0 (pa_cons (pv 2) (pa_cons (pv 3) pa_nil))))) (pss_one (ps_ret pe_bl)) pss_nil))))))
      (pss_one (ps_ret pe_bl))))))), ?_⟩
    rw [show start N_law [.ref sc] = [some (.ref sc), none, none, none, none, none, none, none, none, none, none, none, none, none] from rfl]
    walk_at "rs"
    refine rd_wLs (Nat.le_of_ble_eq_true rfl) fun st nst => ?_
    have W : Wd K st sc ns (upd H st (.lst [.int 0, .int 0])) := ⟨⟨0, 0, upd_same⟩, fun H' k => Same.seq (fun a o e => k a o (ne_of_none e nst) (by rw [upd_ne (ne_of_none e nst)]; exact e)) hS⟩
    generalize upd H st (.lst [.int 0, .int 0]) = H0 at W ⊢
    walk_at "rs"
    intro p dx np ndx nex
    refine ⟨p, dx, rfl, upd_same, fun H1 o1 c1 i1 D1 => ⟨rfl, ?_⟩⟩
    have s1 : Same H0 H1 := fun b ob e => c1 b ob (ne_of_none e np) (by
      rw [upd_ne (ne_of_none e np), upd_ne (ne_of_none e ndx)]
      exact e)
    have f1 : ∀ x ∈ o1, H0 x = none := fun x hx => by
      rcases i1 x hx with g | g
      · rw [g]
        exact np
      · exact (free_upd (free_upd g).1).1
    walk_at "rs"
    refine rd_wLsG (Nat.le_of_ble_eq_true rfl) fun u0 G1 nu0 g1 eu0 => ?_
    walk_at "rs"
    refine rd_wLsG (Nat.le_of_ble_eq_true rfl) fun w0 G2 nw0 g2 ew0 => ?_
    walk_at "rs"
    refine rd_wTT (Nat.le_of_ble_eq_true rfl) fun t0 G3 nt0 g3 tk0 => ?_
    walk_at "rs"
    refine rd_wLsG (Nat.le_of_ble_eq_true rfl) fun u1 G4 nu1 g4 eu1 => ?_
    walk_at "rs"
    refine rd_wLsG (Nat.le_of_ble_eq_true rfl) fun w1 G5 nw1 g5 ew1 => ?_
    walk_at "rs"
    refine rd_wTT (Nat.le_of_ble_eq_true rfl) fun t1 G6 nt1 g6 tk1 => ?_
    walk_at "rs"
    refine rd_wLsG (Nat.le_of_ble_eq_true rfl) fun fl G7 nfl g7 efl => ?_
    walk_at "rs"
    refine rd_wLsG (Nat.le_of_ble_eq_true rfl) fun m G8 nm g8 em => ?_
    walk_at "rs"
    have M8 : Md G8 m [m, fl, t0, t1, u0, w0, u1, w1] (fun _ => ([], [])) none := by
      have a1 := g6 _ _ (g5 _ _ (g4 _ _ (g3 _ _ (g2 _ _ eu0))))
      have a2 := g6 _ _ (g5 _ _ (g4 _ _ (g3 _ _ ew0)))
      have a3 := g6 _ _ (g5 _ _ eu1)
      have a4 := g6 _ _ ew1
      refine ⟨fl, t0, t1, u0, w0, u1, w1, rfl, ⟨(ne_of_none efl nm).symm, ⟨ne_of_none (g7 _ _ a1) nm, ne_of_none a1 nfl⟩, ⟨ne_of_none (g7 _ _ a2) nm, ne_of_none a2 nfl⟩, ⟨ne_of_none (g7 _ _ a3) nm, ne_of_none a3 nfl⟩, ne_of_none (g7 _ _ a4) nm, ne_of_none a4 nfl⟩,
        ⟨em, g8 _ _ efl, ((((tk0.same g4).same g5).same g6).same g7).same g8, (tk1.same g7).same g8, g8 _ _ (g7 _ _ a1), g8 _ _ (g7 _ _ a2), g8 _ _ (g7 _ _ a3), g8 _ _ (g7 _ _ a4)⟩⟩
    have dead1 : ∀ x, H1 x = none → H0 x = none := fun x h => s1.free h
    have I8 : Iv C st H0 G8 p m o1 [m, fl, t0, t1, u0, w0, u1, w1] (fun _ => ([], [])) none (fun _ => ([], [])) none := by
      have s18 : Same H1 G8 := ((((((g1.trans g2).trans g3).trans g4).trans g5).trans g6).trans g7).trans g8
      have dd : ∀ x ∈ [m, fl, t0, t1, u0, w0, u1, w1], H1 x = none := fun x hx => by
        simp only [List.mem_cons, List.not_mem_nil, or_false] at hx
        rcases hx with rfl | rfl | rfl | rfl | rfl | rfl | rfl | rfl
        · exact g1.free (g2.free (g3.free (g4.free (g5.free (g6.free (g7.free nm))))))
        · exact g1.free (g2.free (g3.free (g4.free (g5.free (g6.free nfl)))))
        · exact g1.free (g2.free nt0)
        · exact g1.free (g2.free (g3.free (g4.free (g5.free nt1))))
        · exact nu0
        · exact g1.free nw0
        · exact g1.free (g2.free (g3.free nu1))
        · exact g1.free (g2.free (g3.free (g4.free nw1)))
      refine ⟨W.1, Dr.same W.1 (s1.trans s18), D1.same s18, M8, f1, fun x hx => dead1 x (dd x hx), fun x hx hx2 => ?_⟩
      obtain ⟨u, e, _⟩ := D1.alive x hx
      rw [dd x hx2] at e
      cases e
    clear M8
    generalize [m, fl, t0, t1, u0, w0, u1, w1] = o2 at I8
    have z8 : Sz (fun _ => ([], [])) 0 := fun j => Nat.le_refl _
    have k8 : OkF (fun _ => ([], [])) := fun j => ⟨(fun z h => nomatch h), (fun z h => nomatch h)⟩
    generalize (fun _ => ([], []) : Fls) = F0 at I8 z8 k8
    refine ⟨p, m, o1, o2, F0, none, rfl, I8.D, I8.M, k8, (fun j => Nat.le_trans (z8 j) (by decide)), fun H9 s9 => ?_⟩
    have I9 := I8.same s9
    walk_at "rs"
    refine draw_i (W.next I9.d) (by decide) (by decide) fun d1 HA a0 a1 DA WA => ?_
    have IA := I9.dr DA
    walk_at "rs"
    refine rd_wRg (by omega) (by omega) ?_
    refine forR (fun i σ H' => ∃ (m : Addr) (o o2 : List Addr) (F : Fls) (pw : Option Nat) (x4 x5 x6 x7 x8 x9 x10 x11 x12 : Option V), σ = [some (.ref sc), some (.ref st), some (.ref p), some (.ref m), x4, x5, x6, x7, x8, x9, x10, x11, x12, none] ∧
      Iv C st H0 H' p m o o2 F pw F pw ∧ OkF F ∧ Sz F (5 * i)) ⟨m, o1, o2, F0, none, _, _, _, _, _, _, _, _, _, rfl, IA, k8, z8⟩ (fun i σ H2 hi pr => ?_) (fun σ H2 pr => ?_)
    · obtain ⟨m, o, o2, F, pw, x4, x5, x6, x7, x8, x9, x10, x11, x12, rfl, I, hok, hsz⟩ := pr
      have hi13 : i < 13 := by omega
      walk_at "rs"
      refine draw_i (W.next I.d) (by decide) (by decide) fun d2 H3 b0 b1 D3 W3 => ?_
      have I3 := I.dr D3
      walk_at "rs"
      refine draw_i W3 (by decide) (by decide) fun d3 H4 c0 c1 D4 W4 => ?_
      have I4 := I3.dr D4
      obtain ⟨kn, rfl⟩ := Int.eq_ofNat_of_zero_le b0
      obtain ⟨fn, rfl⟩ := Int.eq_ofNat_of_zero_le c0
      have hfn : fn < 2 := by omega
      refine rd_n6 ?_
      refine seq_to (fun σ H' => ∃ (m : Addr) (o o2 : List Addr) (F : Fls) (pw : Option Nat) (x4 x5 x6 x7 x8 x9 x10 x11 x12 : Option V), σ = [some (.ref sc), some (.ref st), some (.ref p), some (.ref m), x4, x5, x6, x7, x8, x9, x10, x11, x12, none] ∧
        Iv C st H0 H' p m o o2 F pw F pw ∧ OkF F ∧ Sz F (5 * (i + 1))) (fun σ H5 pr => ?_) (fun nx' hnx => ?_)
      · obtain ⟨m, o, o2, F, pw, x4, x5, x6, x7, x8, x9, x10, x11, x12, rfl, I, hok, hsz⟩ := pr
        walk_at "rs"
        refine ⟨p, m, o, o2, F, pw, rfl, I.D, I.M, hok, (fun j => Nat.le_trans (hsz j) (by omega)), fun H9 s9 => ?_⟩
        walk_at "rs"
        exact ⟨m, o, o2, F, pw, _, _, _, _, _, _, _, _, _, rfl, I.same s9, hok, hsz⟩
      · walk_at "rs"
        refine if_dec (fun c => ?_) (fun c => ?_)
        · walk_at "rs"
          refine draw_i W4 (by decide) (by decide) fun d5 H5 e0 e1 D5 W5 => ?_
          have I5 := I4.dr D5
          walk_at "rs"
          refine rd_wRg (by omega) (by omega) fun Bk nBk => ?_
          refine lcR (G := fun y => ∃ i : Int, y = .int i ∧ (0 ≤ i ∧ i ≤ 255)) W5 nBk (by omega) (fun i H6 R hi W6 E6 r => ⟨rfl, ?_⟩) (fun H6 ys E6 W6 nS hD hl hg => ?_)
          · walk_at "wp"
            exact draw_i W6 (by decide) (by decide) fun d7 H7 a b E7 W7 => r _ _ E7 ⟨d7, rfl, a, by omega⟩
          · obtain ⟨bs, rfl, hby⟩ := ints255 hg
            rw [List.length_map] at hl
            have hb5 : bs.length ≤ 5 := by omega
            have I6 := I5.dr E6
            have nB := I5.new nBk
            walk_at "rs"
            refine rd_wTT (Nat.le_of_ble_eq_true rfl) fun a1' H7 na7 s7 tk7 => ?_
            have I7 := I6.same s7
            have nA7 := I6.new na7
            have hB7 := s7 _ _ hD
            have emn : (if (2 : Int) < (kn : Nat) then (2 : Int) else (kn : Nat)) = ((min kn 2 : Nat) : Int) := by
              by_cases g : 2 < kn
              · rw [if_pos (by omega), Nat.min_eq_right (by omega)]
                rfl
              · rw [if_neg (by omega), Nat.min_eq_left (by omega)]
            rw [emn] at tk7
            walk_at "rs"
            refine if_tail (fun σ H' => Same H7 H' ∧ ∃ (a : Addr) (k : Nat), σ = [some (.ref sc), some (.ref st), some (.ref p), some (.ref m), some (.int (0 + (i : Nat))), some (.int kn), some (.int fn), some (.ref a), x8, x9, x10, x11, x12, none] ∧ SqT K H' a [.int k, .int fn, .ref Bk] ∧ k ≤ 2 ∧ (a ∉ o ∧ a ∉ o2 ∧ H0 a = none)) (fun σ H8 pr => ?_) (fun nx' hnx => if_dec (fun c3 => ?_) (fun c3 => ?_))
            · obtain ⟨s8, a, k, rfl, ta, hk, nA⟩ := pr
              have I8 := I7.same s8
              have hB8 := s8 _ _ hB7
              walk_at "rs"
              refine rd_ixT ta (i := 2) (v := .ref Bk) rfl ?_
              walk_at "rs"
              refine rd_listL (SqL.of hB8) fun h9 nh9 => ?_
              have s9 := same_new nh9 (o := .lst (bs.map V.int))
              have I9 := I8.same s9
              have nH := I8.new nh9
              have hH9 := upd_same (H := H8) (a := h9) (o := .lst (bs.map V.int))
              have ta9 := same_tup s9 ta
              have hB9 := s9 _ _ hB8
              generalize upd H8 h9 (.lst (bs.map V.int)) = H9 at I9 hH9 ta9 hB9 ⊢
              walk_at "rs"
              refine ⟨m, a, Bk, o2, F, pw, k, fn, bs, rfl, I9.M, ta9, hB9, hby, hk, hfn, (fun j => Nat.le_trans (hsz j) (by omega)), by omega, fun HA oA cA iA MA => ?_⟩
              have IA := I9.model cA iA MA
              have hHA := cA _ _ nH.2.1 hH9
              have hBA := cA _ _ nB.2.1 hB9
              have taA := SqT.chg ta9 cA nA.2.1
              walk_at "rs"
              refine rd_ixT taA (i := 0) (v := .int k) rfl ?_
              walk_at "rs"
              refine rd_wTT (Nat.le_of_ble_eq_true rfl) fun b2 HB nb2 sB tkB => ?_
              have IB := IA.same sB
              have hHB := sB _ _ hHA
              have hBB := sB _ _ hBA
              have taB := same_tup sB taA
              walk_at "rs"
              refine ⟨p, b2, h9, o, F, pw, k, fn, bs, rfl, IB.D, tkB.seq, hHB, nH.1, hk, hfn, (fun j => Nat.le_trans (hsz j) (by omega)), by omega, fun HC oC cC iC DC => ?_⟩
              have IC := IB.disk cC iC DC
              have hHC := cC _ _ nH.1 hHB
              have hBC := cC _ _ nB.1 hBB
              have taC := SqT.chg taB cC nA.1
              have nHC : h9 ∉ oC ∧ h9 ∉ oA ∧ H0 h9 = none := by
                refine ⟨fun g => ?_, fun g => ?_, nH.2.2⟩
                · rcases iC _ g with g | g
                  · exact nH.1 g
                  · rw [hHB] at g
                    cases g
                · rcases iA _ g with g | g
                  · exact nH.2.1 g
                  · rw [hH9] at g
                    cases g
              have last : ∀ (HD : Hp), Same HC HD → ∀ x4 x5 x6 x7 x9 x10 x11 x12 : Option V, nx' [some (.ref sc), some (.ref st), some (.ref p), some (.ref m), x4, x5, x6, x7, some (.ref h9), x9, x10, x11, x12, none] (upd HD h9 (.lst (bs.map V.int ++ [.int 7]))) := fun HD sD x4 x5 x6 x7 x9 x10 x11 x12 =>
                hnx _ _ ⟨m, oC, oA, _, _, _, _, _, _, _, _, _, _, _, rfl, (IC.same sD).put nHC, opF_ok hok hby, opF_sz hsz hb5⟩
              refine ⟨fun ee => ?_, fun ee qT HD sD tkD => ?_⟩
              · walk_at "rs"
                refine rd_wTT (Nat.le_of_ble_eq_true rfl) fun q1 HE nq1 sE tkE => ?_
                walk_at "rs"
                refine rd_wLsG (Nat.le_of_ble_eq_true rfl) fun q2 HF nq2 sF eq2 => ?_
                walk_at "rs"
                have ev : atI [V.ref q1, V.non] (if opB k bs pw = true then (1 : Int) else 0) = some (.non) := by
                  rw [ee]
                  rfl
                refine rd_ixL (SqL.of eq2) ev ?_
                refine rd_neV .non .non Sh.none ?_
                walk_at "rs"
                have sCF := sE.trans sF
                refine rd_ixT (same_tup sCF taC) (i := 2) (v := .ref Bk) rfl ?_
                refine rd_neInts (SqL.of (sCF _ _ hHC)) (SqL.of (sCF _ _ hBC)) ?_
                walk_at "rs"
                refine rd_wTyL (SqL.of (sCF _ _ hHC)) ?_
                walk_at "rs"
                refine rd_appendB (sCF _ _ hHC) (by rw [List.length_map]; omega) ?_
                walk_at "rs"
                exact last HF sCF _ _ _ _ _ _ _ _
              · walk_at "rs"
                refine rd_wTT (Nat.le_of_ble_eq_true rfl) fun q1 HE nq1 sE tkE => ?_
                walk_at "rs"
                refine rd_wLsG (Nat.le_of_ble_eq_true rfl) fun q2 HF nq2 sF eq2 => ?_
                walk_at "rs"
                have ev : atI [V.ref q1, V.non] (if opB k bs pw = true then (1 : Int) else 0) = some (.ref q1) := by
                  rw [ee]
                  rfl
                refine rd_ixL (SqL.of eq2) ev ?_
                have sDF := sE.trans sF
                have sCF := sD.trans sDF
                refine rd_neV (.tup (tkD.same sDF) (.cons (.str _) (.cons (.bl _) .nil))) (.tup (tkE.same sF) (.cons (.str _) (.cons (.bl _) .nil))) (Sh.tuple (Sh.two (Sh.str (asc_of (by decide +kernel))) (Sh.bool _))) ?_
                walk_at "rs"
                refine rd_ixT (same_tup sCF taC) (i := 2) (v := .ref Bk) rfl ?_
                refine rd_neInts (SqL.of (sCF _ _ hHC)) (SqL.of (sCF _ _ hBC)) ?_
                walk_at "rs"
                refine rd_wTyL (SqL.of (sCF _ _ hHC)) ?_
                walk_at "rs"
                refine rd_appendB (sCF _ _ hHC) (by rw [List.length_map]; omega) ?_
                walk_at "rs"
                exact last HF sCF _ _ _ _ _ _ _ _
            · walk_at "rs"
              refine rd_wTT (Nat.le_of_ble_eq_true rfl) fun q1 HA nq1 sA tkA => ?_
              walk_at "rs"
              refine rd_slTfrom1 (tk7.same sA).seq fun q2 nq2 => ?_
              have sB := same_new nq2 (o := .tup [.int fn, .ref Bk])
              refine rd_catT (tkA.same sB).seq (SqT.of upd_same) fun q3 nq3 => ?_
              have sC := same_new nq3 (o := .tup [.int 0, .int fn, .ref Bk])
              walk_at "rs"
              exact hnx _ _ ⟨(sA.trans sB).trans sC, q3, 0, rfl, SqT.of upd_same, by decide, I7.new (sA.free (sB.free nq3))⟩
            · walk_at "rs"
              exact hnx _ _ ⟨Same.refl _, a1', min kn 2, rfl, tk7.seq, Nat.min_le_right _ _, nA7⟩
        · walk_at "rs"
          refine if_dec (fun c4 => ?_) (fun c4 => ?_)
          · walk_at "rs"
            refine draw_i W4 (by decide) (by decide) fun d5 H5 e0 e1 D5 W5 => ?_
            have I5 := I4.dr D5
            obtain ⟨n5, rfl⟩ := Int.eq_ofNat_of_zero_le e0
            walk_at "rs"
            refine rd_wLsG (Nat.le_of_ble_eq_true rfl) fun l H6 nl s6 el => ?_
            have W6 := W5.same s6
            have lst : l ≠ st := W5.1.ne nl
            walk_at "rs"
            refine draw_i W6 (by decide) (by decide) fun d7 H7 f0 f1' D7 W7 => ?_
            have I7 := (I5.same s6).dr D7
            have el7 := D7.at lst el
            walk_at "rs"
            obtain ⟨v, hv, ev⟩ := atI_in (xs := [V.non, V.int n5]) (i := d7) f0 f1'
            obtain ⟨pw', rfl⟩ : ∃ pw', v = pwV pw' := by
              simp only [List.mem_cons, List.not_mem_nil, or_false] at hv
              rcases hv with rfl | rfl
              · exact ⟨none, rfl⟩
              · exact ⟨some n5, rfl⟩
            refine rd_ixL (SqL.of el7) ev ?_
            walk_at "rs"
            obtain ⟨dx8, d8, s8, ep8, _⟩ := I7.D.pow
            refine rd_wMeth ep8 (kfl_no _ _ _ (by decide +kernel) (by decide +kernel) (by decide +kernel)) ?_
            walk_at "rs"
            refine ⟨p, o, F, pw, pw', rfl, I7.D, fun H9 o9 c9 i9 D9 => ?_⟩
            have I9' := I7.disk c9 i9 D9
            obtain ⟨fl9, em9, hup⟩ := I9'.M.pow
            obtain ⟨M10, c10⟩ := hup pw'
            walk_at "rs"
            refine rd_setL em9 (j := 1) rfl ?_
            walk_at "rs"
            exact hnx _ _ ⟨m, o9, o2, F, pw', _, _, _, _, _, _, _, _, _, rfl, I9'.model c10 (fun x h => .inl h) M10, hok, fun j => Nat.le_trans (hsz j) (by omega)⟩
          · walk_at "rs"
            refine rd_wRg (by omega) (by omega) fun Dk nDk => ?_
            have kst : Dk ≠ st := W4.1.ne nDk
            refine lcRi (fun i _ y => ∃ n : Nat, y = .int n) (fun i H H' y d s h => h) W4 nDk (by omega) (fun i H5 R hi W5 E5 r => ⟨rfl, ?_⟩) (fun H5 ys E5 W5 nS hD hl hg => ?_) (fun i H y zs _ e h o => h)
            · walk_at "wp"
              refine draw_i W5 (by decide) (by decide) fun d6 H6 e0 e1 D6 W6 => ?_
              obtain ⟨n6, rfl⟩ := Int.eq_ofNat_of_zero_le e0
              walk_at "rs"
              refine rd_wLsG (Nat.le_of_ble_eq_true rfl) fun l H7 nl s7 el => ?_
              have W7 := W6.same s7
              walk_at "rs"
              refine draw_i W7 (by decide) (by decide) fun d8 H8 f0 f1' D8 W8 => ?_
              have el8 := D8.at (W6.1.ne nl) el
              obtain ⟨v, hv, ev⟩ := atI_in (xs := [V.int n6, V.int 1000]) (i := d8) f0 f1'
              refine rd_ixL (SqL.of el8) ev ?_
              refine r _ _ ((D6.trans (Dr.same W6.1 s7)).trans D8) ?_
              simp only [List.mem_cons, List.not_mem_nil, or_false] at hv
              rcases hv with rfl | rfl
              · exact ⟨n6, rfl⟩
              · exact ⟨1000, rfl⟩
            · obtain ⟨n0, n1, rfl⟩ : ∃ n0 n1 : Nat, ys = [V.int n0, V.int n1] := by
                match ys, hl, hg with
                | [y0, y1], _, hg =>
                  obtain ⟨n0, e0⟩ := hg 0 y0 rfl
                  obtain ⟨n1, e1⟩ := hg 1 y1 rfl
                  exact ⟨n0, n1, by rw [e0, e1]⟩
              have I5 := I4.dr E5
              walk_at "rs"
              obtain ⟨dx8, d8, s8, ep8, _⟩ := I5.D.pow
              refine rd_wMeth ep8 (kfl_no _ _ _ (by decide +kernel) (by decide +kernel) (by decide +kernel)) ?_
              walk_at "rs"
              refine rd_ixL (SqL.of hD) (i := 0) (v := .int n0) rfl ?_
              walk_at "rs"
              refine rd_ixL (SqL.of hD) (i := 1) (v := .int n1) rfl ?_
              walk_at "rs"
              refine ⟨p, o, F, pw, n0, n1, rfl, I5.D, (fun j => Nat.le_trans (hsz j) (by omega)), fun H6 o6 c6 i6 D6 => ?_⟩
              have I6 := I5.disk c6 i6 D6
              have kn6 := I4.new nDk
              have hD6 : H6 Dk = some _ := c6 _ _ kn6.1 hD
              have W6 := W.next I6.d
              walk_at "rs"
              refine rd_wRg (by omega) (by omega) fun D2 nD2 => ?_
              have e2st : D2 ≠ st := W6.1.ne nD2
              obtain ⟨kq, vq, est⟩ := W6.1
              refine lcRj (fun k H y => ∃ t u w', y = .ref t ∧ Tk H t [.ref u, .ref w'] ∧ H u = some (.lst ((aft (F k).1 ((F k).2.take (if k = 0 then n0 else n1))).map V.int)) ∧ H w' = some (.lst []) ∧ H6 t = none ∧ H6 u = none ∧ H6 w' = none ∧ u ≠ D2 ∧ w' ≠ D2) (fun i H H' y d s h => ?_) W6 nD2 (by omega) (fun k H7 R hk W7 E7 ⟨zs7, eD2⟩ r => ⟨rfl, ?_⟩) (fun H7 ys E7 W7 nS2 hD2 hl2 hg2 => ?_) (fun i H y zs _ e h o => ?_)
              · obtain ⟨t, u, w', e1, e2, e3, e4, e5, e6, e7, e8, e9⟩ := h
                exact ⟨t, u, w', e1, e2.next s d, d.1 _ _ (ne_of_none est e6).symm e3, d.1 _ _ (ne_of_none est e7).symm e4, e5, e6, e7, e8, e9⟩
              · have I7 := I6.dr E7
                have hk2 : k < 2 := by omega
                obtain ⟨fl, t, xs, u, w', em, ef, it, jt, tk, eu, ew, hu, _⟩ := I7.M.set hk2
                have hD7 := E7.at kst hD6
                have it0 : atI xs ((0 : Int) + (k : Nat)) = some (.ref t) := by
                  rw [Int.zero_add]
                  exact it
                walk_at "wp"
                refine rd_ixL (SqL.of em) (i := 0) (v := .ref fl) rfl ?_
                walk_at "rs"
                refine rd_ixL (SqL.of ef) it0 ?_
                walk_at "rs"
                refine rd_ixT tk.seq (i := 0) (v := .ref u) rfl ?_
                walk_at "rs"
                refine rd_ixL (SqL.of em) (i := 0) (v := .ref fl) rfl ?_
                walk_at "rs"
                refine rd_ixL (SqL.of ef) it0 ?_
                walk_at "rs"
                refine rd_ixT tk.seq (i := 1) (v := .ref w') rfl ?_
                walk_at "rs"
                have ek : atI [V.int n0, V.int n1] ((0 : Int) + (k : Nat)) = some (.int ((if k = 0 then n0 else n1 : Nat) : Int)) := by
                  rw [Int.zero_add]
                  obtain rfl | rfl : k = 0 ∨ k = 1 := by omega
                  · rfl
                  · rfl
                refine rd_ixL (SqL.of hD7) ek ?_
                walk_at "rs"
                refine rd_slLto (SqL.of ew) fun n8 nn8 => ?_
                have s8 := same_new nn8 (o := .lst (((F k).2.map lv).take (if k = 0 then n0 else n1)))
                walk_at "rs"
                refine ⟨u, n8, (F k).1, (F k).2.take (if k = 0 then n0 else n1), rfl, SqL.of (s8 _ _ eu), SqL.of (by rw [upd_same, List.map_take]), (by have := hsz k; have := List.length_take_le' (if k = 0 then n0 else n1) (F k).2; omega), fun l9 H9 s9 nl9 el9 => ?_⟩
                walk_at "rs"
                refine rd_wLsG (Nat.le_of_ble_eq_true rfl) fun na HA nna sa ena => ?_
                walk_at "rs"
                refine rd_wTT (Nat.le_of_ble_eq_true rfl) fun tb HB ntb sb tkb => ?_
                have s7B := ((s8.trans s9).trans sa).trans sb
                have hE : ∀ x, H7 x = none → H6 x = none := fun x h => E7.dead' est h
                have d9 := hE _ (s8.free nl9)
                have da := hE _ (s8.free (s9.free nna))
                have db := hE _ (s8.free (s9.free (sa.free ntb)))
                have nD9 : l9 ≠ D2 := (ne_of_none eD2 (s8.free nl9)).symm
                have nDa : na ≠ D2 := (ne_of_none eD2 (s8.free (s9.free nna))).symm
                refine r _ _ (Dr.same W7.1 s7B) ⟨tb, l9, na, rfl, tkb, sb _ _ (sa _ _ el9), sb _ _ ena, db, d9, da, nD9, nDa⟩
              · obtain ⟨y0, y1, rfl⟩ : ∃ y0 y1, ys = [y0, y1] := by
                  match ys, hl2 with
                  | [y0, y1], _ => exact ⟨y0, y1, rfl⟩
                obtain ⟨t0, u0, w0, rfl, tk0, eu0, ew0, dt0, du0, dw0, nu0, nw0⟩ := hg2 0 y0 rfl
                obtain ⟨t1, u1, w1, rfl, tk1, eu1, ew1, dt1, du1, dw1, nu1, nw1⟩ := hg2 1 y1 rfl
                have I7 := I6.dr E7
                walk_at "rs"
                refine rd_wLsG (Nat.le_of_ble_eq_true rfl) fun m' H8 nm s8 em => ?_
                walk_at "rs"
                have I8 := I7.same s8
                have dm : H0 m' = none := I7.d.dead nm
                have M8 : Md H8 m' [m', D2, t0, t1, u0, w0, u1, w1] (durF (durF F 0 n0) 1 n1) none :=
                  ⟨D2, t0, t1, u0, w0, u1, w1, rfl, ⟨(ne_of_none hD2 nm).symm, ⟨ne_of_none eu0 nm, nu0⟩, ⟨ne_of_none ew0 nm, nw0⟩, ⟨ne_of_none eu1 nm, nu1⟩, ne_of_none ew1 nm, nw1⟩,
                    ⟨em, s8 _ _ hD2, tk0.same s8, tk1.same s8, s8 _ _ eu0, s8 _ _ ew0, s8 _ _ eu1, s8 _ _ ew1⟩⟩
                have dd : ∀ x ∈ [m', D2, t0, t1, u0, w0, u1, w1], x = m' ∨ H6 x = none := fun x hx => by
                  simp only [List.mem_cons, List.not_mem_nil, or_false] at hx
                  rcases hx with rfl | rfl | rfl | rfl | rfl | rfl | rfl | rfl
                  · exact .inl rfl
                  all_goals exact .inr (by assumption)
                refine hnx _ _ ⟨m', o6, [m', D2, t0, t1, u0, w0, u1, w1], durF (durF F 0 n0) 1 n1, none, _, _, _, _, _, _, _, _, _, rfl, ⟨I8.s, I8.d, I8.D, M8, I8.a1, fun x hx => ?_, fun x hx hx2 => ?_⟩, durF_ok (durF_ok hok), fun j => Nat.le_trans (durF_sz (durF_sz hsz) j) (by omega)⟩
                · rcases dd x hx with g | g
                  · rw [g]
                    exact dm
                  · exact I6.d.dead g
                · rcases dd x hx2 with g | g
                  · obtain ⟨u, e, _⟩ := I7.D.alive x hx
                    rw [g, nm] at e
                    cases e
                  · obtain ⟨u, e, _⟩ := I6.D.alive x hx
                    rw [g] at e
                    cases e
              · obtain ⟨t, u, w', e1, e2, e3, e4, e5, e6, e7, e8, e9⟩ := h
                exact ⟨t, u, w', e1, e2.put e, (upd_ne e8).trans e3, (upd_ne e9).trans e4, e5, e6, e7, e8, e9⟩
    · obtain ⟨m, o, o2, F, pw, x4, x5, x6, x7, x8, x9, x10, x11, x12, rfl, I, hok, hsz⟩ := pr
      walk_at "rs"
      exact q _
end
end Dw
set_option autoImplicit true
open PySem PySem.W PyProof.Rows
theorem Dw.end_mk {l : PySem.W.OpenLaw} {w : World} {K : PySem.W.Frag} {mg : Str → Option Value} {fa C E0 M : Addr} (hfa : mg "law" = some (.ref fa)) (T : Dw.Tx K mg) (Z : Dw.Cs_Disk K mg C) (X9 : Dw.ExN K mg "PowerCut" E0 M) :
    ∃ fd : FuncData, (∀ (s : Shared) (v : Value), BindsTo s fd ⟨[v], []⟩ [("script", v)]) ∧ ∀ base : Heap, K.In base → base.Ns mainGlobals mg → L2.FnOk l.prog w K mg base L2.CX0 5 fa fd ["script"] (Dw.spLaw K) := by
  obtain ⟨f, fd, m, F, hb⟩ := T.d_law
  rw [hfa] at m
  cases m
  exact ⟨fd, fun s v => hb s [v] rfl, fun base _ _ => Dw.ok_law T Z X9 F⟩
set_option maxHeartbeats 0 in
theorem PySem.Challenge.cw_dawkline_k06_disk_holds : PySem.Challenge.rw_dawkline_k06_disk.Holds := by
  w_on; o_law; k_head; (case hw => w_witness2)
  k_fill
  refine L2.walk_of (l := PySem.Challenge.rw_dawkline_k06_disk) (n := 63) (k := 5) (x := "script") (CX := fun _ => L2.CX0) (sp := fun w => Dw.spLaw _) rfl (by decide) rfl ⟨rfl, by decide, by decide⟩ (fun w h Y => PySem.W.kIn_of Y) ?F (fun _ _ a ns hl _ hS => ⟨a, ns, rfl, hS, fun _ => rfl⟩) (fun _ _ _ _ _ h => h)
  case F =>
    intro w mg fa h KX G hmg
    refine' Dw.end_mk hmg ?T ?Z (Dw.exn_mk KX G ?gC ?gM ?xC ?kC ?bC ?tC ?sC ?kM ?e1 ?e2 ?e4 ?e5 ?e6 ?e7 ?e8)
    (case gC => k_is); (case gM => k_is); (case xC => k_exc); (case kC => k_is); (case bC => k_is); (case tC => k_is); (case sC => first | k_is | rfl); (case kM => first | k_is | rfl)
    (case e1 => k_is); (case e2 => k_is); (case e4 => k_is); (case e5 => k_is); (case e6 => first | rfl | k_is); (case e7 => first | rfl | k_is); (case e8 => first | k_is | rfl)
    case T => exact ⟨(by
      (refine' Dw.dn_mk KX G ?a ?l ?c ?k (fun _ _ _ _ _ _ us hl => match us, hl with | [_, _], _ => rfl); (case a => k_is); (case l => k_is); (case c => k_is); (case k => k_is))),
(by
      (refine' Dw.dn_mk KX G ?a ?l ?c ?k (fun _ _ _ _ _ _ us hl => match us, hl with | [_, _], _ => rfl); (case a => k_is); (case l => k_is); (case c => k_is); (case k => k_is))),
(by
      (refine' Dw.dn_mk KX G ?a ?l ?c ?k (fun _ _ _ _ _ _ us hl => match us, hl with | [_, _], _ => rfl); (case a => k_is); (case l => k_is); (case c => k_is); (case k => k_is))),
(by
      (refine' Dw.dn_mk KX G ?a ?l ?c ?k (fun _ _ _ _ _ _ us hl => match us, hl with | [_, _], _ => rfl); (case a => k_is); (case l => k_is); (case c => k_is); (case k => k_is))),
(by
      (refine' Dw.dn_mk KX G ?a ?l ?c ?k (fun _ _ _ _ _ _ us hl => match us, hl with | [_, _, _], _ => rfl); (case a => k_is); (case l => k_is); (case c => k_is); (case k => k_is))),
(by
      (refine' Dw.dn_mk KX G ?a ?l ?c ?k (fun _ _ _ _ _ _ us hl => match us, hl with | [_, _], _ => rfl); (case a => k_is); (case l => k_is); (case c => k_is); (case k => k_is))),
(by
      (refine' Dw.dn_mk KX G ?a ?l ?c ?k (fun _ _ _ _ _ _ us hl => match us, hl with | [_], _ => rfl); (case a => k_is); (case l => k_is); (case c => k_is); (case k => k_is))),
(by
      (refine' Dw.dn_mk KX G ?a ?l ?c ?k (fun _ _ _ _ _ _ us hl => match us, hl with | [_], _ => rfl); (case a => k_is); (case l => k_is); (case c => k_is); (case k => k_is))),
(by
      (refine' Dw.dn_mk KX G ?a ?l ?c ?k (fun _ _ _ _ _ _ us hl => match us, hl with | [_, _], _ => rfl); (case a => k_is); (case l => k_is); (case c => k_is); (case k => k_is))),
(by
      (refine' Dw.dn_mk KX G ?a ?l ?c ?k (fun _ _ _ _ _ _ us hl => match us, hl with | [_], _ => rfl); (case a => k_is); (case l => k_is); (case c => k_is); (case k => k_is))),
(by
      (refine' Dw.k_int (PySem.W.mg_of KX G ?a) ?e; (case a => k_is); (case e => decide +kernel))),
(by
      (refine' PySem.W.mg_none_of KX G ?a; (case a => k_is))),
(by
      (refine' PySem.W.mg_none_of KX G ?a; (case a => k_is))),
(by
      (refine' PySem.W.mg_none_of KX G ?a; (case a => k_is))),
(by
      (refine' PySem.W.mg_none_of KX G ?a; (case a => k_is))),
(by
      (refine' PySem.W.mg_none_of KX G ?a; (case a => k_is))),
(by
      (refine' PySem.W.mg_none_of KX G ?a; (case a => k_is))),
(by
      (refine' PySem.W.mg_none_of KX G ?a; (case a => k_is))),
(by
      (refine' PySem.W.mg_none_of KX G ?a; (case a => k_is))),
(by
      (refine' PySem.W.mg_none_of KX G ?a; (case a => k_is)))⟩
    case Z => exact ⟨(by
      (refine' Dw.cs_mk KX G ?a ?b ?c ?d ?e ?f ?g; (case a => k_is); (case b => k_is); (case c => k_is); (case d => k_is); (case e => k_is); (case f => k_is); (case g => k_is))),
(by
      (show PySem.W.findIn _ _ _ = _; k_is)),
(by
      (show PySem.W.findIn _ _ _ = _; k_is)),
(by
      (show PySem.W.findIn _ _ _ = _; k_is)),
(by
      (refine' Dw.mn_mk ?a ?i ?l ?c ?k (fun _ _ _ _ _ _ us hl => match us, hl with | [_, _, _], _ => rfl); (case a => k_is); (case i => k_is); (case l => k_is); (case c => k_is); (case k => k_is))),
(by
      (refine' Dw.mn_mk ?a ?i ?l ?c ?k (fun _ _ _ _ _ _ us hl => match us, hl with | [_, _, _], _ => rfl); (case a => k_is); (case i => k_is); (case l => k_is); (case c => k_is); (case k => k_is))),
(by
      (refine' Dw.mn_mk ?a ?i ?l ?c ?k (fun _ _ _ _ _ _ us hl => match us, hl with | [_], _ => rfl); (case a => k_is); (case i => k_is); (case l => k_is); (case c => k_is); (case k => k_is))),
(by
      (refine' Dw.mn_mk ?a ?i ?l ?c ?k (fun _ _ _ _ _ _ us hl => match us, hl with | [_, _], _ => rfl); (case a => k_is); (case i => k_is); (case l => k_is); (case c => k_is); (case k => k_is))),
(by
      (refine' Dw.mn_mk ?a ?i ?l ?c ?k (fun _ _ _ _ _ _ us hl => match us, hl with | [_, _], _ => rfl); (case a => k_is); (case i => k_is); (case l => k_is); (case c => k_is); (case k => k_is))),
(by
      (refine' Dw.mn_mk ?a ?i ?l ?c ?k (fun _ _ _ _ _ _ us hl => match us, hl with | [_, _, _], _ => rfl); (case a => k_is); (case i => k_is); (case l => k_is); (case c => k_is); (case k => k_is))),
(by
      (refine' Dw.mn_mk ?a ?i ?l ?c ?k (fun _ _ _ _ _ _ us hl => match us, hl with | [_, _, _], _ => rfl); (case a => k_is); (case i => k_is); (case l => k_is); (case c => k_is); (case k => k_is))),
(by
      (refine' Dw.mn_mk ?a ?i ?l ?c ?k (fun _ _ _ _ _ _ us hl => match us, hl with | [_, _], _ => rfl); (case a => k_is); (case i => k_is); (case l => k_is); (case c => k_is); (case k => k_is))),
(by
      (refine' Dw.mn_mk ?a ?i ?l ?c ?k (fun _ _ _ _ _ _ us hl => match us, hl with | [_, _], _ => rfl); (case a => k_is); (case i => k_is); (case l => k_is); (case c => k_is); (case k => k_is))),
(by
      (refine' Dw.mn_mk ?a ?i ?l ?c ?k (fun _ _ _ _ _ _ us hl => match us, hl with | [_, _], _ => rfl); (case a => k_is); (case i => k_is); (case l => k_is); (case c => k_is); (case k => k_is))),
(by
      (refine' Dw.mn_mk ?a ?i ?l ?c ?k (fun _ _ _ _ _ _ us hl => match us, hl with | [_, _], _ => rfl); (case a => k_is); (case i => k_is); (case l => k_is); (case c => k_is); (case k => k_is)))⟩
