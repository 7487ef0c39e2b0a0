import PyProof.Rows.All
import HandS.ForMost
import HandS.FStr
import HandS.IsInst
import HandS.TupAny
import HandS.Style
import HandS.StrMore
import HandS.Strs
import Open.Row
import HandS.ForExc
import HandS.ExcOwn
import HandS.TryOnly
import HandS.ExcIs
import HandS.RaiseMore
import PySem.Challenge.RW_dawkline_k09_directories_and_routes
set_option Elab.async false
set_option linter.all false
set_option maxRecDepth 100000
set_option autoImplicit false
namespace Dw
open PySem PySem.Spec PyProof.Rows L2 TL
/-! ### the state of the heap between two draws -/
def Keep (st : Addr) (H H' : Hp) : Prop := ∀ a o, a ≠ st → H a = some o → H' a = some o
def Stt (H : Hp) (st : Addr) : Prop := ∃ k v : Int, H st = some (.lst [.int k, .int v])
def Dr (st : Addr) (H H' : Hp) : Prop := Keep st H H' ∧ Stt H' st
def Wd (K : PySem.W.Frag) (st sc : Addr) (ns : List Int) (H : Hp) : Prop :=
  Stt H st ∧ ∀ H', Keep st H H' → SqL K H' sc (ns.map V.int)
section
variable {K : PySem.W.Frag} {st sc p D : Addr} {ns : List Int} {H H1 H2 H3 : Hp} {o : HO}
theorem Keep.refl (st : Addr) (H : Hp) : Keep st H H := fun _ _ _ h => h
theorem Keep.trans (a : Keep st H H1) (b : Keep st H1 H2) : Keep st H H2 := fun x o n h => b x o n (a x o n h)
theorem Keep.of (a : Same H H1) : Keep st H H1 := fun x o _ h => a x o h
theorem Wd.next (w : Wd K st sc ns H) (d : Dr st H H1) : Wd K st sc ns H1 := ⟨d.2, fun H' k => w.2 H' (d.1.trans k)⟩
theorem Wd.list (w : Wd K st sc ns H) : SqL K H sc (ns.map V.int) := w.2 H (Keep.refl st H)
theorem Wd.dr (w : Wd K st sc ns H) : Dr st H H := ⟨Keep.refl st H, w.1⟩
theorem Dr.trans (a : Dr st H H1) (b : Dr st H1 H2) : Dr st H H2 := ⟨a.1.trans b.1, b.2⟩
theorem Stt.ne (s : Stt H st) (h : H p = none) : p ≠ st := fun e => by
  obtain ⟨k, v, q⟩ := s
  rw [e, q] at h
  cases h
theorem Stt.upd (s : Stt H st) (h : p ≠ st) : Stt (upd H p o) st := by
  obtain ⟨k, v, q⟩ := s
  exact ⟨k, v, by rw [upd_ne h.symm]; exact q⟩
theorem same_new (h : H p = none) : Same H (upd H p o) := fun b x e => by
  rw [upd_ne (ne_of_none e h)]
  exact e
theorem Dr.same (w : Stt H st) (a : Same H H1) : Dr st H H1 := ⟨Keep.of a, by
  obtain ⟨k, v, q⟩ := w
  exact ⟨k, v, a _ _ q⟩⟩
theorem Dr.new (d : Dr st H H1) (h : H1 p = none) : Dr st H (upd H1 p o) := d.trans (Dr.same d.2 (same_new h))
theorem Dr.put (w : Stt H st) (d : Dr st H H1) (h : H p = none) : Dr st H (upd H1 p o) :=
  ⟨fun a x n e => by
    rw [upd_ne (ne_of_none e h)]
    exact d.1 a x n e, d.2.upd (w.ne h)⟩
theorem Wd.new (w : Wd K st sc ns H) (h : H p = none) : Wd K st sc ns (upd H p o) := w.next (Dr.same w.1 (same_new h))
theorem Wd.same (w : Wd K st sc ns H) (h : Same H H1) : Wd K st sc ns H1 := w.next (Dr.same w.1 h)
theorem Dr.at (d : Dr st H H1) (n : p ≠ st) (h : H p = some o) : H1 p = some o := d.1 p o n h
end
/-! ### tuples whose object has no dict -/
def Tk (H : Hp) (p : Addr) (xs : List V) : Prop := ∃ o : Obj, o.dict = Option.none ∧ H p = some (.frz o (.tup xs))
section
variable {K : PySem.W.Frag} {st sc p : Addr} {H H1 : Hp} {xs : List V}
theorem Tk.seq (h : Tk H p xs) : SqT K H p xs := let ⟨o, _, e⟩ := h; .inl (.inr ⟨o, e⟩)
theorem Tk.ne (h : Tk H p xs) (s : Stt H st) : p ≠ st := fun e => by
  obtain ⟨o, _, q⟩ := h
  obtain ⟨k, v, r⟩ := s
  rw [e, r] at q
  cases q
theorem Tk.next (h : Tk H p xs) (s : Stt H st) (d : Dr st H H1) : Tk H1 p xs := by
  have n := h.ne s
  obtain ⟨o, a, e⟩ := h
  exact ⟨o, a, d.1 _ _ n e⟩
theorem Tk.same (h : Tk H p xs) (d : Same H H1) : Tk H1 p xs := let ⟨o, a, e⟩ := h; ⟨o, a, d _ _ e⟩
theorem Tk.mk {o : Obj} (h : o.dict = Option.none) : Tk (upd H p (.frz o (.tup xs))) p xs := ⟨o, h, upd_same⟩
end
section
variable {X : Cx}
def zTup (K : PySem.W.Frag) : List V → Hp → VK → Prop := fun xs H Q => ∃ p ys, xs = [V.ref p] ∧ SqL K H p ys ∧
  ∀ (l : Addr) (o : Obj), H l = none → o.dict = Option.none → Q (.ref l) (upd H l (.frz o (.tup ys)))
theorem y_tup : CallR X (.type "tuple") (zTup X.K) := by
  intro pins s σ H xs us Q I r h
  obtain ⟨p, ys, rfl, hq, q⟩ := h
  obtain ⟨u, rfl, rx⟩ := vals1 r
  cases rx
  obtain ⟨its, r', pl, hz⟩ := I.list hq
  have hlen := r'.length
  refine call_tuple_list pl.isList (fun h' kp => ?_) (by simp only [List.size_toArray] <;> omega)
  have I1 : Inv X pins σ H { s with heap := h' } := I.kept (t' := s.toks) kp
  refine ⟨.ref h'.objs.size, _, I1.laid (t' := s.toks) (o := .frz { cls := .type "tuple", data := .seq its.toArray } (.tup ys)) (fun b o e => Heap.get?_push_of_some _ e) (Nat.le_refl _) ?_, rfl, q _ _ (I1.hok.fresh (Nat.le_refl _)) rfl⟩
  exact ⟨Heap.get?_push_size _ rfl, hz, its, r', IsTup.new _ _⟩
def zTT (t : TA) : TE := fun σ H Q => t σ H fun xs H1 => xs.length ≤ sizeLine ∧ ∀ (p : Addr) (o : Obj), H1 p = none → o.dict = Option.none → Q (.ref p) (upd H1 p (.frz o (.tup xs)))
theorem y_tt {es : List Expr} {t : TA} {pos : Pos} {x1} (h : PA X es t) : PE X (.Tuple es x1 pos) (zTT t) := by
  refine ⟨fun pins s σ H Q I hq => ?_⟩
  refine wpAny_Tuple_spliced (thn (h.run pos pins s σ H _ I hq) fun us s1 ⟨xs, H1, I1, r, z, q⟩ => ⟨by rw [← r.length]; exact z, ?_⟩)
  refine ⟨.ref s1.heap.objs.size, _, I1.laid (t' := s1.toks) (o := .frz { cls := .type "tuple", data := .seq us.toArray } (.tup xs)) (fun b u e => Heap.get?_push_of_some _ e) (Nat.le_refl _) ?_, rfl, q _ _ (I1.hok.fresh (Nat.le_refl _)) rfl⟩
  exact ⟨Heap.get?_push_size _ rfl, z, us, r, IsTup.new _ _⟩
def zCat : R2 := fun x y H Q => ∃ a b xs ys, x = .ref a ∧ y = .ref b ∧ Tk H a xs ∧ Tk H b ys ∧ xs ≠ [] ∧ xs.length + ys.length ≤ sizeLine ∧
  ∀ (p : Addr) (H' : Hp), Same H H' → Tk H' p (xs ++ ys) → Q (.ref p) H'
theorem y_cat : OpR X (binaryOp .Add) zCat := by
  intro pins s σ H x y v u Q I rx ry h
  obtain ⟨a, b, xs, ys, rfl, rfl, ha, hb, hx, hz, q⟩ := h
  cases rx
  cases ry
  have ha' : SqT X.K H a xs := ha.seq
  have hb' : SqT X.K H b ys := hb.seq
  obtain ⟨its, r1, p1, _⟩ := I.tuple ha'
  obtain ⟨its2, r2, p2, _⟩ := I.tuple hb'
  refine HT.cat_tup p1 p2 (fun z => hx (r1.nil_iff.mp z)) (fun z => ?_) (fun z => ?_) (by rw [← r1.length, ← r2.length]; exact hz)
  · have e := r2.nil_iff.mp z
    subst e
    exact ⟨.ref a, H, I, rfl, q a H (Same.refl H) (by rw [List.append_nil]; exact ha)⟩
  · refine ⟨.ref s.heap.objs.size, _, I.laid (t' := s.toks) (o := .frz { cls := .type "tuple", data := .seq (its ++ its2).toArray } (.tup (xs ++ ys))) (fun b ob q => Heap.get?_push_of_some _ q) (Nat.le_refl _) ?_, rfl, q _ _ (same_new (I.hok.fresh (Nat.le_refl _))) (Tk.mk rfl)⟩
    exact ⟨Heap.get?_push_size _ rfl, by rw [List.length_append]; exact hz, _, r1.append r2, IsTup.new _ _⟩
/-- t.index(z), z in t -/
def zTIx (to te : TE) : TE := fun σ H Q => to σ H fun x H1 => ∃ (p : Addr) (ys : List Str), x = .ref p ∧ Tk H1 p (ys.map V.str) ∧ te σ H1 fun y H2 => ∃ (z : Str) (j : Nat), y = .str z ∧ Tk H2 p (ys.map V.str) ∧
  ys[j]? = some z ∧ (∀ m, m < j → ys[m]? ≠ some z) ∧ Q (.int (j : Nat)) H2
theorem y_tix {o e : Expr} {to te : TE} {apos cpos : Pos} (ho : PE X o to) (he : PE X e te)
    (hbase : attributeBase o "index" X.env (eval o X.env) = eval o X.env := by rfl)
    (hfew : ((backTo cpos (starEach [e] X.env)).all (fun x => !x.1) && (backToKw cpos (keywordEach [] X.env)).all (fun x => x.1.isSome)
      && decide ([e].length + ([] : List Keyword).length + (if ([] : List Keyword).isEmpty then 0 else 1) < 30)) = true := by rfl)
    (hline : (apos.endLine == cpos.line) = true := by rfl) (hs : starEach [e] X.env = (false, eval e X.env) :: starEach [] X.env := by rfl) (hplain : (backTo cpos (starEach [] X.env)).any (·.1) = false := by rfl) :
    PE X (.Call (.Attribute o "index" apos) [e] [] cpos) (zTIx to te) := by
  refine ⟨fun pins s σ H Q I h => ?_⟩
  refine wpAny_Call_method_late hbase hfew hline rfl (thn (ho.run pins s σ H _ I h) fun v s1 ⟨x, H1, I1, r1, q1⟩ => ?_)
  obtain ⟨p, ys, rfl, tk, q1⟩ := q1
  cases r1
  obtain ⟨o, od, oe⟩ := tk
  obtain ⟨e1, z1, its1, r1', o2, e2, c2, n2, d2⟩ := I1.hok p _ oe
  have hA := (pa_cons he (pa_nil (X := X)) hs).run cpos pins s1 σ H1 (fun vs H2 => match vs with
    | [y] => ∃ (z : Str) (j : Nat), y = .str z ∧ Tk H2 p (ys.map V.str) ∧ ys[j]? = some z ∧ (∀ m, m < j → ys[m]? ≠ some z) ∧ Q (.int (j : Nat)) H2
    | _ => False) I1 q1
  rw [hs] at hA ⊢
  refine ⟨"tuple", "tuple.index", PySem.F.plainAttrs_tuple, PySem.F.slot_tuple_index, PySem.F.type_tuple_index, ⟨o2, e2, c2⟩, fun a ea => ?_, ?_⟩
  · cases ea
    exact ⟨o, e1, od⟩
  refine Calls.callWith_builtin (by show (false || (backTo cpos (starEach [] X.env)).any (·.1)) = false; rw [hplain] <;> rfl) (Calls.evalArgs_plain ?_)
  refine thn hA fun us s2 ⟨vs, H2, I2, r2, q2⟩ => ?_
  match vs, q2, r2 with
  | [y], q2, r2 =>
  obtain ⟨z, j, rfl, tk2, hj, hm, q⟩ := q2
  exact mt_tup_index pins s2 σ H2 (.ref p) [.str z] _ us Q I2 rfl r2 ⟨p, ys, z, j, rfl, rfl, tk2.seq, hj, hm, q⟩
end

/-! ### readings, one step at a time -/
def wBl (x : V) (H : Hp) (Q : Bool → Hp → Prop) : Prop := ∃ k, x = .bl k ∧ Q k H
def wPart (x : V) (H : Hp) (Q : Option Int → Hp → Prop) : Prop := ∃ i, x = V.int i ∧ Q (some i) H
def wM (x : V) (P : Prop) : Prop := (∃ a, x = V.str a) ∧ P
def zLenS : List V → Hp → VK → Prop := fun xs H Q => ∃ z, xs = [V.str z] ∧ z.length ≤ sizeLine ∧ Q (.int z.length) H
def zLenQ (K : PySem.W.Frag) : List V → Hp → VK → Prop := fun xs H Q => ∃ p ys, xs = [V.ref p] ∧ (SqL K H p ys ∨ SqT K H p ys) ∧ Q (.int ys.length) H
def zInt : List V → Hp → VK → Prop := fun xs H Q => (∃ i, xs = [V.int i] ∧ Q (.int i) H) ∨ ∃ k, xs = [V.bl k] ∧ Q (.int (if k then 1 else 0)) H
def zJoin (K : PySem.W.Frag) : V → List V → Hp → VK → Prop := fun x xs H Q => ∃ a p, ∃ ys : List Str, x = .str a ∧ xs = [V.ref p] ∧ (SqL K H p (ys.map V.str) ∨ SqT K H p (ys.map V.str)) ∧
    (ys.map (·.length)).sum + ys.length * a.length ≤ 16777216 ∧ Q (.str (Txt.join a ys)) H
def zStarts : V → List V → Hp → VK → Prop := fun x xs H Q => ∃ a b, x = .str a ∧ xs = [V.str b] ∧ Q (.bl (Txt.startswith a b)) H
def zEnds : V → List V → Hp → VK → Prop := fun x xs H Q => ∃ a b, x = .str a ∧ xs = [V.str b] ∧ Q (.bl (Txt.endswith a b)) H
def zRstrip : V → List V → Hp → VK → Prop := fun x xs H Q => ∃ a b, x = .str a ∧ xs = [V.str b] ∧ a.length ≤ sizeLine ∧ Q (.str (Txt.rstripChars a b)) H
def zSplit : V → List V → Hp → VK → Prop := fun x xs H Q => ∃ a b, x = .str a ∧ xs = [V.str b] ∧ (b.length == 0) = false ∧ a.length + 2 ≤ sizeLine ∧ rNewStrs (Txt.split a b) H Q
def zPartition : V → List V → Hp → VK → Prop := fun x xs H Q => ∃ a b, x = .str a ∧ xs = [V.str b] ∧ (b.length == 0) = false ∧ a.length ≤ sizeLine ∧
    ∀ p, H p = none → Q (.ref p) (upd H p (.tup [.str (Txt.partition a b).1, .str (Txt.partition a b).2.1, .str (Txt.partition a b).2.2]))
def zAdS : R2 := fun x y H Q => ∃ i j, x = .str i ∧ y = .str j ∧ i.length + j.length ≤ sizeLine ∧ Q (.str (i ++ j)) H
def zIn1 : R2 := fun x y H Q => ∃ (c : Nat) (z : Str), x = .str ⟨#[c]⟩ ∧ y = .str z ∧ Q (.bl (decide (c ∈ z.cps.toList))) H
def zInS (neg : Bool) : R2 := fun x y H Q => ∃ i j, x = .str i ∧ y = .str j ∧ Q (.bl (if neg then !(!(Builtin.Str.occurrences j i 0 j.length 1).isEmpty) else !(Builtin.Str.occurrences j i 0 j.length 1).isEmpty)) H
def zIsN (neg : Bool) : R2 := fun x y H Q => y = .non ∧ Q (.bl (if neg then !decide (x = .non) else decide (x = .non))) H
def zRepS : R2 := fun x y H Q => ∃ (z : Str) (k : Int), x = .str z ∧ y = .int k ∧ 0 ≤ k ∧ z.length * k.toNat ≤ sizeLine ∧ Q (.str ⟨((List.replicate k.toNat (tl z)).flatten).toArray⟩) H
def zTruth (K : PySem.W.Frag) (ta : TE) : TT := fun σ H Q => ta σ H fun x H' => ∃ k, TruV K x H' k ∧ Q k H'
def zJs (ts : List TE) : TE := fun σ H Q => tJs ts Str.empty σ H fun out H1 => Q (.str out) H1
def wJs (ts : List TE) (acc : Str) (σ : L2.St) (Q : Str → Hp → Prop) (x : V) (H : Hp) : Prop := ∃ y : Str, x = .str y ∧ (acc ++ y).length ≤ sizeLine ∧ tJs ts (acc ++ y) σ H Q
def wFmt (x : V) (H : Hp) (Q : VK) : Prop := (∃ y : Str, x = .str y ∧ y.length ≤ sizeLine ∧ Q (.str y) H) ∨ ∃ i : Int, x = .int i ∧ i.natAbs.log2 < 1920 ∧ Q (.str (toString i)) H
def wFmtR (x : V) (H : Hp) (Q : VK) : Prop := (∃ y : Str, x = .str y ∧ (reprText y).length ≤ sizeLine ∧ Q (.str (reprText y)) H) ∨ ∃ i : Int, x = .int i ∧ i.natAbs.log2 < 1920 ∧ Q (.str (toString i)) H
def wCh (r' : R2) (tc : TE) (σ : L2.St) (Q : VK) (y z : V) (H : Hp) : Prop := ∃ k, z = .bl k ∧ if k = true then tc σ H fun w H1 => r' y w H1 Q else Q (.bl false) H
section
variable {X : Cx}
theorem y_lenS : CallR X (.builtin "len") zLenS := call_len_str
theorem y_lenQ : CallR X (.builtin "len") (zLenQ X.K) := call_len_seq
theorem y_int : CallR X (.type "int") zInt := call_int1
theorem y_join : MtR X "str.join" (zJoin X.K) := mt_join
theorem y_starts : MtR X "str.startswith" zStarts := mt_startswith
theorem y_ends : MtR X "str.endswith" zEnds := mt_endswith
theorem y_rstrip : MtR X "str.rstrip" zRstrip := mt_rstripChars
theorem y_split : MtR X "str.split" zSplit := mt_split
theorem y_partition : MtR X "str.partition" zPartition := mt_partition
theorem y_adS : OpR X (binaryOp .Add) zAdS := op_add_str
theorem y_in1 : OpR X (compareOp .In) zIn1 := op_in_sign
theorem y_inS : OpR X (compareOp .In) (zInS false) := op_in_str
theorem y_ninS : OpR X (compareOp .NotIn) (zInS true) := op_notIn_str
theorem y_isN : OpR X (compareOp .Is) (zIsN false) := op_isN
theorem y_notN : OpR X (compareOp .IsNot) (zIsN true) := op_notN
theorem y_truth {a : Expr} {ta : TE} (ha : PE X a ta) (he : ∀ whole, isTrue a X.env whole = (do let v ← whole; standAt a.pos; holding [v] (truthy v))) : PT X a (zTruth X.K ta) := pt_truth ha he
theorem y_joined {v1 v2 : Expr} {rest : List Expr} {ts : List TE} {pos : Pos} (h : PJ X (v1 :: v2 :: rest) ts) : PE X (.JoinedStr (v1 :: v2 :: rest) pos) (zJs ts) := pe_joined h
end
section
variable {σ : L2.St} {H : Hp} {Q : VK} {QB : Bool → Hp → Prop} {QA : List V → Hp → Prop} {QO : Option Int → Hp → Prop} {QS : Str → Hp → Prop} {QG : L2.St → Hp → Prop}
  {nx bk ct : L2.St → Hp → Prop} {rt : VK} {t u : TS} {ta tb tc : TE} {tA tB' : TT} {as : TA} {g : TG} {v : V} {i j : Int} {x y : Str} {b : Bool} {r r' : R2} {P : Prop} {E : XK} {K : PySem.W.Frag}
theorem rd_seq (h : t ⟨u ⟨nx, rt, bk, ct⟩, rt, bk, ct⟩ σ H) : tSeq t u ⟨nx, rt, bk, ct⟩ σ H := h
theorem rd_next (h : nx σ H) : tNext ⟨nx, rt, bk, ct⟩ σ H := h
theorem rd_asg (h : ta σ H fun x H1 => g x σ H1 nx) : tAsg ta g ⟨nx, rt, bk, ct⟩ σ H := h
theorem rd_ifS (h : tA σ H fun b H1 => if b = true then t ⟨nx, rt, bk, ct⟩ σ H1 else u ⟨nx, rt, bk, ct⟩ σ H1) : tIfS tA t u ⟨nx, rt, bk, ct⟩ σ H := h
theorem rd_ret (h : ta σ H rt) : tRet ta ⟨nx, rt, bk, ct⟩ σ H := h
theorem rd_retN (h : rt .non H) : tRetN ⟨nx, rt, bk, ct⟩ σ H := h
theorem rd_drop (h : ta σ H fun _ H1 => nx σ H1) : tDrop ta ⟨nx, rt, bk, ct⟩ σ H := h
theorem rd_n0 {a} {l : L2.St} (h : QG (some v :: l) H) : gName 0 v (a :: l) H QG := h
theorem rd_n1 {a a1} {l : L2.St} (h : QG (a :: some v :: l) H) : gName 1 v (a :: a1 :: l) H QG := h
theorem rd_n2 {a a1 a2} {l : L2.St} (h : QG (a :: a1 :: some v :: l) H) : gName 2 v (a :: a1 :: a2 :: l) H QG := h
theorem rd_n3 {a a1 a2 a3} {l : L2.St} (h : QG (a :: a1 :: a2 :: some v :: l) H) : gName 3 v (a :: a1 :: a2 :: a3 :: l) H QG := h
theorem rd_n4 {a a1 a2 a3 a4} {l : L2.St} (h : QG (a :: a1 :: a2 :: a3 :: some v :: l) H) : gName 4 v (a :: a1 :: a2 :: a3 :: a4 :: l) H QG := h
theorem rd_n5 {a a1 a2 a3 a4 a5} {l : L2.St} (h : QG (a :: a1 :: a2 :: a3 :: a4 :: some v :: l) H) : gName 5 v (a :: a1 :: a2 :: a3 :: a4 :: a5 :: l) H QG := h
theorem rd_n6 {a a1 a2 a3 a4 a5 a6} {l : L2.St} (h : QG (a :: a1 :: a2 :: a3 :: a4 :: a5 :: some v :: l) H) : gName 6 v (a :: a1 :: a2 :: a3 :: a4 :: a5 :: a6 :: l) H QG := h
theorem rd_n7 {a a1 a2 a3 a4 a5 a6 a7} {l : L2.St} (h : QG (a :: a1 :: a2 :: a3 :: a4 :: a5 :: a6 :: some v :: l) H) : gName 7 v (a :: a1 :: a2 :: a3 :: a4 :: a5 :: a6 :: a7 :: l) H QG := h
theorem rd_n8 {a a1 a2 a3 a4 a5 a6 a7 a8} {l : L2.St} (h : QG (a :: a1 :: a2 :: a3 :: a4 :: a5 :: a6 :: a7 :: some v :: l) H) : gName 8 v (a :: a1 :: a2 :: a3 :: a4 :: a5 :: a6 :: a7 :: a8 :: l) H QG := h
theorem rd_n9 {a a1 a2 a3 a4 a5 a6 a7 a8 a9} {l : L2.St} (h : QG (a :: a1 :: a2 :: a3 :: a4 :: a5 :: a6 :: a7 :: a8 :: some v :: l) H) : gName 9 v (a :: a1 :: a2 :: a3 :: a4 :: a5 :: a6 :: a7 :: a8 :: a9 :: l) H QG := h
theorem rd_n10 {a a1 a2 a3 a4 a5 a6 a7 a8 a9 b0} {l : L2.St} (h : QG (a :: a1 :: a2 :: a3 :: a4 :: a5 :: a6 :: a7 :: a8 :: a9 :: some v :: l) H) : gName 10 v (a :: a1 :: a2 :: a3 :: a4 :: a5 :: a6 :: a7 :: a8 :: a9 :: b0 :: l) H QG := h
theorem rd_n11 {a a1 a2 a3 a4 a5 a6 a7 a8 a9 b0 b1} {l : L2.St} (h : QG (a :: a1 :: a2 :: a3 :: a4 :: a5 :: a6 :: a7 :: a8 :: a9 :: b0 :: some v :: l) H) : gName 11 v (a :: a1 :: a2 :: a3 :: a4 :: a5 :: a6 :: a7 :: a8 :: a9 :: b0 :: b1 :: l) H QG := h
theorem rd_v0 {l : L2.St} (h : Q v H) : tVar 0 (some v :: l) H Q := ⟨v, rfl, h⟩
theorem rd_v1 {a} {l : L2.St} (h : Q v H) : tVar 1 (a :: some v :: l) H Q := ⟨v, rfl, h⟩
theorem rd_v2 {a a1} {l : L2.St} (h : Q v H) : tVar 2 (a :: a1 :: some v :: l) H Q := ⟨v, rfl, h⟩
theorem rd_v3 {a a1 a2} {l : L2.St} (h : Q v H) : tVar 3 (a :: a1 :: a2 :: some v :: l) H Q := ⟨v, rfl, h⟩
theorem rd_v4 {a a1 a2 a3} {l : L2.St} (h : Q v H) : tVar 4 (a :: a1 :: a2 :: a3 :: some v :: l) H Q := ⟨v, rfl, h⟩
theorem rd_v5 {a a1 a2 a3 a4} {l : L2.St} (h : Q v H) : tVar 5 (a :: a1 :: a2 :: a3 :: a4 :: some v :: l) H Q := ⟨v, rfl, h⟩
theorem rd_v6 {a a1 a2 a3 a4 a5} {l : L2.St} (h : Q v H) : tVar 6 (a :: a1 :: a2 :: a3 :: a4 :: a5 :: some v :: l) H Q := ⟨v, rfl, h⟩
theorem rd_v7 {a a1 a2 a3 a4 a5 a6} {l : L2.St} (h : Q v H) : tVar 7 (a :: a1 :: a2 :: a3 :: a4 :: a5 :: a6 :: some v :: l) H Q := ⟨v, rfl, h⟩
theorem rd_v8 {a a1 a2 a3 a4 a5 a6 a7} {l : L2.St} (h : Q v H) : tVar 8 (a :: a1 :: a2 :: a3 :: a4 :: a5 :: a6 :: a7 :: some v :: l) H Q := ⟨v, rfl, h⟩
theorem rd_v9 {a a1 a2 a3 a4 a5 a6 a7 a8} {l : L2.St} (h : Q v H) : tVar 9 (a :: a1 :: a2 :: a3 :: a4 :: a5 :: a6 :: a7 :: a8 :: some v :: l) H Q := ⟨v, rfl, h⟩
theorem rd_v10 {a a1 a2 a3 a4 a5 a6 a7 a8 a9} {l : L2.St} (h : Q v H) : tVar 10 (a :: a1 :: a2 :: a3 :: a4 :: a5 :: a6 :: a7 :: a8 :: a9 :: some v :: l) H Q := ⟨v, rfl, h⟩
theorem rd_v11 {a a1 a2 a3 a4 a5 a6 a7 a8 a9 b0} {l : L2.St} (h : Q v H) : tVar 11 (a :: a1 :: a2 :: a3 :: a4 :: a5 :: a6 :: a7 :: a8 :: a9 :: b0 :: some v :: l) H Q := ⟨v, rfl, h⟩
theorem rd_c (h : Q v H) : tC v σ H Q := h
theorem rd_op (h : ta σ H fun x H1 => tb σ H1 fun y H2 => r x y H2 Q) : tOp r ta tb σ H Q := h
theorem rd_i0 {f : Int → Int → V} (h : Q (f i j) H) : rI0 f (.int i) (.int j) H Q := ⟨i, j, rfl, rfl, h⟩
theorem rd_iC {f : Int → Int → V} {C : Int → Int → Prop} (h : Q (f i j) H) (c : C i j) : rI C f (.int i) (.int j) H Q := ⟨i, j, rfl, rfl, c, h⟩
theorem rd_un {f : V → Hp → VK → Prop} (h : ta σ H fun x H1 => f x H1 Q) : tUn f ta σ H Q := h
theorem rd_u {f : Int → V} (h : Q (f i) H) : rU f (.int i) H Q := ⟨i, rfl, h⟩
theorem rd_eqI (h : Q (.bl (decide (i = j))) H) : rEq (.int i) (.int j) H Q := ⟨rfl, by
  rw [show decide (V.int i = V.int j) = decide (i = j) by simp only [V.int.injEq]]
  exact h⟩
theorem rd_neI (h : Q (.bl (!decide (i = j))) H) : rNe (.int i) (.int j) H Q := ⟨rfl, by
  rw [show decide (V.int i = V.int j) = decide (i = j) by simp only [V.int.injEq]]
  exact h⟩
theorem rd_eqS (h : Q (.bl (decide (x = y))) H) : rEq (.str x) (.str y) H Q := ⟨rfl, by
  rw [show decide (V.str x = V.str y) = decide (x = y) by simp only [V.str.injEq]]
  exact h⟩
theorem rd_neS (h : Q (.bl (!decide (x = y))) H) : rNe (.str x) (.str y) H Q := ⟨rfl, by
  rw [show decide (V.str x = V.str y) = decide (x = y) by simp only [V.str.injEq]]
  exact h⟩
theorem rd_test (h : ta σ H fun x H1 => wBl x H1 QB) : tTest ta σ H QB := h
theorem rd_tB (h : ta σ H fun x H1 => wBl x H1 QB) : tB ta σ H QB := h
theorem rd_wBl (h : QB b H) : wBl (.bl b) H QB := ⟨b, rfl, h⟩
theorem rd_and (h : tA σ H fun c H1 => if c = true then tB' σ H1 QB else QB false H1) : tAnd tA tB' σ H QB := h
theorem rd_or (h : tA σ H fun c H1 => if c = true then QB true H1 else tB' σ H1 QB) : tOr tA tB' σ H QB := h
theorem rd_not (h : tA σ H fun c H1 => QB (!c) H1) : tNot tA σ H QB := h
theorem rd_notV (h : ta σ H fun x H1 => wBl x H1 fun c H2 => Q (.bl (!c)) H2) : tNotV ta σ H Q := h
theorem rd_andV (h : ta σ H fun x H1 => wBl x H1 fun c H2 => if c = true then tb σ H2 Q else Q (.bl false) H2) : tAndV ta tb σ H Q := h
theorem rd_orV (h : ta σ H fun x H1 => wBl x H1 fun c H2 => if c = true then Q (.bl true) H2 else tb σ H2 Q) : tOrV ta tb σ H Q := h
theorem rd_ifE (h : tA σ H fun c H1 => if c = true then ta σ H1 Q else tb σ H1 Q) : tIf tA ta tb σ H Q := h
theorem rd_ch (h : ta σ H fun x H1 => tb σ H1 fun y H2 => r x y H2 fun z H3 => wCh r' tc σ Q y z H3) : tChain r r' ta tb tc σ H Q := h
theorem rd_wCh {y : V} (h : if b = true then tc σ H fun w H1 => r' y w H1 Q else Q (.bl false) H) : wCh r' tc σ Q y (.bl b) H := ⟨b, rfl, h⟩
theorem rd_cb {f : List V → Hp → VK → Prop} (h : as σ H fun vs H1 => f vs H1 Q) : tCB f as σ H Q := h
theorem rd_call {sp : Sp} (h : as σ H fun vs H1 => sp vs H1 Q E) : tCall sp [] E as σ H Q := by
  unfold tCall
  simpa only [List.append_nil] using h
theorem rd_cons {tr : TA} (h : ta σ H fun x H1 => tr σ H1 fun xs H2 => QA (x :: xs) H2) : tCons ta tr σ H QA := h
theorem rd_nil (h : QA [] H) : tNil σ H QA := h
def wTT (xs : List V) (H : Hp) (Q : VK) : Prop := xs.length ≤ sizeLine ∧ ∀ (p : Addr) (o : Obj), H p = none → o.dict = Option.none → Q (.ref p) (upd H p (.frz o (.tup xs)))
def wLs (xs : List V) (H : Hp) (Q : VK) : Prop := xs.length ≤ sizeLine ∧ ∀ (p : Addr), H p = none → Q (.ref p) (upd H p (.lst xs))
theorem rd_tt (h : as σ H fun xs H1 => wTT xs H1 Q) : zTT as σ H Q := h
theorem rd_ls (h : as σ H fun xs H1 => wLs xs H1 Q) : tLst as σ H Q := h
theorem rd_sl {f : V → Option Int → Option Int → Hp → VK → Prop} {tl' th : TO} (h : ta σ H fun x H1 => tl' σ H1 fun l H2 => th σ H2 fun u H3 => f x l u H3 Q) : tSl f ta tl' th σ H Q := h
theorem rd_noP (h : QO none H) : tNoPart σ H QO := h
theorem rd_part (h : ta σ H fun x H1 => wPart x H1 QO) : tPart ta σ H QO := h
theorem rd_wPart (h : QO (some i) H) : wPart (.int i) H QO := ⟨i, rfl, h⟩
theorem rd_m1 {f : V → List V → Hp → VK → Prop} (h : ta σ H fun x H1 => wM x (tb σ H1 fun y H2 => f x [y] H2 Q)) : tM1 f ta tb σ H Q := h
theorem rd_wM (h : P) : wM (.str x) P := ⟨⟨x, rfl⟩, h⟩
theorem rd_js {ts : List TE} (h : tJs (ta :: ts) Str.empty σ H fun out H1 => Q (.str out) H1) : zJs (ta :: ts) σ H Q := h
theorem rd_jc {ts : List TE} {acc : Str} (h : ta σ H fun x H1 => wJs ts acc σ QS x H1) : tJs (ta :: ts) acc σ H QS := h
theorem rd_jn {acc : Str} (h : QS acc H) : tJs [] acc σ H QS := h
theorem rd_wJs {ts : List TE} {acc : Str} (h : tJs ts (acc ++ x) σ H QS) (c : (acc ++ x).length ≤ sizeLine) : wJs ts acc σ QS (.str x) H := ⟨x, rfl, c, h⟩
theorem rd_fmt (h : ta σ H fun x H1 => wFmt x H1 Q) : tFmt ta σ H Q := h
theorem rd_fmtR (h : ta σ H fun x H1 => wFmtR x H1 Q) : tFmtR ta σ H Q := h
theorem rd_wFmt (h : Q (.str x) H) (c : x.length ≤ sizeLine) : wFmt (.str x) H Q := .inl ⟨x, rfl, c, h⟩
theorem rd_wFmtR (h : Q (.str (reprText x)) H) (c : (reprText x).length ≤ sizeLine) : wFmtR (.str x) H Q := .inl ⟨x, rfl, c, h⟩
theorem rd_lenS (h : Q (.int x.length) H) (c : x.length ≤ sizeLine) : zLenS [.str x] H Q := ⟨x, rfl, c, h⟩
theorem rd_int (h : Q (.int i) H) : zInt [.int i] H Q := .inl ⟨i, rfl, h⟩
theorem rd_intB (h : Q (.int (if b then 1 else 0)) H) : zInt [.bl b] H Q := .inr ⟨b, rfl, h⟩
theorem rd_starts (h : Q (.bl (Txt.startswith x y)) H) : zStarts (.str x) [.str y] H Q := ⟨x, y, rfl, rfl, h⟩
theorem rd_ends (h : Q (.bl (Txt.endswith x y)) H) : zEnds (.str x) [.str y] H Q := ⟨x, y, rfl, rfl, h⟩
theorem rd_rstrip (h : Q (.str (Txt.rstripChars x y)) H) (c : x.length ≤ sizeLine) : zRstrip (.str x) [.str y] H Q := ⟨x, y, rfl, rfl, c, h⟩
theorem rd_adS (h : Q (.str (x ++ y)) H) (c : x.length + y.length ≤ sizeLine) : zAdS (.str x) (.str y) H Q := ⟨x, y, rfl, rfl, c, h⟩
theorem rd_slS {lo hi : Option Int} (h : Q (.str (cutS x lo hi)) H) (c : x.length ≤ sizeLine) : rSlS (.str x) lo hi H Q := ⟨x, rfl, c, h⟩
theorem rd_in1 {c : Nat} (h : Q (.bl (decide (c ∈ tl y))) H) : zIn1 (.str ⟨#[c]⟩) (.str y) H Q := ⟨c, y, rfl, rfl, h⟩
theorem rd_isB {c : Bool} (h : Q (.bl (decide (b = c))) H) : rIsB (.bl b) (.bl c) H Q := ⟨b, c, rfl, rfl, h⟩
theorem rd_isN (h : Q (.bl (decide (v = .non))) H) : zIsN false v .non H Q := ⟨rfl, h⟩
theorem rd_notN (h : Q (.bl (!decide (v = .non))) H) : zIsN true v .non H Q := ⟨rfl, h⟩
theorem rd_iT {A B : Prop} (h : A) : if true = true then A else B := iteT h
theorem rd_iF {A B : Prop} (h : B) : if false = true then A else B := iteF h
theorem rd_yes (h : QB true H) : tYes σ H QB := h
theorem if_dec {c A B : Prop} [Decidable c] (h1 : c → A) (h2 : ¬ c → B) : if decide c = true then A else B := ite2 (fun e => h1 (of_decide_eq_true e)) (fun e => h2 fun z => e (decide_eq_true z))
theorem if_ndec {c A B : Prop} [Decidable c] (h1 : ¬ c → A) (h2 : c → B) : if (!decide c) = true then A else B := by
  by_cases e : c
  · rw [decide_eq_true e]
    exact iteF (h2 e)
  · rw [decide_eq_false e]
    exact iteT (h1 e)
theorem if_b {A B : Prop} (h1 : b = true → A) (h2 : b = false → B) : if b = true then A else B := by
  cases b
  · exact iteF (h2 rfl)
  · exact iteT (h1 rfl)
end
theorem line_of {n : Nat} (h : n ≤ 10000000) : n ≤ sizeLine := Nat.le_trans h (by decide)
theorem lt_line {n : Nat} (h : n < 10000000) : n < sizeLine := Nat.lt_of_lt_of_le h (by decide)
theorem len_app (x y : Str) : (x ++ y).length = x.length + y.length := by rw [len_tl, len_tl, len_tl, tl_append, List.length_append]
theorem len_cut (z : Str) (lo hi : Option Int) : (cutS z lo hi).length ≤ z.length := cutS_length z lo hi
theorem len_of (s : String) : (Str.ofString s).length = s.length := by rw [len_tl, tl_ofString, List.length_map]; rfl
theorem tl_empty : tl Str.empty = [] := rfl
theorem len_empty : Str.empty.length = 0 := rfl
/-! ### a def of the top -/
def Dn (K : PySem.W.Frag) (mg : Str → Option Value) (x : Str) (st : Stmt) (ps : List Str) : Prop := ∃ f fd, mg x = some (.ref f) ∧ Fun K x x st f fd ∧ ∀ (s : Shared) (us : List Value), us.length = ps.length → BindsTo s fd ⟨us, []⟩ (ps.zip us)
def OkD (P : Program) (w : World) (K : PySem.W.Frag) (mg : Str → Option Value) (base : Heap) (CX : CXT) (k : Nat) (x : Str) (ps : List Str) (sp : Sp) : Prop :=
  ∃ f fd, mg x = some (.ref f) ∧ PySem.W.keepIn K (.ref f) = true ∧ Binds K fd ps [] ∧ FnOk P w K mg base CX k f fd ps sp
theorem dn_mk {K : PySem.W.Frag} {h : Heap} {mg : Str → Option Value} {x : Str} {st : Stmt} {ps : List Str} {f : Addr} {oc kV doc pm cdv ct : Value} {od an : Option Addr} {osl : Array (Option Value)} (X : K.In h) (G : h.Ns mainGlobals mg)
    (a : PySem.W.nsIn K mainGlobals x = some (some (.ref f))) (l : K.lookup f = some ⟨oc, od, .func (PySem.W.fnOf x x (defArgs st) (defBody st) (defScope st) .none kV doc pm an cdv ct), osl⟩)
    (c : PySem.W.codeIn K cdv x = true) (k : PySem.W.keepIn K (.ref f) = true)
    (b : ∀ (kV doc pm : Value) (an : Option Addr) (cdv ct : Value) (us : List Value), us.length = ps.length → bindArgs (PySem.W.fnOf x x (defArgs st) (defBody st) (defScope st) .none kV doc pm an cdv ct) ⟨us, []⟩ = pure (ps.zip us)) : Dn K mg x st ps :=
  ⟨f, _, PySem.W.mg_of X G a, fun_mk l c k, fun s us hl => .of_eq (b kV doc pm an cdv ct us hl)⟩
theorem binds_of {K : PySem.W.Frag} {fd : FuncData} {ps : List Str} (b : ∀ (s : Shared) (us : List Value), us.length = ps.length → BindsTo s fd ⟨us, []⟩ (ps.zip us)) : Binds K fd ps [] := fun s us _ hl => by
  rw [List.append_nil] at hl ⊢
  exact b s us hl
theorem ok_F {P : Program} {w : World} {K : PySem.W.Frag} {mg : Str → Option Value} {base : Heap} {k : Nat} {x : Str} {st : Stmt} {ps N : List Str} {sp : Sp} {f : Addr} {fd : FuncData} (F : Fun K x x st f fd) (S : FnScope N ps (defScope st))
    (len : ∀ vs H Q E, sp vs H Q E → vs.length = ps.length)
    (hbody : ∀ (cdv : Value) (A : Around) (outer : List Env) (s : Shared) (H : Hp) (vs : List V) (Q : VK) (E : XK), Room k (A.deeper (envOfC x (defScope st) s.heap.objs.size f cdv)) → sp vs H Q E →
      ∃ t, PSs (cxOf CX0 P w K mg base N x (defScope st) f cdv A outer s H E).nox (defBody st) t ∧ t ⟨fun _ H' => Q .non H', Q, fun _ _ => False, fun _ _ => False⟩ (start N vs) H) : FnOk P w K mg base CX0 (k + 1) f fd ps sp :=
  F.ok S len fun cdv A outer s H vs Q E hr h => hbody cdv A outer s H vs Q E hr h
theorem ok_mk {P : Program} {w : World} {K : PySem.W.Frag} {mg : Str → Option Value} {base : Heap} {k : Nat} {x : Str} {st : Stmt} {ps N : List Str} {sp : Sp} (d : Dn K mg x st ps) (S : FnScope N ps (defScope st))
    (len : ∀ vs H Q E, sp vs H Q E → vs.length = ps.length)
    (hbody : ∀ (f : Addr) (cdv : Value) (A : Around) (outer : List Env) (s : Shared) (H : Hp) (vs : List V) (Q : VK) (E : XK), Room k (A.deeper (envOfC x (defScope st) s.heap.objs.size f cdv)) → sp vs H Q E →
      ∃ t, PSs (cxOf CX0 P w K mg base N x (defScope st) f cdv A outer s H E).nox (defBody st) t ∧ t ⟨fun _ H' => Q .non H', Q, fun _ _ => False, fun _ _ => False⟩ (start N vs) H) : OkD P w K mg base CX0 (k + 1) x ps sp := by
  obtain ⟨f, fd, m, F, b⟩ := d
  exact ⟨f, fd, m, F.kp, binds_of b, F.ok S len fun cdv A outer s H vs Q E hr h => hbody f cdv A outer s H vs Q E hr h⟩
section
variable {X : Cx}
theorem pe_callD {k : Nat} {x : Str} {ps : List Str} {sp : Sp} {t : TA} {e : Expr} {es : List Expr} {p pos : Pos} {E : XK} (O : OkD X.prog X.w X.K X.mg X.base CX0 k x ps sp) (hr : Room k X.A) (hg : Gl X x) (hx : Passes CX0 X E) (ha : PA X (e :: es) t)
    (hdb : (x == ("__debug__" : Str)) = false := by decide) (he : starEach (e :: es) X.env = (false, eval e X.env) :: starEach es X.env := by rfl) (hpl : (backTo pos (starEach es X.env)).any (·.1) = false := by rfl) :
    PE X (.Call (.Name x p) (e :: es) [] pos) (tCall sp [] E t) := by
  obtain ⟨f, fd, m, kp, b, F⟩ := O
  exact pe_call F hr hg m kp b .nil hx ha hdb he hpl
end
def wTru (K : PySem.W.Frag) (x : V) (H : Hp) (Q : Bool → Hp → Prop) : Prop := ∃ k, TruV K x H k ∧ Q k H
section
variable {σ : L2.St} {H : Hp} {Q : VK} {QB : Bool → Hp → Prop} {K : PySem.W.Frag} {a : Addr} {xs : List V} {i k : Int} {ta : TE}
theorem rd_truth (h : ta σ H fun x H1 => wTru K x H1 QB) : zTruth K ta σ H QB := h
theorem rd_truL (c : SqL K H a xs) (h : QB (!xs.isEmpty) H) : wTru K (.ref a) H QB := ⟨_, .inl ⟨xs, c, rfl⟩, h⟩
theorem rd_lenL (c : SqL K H a xs) (h : Q (.int xs.length) H) : zLenQ K [.ref a] H Q := ⟨a, xs, rfl, .inl c, h⟩
theorem rd_lenT (c : SqT K H a xs) (h : Q (.int xs.length) H) : zLenQ K [.ref a] H Q := ⟨a, xs, rfl, .inr c, h⟩
theorem rd_ixL {v : V} (c : SqL K H a xs) (e : atI xs i = some v) (h : Q v H) : rIxL K (.ref a) (.int i) H Q := ⟨a, xs, i, v, rfl, rfl, c, e, h⟩
theorem rd_ixT {v : V} (c : SqT K H a xs) (e : atI xs i = some v) (h : Q v H) : rIxT K (.ref a) (.int i) H Q := ⟨a, xs, i, v, rfl, rfl, c, e, h⟩
theorem atI_in {α : Type} {xs : List α} {i : Int} (h0 : 0 ≤ i) (h1 : i < xs.length) : ∃ v, v ∈ xs ∧ atI xs i = some v := by
  obtain ⟨j, rfl⟩ := Int.eq_ofNat_of_zero_le h0
  have hj : j < xs.length := by omega
  exact ⟨xs[j], List.getElem_mem hj, atI_nat (List.getElem?_eq_getElem hj)⟩
end
/-! ### comprehensions and loops over a range -/
def LcR (n : Nat) (g : TG) (te : TE) (vs : List Nat) (σ : L2.St) (H1 : Hp) (D : Addr) (Qd : Hp → Prop) : Prop := ∃ W : Nat → Nat → Hp → Prop, (∃ m, W 0 m (upd H1 D (.lst []))) ∧ ∀ i m H, W i m H →
  ((Itr 0 n).stop i H ∧ Qd H) ∨ ((Itr 0 n).go i H ∧ ∃ Nx : Hp → Prop, (∀ H', Nx H' → ∃ m', m' < m ∧ W (i + 1) m' H') ∧ ∀ x H', (Itr 0 n).yld i H x H' → g x (wipe σ vs) H' fun σ2 H2 => wipe σ2 vs = wipe σ vs ∧ tYes σ2 H2 fun b H3 =>
    if b = true then te σ2 H3 fun y H4 => ∃ acc, H4 D = some (.lst acc) ∧ acc.length < sizeLine ∧ Nx (upd H4 D (.lst (acc ++ [y]))) else Nx H3)
def wRg (zs : List V) (H : Hp) (R : Nat → Hp → Prop) : Prop := ∃ j : Int, zs = [V.int j] ∧ -(2 ^ 62) ≤ j ∧ j < 2 ^ 62 ∧ R j.toNat H
section
variable {σ : L2.St} {H H1 : Hp} {Q : VK} {QG : L2.St → Hp → Prop} {K : PySem.W.Frag} {st sc D : Addr} {ns : List Int} {as : TA} {g : TG} {te ta tb : TE} {vs : List Nat} {n : Nat} {G : V → Prop} {Qd : Hp → Prop}
theorem rd_lcR (h : as σ H fun zs H1 => wRg zs H1 fun n H2 => ∀ D, H2 D = none → LcR n g te vs σ H2 D (Q (.ref D))) : tLc (iRng1 as) g tYes te vs σ H Q := by
  unfold tLc iRng1
  exact h
theorem rd_wRg {j : Int} {R : Nat → Hp → Prop} (h0 : 0 ≤ j) (h1 : j ≤ 1000000) (h : R j.toNat H) : wRg [.int j] H R := ⟨j, rfl, by omega, by omega, h⟩
theorem lcR (W : Wd K st sc ns H1) (nD : H1 D = none) (hn : n ≤ 1000)
    (hs : ∀ (i : Nat) H (R : VK), i < n → Wd K st sc ns H → Dr st H1 H → (∀ y H', Dr st H H' → G y → R y H') → g (.int (0 + (i : Nat))) (wipe σ vs) H fun σ2 H2 => wipe σ2 vs = wipe σ vs ∧ te σ2 H2 R)
    (hd : ∀ H' ys, Dr st H1 H' → Wd K st sc ns H' → D ≠ st → H' D = some (.lst ys) → ys.length = n → (∀ y ∈ ys, G y) → Qd H') : LcR n g te vs σ H1 D Qd := by
  have nS : D ≠ st := W.1.ne nD
  refine lc_range (Pv := fun i H => Dr st H1 H ∧ ∃ ys, H D = some (.lst ys) ∧ ys.length = i ∧ ∀ y ∈ ys, G y) ?_ (fun i H hi hP => ?_) (fun H hP => ?_)
  · exact ⟨W.dr.new nD, [], upd_same, rfl, fun _ h => nomatch h⟩
  · obtain ⟨d, ys, e, el, eg⟩ := hP
    have q := hs i H (fun y H4 => ∃ acc, H4 D = some (.lst acc) ∧ acc.length < sizeLine ∧ (Dr st H1 (upd H4 D (.lst (acc ++ [y]))) ∧ ∃ ys, (upd H4 D (.lst (acc ++ [y]))) D = some (.lst ys) ∧ ys.length = i + 1 ∧ ∀ y ∈ ys, G y)) hi (W.next d) d (fun y H' d' gy => by
      have e' : H' D = some (.lst ys) := d'.1 _ _ nS e
      refine ⟨ys, e', lt_line (by omega), Dr.put W.1 (d.trans d') nD, ys ++ [y], upd_same, by rw [List.length_append, el]; rfl, fun z hz => ?_⟩
      rcases List.mem_append.mp hz with hz | hz
      · exact eg z hz
      · rw [List.mem_singleton.mp hz]
        exact gy)
    exact q
  · obtain ⟨d, ys, e, el, eg⟩ := hP
    exact hd H ys d (W.next d) nS e el eg
def wSet (t : TSet) (o i v : V) (H : Hp) (Q : Hp → Prop) : Prop := t o i v H Q
theorem rd_gSub {v : V} {t : TSet} (h : ta σ H fun o H1 => tb σ H1 fun i H2 => t o i v H2 fun H3 => QG σ H3) : gSub ta tb t v σ H QG := h
theorem rd_setL {a : Addr} {k : Int} {v : V} {xs : List V} {j : Nat} {QH : Hp → Prop} (e : H a = some (.lst xs)) (hj : ixN xs.length k = some j) (h : QH (upd H a (.lst (xs.set j v)))) : rSetL (.ref a) (.int k) v H QH := ⟨a, xs, k, j, rfl, rfl, e, hj, h⟩
theorem Dr.upds (d : Dr st H H1) {k v : Int} : Dr st H (upd H1 st (.lst [.int k, .int v])) :=
  ⟨fun a x n e => by
    rw [upd_ne n]
    exact d.1 a x n e, k, v, upd_same⟩
end
theorem cut_one {z : Str} {k : Int} (h0 : 0 ≤ k) (h1 : k < z.length) : ∃ c, c ∈ tl z ∧ cutS z (some k) (some (k + 1)) = ⟨#[c]⟩ := by
  obtain ⟨j, rfl⟩ := Int.eq_ofNat_of_zero_le h0
  have hj : j < (tl z).length := by rw [← len_tl]; omega
  have hz : z.length = (tl z).length := len_tl z
  refine ⟨(tl z)[j], List.getElem_mem hj, ?_⟩
  unfold cutS
  rw [show ((j : Int) + 1) = ((j + 1 : Nat) : Int) by omega, HT.sIx_nat, HT.sIx_nat, Nat.min_eq_left (by omega), Nat.min_eq_left (by omega), show j + 1 - j = 1 by omega]
  show (⟨(List.take 1 (List.drop j (tl z))).toArray⟩ : Str) = _
  rw [List.drop_eq_getElem_cons hj]
  rfl
/-! ### texts put together -/
theorem strs_of {G : Str → Prop} : ∀ {ys : List V}, (∀ y ∈ ys, ∃ x, y = .str x ∧ G x) → ∃ xs : List Str, ys = xs.map V.str ∧ ∀ x ∈ xs, G x
  | [], _ => ⟨[], rfl, fun _ h => nomatch h⟩
  | y :: ys, h => by
    obtain ⟨x, rfl, g⟩ := h y List.mem_cons_self
    obtain ⟨xs, rfl, gs⟩ := strs_of (ys := ys) fun z hz => h z (List.mem_cons_of_mem _ hz)
    refine ⟨x :: xs, rfl, fun z hz => ?_⟩
    rcases List.mem_cons.mp hz with rfl | hz
    · exact g
    · exact gs z hz
theorem joinL_len (S : List Nat) : ∀ ps : List (List Nat), (joinL S ps).length ≤ (ps.map (·.length)).sum + ps.length * S.length
  | [] => Nat.zero_le _
  | [p] => by simp [joinL]
  | p :: q :: r => by
    have h := joinL_len S (q :: r)
    have e : joinL S (p :: q :: r) = p ++ (S ++ joinL S (q :: r)) := by first | rfl | simp [joinL]
    rw [e, List.length_append, List.length_append]
    simp only [List.map_cons, List.sum_cons, List.length_cons] at h ⊢
    rw [Nat.succ_mul]
    omega
theorem joinL_mem {S : List Nat} {c : Nat} : ∀ {ps : List (List Nat)}, c ∈ joinL S ps → c ∈ S ∨ ∃ p ∈ ps, c ∈ p
  | [], h => by simp [joinL] at h
  | [p], h => .inr ⟨p, by simp, by simpa [joinL] using h⟩
  | p :: q :: r, h => by
    have e : joinL S (p :: q :: r) = p ++ (S ++ joinL S (q :: r)) := by first | rfl | simp [joinL]
    rw [e] at h
    rcases List.mem_append.mp h with h | h
    · exact .inr ⟨p, by simp, h⟩
    · rcases List.mem_append.mp h with h | h
      · exact .inl h
      · rcases joinL_mem h with h | ⟨p', hp, h⟩
        · exact .inl h
        · exact .inr ⟨p', List.mem_cons_of_mem _ hp, h⟩
theorem joinL_nil : ∀ ps : List (List Nat), joinL [] ps = ps.flatten
  | [] => rfl
  | [p] => by simp [joinL]
  | p :: q :: r => by
    have e : joinL [] (p :: q :: r) = p ++ ([] ++ joinL [] (q :: r)) := by first | rfl | simp [joinL]
    rw [e, joinL_nil (q :: r)]
    rfl
theorem sum_le {B : Nat} : ∀ {l : List Nat}, (∀ x ∈ l, x ≤ B) → l.sum ≤ l.length * B
  | [], _ => Nat.zero_le _
  | x :: l, h => by
    have h1 := h x List.mem_cons_self
    have h2 := sum_le (l := l) fun y hy => h y (List.mem_cons_of_mem _ hy)
    rw [List.sum_cons, List.length_cons, Nat.succ_mul]
    omega
theorem lens_le {B : Nat} {xs : List Str} (h : ∀ x ∈ xs, x.length ≤ B) : (xs.map (·.length)).sum ≤ xs.length * B := by
  have q := sum_le (B := B) (l := xs.map (·.length)) fun n hn => by
    obtain ⟨x, hx, rfl⟩ := List.mem_map.mp hn
    exact h x hx
  rwa [List.length_map] at q
theorem tl_joined (a : Str) (xs : List Str) : tl (Txt.join a xs) = joinL (tl a) (xs.map tl) := by rw [join_eq, tl_join]
theorem len_joined (a : Str) (xs : List Str) : (Txt.join a xs).length ≤ (xs.map (·.length)).sum + xs.length * a.length := by
  rw [len_tl, tl_joined, len_tl a]
  have h := joinL_len (tl a) (xs.map tl)
  rw [List.length_map, List.map_map] at h
  have e : (xs.map (·.length)) = xs.map ((·.length) ∘ tl) := List.map_congr_left fun x _ => len_tl x
  rw [e]
  exact h
theorem mem_joined {a : Str} {xs : List Str} {c : Nat} (h : c ∈ tl (Txt.join a xs)) : c ∈ tl a ∨ ∃ x ∈ xs, c ∈ tl x := by
  rw [tl_joined] at h
  rcases joinL_mem h with h | ⟨p, hp, h⟩
  · exact .inl h
  · obtain ⟨x, hx, rfl⟩ := List.mem_map.mp hp
    exact .inr ⟨x, hx, h⟩
theorem tl_lit0 : tl (Str.ofString "") = [] := by rw [tl_ofString]; rfl
theorem len_ones : ∀ {xs : List Str}, (∀ x ∈ xs, ∃ c, x = ⟨#[c]⟩) → ((xs.map tl).flatten).length = xs.length
  | [], _ => rfl
  | x :: xs, h => by
    obtain ⟨c, rfl⟩ := h x List.mem_cons_self
    rw [List.map_cons, List.flatten_cons, List.length_append, len_ones fun y hy => h y (List.mem_cons_of_mem _ hy)]
    exact Nat.add_comm 1 _
section
variable {H : Hp} {Q : VK} {K : PySem.W.Frag} {p : Addr} {xs : List Str} {a : Str}
theorem rd_joinL (c : SqL K H p (xs.map V.str)) (b : (xs.map (·.length)).sum + xs.length * a.length ≤ 16777216) (h : Q (.str (Txt.join a xs)) H) : zJoin K (.str a) [.ref p] H Q := ⟨a, p, xs, rfl, rfl, .inl c, b, h⟩
end
theorem len_lit0 : (Str.ofString "").length = 0 := by rw [len_of]; rfl
theorem len_dot : (Str.ofString ".").length = 1 := by rw [len_of]; rfl
theorem tl_dot : tl (Str.ofString ".") = [46] := by rw [tl_ofString]; rfl
theorem rep_one {α : Type} (x : α) : ∀ k : Nat, (List.replicate k [x]).flatten = List.replicate k x
  | 0 => rfl
  | k + 1 => by rw [List.replicate_succ, List.flatten_cons, rep_one x k]; rfl
theorem len_ends : (Str.ofString "abcdefghijklmnopqrstuvwxyz0123456789-_+").length = 39 := by rw [len_of]; rfl
theorem len_ends2 : (Str.ofString "abcdefghijklmnopqrstuvwxyz0123456789").length = 36 := by rw [len_of]; rfl
theorem len_rs (x y : Str) : (Txt.rstripChars x y).length ≤ x.length := by first | exact PyProof.Rows.len_rstripChars x y | exact len_rstripChars x y | exact Txt.len_rstripChars x y
theorem rd_wLs {xs : List V} {H : Hp} {Q : VK} (c : xs.length ≤ 1000) (h : ∀ (p : Addr), H p = none → Q (.ref p) (upd H p (.lst xs))) : wLs xs H Q := ⟨line_of (by omega), h⟩
theorem rd_wTT {xs : List V} {H : Hp} {Q : VK} (c : xs.length ≤ 1000) (h : ∀ (p : Addr) (H' : Hp), H p = none → Same H H' → Tk H' p xs → Q (.ref p) H') : wTT xs H Q := ⟨line_of (by omega), fun p o n d => h p _ n (same_new n) (Tk.mk d)⟩
theorem rd_rep {p : Addr} {k : Int} {xs : List V} {H : Hp} {Q : VK} (e : H p = some (.lst xs)) (k0 : 0 ≤ k) (k1 : k ≤ 1000) (c : xs.length ≤ 1000) (h : ∀ q, H q = none → Q (.ref q) (upd H q (.lst (List.replicate k.toNat xs).flatten))) : rRep (.ref p) (.int k) H Q :=
  ⟨p, k, xs, rfl, rfl, e, by omega, by omega, line_of (Nat.le_trans (Nat.mul_le_mul c (show k.toNat ≤ 1000 by omega)) (by decide)), h⟩
def FrR (n : Nat) (g : TG) (tb : TS) (D : Ends) (σ : L2.St) (H : Hp) : Prop := ∃ W : Nat → Nat → L2.St → Hp → Prop, (∃ m, W 0 m σ H) ∧ ∀ i m σ H, W i m σ H →
  ((Itr 0 n).stop i H ∧ D.nx σ H) ∨ ((Itr 0 n).go i H ∧ ∃ N : L2.St → Hp → Prop, (∀ σ' H', N σ' H' → ∃ m', m' < m ∧ W (i + 1) m' σ' H') ∧ ∀ x H', (Itr 0 n).yld i H x H' → g x σ H' fun σ2 H2 => tb { D with nx := N, ct := N, bk := D.nx } σ2 H2)
def wTy (K : PySem.W.Frag) (T : String) (x : V) (H : Hp) (P : Prop) : Prop := tyV K T x H ∧ P
section
variable {σ : L2.St} {H : Hp} {Q : VK} {nx bk ct : L2.St → Hp → Prop} {rt : VK} {K : PySem.W.Frag} {as : TA} {ta : TE} {g : TG} {tb : TS} {n : Nat} {T : String} {f : V → List V → Hp → VK → Prop} {a : Addr} {xs : List V} {y : V} {P : Prop}
theorem rd_forR (h : as σ H fun zs H1 => wRg zs H1 fun n H2 => FrR n g tb ⟨nx, rt, bk, ct⟩ σ H2) : tFor (iRng1 as) g tb ⟨nx, rt, bk, ct⟩ σ H := by
  unfold tFor iRng1
  exact h
theorem forR (Pv : Nat → L2.St → Hp → Prop) (h0 : Pv 0 σ H) (hs : ∀ (i : Nat) σ H, i < n → Pv i σ H → g (.int (0 + (i : Nat))) σ H fun σ2 H2 => tb ⟨Pv (i + 1), rt, nx, Pv (i + 1)⟩ σ2 H2) (hd : ∀ σ H, Pv n σ H → nx σ H) :
    FrR n g tb ⟨nx, rt, bk, ct⟩ σ H := for_range (D := ⟨nx, rt, bk, ct⟩) Pv h0 hs hd
theorem rd_bm (h : ta σ H fun x H1 => wTy K T x H1 (as σ H1 fun xs H2 => f x xs H2 Q)) : tBM K T f ta as σ H Q := h
theorem rd_wTyL (c : SqL K H a xs) (h : P) : wTy K "list" (.ref a) H P := ⟨.inl ⟨rfl, _, c⟩, h⟩
theorem rd_append (e : H a = some (.lst xs)) (c : xs.length ≤ 1000) (h : Q .non (upd H a (.lst (xs ++ [y])))) : rAppend (.ref a) [y] H Q := ⟨a, xs, y, rfl, rfl, e, lt_line (by omega), h⟩
end
/-! ### signs below 128 -/
def Asc (x : Str) : Prop := ∀ c ∈ tl x, c < 128
theorem asc_app {x y : Str} (h : Asc x) (g : Asc y) : Asc (x ++ y) := fun c hc => by
  rw [tl_append] at hc
  rcases List.mem_append.mp hc with hc | hc
  · exact h c hc
  · exact g c hc
theorem asc_cut {x : Str} {lo hi : Option Int} (h : Asc x) : Asc (cutS x lo hi) := fun c hc => h c (List.mem_of_mem_drop (List.mem_of_mem_take (show c ∈ List.take _ (List.drop _ (tl x)) from hc)))
theorem asc_rs {x y : Str} (h : Asc x) : Asc (Txt.rstripChars x y) := fun c hc => by
  obtain ⟨j, _, e⟩ := PyProof.Rows.stripBy_right y.cps.contains x
  rw [show Txt.rstripChars x y = Builtin.Str.strSub x 0 j from e, tl_strSub] at hc
  exact h c (List.mem_of_mem_drop (List.mem_of_mem_take hc))
theorem asc_join {a : Str} {xs : List Str} (h : Asc a) (g : ∀ x ∈ xs, Asc x) : Asc (Txt.join a xs) := fun c hc => by
  rcases mem_joined hc with hc | ⟨x, hx, hc⟩
  · exact h c hc
  · exact g x hx c hc
theorem asc_of {x : Str} (h : x.cps.all (fun c => decide (c < 128)) = true) : Asc x := fun c hc => by
  rw [Array.all_eq_true'] at h
  exact of_decide_eq_true (h c (Array.mem_def.mpr hc))
theorem asc_one {c : Nat} (h : c < 128) : Asc ⟨#[c]⟩ := fun d hd => by
  rw [List.mem_singleton.mp hd]
  exact h
theorem asc_ends : Asc (Str.ofString "abcdefghijklmnopqrstuvwxyz0123456789-_+") := asc_of (by decide +kernel)
theorem asc_ends2 : Asc (Str.ofString "abcdefghijklmnopqrstuvwxyz0123456789") := asc_of (by decide +kernel)
theorem asc_dot : Asc (Str.ofString ".") := asc_of (by decide +kernel)
theorem asc_lit0 : Asc (Str.ofString "") := asc_of (by decide +kernel)
theorem ok_asc {x : Str} (h : Asc x) : PyData.strOk x = true := by
  unfold PyData.strOk
  rw [Array.all_eq_true']
  exact fun c hc => decide_eq_true (Nat.lt_trans (h c (Array.mem_def.mp hc)) (by decide))
theorem canLay_strs : ∀ {xs : List Str}, (∀ x ∈ xs, Asc x) → PyData.canLayAll0 (xs.map PyData.str) = true
  | [], _ => by simp [PyData.canLayAll0]
  | x :: xs, h => by
    simp only [List.map_cons, PyData.canLayAll0, PyData.canLay0, ok_asc (h x List.mem_cons_self), canLay_strs fun y hy => h y (List.mem_cons_of_mem _ hy), Bool.and_self]
theorem depth_strs : ∀ xs : List Str, PyData.depthAll (xs.map PyData.str) = 0
  | [] => by simp [PyData.depthAll]
  | x :: xs => by
    rw [List.map_cons, PyData.depthAll, PyData.depth, depth_strs xs]
    rfl
theorem shaped_strs {xs : List Str} (h : ∀ x ∈ xs, Asc x) : SeqAt.shaped (.tuple (xs.map PyData.str)) = true := by
  simp only [SeqAt.shaped, PyData.canLay0, PyData.depth, canLay_strs h, depth_strs]
  decide
theorem eqv_strs : ∀ xs ys : List Str, PyData.eqvAll (xs.map PyData.str) (ys.map PyData.str) = decide (xs = ys)
  | [], [] => by simp [PyData.eqvAll]
  | [], _ :: _ => by simp [PyData.eqvAll]
  | _ :: _, [] => by simp [PyData.eqvAll]
  | x :: xs, y :: ys => by
    simp only [List.map_cons, PyData.eqvAll, PyData.eqv, eqv_strs xs ys]
    by_cases h : x = y <;> by_cases h' : xs = ys <;> simp [h, h']
theorem dp_strs {K : PySem.W.Frag} {H : Hp} : ∀ xs : List Str, DpAll K H (xs.map V.str) (xs.map PyData.str)
  | [] => .nil
  | x :: xs => .cons (.str x) (dp_strs xs)
section
variable {K : PySem.W.Frag} {H : Hp} {Q : VK} {p q : Addr} {xs ys : List Str} {v : V} {t : Value} {a b : String} {r : Bool} {zs : List V}
theorem rd_neT (h1 : SqT K H p (xs.map V.str)) (h2 : SqT K H q (ys.map V.str)) (a1 : ∀ x ∈ xs, Asc x) (a2 : ∀ x ∈ ys, Asc x) (h : Q (.bl (!decide (xs = ys))) H) : rNeD K (.ref p) (.ref q) H Q :=
  ⟨_, _, .tup h1 (dp_strs xs), .tup h2 (dp_strs ys), shaped_strs a1, shaped_strs a2, by
    rw [show PyData.eqv (.tuple (xs.map PyData.str)) (.tuple (ys.map PyData.str)) = PyData.eqvAll (xs.map PyData.str) (ys.map PyData.str) by rw [PyData.eqv], eqv_strs]
    exact h⟩
theorem rd_eqT (h1 : SqT K H p (xs.map V.str)) (h2 : SqT K H q (ys.map V.str)) (a1 : ∀ x ∈ xs, Asc x) (a2 : ∀ x ∈ ys, Asc x) (h : Q (.bl (decide (xs = ys))) H) : rEqD K (.ref p) (.ref q) H Q :=
  ⟨_, _, .tup h1 (dp_strs xs), .tup h2 (dp_strs ys), shaped_strs a1, shaped_strs a2, by
    rw [show PyData.eqv (.tuple (xs.map PyData.str)) (.tuple (ys.map PyData.str)) = PyData.eqvAll (xs.map PyData.str) (ys.map PyData.str) by rw [PyData.eqv], eqv_strs]
    exact h⟩
theorem rd_isi (c : TyX K H v (.type a)) (e : kitB a b = some r) (h : Q (.bl r) H) : rIsi K [v, .ty b] H Q := ⟨v, .ty b, .type a, .type b, r, rfl, .ty b, c, kit_ty e, h⟩
theorem Tk.ty {p : Addr} {zs : List V} (h : Tk H p zs) : TyX K H (.ref p) (.type "tuple") := let ⟨_, _, e⟩ := h; .fTuple e
theorem inV_strs (z : Str) : ∀ xs : List Str, inV (.str z) (xs.map V.str) = decide (z ∈ xs)
  | [] => by simp [inV]
  | x :: xs => by
    have h := inV_strs z xs
    unfold inV at h ⊢
    rw [List.map_cons, List.any_cons, h]
    show ((x == z) || _) = _
    by_cases e : x = z
    · simp [e]
    · have e' : ¬ z = x := fun q => e q.symm
      simp [e, e']
theorem flat_strs' : ∀ xs : List Str, (xs.map V.str).all flatV = true
  | [] => rfl
  | x :: xs => by rw [List.map_cons, List.all_cons, flat_strs' xs]; rfl
theorem rd_inT {z : Str} (c : SqT K H p (xs.map V.str)) (h : Q (.bl (decide (z ∈ xs))) H) : rIn K false (.str z) (.ref p) H Q := ⟨p, _, rfl, .inr c, rfl, flat_strs' xs, by
  rw [inV_strs]
  exact h⟩
theorem rd_tup (c : SqL K H p zs) (h : ∀ (l : Addr) (H' : Hp), H l = none → Same H H' → Tk H' l zs → Q (.ref l) H') : zTup K [.ref p] H Q := ⟨p, zs, rfl, c, fun l o n d => h l _ n (same_new n) (Tk.mk d)⟩
end
/-! ### what is walked: a list, a tuple, a text -/
def WalkOf (J : It) (R : Hp → Prop) (xs : List V) : Prop := ∀ H, R H → (∀ i, i < xs.length → J.go i H) ∧ (∀ i x H', i < xs.length → J.yld i H x H' → H' = H ∧ xs[i]? = some x) ∧ ∀ i, xs.length ≤ i → J.stop i H
def oneS (c : Nat) : V := .str ⟨#[c]⟩
theorem walk_l {K : PySem.W.Frag} {a : Addr} {xs : List V} : WalkOf (Itl K a) (fun H => SqL K H a xs) xs := fun H h =>
  ⟨fun i hi => ⟨xs, xs[i], h, List.getElem?_eq_getElem hi⟩, fun i x H' hi y => ⟨y.1, y.2 xs h⟩, fun i hi => ⟨xs, h, hi⟩⟩
theorem walk_t {K : PySem.W.Frag} {a : Addr} {xs : List V} : WalkOf (Itt K a) (fun H => SqT K H a xs) xs := fun H h =>
  ⟨fun i hi => ⟨xs, xs[i], h, List.getElem?_eq_getElem hi⟩, fun i x H' hi y => ⟨y.1, y.2 xs h⟩, fun i hi => ⟨xs, h, hi⟩⟩
theorem walk_s {z : Str} : WalkOf (Its z) (fun _ => True) ((tl z).map oneS) := fun H _ => by
  have e : ((tl z).map oneS).length = z.cps.size := by rw [List.length_map, Array.length_toList]
  refine ⟨fun i hi => ?_, fun i x H' hi y => ?_, fun i hi => ?_⟩
  · rw [e] at hi
    exact hi
  · obtain ⟨e1, c, hc, rfl⟩ := y
    refine ⟨e1, ?_⟩
    rw [List.getElem?_map, Array.getElem?_toList, hc]
    rfl
  · rw [e] at hi
    exact hi
def LcJ (J : It) (g : TG) (tt : TT) (te : TE) (vs : List Nat) (σ : L2.St) (H1 : Hp) (D : Addr) (Qd : Hp → Prop) : Prop := ∃ W : Nat → Nat → Hp → Prop, (∃ m, W 0 m (upd H1 D (.lst []))) ∧ ∀ i m H, W i m H →
  (J.stop i H ∧ Qd H) ∨ (J.go i H ∧ ∃ Nx : Hp → Prop, (∀ H', Nx H' → ∃ m', m' < m ∧ W (i + 1) m' H') ∧ ∀ x H', J.yld i H x H' → g x (wipe σ vs) H' fun σ2 H2 => wipe σ2 vs = wipe σ vs ∧ tt σ2 H2 fun b H3 =>
    if b = true then te σ2 H3 fun y H4 => ∃ acc, H4 D = some (.lst acc) ∧ acc.length < sizeLine ∧ Nx (upd H4 D (.lst (acc ++ [y]))) else Nx H3)
def FrJ (J : It) (g : TG) (tb : TS) (D : Ends) (σ : L2.St) (H : Hp) : Prop := ∃ W : Nat → Nat → L2.St → Hp → Prop, (∃ m, W 0 m σ H) ∧ ∀ i m σ H, W i m σ H →
  (J.stop i H ∧ D.nx σ H) ∨ (J.go i H ∧ ∃ N : L2.St → Hp → Prop, (∀ σ' H', N σ' H' → ∃ m', m' < m ∧ W (i + 1) m' σ' H') ∧ ∀ x H', J.yld i H x H' → g x σ H' fun σ2 H2 => tb { D with nx := N, ct := N, bk := D.nx } σ2 H2)
def wSq (P : Hp → Addr → List V → Prop) (x : V) (H : Hp) (R : Addr → Hp → Prop) : Prop := ∃ a, x = V.ref a ∧ (∃ xs, P H a xs) ∧ R a H
def wStr (x : V) (H : Hp) (R : Str → Hp → Prop) : Prop := ∃ z, x = V.str z ∧ R z H
section
variable {σ : L2.St} {H H1 : Hp} {Q : VK} {nx bk ct : L2.St → Hp → Prop} {rt : VK} {K : PySem.W.Frag} {ta : TE} {g : TG} {tt : TT} {te : TE} {vs : List Nat} {tb : TS} {n j : Nat} {a D : Addr} {xs : List V} {J : It} {Rl : Hp → Prop} {Qd : Hp → Prop}
theorem rd_lcT (h : ta σ H fun x H1 => wSq (SqT K) x H1 fun a H2 => ∀ D, H2 D = none → LcJ (Itt K a) g tt te vs σ H2 D (Q (.ref D))) : tLc (iTup K ta) g tt te vs σ H Q := by
  unfold tLc iTup
  exact h
theorem rd_lcL (h : ta σ H fun x H1 => wSq (SqL K) x H1 fun a H2 => ∀ D, H2 D = none → LcJ (Itl K a) g tt te vs σ H2 D (Q (.ref D))) : tLc (iList K ta) g tt te vs σ H Q := by
  unfold tLc iList
  exact h
theorem rd_lcS (h : ta σ H fun x H1 => wStr x H1 fun z H2 => ∀ D, H2 D = none → LcJ (Its z) g tt te vs σ H2 D (Q (.ref D))) : tLc (iStr ta) g tt te vs σ H Q := by
  unfold tLc iStr
  exact h
theorem rd_frT (h : ta σ H fun x H1 => wSq (SqT K) x H1 fun a H2 => FrJ (Itt K a) g tb ⟨nx, rt, bk, ct⟩ σ H2) : tFor (iTup K ta) g tb ⟨nx, rt, bk, ct⟩ σ H := by
  unfold tFor iTup
  exact h
theorem rd_frL (h : ta σ H fun x H1 => wSq (SqL K) x H1 fun a H2 => FrJ (Itl K a) g tb ⟨nx, rt, bk, ct⟩ σ H2) : tFor (iList K ta) g tb ⟨nx, rt, bk, ct⟩ σ H := by
  unfold tFor iList
  exact h
theorem rd_wSq {P : Hp → Addr → List V → Prop} {R : Addr → Hp → Prop} (c : P H a xs) (h : R a H) : wSq P (.ref a) H R := ⟨a, rfl, ⟨xs, c⟩, h⟩
theorem rd_wStr {z : Str} {R : Str → Hp → Prop} (h : R z H) : wStr (.str z) H R := ⟨z, rfl, h⟩
theorem lcJ (Wk : WalkOf J Rl xs) (Pv : Nat → Hp → Prop) (h0 : Pv 0 (upd H1 D (.lst []))) (hl : ∀ i H, i ≤ xs.length → Pv i H → Rl H)
    (hs : ∀ i x H, xs[i]? = some x → Pv i H → g x (wipe σ vs) H fun σ2 H2 => wipe σ2 vs = wipe σ vs ∧ tt σ2 H2 fun b H3 =>
      if b = true then te σ2 H3 fun y H4 => ∃ acc, H4 D = some (.lst acc) ∧ acc.length < sizeLine ∧ Pv (i + 1) (upd H4 D (.lst (acc ++ [y]))) else Pv (i + 1) H3)
    (hd : ∀ H, Pv xs.length H → Qd H) : LcJ J g tt te vs σ H1 D Qd := by
  refine ⟨fun i m H => m = xs.length - i ∧ i ≤ xs.length ∧ Pv i H, ⟨xs.length, rfl, Nat.zero_le _, h0⟩, ?_⟩
  intro i m H hW
  obtain ⟨em, hi, p⟩ := hW
  obtain ⟨w1, w2, w3⟩ := Wk H (hl i H hi p)
  by_cases hlt : i < xs.length
  · refine .inr ⟨w1 i hlt, Pv (i + 1), fun H' p' => ⟨xs.length - (i + 1), by omega, rfl, hlt, p'⟩, fun x H' y => ?_⟩
    obtain ⟨e, y⟩ := w2 i x H' hlt y
    rw [e]
    exact hs i x H y p
  · have e : i = xs.length := by omega
    rw [e] at p
    exact .inl ⟨w3 i (by omega), hd H p⟩
theorem frJ (Wk : WalkOf J Rl xs) (Pv : Nat → L2.St → Hp → Prop) (h0 : Pv 0 σ H) (hl : ∀ i σ H, i ≤ xs.length → Pv i σ H → Rl H)
    (hs : ∀ i x σ H, xs[i]? = some x → Pv i σ H → g x σ H fun σ2 H2 => tb ⟨Pv (i + 1), rt, nx, Pv (i + 1)⟩ σ2 H2)
    (hd : ∀ σ H, Pv xs.length σ H → nx σ H) : FrJ J g tb ⟨nx, rt, bk, ct⟩ σ H := by
  refine ⟨fun i m σ H => m = xs.length - i ∧ i ≤ xs.length ∧ Pv i σ H, ⟨xs.length, rfl, Nat.zero_le _, h0⟩, ?_⟩
  intro i m σ H hW
  obtain ⟨em, hi, p⟩ := hW
  obtain ⟨w1, w2, w3⟩ := Wk H (hl i σ H hi p)
  by_cases hlt : i < xs.length
  · refine .inr ⟨w1 i hlt, Pv (i + 1), fun σ' H' p' => ⟨xs.length - (i + 1), by omega, rfl, hlt, p'⟩, fun x H' y => ?_⟩
    obtain ⟨e, y⟩ := w2 i x H' hlt y
    rw [e]
    exact hs i x σ H y p
  · have e : i = xs.length := by omega
    rw [e] at p
    exact .inl ⟨w3 i (by omega), hd σ H p⟩
theorem lcM (Wk : WalkOf J Rl xs) (hR : ∀ H, Same H1 H → Rl H) (nD : H1 D = none) (hn : xs.length ≤ 1000000) (keep : V → Bool) (f : V → V)
    (hs : ∀ x ∈ xs, ∀ H, Same H1 H → wipe ((wipe σ vs).set j (some x)) vs = wipe σ vs ∧ (∀ B : Bool → Hp → Prop, (∀ H', Same H H' → B (keep x) H') → tt ((wipe σ vs).set j (some x)) H B) ∧
      (keep x = true → ∀ H' (R : VK), Same H H' → (∀ H'', Same H' H'' → R (f x) H'') → te ((wipe σ vs).set j (some x)) H' R))
    (hd : ∀ H', Same H1 H' → H' D = some (.lst ((xs.filter keep).map f)) → Qd H') : LcJ J (gName j) tt te vs σ H1 D Qd := by
  refine lcJ Wk (fun i H => Same H1 H ∧ H D = some (.lst (((xs.take i).filter keep).map f))) ⟨same_new nD, by rw [upd_same]; rfl⟩ (fun i H _ p => hR H p.1) (fun i x H hx p => ?_) (fun H p => ?_)
  · obtain ⟨sm, e⟩ := p
    obtain ⟨h1, h2, h3⟩ := hs x (List.mem_of_getElem? hx) H sm
    refine ⟨h1, h2 _ fun H' s2 => ?_⟩
    have et : xs.take (i + 1) = xs.take i ++ [x] := by rw [List.take_add_one, hx]; rfl
    have hk : ∀ b, keep x = b → if b = true then te ((wipe σ vs).set j (some x)) H' fun y H4 => ∃ acc, H4 D = some (.lst acc) ∧ acc.length < sizeLine ∧ (Same H1 (upd H4 D (.lst (acc ++ [y]))) ∧ (upd H4 D (.lst (acc ++ [y]))) D = some (.lst (((xs.take (i + 1)).filter keep).map f)))
        else (Same H1 H' ∧ H' D = some (.lst (((xs.take (i + 1)).filter keep).map f))) := fun b hb => by
      cases b with
      | true =>
        refine iteT (h3 hb H' _ s2 fun H'' s3 => ?_)
        have eD : H'' D = some _ := s3 _ _ (s2 _ _ e)
        refine ⟨_, eD, ?_, fun b o eb => ?_, ?_⟩
        · refine lt_line ?_
          rw [List.length_map]
          have q1 := List.length_filter_le keep (xs.take i)
          rw [List.length_take] at q1
          omega
        · rw [upd_ne (ne_of_none eb nD)]
          exact s3 _ _ (s2 _ _ (sm _ _ eb))
        · rw [upd_same, et, List.filter_append, List.map_append, List.filter_cons, hb]
          rfl
      | false =>
        refine iteF ⟨sm.trans s2, ?_⟩
        rw [et, List.filter_append, List.map_append, List.filter_cons, hb, s2 _ _ e]
        simp
    exact hk (keep x) rfl
  · rw [List.take_length] at p
    exact hd H p.1 p.2
theorem lcM1 (Wk : WalkOf J Rl xs) (hR : ∀ H, Same H1 H → Rl H) (nD : H1 D = none) (hn : xs.length ≤ 1000000) (f : V → V)
    (hs : ∀ x ∈ xs, ∀ H (R : VK), Same H1 H → (∀ H'', Same H H'' → R (f x) H'') → wipe ((wipe σ vs).set j (some x)) vs = wipe σ vs ∧ te ((wipe σ vs).set j (some x)) H R)
    (hd : ∀ H', Same H1 H' → H' D = some (.lst (xs.map f)) → Qd H') : LcJ J (gName j) tYes te vs σ H1 D Qd := by
  refine lcM Wk hR nD hn (fun _ => true) f (fun x hx H sm => ⟨(hs x hx H (fun _ _ => True) sm fun _ _ => trivial).1, fun B h => h H (Same.refl H), fun _ H' R s2 q => (hs x hx H' R (sm.trans s2) q).2⟩) (fun H' sm e => hd H' sm ?_)
  rw [e, List.filter_eq_self.mpr fun _ _ => rfl]
theorem pe_kS {X : Cx} {x z : Str} {p : Pos} (hg : Gl X x) (hm : ∃ t, X.mg x = some (.str z t)) (hd : (x == ("__debug__" : Str)) = false := by decide) : PE X (.Name x p) (tC (.str z)) := by
  obtain ⟨t, e⟩ := hm
  exact pe_glob hg e ⟨t, rfl⟩ hd
theorem pe_kI {X : Cx} {x : Str} {z : Int} {p : Pos} (hg : Gl X x) (hm : ∃ t, X.mg x = some (.int z t)) (hd : (x == ("__debug__" : Str)) = false := by decide) : PE X (.Name x p) (tC (.int z)) := by
  obtain ⟨t, e⟩ := hm
  exact pe_glob hg e ⟨t, rfl⟩ hd
theorem rd_gTup {v : Addr} {gs : TGs} {QG : L2.St → Hp → Prop} (c : SqT K H v xs) (e : xs.length = n) (h : gs xs σ H QG) : gTup K n gs (.ref v) σ H QG := ⟨v, xs, rfl, c, e, h⟩
theorem rd_gCons {v : V} {r : List V} {gs : TGs} {QG : L2.St → Hp → Prop} (h : g v σ H fun σ' H' => gs r σ' H' QG) : gCons g gs (v :: r) σ H QG := ⟨v, r, rfl, h⟩
theorem rd_gNil {QG : L2.St → Hp → Prop} (h : QG σ H) : gNil [] σ H QG := ⟨rfl, h⟩
theorem rd_tix {tb : TE} (h : ta σ H fun x H1 => ∃ (p : Addr) (ys : List Str), x = .ref p ∧ Tk H1 p (ys.map V.str) ∧ tb σ H1 fun y H2 => ∃ (z : Str) (j : Nat), y = .str z ∧ Tk H2 p (ys.map V.str) ∧
  ys[j]? = some z ∧ (∀ m, m < j → ys[m]? ≠ some z) ∧ Q (.int (j : Nat)) H2) : zTIx ta tb σ H Q := h
end
/-! ### beginnings -/
theorem starts_tl (x y : Str) : Txt.startswith x y = ((tl x).take y.length == tl y) := by
  unfold Txt.startswith
  rw [StrLaws.subAt_eq, List.drop_zero]
  by_cases h : ((tl x).take y.length == tl y) = true
  · have e : (tl x).take y.length = tl y := eq_of_beq h
    have l := congrArg List.length e
    rw [List.length_take, ← len_tl, ← len_tl] at l
    rw [h, Bool.and_true]
    exact decide_eq_true (by omega)
  · rw [Bool.not_eq_true] at h
    rw [h, Bool.and_false]
theorem tl_cutTo (x : Str) (k : Nat) : tl (cutS x none (some (k : Int))) = (tl x).take k := by
  unfold cutS
  rw [tl_mk, HT.sIx_nat, HT.sIx_none, Nat.sub_zero, List.drop_zero]
  have e : x.length = (tl x).length := len_tl x
  rw [e]
  by_cases h : k ≤ (tl x).length
  · rw [Nat.min_eq_left h]
  · rw [Nat.min_eq_right (by omega), List.take_of_length_le (Nat.le_refl _), List.take_of_length_le (by omega)]
theorem tl_cutFrom (x : Str) (k : Nat) : tl (cutS x (some (k : Int)) none) = (tl x).drop k := by
  unfold cutS
  rw [tl_mk, HT.sIx_nat, HT.sIx_none]
  have e : x.length = (tl x).length := len_tl x
  rw [e]
  by_cases h : k ≤ (tl x).length
  · rw [Nat.min_eq_left h]
    exact List.take_of_length_le (by rw [List.length_drop]; exact Nat.le_refl _)
  · rw [Nat.min_eq_right (by omega), Nat.sub_self, List.take_zero]
    exact (List.drop_of_length_le (by omega)).symm
theorem len_at : (Str.ofString "@").length = 1 := by rw [len_of]; rfl
theorem len_tr : (Str.ofString "Received: by ").length = 13 := by rw [len_of]; rfl
theorem len_rec : (Str.ofString "Recipient: ").length = 11 := by rw [len_of]; rfl
theorem len_rea : (Str.ofString "Reason: ").length = 8 := by rw [len_of]; rfl
theorem len_lt : (Str.ofString "<").length = 1 := by rw [len_of]; rfl
theorem len_gt : (Str.ofString ">").length = 1 := by rw [len_of]; rfl
theorem len_mk (l : List Nat) : (⟨l.toArray⟩ : Str).length = l.length := by rw [len_tl]
theorem len_1 (c : Nat) : (⟨#[c]⟩ : Str).length = 1 := rfl
theorem take_none {ls : List Str} {z : Str} (h : z ∉ ls) : ls.takeWhile (fun x => !decide (x = z)) = ls := by
  induction ls with
  | nil => rfl
  | cons x xs ih =>
    have hx : ¬ x = z := fun e => h (e ▸ List.mem_cons_self)
    rw [List.takeWhile_cons, decide_eq_false hx, Bool.not_false, if_pos rfl, ih fun m => h (List.mem_cons_of_mem _ m)]
theorem take_at {z : Str} : ∀ {ls : List Str}, z ∈ ls → ∃ j, j < ls.length ∧ ls[j]? = some z ∧ (∀ m, m < j → ls[m]? ≠ some z) ∧ ls.takeWhile (fun x => !decide (x = z)) = ls.take j
  | [], h => nomatch h
  | x :: xs, h => by
    by_cases e : x = z
    · refine ⟨0, Nat.succ_pos _, by rw [e]; rfl, fun m hm => absurd hm (Nat.not_lt_zero m), ?_⟩
      rw [List.takeWhile_cons, decide_eq_true e, Bool.not_true, if_neg Bool.false_ne_true, List.take_zero]
    · obtain ⟨j, h1, h2, h3, h4⟩ := take_at (ls := xs) (by
        rcases List.mem_cons.mp h with q | q
        · exact absurd q.symm e
        · exact q)
      refine ⟨j + 1, Nat.succ_lt_succ h1, h2, fun m hm => ?_, ?_⟩
      · cases m with
        | zero => exact fun q => e (Option.some.inj q)
        | succ m => exact h3 m (Nat.lt_of_succ_lt_succ hm)
      · rw [List.takeWhile_cons, decide_eq_false e, Bool.not_false, if_pos rfl, h4, List.take_succ_cons]
theorem rd_slTto {K : PySem.W.Frag} {p : Addr} {xs : List V} {k : Nat} {H : Hp} {Q : VK} (c : SqT K H p xs) (hk : k < xs.length) (h : ∀ q, H q = none → Q (.ref q) (upd H q (.tup (xs.take k)))) : rSlT K (.ref p) none (some (k : Int)) H Q := by
  refine ⟨p, xs, rfl, c, fun z => ?_, fun q n => ?_⟩
  · have z2 := z.2
    rw [HT.sIx_nat] at z2
    omega
  · have e : cutV xs none (some (k : Int)) = xs.take k := by
      unfold cutV
      rw [HT.sIx_nat, HT.sIx_none, Nat.sub_zero, List.drop_zero, Nat.min_eq_left (by omega)]
    rw [e]
    exact h q n
theorem same_tup {K : PySem.W.Frag} {H H' : Hp} {a : Addr} {xs : List V} (e : Same H H') (h : SqT K H a xs) : SqT K H' a xs := by
  rcases h with (h | ⟨o, h⟩) | h
  · exact .inl (.inl (e _ _ h))
  · exact .inl (.inr ⟨o, e _ _ h⟩)
  · exact .inr h
theorem rd_iNT {A B : Prop} (h : B) : if (!true) = true then A else B := iteF h
theorem rd_iNF {A B : Prop} (h : A) : if (!false) = true then A else B := iteT h
theorem k_str {mg : Str → Option Value} {x y z : Str} {t : Tok} (a : mg x = some (.str z t)) (e : z = y) : ∃ t, mg x = some (.str y t) := ⟨t, by rw [a, e]⟩
theorem k_int {mg : Str → Option Value} {x : Str} {y z : Int} {t : Tok} (a : mg x = some (.int z t)) (e : z = y) : ∃ t, mg x = some (.int y t) := ⟨t, by rw [a, e]⟩
/-! ### str.maketrans and translate -/
theorem va_app (k' k : Int) (v : Value) : ∀ kvs : List (Int × Value), (∀ kv ∈ kvs, kv.1 ≠ k) → valueAt (kvs ++ [(k, v)]) k' = if k' = k then some v else valueAt kvs k'
  | [], _ => by
    by_cases e : k' = k
    · simp [valueAt, e]
    · have e' : ¬ k = k' := fun q => e q.symm
      simp [valueAt, e, e']
  | kv :: r, h => by
    have ih := va_app k' k v r fun x hx => h x (List.mem_cons_of_mem _ hx)
    unfold valueAt at ih ⊢
    rw [List.cons_append, List.find?_cons, List.find?_cons]
    by_cases e : kv.1 = k'
    · have ne : ¬ k' = k := fun q => h kv List.mem_cons_self (e.trans q)
      rw [decide_eq_true e, if_neg ne]
    · rw [decide_eq_false e]
      exact ih
def Tab (ps : List (Nat × Nat)) (kvs : List (Int × Value)) : Prop := ∀ c : Nat, match ps.lookup c with
  | some d => ∃ t, valueAt kvs (c : Int) = some (.int (d : Int) t)
  | none => valueAt kvs (c : Int) = none
section
variable {prog : Program} {w : World} {A : Around} {E : Value → Shared → Prop} {s : Shared}
theorem mt_run {a b : Str} {t u : Tok} {Q : Value → Shared → Prop} (hl : a.length = b.length) (hz : a.length ≤ 1000) (nd : ((tl a).zip (tl b)).Pairwise fun p q => p.1 ≠ q.1)
    (h : ∀ h' k kvs, h'.DictOf (intKind prog w) s.heap.objs.size kvs → Tab ((tl a).zip (tl b)).reverse kvs → (∀ b o, s.heap.get? b = some o → h'.get? b = some o) → Q (.ref s.heap.objs.size) { s with heap := h', toks := k }) :
    wpAny (model prog w) A (Builtin.«str.maketrans» ⟨[.str a t, .str b u], []⟩) (fun fin s' => ∃ v, fin = .done (.ret v) ∧ Q v s') E s := by
  unfold Builtin.«str.maketrans»
  refine wpAny_bind (wpAny_of_eq (a := ()) (by first | rfl | kernel_rfl) ?_)
  refine wpAny_bind (wpAny_of_eq (a := ()) (by first | rfl | kernel_rfl) ?_)
  refine wpAny_bind (wpAny_of_eq (a := some b) (by first | rfl | kernel_rfl) ?_)
  refine wpAny_bind (wpAny_of_eq (a := none) (by first | rfl | kernel_rfl) ?_)
  refine wpAny_bind (wpAny_newObj_type ?_)
  dsimp only
  refine wpAny_bind (wpAny_holding ?_)
  refine wpAny_bind (wpAny_of_eq (a := some a) rfl ?_)
  dsimp only
  rw [show (a.length != b.length) = false by rw [hl]; simp, if_neg Bool.false_ne_true]
  refine wpAny_bind (wpAny_forIn_list _ (fun rest _ s' => ∃ past h' k kvs, (tl a).zip (tl b) = past ++ rest ∧ kvs.length ≤ past.length ∧ (∀ kv ∈ kvs, ∃ p ∈ past, kv.1 = (p.1 : Int)) ∧ h'.DictOf (intKind prog w) s.heap.objs.size kvs ∧ Tab past.reverse kvs ∧
    (∀ b o, s.heap.get? b = some o → h'.get? b = some o) ∧ s' = { s with heap := h', toks := k }) _ ?turn ?fin _ _ ?start)
  case start =>
    refine ⟨[], s.heap.push { cls := .type "dict", data := .dict #[] }, s.toks, [], rfl, Nat.zero_le _, fun _ hk => (nomatch hk), ?_, fun c => rfl, fun b o e => Heap.get?_push_of_some _ e, rfl⟩
    exact Heap.DictOf.new (knd := intKind prog w) s.heap
  case turn =>
    rintro ⟨x, y⟩ rest _ s' ⟨past, h', k, kvs, e1, e2, e3, e4, e5, e6, rfl⟩
    dsimp only
    refine wpAny_bind (wpAny_mkInt (wpAny_bind (wpAny_mkInt (wpAny_bind (wpAny_dictSet_pairs (knd := intKind prog w) (k := (x : Int)) (intKind_is prog w _ _) e4 (fun h2 hd hsb => wpAny_pure ?_) ?_)))))
    · have no : ∀ kv ∈ kvs, kv.1 ≠ (x : Int) := fun kv hkv e => by
        obtain ⟨p, hp, e'⟩ := e3 kv hkv
        rw [e1] at nd
        have := (List.pairwise_append.mp nd).2.2 p hp (x, y) List.mem_cons_self
        exact this (by
          have e2 : p.1 = x := by omega
          exact e2)
      have est : stored kvs (x : Int) (.int (y : Int) (k + 1)) = kvs ++ [((x : Int), .int (y : Int) (k + 1))] := by
        unfold stored
        rw [if_neg]
        intro hh
        obtain ⟨kv, hkv, e⟩ := List.any_eq_true.mp hh
        exact no kv hkv (of_decide_eq_true e)
      rw [est] at hd
      refine ⟨past ++ [(x, y)], h2, _, _, by rw [e1, List.append_assoc]; rfl, by rw [List.length_append, List.length_append]; exact Nat.succ_le_succ e2, fun kv hkv => ?_, hd, fun c => ?_, fun b o e => ?_, rfl⟩
      · rcases List.mem_append.mp hkv with q | q
        · obtain ⟨p, hp, e'⟩ := e3 kv q
          exact ⟨p, List.mem_append_left _ hp, e'⟩
        · exact ⟨(x, y), List.mem_append_right _ List.mem_cons_self, by rw [List.mem_singleton.mp q]⟩
      · rw [List.reverse_append]
        have t5 := e5 c
        show match List.lookup c ((x, y) :: past.reverse) with | some d => _ | none => _
        rw [List.lookup_cons, va_app _ _ _ _ no]
        by_cases e : c = x
        · rw [e, beq_self_eq_true, if_pos rfl]
          exact ⟨_, rfl⟩
        · have ec : (c == x) = false := beq_eq_false_iff_ne.mpr e
          rw [ec, if_neg (show ¬ (c : Int) = (x : Int) by omega)]
          exact t5
      · have nb : b ≠ s.heap.objs.size := fun q => by
          rw [q, Heap.get?_none_of_le (Nat.le_refl _)] at e
          cases e
        exact (hsb.2 b nb).trans (e6 b o e)
    · have hlen := congrArg List.length e1
      rw [List.length_zip, List.length_append, ← len_tl, ← len_tl] at hlen
      exact line_of (by omega)
  case fin =>
    rintro _ s' ⟨past, h', k, kvs, e1, e2, e3, e4, e5, e6, rfl⟩
    rw [List.append_nil] at e1
    refine wpAny_bind ?_
    refine wpAny_of_eq (a := PUnit.unit) (by first | rfl | kernel_rfl) ?_
    refine wpAny_pure ?_
    refine wpAny_pure ⟨_, rfl, ?_⟩
    rw [← e1] at e5
    exact h h' k kvs e4 e5 e6
theorem mt_entry : entryFor table "str.maketrans" = some Builtin.«str.maketrans» := entryFor_of_tree (by kernel_rfl)
theorem mt_plain : plainId "str.maketrans" = true := by decide +kernel
theorem mt_check {x y : Value} : checkBuiltinCall "str.maketrans" ⟨[x, y], []⟩ = pure () := by first | kernel_rfl | rfl
theorem call_mt {a b : Str} {t u : Tok} {Q : Value → Shared → Prop} (hl : a.length = b.length) (hz : a.length ≤ 1000) (nd : ((tl a).zip (tl b)).Pairwise fun p q => p.1 ≠ q.1)
    (h : ∀ h' k kvs, h'.DictOf (intKind prog w) s.heap.objs.size kvs → Tab ((tl a).zip (tl b)).reverse kvs → (∀ b o, s.heap.get? b = some o → h'.get? b = some o) → Q (.ref s.heap.objs.size) { s with heap := h', toks := k }) :
    wpAny (model prog w) A (call (.builtin "str.maketrans") [.str a t, .str b u]) Q E s := by
  refine wpAny_call (codeAny_call_builtin mt_plain mt_entry (wpAny_of_eq mt_check ?_))
  refine wpAny_mono (mt_run hl hz nd h) (fun fin s' hf => ?_) fun _ _ x => x
  obtain ⟨v, rfl, q⟩ := hf
  exact q
theorem cls_mt (K : PySem.W.Frag) : PySem.W.findCls K (.type "str") (.type "type") (Str.ofString "maketrans") = some (.val (.builtin "str.maketrans")) := by first | kernel_rfl | rfl
theorem get_mt {K : PySem.W.Frag} {pl : Sem Bool} {Q : Value × List Value → Shared → Prop} (X : K.In s.heap) (h : Q (.builtin "str.maketrans", []) { s with toks := s.toks + 1 }) :
    wpAny (model prog w) A (getMethod (.type "str") (Str.ofString "maketrans") pl) Q E s := by
  have h0 : opaqueClassAbove (.type "str") = pure none := by
    unfold opaqueClassAbove
    dsimp only
    rw [show Manifest.isStub "str" = false by decide +kernel]
    all_goals rfl
  have h1 : typeOf (.type "str") = pure (.type "type") := by first | rfl | kernel_rfl
  have hg : PySem.W.findIn K (.type "type") "__getattribute__" = some (some (.builtin "type.__getattribute__")) := PySem.W.type_tga
  unfold getMethod specialOf
  refine wpAny_bind (wpAny_bind ((PySem.W.Looks.of_pure h1).here ((PySem.W.looks_findIn X hg).here ?_)))
  dsimp only
  rw [if_pos PySem.W.canon_tga]
  refine wpAny_bind (wpAny_mono (Q := fun v => Q (v, [])) (E := E) ?_ (fun _ _ z => wpAny_pure z) fun _ _ z => z)
  refine PySem.W.cls_open X (PySem.W.Looks.of_pure h0) (PySem.W.Looks.of_pure h1) hg (PySem.W.looks_hook X (r := none) (by rfl)) (by show PySem.W.subIn K _ _ = _; rfl) (cls_mt K) ?_
  exact wpAny_pure (wpAny_pure h)
def mapd (ps : List (Nat × Nat)) (c : Nat) : Builtin.Str.Mapped := match ps.lookup c with
  | some e => .char e
  | none => .keep
def tr1 (ps : List (Nat × Nat)) (c : Nat) : Nat := (ps.lookup c).getD c
theorem look_one {d : Addr} {c : Nat} {ps : List (Nat × Nat)} {kvs : List (Int × Value)} {Q : Builtin.Str.Mapped → Shared → Prop} (hh : A.handled = none) (hd : (d == sysModules) = false) (hm : s.heap.DictOf (intKind prog w) d kvs) (hk : Tab ps kvs) (hb : ∀ e, ps.lookup c = some e → e < 128)
    (h : ∀ h' k, (∀ b o, s.heap.get? b = some o → h'.get? b = some o) → Q (mapd ps c) { s with heap := h', toks := k }) : wpAny (model prog w) A (Builtin.Str.tableLookup (.ref d) c) Q E s := by
  unfold Builtin.Str.tableLookup
  refine wpAny_bind (wpAny_attempt (wpAny_bind (wpAny_mkInt ?_)))
  have hc := hk c
  unfold mapd at h
  cases el : ps.lookup c with
  | some e =>
    rw [el] at hc h
    obtain ⟨t, hv⟩ := hc
    have he := hb e el
    refine wpAny_getItem_of (knd := intKind prog w) (k := (c : Int)) (intKind_is prog w _ _) hm.mapOf hv ?_
    dsimp only
    refine wpAny_bind (wpAny_of_eq (a := some (e : Int)) rfl ?_)
    dsimp only
    rw [if_neg (by
      rw [Bool.or_eq_true, decide_eq_true_iff, decide_eq_true_iff]
      omega)]
    exact wpAny_pure (h s.heap _ fun _ _ q => q)
  | none =>
    rw [el] at hc h
    refine wpAny_getItem_missing_of (knd := intKind prog w) (k := (c : Int)) (intKind_is prog w _ _) hd hh hm.mapOf hc fun h' e hx => ?_
    obtain ⟨ob, t, ho, hcl, _⟩ := hx.there
    dsimp only
    refine wpAny_bind (wpAny_isInstance (T := "KeyError") (b := true) ⟨ob, ho, hcl⟩ (by first | rfl | kernel_rfl) ?_)
    rw [if_pos rfl]
    exact wpAny_bind (wpAny_rule (wpAny_pure (h h' _ hx.keeps)))
end
theorem glue (f : Nat → Nat) : ∀ (l : List Nat) (acc : Array Nat), List.foldl (fun acc (p : Str) => acc ++ p.cps) acc (l.map fun c => (⟨#[f c]⟩ : Str)) = acc ++ (l.map f).toArray
  | [], acc => (Array.append_empty).symm
  | c :: l, acc => by
    rw [List.map_cons, List.foldl_cons, glue f l]
    apply Array.toList_inj.mp
    simp
def TrI (ps : List (Nat × Nat)) (x : List Nat) (f0 : Bool) (s : Shared) (rest : List Nat) (st : List Str × Nat × Bool × List (Nat × Option Nat) × Bool) (s' : Shared) : Prop :=
  ∃ (past : List Nat) (out : List Str) (kn : List (Nat × Option Nat)) (h' : Heap) (k : Nat), x = past ++ rest ∧ st = (out, past.length, f0, kn, false) ∧ out.reverse = past.map (fun c => (⟨#[tr1 ps c]⟩ : Str)) ∧
    (∀ c v, List.lookup c kn = some v → v = some (tr1 ps c)) ∧ s' = { s with heap := h', toks := k } ∧ ∀ b o, s.heap.get? b = some o → h'.get? b = some o
theorem TrI.go {ps : List (Nat × Nat)} {x rest past : List Nat} {f0 : Bool} {s : Shared} {c e : Nat} {out : List Str} {kn : List (Nat × Option Nat)} {h' : Heap} {k : Nat} (h1 : x = past ++ c :: rest) (he : e = tr1 ps c)
    (h3 : out.reverse = past.map (fun c => (⟨#[tr1 ps c]⟩ : Str))) (h4 : ∀ c v, List.lookup c kn = some v → v = some (tr1 ps c)) (h6 : ∀ b o, s.heap.get? b = some o → h'.get? b = some o) :
    TrI ps x f0 s rest (⟨#[e]⟩ :: out, past.length + 1, f0, kn, false) { s with heap := h', toks := k } := by
  refine ⟨past ++ [c], ⟨#[e]⟩ :: out, kn, h', k, by rw [h1, List.append_assoc]; rfl, by rw [List.length_append]; rfl, ?_, h4, rfl, h6⟩
  rw [List.reverse_cons, h3, List.map_append, he]
  rfl
theorem tr_run {prog : Program} {w : World} {A : Around} {E : Value → Shared → Prop} {s : Shared} {z : Str} {t : Tok} {d : Addr} {ps : List (Nat × Nat)} {kvs : List (Int × Value)} {Q : Value → Shared → Prop} (hh : A.handled = none) (hd : (d == sysModules) = false) (hz : z.length ≤ 100000)
    (hm : s.heap.DictOf (intKind prog w) d kvs) (hk : Tab ps kvs) (hb : ∀ c e, ps.lookup c = some e → e < 128)
    (h : ∀ h' k t', (∀ b o, s.heap.get? b = some o → h'.get? b = some o) → Q (.str ⟨((tl z).map (tr1 ps)).toArray⟩ t') { s with heap := h', toks := k }) :
    wpAny (model prog w) A (Builtin.«str.translate» ⟨[.str z t, .ref d], []⟩) (fun fin s' => ∃ v, fin = .done (.ret v) ∧ Q v s') E s := by
  unfold Builtin.«str.translate»
  refine wpAny_bind (wpAny_of_eq (a := (.str z t, z, .ref d)) (by first | rfl | kernel_rfl) ?_)
  dsimp only
  by_cases h0 : (z.length == 0) = true
  · rw [if_pos h0]
    have ez : tl z = [] := List.eq_nil_of_length_eq_zero (by rw [← len_tl]; exact eq_of_beq h0)
    have ez2 : z = ⟨((tl z).map (tr1 ps)).toArray⟩ := ext_tl (by
      show tl z = (tl z).map (tr1 ps)
      rw [ez]
      rfl)
    refine wpAny_bind (wpAny_rule ?_)
    refine wpAny_bind (wpAny_of_eq (a := .str z t) (by first | rfl | kernel_rfl) ?_)
    refine wpAny_pure ⟨_, rfl, ?_⟩
    have q := h s.heap s.toks t fun _ _ q => q
    rw [← ez2] at q
    exact q
  · rw [if_neg h0]
    generalize (z.cps.all fun y => decide (y < 128)) = f0
    refine wpAny_bind (MeetsSeq2.wpAny_forIn_array _ (TrI ps (tl z) f0 s) _ (fun c rest st s' hI => ?turn) (fun st s' hI => ?fin) z.cps ([], 0, f0, [], false) ?start)
    case start => exact ⟨[], [], [], s.heap, s.toks, rfl, rfl, rfl, fun c v q => (nomatch q), rfl, fun _ _ q => q⟩
    case turn =>
      obtain ⟨past, out, kn, h', k, e1, rfl, e3, e4, rfl, e6⟩ := hI
      have hp : past.length ≤ 100000 := by
        have q := congrArg List.length e1
        rw [List.length_append, ← len_tl] at q
        omega
      have hm' : Heap.DictOf (intKind prog w) h' d kvs := hm.keep e6
      dsimp only
      rw [show Builtin.Str.tooLong past.length = false from PyProof.Rows.short24 (by omega), if_neg Bool.false_ne_true]
      have lk : ∀ (kk : Nat) (R : Builtin.Str.Mapped → Shared → Prop), (∀ h2 k2, (∀ b o, s.heap.get? b = some o → h2.get? b = some o) → R (mapd ps c) { s with heap := h2, toks := k2 }) →
          wpAny (model prog w) A (Builtin.Str.tableLookup (.ref d) c) R E { s with heap := h', toks := k } := fun kk R hR =>
        look_one hh hd hm' hk (hb c) fun h2 k2 q => hR h2 k2 fun b o e => q b o (e6 b o e)
      have new : ∀ v, v = some (tr1 ps c) → ∀ c' v', List.lookup c' ((c, v) :: kn) = some v' → v' = some (tr1 ps c') := fun v hv c' v' q => by
        rw [List.lookup_cons] at q
        by_cases e : c' = c
        · rw [e, beq_self_eq_true] at q
          rw [← Option.some.inj q, hv, e]
        · rw [beq_eq_false_iff_ne.mpr e] at q
          exact e4 c' v' q
      cases f0 with
      | true =>
        rw [if_pos rfl]
        cases hl : List.lookup c kn with
        | some v =>
          have hv := e4 c v hl
          subst hv
          dsimp only
          refine wpAny_bind (wpAny_pure ?_)
          exact wpAny_pure (TrI.go e1 rfl e3 e4 e6)
        | none =>
          dsimp only
          cases el : ps.lookup c with
          | some e =>
            have et : e = tr1 ps c := by unfold tr1; rw [el]; rfl
            have eb := hb c e el
            refine wpAny_bind (lk k _ fun h2 k2 q => ?_)
            rw [show mapd ps c = .char e by unfold mapd; rw [el]]
            dsimp only
            rw [if_pos eb]
            dsimp only
            refine wpAny_bind (wpAny_pure ?_)
            exact wpAny_pure (TrI.go e1 et e3 (new _ (by rw [et])) q)
          | none =>
            have et : c = tr1 ps c := by unfold tr1; rw [el]; rfl
            refine wpAny_bind (lk k _ fun h2 k2 q => ?_)
            rw [show mapd ps c = .keep by unfold mapd; rw [el]]
            dsimp only
            refine wpAny_bind (wpAny_pure ?_)
            exact wpAny_pure (TrI.go e1 et e3 (new _ (by rw [← et])) q)
      | false =>
        rw [if_neg Bool.false_ne_true, if_neg Bool.false_ne_true]
        cases el : ps.lookup c with
        | some e =>
          have et : e = tr1 ps c := by unfold tr1; rw [el]; rfl
          refine wpAny_bind (lk k _ fun h2 k2 q => ?_)
          rw [show mapd ps c = .char e by unfold mapd; rw [el]]
          exact wpAny_pure (TrI.go e1 et e3 e4 q)
        | none =>
          have et : c = tr1 ps c := by unfold tr1; rw [el]; rfl
          refine wpAny_bind (lk k _ fun h2 k2 q => ?_)
          rw [show mapd ps c = .keep by unfold mapd; rw [el]]
          exact wpAny_pure (TrI.go e1 et e3 e4 q)
    case fin =>
      obtain ⟨past, out, kn, h', k, e1, rfl, e3, e4, rfl, e6⟩ := hI
      rw [List.append_nil] at e1
      have hp : past.length ≤ 100000 := by
        have q := congrArg List.length e1
        rw [← len_tl] at q
        omega
      dsimp only
      rw [show Builtin.Str.tooLong past.length = false from PyProof.Rows.short24 (by omega), if_neg Bool.false_ne_true, e3, glue (tr1 ps), Array.empty_append, ← e1]
      refine wpAny_bind (wpAny_mkStr (wpAny_pure ⟨_, rfl, h _ _ _ e6⟩) ?_)
      rw [len_tl, tl_mk, List.length_map, ← len_tl]
      exact line_of (by omega)
def TabO (prog : Program) (w : World) (ps : List (Nat × Nat)) (p : Addr) : HO := .ext fun h => (p == sysModules) = false ∧ ∃ kvs, h.DictOf (intKind prog w) p kvs ∧ Tab ps kvs
section
variable {X : Cx}
def zMk (P : Program) (w : World) (ps : List (Nat × Nat)) : TE := fun _ H Q => ∀ p, H p = none → Q (.ref p) (upd H p (TabO P w ps p))
theorem y_mk {a b : Str} {p apos pos p1 p2 : Pos} {j1 j2} {pl : Sem Bool} (hg : Gl X "str") (hm : X.mg "str" = none) (hl : a.length = b.length) (hz : a.length ≤ 1000) (nd : ((tl a).zip (tl b)).Pairwise fun p q => p.1 ≠ q.1)
    (he : eval (.Call (.Attribute (.Name "str" p) "maketrans" apos) [.Constant (.str a) j1 p1, .Constant (.str b) j2 p2] [] pos) X.env = (do
      let ov ← eval (.Name "str" p) X.env
      standAt apos.atName
      let (f, first) ← holding [ov] (getMethod ov "maketrans" pl)
      callWith pos f first (backTo pos (starEach [.Constant (.str a) j1 p1, .Constant (.str b) j2 p2] X.env)) (backToKw pos (keywordEach [] X.env))) := by rfl)
    (hpl : (backTo pos (starEach [.Constant (.str a) j1 p1, .Constant (.str b) j2 p2] X.env)).any (·.1) = false := by rfl) :
    PE X (.Call (.Attribute (.Name "str" p) "maketrans" apos) [.Constant (.str a) j1 p1, .Constant (.str b) j2 p2] [] pos) (zMk X.prog X.w ((tl a).zip (tl b)).reverse) := by
  refine ⟨fun pins s σ H Q I h => ?_⟩
  refine PySem.W.methodCall_KW (ld_blt I hg hm PyProof.Rows.boot_str ?_ (by decide) (by decide)) he
  refine get_mt I.kIn ?_
  have I1 : Inv X pins σ H { s with toks := s.toks + 1 } := I.tok _
  have ha : PA X [.Constant (.str a) j1 p1, .Constant (.str b) j2 p2] (tCons (tC (.str a)) (tCons (tC (.str b)) tNil)) := pa_cons pe_str (pa_cons pe_str pa_nil)
  refine Calls.callWith_builtin hpl (Calls.evalArgs_plain ?_)
  refine thn (ha.run pos pins _ σ H (fun vs H' => vs = [.str a, .str b] ∧ H' = H) I1 ⟨rfl, rfl⟩) fun us s2 ⟨vs, H2, I2, rv, ev, eh⟩ => ?_
  subst ev eh
  obtain ⟨u1, u2, rfl, ⟨t1, rfl⟩, ⟨t2, rfl⟩⟩ := rv.two
  refine call_mt hl hz nd fun h' k kvs hd ht kp => ?_
  have hsys : (s2.heap.objs.size == sysModules) = false := beq_eq_false_iff_ne.mpr (Ne.symm (Nat.ne_of_lt I2.big))
  refine ⟨.ref s2.heap.objs.size, _, I2.laid (t' := k) (o := TabO X.prog X.w ((tl a).zip (tl b)).reverse s2.heap.objs.size) kp (Nat.le_refl _) ?_, rfl, h _ I2.fresh⟩
  refine ⟨⟨hsys, kvs, hd, ht⟩, ?_, fun h1 h2 f1 kk => ?_⟩
  · obtain ⟨o, es, ep, ho, _⟩ := hd
    exact ⟨o, ho⟩
  · obtain ⟨g1, kvs', ⟨o, es, ep, ho, r⟩, g3⟩ := f1
    exact ⟨g1, kvs', ⟨o, es, ep, kk _ ho, r⟩, g3⟩
def zTr (P : Program) (w : World) : V → List V → Hp → VK → Prop := fun x xs H Q => ∃ (z : Str) (d : Addr) (ps : List (Nat × Nat)), x = .str z ∧ xs = [V.ref d] ∧ H d = some (TabO P w ps d) ∧ z.length ≤ 100000 ∧ (∀ c e, ps.lookup c = some e → e < 128) ∧ Q (.str ⟨((tl z).map (tr1 ps)).toArray⟩) H
theorem y_trans (hc : X.calm = true) : MtR X "str.translate" (zTr X.prog X.w) := by
  intro pins s σ H x xs v us Q I rx rs h
  obtain ⟨z, d, ps, rfl, rfl, ht, hz, hb, q⟩ := h
  obtain ⟨t, rfl⟩ := rx
  obtain ⟨u, rfl, ru⟩ := Vals.one rs
  cases ru
  obtain ⟨⟨hsys, kvs, hd, htab⟩, _⟩ := I.hok d _ ht
  refine wpAny_call_entry F.slot_str_translate (typeIs_str _ _ _) F.entry_str_translate ?_ (F.args_str_translate_2 _ _)
  refine tr_run (I.ok.hd hc) hsys hz hd htab hb fun h' k t' kp => ?_
  exact ⟨.str _, H, I.kept (t' := k) kp, ⟨t', rfl⟩, q⟩
end
/-! ### addresses on lists of signs -/
noncomputable def dc (P : Prop) : Bool := @decide P (Classical.propDecidable P)
theorem dc_iff {P : Prop} : dc P = true ↔ P := by
  unfold dc
  exact @decide_eq_true_iff P (Classical.propDecidable P)
theorem dc_of {P : Prop} {b : Bool} (h : b = true ↔ P) : b = dc P := Bool.eq_iff_iff.mpr (h.trans dc_iff.symm)
theorem dc_t {P : Prop} (h : P) : dc P = true := dc_iff.mpr h
theorem dc_f {P : Prop} (h : ¬ P) : dc P = false := by
  cases e : dc P with
  | false => rfl
  | true => exact absurd (dc_iff.mp e) h
abbrev locS : Str := Str.ofString "abcdefghijklmnopqrstuvwxyz0123456789.-_+"
abbrev labS : Str := Str.ofString "abcdefghijklmnopqrstuvwxyz0123456789-"
abbrev upS : Str := Str.ofString "ABCDEFGHIJKLMNOPQRSTUVWXYZ"
abbrev loS : Str := Str.ofString "abcdefghijklmnopqrstuvwxyz"
def DD (l : List Nat) : Prop := ∃ i : Nat, l[i]? = some 46 ∧ l[i + 1]? = some 46
def ConsOk (S : List Nat) (n : Nat) (l : List Nat) : Prop := 1 ≤ l.length ∧ l.length ≤ n ∧ ∀ c ∈ l, c ∈ S
def LabelOk (l : List Nat) : Prop := ConsOk (tl labS) 20 l ∧ l.head? ≠ some 45 ∧ l.getLast? ≠ some 45
def LocalOk (l : List Nat) : Prop := ConsOk (tl locS) 40 l ∧ l.head? ≠ some 46 ∧ l.getLast? ≠ some 46 ∧ ¬ DD l
def DomOk (l : List Nat) : Prop := l.length ≤ 80 ∧ ∀ p ∈ spl [46] 0 [] l, LabelOk p
theorem starts_one {x y : Str} {c : Nat} (hy : tl y = [c]) : Txt.startswith x y = decide ((tl x).head? = some c) := by
  rw [starts_tl, len_tl y, hy]
  cases tl x with
  | nil => rfl
  | cons a r =>
    by_cases e : a = c
    · simp [e]
    · simp [e]
theorem ends_one {x y : Str} {c : Nat} (hy : tl y = [c]) : Txt.endswith x y = decide ((tl x).getLast? = some c) := by
  unfold Txt.endswith
  rw [StrLaws.subAt_eq]
  show (decide (0 + y.length ≤ x.length) && (((tl x).drop (x.length - y.length)).take y.length == tl y)) = _
  rw [len_tl y, hy, len_tl x]
  show (decide (0 + 1 ≤ (tl x).length) && (((tl x).drop ((tl x).length - 1)).take 1 == [c])) = _
  rcases List.eq_nil_or_concat (tl x) with e | ⟨l, a, e⟩
  · rw [e]
    rfl
  · have e' : tl x = l ++ [a] := by rw [e]; simp
    rw [e', List.length_append, show l.length + [a].length - 1 = l.length from rfl, List.drop_left, List.getLast?_append]
    by_cases h : a = c
    · simp [h]
    · simp [h]
theorem dd_in {z y : Str} (hy : tl y = [46, 46]) : (!(Builtin.Str.occurrences z y 0 z.length 1).isEmpty) = true ↔ DD (tl z) := by
  rw [StrLaws.found_iff]
  have ly : y.length = 2 := by rw [len_tl, hy]; rfl
  constructor
  · rintro ⟨i, h1, h2⟩
    rw [StrLaws.subAt_eq, ly, beq_iff_eq] at h2
    have h3 : ((tl z).drop i).take 2 = [46, 46] := h2.trans hy
    rw [ly, len_tl] at h1
    refine ⟨i, ?_, ?_⟩
    · have q := congrArg (fun l => l[0]?) h3
      simp only [List.getElem?_take, List.getElem?_drop] at q
      simpa using q
    · have q := congrArg (fun l => l[1]?) h3
      simp only [List.getElem?_take, List.getElem?_drop] at q
      simpa using q
  · rintro ⟨i, h1, h2⟩
    obtain ⟨l1, g1⟩ := List.getElem?_eq_some_iff.mp h1
    obtain ⟨l2, g2⟩ := List.getElem?_eq_some_iff.mp h2
    refine ⟨i, by rw [ly, len_tl]; omega, ?_⟩
    rw [StrLaws.subAt_eq, ly, beq_iff_eq]
    show ((tl z).drop i).take 2 = tl y
    rw [hy, List.drop_eq_getElem_cons l1, List.drop_eq_getElem_cons l2, g1, g2]
    rfl
theorem rs_id {x y : Str} {l : List Nat} {c : Nat} (e : tl x = l ++ [c]) (h : y.cps.contains c = false) : Txt.rstripChars x y = x := by
  unfold Txt.rstripChars Txt.stripBy
  refine if_pos ?_
  unfold stripSame stripHi stripLo
  have e1 : ((x.cps.toList.drop 0).reverse.takeWhile y.cps.contains) = [] := by
    rw [List.drop_zero, show x.cps.toList = l ++ [c] from e, List.reverse_append]
    show List.takeWhile y.cps.contains (c :: l.reverse) = []
    rw [List.takeWhile_cons, h]
    rfl
  simp only [Bool.false_eq_true, if_false, if_true]
  rw [e1]
  simp
theorem cut_id {x : Str} {n : Nat} (h : x.length ≤ n) : cutS x none (some (n : Int)) = x := ext_tl (by
  rw [tl_cutTo]
  exact List.take_of_length_le (by rw [← len_tl]; exact h))
theorem tl_up : tl upS = (List.range 26).map (· + 65) := by rw [tl_ofString]; rfl
theorem tl_lo : tl loS = (List.range 26).map (· + 97) := by rw [tl_ofString]; rfl
def upL : List (Nat × Nat) := ((tl upS).zip (tl loS)).reverse
def upK : List (Nat × Nat) := (((List.range 26).map (· + 65)).zip ((List.range 26).map (· + 97))).reverse
theorem upL_eq : upL = upK := by unfold upL upK; rw [tl_up, tl_lo]
theorem up_len : upS.length = loS.length := by rw [len_tl, len_tl, tl_up, tl_lo]; rfl
theorem up_le : upS.length ≤ 1000 := by rw [len_tl, tl_up]; decide
theorem up_nd : ((tl upS).zip (tl loS)).Pairwise fun p q => p.1 ≠ q.1 := by rw [tl_up, tl_lo]; decide
theorem up_b : ∀ c e, upL.lookup c = some e → e < 128 := by
  rw [upL_eq]
  intro c e h
  have hm : ∀ p ∈ upK, p.2 < 128 := by decide
  have gen : ∀ l : List (Nat × Nat), (∀ p ∈ l, p.2 < 128) → l.lookup c = some e → e < 128 := by
    intro l
    induction l with
    | nil => intro _ h; cases h
    | cons p r ih =>
      intro hp h
      obtain ⟨a, b⟩ := p
      rw [List.lookup_cons] at h
      by_cases q : c = a
      · rw [q, beq_self_eq_true] at h
        cases h
        exact hp _ List.mem_cons_self
      · rw [beq_eq_false_iff_ne.mpr q] at h
        exact ih (fun p hp' => hp p (List.mem_cons_of_mem _ hp')) h
  exact gen upK hm h
def lowN (c : Nat) : Nat := if 65 ≤ c ∧ c ≤ 90 then c + 32 else c
theorem low_k : (List.range 128).all (fun c => tr1 upK c == lowN c) = true := by decide +kernel
theorem low_eq {c : Nat} (h : c < 128) : tr1 upL c = lowN c := by
  rw [upL_eq]
  exact eq_of_beq (List.all_eq_true.mp low_k c (List.mem_range.mpr h))
theorem upper_k : (List.range 128).all (fun c => (decide (65 ≤ c) && decide (c ≤ 90)) || (match (Txt.upper ⟨#[c]⟩).cps.toList with | [e] => decide (e < 128) && lowN e == c | _ => false)) = true := by decide +kernel
theorem upper_eq {c : Nat} (h : c < 128) (h2 : ¬ (65 ≤ c ∧ c ≤ 90)) : ∃ e, Txt.upper ⟨#[c]⟩ = ⟨#[e]⟩ ∧ e < 128 ∧ lowN e = c := by
  have q := List.all_eq_true.mp upper_k c (List.mem_range.mpr h)
  have h3 : (decide (65 ≤ c) && decide (c ≤ 90)) = false := by
    cases e : (decide (65 ≤ c) && decide (c ≤ 90)) with
    | false => rfl
    | true =>
      rw [Bool.and_eq_true, decide_eq_true_iff, decide_eq_true_iff] at e
      exact absurd e h2
  rw [h3, Bool.false_or] at q
  cases e : (Txt.upper ⟨#[c]⟩).cps.toList with
  | nil => rw [e] at q; cases q
  | cons a r =>
    cases r with
    | cons b r => rw [e] at q; cases q
    | nil =>
      rw [e] at q
      dsimp only at q
      rw [Bool.and_eq_true, decide_eq_true_iff, beq_iff_eq] at q
      exact ⟨a, ext_tl e, q.1, q.2⟩
theorem low_low {c : Nat} (h2 : ¬ (65 ≤ c ∧ c ≤ 90)) : lowN c = c := if_neg h2
abbrev enS : Str := Str.ofString "abcdefghijklmnopqrstuvwxyz0123456789-_+"
abbrev en2S : Str := Str.ofString "abcdefghijklmnopqrstuvwxyz0123456789"
theorem sub_k {a b : String} (h : a.toList.all (fun c => b.toList.contains c) = true) : ∀ c ∈ tl (Str.ofString a), c ∈ tl (Str.ofString b) := by
  intro c hc
  rw [tl_ofString] at hc ⊢
  obtain ⟨d, hd, rfl⟩ := List.mem_map.mp hc
  have q := List.all_eq_true.mp h d hd
  exact List.mem_map.mpr ⟨d, by simpa using q, rfl⟩
theorem nin_k {a : String} {n : Nat} (h : a.toList.all (fun c => decide (c.toNat ≠ n)) = true) : n ∉ tl (Str.ofString a) := by
  intro hc
  rw [tl_ofString] at hc
  obtain ⟨d, hd, e⟩ := List.mem_map.mp hc
  exact of_decide_eq_true (List.all_eq_true.mp h d hd) e
theorem en_loc : ∀ c ∈ tl enS, c ∈ tl locS := sub_k (by decide +kernel)
theorem en2_lab : ∀ c ∈ tl en2S, c ∈ tl labS := sub_k (by decide +kernel)
theorem dot_loc : 46 ∈ tl locS := by rw [tl_ofString]; decide +kernel
theorem dot_en : 46 ∉ tl enS := nin_k (by decide +kernel)
theorem dot_lab : 46 ∉ tl labS := nin_k (by decide +kernel)
theorem hy_en2 : 45 ∉ tl en2S := nin_k (by decide +kernel)
theorem at_loc : 64 ∉ tl locS := nin_k (by decide +kernel)
theorem at_lab : 64 ∉ tl labS := nin_k (by decide +kernel)
theorem asc_loc : Asc locS := asc_of (by decide +kernel)
theorem asc_lab : Asc labS := asc_of (by decide +kernel)
theorem noup_k {a : String} (h : a.toList.all (fun c => decide (¬ (65 ≤ c.toNat ∧ c.toNat ≤ 90))) = true) : ∀ c ∈ tl (Str.ofString a), ¬ (65 ≤ c ∧ c ≤ 90) := by
  intro c hc
  rw [tl_ofString] at hc
  obtain ⟨d, hd, rfl⟩ := List.mem_map.mp hc
  exact of_decide_eq_true (List.all_eq_true.mp h d hd)
theorem noup_loc : ∀ c ∈ tl locS, ¬ (65 ≤ c ∧ c ≤ 90) := noup_k (by decide +kernel)
theorem noup_lab : ∀ c ∈ tl labS, ¬ (65 ≤ c ∧ c ≤ 90) := noup_k (by decide +kernel)
/-- words with dots between -/
def Wd1 (p : List Nat) : Prop := p ≠ [] ∧ ∀ c ∈ p, c ∈ tl enS
def Gd (l : List Nat) : Prop := l ≠ [] ∧ l.head? ≠ some 46 ∧ l.getLast? ≠ some 46 ∧ ¬ DD l
theorem nodot {p : List Nat} (h : Wd1 p) {i : Nat} : p[i]? ≠ some 46 := fun e => dot_en (h.2 46 (List.mem_of_getElem? e))
theorem gd_one {p : List Nat} (h : Wd1 p) : Gd p := by
  refine ⟨h.1, fun e => ?_, fun e => ?_, fun ⟨i, e, _⟩ => nodot h e⟩
  · rw [List.head?_eq_getElem?] at e
    exact nodot h e
  · rw [List.getLast?_eq_getElem?] at e
    exact nodot h e
theorem gd_app {p q : List Nat} (h : Wd1 p) (g : Gd q) : Gd (p ++ 46 :: q) := by
  obtain ⟨g1, g2, g3, g4⟩ := g
  refine ⟨by simp, ?_, ?_, ?_⟩
  · cases p with
    | nil => exact absurd rfl h.1
    | cons a r =>
      intro e
      exact nodot h (i := 0) (by simpa using e)
  · rw [List.getLast?_append]
    cases q with
    | nil => exact absurd rfl g1
    | cons b r =>
      rw [List.getLast?_cons_cons]
      cases e : (b :: r).getLast? with
      | none => simp at e
      | some z =>
        rw [e] at g3
        simpa using g3
  · rintro ⟨i, e1, e2⟩
    by_cases h1 : i < p.length
    · rw [List.getElem?_append_left h1] at e1
      exact nodot h e1
    · rw [List.getElem?_append_right (by omega)] at e2
      rw [show i + 1 - p.length = (i - p.length) + 1 by omega, List.getElem?_cons_succ] at e2
      rw [List.getElem?_append_right (by omega)] at e1
      cases hk : i - p.length with
      | zero =>
        rw [hk] at e2
        rw [List.head?_eq_getElem?] at g2
        exact g2 e2
      | succ k =>
        rw [hk, List.getElem?_cons_succ] at e1
        rw [hk] at e2
        exact g4 ⟨k, e1, e2⟩
theorem gd_join : ∀ {ps : List (List Nat)}, ps ≠ [] → (∀ p ∈ ps, Wd1 p) → Gd (joinL [46] ps)
  | [], h, _ => absurd rfl h
  | [p], _, h => gd_one (h p (by simp))
  | p :: q :: r, _, h => gd_app (h p (by simp)) (gd_join (by simp) fun x hx => h x (List.mem_cons_of_mem _ hx))
def LocP (x : Str) : Prop := x.length ≤ 40 ∧ ∃ ps : List (List Nat), ps ≠ [] ∧ (∀ p ∈ ps, Wd1 p) ∧ tl x = joinL [46] ps
theorem LocP.ok {x : Str} (h : LocP x) : LocalOk (tl x) := by
  obtain ⟨hl, ps, hn, hp, e⟩ := h
  obtain ⟨g1, g2, g3, g4⟩ := gd_join hn hp
  rw [← e] at g1 g2 g3 g4
  refine ⟨⟨?_, by rw [← len_tl]; exact hl, fun c hc => ?_⟩, g2, g3, g4⟩
  · cases q : tl x with
    | nil => exact absurd q g1
    | cons _ _ => simp
  · rw [e] at hc
    rcases joinL_mem hc with q | ⟨p, hp', q⟩
    · rw [List.mem_singleton.mp q]
      exact dot_loc
    · exact en_loc c ((hp p hp').2 c q)
def LabP (p : List Nat) : Prop := ∃ c m c', p = c :: (m ++ [c']) ∧ c ∈ tl en2S ∧ c' ∈ tl en2S ∧ m.length ≤ 3 ∧ ∀ d ∈ m, d ∈ tl labS
theorem LabP.in {p : List Nat} (h : LabP p) : ∀ d ∈ p, d ∈ tl labS := by
  obtain ⟨c, m, c', rfl, hc, hc', hm, hd⟩ := h
  intro d q
  rcases List.mem_cons.mp q with rfl | q
  · exact en2_lab _ hc
  · rcases List.mem_append.mp q with q | q
    · exact hd d q
    · rw [List.mem_singleton.mp q]
      exact en2_lab _ hc'
theorem LabP.len {p : List Nat} (h : LabP p) : 2 ≤ p.length ∧ p.length ≤ 5 := by
  obtain ⟨c, m, c', rfl, hc, hc', hm, hd⟩ := h
  simp only [List.length_cons, List.length_append, List.length_nil]
  omega
theorem LabP.ok {p : List Nat} (h : LabP p) : LabelOk p := by
  have h1 := h.in
  have h2 := h.len
  obtain ⟨c, m, c', rfl, hc, hc', hm, hd⟩ := h
  refine ⟨⟨by omega, by omega, h1⟩, fun e => ?_, fun e => ?_⟩
  · exact hy_en2 (by rw [← Option.some.inj e]; exact hc)
  · rw [show c :: (m ++ [c']) = (c :: m) ++ [c'] from rfl, List.getLast?_append] at e
    have e2 : some c' = some 45 := by simpa using e
    exact hy_en2 (by rw [← Option.some.inj e2]; exact hc')
def DomP (x : Str) : Prop := x.length ≤ 40 ∧ ∃ ps : List (List Nat), ps ≠ [] ∧ (∀ p ∈ ps, LabP p) ∧ tl x = joinL [46] ps
theorem DomP.ok {x : Str} (h : DomP x) : DomOk (tl x) := by
  obtain ⟨hl, ps, hn, hp, e⟩ := h
  refine ⟨by rw [← len_tl]; omega, fun p q => ?_⟩
  rw [e, spl_join hn fun p hp' => fun m => dot_lab ((hp p hp').in 46 m)] at q
  exact (hp p q).ok
theorem join_end : ∀ {ps : List (List Nat)}, ps ≠ [] → joinL [46] (ps ++ [[]]) = joinL [46] ps ++ [46]
  | [], h => absurd rfl h
  | [p], _ => by simp [joinL]
  | p :: q :: r, _ => by
    have ih := join_end (ps := q :: r) (by simp)
    show p ++ ([46] ++ joinL [46] ((q :: r) ++ [[]])) = (p ++ ([46] ++ joinL [46] (q :: r))) ++ [46]
    rw [ih, List.append_assoc, List.append_assoc]
theorem DomP.dot {x : Str} (h : DomP x) : ¬ DomOk (tl x ++ [46]) := by
  obtain ⟨hl, ps, hn, hp, e⟩ := h
  intro hd
  have q := hd.2 []
  rw [e, ← join_end hn, spl_join (by simp) fun p hp' => ?_] at q
  · have := (q (by simp)).1.1
    exact absurd this (by decide)
  · rcases List.mem_append.mp hp' with m | m
    · exact fun z => dot_lab ((hp p m).in 46 z)
    · rw [List.mem_singleton.mp m]
      simp
theorem LocP.in {x : Str} (h : LocP x) : ∀ c ∈ tl x, c ∈ tl locS := h.ok.1.2.2
theorem DomP.in {x : Str} (h : DomP x) : ∀ c ∈ tl x, c = 46 ∨ c ∈ tl labS := by
  obtain ⟨hl, ps, hn, hp, e⟩ := h
  intro c hc
  rw [e] at hc
  rcases joinL_mem hc with q | ⟨p, hp', q⟩
  · exact .inl (List.mem_singleton.mp q)
  · exact .inr ((hp p hp').in c q)
theorem dot_con {c : Nat} (h : c ≠ 46) : (Str.ofString ".").cps.contains c = false := by
  cases e : (Str.ofString ".").cps.contains c with
  | false => rfl
  | true =>
    rw [Array.contains_iff_mem] at e
    have q : c ∈ tl (Str.ofString ".") := Array.mem_def.mp e
    rw [tl_dot] at q
    exact absurd (List.mem_singleton.mp q) h
theorem LocP.fix {x : Str} (h : LocP x) : Txt.rstripChars (cutS x none (some 40)) (Str.ofString ".") = x := by
  rw [show cutS x none (some 40) = x from cut_id (n := 40) h.1]
  obtain ⟨_, _, g3, _⟩ := h.ok
  rcases List.eq_nil_or_concat (tl x) with e | ⟨l, c, e⟩
  · have := h.ok.1.1
    rw [e] at this
    exact absurd this (by decide)
  · have e' : tl x = l ++ [c] := by rw [e]; simp
    refine rs_id e' (dot_con fun z => g3 ?_)
    rw [e', List.getLast?_append, z]
    rfl
theorem LocP.mk {xs : List Str} (hn : xs ≠ []) (hp : ∀ x ∈ xs, Wd1 (tl x)) (hl : (Txt.join (Str.ofString ".") xs).length ≤ 40) : LocP (Txt.join (Str.ofString ".") xs) :=
  ⟨hl, xs.map tl, fun e => hn (List.map_eq_nil_iff.mp e), fun p h => by
    obtain ⟨x, hx, rfl⟩ := List.mem_map.mp h
    exact hp x hx, by rw [tl_joined, tl_dot]⟩
theorem DomP.mk {xs : List Str} (hn : xs ≠ []) (hp : ∀ x ∈ xs, LabP (tl x)) (hl : (Txt.join (Str.ofString ".") xs).length ≤ 40) : DomP (Txt.join (Str.ofString ".") xs) :=
  ⟨hl, xs.map tl, fun e => hn (List.map_eq_nil_iff.mp e), fun p h => by
    obtain ⟨x, hx, rfl⟩ := List.mem_map.mp h
    exact hp x hx, by rw [tl_joined, tl_dot]⟩
def zUpper : V → List V → Hp → VK → Prop := fun x xs H Q => ∃ a, x = V.str a ∧ xs = [] ∧ a.length ≤ 5592405 ∧ Q (.str (Txt.upper a)) H
theorem y_upper {X : Cx} : MtR X "str.upper" zUpper := mt_upper
section
variable {σ : L2.St} {H H1 : Hp} {Q : VK} {K : PySem.W.Frag} {st sc a p D : Addr} {ns : List Int} {ta : TE} {x y : Str} {bs : List Bool} {P : Program} {w : World} {ps : List (Nat × Nat)} {J : It} {Rl : Hp → Prop} {xs : List V} {vs : List Nat} {te : TE} {j : Nat} {Qd : Hp → Prop} {tt : TT}
theorem rd_m0 {f : V → List V → Hp → VK → Prop} (h : ta σ H fun x H1 => wM x (f x [] H1 Q)) : tM0 f ta σ H Q := h
theorem rd_upper (h : Q (.str (Txt.upper x)) H) (c : x.length ≤ 1000) : zUpper (.str x) [] H Q := ⟨x, rfl, rfl, by omega, h⟩
theorem rd_mk (h : ∀ p, H p = none → Q (.ref p) (upd H p (TabO P w ps p))) : zMk P w ps σ H Q := h
theorem rd_tr (e : H p = some (TabO P w ps p)) (c : x.length ≤ 100000) (b : ∀ c e, ps.lookup c = some e → e < 128) (h : Q (.str ⟨((tl x).map (tr1 ps)).toArray⟩) H) : zTr P w (.str x) [.ref p] H Q := ⟨x, p, ps, rfl, rfl, e, c, b, h⟩
theorem rd_all (c : SqL K H a (bs.map V.bl)) (h : Q (.bl (bs.all id)) H) : rAll K [.ref a] H Q := ⟨a, bs, rfl, c, h⟩
theorem rd_any (c : SqL K H a (bs.map V.bl)) (h : Q (.bl (bs.any id)) H) : rAny K [.ref a] H Q := ⟨a, bs, rfl, c, h⟩
theorem rd_split (h : ∀ p, H p = none → Q (.ref p) (upd H p (.lst ((Txt.split x y).map V.str)))) (e : (y.length == 0) = false) (c : x.length ≤ 100000) : zSplit (.str x) [.str y] H Q := ⟨x, y, rfl, rfl, e, line_of (by omega), h⟩
theorem rd_parti (h : ∀ p, H p = none → Q (.ref p) (upd H p (.tup [.str (Txt.partition x y).1, .str (Txt.partition x y).2.1, .str (Txt.partition x y).2.2]))) (e : (y.length == 0) = false) (c : x.length ≤ 100000) : zPartition (.str x) [.str y] H Q := ⟨x, y, rfl, rfl, e, line_of (by omega), h⟩
theorem rd_ninS (h : Q (.bl (!(!(Builtin.Str.occurrences y x 0 y.length 1).isEmpty))) H) : zInS true (.str x) (.str y) H Q := ⟨x, y, rfl, rfl, h⟩
theorem rd_inS (h : Q (.bl (!(Builtin.Str.occurrences y x 0 y.length 1).isEmpty)) H) : zInS false (.str x) (.str y) H Q := ⟨x, y, rfl, rfl, h⟩
/-- a comprehension with draws, item by item -/
theorem lcD (Wk : WalkOf J (fun _ => True) xs) (W : Wd K st sc ns H1) (nD : H1 D = none) (hn : xs.length ≤ 100000) (G : V → V → Prop)
    (hs : ∀ x ∈ xs, ∀ H (R : VK), Wd K st sc ns H → Dr st H1 H → (∀ y H', Dr st H H' → G x y → R y H') → wipe ((wipe σ vs).set j (some x)) vs = wipe σ vs ∧ te ((wipe σ vs).set j (some x)) H R)
    (hd : ∀ H' ys, Dr st H1 H' → Wd K st sc ns H' → D ≠ st → H' D = some (.lst ys) → ys.length = xs.length → (∀ (k : Nat) x y, xs[k]? = some x → ys[k]? = some y → G x y) → Qd H') : LcJ J (gName j) tYes te vs σ H1 D Qd := by
  have nS : D ≠ st := W.1.ne nD
  refine lcJ Wk (fun i H => Dr st H1 H ∧ ∃ ys, H D = some (.lst ys) ∧ ys.length = i ∧ ∀ (k : Nat) x y, xs[k]? = some x → ys[k]? = some y → G x y) ⟨W.dr.new nD, [], upd_same, rfl, fun k x y _ h => by simp at h⟩ (fun _ _ _ _ => trivial) (fun i x H hx p => ?_) (fun H p => ?_)
  · obtain ⟨d, ys, e, el, eg⟩ := p
    have q := hs x (List.mem_of_getElem? hx) H (fun y H4 => ∃ acc, H4 D = some (.lst acc) ∧ acc.length < sizeLine ∧ (Dr st H1 (upd H4 D (.lst (acc ++ [y]))) ∧ ∃ ys, (upd H4 D (.lst (acc ++ [y]))) D = some (.lst ys) ∧ ys.length = i + 1 ∧ ∀ (k : Nat) x y, xs[k]? = some x → ys[k]? = some y → G x y)) (W.next d) d (fun y H' d' gy => by
      have e' : H' D = some (.lst ys) := d'.1 _ _ nS e
      have hi := (List.getElem?_eq_some_iff.mp hx).1
      refine ⟨ys, e', lt_line (by omega), Dr.put W.1 (d.trans d') nD, ys ++ [y], upd_same, by rw [List.length_append, el]; rfl, fun k x2 y2 hx2 hy2 => ?_⟩
      by_cases hk : k < ys.length
      · rw [List.getElem?_append_left hk] at hy2
        exact eg k x2 y2 hx2 hy2
      · have hk2 := (List.getElem?_eq_some_iff.mp hy2).1
        rw [List.length_append] at hk2
        have hk3 : k < ys.length + 1 := hk2
        have ek : k = i := by omega
        rw [ek, ← el, List.getElem?_append_right (Nat.le_refl _), Nat.sub_self] at hy2
        rw [ek, hx] at hx2
        rw [← Option.some.inj hx2, ← Option.some.inj hy2]
        exact gy)
    exact ⟨q.1, q.2⟩
  · obtain ⟨d, ys, e, el, eg⟩ := p
    exact hd H ys d (W.next d) nS e el eg
end
theorem all_id {α : Type} (l : List α) (p : α → Bool) : (l.map p).all id = l.all p := by
  induction l with
  | nil => rfl
  | cons a r ih => rw [List.map_cons, List.all_cons, List.all_cons, ih]; rfl
theorem low_map {l : List Nat} (h : ∀ c ∈ l, c < 128) : l.map (tr1 upL) = l.map lowN := List.map_congr_left fun c hc => low_eq (h c hc)
theorem low_id {l : List Nat} (h : ∀ c ∈ l, ¬ (65 ≤ c ∧ c ≤ 90)) : l.map lowN = l := by
  have e : l.map lowN = l.map id := List.map_congr_left fun c hc => low_low (h c hc)
  rw [e, List.map_id]
theorem len_dd : (Str.ofString "..").length = 2 := by rw [len_of]; rfl
theorem tl_dd : tl (Str.ofString "..") = [46, 46] := by rw [tl_ofString]; rfl
theorem tl_hy : tl (Str.ofString "-") = [45] := by rw [tl_ofString]; rfl
theorem tl_at : tl (Str.ofString "@") = [64] := by rw [tl_ofString]; rfl
theorem tl_lt : tl (Str.ofString "<") = [60] := by rw [tl_ofString]; rfl
theorem tl_gt : tl (Str.ofString ">") = [62] := by rw [tl_ofString]; rfl
theorem tl_ltgt : tl (Str.ofString "<>") = [60, 62] := by rw [tl_ofString]; rfl
theorem spl_len (s : Nat) : ∀ (l acc : List Nat), (spl [s] 0 acc l).length ≤ l.length + 1
  | [], acc => by rw [spl_nil]; exact Nat.le_refl _
  | c :: r, acc => by
    by_cases h : pre [s] (c :: r) = true
    · rw [spl_hit h, List.length_cons, List.length_cons]
      exact Nat.succ_le_succ (spl_len s r [])
    · rw [Bool.not_eq_true] at h
      rw [spl_miss h, List.length_cons]
      exact Nat.le_succ_of_le (spl_len s r _)
theorem spl_mem (s : Nat) : ∀ (l acc : List Nat), ∀ p ∈ spl [s] 0 acc l, p.length ≤ acc.length + l.length
  | [], acc, p, h => by
    rw [spl_nil] at h
    rw [List.mem_singleton.mp h]
    exact Nat.le_add_right _ _
  | c :: r, acc, p, h => by
    by_cases e : pre [s] (c :: r) = true
    · rw [spl_hit e] at h
      rcases List.mem_cons.mp h with rfl | h
      · exact Nat.le_add_right _ _
      · have q := spl_mem s r [] p h
        rw [List.length_nil, Nat.zero_add] at q
        rw [List.length_cons]
        omega
    · rw [Bool.not_eq_true] at e
      rw [spl_miss e] at h
      have q := spl_mem s r _ p h
      rw [List.length_append] at q
      rw [List.length_cons]
      have q2 : p.length ≤ acc.length + 1 + r.length := q
      omega
theorem split_dot (z : Str) : (Txt.split z (Str.ofString ".")).map tl = spl [46] 0 [] (tl z) := by
  rw [split_spl z _ (by rw [tl_dot]; exact List.cons_ne_nil _ _) (kind_ok (by decide +kernel)), tl_dot]
theorem split_at (z : Str) : (Txt.split z (Str.ofString "@")).map tl = spl [64] 0 [] (tl z) := by
  rw [split_spl z _ (by rw [tl_at]; exact List.cons_ne_nil _ _) (kind_ok (by decide +kernel)), tl_at]
/-! ### errors -/
structure ExT (K : PySem.W.Frag) (mg : Str → Option Value) (C M : Addr) : Prop where
  gC : mg "InvalidAddress" = some (.ref C)
  gM : mg "MailError" = some (.ref M)
  xC : PySem.W.excIn K C [.type "ValueError", .type "Exception", .type "BaseException", .type "object"] "ValueError.__new__" = true
  kC : PySem.W.keepIn K (.ref C) = true
  bC : PySem.W.subIn K (.ref C) (.type "BaseException") = some true
  tC : PySem.W.typeIn K (.ref C) = some (.type "type")
  sC : PySem.W.subIn K (.ref C) (.ref C) = some true
  kM : PySem.W.kitOne K (.ref C) (.ref M) = some true
  kV : PySem.W.kitOne K (.ref C) (.type "ValueError") = some true
  e : ExcC K C
theorem ExT.exm {K : PySem.W.Frag} {mg : Str → Option Value} {C M : Addr} (h : ExT K mg C M) : PySem.W.exmOne K (.ref C) (.ref C) = some true := PySem.W.exm_ref h.bC h.e.hd h.tC h.sC
theorem ok_mkX {P : Program} {w : World} {K : PySem.W.Frag} {mg : Str → Option Value} {base : Heap} {k : Nat} {x : Str} {st : Stmt} {ps N : List Str} {sp : Sp} (d : Dn K mg x st ps) (S : FnScope N ps (defScope st))
    (len : ∀ vs H Q E, sp vs H Q E → vs.length = ps.length)
    (hbody : ∀ (f : Addr) (cdv : Value) (A : Around) (outer : List Env) (s : Shared) (H : Hp) (vs : List V) (Q : VK) (E : XK), Room k (A.deeper (envOfC x (defScope st) s.heap.objs.size f cdv)) → sp vs H Q E →
      ∃ t, PSs (cxOf (L2.CX P w) P w K mg base N x (defScope st) f cdv A outer s H E) (defBody st) t ∧ t ⟨fun _ H' => Q .non H', Q, fun _ _ => False, fun _ _ => False⟩ (start N vs) H) : OkD P w K mg base (L2.CX P w) (k + 1) x ps sp := by
  obtain ⟨f, fd, m, F, b⟩ := d
  exact ⟨f, fd, m, F.kp, binds_of b, F.okX S len fun cdv A outer s H vs Q E hr h => hbody f cdv A outer s H vs Q E hr h⟩
section
variable {X : Cx} {K : PySem.W.Frag} {σ : L2.St} {H : Hp} {Q : VK} {nx bk ct : L2.St → Hp → Prop} {rt : VK} {ta : TE} {as : TA} {W : WX} {C a : Addr} {cls : Value} {d : Option Addr} {x y : Str} {i : Int} {k : Nat}
theorem pe_callDS {k : Nat} {x : Str} {ps : List Str} {sp : Sp} {t : TA} {e : Expr} {es : List Expr} {p pos : Pos} {E : L2.St → XK} (O : OkD X.prog X.w X.K X.mg X.base (L2.CX X.prog X.w) k x ps sp) (hr : Room k X.A) (hg : Gl X x) (hx : ∀ σ, PassesAt (L2.CX X.prog X.w) X σ (E σ)) (ha : PA X (e :: es) t)
    (hdb : (x == ("__debug__" : Str)) = false := by decide) (he : starEach (e :: es) X.env = (false, eval e X.env) :: starEach es X.env := by rfl) (hpl : (backTo pos (starEach es X.env)).any (·.1) = false := by rfl) :
    PE X (.Call (.Name x p) (e :: es) [] pos) (tCallS sp E t) := by
  obtain ⟨f, fd, m, kp, b, F⟩ := O
  exact pe_callS F hr hg m kp b hx ha hdb he hpl
theorem rd_callS {sp : Sp} {E : L2.St → XK} (h : as σ H fun vs H1 => sp vs H1 Q (E σ)) : tCallS sp E as σ H Q := h
def zRaise (C : Addr) (W : WX) (ta : TE) : TS := fun _ σ H => ta σ H fun _ H1 => W (.ref C) none σ H1
theorem y_raise {x : Str} {e : Expr} {p pos pos2 : Pos} (hc : X.calm = true) (tk : Takes X W) (q : PySem.W.excIn X.K C [.type "ValueError", .type "Exception", .type "BaseException", .type "object"] "ValueError.__new__" = true) (gC : X.mg x = some (.ref C)) (kC : PySem.W.keepIn X.K (.ref C) = true) (r : Raises X (.ref C)) (hg : Gl X x)
    (he : PE X e ta) (hs : starEach [e] X.env = (false, eval e X.env) :: starEach [] X.env := by rfl) (hdb : (x == ("__debug__" : Str)) = false := by decide) :
    PS X (.Raise (some (.Call (.Name x p) [e] [] pos)) none pos2) (zRaise C W ta) := ps_raise hc tk (SkE.pmk_own1 PySem.F.excBase_ValueError q gC kC r hg he hs hdb)
theorem rd_raise {D : Ends} (h : ta σ H fun _ H1 => W (.ref C) none σ H1) : zRaise C W ta D σ H := h
def zTryO (K : PySem.W.Frag) (c : Value) (tb : WX → TS) (ts : Addr → Value → Option Addr → TS) (Wout : WX) : TS := fun D σ H => tb (wOnly K c ts Wout D) D σ H
def zTryA (K : PySem.W.Frag) (c : Value) (i : Nat) (tb : WX → TS) (ts : Addr → Value → Option Addr → TS) (Wout : WX) : TS := fun D σ H => tb (wAs K c i ts Wout D) D σ H
theorem y_tryO {x : Str} {c : Value} {body suite : List Stmt} {b₀ : Stmt} {np pos pos' : Pos} {tb : WX → TS} {ts : Addr → Value → Option Addr → TS} {Wout : WX} (hs : X.stack = X.env :: X.outer) (hf : X.env.frame = some X.env.locals) (hc : Names X x c) (tk : Takes X Wout)
    (hb : ∀ (W : WX) (pn : List (Addr × Obj)) (xe : Value → Shared → Prop), Takes (X.tr pn xe) W → PassesOwn (model X.prog X.w) X.A X.env xe → PSs (X.tr pn xe) body (tb W))
    (hsu : ∀ (a : Addr) (oe : Obj) (cls : Value) (d : Option Addr) (pn : List (Addr × Obj)), Zc cls d oe → (∃ vs, oe.data = .fields vs) → PSs (X.suite a ((a, oe) :: pn)) (b₀ :: suite) (ts a cls d)) :
    PS X (.Try body [.ExceptHandler (some (.Name x np)) none (b₀ :: suite) pos'] [] [] pos) (zTryO X.K c tb ts Wout) := ps_try_only hs hf hc tk hb hsu
theorem y_tryA {x n : Str} {c : Value} {i : Nat} {body suite : List Stmt} {b₀ : Stmt} {np pos pos' : Pos} {tb : WX → TS} {ts : Addr → Value → Option Addr → TS} {Wout : WX} (hs : X.stack = X.env :: X.outer) (hf : X.env.frame = some X.env.locals) (hN : X.N.Nodup) (hi : X.N[i]? = some n) (hln : X.env.kindOf n = some .local) (hc : Names X x c) (tk : Takes X Wout)
    (hb : ∀ (W : WX) (pn : List (Addr × Obj)) (xe : Value → Shared → Prop), Takes (X.tr pn xe) W → PassesOwn (model X.prog X.w) X.A X.env xe → PSs (X.tr pn xe) body (tb W))
    (hsu : ∀ (a : Addr) (oe : Obj) (cls : Value) (d : Option Addr) (pn : List (Addr × Obj)), Zc cls d oe → (∃ vs, oe.data = .fields vs) → PSs (X.suite a ((a, oe) :: pn)) (b₀ :: suite) (ts a cls d)) :
    PS X (.Try body [.ExceptHandler (some (.Name x np)) (some n) (b₀ :: suite) pos'] [] [] pos) (zTryA X.K c i tb ts Wout) := ps_try_as hs hf hN hi hln hc tk hb hsu
theorem rd_tryO {c : Value} {tb : WX → TS} {ts : Addr → Value → Option Addr → TS} {Wout : WX} (h : tb (wOnly K c ts Wout ⟨nx, rt, bk, ct⟩) ⟨nx, rt, bk, ct⟩ σ H) : zTryO K c tb ts Wout ⟨nx, rt, bk, ct⟩ σ H := h
theorem rd_tryA {c : Value} {i : Nat} {tb : WX → TS} {ts : Addr → Value → Option Addr → TS} {Wout : WX} (h : tb (wAs K c i ts Wout ⟨nx, rt, bk, ct⟩) ⟨nx, rt, bk, ct⟩ σ H) : zTryA K c i tb ts Wout ⟨nx, rt, bk, ct⟩ σ H := h
def zIsE (K : PySem.W.Frag) (D a : Addr) (cls : Value) (d : Option Addr) : List V → Hp → VK → Prop := fun xs H Q => cls = .ref D ∧ d = Option.none ∧ rIsE K D a xs H Q
theorem y_isE {a D : Addr} {oe : Obj} {cls : Value} {d : Option Addr} {pn : List (Addr × Obj)} (C : ExcC X.K D) (hz : Zc cls d oe) (hf : ∃ vs, oe.data = .fields vs) : CallR (X.suite a ((a, oe) :: pn)) (.builtin "isinstance") (zIsE X.K D a cls d) := by
  intro pins s σ H xs us Q I r h
  obtain ⟨rfl, rfl, h⟩ := h
  exact call_isE C hz hf pins s σ H xs us Q I r h
def zSIx : V → List V → Hp → VK → Prop := fun x xs H Q => ∃ (a b : Str) (k : Nat), x = V.str a ∧ xs = [V.str b] ∧ Txt.index0 a b = some k ∧ Q (.int (k : Nat)) H
theorem y_sIx : MtR X "str.index" zSIx := by
  intro pins s σ H x xs v us Q I rx rs h
  obtain ⟨a, b, k, rfl, rfl, hk, q⟩ := h
  obtain ⟨t, rfl⟩ := rx
  obtain ⟨u1, rfl, u, rfl⟩ := Vals.one rs
  cases e : Builtin.Str.occurrences a b 0 a.length 1 with
  | nil =>
    unfold Txt.index0 at hk
    rw [e] at hk
    cases hk
  | cons j rest =>
    unfold Txt.index0 at hk
    rw [e] at hk
    cases hk
    exact PySem.SC.index e ⟨.int (k : Nat), H, I.tok _, ⟨_, rfl⟩, q⟩
theorem rd_sIx (e : Txt.index0 x y = some k) (h : Q (.int (k : Nat)) H) : zSIx (.str x) [.str y] H Q := ⟨x, y, k, rfl, rfl, e, h⟩
theorem rd_ixS {c : Nat} (e : atI (tl x) i = some c) (l : x.length ≤ 100000) (h : Q (.str ⟨#[c]⟩) H) : rIxS (.str x) (.int i) H Q := ⟨x, i, c, rfl, rfl, line_of (by omega), e, h⟩
end
theorem first_at {s : Nat} : ∀ {l : List Nat}, s ∈ l → ∃ p r, l = p ++ s :: r ∧ s ∉ p
  | [], h => nomatch h
  | c :: t, h => by
    by_cases e : c = s
    · exact ⟨[], t, by rw [e]; rfl, by simp⟩
    · have ht : s ∈ t := by
        rcases List.mem_cons.mp h with q | q
        · exact absurd q.symm e
        · exact q
      obtain ⟨p, r, e1, e2⟩ := first_at ht
      refine ⟨c :: p, r, by rw [e1]; rfl, fun m => ?_⟩
      rcases List.mem_cons.mp m with q | q
      · exact e q.symm
      · exact e2 q
theorem split_uni {s : Nat} : ∀ {p p' r r' : List Nat}, s ∉ p → s ∉ p' → p ++ s :: r = p' ++ s :: r' → p = p' ∧ r = r'
  | [], [], r, r', _, _, h => ⟨rfl, (List.cons.inj h).2⟩
  | [], c :: p', r, r', _, h2, h => absurd (by rw [(List.cons.inj h).1]; exact List.mem_cons_self) h2
  | c :: p, [], r, r', h1, _, h => absurd (by rw [← (List.cons.inj h).1]; exact List.mem_cons_self) h1
  | c :: p, c' :: p', r, r', h1, h2, h => by
    obtain ⟨e1, e2⟩ := List.cons.inj h
    obtain ⟨g1, g2⟩ := split_uni (fun m => h1 (List.mem_cons_of_mem _ m)) (fun m => h2 (List.mem_cons_of_mem _ m)) e2
    exact ⟨by rw [e1, g1], g2⟩
theorem spl_has {s c : Nat} (hc : c ≠ s) : ∀ (l acc : List Nat), c ∈ acc ∨ c ∈ l → ∃ p ∈ spl [s] 0 acc l, c ∈ p
  | [], acc, h => by
    rw [spl_nil]
    refine ⟨acc, List.mem_cons_self, ?_⟩
    rcases h with h | h
    · exact h
    · cases h
  | a :: r, acc, h => by
    by_cases e : pre [s] (a :: r) = true
    · rw [spl_hit e]
      have ea : a = s := by
        have q : [a] = [s] := eq_of_beq e
        exact (List.cons.inj q).1
      rcases h with h | h
      · exact ⟨acc, List.mem_cons_self, h⟩
      · rcases List.mem_cons.mp h with q | q
        · exact absurd (q.trans ea) hc
        · obtain ⟨p, hp, hcp⟩ := spl_has hc r [] (.inr q)
          exact ⟨p, List.mem_cons_of_mem _ hp, hcp⟩
    · rw [Bool.not_eq_true] at e
      rw [spl_miss e]
      refine spl_has hc r _ ?_
      rcases h with h | h
      · exact .inl (List.mem_append_left _ h)
      · rcases List.mem_cons.mp h with q | q
        · exact .inl (List.mem_append_right _ (by rw [q]; exact List.mem_cons_self))
        · exact .inr q
theorem dom_noat {l : List Nat} (h : DomOk l) : 64 ∉ l := fun m => by
  obtain ⟨p, hp, hc⟩ := spl_has (s := 46) (by decide : (64 : Nat) ≠ 46) l [] (.inr m)
  exact at_lab ((h.2 p hp).1.2.2 64 hc)
theorem loc_noat {l : List Nat} (h : LocalOk l) : 64 ∉ l := fun m => at_loc (h.1.2.2 64 m)
theorem dom_nil : ¬ DomOk [] := fun h => by
  have q := (h.2 [] (by rw [spl_nil]; exact List.mem_cons_self)).1.1
  exact absurd q (by decide)
def Parsed (t : List Nat) (l d : Str) : Prop := t.map (tr1 upL) = tl l ++ 64 :: tl d ∧ LocalOk (tl l) ∧ DomOk (tl d)
theorem Parsed.uni {t : List Nat} {l d l' d' : Str} (h : Parsed t l d) (g : Parsed t l' d') : l = l' ∧ d = d' := by
  obtain ⟨e1, e2⟩ := split_uni (loc_noat h.2.1) (loc_noat g.2.1) (h.1.symm.trans g.1)
  exact ⟨ext_tl e1, ext_tl e2⟩
theorem idx_k : (List.range 26).all (fun i => decide (Txt.index0 upS ⟨#[65 + i]⟩ = some i)) = true := by decide +kernel
theorem fold_cat (z : Array Nat) : ∀ (n : Nat) (acc : Array Nat), ((List.replicate n z).foldl (· ++ ·) acc).toList = acc.toList ++ (List.replicate n z.toList).flatten
  | 0, acc => by simp
  | n + 1, acc => by
    rw [List.replicate_succ, List.foldl_cons, fold_cat z n, List.replicate_succ, List.flatten_cons, Array.toList_append, List.append_assoc]
def zMulS : R2 := fun x y H Q => ∃ (z : Str) (k : Int), x = .str z ∧ y = .int k ∧ 1 ≤ k ∧ k ≤ 1000 ∧ z.length ≤ 1000 ∧ ∀ r : Str, r.length ≤ z.length * k.toNat → 1 * z.length ≤ r.length → (∀ c ∈ tl r, c ∈ tl z) → Q (.str r) H
theorem y_repS {X : Cx} : OpR X (binaryOp .Mult) zMulS := by
  intro pins s σ H x y v u Q I rx ry h
  obtain ⟨z, k, rfl, rfl, k1, k2, hz, q⟩ := h
  obtain ⟨t, rfl⟩ := rx
  obtain ⟨t', rfl⟩ := ry
  have hb : z.length * k.toNat ≤ 1000 * 1000 := Nat.mul_le_mul hz (by omega)
  refine PySem.P.mul_str (by
    rw [decide_eq_false (by omega : ¬ k < -(2 ^ 63 : Int)), decide_eq_false (by omega : ¬ k ≥ 2 ^ 63)]
    rfl) (fun _ _ => ?_) (fun _ _ => PyProof.Rows.short24 (by omega)) ?_
  · have h2 : (1000 : Int) ≤ (2 ^ 63 - 1) / k := by
      rw [Int.le_ediv_iff_mul_le (by omega)]
      omega
    omega
  · rw [if_neg (by omega)]
    by_cases e : (k == 1 || z.length == 0) = true
    · rw [if_pos e]
      refine ⟨.str z, H, I, ⟨t, rfl⟩, q z ?_ (by omega) fun c h => h⟩
      have : 1 ≤ k.toNat := by omega
      calc z.length = z.length * 1 := (Nat.mul_one _).symm
        _ ≤ z.length * k.toNat := Nat.mul_le_mul_left _ this
    · rw [if_neg e]
      have hf := fold_cat z.cps k.toNat #[]
      have hr : tl (⟨(List.replicate k.toNat z.cps).foldl (· ++ ·) #[]⟩ : Str) = (List.replicate k.toNat (tl z)).flatten := by
        show ((List.replicate k.toNat z.cps).foldl (· ++ ·) #[]).toList = _
        rw [hf]
        rfl
      have hlen : (⟨(List.replicate k.toNat z.cps).foldl (· ++ ·) #[]⟩ : Str).length = k.toNat * z.length := by
        rw [len_tl, hr, List.length_flatten, List.map_replicate, List.sum_replicate_nat, ← len_tl]
      refine ⟨?_, .str _, H, I.tok _, ⟨_, rfl⟩, q _ ?_ ?_ fun c hc => ?_⟩
      · rw [hlen, Nat.mul_comm]
        exact line_of (by omega)
      · rw [hlen, Nat.mul_comm]
        exact Nat.le_refl _
      · rw [hlen]
        exact Nat.mul_le_mul_right _ (by omega)
      · rw [hr] at hc
        obtain ⟨l, hl, hcl⟩ := List.mem_flatten.mp hc
        rw [(List.mem_replicate.mp hl).2] at hcl
        exact hcl
section
variable {σ : L2.St} {H H1 : Hp} {Q : VK} {K : PySem.W.Frag} {D : Addr} {n j : Nat} {vs : List Nat} {te : TE} {Qd : Hp → Prop} {a b : Bool} {p q : Addr} {xs zs : List V}
theorem lcRp (nD : H1 D = none) (hn : n ≤ 100000) (f : Nat → V)
    (hs : ∀ i, i < n → ∀ H (R : VK), Same H1 H → (∀ H'', Same H H'' → R (f i) H'') → wipe ((wipe σ vs).set j (some (.int (0 + (i : Nat))))) vs = wipe σ vs ∧ te ((wipe σ vs).set j (some (.int (0 + (i : Nat))))) H R)
    (hd : ∀ H', Same H1 H' → H' D = some (.lst ((List.range n).map f)) → Qd H') : LcR n (gName j) te vs σ H1 D Qd := by
  refine lc_range (Pv := fun i H => Same H1 H ∧ H D = some (.lst ((List.range i).map f))) ⟨same_new nD, by rw [upd_same]; rfl⟩ (fun i H hi p => ?_) (fun H p => hd H p.1 p.2)
  obtain ⟨sm, e⟩ := p
  have q := hs i hi H (fun y H4 => ∃ acc, H4 D = some (.lst acc) ∧ acc.length < sizeLine ∧ (Same H1 (upd H4 D (.lst (acc ++ [y]))) ∧ (upd H4 D (.lst (acc ++ [y]))) D = some (.lst ((List.range (i + 1)).map f)))) sm (fun H'' s2 => by
    refine ⟨_, s2 _ _ e, lt_line (by rw [List.length_map, List.length_range]; omega), fun b o eb => ?_, ?_⟩
    · rw [upd_ne (ne_of_none eb nD)]
      exact s2 _ _ (sm _ _ eb)
    · rw [upd_same, List.range_succ, List.map_append]
      rfl)
  exact ⟨q.1, q.2⟩
theorem rd_mulS {z : Str} {k : Int} (k1 : 1 ≤ k) (k2 : k ≤ 1000) (hz : z.length ≤ 1000) (h : ∀ r : Str, r.length ≤ z.length * k.toNat → 1 * z.length ≤ r.length → (∀ c ∈ tl r, c ∈ tl z) → Q (.str r) H) : zMulS (.str z) (.int k) H Q := ⟨z, k, rfl, rfl, k1, k2, hz, h⟩
theorem rd_catL (h1 : H p = some (.lst xs)) (h2 : H q = some (.lst zs)) (c : xs.length + zs.length ≤ 100000) (h : ∀ r, H r = none → Q (.ref r) (upd H r (.lst (xs ++ zs)))) : rCat (.ref p) (.ref q) H Q := ⟨p, q, xs, zs, rfl, rfl, h1, h2, line_of (by omega), h⟩
theorem rd_eqB (h : Q (.bl (decide (a = b))) H) : rEq (.bl a) (.bl b) H Q := ⟨rfl, by
  rw [show decide (V.bl a = V.bl b) = decide (a = b) by simp only [V.bl.injEq]]
  exact h⟩
/-- data of one text: equal -/
theorem rd_neSame {x y : V} {d : PyData} (h1 : Dp K H x d) (h2 : Dp K H y d) (s : SeqAt.shaped d = true) (r : PyData.eqv d d = true) (h : Q (.bl false) H) : rNeD K x y H Q := ⟨d, d, h1, h2, s, s, by
  rw [r]
  exact h⟩
end
theorem one_eq {c n : Nat} {s : String} (h : tl (Str.ofString s) = [n]) : ((⟨#[c]⟩ : Str) = Str.ofString s) ↔ c = n := by
  constructor
  · intro e
    have q := congrArg tl e
    rw [h] at q
    exact (List.cons.inj q).1
  · intro e
    exact ext_tl (by rw [h, e])
theorem eqv2 (l d : Str) : PyData.eqvAll [.str l, .str d] [.str l, .str d] = true := by simp [PyData.eqvAll, PyData.eqv]
theorem shaped2 {l d : Str} (al : Asc l) (ad : Asc d) : SeqAt.shaped (.tuple [.str l, .str d]) = true := by
  refine shaped_strs (xs := [l, d]) fun x hx => ?_
  simp only [List.mem_cons, List.not_mem_nil, or_false] at hx
  rcases hx with rfl | rfl
  · exact al
  · exact ad
theorem up_iff {c : Nat} : c ∈ tl upS ↔ 65 ≤ c ∧ c ≤ 90 := by
  rw [tl_up, List.mem_map]
  constructor
  · rintro ⟨a, ha, rfl⟩
    have := List.mem_range.mp ha
    omega
  · intro h
    exact ⟨c - 65, List.mem_range.mpr (by omega), by omega⟩
theorem up_idx {c : Nat} (h : 65 ≤ c ∧ c ≤ 90) : Txt.index0 upS ⟨#[c]⟩ = some (c - 65) := by
  have q := of_decide_eq_true (List.all_eq_true.mp idx_k (c - 65) (List.mem_range.mpr (by omega)))
  rw [show 65 + (c - 65) = c by omega] at q
  exact q
theorem lo_at {c : Nat} (h : 65 ≤ c ∧ c ≤ 90) : atI (tl loS) ((c - 65 : Nat) : Int) = some (lowN c) := by
  refine atI_nat ?_
  rw [tl_lo, List.getElem?_map, List.getElem?_range (by omega)]
  show some (c - 65 + 97) = some (lowN c)
  rw [show lowN c = c + 32 from if_pos h]
  congr 1
  omega
theorem len_lo : loS.length = 26 := by rw [len_tl, tl_lo]; rfl
theorem asc_low {l : List Nat} (h : ∀ c ∈ l, c < 128) : ∀ c ∈ l.map lowN, c < 128 := fun c hc => by
  obtain ⟨a, ha, rfl⟩ := List.mem_map.mp hc
  have := h a ha
  unfold lowN
  by_cases q : 65 ≤ a ∧ a ≤ 90
  · rw [if_pos q]
    omega
  · rw [if_neg q]
    exact this
theorem flat_ones (f : Nat → Nat) : ∀ l : List Nat, ((l.map fun c => (⟨#[f c]⟩ : Str)).map tl).flatten = l.map f
  | [] => rfl
  | c :: l => by
    show f c :: ((l.map fun c => (⟨#[f c]⟩ : Str)).map tl).flatten = f c :: l.map f
    rw [flat_ones f l]
/-! ### values at any depth: none, truth values, ints, texts, tuples (all of them immutable: what is denoted stays) -/
mutual
inductive Va (H : Hp) : V → PyData → Prop
  | non : Va H .non .none
  | bl (b : Bool) : Va H (.bl b) (.bool b)
  | int (i : Int) : Va H (.int i) (.int i)
  | str (x : Str) : Va H (.str x) (.str x)
  | tup {a : Addr} {xs : List V} {ds : List PyData} : Tk H a xs → VaL H xs ds → Va H (.ref a) (.tuple ds)
inductive VaL (H : Hp) : List V → List PyData → Prop
  | nil : VaL H [] []
  | cons {v : V} {vs : List V} {d : PyData} {ds : List PyData} : Va H v d → VaL H vs ds → VaL H (v :: vs) (d :: ds)
end
section
variable {K : PySem.W.Frag} {st : Addr} {H H1 : Hp}
mutual
theorem Va.mono (k : ∀ a xs, Tk H a xs → Tk H1 a xs) : ∀ {v : V} {d : PyData}, Va H v d → Va H1 v d
  | _, _, .non => .non
  | _, _, .bl b => .bl b
  | _, _, .int i => .int i
  | _, _, .str x => .str x
  | _, _, .tup t r => .tup (k _ _ t) (VaL.mono k r)
theorem VaL.mono (k : ∀ a xs, Tk H a xs → Tk H1 a xs) : ∀ {vs : List V} {ds : List PyData}, VaL H vs ds → VaL H1 vs ds
  | _, _, .nil => .nil
  | _, _, .cons a r => .cons (Va.mono k a) (VaL.mono k r)
end
theorem Va.same {v : V} {d : PyData} (h : Va H v d) (s : Same H H1) : Va H1 v d := h.mono fun _ _ t => t.same s
theorem VaL.same {v : List V} {d : List PyData} (h : VaL H v d) (s : Same H H1) : VaL H1 v d := h.mono fun _ _ t => t.same s
theorem Va.next {v : V} {d : PyData} (h : Va H v d) (s : Stt H st) (r : Dr st H H1) : Va H1 v d := h.mono fun _ _ t => t.next s r
theorem VaL.next {v : List V} {d : List PyData} (h : VaL H v d) (s : Stt H st) (r : Dr st H H1) : VaL H1 v d := h.mono fun _ _ t => t.next s r
mutual
theorem Va.dp : ∀ {v : V} {d : PyData}, Va H v d → Dp K H v d
  | _, _, .non => .non
  | _, _, .bl b => .bl b
  | _, _, .int i => .int i
  | _, _, .str x => .str x
  | _, _, .tup t r => .tup t.seq (VaL.dp r)
theorem VaL.dp : ∀ {vs : List V} {ds : List PyData}, VaL H vs ds → DpAll K H vs ds
  | _, _, .nil => .nil
  | _, _, .cons a r => .cons (Va.dp a) (VaL.dp r)
end
theorem VaL.length : ∀ {vs : List V} {ds : List PyData}, VaL H vs ds → vs.length = ds.length
  | _, _, .nil => rfl
  | _, _, .cons _ r => by rw [List.length_cons, List.length_cons, VaL.length r]
theorem VaL.get : ∀ {vs : List V} {ds : List PyData} {i : Nat} {v : V}, VaL H vs ds → vs[i]? = some v → ∃ d, ds[i]? = some d ∧ Va H v d
  | _, _, i, v, .nil, e => by simp at e
  | _, _, 0, v, .cons (d := d) a _, e => by
    obtain rfl := Option.some.inj e
    exact ⟨d, rfl, a⟩
  | _, _, i + 1, v, .cons _ r, e => VaL.get (i := i) r e
theorem VaL.snoc : ∀ {vs : List V} {ds : List PyData} {v : V} {d : PyData}, VaL H vs ds → Va H v d → VaL H (vs ++ [v]) (ds ++ [d])
  | _, _, _, _, .nil, a => .cons a .nil
  | _, _, _, _, .cons b r, a => .cons b (VaL.snoc r a)
theorem Va.inv {v : V} {d : PyData} (h : Va H v d) : (v = .non ∧ d = .none) ∨ (∃ b, v = .bl b ∧ d = .bool b) ∨ (∃ i, v = .int i ∧ d = .int i) ∨ (∃ x, v = .str x ∧ d = .str x) ∨
    ∃ a xs ds, v = .ref a ∧ d = .tuple ds ∧ Tk H a xs ∧ VaL H xs ds := by
  cases h with
  | non => exact .inl ⟨rfl, rfl⟩
  | bl b => exact .inr (.inl ⟨b, rfl, rfl⟩)
  | int i => exact .inr (.inr (.inl ⟨i, rfl, rfl⟩))
  | str x => exact .inr (.inr (.inr (.inl ⟨x, rfl, rfl⟩)))
  | tup t r => exact .inr (.inr (.inr (.inr ⟨_, _, _, rfl, rfl, t, r⟩)))
end
/-! ### records -/
/-- a count in groups of seven bits -/
def cnt (n : Nat) : List Int := if h : n < 128 then [(n : Int)] else (128 + (n % 128 : Nat) : Int) :: cnt (n / 128)
termination_by n
decreasing_by omega
theorem cnt_lt {n : Nat} (h : n < 128) : cnt n = [(n : Int)] := by
  rw [cnt, dif_pos h]
theorem cnt_ge {n : Nat} (h : 128 ≤ n) : cnt n = (128 + (n % 128 : Nat) : Int) :: cnt (n / 128) := by
  rw [cnt, dif_neg (by omega)]
theorem cnt_pos (n : Nat) : 1 ≤ (cnt n).length := by
  by_cases h : n < 128
  · rw [cnt_lt h]
    exact Nat.le_refl 1
  · rw [cnt_ge (by omega)]
    simp
theorem cnt_len : ∀ (k n : Nat), n < 128 ^ (k + 1) → (cnt n).length ≤ k + 1
  | 0, n, h => by
    rw [cnt_lt (by simpa using h)]
    exact Nat.le_refl 1
  | k + 1, n, h => by
    by_cases c : n < 128
    · rw [cnt_lt c]
      simp
    · rw [cnt_ge (by omega), List.length_cons]
      have q : n / 128 < 128 ^ (k + 1) := by
        rw [Nat.div_lt_iff_lt_mul (by decide)]
        rw [Nat.pow_succ] at h
        exact h
      have := cnt_len k (n / 128) q
      omega
theorem cnt_byte (n : Nat) : ∀ b ∈ cnt n, 0 ≤ b ∧ b < 256 := by
  induction n using Nat.strongRecOn with
  | ind n ih =>
    intro b hb
    by_cases c : n < 128
    · rw [cnt_lt c] at hb
      obtain rfl := List.mem_singleton.mp hb
      omega
    · rw [cnt_ge (by omega)] at hb
      rcases List.mem_cons.mp hb with rfl | hb
      · omega
      · exact ih (n / 128) (by omega) b hb
/-- the signs of a text, as bytes -/
def sgn (x : Str) : List Int := x.cps.toList.map fun c : Nat => (c : Int)
mutual
def rcd : PyData → List Int
  | .none => [0]
  | .bool b => [if b then 2 else 1]
  | .int i => if 0 ≤ i then 3 :: cnt i.toNat else 4 :: cnt (-i - 1).toNat
  | .str x => 5 :: (cnt x.length ++ sgn x)
  | .tuple ds => 6 :: (cnt ds.length ++ rcdL ds)
  | .list _ => []
  | .dict _ => []
def rcdL : List PyData → List Int
  | [] => []
  | d :: ds => rcd d ++ rcdL ds
end
theorem rcdL_snoc : ∀ (ds : List PyData) (d : PyData), rcdL (ds ++ [d]) = rcdL ds ++ rcd d
  | [], d => by simp [rcdL]
  | e :: ds, d => by
    rw [List.cons_append, rcdL, rcdL, rcdL_snoc ds d, List.append_assoc]
/-- a sign that may stand in a text -/
def okSign (n : Nat) : Prop := 32 ≤ n ∧ n ≤ 126 ∧ n ≠ 37
mutual
/-- a value of the document, with small texts and ints -/
def OkV : PyData → Prop
  | .none => True
  | .bool _ => True
  | .int i => i.natAbs < 2 ^ 100
  | .str x => x.length ≤ 1000 ∧ ∀ c ∈ x.cps.toList, okSign c
  | .tuple ds => ds.length ≤ 1000 ∧ OkL ds
  | .list _ => False
  | .dict _ => False
def OkL : List PyData → Prop
  | [] => True
  | d :: ds => OkV d ∧ OkL ds
end
theorem OkL.snoc : ∀ {ds : List PyData} {d : PyData}, OkL ds → OkV d → OkL (ds ++ [d])
  | [], d, _, h => by
    show OkL [d]
    unfold OkL OkL
    exact ⟨h, trivial⟩
  | e :: ds, d, h, k => by
    unfold OkL at h
    show OkL (e :: (ds ++ [d]))
    unfold OkL
    exact ⟨h.1, OkL.snoc h.2 k⟩
theorem depthAll_snoc : ∀ (ds : List PyData) (d : PyData), PyData.depthAll (ds ++ [d]) = max (PyData.depthAll ds) d.depth
  | [], d => by simp [PyData.depthAll]
  | e :: ds, d => by
    rw [List.cons_append, PyData.depthAll, PyData.depthAll, depthAll_snoc ds d]
    omega
/-! ### a method of a class of the program's own -/
def Mn (K : PySem.W.Frag) (C : Addr) (m q : Str) (st : Stmt) (ps : List Str) : Prop := ∃ f fd, Meth K C m f ∧ Fun K m q st f fd ∧ ∀ (s : Shared) (us : List Value), us.length = ps.length → BindsTo s fd ⟨us, []⟩ (ps.zip us)
def OkM (P : Program) (w : World) (K : PySem.W.Frag) (mg : Str → Option Value) (base : Heap) (CX : CXT) (k : Nat) (C : Addr) (m : Str) (ps : List Str) (sp : Sp) : Prop :=
  ∃ f fd, Meth K C m f ∧ Binds K fd ps [] ∧ FnOk P w K mg base CX k f fd ps sp
structure Cs (K : PySem.W.Frag) (mg : Str → Option Value) (x : Str) (C : Addr) : Prop where
  cl : Cls K C
  g : mg x = some (.ref C)
  made : PySem.W.makesIn K C = true
  kp : PySem.W.keepIn K (.ref C) = true
theorem cs_mk {K : PySem.W.Frag} {h : Heap} {mg : Str → Option Value} {x : Str} {C : Addr} (X : K.In h) (G : h.Ns mainGlobals mg) (a : PySem.W.nsIn K mainGlobals x = some (some (.ref C)))
    (pg : PySem.W.plainGet K C Str.empty = true) (hd : PySem.W.hasDictIn K C = true) (po : PySem.W.plainOver K C = true) (sa : PySem.W.findIn K (.ref C) "__setattr__" = some (some (.builtin "object.__setattr__"))) (mk : PySem.W.makesIn K C = true) (kc : PySem.W.keepIn K (.ref C) = true) : Cs K mg x C :=
  ⟨⟨pg, hd, po, sa⟩, PySem.W.mg_of X G a, mk, kc⟩
theorem mn_mk {K : PySem.W.Frag} {C : Addr} {m q : Str} {st : Stmt} {ps : List Str} {f : Addr} {oc kV doc pm cdv ct : Value} {od an : Option Addr} {osl : Array (Option Value)}
    (a : PySem.W.findIn K (.ref C) m = some (some (.ref f))) (i : PySem.W.isFn K (.ref f) = true) (l : K.lookup f = some ⟨oc, od, .func (PySem.W.fnOf m q (defArgs st) (defBody st) (defScope st) .none kV doc pm an cdv ct), osl⟩)
    (c : PySem.W.codeIn K cdv q = true) (k : PySem.W.keepIn K (.ref f) = true)
    (b : ∀ (kV doc pm : Value) (an : Option Addr) (cdv ct : Value) (us : List Value), us.length = ps.length → bindArgs (PySem.W.fnOf m q (defArgs st) (defBody st) (defScope st) .none kV doc pm an cdv ct) ⟨us, []⟩ = pure (ps.zip us)) : Mn K C m q st ps :=
  ⟨f, _, ⟨a, i, k⟩, fun_mk l c k, fun s us hl => .of_eq (b kV doc pm an cdv ct us hl)⟩
section
variable {P : Program} {w : World} {K : PySem.W.Frag} {mg : Str → Option Value} {base : Heap} {k : Nat} {C : Addr} {m q : Str} {st : Stmt} {ps N : List Str} {sp : Sp}
theorem ok_mkM (d : Mn K C m q st ps) (S : FnScope N ps (defScope st)) (len : ∀ vs H Q E, sp vs H Q E → vs.length = ps.length)
    (hbody : ∀ (f : Addr) (cdv : Value) (A : Around) (outer : List Env) (s : Shared) (H : Hp) (vs : List V) (Q : VK) (E : XK), Room k (A.deeper (envOfC q (defScope st) s.heap.objs.size f cdv)) → sp vs H Q E →
      ∃ t, PSs (cxOf CX0 P w K mg base N q (defScope st) f cdv A outer s H E).nox (defBody st) t ∧ t ⟨fun _ H' => Q .non H', Q, fun _ _ => False, fun _ _ => False⟩ (start N vs) H) : OkM P w K mg base CX0 (k + 1) C m ps sp := by
  obtain ⟨f, fd, M, F, b⟩ := d
  exact ⟨f, fd, M, binds_of b, F.ok S len fun cdv A outer s H vs Q E hr h => hbody f cdv A outer s H vs Q E hr h⟩
theorem ok_mkMX (d : Mn K C m q st ps) (S : FnScope N ps (defScope st)) (len : ∀ vs H Q E, sp vs H Q E → vs.length = ps.length)
    (hbody : ∀ (f : Addr) (cdv : Value) (A : Around) (outer : List Env) (s : Shared) (H : Hp) (vs : List V) (Q : VK) (E : XK), Room k (A.deeper (envOfC q (defScope st) s.heap.objs.size f cdv)) → sp vs H Q E →
      ∃ t, PSs (cxOf (L2.CX P w) P w K mg base N q (defScope st) f cdv A outer s H E) (defBody st) t ∧ t ⟨fun _ H' => Q .non H', Q, fun _ _ => False, fun _ _ => False⟩ (start N vs) H) : OkM P w K mg base (L2.CX P w) (k + 1) C m ps sp := by
  obtain ⟨f, fd, M, F, b⟩ := d
  exact ⟨f, fd, M, binds_of b, F.okX S len fun cdv A outer s H vs Q E hr h => hbody f cdv A outer s H vs Q E hr h⟩
end
section
variable {X : Cx} {C : Addr} {k : Nat} {m x : Str} {ps : List Str} {sp : Sp} {ta : TE} {t : TA} {o e : Expr} {es : List Expr} {p pos apos : Pos} {E : XK} {E' : L2.St → XK}
theorem pe_methD {pl : Sem Bool} {CX : CXT} (c : Cls X.K C) (O : OkM X.prog X.w X.K X.mg X.base CX k C m ps sp) (hr : Room k X.A) (hx : Passes CX X E) (he : PE X o ta) (ha : PA X (e :: es) t)
    (hst : starEach (e :: es) X.env = (false, eval e X.env) :: starEach es X.env := by rfl) (hpl : (backTo pos (starEach es X.env)).any (·.1) = false := by rfl)
    (ht : eval (.Call (.Attribute o m apos) (e :: es) [] pos) X.env = (do
      let ov ← eval o X.env; standAt apos.atName
      let (f, first) ← holding [ov] (getMethod ov m pl); callWith pos f first (backTo pos (starEach (e :: es) X.env)) (backToKw pos (keywordEach [] X.env))) := by rfl) :
    PE X (.Call (.Attribute o m apos) (e :: es) [] pos) (tMeth C m sp [] E ta t) := by
  obtain ⟨f, fd, M, b, F⟩ := O
  exact pe_meth he c M F hr b .nil hx ha hst hpl ht
theorem pe_methD0 {pl : Sem Bool} {CX : CXT} (c : Cls X.K C) (O : OkM X.prog X.w X.K X.mg X.base CX k C m ps sp) (hr : Room k X.A) (hx : Passes CX X E) (he : PE X o ta)
    (ht : eval (.Call (.Attribute o m apos) [] [] pos) X.env = (do
      let ov ← eval o X.env; standAt apos.atName
      let (f, first) ← holding [ov] (getMethod ov m pl); callWith pos f first (backTo pos (starEach [] X.env)) (backToKw pos (keywordEach [] X.env))) := by rfl) :
    PE X (.Call (.Attribute o m apos) [] [] pos) (tMeth C m sp [] E ta tNil) := by
  obtain ⟨f, fd, M, b, F⟩ := O
  exact pe_meth0 he c M F hr b .nil hx ht
theorem pe_makeC (c : Cs X.K X.mg x C) (O : OkM X.prog X.w X.K X.mg X.base CX0 k C "__init__" ps sp) (hr : Room (k + 1) X.A) (hg : Gl X x) (hx : Passes CX0 X E) (ha : PA X (e :: es) t)
    (hdb : (x == ("__debug__" : Str)) = false := by decide) (he : starEach (e :: es) X.env = (false, eval e X.env) :: starEach es X.env := by rfl) (hpl : (backTo pos (starEach es X.env)).any (·.1) = false := by rfl) :
    PE X (.Call (.Name x p) (e :: es) [] pos) (tMake C sp [] E t) := by
  obtain ⟨f, fd, M, b, F⟩ := O
  exact pe_make ⟨c.made, M.at_, M.fn, c.kp⟩ F hr hg c.g b .nil hx ha hdb he hpl
theorem pe_makeC0 (c : Cs X.K X.mg x C) (O : OkM X.prog X.w X.K X.mg X.base CX0 k C "__init__" ps sp) (hr : Room (k + 1) X.A) (hg : Gl X x) (hx : Passes CX0 X E)
    (hdb : (x == ("__debug__" : Str)) = false := by decide) :
    PE X (.Call (.Name x p) [] [] pos) (tMake C sp [] E tNil) := by
  obtain ⟨f, fd, M, b, F⟩ := O
  exact pe_make0 ⟨c.made, M.at_, M.fn, c.kp⟩ F hr hg c.g b .nil hx hdb
/-- the same where what is raised may depend on the slots -/
def zMethS (C : Addr) (m : Str) (sp : Sp) (E' : L2.St → XK) (ta : TE) (t : TA) : TE := fun σ H Q => ta σ H fun x H1 => ∃ a dx fs, x = .ref a ∧ H1 a = some (.ins C dx fs) ∧ fs.lookup m = none ∧ t σ H1 fun vs H2 => sp (x :: vs) H2 Q (E' σ)
theorem pe_methDS {pl : Sem Bool} (c : Cls X.K C) (O : OkM X.prog X.w X.K X.mg X.base (L2.CX X.prog X.w) k C m ps sp) (hr : Room k X.A) (hx : ∀ σ, PassesAt (L2.CX X.prog X.w) X σ (E' σ)) (he : PE X o ta) (ha : PA X (e :: es) t)
    (hst : starEach (e :: es) X.env = (false, eval e X.env) :: starEach es X.env := by rfl) (hpl : (backTo pos (starEach es X.env)).any (·.1) = false := by rfl)
    (ht : eval (.Call (.Attribute o m apos) (e :: es) [] pos) X.env = (do
      let ov ← eval o X.env; standAt apos.atName
      let (f, first) ← holding [ov] (getMethod ov m pl); callWith pos f first (backTo pos (starEach (e :: es) X.env)) (backToKw pos (keywordEach [] X.env))) := by rfl) :
    PE X (.Call (.Attribute o m apos) (e :: es) [] pos) (zMethS C m sp E' ta t) := by
  obtain ⟨f, fd, M, b, F⟩ := O
  constructor
  intro pins s σ H Q I h
  have one := he.run pins s σ H _ I h
  refine PySem.W.methodCall_KW (pl := pl) (thn one ?_) ht
  rintro u s1 ⟨x, H1, I1, rx, a, dx, fs, rfl, ea, l, q⟩
  cases rx
  refine getmeth_ok I1 ea c M l ?_
  have two := ha.run pos pins s1 σ H1 _ I1 q
  refine PySem.W.callWith_K (first := [.ref a]) (h₀ := X.base) I.ok.mod.kin M.kp (thn two ?_) hst hpl
  rintro us s2 ⟨vs, H2, I2, r, q2⟩
  exact ⟨I2.kIn, run_fnS (us := .ref a :: us) (vs := .ref a :: vs) F hr b (hx σ) I2 (.cons rfl r) q2⟩
end
def zStrI : List V → Hp → VK → Prop := fun xs H Q => ∃ i, xs = [V.int i] ∧ i.natAbs.log2 < 1920 ∧ Q (.str (toString i)) H
def zListOf (K : PySem.W.Frag) : List V → Hp → VK → Prop := fun xs H Q => ∃ p ys, xs = [V.ref p] ∧ (SqL K H p ys ∨ SqT K H p ys) ∧ ∀ l, H l = none → Q (.ref l) (upd H l (.lst ys))
def zFind : V → List V → Hp → VK → Prop := fun x xs H Q => ∃ a b, x = V.str a ∧ xs = [V.str b] ∧ Q (.int (Txt.find a b)) H
section
variable {X : Cx} {K : PySem.W.Frag} {σ : L2.St} {H H1 : Hp} {Q : VK} {i : Int} {a : Addr} {ys : List V} {x y : Str} {n j : Nat} {st sc D : Addr} {ns : List Int} {g : TG} {te : TE} {vs : List Nat} {Qd : Hp → Prop}
theorem y_strI : CallR X (.type "str") zStrI := call_str_int
theorem y_listOf : CallR X (.type "list") (zListOf X.K) := call_list_of
theorem y_find : MtR X "str.find" zFind := mt_find
theorem rd_strI (h0 : 0 ≤ i) (h1 : i < 1000) (h : Q (.str (toString i)) H) : zStrI [.int i] H Q := ⟨i, rfl, Nat.lt_of_le_of_lt (Nat.log2_le_self _) (by omega), h⟩
theorem rd_listL (c : SqL K H a ys) (h : ∀ l, H l = none → Q (.ref l) (upd H l (.lst ys))) : zListOf K [.ref a] H Q := ⟨a, ys, rfl, .inl c, h⟩
theorem rd_listT (c : SqT K H a ys) (h : ∀ l, H l = none → Q (.ref l) (upd H l (.lst ys))) : zListOf K [.ref a] H Q := ⟨a, ys, rfl, .inr c, h⟩
theorem rd_find (h : Q (.int (Txt.find x y)) H) : zFind (.str x) [.str y] H Q := ⟨x, y, rfl, rfl, h⟩
/-- a comprehension over range(n) with draws: what holds of the item at each place -/
theorem lcRi (G : Nat → Hp → V → Prop) (mono : ∀ i H H' y, Dr st H H' → Stt H st → G i H y → G i H' y) (W : Wd K st sc ns H1) (nD : H1 D = none) (hn : n ≤ 100000)
    (hs : ∀ (i : Nat) H (R : VK), i < n → Wd K st sc ns H → Dr st H1 H → (∀ y H', Dr st H H' → G i H' y → R y H') → g (.int (0 + (i : Nat))) (wipe σ vs) H fun σ2 H2 => wipe σ2 vs = wipe σ vs ∧ te σ2 H2 R)
    (hd : ∀ H' ys, Dr st H1 H' → Wd K st sc ns H' → D ≠ st → H' D = some (.lst ys) → ys.length = n → (∀ i y, ys[i]? = some y → G i H' y) → Qd H') (put : ∀ i H y zs, H1 D = none → H D = some (.lst zs) → G i H y → ∀ o, G i (upd H D o) y) : LcR n g te vs σ H1 D Qd := by
  have nS : D ≠ st := W.1.ne nD
  refine lc_range (Pv := fun i H => Dr st H1 H ∧ ∃ ys, H D = some (.lst ys) ∧ ys.length = i ∧ ∀ k y, ys[k]? = some y → G k H y) ?_ (fun i H hi hP => ?_) (fun H hP => ?_)
  · exact ⟨W.dr.new nD, [], upd_same, rfl, fun k y h => by simp at h⟩
  · obtain ⟨d, ys, e, el, eg⟩ := hP
    have q := hs i H (fun y H4 => ∃ acc, H4 D = some (.lst acc) ∧ acc.length < sizeLine ∧ (Dr st H1 (upd H4 D (.lst (acc ++ [y]))) ∧ ∃ ys, (upd H4 D (.lst (acc ++ [y]))) D = some (.lst ys) ∧ ys.length = i + 1 ∧ ∀ k z, ys[k]? = some z → G k (upd H4 D (.lst (acc ++ [y]))) z)) hi (W.next d) d (fun y H' d' gy => by
      have e' : H' D = some (.lst ys) := d'.1 _ _ nS e
      refine ⟨ys, e', lt_line (by omega), Dr.put W.1 (d.trans d') nD, ys ++ [y], upd_same, by rw [List.length_append, el]; rfl, fun k z hz => ?_⟩
      by_cases hk : k < ys.length
      · rw [List.getElem?_append_left hk] at hz
        exact put k H' z ys nD e' (mono k H H' z d' d.2 (eg k z hz)) _
      · have h2 := (List.getElem?_eq_some_iff.mp hz).1
        rw [List.length_append] at h2
        have h3 : k < ys.length + 1 := h2
        have ek : k = i := by omega
        rw [ek, ← el, List.getElem?_append_right (Nat.le_refl _), Nat.sub_self] at hz
        rw [ek, ← Option.some.inj hz]
        exact put i H' y ys nD e' gy _)
    exact q
  · obtain ⟨d, ys, e, el, eg⟩ := hP
    exact hd H ys d (W.next d) nS e el eg
end
section
variable {σ : L2.St} {H1 : Hp} {te : TE} {vs : List Nat} {j : Nat} {D : Addr} {xs : List V} {J : It} {Rl : Hp → Prop} {Qd : Hp → Prop}
/-- a comprehension that only reads: the item at each place -/
theorem lcSi (Wk : WalkOf J Rl xs) (hR : ∀ H, Same H1 H → Rl H) (nD : H1 D = none) (hn : xs.length ≤ 1000000) (F : Nat → V)
    (hs : ∀ i x, xs[i]? = some x → ∀ H (R : VK), Same H1 H → (∀ H'', Same H H'' → R (F i) H'') → wipe ((wipe σ vs).set j (some x)) vs = wipe σ vs ∧ te ((wipe σ vs).set j (some x)) H R)
    (hd : ∀ H', Same H1 H' → H' D = some (.lst ((List.range xs.length).map F)) → Qd H') : LcJ J (gName j) tYes te vs σ H1 D Qd := by
  refine lcJ Wk (fun i H => Same H1 H ∧ H D = some (.lst ((List.range i).map F))) ⟨same_new nD, by rw [upd_same]; rfl⟩ (fun i H _ p => hR H p.1) (fun i x H hx p => ?_) (fun H p => hd H p.1 p.2)
  obtain ⟨sm, e⟩ := p
  have hi := (List.getElem?_eq_some_iff.mp hx).1
  have q := hs i x hx H (fun y H4 => ∃ acc, H4 D = some (.lst acc) ∧ acc.length < sizeLine ∧ (Same H1 (upd H4 D (.lst (acc ++ [y]))) ∧ (upd H4 D (.lst (acc ++ [y]))) D = some (.lst ((List.range (i + 1)).map F)))) sm (fun H'' s2 => by
    refine ⟨_, s2 _ _ e, lt_line (by rw [List.length_map, List.length_range]; omega), fun b o eb => ?_, ?_⟩
    · rw [upd_ne (ne_of_none eb nD)]
      exact s2 _ _ (sm _ _ eb)
    · rw [upd_same, List.range_succ, List.map_append]
      rfl)
  exact ⟨q.1, q.2⟩
end
theorem range_get {α β : Type} (l : List α) (f : α → β) (F : Nat → β) (h : ∀ i a, l[i]? = some a → F i = f a) : (List.range l.length).map F = l.map f := by
  refine List.ext_getElem (by simp) fun i h1 h2 => ?_
  rw [List.getElem_map, List.getElem_range, List.getElem_map]
  exact h i _ (List.getElem?_eq_getElem _)
theorem Tk.put {H : Hp} {p l : Addr} {xs zs : List V} {o : HO} (t : Tk H p xs) (e : H l = some (.lst zs)) : Tk (upd H l o) p xs := by
  obtain ⟨b, h, q⟩ := t
  refine ⟨b, h, ?_⟩
  rw [upd_ne fun z => ?_]
  · exact q
  · rw [z, e] at q
    cases q
theorem rd_wLsG {xs : List V} {H : Hp} {Q : VK} (c : xs.length ≤ 1000) (h : ∀ (p : Addr) (H' : Hp), H p = none → Same H H' → H' p = some (.lst xs) → Q (.ref p) H') : wLs xs H Q := ⟨line_of (by omega), fun p n => h p _ n (same_new n) upd_same⟩
theorem if_tail {bb : Bool} {ta : TE} {g : TG} {nx bk ct : L2.St → Hp → Prop} {rt : VK} {σ : L2.St} {H : Hp} (Pre : L2.St → Hp → Prop) (tail : ∀ σ H, Pre σ H → nx σ H)
    (h : ∀ nx' : L2.St → Hp → Prop, (∀ σ H, Pre σ H → nx' σ H) → if bb = true then tAsg ta g ⟨nx', rt, bk, ct⟩ σ H else tNext ⟨nx', rt, bk, ct⟩ σ H) : if bb = true then tAsg ta g ⟨nx, rt, bk, ct⟩ σ H else tNext ⟨nx, rt, bk, ct⟩ σ H := h nx tail
/-- what stands behind a statement, once -/
theorem seq_to {t u : TS} {nx bk ct : L2.St → Hp → Prop} {rt : VK} {σ : L2.St} {H : Hp} (Pre : L2.St → Hp → Prop) (tail : ∀ σ H, Pre σ H → u ⟨nx, rt, bk, ct⟩ σ H)
    (h : ∀ nx' : L2.St → Hp → Prop, (∀ σ H, Pre σ H → nx' σ H) → t ⟨nx', rt, bk, ct⟩ σ H) : tSeq t u ⟨nx, rt, bk, ct⟩ σ H := h (u ⟨nx, rt, bk, ct⟩) tail
def wFld (K : PySem.W.Frag) (f : Str) (x : V) (H : Hp) (Q : VK) : Prop := ∃ a C dx fs v, x = .ref a ∧ H a = some (.ins C dx fs) ∧ Cls K C ∧ NoAttr K C f ∧ fs.lookup f = some v ∧ Q v H
def wSFld (K : PySem.W.Frag) (f : Str) (y : V) (x : V) (H : Hp) (R : Hp → Prop) : Prop := ∃ a C dx fs, x = .ref a ∧ H a = some (.ins C dx fs) ∧ Cls K C ∧ NoAttr K C f ∧ fs.length < 1000 ∧ R (upd H a (.ins C dx (putF f y fs)))
def wMeth (C : Addr) (m : Str) (x : V) (H : Hp) (R : Prop) : Prop := ∃ a dx fs, x = .ref a ∧ H a = some (.ins C dx fs) ∧ fs.lookup m = none ∧ R
section
variable {K : PySem.W.Frag} {σ : L2.St} {H : Hp} {Q : VK} {nx bk ct : L2.St → Hp → Prop} {rt : VK} {ta tv : TE} {t : TA} {a C dx : Addr} {fs : List (Str × V)} {f m : Str} {v y : V} {sp : Sp} {E : XK} {E' : L2.St → XK} {R : Hp → Prop} {R' : Prop}
theorem rd_fld (h : ta σ H fun x H1 => wFld K f x H1 Q) : tFld K ta f σ H Q := h
theorem rd_sfld (h : tv σ H fun y H1 => ta σ H1 fun x H2 => wSFld K f y x H2 fun H3 => nx σ H3) : sFld K ta tv f ⟨nx, rt, bk, ct⟩ σ H := h
theorem rd_wFld (e : H a = some (.ins C dx fs)) (c : Cls K C) (n : NoAttr K C f) (l : fs.lookup f = some v) (h : Q v H) : wFld K f (.ref a) H Q := ⟨a, C, dx, fs, v, rfl, e, c, n, l, h⟩
theorem rd_wSFld (e : H a = some (.ins C dx fs)) (c : Cls K C) (n : NoAttr K C f) (l : fs.length < 1000) (h : R (upd H a (.ins C dx (putF f y fs)))) : wSFld K f y (.ref a) H R := ⟨a, C, dx, fs, rfl, e, c, n, l, h⟩
theorem rd_meth (h : ta σ H fun x H1 => wMeth C m x H1 (t σ H1 fun vs H2 => sp (x :: vs) H2 Q E)) : tMeth C m sp [] E ta t σ H Q := by
  unfold tMeth
  simp only [List.append_nil]
  exact h
theorem rd_methS (h : ta σ H fun x H1 => wMeth C m x H1 (t σ H1 fun vs H2 => sp (x :: vs) H2 Q (E' σ))) : zMethS C m sp E' ta t σ H Q := h
theorem rd_wMeth (e : H a = some (.ins C dx fs)) (l : fs.lookup m = none) (h : R') : wMeth C m (.ref a) H R' := ⟨a, dx, fs, rfl, e, l, h⟩
theorem rd_make (h : t σ H fun vs H1 => ∀ x dx, H1 x = none → H1 dx = none → dx ≠ x → sp (.ref x :: vs) (upd (upd H1 dx (.own x)) x (.ins C dx [])) (fun v H2 => v = .non ∧ Q (.ref x) H2) E) : tMake C sp [] E t σ H Q := by
  unfold tMake
  simpa only [List.append_nil] using h
theorem rd_v12 {a0 a1 a2 a3 a4 a5 a6 a7 a8 a9 a10 a11} {l : L2.St} (h : Q v H) : tVar 12 (a0 :: a1 :: a2 :: a3 :: a4 :: a5 :: a6 :: a7 :: a8 :: a9 :: a10 :: a11 :: some v :: l) H Q := ⟨v, rfl, h⟩
theorem rd_n12 {a0 a1 a2 a3 a4 a5 a6 a7 a8 a9 a10 a11 b} {l : L2.St} {QG : L2.St → Hp → Prop} (h : QG (a0 :: a1 :: a2 :: a3 :: a4 :: a5 :: a6 :: a7 :: a8 :: a9 :: a10 :: a11 :: some v :: l) H) : gName 12 v (a0 :: a1 :: a2 :: a3 :: a4 :: a5 :: a6 :: a7 :: a8 :: a9 :: a10 :: a11 :: b :: l) H QG := h
theorem rd_v13 {a0 a1 a2 a3 a4 a5 a6 a7 a8 a9 a10 a11 a12} {l : L2.St} (h : Q v H) : tVar 13 (a0 :: a1 :: a2 :: a3 :: a4 :: a5 :: a6 :: a7 :: a8 :: a9 :: a10 :: a11 :: a12 :: some v :: l) H Q := ⟨v, rfl, h⟩
theorem rd_n13 {a0 a1 a2 a3 a4 a5 a6 a7 a8 a9 a10 a11 a12 b} {l : L2.St} {QG : L2.St → Hp → Prop} (h : QG (a0 :: a1 :: a2 :: a3 :: a4 :: a5 :: a6 :: a7 :: a8 :: a9 :: a10 :: a11 :: a12 :: some v :: l) H) : gName 13 v (a0 :: a1 :: a2 :: a3 :: a4 :: a5 :: a6 :: a7 :: a8 :: a9 :: a10 :: a11 :: a12 :: b :: l) H QG := h
theorem rd_v14 {a0 a1 a2 a3 a4 a5 a6 a7 a8 a9 a10 a11 a12 a13} {l : L2.St} (h : Q v H) : tVar 14 (a0 :: a1 :: a2 :: a3 :: a4 :: a5 :: a6 :: a7 :: a8 :: a9 :: a10 :: a11 :: a12 :: a13 :: some v :: l) H Q := ⟨v, rfl, h⟩
theorem rd_n14 {a0 a1 a2 a3 a4 a5 a6 a7 a8 a9 a10 a11 a12 a13 b} {l : L2.St} {QG : L2.St → Hp → Prop} (h : QG (a0 :: a1 :: a2 :: a3 :: a4 :: a5 :: a6 :: a7 :: a8 :: a9 :: a10 :: a11 :: a12 :: a13 :: some v :: l) H) : gName 14 v (a0 :: a1 :: a2 :: a3 :: a4 :: a5 :: a6 :: a7 :: a8 :: a9 :: a10 :: a11 :: a12 :: a13 :: b :: l) H QG := h
theorem rd_v15 {a0 a1 a2 a3 a4 a5 a6 a7 a8 a9 a10 a11 a12 a13 a14} {l : L2.St} (h : Q v H) : tVar 15 (a0 :: a1 :: a2 :: a3 :: a4 :: a5 :: a6 :: a7 :: a8 :: a9 :: a10 :: a11 :: a12 :: a13 :: a14 :: some v :: l) H Q := ⟨v, rfl, h⟩
theorem rd_n15 {a0 a1 a2 a3 a4 a5 a6 a7 a8 a9 a10 a11 a12 a13 a14 b} {l : L2.St} {QG : L2.St → Hp → Prop} (h : QG (a0 :: a1 :: a2 :: a3 :: a4 :: a5 :: a6 :: a7 :: a8 :: a9 :: a10 :: a11 :: a12 :: a13 :: a14 :: some v :: l) H) : gName 15 v (a0 :: a1 :: a2 :: a3 :: a4 :: a5 :: a6 :: a7 :: a8 :: a9 :: a10 :: a11 :: a12 :: a13 :: a14 :: b :: l) H QG := h
theorem rd_v16 {a0 a1 a2 a3 a4 a5 a6 a7 a8 a9 a10 a11 a12 a13 a14 a15} {l : L2.St} (h : Q v H) : tVar 16 (a0 :: a1 :: a2 :: a3 :: a4 :: a5 :: a6 :: a7 :: a8 :: a9 :: a10 :: a11 :: a12 :: a13 :: a14 :: a15 :: some v :: l) H Q := ⟨v, rfl, h⟩
theorem rd_n16 {a0 a1 a2 a3 a4 a5 a6 a7 a8 a9 a10 a11 a12 a13 a14 a15 b} {l : L2.St} {QG : L2.St → Hp → Prop} (h : QG (a0 :: a1 :: a2 :: a3 :: a4 :: a5 :: a6 :: a7 :: a8 :: a9 :: a10 :: a11 :: a12 :: a13 :: a14 :: a15 :: some v :: l) H) : gName 16 v (a0 :: a1 :: a2 :: a3 :: a4 :: a5 :: a6 :: a7 :: a8 :: a9 :: a10 :: a11 :: a12 :: a13 :: a14 :: a15 :: b :: l) H QG := h
theorem rd_v17 {a0 a1 a2 a3 a4 a5 a6 a7 a8 a9 a10 a11 a12 a13 a14 a15 a16} {l : L2.St} (h : Q v H) : tVar 17 (a0 :: a1 :: a2 :: a3 :: a4 :: a5 :: a6 :: a7 :: a8 :: a9 :: a10 :: a11 :: a12 :: a13 :: a14 :: a15 :: a16 :: some v :: l) H Q := ⟨v, rfl, h⟩
theorem rd_n17 {a0 a1 a2 a3 a4 a5 a6 a7 a8 a9 a10 a11 a12 a13 a14 a15 a16 b} {l : L2.St} {QG : L2.St → Hp → Prop} (h : QG (a0 :: a1 :: a2 :: a3 :: a4 :: a5 :: a6 :: a7 :: a8 :: a9 :: a10 :: a11 :: a12 :: a13 :: a14 :: a15 :: a16 :: some v :: l) H) : gName 17 v (a0 :: a1 :: a2 :: a3 :: a4 :: a5 :: a6 :: a7 :: a8 :: a9 :: a10 :: a11 :: a12 :: a13 :: a14 :: a15 :: a16 :: b :: l) H QG := h
theorem rd_v18 {a0 a1 a2 a3 a4 a5 a6 a7 a8 a9 a10 a11 a12 a13 a14 a15 a16 a17} {l : L2.St} (h : Q v H) : tVar 18 (a0 :: a1 :: a2 :: a3 :: a4 :: a5 :: a6 :: a7 :: a8 :: a9 :: a10 :: a11 :: a12 :: a13 :: a14 :: a15 :: a16 :: a17 :: some v :: l) H Q := ⟨v, rfl, h⟩
theorem rd_n18 {a0 a1 a2 a3 a4 a5 a6 a7 a8 a9 a10 a11 a12 a13 a14 a15 a16 a17 b} {l : L2.St} {QG : L2.St → Hp → Prop} (h : QG (a0 :: a1 :: a2 :: a3 :: a4 :: a5 :: a6 :: a7 :: a8 :: a9 :: a10 :: a11 :: a12 :: a13 :: a14 :: a15 :: a16 :: a17 :: some v :: l) H) : gName 18 v (a0 :: a1 :: a2 :: a3 :: a4 :: a5 :: a6 :: a7 :: a8 :: a9 :: a10 :: a11 :: a12 :: a13 :: a14 :: a15 :: a16 :: a17 :: b :: l) H QG := h
theorem rd_v19 {a0 a1 a2 a3 a4 a5 a6 a7 a8 a9 a10 a11 a12 a13 a14 a15 a16 a17 a18} {l : L2.St} (h : Q v H) : tVar 19 (a0 :: a1 :: a2 :: a3 :: a4 :: a5 :: a6 :: a7 :: a8 :: a9 :: a10 :: a11 :: a12 :: a13 :: a14 :: a15 :: a16 :: a17 :: a18 :: some v :: l) H Q := ⟨v, rfl, h⟩
theorem rd_n19 {a0 a1 a2 a3 a4 a5 a6 a7 a8 a9 a10 a11 a12 a13 a14 a15 a16 a17 a18 b} {l : L2.St} {QG : L2.St → Hp → Prop} (h : QG (a0 :: a1 :: a2 :: a3 :: a4 :: a5 :: a6 :: a7 :: a8 :: a9 :: a10 :: a11 :: a12 :: a13 :: a14 :: a15 :: a16 :: a17 :: a18 :: some v :: l) H) : gName 19 v (a0 :: a1 :: a2 :: a3 :: a4 :: a5 :: a6 :: a7 :: a8 :: a9 :: a10 :: a11 :: a12 :: a13 :: a14 :: a15 :: a16 :: a17 :: a18 :: b :: l) H QG := h
theorem rd_v20 {a0 a1 a2 a3 a4 a5 a6 a7 a8 a9 a10 a11 a12 a13 a14 a15 a16 a17 a18 a19} {l : L2.St} (h : Q v H) : tVar 20 (a0 :: a1 :: a2 :: a3 :: a4 :: a5 :: a6 :: a7 :: a8 :: a9 :: a10 :: a11 :: a12 :: a13 :: a14 :: a15 :: a16 :: a17 :: a18 :: a19 :: some v :: l) H Q := ⟨v, rfl, h⟩
theorem rd_n20 {a0 a1 a2 a3 a4 a5 a6 a7 a8 a9 a10 a11 a12 a13 a14 a15 a16 a17 a18 a19 b} {l : L2.St} {QG : L2.St → Hp → Prop} (h : QG (a0 :: a1 :: a2 :: a3 :: a4 :: a5 :: a6 :: a7 :: a8 :: a9 :: a10 :: a11 :: a12 :: a13 :: a14 :: a15 :: a16 :: a17 :: a18 :: a19 :: some v :: l) H) : gName 20 v (a0 :: a1 :: a2 :: a3 :: a4 :: a5 :: a6 :: a7 :: a8 :: a9 :: a10 :: a11 :: a12 :: a13 :: a14 :: a15 :: a16 :: a17 :: a18 :: a19 :: b :: l) H QG := h
theorem rd_v21 {a0 a1 a2 a3 a4 a5 a6 a7 a8 a9 a10 a11 a12 a13 a14 a15 a16 a17 a18 a19 a20} {l : L2.St} (h : Q v H) : tVar 21 (a0 :: a1 :: a2 :: a3 :: a4 :: a5 :: a6 :: a7 :: a8 :: a9 :: a10 :: a11 :: a12 :: a13 :: a14 :: a15 :: a16 :: a17 :: a18 :: a19 :: a20 :: some v :: l) H Q := ⟨v, rfl, h⟩
theorem rd_n21 {a0 a1 a2 a3 a4 a5 a6 a7 a8 a9 a10 a11 a12 a13 a14 a15 a16 a17 a18 a19 a20 b} {l : L2.St} {QG : L2.St → Hp → Prop} (h : QG (a0 :: a1 :: a2 :: a3 :: a4 :: a5 :: a6 :: a7 :: a8 :: a9 :: a10 :: a11 :: a12 :: a13 :: a14 :: a15 :: a16 :: a17 :: a18 :: a19 :: a20 :: some v :: l) H) : gName 21 v (a0 :: a1 :: a2 :: a3 :: a4 :: a5 :: a6 :: a7 :: a8 :: a9 :: a10 :: a11 :: a12 :: a13 :: a14 :: a15 :: a16 :: a17 :: a18 :: a19 :: a20 :: b :: l) H QG := h
theorem rd_v22 {a0 a1 a2 a3 a4 a5 a6 a7 a8 a9 a10 a11 a12 a13 a14 a15 a16 a17 a18 a19 a20 a21} {l : L2.St} (h : Q v H) : tVar 22 (a0 :: a1 :: a2 :: a3 :: a4 :: a5 :: a6 :: a7 :: a8 :: a9 :: a10 :: a11 :: a12 :: a13 :: a14 :: a15 :: a16 :: a17 :: a18 :: a19 :: a20 :: a21 :: some v :: l) H Q := ⟨v, rfl, h⟩
theorem rd_n22 {a0 a1 a2 a3 a4 a5 a6 a7 a8 a9 a10 a11 a12 a13 a14 a15 a16 a17 a18 a19 a20 a21 b} {l : L2.St} {QG : L2.St → Hp → Prop} (h : QG (a0 :: a1 :: a2 :: a3 :: a4 :: a5 :: a6 :: a7 :: a8 :: a9 :: a10 :: a11 :: a12 :: a13 :: a14 :: a15 :: a16 :: a17 :: a18 :: a19 :: a20 :: a21 :: some v :: l) H) : gName 22 v (a0 :: a1 :: a2 :: a3 :: a4 :: a5 :: a6 :: a7 :: a8 :: a9 :: a10 :: a11 :: a12 :: a13 :: a14 :: a15 :: a16 :: a17 :: a18 :: a19 :: a20 :: a21 :: b :: l) H QG := h
theorem rd_v23 {a0 a1 a2 a3 a4 a5 a6 a7 a8 a9 a10 a11 a12 a13 a14 a15 a16 a17 a18 a19 a20 a21 a22} {l : L2.St} (h : Q v H) : tVar 23 (a0 :: a1 :: a2 :: a3 :: a4 :: a5 :: a6 :: a7 :: a8 :: a9 :: a10 :: a11 :: a12 :: a13 :: a14 :: a15 :: a16 :: a17 :: a18 :: a19 :: a20 :: a21 :: a22 :: some v :: l) H Q := ⟨v, rfl, h⟩
theorem rd_n23 {a0 a1 a2 a3 a4 a5 a6 a7 a8 a9 a10 a11 a12 a13 a14 a15 a16 a17 a18 a19 a20 a21 a22 b} {l : L2.St} {QG : L2.St → Hp → Prop} (h : QG (a0 :: a1 :: a2 :: a3 :: a4 :: a5 :: a6 :: a7 :: a8 :: a9 :: a10 :: a11 :: a12 :: a13 :: a14 :: a15 :: a16 :: a17 :: a18 :: a19 :: a20 :: a21 :: a22 :: some v :: l) H) : gName 23 v (a0 :: a1 :: a2 :: a3 :: a4 :: a5 :: a6 :: a7 :: a8 :: a9 :: a10 :: a11 :: a12 :: a13 :: a14 :: a15 :: a16 :: a17 :: a18 :: a19 :: a20 :: a21 :: a22 :: b :: l) H QG := h
theorem rd_v24 {a0 a1 a2 a3 a4 a5 a6 a7 a8 a9 a10 a11 a12 a13 a14 a15 a16 a17 a18 a19 a20 a21 a22 a23} {l : L2.St} (h : Q v H) : tVar 24 (a0 :: a1 :: a2 :: a3 :: a4 :: a5 :: a6 :: a7 :: a8 :: a9 :: a10 :: a11 :: a12 :: a13 :: a14 :: a15 :: a16 :: a17 :: a18 :: a19 :: a20 :: a21 :: a22 :: a23 :: some v :: l) H Q := ⟨v, rfl, h⟩
theorem rd_n24 {a0 a1 a2 a3 a4 a5 a6 a7 a8 a9 a10 a11 a12 a13 a14 a15 a16 a17 a18 a19 a20 a21 a22 a23 b} {l : L2.St} {QG : L2.St → Hp → Prop} (h : QG (a0 :: a1 :: a2 :: a3 :: a4 :: a5 :: a6 :: a7 :: a8 :: a9 :: a10 :: a11 :: a12 :: a13 :: a14 :: a15 :: a16 :: a17 :: a18 :: a19 :: a20 :: a21 :: a22 :: a23 :: some v :: l) H) : gName 24 v (a0 :: a1 :: a2 :: a3 :: a4 :: a5 :: a6 :: a7 :: a8 :: a9 :: a10 :: a11 :: a12 :: a13 :: a14 :: a15 :: a16 :: a17 :: a18 :: a19 :: a20 :: a21 :: a22 :: a23 :: b :: l) H QG := h
theorem rd_v25 {a0 a1 a2 a3 a4 a5 a6 a7 a8 a9 a10 a11 a12 a13 a14 a15 a16 a17 a18 a19 a20 a21 a22 a23 a24} {l : L2.St} (h : Q v H) : tVar 25 (a0 :: a1 :: a2 :: a3 :: a4 :: a5 :: a6 :: a7 :: a8 :: a9 :: a10 :: a11 :: a12 :: a13 :: a14 :: a15 :: a16 :: a17 :: a18 :: a19 :: a20 :: a21 :: a22 :: a23 :: a24 :: some v :: l) H Q := ⟨v, rfl, h⟩
theorem rd_n25 {a0 a1 a2 a3 a4 a5 a6 a7 a8 a9 a10 a11 a12 a13 a14 a15 a16 a17 a18 a19 a20 a21 a22 a23 a24 b} {l : L2.St} {QG : L2.St → Hp → Prop} (h : QG (a0 :: a1 :: a2 :: a3 :: a4 :: a5 :: a6 :: a7 :: a8 :: a9 :: a10 :: a11 :: a12 :: a13 :: a14 :: a15 :: a16 :: a17 :: a18 :: a19 :: a20 :: a21 :: a22 :: a23 :: a24 :: some v :: l) H) : gName 25 v (a0 :: a1 :: a2 :: a3 :: a4 :: a5 :: a6 :: a7 :: a8 :: a9 :: a10 :: a11 :: a12 :: a13 :: a14 :: a15 :: a16 :: a17 :: a18 :: a19 :: a20 :: a21 :: a22 :: a23 :: a24 :: b :: l) H QG := h
theorem rd_nil0 {QA : List V → Hp → Prop} (h : QA [] H) : tNil σ H QA := h
end
/-! ### data that may be compared -/
def Sh (n : Nat) (d : PyData) : Prop := d.canLay0 = true ∧ d.depth ≤ n
theorem Sh.mono {n m : Nat} {d : PyData} (h : Sh n d) (l : n ≤ m) : Sh m d := ⟨h.1, Nat.le_trans h.2 l⟩
theorem Sh.none : Sh 0 .none := ⟨by simp [PyData.canLay0], by simp [PyData.depth]⟩
theorem Sh.bool (b : Bool) : Sh 0 (.bool b) := ⟨by simp [PyData.canLay0], by simp [PyData.depth]⟩
theorem Sh.int (i : Int) : Sh 0 (.int i) := ⟨by simp [PyData.canLay0], by simp [PyData.depth]⟩
theorem Sh.str {x : Str} (h : Asc x) : Sh 0 (.str x) := ⟨by simp [PyData.canLay0, ok_asc h], by simp [PyData.depth]⟩
theorem sh_all {n : Nat} : ∀ {ds : List PyData}, (∀ d ∈ ds, Sh n d) → PyData.canLayAll0 ds = true ∧ PyData.depthAll ds ≤ n
  | [], _ => ⟨by simp [PyData.canLayAll0], by simp [PyData.depthAll]⟩
  | d :: ds, h => by
    have h1 := h d List.mem_cons_self
    have h2 := sh_all (ds := ds) fun e he => h e (List.mem_cons_of_mem _ he)
    refine ⟨?_, ?_⟩
    · rw [PyData.canLayAll0, h1.1, h2.1, Bool.and_self]
    · rw [PyData.depthAll]
      have a := h1.2
      have b := h2.2
      omega
theorem Sh.tuple {n : Nat} {ds : List PyData} (h : ∀ d ∈ ds, Sh n d) : Sh (n + 1) (.tuple ds) := by
  obtain ⟨a, b⟩ := sh_all h
  refine ⟨by rw [PyData.canLay0]; exact a, ?_⟩
  rw [PyData.depth]
  omega
theorem Sh.list {n : Nat} {ds : List PyData} (h : ∀ d ∈ ds, Sh n d) : Sh (n + 1) (.list ds) := by
  obtain ⟨a, b⟩ := sh_all h
  refine ⟨by rw [PyData.canLay0]; exact a, ?_⟩
  rw [PyData.depth]
  omega
theorem Sh.shaped {n : Nat} {d : PyData} (h : Sh n d) (l : n ≤ 64 := by decide) : SeqAt.shaped d = true := by
  unfold SeqAt.shaped
  rw [h.1, decide_eq_true (Nat.le_trans h.2 l)]
  rfl
theorem Sh.refl {n : Nat} {d : PyData} (h : Sh n d) : PyData.eqv d d = true := SeqAt.eqv_refl d h.1
theorem Sh.two {n : Nat} {d e : PyData} (h : Sh n d) (g : Sh n e) : ∀ z ∈ [d, e], Sh n z := fun z hz => by
  simp only [List.mem_cons, List.not_mem_nil, or_false] at hz
  rcases hz with rfl | rfl
  · exact h
  · exact g
theorem Sh.three {n : Nat} {d e f : PyData} (h : Sh n d) (g : Sh n e) (k : Sh n f) : ∀ z ∈ [d, e, f], Sh n z := fun z hz => by
  simp only [List.mem_cons, List.not_mem_nil, or_false] at hz
  rcases hz with rfl | rfl | rfl
  · exact h
  · exact g
  · exact k
theorem Sh.one {n : Nat} {d : PyData} (h : Sh n d) : ∀ z ∈ [d], Sh n z := fun z hz => by
  rw [List.mem_singleton.mp hz]
  exact h
section
variable {K : PySem.W.Frag} {H : Hp} {Q : VK} {x y : V} {d : PyData} {n : Nat}
theorem rd_neV (h1 : Va H x d) (h2 : Va H y d) (s : Sh n d) (h : Q (.bl false) H) (l : n ≤ 64 := by decide) : rNeD K x y H Q := rd_neSame h1.dp h2.dp (s.shaped l) s.refl h
end
theorem Va.pair {H : Hp} {a : Addr} {v w : V} {d e : PyData} (t : Tk H a [v, w]) (h : Va H v d) (g : Va H w e) : Va H (.ref a) (.tuple [d, e]) := .tup t (.cons h (.cons g .nil))
theorem Va.tri {H : Hp} {a : Addr} {u v w : V} {c d e : PyData} (t : Tk H a [u, v, w]) (f : Va H u c) (h : Va H v d) (g : Va H w e) : Va H (.ref a) (.tuple [c, d, e]) := .tup t (.cons f (.cons h (.cons g .nil)))
theorem VaL.strs {H : Hp} : ∀ xs : List Str, VaL H (xs.map V.str) (xs.map PyData.str)
  | [] => .nil
  | x :: xs => .cons (.str x) (VaL.strs xs)
theorem sh_strs {xs : List Str} (h : ∀ x ∈ xs, Asc x) : Sh 1 (.tuple (xs.map PyData.str)) := Sh.tuple fun d hd => by
  obtain ⟨x, hx, rfl⟩ := List.mem_map.mp hd
  exact Sh.str (h x hx)
theorem Va.put {H : Hp} {v : V} {d : PyData} {l : Addr} {zs : List V} {o : HO} (h : Va H v d) (e : H l = some (.lst zs)) : Va (upd H l o) v d := h.mono fun _ _ t => t.put e
theorem VaL.put {H : Hp} {v : List V} {d : List PyData} {l : Addr} {zs : List V} {o : HO} (h : VaL H v d) (e : H l = some (.lst zs)) : VaL (upd H l o) v d := h.mono fun _ _ t => t.put e
/-! ### the end of a text that another is -/
theorem ends_tl (x y : Str) : Txt.endswith x y = (decide (y.length ≤ x.length) && ((tl x).drop (x.length - y.length) == tl y)) := by
  unfold Txt.endswith
  rw [StrLaws.subAt_eq, Nat.zero_add]
  by_cases h : y.length ≤ x.length
  · rw [decide_eq_true h, Bool.true_and, Bool.true_and]
    have e : ((tl x).drop (x.length - y.length)).length = y.length := by
      rw [List.length_drop, ← len_tl]
      omega
    show ((List.drop (x.length - y.length) (tl x)).take y.length == tl y) = _
    rw [List.take_of_length_le (Nat.le_of_eq e)]
  · rw [decide_eq_false h]
    rfl
theorem cut_end (d s : Str) : decide (cutS d (some (-(s.length : Int) - 1)) none = Str.ofString "." ++ s) = Txt.endswith d (Str.ofString "." ++ s) := by
  have hl : (Str.ofString "." ++ s).length = s.length + 1 := by rw [len_app, len_dot, Nat.add_comm]
  have hs : HT.sIx d.length 0 (some (-(s.length : Int) - 1)) = d.length - (s.length + 1) := by
    show (if (-(s.length : Int) - 1) < 0 then ((-(s.length : Int) - 1) + (d.length : Int)).toNat else min (-(s.length : Int) - 1).toNat d.length) = _
    rw [if_pos (by omega)]
    omega
  have hc : tl (cutS d (some (-(s.length : Int) - 1)) none) = (tl d).drop (d.length - (s.length + 1)) := by
    unfold cutS
    rw [tl_mk, hs, HT.sIx_none]
    exact List.take_of_length_le (by rw [List.length_drop, ← len_tl]; exact Nat.le_refl _)
  rw [ends_tl, hl]
  by_cases e : cutS d (some (-(s.length : Int) - 1)) none = Str.ofString "." ++ s
  · rw [decide_eq_true e, ← hc, e, beq_self_eq_true, Bool.and_true]
    have q := congrArg Str.length e
    have k := len_cut d (some (-(s.length : Int) - 1)) none
    rw [q, hl] at k
    exact (decide_eq_true k).symm
  · rw [decide_eq_false e]
    symm
    rw [Bool.and_eq_false_iff]
    by_cases g : s.length + 1 ≤ d.length
    · right
      refine beq_eq_false_iff_ne.mpr fun q => e (ext_tl ?_)
      rw [hc]
      exact q
    · exact .inl (decide_eq_false g)
/-! ### routes: the place of the longest end that matches, of those of one length the first -/
def mch (dom s : Str) : Bool := decide (s = Str.ofString "") || decide (dom = s) || Txt.endswith dom (Str.ofString "." ++ s)
def bst (dom : Str) (rs : List Str) : Nat → Option Nat
  | 0 => none
  | i + 1 => match rs[i]? with
    | none => bst dom rs i
    | some s => if mch dom s = true then (match bst dom rs i with
        | none => some i
        | some k => if ((rs[k]?).getD Str.empty).length < s.length then some i else some k) else bst dom rs i
theorem bst_lt (dom : Str) (rs : List Str) : ∀ i k, bst dom rs i = some k → k < i ∧ k < rs.length
  | 0, k, h => by cases h
  | i + 1, k, h => by
    unfold bst at h
    cases e : rs[i]? with
    | none =>
      rw [e] at h
      have := bst_lt dom rs i k h
      omega
    | some s =>
      have hi := (List.getElem?_eq_some_iff.mp e).1
      rw [e] at h
      dsimp only at h
      by_cases m : mch dom s = true
      · rw [if_pos m] at h
        cases f : bst dom rs i with
        | none =>
          rw [f] at h
          obtain rfl := Option.some.inj h
          omega
        | some j =>
          rw [f] at h
          dsimp only at h
          have q := bst_lt dom rs i j f
          by_cases l : ((rs[j]?).getD Str.empty).length < s.length
          · rw [if_pos l] at h
            obtain rfl := Option.some.inj h
            omega
          · rw [if_neg l] at h
            obtain rfl := Option.some.inj h
            omega
      · rw [if_neg m] at h
        have := bst_lt dom rs i k h
        omega
local macro_rules | `(tactic| walk_at "rd") => `(tactic| repeat (with_reducible first
  | refine rd_seq ?_ | refine rd_asg ?_ | refine rd_cons ?_ | refine rd_nil ?_ | refine rd_c ?_ | refine rd_op ?_
  | refine rd_v0 ?_ | refine rd_v1 ?_ | refine rd_v2 ?_ | refine rd_v3 ?_ | refine rd_v4 ?_ | refine rd_v5 ?_ | refine rd_v6 ?_ | refine rd_v7 ?_ | refine rd_v8 ?_ | refine rd_v9 ?_ | refine rd_v10 ?_ | refine rd_v11 ?_
  | refine rd_n0 ?_ | refine rd_n1 ?_ | refine rd_n2 ?_ | refine rd_n3 ?_ | refine rd_n4 ?_ | refine rd_n5 ?_ | refine rd_n6 ?_ | refine rd_n7 ?_ | refine rd_n8 ?_ | refine rd_n9 ?_ | refine rd_n10 ?_ | refine rd_n11 ?_
  | refine rd_i0 ?_ | refine rd_iC ?_ ?_ | refine rd_cb ?_ | refine rd_call ?_ | refine rd_test ?_ | refine rd_tB ?_ | refine rd_wBl ?_
  | refine rd_ifS ?_ | refine rd_ret ?_ | refine rd_next ?_ | refine rd_retN ?_ | refine rd_drop ?_
  | refine rd_eqI ?_ | refine rd_neI ?_ | refine rd_eqS ?_ | refine rd_neS ?_ | refine rd_un ?_ | refine rd_u ?_
  | refine rd_and ?_ | refine rd_or ?_ | refine rd_not ?_ | refine rd_notV ?_ | refine rd_andV ?_ | refine rd_orV ?_ | refine rd_ifE ?_ | refine rd_ch ?_ | refine rd_wCh ?_
  | refine rd_tt ?_ | refine rd_ls ?_ | refine rd_sl ?_ | refine rd_noP ?_ | refine rd_part ?_ | refine rd_wPart ?_ | refine rd_m1 ?_ | refine rd_wM ?_
  | refine rd_js ?_ | refine rd_jc ?_ | refine rd_jn ?_ | refine rd_wJs ?_ ?_ | refine rd_fmt ?_ | refine rd_fmtR ?_ | refine rd_wFmt ?_ ?_ | refine rd_wFmtR ?_ ?_
  | refine rd_lenS ?_ ?_ | refine rd_int ?_ | refine rd_intB ?_ | refine rd_starts ?_ | refine rd_ends ?_ | refine rd_rstrip ?_ ?_ | refine rd_adS ?_ ?_ | refine rd_slS ?_ ?_
  | refine rd_in1 ?_ | refine rd_isB ?_ | refine rd_isN ?_ | refine rd_notN ?_ | refine rd_iT ?_ | refine rd_iF ?_ | refine rd_yes ?_ | refine rd_truth ?_ | refine rd_lcR ?_ | refine rd_gSub ?_ | refine rd_forR ?_ | refine rd_bm ?_ | refine rd_lcT ?_ | refine rd_lcL ?_ | refine rd_lcS ?_ | refine rd_frT ?_ | refine rd_frL ?_ | refine rd_wStr ?_ | refine rd_gCons ?_ | refine rd_gNil ?_ | refine rd_tix ?_ | refine rd_iNT ?_ | refine rd_iNF ?_ | refine rd_m0 ?_ | refine rd_upper ?_ ?_ | refine rd_ninS ?_ | refine rd_inS ?_ | refine rd_callS ?_ | refine rd_raise ?_ | refine rd_tryO ?_ | refine rd_tryA ?_ | refine rd_eqB ?_ | refine rd_fld ?_ | refine rd_sfld ?_ | refine rd_meth ?_ | refine rd_methS ?_ | refine rd_make ?_ | refine rd_nil0 ?_ | refine rd_find ?_
  | refine rd_v12 ?_ | refine rd_v13 ?_ | refine rd_v14 ?_ | refine rd_v15 ?_ | refine rd_v16 ?_ | refine rd_v17 ?_ | refine rd_v18 ?_ | refine rd_v19 ?_ | refine rd_v20 ?_ | refine rd_v21 ?_ | refine rd_v22 ?_ | refine rd_v23 ?_ | refine rd_v24 ?_ | refine rd_v25 ?_
  | refine rd_n12 ?_ | refine rd_n13 ?_ | refine rd_n14 ?_ | refine rd_n15 ?_ | refine rd_n16 ?_ | refine rd_n17 ?_ | refine rd_n18 ?_ | refine rd_n19 ?_ | refine rd_n20 ?_ | refine rd_n21 ?_ | refine rd_n22 ?_ | refine rd_n23 ?_ | refine rd_n24 ?_ | refine rd_n25 ?_ ))
local macro_rules | `(tactic| walk_at "sd") => `(tactic| (refine line_of ?_; simp only [len_app, len_empty, len_lit0, len_dot, len_at, len_tr, len_rec, len_rea, len_lt, len_gt, len_mk, len_1]; decide))
local macro_rules | `(tactic| walk_at "sd") => `(tactic| (refine line_of ?_; simp only [len_app, len_empty, len_lit0, len_dot, len_at, len_tr, len_rec, len_rea, len_lt, len_gt, len_mk, len_1]; omega))
local macro_rules | `(tactic| walk_at "sd") => `(tactic| (refine line_of ?_; omega))
local macro_rules | `(tactic| walk_at "sd") => `(tactic| ((show (0 : Int) < _); omega))
local macro_rules | `(tactic| walk_at "sd") => `(tactic| ((show CPow _ _); exact ⟨by decide, by decide, by decide⟩))
local macro_rules | `(tactic| walk_at "sd") => `(tactic| ((show CMul _ _); first | exact .inl ⟨by decide, by decide⟩ | exact .inr ⟨by decide, by decide⟩))
local macro_rules | `(tactic| walk_at "sd") => `(tactic| with_reducible assumption)
local macro_rules | `(tactic| walk_at "rs") => `(tactic| (walk_at "rd"; all_goals try walk_at "sd"))
local macro_rules | `(tactic| walk_at "wp") => `(tactic| (simp only [List.map, wipe, List.set]; walk_at "rd"; all_goals try walk_at "sd"))
def topS (i : Nat) : Stmt := PySem.Challenge.pw_dawkline_k09_directories_and_routes.main.body.getD i (.Pass ⟨0, 0, 0, 0⟩)
abbrev s_Directory_init : Stmt := inClass (topS 1) 0
abbrev N_Directory_init : List Str := ["self", "domain", "users", "lists"]
theorem sc_Directory_init : FnScope N_Directory_init ["self", "domain", "users", "lists"] (defScope s_Directory_init) := ⟨rfl, rfl, rfl, by decide +kernel, rfl, by decide +kernel, by decide +kernel⟩
abbrev s_Directory_lookup : Stmt := inClass (topS 1) 1
abbrev N_Directory_lookup : List Str := ["self", "address", "local", "domain", "name", "owner", "members"]
theorem sc_Directory_lookup : FnScope N_Directory_lookup ["self", "address"] (defScope s_Directory_lookup) := ⟨rfl, rfl, rfl, by decide +kernel, rfl, by decide +kernel, by decide +kernel⟩
abbrev s_Lrefill : Stmt := topS 6
abbrev N_Lrefill : List Str := ["script", "k", "cell"]
theorem sc_Lrefill : FnScope N_Lrefill ["script", "k"] (defScope s_Lrefill) := ⟨rfl, rfl, rfl, by decide +kernel, rfl, by decide +kernel, by decide +kernel⟩
abbrev s_Ldraw : Stmt := topS 7
abbrev N_Ldraw : List Str := ["state", "script", "size", "digit"]
theorem sc_Ldraw : FnScope N_Ldraw ["state", "script", "size"] (defScope s_Ldraw) := ⟨rfl, rfl, rfl, by decide +kernel, rfl, by decide +kernel, by decide +kernel⟩
abbrev s_Lpick : Stmt := topS 10
abbrev N_Lpick : List Str := ["state", "script", "signs", "k"]
theorem sc_Lpick : FnScope N_Lpick ["state", "script", "signs"] (defScope s_Lpick) := ⟨rfl, rfl, rfl, by decide +kernel, rfl, by decide +kernel, by decide +kernel⟩
abbrev s_Ldomain : Stmt := topS 13
abbrev N_Ldomain : List Str := ["state", "script", "ends", "labels", "k", "middle"]
theorem sc_Ldomain : FnScope N_Ldomain ["state", "script"] (defScope s_Ldomain) := ⟨rfl, rfl, rfl, by decide +kernel, rfl, by decide +kernel, by decide +kernel⟩
abbrev s_Lword : Stmt := topS 11
abbrev N_Lword : List Str := ["state", "script", "signs", "most", "k"]
theorem sc_Lword : FnScope N_Lword ["state", "script", "signs", "most"] (defScope s_Lword) := ⟨rfl, rfl, rfl, by decide +kernel, rfl, by decide +kernel, by decide +kernel⟩
abbrev s_Llocal : Stmt := topS 12
abbrev N_Llocal : List Str := ["state", "script", "ends", "parts", "k"]
theorem sc_Llocal : FnScope N_Llocal ["state", "script"] (defScope s_Llocal) := ⟨rfl, rfl, rfl, by decide +kernel, rfl, by decide +kernel, by decide +kernel⟩
abbrev s_Lnames : Stmt := topS 16
abbrev N_Lnames : List Str := ["state", "script", "count", "letter", "k"]
theorem sc_Lnames : FnScope N_Lnames ["state", "script", "count", "letter"] (defScope s_Lnames) := ⟨rfl, rfl, rfl, by decide +kernel, rfl, by decide +kernel, by decide +kernel⟩
abbrev s_Ltail : Stmt := topS 17
abbrev N_Ltail : List Str := ["domain", "suffix"]
theorem sc_Ltail : FnScope N_Ltail ["domain", "suffix"] (defScope s_Ltail) := ⟨rfl, rfl, rfl, by decide +kernel, rfl, by decide +kernel, by decide +kernel⟩
abbrev s_Lroute : Stmt := topS 18
abbrev N_Lroute : List Str := ["routes", "domain", "found", "k"]
theorem sc_Lroute : FnScope N_Lroute ["routes", "domain"] (defScope s_Lroute) := ⟨rfl, rfl, rfl, by decide +kernel, rfl, by decide +kernel, by decide +kernel⟩
abbrev s_suffix_matches : Stmt := topS 3
abbrev N_suffix_matches : List Str := ["suffix", "domain"]
theorem sc_suffix_matches : FnScope N_suffix_matches ["suffix", "domain"] (defScope s_suffix_matches) := ⟨rfl, rfl, rfl, by decide +kernel, rfl, by decide +kernel, by decide +kernel⟩
abbrev s_route : Stmt := topS 2
abbrev N_route : List Str := ["routes", "domain", "longest", "found", "suffix", "hosts"]
theorem sc_route : FnScope N_route ["routes", "domain"] (defScope s_route) := ⟨rfl, rfl, rfl, by decide +kernel, rfl, by decide +kernel, by decide +kernel⟩
abbrev s_law : Stmt := topS 19
abbrev N_law : List Str := ["script", "state", "domain", "users", "lists", "name", "owner", "k", "members", "directory", "one", "expected", "other", "ends", "routes", "hosts", "told", "j"]
theorem sc_law : FnScope N_law ["script"] (defScope s_law) := ⟨rfl, rfl, rfl, by decide +kernel, rfl, by decide +kernel, by decide +kernel⟩
structure Tx (K : PySem.W.Frag) (mg : Str → Option Value) : Prop where
  d_Lrefill : Dn K mg "_law_refill" s_Lrefill ["script", "k"]
  d_Ldraw : Dn K mg "_law_draw" s_Ldraw ["state", "script", "size"]
  d_Lpick : Dn K mg "_law_pick" s_Lpick ["state", "script", "signs"]
  d_Ldomain : Dn K mg "_law_domain" s_Ldomain ["state", "script"]
  d_Lword : Dn K mg "_law_word" s_Lword ["state", "script", "signs", "most"]
  d_Llocal : Dn K mg "_law_local" s_Llocal ["state", "script"]
  d_Lnames : Dn K mg "_law_names" s_Lnames ["state", "script", "count", "letter"]
  d_Ltail : Dn K mg "_law_tail" s_Ltail ["domain", "suffix"]
  d_Lroute : Dn K mg "_law_route" s_Lroute ["routes", "domain"]
  d_suffix_matches : Dn K mg "suffix_matches" s_suffix_matches ["suffix", "domain"]
  d_route : Dn K mg "route" s_route ["routes", "domain"]
  d_law : Dn K mg "law" s_law ["script"]
  z_int : mg "int" = none
  z_len : mg "len" = none
  z_range : mg "range" = none
  z_str : mg "str" = none
  z_tuple : mg "tuple" = none
  z_list : mg "list" = none
  z_isinstance : mg "isinstance" = none
structure Cs_Directory (K : PySem.W.Frag) (mg : Str → Option Value) (C : Addr) : Prop where
  c : Cs K mg "Directory" C
  n_domain : NoAttr K C "domain"
  n_users : NoAttr K C "users"
  n_lists : NoAttr K C "lists"
  m_Directory_init : Mn K C "__init__" "Directory.__init__" s_Directory_init ["self", "domain", "users", "lists"]
  m_Directory_lookup : Mn K C "lookup" "Directory.lookup" s_Directory_lookup ["self", "address"]

section
variable {P : Program} {w : World} {K : PySem.W.Frag} {mg : Str → Option Value} {base : Heap}
def spRefill (K : PySem.W.Frag) : Sp := fun vs H Q _ => ∃ (sc : Addr) (ns : List Int) (k : Int), vs = [.ref sc, .int k] ∧ SqL K H sc (ns.map V.int) ∧ ∀ j : Int, Q (.int j) H
theorem ok_Lrefill (T : Tx K mg) : OkD P w K mg base CX0 1 "_law_refill" ["script", "k"] (spRefill K) := by
  refine ok_mk T.d_Lrefill sc_Lrefill (fun vs H Q E h => ?_) (fun f cdv A outer s H vs Q E hr h => ?_)
  · obtain ⟨sc, ns, k, rfl, _⟩ := h
    rfl
  · obtain ⟨sc, ns, k, rfl, hS, q⟩ := h
    refine ⟨_, (pss_cons (ps_set (i := 2) sc_Lrefill.nd rfl (.inl rfl) pe_int)
      (pss_cons (ps_if (y_truth (pv 0) (by intro _; rfl)) (pss_one (ps_set (i := 2) sc_Lrefill.nd rfl (.inl rfl) (pe_ix ix_list (pv 0) (pe_op op_mod (pv 1) (pe_callB y_lenQ (by rfl) T.z_len (by decide +kernel) (pa_cons (pv 0) pa_nil))) (fun _ _ => rfl)))) pss_nil)
      (pss_cons (ps_if (pt_cmpR op_lt (pv 2) pe_int (nomark _)) (pss_one (ps_set (i := 2) sc_Lrefill.nd rfl (.inl rfl) (pe_op op_sub pe_int (pe_op op_mul pe_int (pv 2))))) pss_nil)
      (pss_cons (ps_if (PW.pt (pw_and (pt_cmpR op_ge (pv 2) (pe_op op_pow pe_int pe_int) (nomark _)) (pw_and1 (pt_cmpR op_lt (pv 1) (pe_callB y_lenQ (by rfl) T.z_len (by decide +kernel) (pa_cons (pv 0) pa_nil)) (nomark _))))) (pss_one (ps_ret (pv 2))) pss_nil)
      (pss_one (ps_ret (pe_op op_mod (pe_callTy y_int (by rfl) T.z_int (by decide +kernel) (pa_cons (pe_op op_add (pe_op op_mul (pe_callTy y_int (by rfl) T.z_int (by decide +kernel) (pa_cons (pe_op op_add (pe_op op_add (pe_op op_mul (pv 2) pe_int) (pe_op op_mul (pv 1) pe_int)) pe_int) pa_nil)) pe_int) pe_int) pa_nil)) pe_int))))))), ?_⟩
    rw [show start N_Lrefill [.ref sc, .int k] = [some (.ref sc), some (.int k), none] from rfl]
    walk_at "rs"
    refine rd_truL hS (if_b (fun e => ?_) (fun e => ?_))
    · walk_at "rs"
      have hl : 0 < ns.length := by
        cases ns with
        | nil => cases e
        | cons _ _ => exact Nat.succ_pos _
      refine rd_lenL hS ?_
      walk_at "rs"
      · obtain ⟨v, hv, ev⟩ := atI_in (xs := ns.map V.int) (i := k % ((ns.map V.int).length : Int)) (Int.emod_nonneg _ (by rw [List.length_map]; omega)) (Int.emod_lt_of_pos _ (by rw [List.length_map]; omega))
        obtain ⟨c, _, rfl⟩ := List.mem_map.mp hv
        refine rd_ixL hS ev ?_
        walk_at "rs"
        refine if_dec (fun _ => ?_) (fun _ => ?_) <;> walk_at "rs" <;> refine if_dec (fun _ => ?_) (fun _ => ?_) <;> walk_at "rs" <;> (try refine rd_lenL hS ?_) <;> walk_at "rs" <;> (try refine if_dec (fun _ => ?_) (fun _ => ?_)) <;> walk_at "rs" <;> exact q _
      · rw [List.length_map]
        omega
    · walk_at "rs"
      refine if_dec (fun _ => ?_) (fun _ => ?_) <;> walk_at "rs" <;> refine if_dec (fun _ => ?_) (fun _ => ?_) <;> walk_at "rs" <;> (try refine rd_lenL hS ?_) <;> walk_at "rs" <;> (try refine if_dec (fun _ => ?_) (fun _ => ?_)) <;> walk_at "rs" <;> exact q _
def spDraw (K : PySem.W.Frag) : Sp := fun vs H Q _ => ∃ (st sc : Addr) (ns : List Int) (z : Int), vs = [.ref st, .ref sc, .int z] ∧ Wd K st sc ns H ∧ 0 < z ∧ z < 1073741824 ∧
  ∀ d H', 0 ≤ d → d < z → Dr st H H' → Wd K st sc ns H' → Q (.int d) H'
theorem draw_i {st sc : Addr} {ns : List Int} {z : Int} {H : Hp} {Q : VK} {E : XK} (W : Wd K st sc ns H) (h0 : 0 < z) (h1 : z < 1073741824)
    (q : ∀ d H', 0 ≤ d → d < z → Dr st H H' → Wd K st sc ns H' → Q (.int d) H') : spDraw K [.ref st, .ref sc, .int z] H Q E := ⟨st, sc, ns, z, rfl, W, h0, h1, q⟩
theorem ok_Ldraw (T : Tx K mg) : OkD P w K mg base CX0 2 "_law_draw" ["state", "script", "size"] (spDraw K) := by
  refine ok_mk T.d_Ldraw sc_Ldraw (fun vs H Q E h => ?_) (fun f cdv A outer s H vs Q E hr h => ?_)
  · obtain ⟨st, sc, ns, z, rfl, _⟩ := h
    rfl
  · obtain ⟨st, sc, ns, z, rfl, W, h0, h1, q⟩ := h
    refine ⟨_, (pss_cons (ps_if (pt_cmpR op_eq (pe_ix ix_list (pv 0) pe_int (fun _ _ => rfl)) pe_int (nomark _)) (pss_cons (ps_asg (pe_callD (ok_Lrefill T) hr (by rfl) pass0 (pa_cons (pv 1) (pa_cons (pe_ix ix_list (pv 0) pe_int (fun _ _ => rfl)) pa_nil))) (pg_sub (pv 0) pe_int set_list))
      (pss_one (ps_asg (pe_op op_add (pe_ix ix_list (pv 0) pe_int (fun _ _ => rfl)) pe_int) (pg_sub (pv 0) pe_int set_list)))) pss_nil)
      (pss_cons (ps_set (i := 3) sc_Ldraw.nd rfl (.inl rfl) (pe_op op_mod (pe_callTy y_int (by rfl) T.z_int (by decide +kernel) (pa_cons (pe_ix ix_list (pv 0) pe_int (fun _ _ => rfl)) pa_nil)) (pv 2)))
      (pss_cons (ps_asg (pe_op op_fdivN (pe_ix ix_list (pv 0) pe_int (fun _ _ => rfl)) (pv 2)) (pg_sub (pv 0) pe_int set_list))
      (pss_one (ps_ret (pv 3)))))), ?_⟩
    rw [show start N_Ldraw [.ref st, .ref sc, .int z] = [some (.ref st), some (.ref sc), some (.int z), none] from rfl]
    have fin : ∀ (H1 : Hp) (k v : Int) (_ : Dr st H H1) (e : H1 st = some (.lst [.int k, .int v])), Q (.int (v % z)) (upd H1 st (.lst [.int k, .int (v.fdiv z)])) := fun H1 k v d e =>
      q _ _ (Int.emod_nonneg _ (by omega)) (Int.emod_lt_of_pos _ h0) d.upds (W.next d.upds)
    obtain ⟨k, v, e⟩ := W.1
    walk_at "rd"
    refine rd_ixL (SqL.of e) (i := 1) rfl ?_
    walk_at "rd"
    refine if_dec (fun _ => ?_) (fun _ => ?_)
    · walk_at "rd"
      refine rd_ixL (SqL.of e) (i := 0) rfl ?_
      walk_at "rd"
      refine ⟨sc, ns, k, rfl, W.list, fun j => ?_⟩
      walk_at "rd"
      refine rd_setL e (j := 1) rfl ?_
      walk_at "rd"
      refine rd_ixL (SqL.of upd_same) (i := 0) rfl ?_
      walk_at "rd"
      refine rd_setL upd_same (j := 0) rfl ?_
      walk_at "rd"
      refine rd_ixL (SqL.of upd_same) (i := 1) rfl ?_
      walk_at "rd"
      · refine rd_ixL (SqL.of upd_same) (i := 1) rfl ?_
        walk_at "rd"
        · refine rd_setL upd_same (j := 1) rfl ?_
          walk_at "rd"
          exact fin _ _ _ (Dr.upds (Dr.upds W.dr)) upd_same
        · exact ⟨by omega, by omega⟩
      · exact h0
    · walk_at "rd"
      refine rd_ixL (SqL.of e) (i := 1) rfl ?_
      walk_at "rd"
      · refine rd_ixL (SqL.of e) (i := 1) rfl ?_
        walk_at "rd"
        · refine rd_setL e (j := 1) rfl ?_
          walk_at "rd"
          exact fin _ _ _ W.dr e
        · exact ⟨by omega, by omega⟩
      · exact h0
def spPick (K : PySem.W.Frag) : Sp := fun vs H Q _ => ∃ (st sc : Addr) (ns : List Int) (z : Str), vs = [.ref st, .ref sc, .str z] ∧ Wd K st sc ns H ∧ 0 < z.length ∧ z.length < 1000 ∧
  ∀ c H', c ∈ tl z → Dr st H H' → Wd K st sc ns H' → Q (.str ⟨#[c]⟩) H'
theorem ok_Lpick (T : Tx K mg) : OkD P w K mg base CX0 3 "_law_pick" ["state", "script", "signs"] (spPick K) := by
  refine ok_mk T.d_Lpick sc_Lpick (fun vs H Q E h => ?_) (fun f cdv A outer s H vs Q E hr h => ?_)
  · obtain ⟨st, sc, ns, z, rfl, _⟩ := h
    rfl
  · obtain ⟨st, sc, ns, z, rfl, W, h0, h1, q⟩ := h
    refine ⟨_, (pss_cons (ps_set (i := 3) sc_Lpick.nd rfl (.inl rfl) (pe_callD (ok_Ldraw T) hr (by rfl) pass0 (pa_cons (pv 0) (pa_cons (pv 1) (pa_cons (pe_callB y_lenS (by rfl) T.z_len (by decide +kernel) (pa_cons (pv 2) pa_nil)) pa_nil)))))
      (pss_one (ps_ret (pe_slice sl_str (pv 2) (po_some (pv 3)) (po_some (pe_op op_add (pv 3) pe_int)))))), ?_⟩
    rw [show start N_Lpick [.ref st, .ref sc, .str z] = [some (.ref st), some (.ref sc), some (.str z), none] from rfl]
    have hz : z.length ≤ sizeLine := line_of (by omega)
    walk_at "rd"
    · refine draw_i W (by omega) (by omega) fun d H' d0 d1 D W' => ?_
      walk_at "rd"
      · obtain ⟨c, hc, ec⟩ := cut_one d0 d1
        rw [ec]
        exact q c H' hc D W'
      · exact hz
    · exact hz
def spWord (K : PySem.W.Frag) : Sp := fun vs H Q _ => ∃ (st sc : Addr) (ns : List Int) (z : Str) (m : Int), vs = [.ref st, .ref sc, .str z, .int m] ∧ Wd K st sc ns H ∧ 0 < z.length ∧ z.length < 1000 ∧ 0 < m ∧ m ≤ 100 ∧
  ∀ (x : Str) H', x.length ≤ m → 0 < x.length → (∀ c ∈ tl x, c ∈ tl z) → Dr st H H' → Wd K st sc ns H' → Q (.str x) H'
theorem ok_Lword (T : Tx K mg) : OkD P w K mg base CX0 4 "_law_word" ["state", "script", "signs", "most"] (spWord K) := by
  refine ok_mk T.d_Lword sc_Lword (fun vs H Q E h => ?_) (fun f cdv A outer s H vs Q E hr h => ?_)
  · obtain ⟨st, sc, ns, z, m, rfl, _⟩ := h
    rfl
  · obtain ⟨st, sc, ns, z, m, rfl, W, h0, h1, m0, m1, q⟩ := h
    refine ⟨_, (pss_one (ps_ret (pe_m1 PySem.F.slot_str_join PySem.F.type_str_join y_join pe_str (pe_lc (own := [("k", 4)]) (g := gName 4) rfl sc_Lword.nd (pi_range1 (by rfl) T.z_range (pa_cons (pe_op op_add pe_int (pe_callD (ok_Ldraw T) (hr.mono (by decide)) (by rfl) pass0 (pa_cons (pv 0) (pa_cons (pv 1) (pa_cons (pv 3) pa_nil))))) pa_nil)) (blkOk_by (N := N_Lword) (sc := defScope s_Lword) (by decide +kernel)) (fun _ _ _ _ _ => pg_name (i := 4) sc_Lword.nd rfl (Or.inl rfl)) (fun _ _ _ _ _ => pts_nil) (fun _ _ _ _ _ => (pe_callD (ok_Lpick T) hr (by rfl) pass0 (pa_cons (pv 0) (pa_cons (pv 1) (pa_cons (pv 2) pa_nil))))))))), ?_⟩
    rw [show start N_Lword [.ref st, .ref sc, .str z, .int m] = [some (.ref st), some (.ref sc), some (.str z), some (.int m), none] from rfl]
    walk_at "rd"
    refine draw_i W m0 (by omega) fun d H1 d0 d1 D1 W1 => ?_
    walk_at "rd"
    refine rd_wRg (by omega) (by omega) fun D nD => ?_
    refine lcR (G := fun y => ∃ c, c ∈ tl z ∧ y = .str ⟨#[c]⟩) W1 nD (by omega) (fun i H2 R hi W2 D2 r => ⟨rfl, ?_⟩) (fun H2 ys D2 W2 nS hD hl hg => ?_)
    · walk_at "wp"
      exact ⟨st, sc, ns, z, rfl, W2, h0, h1, fun c H' hc D' W' => r _ _ D' ⟨c, hc, rfl⟩⟩
    · obtain ⟨xs, rfl, hx⟩ := strs_of (G := fun x => ∃ c, c ∈ tl z ∧ x = ⟨#[c]⟩) (ys := ys) fun y hy => by
        obtain ⟨c, hc, e⟩ := hg y hy
        exact ⟨_, e, c, hc, rfl⟩
      have h1 : ∀ x ∈ xs, x.length ≤ 1 := fun x hx' => by
        obtain ⟨c, _, rfl⟩ := hx x hx'
        exact Nat.le_refl _
      have hs := lens_le h1
      rw [List.length_map] at hl
      refine rd_joinL (SqL.of hD) (by rw [len_lit0]; omega) ?_
      have e : (Txt.join (Str.ofString "") xs).length = xs.length := by
        rw [len_tl, tl_joined, tl_lit0, joinL_nil, len_ones fun x hx' => by
          obtain ⟨c, _, e⟩ := hx x hx'
          exact ⟨c, e⟩]
      refine q _ H2 (by rw [e]; omega) (by rw [e]; omega) (fun c hc => ?_) (D1.trans D2) W2
      rcases mem_joined hc with h | ⟨x, hx', h⟩
      · rw [tl_lit0] at h
        cases h
      · obtain ⟨c', hc', rfl⟩ := hx x hx'
        rw [List.mem_singleton.mp h]
        exact hc'
def spLocal (K : PySem.W.Frag) : Sp := fun vs H Q _ => ∃ (st sc : Addr) (ns : List Int), vs = [.ref st, .ref sc] ∧ Wd K st sc ns H ∧
  ∀ (x : Str) H', x.length ≤ 40 → Asc x → Dr st H H' → Wd K st sc ns H' → Q (.str x) H'
theorem ok_Llocal (T : Tx K mg) : OkD P w K mg base CX0 5 "_law_local" ["state", "script"] (spLocal K) := by
  refine ok_mk T.d_Llocal sc_Llocal (fun vs H Q E h => ?_) (fun f cdv A outer s H vs Q E hr h => ?_)
  · obtain ⟨st, sc, ns, rfl, _⟩ := h
    rfl
  · obtain ⟨st, sc, ns, rfl, W, q⟩ := h
    refine ⟨_, (pss_cons (ps_set (i := 2) sc_Llocal.nd rfl (.inr rfl) pe_str)
      (pss_cons (ps_setLc (i := 3) (own := [("k", 4)]) (g := gName 4) rfl sc_Llocal.nd rfl rfl (sw_true rfl rfl rfl (by decide +kernel)) (pi_range1 (by rfl) T.z_range (pa_cons (pe_op op_add pe_int (pe_callD (ok_Ldraw T) (hr.mono (by decide)) (by rfl) pass0 (pa_cons (pv 0) (pa_cons (pv 1) (pa_cons pe_int pa_nil))))) pa_nil)) (blkOk_by (N := N_Llocal) (sc := defScope s_Llocal) (by decide +kernel)) (fun _ _ _ _ _ => pg_name (i := 4) sc_Llocal.nd rfl (Or.inl rfl)) (fun _ _ _ _ _ => pts_nil) (fun _ _ _ _ _ => (pe_callD (ok_Lword T) hr (by rfl) pass0 (pa_cons (pv 0) (pa_cons (pv 1) (pa_cons (pv 2) (pa_cons pe_int pa_nil)))))))
      (pss_cons (ps_if (pt_cmpR op_eq (pe_callD (ok_Ldraw T) (hr.mono (by decide)) (by rfl) pass0 (pa_cons (pv 0) (pa_cons (pv 1) (pa_cons pe_int pa_nil)))) pe_int (nomark _)) (pss_one (ps_set (i := 3) sc_Llocal.nd rfl (.inl rfl) (pe_lst (pa_cons (pe_m1 PySem.F.slot_str_join PySem.F.type_str_join y_join pe_str (pe_op op_rep (pe_lst (pa_cons (pe_callD (ok_Lpick T) (hr.mono (by decide)) (by rfl) pass0 (pa_cons (pv 0) (pa_cons (pv 1) (pa_cons (pv 2) pa_nil)))) pa_nil)) (pe_op op_add pe_int (pe_callD (ok_Ldraw T) (hr.mono (by decide)) (by rfl) pass0 (pa_cons (pv 0) (pa_cons (pv 1) (pa_cons pe_int pa_nil))))))) (pa_cons (pe_ix ix_list (pv 3) pe_int (fun _ _ => rfl)) pa_nil))))) pss_nil)
      (pss_one (ps_ret (pe_m1 PySem.F.slot_str_rstrip PySem.F.type_str_rstrip y_rstrip (pe_slice sl_str (pe_m1 PySem.F.slot_str_join PySem.F.type_str_join y_join pe_str (pv 3)) po_none (po_some pe_int)) pe_str)))))), ?_⟩
    rw [show start N_Llocal [.ref st, .ref sc] = [some (.ref st), some (.ref sc), none, none, none] from rfl]
    walk_at "rs"
    refine draw_i W (by decide) (by decide) fun d1 H1 a0 a1 D1 W1 => ?_
    walk_at "rs"
    refine rd_wRg (by omega) (by omega) fun D nD => ?_
    refine lcR (G := fun y => ∃ x : Str, y = .str x ∧ (x.length ≤ 5 ∧ Asc x)) W1 nD (by omega) (fun i H2 R hi W2 D2 r => ⟨rfl, ?_⟩) (fun H2 ys D2 W2 nS hD hl hg => ?_)
    · walk_at "wp"
      exact ⟨st, sc, ns, _, 5, rfl, W2, by rw [len_ends]; decide, by rw [len_ends]; decide, by decide, by decide, fun x H' h1 h2 h3 D' W' => r _ _ D' ⟨x, rfl, by omega, fun c hc => asc_ends c (h3 c hc)⟩⟩
    · obtain ⟨xs, rfl, hx⟩ := strs_of hg
      have hs := lens_le fun x h => (hx x h).1
      rw [List.length_map] at hl
      walk_at "rs"
      refine draw_i W2 (by decide) (by decide) fun d3 H3 b0 b1 D3 W3 => ?_
      walk_at "rs"
      have hD3 : H3 D = some _ := D3.at nS hD
      refine if_dec (fun _ => ?_) (fun _ => ?_)
      · walk_at "rs"
        refine ⟨st, sc, ns, _, rfl, W3, by rw [len_ends]; decide, by rw [len_ends]; decide, fun c H4 hc D4 W4 => ?_⟩
        walk_at "rs"
        refine rd_wLs (Nat.le_of_ble_eq_true rfl) fun p np => ?_
        walk_at "rs"
        refine draw_i (W4.new np) (by decide) (by decide) fun d5 H5 c0 c1 D5 W5 => ?_
        walk_at "rs"
        have hp : H5 p = some _ := D5.at (W4.1.ne np) upd_same
        refine rd_rep hp (by omega) (by omega) (Nat.le_of_ble_eq_true rfl) fun p2 np2 => ?_
        walk_at "rs"
        have er : (List.replicate (18 + d5).toNat [V.str ⟨#[c]⟩]).flatten = (List.replicate (18 + d5).toNat (⟨#[c]⟩ : Str)).map V.str := by rw [rep_one, List.map_replicate]
        have e1 : ∀ x ∈ List.replicate (18 + d5).toNat (⟨#[c]⟩ : Str), x.length ≤ 1 := fun x hx' => by
          rw [(List.mem_replicate.mp hx').2]
          exact Nat.le_refl _
        have es := lens_le e1
        rw [List.length_replicate] at es
        have W6 := W5.new (o := .lst (List.replicate (18 + d5).toNat [V.str ⟨#[c]⟩]).flatten) np2
        refine rd_joinL (xs := List.replicate (18 + d5).toNat (⟨#[c]⟩ : Str)) (by rw [er]; exact SqL.of upd_same) (by rw [len_lit0, List.length_replicate]; omega) ?_
        have ej := len_joined (Str.ofString "") (List.replicate (18 + d5).toNat (⟨#[c]⟩ : Str))
        rw [len_lit0, List.length_replicate] at ej
        walk_at "rs"
        have kD : upd H5 p2 (.lst (List.replicate (18 + d5).toNat [V.str ⟨#[c]⟩]).flatten) D = some (.lst (xs.map V.str)) := by
          rw [upd_ne (ne_of_none (D5.at nS ((Dr.new W4.dr np).at nS (D4.at nS hD3))) np2)]
          exact D5.at nS ((Dr.new W4.dr np).at nS (D4.at nS hD3))
        obtain ⟨y, hy, ey⟩ := atI_in (xs := xs.map V.str) (i := 0) (by decide) (by rw [List.length_map]; omega)
        obtain ⟨y, hy', rfl⟩ := List.mem_map.mp hy
        obtain ⟨y5, ya⟩ := hx y hy'
        refine rd_ixL (SqL.of kD) ey ?_
        walk_at "rs"
        refine rd_wLs (Nat.le_of_ble_eq_true rfl) fun p3 np3 => ?_
        walk_at "rs"
        refine rd_joinL (xs := [Txt.join (Str.ofString "") (List.replicate (18 + d5).toNat (⟨#[c]⟩ : Str)), y]) (SqL.of upd_same) (by rw [len_dot]; simp only [List.map_cons, List.map_nil, List.sum_cons, List.sum_nil, List.length_cons, List.length_nil]; omega) ?_
        have ek := len_joined (Str.ofString ".") [Txt.join (Str.ofString "") (List.replicate (18 + d5).toNat (⟨#[c]⟩ : Str)), y]
        rw [len_dot] at ek
        simp only [List.map_cons, List.map_nil, List.sum_cons, List.sum_nil, List.length_cons, List.length_nil] at ek
        walk_at "rs"
        · refine q _ _ ?_ (asc_rs (asc_cut (asc_join asc_dot fun x hx' => ?_))) (Dr.new (Dr.new (((((D1.trans D2).trans D3).trans D4).trans (Dr.new W4.dr np)).trans D5) np2) np3) (W6.new np3)
          · exact Nat.le_trans (len_rs _ _) (Nat.le_trans (len_cut _ _ _) (by omega))
          · simp only [List.mem_cons, List.not_mem_nil, or_false] at hx'
            rcases hx' with rfl | rfl
            · exact asc_join asc_lit0 fun x hx' => by
                rw [(List.mem_replicate.mp hx').2]
                exact asc_one (asc_ends c hc)
            · exact ya
        · exact line_of (Nat.le_trans (len_cut _ _ _) (by omega))
      · walk_at "rs"
        refine rd_joinL (xs := xs) (SqL.of hD3) (by rw [len_dot]; omega) ?_
        have ek := len_joined (Str.ofString ".") xs
        rw [len_dot] at ek
        walk_at "rs"
        · refine q _ _ ?_ (asc_rs (asc_cut (asc_join asc_dot fun x hx' => (hx x hx').2))) ((D1.trans D2).trans D3) W3
          exact Nat.le_trans (len_rs _ _) (Nat.le_trans (len_cut _ _ _) (by omega))
        · exact line_of (Nat.le_trans (len_cut _ _ _) (by omega))
def spDomain (K : PySem.W.Frag) : Sp := fun vs H Q _ => ∃ (st sc : Addr) (ns : List Int), vs = [.ref st, .ref sc] ∧ Wd K st sc ns H ∧
  ∀ (x : Str) H', x.length ≤ 40 → Asc x → Dr st H H' → Wd K st sc ns H' → Q (.str x) H'
theorem ok_Ldomain (T : Tx K mg) : OkD P w K mg base CX0 4 "_law_domain" ["state", "script"] (spDomain K) := by
  refine ok_mk T.d_Ldomain sc_Ldomain (fun vs H Q E h => ?_) (fun f cdv A outer s H vs Q E hr h => ?_)
  · obtain ⟨st, sc, ns, rfl, _⟩ := h
    rfl
  · obtain ⟨st, sc, ns, rfl, W, q⟩ := h
    refine ⟨_, (pss_cons (ps_set (i := 2) sc_Ldomain.nd rfl (.inl rfl) pe_str)
      (pss_cons (ps_set (i := 3) sc_Ldomain.nd rfl (.inl rfl) (pe_lst pa_nil))
      (pss_cons (ps_for PassesOwn.never rfl (pi_range1 (by rfl) T.z_range (pa_cons (pe_op op_add pe_int (pe_callD (ok_Ldraw T) (hr.mono (by decide)) (by rfl) pass0 (pa_cons (pv 0) (pa_cons (pv 1) (pa_cons pe_int pa_nil))))) pa_nil)) (pg_name (i := 4) sc_Ldomain.nd rfl (Or.inl rfl)) (pss_cons (ps_set (i := 5) sc_Ldomain.nd rfl (.inl rfl) (pe_ix ix_list (pe_lst (pa_cons pe_str (pa_cons pe_str (pa_cons pe_str (pa_cons pe_str (pa_cons pe_str pa_nil)))))) (pe_callD (ok_Ldraw T) (hr.mono (by decide)) (by rfl) pass0 (pa_cons (pv 0) (pa_cons (pv 1) (pa_cons pe_int pa_nil)))) (fun _ _ => rfl)))
      (pss_one (ps_expr (pe_bm PySem.F.plainAttrs_list PySem.F.slot_list_append PySem.F.type_list_append mt_append (pv 3) (pa_cons (pe_op y_adS (pe_op y_adS (pe_callD (ok_Lpick T) hr (by rfl) pass0 (pa_cons (pv 0) (pa_cons (pv 1) (pa_cons (pv 2) pa_nil)))) (pv 5)) (pe_callD (ok_Lpick T) hr (by rfl) pass0 (pa_cons (pv 0) (pa_cons (pv 1) (pa_cons (pv 2) pa_nil))))) pa_nil))))))
      (pss_one (ps_ret (pe_m1 PySem.F.slot_str_join PySem.F.type_str_join y_join pe_str (pv 3))))))), ?_⟩
    rw [show start N_Ldomain [.ref st, .ref sc] = [some (.ref st), some (.ref sc), none, none, none, none] from rfl]
    walk_at "rs"
    refine rd_wLs (Nat.le_of_ble_eq_true rfl) fun L nL => ?_
    walk_at "rs"
    have WL := W.new (o := .lst []) nL
    have nLs : L ≠ st := W.1.ne nL
    refine draw_i WL (by decide) (by decide) fun d1 H1 a0 a1 D1 W1 => ?_
    walk_at "rs"
    have eL1 : H1 L = some _ := D1.at nLs upd_same
    refine rd_wRg (by omega) (by omega) ?_
    refine forR (fun i σ H' => Dr st H H' ∧ Wd K st sc ns H' ∧ ∃ k m, σ = [some (.ref st), some (.ref sc), some (.str (Str.ofString "abcdefghijklmnopqrstuvwxyz0123456789")), some (.ref L), k, m] ∧
      ∃ xs : List Str, H' L = some (.lst (xs.map V.str)) ∧ xs.length = i ∧ ∀ x ∈ xs, x.length ≤ 5 ∧ Asc x) ?_ (fun i σ H2 hi hP => ?_) (fun σ H2 hP => ?_)
    · exact ⟨(W.dr.new nL).trans D1, W1, none, none, rfl, [], eL1, rfl, fun _ h => nomatch h⟩
    · obtain ⟨D2, W2, k, m, rfl, xs, eL, el, ex⟩ := hP
      walk_at "rs"
      refine rd_wLs (Nat.le_of_ble_eq_true rfl) fun p np => ?_
      walk_at "rs"
      refine draw_i (W2.new np) (by decide) (by decide) fun d3 H3 b0 b1 D3 W3 => ?_
      have D3' := (Dr.same W2.1 (same_new np)).trans D3
      have eL3 : H3 L = some _ := D3'.at nLs eL
      have ep := D3.at (W2.1.ne np) upd_same
      obtain ⟨y, hy, ey⟩ := atI_in (xs := [V.str (Str.ofString ""), V.str (Str.ofString "-"), V.str (Str.ofString "--"), V.str (Str.ofString "x-y"), V.str (Str.ofString "z9")]) (i := d3) b0 b1
      have hy' : ∃ z : Str, y = .str z ∧ z.length ≤ 3 ∧ Asc z := by
        simp only [List.mem_cons, List.not_mem_nil, or_false] at hy
        rcases hy with rfl | rfl | rfl | rfl | rfl <;> exact ⟨_, rfl, by rw [len_of]; decide, asc_of (by decide +kernel)⟩
      obtain ⟨z, rfl, hz, za⟩ := hy'
      refine rd_ixL (SqL.of ep) ey ?_
      walk_at "rs"
      refine rd_wTyL (SqL.of eL3) ?_
      walk_at "rs"
      refine ⟨st, sc, ns, _, rfl, W3, by rw [len_ends2]; decide, by rw [len_ends2]; decide, fun c H4 hc D4 W4 => ?_⟩
      walk_at "rs"
      · refine ⟨st, sc, ns, _, rfl, W4, by rw [len_ends2]; decide, by rw [len_ends2]; decide, fun c' H5 hc' D5 W5 => ?_⟩
        walk_at "rs"
        · have eL5 : H5 L = some _ := D5.at nLs (D4.at nLs eL3)
          refine rd_append eL5 (by rw [List.length_map]; omega) ?_
          walk_at "rs"
          have D6 := Dr.put W.1 (((D2.trans D3').trans D4).trans D5) nL (o := .lst (xs.map V.str ++ [.str ((⟨#[c]⟩ : Str) ++ z ++ ⟨#[c']⟩)]))
          refine ⟨D6, W.next D6, some (.int (0 + (i : Nat))), some (.str z), rfl, xs ++ [(⟨#[c]⟩ : Str) ++ z ++ ⟨#[c']⟩], by rw [upd_same, List.map_append]; rfl, by rw [List.length_append, el]; rfl, fun x hx => ?_⟩
          rcases List.mem_append.mp hx with hx | hx
          · exact ex x hx
          · rw [List.mem_singleton.mp hx]
            refine ⟨?_, asc_app (asc_app (asc_one (asc_ends2 c hc)) za) (asc_one (asc_ends2 c' hc'))⟩
            rw [len_app, len_app]
            show 1 + z.length + 1 ≤ 5
            omega
        · rw [len_app]
          show (1 + z.length) + 1 ≤ _
          exact line_of (by omega)
      · show 1 + z.length ≤ _
        exact line_of (by omega)
    · obtain ⟨D2, W2, k, m, rfl, xs, eL, el, ex⟩ := hP
      walk_at "rs"
      have es := lens_le fun x h => (ex x h).1
      refine rd_joinL (SqL.of eL) (by rw [len_dot]; omega) ?_
      have ek := len_joined (Str.ofString ".") xs
      rw [len_dot] at ek
      walk_at "rs"
      exact q _ _ (by omega) (asc_join asc_dot fun x h => (ex x h).2) D2 W2
end


section
variable {P : Program} {w : World} {K : PySem.W.Frag} {mg : Str → Option Value} {base : Heap}
/-- the name number i of a kind -/
def NmP (c i : Nat) (x : Str) : Prop := x.length ≤ 60 ∧ Asc x ∧ ∃ r, tl x = c :: (48 + i) :: r
theorem dig3 {k : Nat} (h : k < 3) : ((0 + (k : Int)).repr).length = 1 ∧ True := by
  rcases (by omega : k = 0 ∨ k = 1 ∨ k = 2) with rfl | rfl | rfl <;> exact ⟨by decide, trivial⟩
theorem tl_dig {k : Nat} (h : k < 3) : tl (toString (0 + (k : Int)) : Str) = [48 + k] := by
  rcases (by omega : k = 0 ∨ k = 1 ∨ k = 2) with rfl | rfl | rfl <;> decide +kernel
def spNames (K : PySem.W.Frag) : Sp := fun vs H Q _ => ∃ (st sc : Addr) (ns : List Int) (m : Int) (z : Str) (c : Nat), vs = [.ref st, .ref sc, .int m, .str z] ∧ tl z = [c] ∧ c < 128 ∧ Wd K st sc ns H ∧ 0 ≤ m ∧ m ≤ 3 ∧
  ∀ (xs : List Str) p H', H' p = some (.lst (xs.map V.str)) → H p = none → xs.length ≤ 3 → (∀ i x, xs[i]? = some x → NmP c i x) → Dr st H H' → Wd K st sc ns H' → Q (.ref p) H'
theorem ok_Lnames (T : Tx K mg) : OkD P w K mg base CX0 6 "_law_names" ["state", "script", "count", "letter"] (spNames K) := by
  refine ok_mk T.d_Lnames sc_Lnames (fun vs H Q E h => ?_) (fun f cdv A outer s H vs Q E hr h => ?_)
  · obtain ⟨st, sc, ns, m, z, c, rfl, _⟩ := h
    rfl
  · obtain ⟨st, sc, ns, m, z, c, rfl, hz, hc, W, m0, m1, q⟩ := h
    refine ⟨_, (pss_one (ps_ret (pe_lc (own := [("k", 4)]) (g := gName 4) rfl sc_Lnames.nd (pi_range1 (by rfl) T.z_range (pa_cons (pv 2) pa_nil)) (blkOk_by (N := N_Lnames) (sc := defScope s_Lnames) (by decide +kernel)) (fun _ _ _ _ _ => pg_name (i := 4) sc_Lnames.nd rfl (Or.inl rfl)) (fun _ _ _ _ _ => pts_nil) (fun _ _ _ _ _ => (pe_op y_adS (pe_op y_adS (pv 3) (pe_callTy y_strI (by rfl) T.z_str (by decide +kernel) (pa_cons (pv 4) pa_nil))) (pe_m1 PySem.F.slot_str_rstrip PySem.F.type_str_rstrip y_rstrip (pe_slice sl_str (pe_callD (ok_Llocal T) hr (by rfl) pass0 (pa_cons (pv 0) (pa_cons (pv 1) pa_nil))) po_none (po_some pe_int)) pe_str)))))), ?_⟩
    rw [show start N_Lnames [.ref st, .ref sc, .int m, .str z] = [some (.ref st), some (.ref sc), some (.int m), some (.str z), none] from rfl]
    walk_at "rs"
    refine rd_wRg (by omega) (by omega) fun D nD => ?_
    have lz : z.length = 1 := by rw [len_tl, hz]; rfl
    refine lcRi (fun i _ y => ∃ x : Str, y = .str x ∧ NmP c i x) (fun i H H' y _ _ h => h) W nD (by omega) (fun i H2 R hi W2 D2 r => ⟨rfl, ?_⟩) (fun H2 ys D2 W2 nS hD hl hg => ?_) (fun i H y zs _ _ h o => h)
    · have hi3 : i < 3 := by omega
      have ld : (toString (0 + (i : Int)) : Str).length = 1 := by rw [len_tl, tl_dig hi3]; rfl
      walk_at "wp"
      refine rd_strI (by omega) (by omega) ?_
      walk_at "rs"
      · refine ⟨st, sc, ns, rfl, W2, fun x H' lx ax D' W' => ?_⟩
        have l1 := len_cut x none (some 6)
        walk_at "rs"
        · refine r _ _ D' ⟨_, rfl, ?_, asc_app (asc_app (fun d hd => ?_) (fun d hd => ?_)) (asc_rs (asc_cut ax)), tl (Txt.rstripChars (cutS x none (some 6)) (Str.ofString ".")), ?_⟩
          · have l2 := len_rs (cutS x none (some 6)) (Str.ofString ".")
            rw [len_app, len_app, lz, ld]
            omega
          · rw [hz] at hd
            rw [List.mem_singleton.mp hd]
            exact hc
          · rw [tl_dig hi3] at hd
            rw [List.mem_singleton.mp hd]
            omega
          · rw [tl_append, tl_append, hz, tl_dig hi3]
            rfl
        · have l2 := len_rs (cutS x none (some 6)) (Str.ofString ".")
          rw [len_app, lz, ld]
          exact line_of (by omega)
    · have hx : ∃ xs : List Str, ys = xs.map V.str ∧ ∀ i x, xs[i]? = some x → NmP c i x := by
        obtain ⟨xs, rfl, _⟩ := strs_of (G := fun _ => True) (ys := ys) fun y hy => by
          obtain ⟨k, hk⟩ := List.getElem?_of_mem hy
          obtain ⟨x, e, _⟩ := hg k y hk
          exact ⟨x, e, trivial⟩
        refine ⟨xs, rfl, fun i x h => ?_⟩
        obtain ⟨x', e, n⟩ := hg i (.str x) (by rw [List.getElem?_map, h]; rfl)
        cases e
        exact n
      obtain ⟨xs, rfl, hx⟩ := hx
      rw [List.length_map] at hl
      exact q xs D H2 hD nD (by omega) hx D2 W2
def spTail : Sp := fun vs H Q _ => ∃ d s : Str, vs = [.str d, .str s] ∧ d.length ≤ 1000 ∧ s.length ≤ 1000 ∧ Q (.bl (mch d s)) H
theorem ok_Ltail (T : Tx K mg) : OkD P w K mg base CX0 1 "_law_tail" ["domain", "suffix"] spTail := by
  refine ok_mk T.d_Ltail sc_Ltail (fun vs H Q E h => ?_) (fun f cdv A outer s H vs Q E hr h => ?_)
  · obtain ⟨d, x, rfl, _⟩ := h
    rfl
  · obtain ⟨d, x, rfl, hd, hx, q⟩ := h
    refine ⟨_, (pss_one (ps_ret (pe_or (pe_cmpR op_eq (pv 1) pe_str (nomark _)) (pe_or (pe_cmpR op_eq (pv 0) (pv 1) (nomark _)) (pe_one (pe_cmpR op_eq (pe_slice sl_str (pv 0) (po_some (pe_op op_sub (pe_un un_neg (pe_callB y_lenS (by rfl) T.z_len (by decide +kernel) (pa_cons (pv 1) pa_nil))) pe_int)) po_none) (pe_op y_adS pe_str (pv 1)) (nomark _))))))), ?_⟩
    rw [show start N_Ltail [.str d, .str x] = [some (.str d), some (.str x)] from rfl]
    unfold mch at q
    walk_at "rs"
    refine if_dec (fun e => ?_) (fun e => ?_)
    · walk_at "rs"
      rw [decide_eq_true e] at q
      exact q
    · rw [decide_eq_false e, Bool.false_or] at q
      walk_at "rs"
      refine if_dec (fun e => ?_) (fun e => ?_)
      · walk_at "rs"
        rw [decide_eq_true e] at q
        exact q
      · rw [decide_eq_false e, Bool.false_or, ← cut_end] at q
        walk_at "rs"
def spSuf : Sp := fun vs H Q _ => ∃ d s : Str, vs = [.str s, .str d] ∧ d.length ≤ 1000 ∧ s.length ≤ 1000 ∧ ∀ H', Same H H' → Q (.bl (mch d s)) H'
theorem ok_suffix_matches (T : Tx K mg) : OkD P w K mg base CX0 1 "suffix_matches" ["suffix", "domain"] spSuf := by
  refine ok_mk T.d_suffix_matches sc_suffix_matches (fun vs H Q E h => ?_) (fun f cdv A outer s H vs Q E hr h => ?_)
  · obtain ⟨d, x, rfl, _⟩ := h
    rfl
  · obtain ⟨d, x, rfl, hd, hx, q⟩ := h
    refine ⟨_, (pss_one (ps_ret (pe_or (pe_cmpR op_in_seq (pv 0) (y_tt (pa_cons pe_str (pa_cons (pv 1) pa_nil))) (by rfl)) (pe_one (pe_m1 PySem.F.slot_str_endswith PySem.F.type_str_endswith y_ends (pv 1) (y_joined (.cons pe_str (.cons (pe_fmt (pv 0)) .nil)))))))), ?_⟩
    rw [show start N_suffix_matches [.str x, .str d] = [some (.str x), some (.str d)] from rfl]
    walk_at "rs"
    refine rd_wTT (Nat.le_of_ble_eq_true rfl) fun p H1 np sm t => ?_
    refine rd_inT (xs := [Str.ofString "", d]) t.seq ?_
    have q := q H1 sm
    unfold mch at q
    walk_at "rs"
    refine if_dec (fun e => ?_) (fun e => ?_)
    · walk_at "rs"
      rcases List.mem_cons.mp e with e | e
      · rw [decide_eq_true e] at q
        exact q
      · rw [decide_eq_true (List.mem_singleton.mp e).symm, Bool.or_true] at q
        exact q
    · walk_at "rs"
      rw [decide_eq_false (fun z => e (by rw [z]; exact List.mem_cons_self)), decide_eq_false (fun z => e (by rw [z]; exact List.mem_cons_of_mem _ (List.mem_singleton.mpr rfl))), Bool.false_or, Bool.false_or] at q
      exact q
end

section
variable {P : Program} {w : World} {K : PySem.W.Frag} {mg : Str → Option Value} {base : Heap}
/-- pairs of an end and its hosts -/
def RtL (H : Hp) : List V → List (Str × V) → Prop
  | [], [] => True
  | v :: vs, (s, y) :: r => (∃ p, v = .ref p ∧ Tk H p [.str s, y]) ∧ s.length ≤ 200 ∧ RtL H vs r
  | _, _ => False
theorem RtL.mono {H H1 : Hp} (k : ∀ a xs, Tk H a xs → Tk H1 a xs) : ∀ {vs : List V} {r : List (Str × V)}, RtL H vs r → RtL H1 vs r
  | [], [], _ => trivial
  | v :: vs, (s, y) :: r, ⟨⟨p, e, t⟩, l, g⟩ => ⟨⟨p, e, k _ _ t⟩, l, RtL.mono k g⟩
theorem RtL.len {H : Hp} : ∀ {vs : List V} {r : List (Str × V)}, RtL H vs r → vs.length = r.length
  | [], [], _ => rfl
  | v :: vs, (s, y) :: r, ⟨_, _, g⟩ => by rw [List.length_cons, List.length_cons, RtL.len g]
theorem RtL.get {H : Hp} : ∀ {vs : List V} {r : List (Str × V)} {i : Nat} {v : V}, RtL H vs r → vs[i]? = some v → ∃ s y p, r[i]? = some (s, y) ∧ v = .ref p ∧ Tk H p [.str s, y] ∧ s.length ≤ 200
  | v :: vs, (s, y) :: r, 0, w, ⟨⟨p, e, t⟩, l, _⟩, h => ⟨s, y, p, rfl, by rw [← Option.some.inj h]; exact e, t, l⟩
  | v :: vs, (s, y) :: r, i + 1, w, ⟨_, _, g⟩, h => RtL.get (i := i) g h
theorem RtL.snoc {H : Hp} {p : Addr} {s : Str} {y : V} (t : Tk H p [.str s, y]) (l : s.length ≤ 200) : ∀ {vs : List V} {r : List (Str × V)}, RtL H vs r → RtL H (vs ++ [.ref p]) (r ++ [(s, y)])
  | [], [], _ => ⟨⟨p, rfl, t⟩, l, trivial⟩
  | v :: vs, (s', y') :: r, ⟨a, b, g⟩ => ⟨a, b, RtL.snoc t l g⟩
/-- what a route is: the hosts of the best end, or an empty tuple -/
def RtA (dom : Str) (r : List (Str × V)) (n : Nat) (H : Hp) (v : V) : Prop := (bst dom (r.map (·.1)) n = none → ∃ p, v = .ref p ∧ Tk H p []) ∧ ∀ k s y, bst dom (r.map (·.1)) n = some k → r[k]? = some (s, y) → v = y
theorem nth_map {r : List (Str × V)} {k : Nat} {s : Str} {y : V} (h : r[k]? = some (s, y)) : (r.map (·.1))[k]? = some s := by rw [List.getElem?_map, h]; rfl
theorem bst_s {dom s : Str} {y : V} {r : List (Str × V)} {i : Nat} (h : r[i]? = some (s, y)) : bst dom (r.map (·.1)) (i + 1) = if mch dom s = true then (match bst dom (r.map (·.1)) i with
    | none => some i
    | some k => if (((r.map (·.1))[k]?).getD Str.empty).length < s.length then some i else some k) else bst dom (r.map (·.1)) i := by
  rw [bst, nth_map h]
  all_goals rfl
def spRoute (K : PySem.W.Frag) : Sp := fun vs H Q _ => ∃ (a : Addr) (d : Str) (rv : List V) (r : List (Str × V)), vs = [.ref a, .str d] ∧ SqT K H a rv ∧ RtL H rv r ∧ d.length ≤ 200 ∧ r.length ≤ 100 ∧ ∀ v H', Same H H' → RtA d r r.length H' v → Q v H'
theorem ok_route (T : Tx K mg) : OkD P w K mg base CX0 2 "route" ["routes", "domain"] (spRoute K) := by
  refine ok_mk T.d_route sc_route (fun vs H Q E h => ?_) (fun f cdv A outer s H vs Q E hr h => ?_)
  · obtain ⟨a, d, rv, r, rfl, _⟩ := h
    rfl
  · obtain ⟨a, d, rv, r, rfl, hT, hR, hd, hn, q⟩ := h
    refine ⟨_, (pss_cons (ps_set (i := 2) sc_route.nd rfl (.inl rfl) (pe_un un_neg pe_int))
      (pss_cons (ps_set (i := 3) sc_route.nd rfl (.inl rfl) (y_tt pa_nil))
      (pss_cons (ps_for PassesOwn.never rfl (pi_tup (pv 0)) (pg_tup (by rfl) (pgs_cons (pg_name (i := 4) sc_route.nd rfl (Or.inl rfl)) (pgs_cons (pg_name (i := 5) sc_route.nd rfl (Or.inl rfl)) pgs_nil))) (pss_one (ps_if (PW.pt (pw_and (pt_cmpR op_gt (pe_callB y_lenS (by rfl) T.z_len (by decide +kernel) (pa_cons (pv 4) pa_nil)) (pv 2) (nomark _)) (pw_and1 (pt_val (pe_callD (ok_suffix_matches T) hr (by rfl) pass0 (pa_cons (pv 4) (pa_cons (pv 1) pa_nil))))))) (pss_cons (ps_set (i := 2) sc_route.nd rfl (.inl rfl) (pe_callB y_lenS (by rfl) T.z_len (by decide +kernel) (pa_cons (pv 4) pa_nil)))
      (pss_one (ps_set (i := 3) sc_route.nd rfl (.inl rfl) (pv 5)))) pss_nil)))
      (pss_one (ps_ret (pv 3)))))), ?_⟩
    rw [show start N_route [.ref a, .str d] = [some (.ref a), some (.str d), none, none, none, none] from rfl]
    walk_at "rs"
    refine rd_wTT (Nat.le_of_ble_eq_true rfl) fun p0 H0 np0 sm0 t0 => ?_
    walk_at "rs"
    refine rd_wSq (same_tup sm0 hT) ?_
    refine frJ (walk_t (xs := rv)) (fun i σ H' => Same H0 H' ∧ ∃ (l : Int) (v : V) (x5 x6 : Option V), σ = [some (.ref a), some (.str d), some (.int l), some v, x5, x6] ∧ RtA d r i H' v ∧
      (bst d (r.map (·.1)) i = none → l = -1) ∧ ∀ k s y, bst d (r.map (·.1)) i = some k → r[k]? = some (s, y) → l = s.length) ?_ (fun i σ H' _ p => same_tup (sm0.trans p.1) hT) (fun i v σ H' hv p => ?_) (fun σ H' p => ?_)
    · exact ⟨Same.refl _, -1, _, none, none, rfl, ⟨fun _ => ⟨p0, rfl, t0⟩, fun k s y h => by cases h⟩, fun _ => rfl, fun k s y h => by cases h⟩
    · obtain ⟨sm, l, fv, x5, x6, rfl, ⟨A1, A2⟩, B1, B2⟩ := p
      obtain ⟨s, y, p, hr1, rfl, tp, ls⟩ := (hR.mono fun a xs t => t.same (sm0.trans sm)).get hv
      refine rd_gTup tp.seq rfl ?_
      walk_at "rs"
      have hb := bst_s (dom := d) hr1
      cases e : bst d (r.map (·.1)) i with
      | none =>
        rw [e] at hb
        have l0 := B1 e
        subst l0
        refine if_dec (fun c => ?_) (fun c => absurd (show (-1 : Int) < s.length by omega) c)
        walk_at "rs"
        refine ⟨d, s, rfl, by omega, by omega, fun H2 sm2 => ?_⟩
        walk_at "rs"
        refine if_b (fun m => ?_) (fun m => ?_)
        · walk_at "rs"
          rw [if_pos m] at hb
          refine ⟨sm.trans sm2, _, _, _, _, rfl, ⟨fun h => (by rw [hb] at h; cases h), fun k s' y' h h2 => ?_⟩, fun h => (by rw [hb] at h; cases h), fun k s' y' h h2 => ?_⟩
          all_goals
            rw [hb] at h
            cases Option.some.inj h
            rw [hr1] at h2
            cases Option.some.inj h2
            rfl
        · walk_at "rs"
          rw [m] at hb
          have hb2 : bst d (r.map (·.1)) (i + 1) = none := hb
          refine ⟨sm.trans sm2, _, _, _, _, rfl, ⟨fun h => ?_, fun k s' y' h => (by rw [hb2] at h; cases h)⟩, fun _ => rfl, fun k s' y' h => (by rw [hb2] at h; cases h)⟩
          obtain ⟨p1, e1, t1⟩ := A1 e
          exact ⟨p1, e1, t1.same sm2⟩
      | some k =>
        obtain ⟨k1, k2⟩ := bst_lt _ _ _ _ e
        rw [List.length_map] at k2
        obtain ⟨⟨sk, yk⟩, hk⟩ : ∃ z, r[k]? = some z := ⟨r[k], List.getElem?_eq_getElem k2⟩
        have lk := B2 k sk yk e hk
        have fk := A2 k sk yk e hk
        subst lk
        subst fk
        rw [e] at hb
        dsimp only at hb
        rw [nth_map hk, Option.getD_some] at hb
        have keep : bst d (r.map (·.1)) (i + 1) = some k → ∀ H2, Same H' H2 → ∀ x5 x6 : Option V, ∃ (l : Int) (v : V) (x5' x6' : Option V), [some (V.ref a), some (.str d), some (.int (sk.length : Nat)), some fv, x5, x6] = [some (.ref a), some (.str d), some (.int l), some v, x5', x6'] ∧ RtA d r (i + 1) H2 v ∧
            (bst d (r.map (·.1)) (i + 1) = none → l = -1) ∧ ∀ k s y, bst d (r.map (·.1)) (i + 1) = some k → r[k]? = some (s, y) → l = s.length := fun z H2 sm2 x5 x6 => by
          refine ⟨_, _, _, _, rfl, ⟨fun h => (by rw [z] at h; cases h), fun k' s' y' h h2 => ?_⟩, fun h => (by rw [z] at h; cases h), fun k' s' y' h h2 => ?_⟩
          all_goals
            rw [z] at h
            cases Option.some.inj h
            rw [hk] at h2
            cases Option.some.inj h2
            rfl
        refine if_dec (fun c => ?_) (fun c => ?_)
        · walk_at "rs"
          refine ⟨d, s, rfl, by omega, by omega, fun H2 sm2 => ?_⟩
          walk_at "rs"
          refine if_b (fun m => ?_) (fun m => ?_)
          · walk_at "rs"
            rw [if_pos m, if_pos (by omega)] at hb
            refine ⟨sm.trans sm2, _, _, _, _, rfl, ⟨fun h => (by rw [hb] at h; cases h), fun k s' y' h h2 => ?_⟩, fun h => (by rw [hb] at h; cases h), fun k s' y' h h2 => ?_⟩
            all_goals
              rw [hb] at h
              cases Option.some.inj h
              rw [hr1] at h2
              cases Option.some.inj h2
              rfl
          · walk_at "rs"
            rw [m] at hb
            exact ⟨sm.trans sm2, keep hb H2 sm2 _ _⟩
        · walk_at "rs"
          refine ⟨sm, keep ?_ H' (Same.refl _) _ _⟩
          rw [hb]
          split
          · rw [if_neg (by omega)]
          · rfl
    · obtain ⟨sm, l, fv, x5, x6, rfl, A1, _⟩ := p
      rw [hR.len] at A1
      walk_at "rs"
      exact q _ _ (sm0.trans sm) A1
def spLRoute (K : PySem.W.Frag) : Sp := fun vs H Q _ => ∃ (a : Addr) (d : Str) (rv : List V) (r : List (Str × V)), vs = [.ref a, .str d] ∧ SqL K H a rv ∧ RtL H rv r ∧ d.length ≤ 200 ∧ r.length ≤ 100 ∧ ∀ v H', Same H H' → RtA d r r.length H' v → Q v H'
theorem ok_Lroute (T : Tx K mg) : OkD P w K mg base CX0 2 "_law_route" ["routes", "domain"] (spLRoute K) := by
  refine ok_mk T.d_Lroute sc_Lroute (fun vs H Q E h => ?_) (fun f cdv A outer s H vs Q E hr h => ?_)
  · obtain ⟨a, d, rv, r, rfl, _⟩ := h
    rfl
  · obtain ⟨a, d, rv, r, rfl, hT, hR, hd, hn, q⟩ := h
    refine ⟨_, (pss_cons (ps_set (i := 2) sc_Lroute.nd rfl (.inl rfl) pe_non)
      (pss_cons (ps_for PassesOwn.never rfl (pi_range1 (by rfl) T.z_range (pa_cons (pe_callB y_lenQ (by rfl) T.z_len (by decide +kernel) (pa_cons (pv 0) pa_nil)) pa_nil)) (pg_name (i := 3) sc_Lroute.nd rfl (Or.inl rfl)) (pss_one (ps_if (pt_val (pe_callD (ok_Ltail T) hr (by rfl) pass0 (pa_cons (pv 1) (pa_cons (pe_ix ix_tup (pe_ix ix_list (pv 0) (pv 3) (fun _ _ => rfl)) pe_int (fun _ _ => rfl)) pa_nil)))) (pss_one (ps_if (PW.pt (pw_or (pt_cmpR y_isN (pv 2) pe_non (nomark _)) (pw_or1 (pt_cmpR op_gt (pe_callB y_lenS (by rfl) T.z_len (by decide +kernel) (pa_cons (pe_ix ix_tup (pe_ix ix_list (pv 0) (pv 3) (fun _ _ => rfl)) pe_int (fun _ _ => rfl)) pa_nil)) (pe_callB y_lenS (by rfl) T.z_len (by decide +kernel) (pa_cons (pe_ix ix_tup (pe_ix ix_list (pv 0) (pv 2) (fun _ _ => rfl)) pe_int (fun _ _ => rfl)) pa_nil)) (nomark _))))) (pss_one (ps_set (i := 2) sc_Lroute.nd rfl (.inl rfl) (pv 3))) pss_nil)) pss_nil)))
      (pss_cons (ps_if (pt_cmpR y_isN (pv 2) pe_non (nomark _)) (pss_one (ps_ret (y_tt pa_nil))) pss_nil)
      (pss_one (ps_ret (pe_ix ix_tup (pe_ix ix_list (pv 0) (pv 2) (fun _ _ => rfl)) pe_int (fun _ _ => rfl))))))), ?_⟩
    rw [show start N_Lroute [.ref a, .str d] = [some (.ref a), some (.str d), none, none] from rfl]
    walk_at "rs"
    refine rd_lenL hT ?_
    walk_at "rs"
    have hl := hR.len
    refine rd_wRg (by omega) (by omega) ?_
    have at_ : ∀ i s y, r[i]? = some (s, y) → ∃ p, atI rv ((0 : Int) + (i : Nat)) = some (.ref p) ∧ Tk H p [.str s, y] ∧ s.length ≤ 200 := fun i s y h => by
      have hi := (List.getElem?_eq_some_iff.mp h).1
      obtain ⟨v, hv⟩ : ∃ v, rv[i]? = some v := ⟨rv[i]'(by omega), List.getElem?_eq_getElem (by omega)⟩
      obtain ⟨s', y', p, h1, rfl, t, l⟩ := hR.get hv
      rw [h] at h1
      cases Option.some.inj h1
      exact ⟨p, by rw [Int.zero_add]; exact atI_nat hv, t, l⟩
    refine forR (fun i σ H' => H' = H ∧ ∃ (f x3 : Option V), σ = [some (.ref a), some (.str d), f, x3] ∧ (bst d (r.map (·.1)) i = none → f = some .non) ∧ ∀ k, bst d (r.map (·.1)) i = some k → f = some (.int ((0 : Int) + (k : Nat)))) ?_ (fun i σ H2 hi hP => ?_) (fun σ H2 hP => ?_)
    · exact ⟨rfl, some .non, none, rfl, fun _ => rfl, fun k h => by cases h⟩
    · obtain ⟨rfl, f, x3, rfl, B1, B2⟩ := hP
      obtain ⟨⟨s, y⟩, hri⟩ : ∃ z, r[i]? = some z := ⟨r[i]'(by omega), List.getElem?_eq_getElem (by omega)⟩
      obtain ⟨p, ap, tp, ls⟩ := at_ i s y hri
      have hb := bst_s (dom := d) hri
      walk_at "rs"
      refine rd_ixL hT ap ?_
      walk_at "rs"
      refine rd_ixT tp.seq (i := 0) (v := .str s) rfl ?_
      walk_at "rs"
      refine ⟨d, s, rfl, by omega, by omega, ?_⟩
      walk_at "rs"
      refine if_b (fun m => ?_) (fun m => ?_)
      · walk_at "rs"
        cases e : bst d (r.map (·.1)) i with
        | none =>
          rw [e, if_pos m] at hb
          obtain rfl := B1 e
          walk_at "rs"
          refine if_dec (fun c => ?_) (fun c => absurd rfl c)
          walk_at "rs"
          refine ⟨rfl, _, _, rfl, fun h => (by rw [hb] at h; cases h), fun k h => ?_⟩
          rw [hb] at h
          cases Option.some.inj h
          rfl
        | some k =>
          obtain ⟨k1, k2⟩ := bst_lt _ _ _ _ e
          rw [List.length_map] at k2
          obtain ⟨⟨sk, yk⟩, hk⟩ : ∃ z, r[k]? = some z := ⟨r[k], List.getElem?_eq_getElem k2⟩
          rw [e, if_pos m] at hb
          dsimp only at hb
          rw [nth_map hk, Option.getD_some] at hb
          obtain rfl := B2 k e
          obtain ⟨pk, apk, tpk, lsk⟩ := at_ k sk yk hk
          walk_at "rs"
          refine if_dec (fun c => absurd c (by simp)) (fun c => ?_)
          walk_at "rs"
          refine rd_ixL hT ap ?_
          walk_at "rs"
          refine rd_ixT tp.seq (i := 0) (v := .str s) rfl ?_
          walk_at "rs"
          refine rd_ixL hT apk ?_
          walk_at "rs"
          refine rd_ixT tpk.seq (i := 0) (v := .str sk) rfl ?_
          walk_at "rs"
          refine if_dec (fun c => ?_) (fun c => ?_)
          · walk_at "rs"
            rw [if_pos (by omega)] at hb
            refine ⟨rfl, _, _, rfl, fun h => (by rw [hb] at h; cases h), fun k h => ?_⟩
            rw [hb] at h
            cases Option.some.inj h
            rfl
          · walk_at "rs"
            rw [if_neg (by omega)] at hb
            refine ⟨rfl, _, _, rfl, fun h => (by rw [hb] at h; cases h), fun k h => ?_⟩
            rw [hb] at h
            cases Option.some.inj h
            rfl
      · walk_at "rs"
        rw [m] at hb
        have hb2 : bst d (r.map (·.1)) (i + 1) = bst d (r.map (·.1)) i := hb
        refine ⟨rfl, _, _, rfl, fun h => B1 (by rw [← hb2]; exact h), fun k h => B2 k (by rw [← hb2]; exact h)⟩
    · obtain ⟨rfl, f, x3, rfl, B1, B2⟩ := hP
      have en : (rv.length : Int).toNat = r.length := by omega
      rw [en] at B1 B2
      cases e : bst d (r.map (·.1)) r.length with
      | none =>
        obtain rfl := B1 e
        walk_at "rs"
        refine if_dec (fun c => ?_) (fun c => absurd rfl c)
        walk_at "rs"
        refine rd_wTT (Nat.le_of_ble_eq_true rfl) fun p0 H0 np0 sm0 t0 => ?_
        exact q _ _ sm0 ⟨fun _ => ⟨p0, rfl, t0⟩, fun k s y h => (by rw [e] at h; cases h)⟩
      | some k =>
        obtain ⟨k1, k2⟩ := bst_lt _ _ _ _ e
        rw [List.length_map] at k2
        obtain ⟨⟨sk, yk⟩, hk⟩ : ∃ z, r[k]? = some z := ⟨r[k], List.getElem?_eq_getElem k2⟩
        obtain ⟨pk, apk, tpk, lsk⟩ := at_ k sk yk hk
        obtain rfl := B2 k e
        walk_at "rs"
        refine if_dec (fun c => absurd c (by simp)) (fun c => ?_)
        walk_at "rs"
        refine rd_ixL hT apk ?_
        walk_at "rs"
        refine rd_ixT tpk.seq (i := 1) (v := yk) rfl ?_
        refine q _ _ (Same.refl _) ⟨fun h => (by rw [e] at h; cases h), fun k' s y h h2 => ?_⟩
        rw [e] at h
        cases Option.some.inj h
        rw [hk] at h2
        cases Option.some.inj h2
        rfl
end

section
variable {P : Program} {w : World} {K : PySem.W.Frag} {mg : Str → Option Value} {base : Heap} {C : Addr}
theorem n_du : ¬ (("domain" : Str) = "users") := by decide +kernel
theorem n_dl : ¬ (("domain" : Str) = "lists") := by decide +kernel
theorem n_ul : ¬ (("users" : Str) = "lists") := by decide +kernel
def dfl (dom : Str) (u l : Addr) : List (Str × V) := putF "lists" (.ref l) (putF "users" (.ref u) (putF "domain" (.str dom) []))
theorem dfl_d (dom : Str) (u l : Addr) : (dfl dom u l).lookup ("domain" : Str) = some (.str dom) := by
  unfold dfl
  rw [lookup_putF, if_neg n_dl, lookup_putF, if_neg n_du, lookup_putF, if_pos rfl]
theorem dfl_u (dom : Str) (u l : Addr) : (dfl dom u l).lookup ("users" : Str) = some (.ref u) := by
  unfold dfl
  rw [lookup_putF, if_neg n_ul, lookup_putF, if_pos rfl]
theorem dfl_l (dom : Str) (u l : Addr) : (dfl dom u l).lookup ("lists" : Str) = some (.ref l) := by
  unfold dfl
  rw [lookup_putF, if_pos rfl]
theorem dfl_no (dom : Str) (u l : Addr) : (dfl dom u l).lookup ("lookup" : Str) = none := by
  unfold dfl
  rw [lookup_putF, if_neg (by decide +kernel), lookup_putF, if_neg (by decide +kernel), lookup_putF, if_neg (by decide +kernel)]
  rfl
def DirAt (C : Addr) (H : Hp) (p : Addr) (dom : Str) (u l : Addr) : Prop := ∃ dx, H p = some (.ins C dx (dfl dom u l))
theorem DirAt.same {H H1 : Hp} {p : Addr} {dom : Str} {u l : Addr} (h : DirAt C H p dom u l) (s : Same H H1) : DirAt C H1 p dom u l := let ⟨dx, e⟩ := h; ⟨dx, s _ _ e⟩
theorem DirAt.next {H H1 : Hp} {st p : Addr} {dom : Str} {u l : Addr} (h : DirAt C H p dom u l) (s : Stt H st) (d : Dr st H H1) : DirAt C H1 p dom u l := by
  obtain ⟨dx, e⟩ := h
  refine ⟨dx, d.1 _ _ (fun z => ?_) e⟩
  obtain ⟨k, v, q⟩ := s
  rw [z, q] at e
  cases e
def spDInit (C : Addr) : Sp := fun vs H Q _ => ∃ (p dx : Addr) (dom : Str) (u l : Addr), vs = [.ref p, .str dom, .ref u, .ref l] ∧ H p = some (.ins C dx []) ∧ ∀ H', DirAt C H' p dom u l → (∀ b o, H b = some o → b ≠ p → H' b = some o) → Q .non H'
theorem ok_Directory_init (T : Tx K mg) (Z : Cs_Directory K mg C) : OkM P w K mg base CX0 1 C "__init__" ["self", "domain", "users", "lists"] (spDInit C) := by
  refine ok_mkM Z.m_Directory_init sc_Directory_init (fun vs H Q E h => ?_) (fun f cdv A outer s H vs Q E hr h => ?_)
  · obtain ⟨p, dx, dom, u, l, rfl, _⟩ := h
    rfl
  · obtain ⟨p, dx, dom, u, l, rfl, e, q⟩ := h
    refine ⟨_, (pss_cons (ps_fld (pv 0) (pv 1) rfl)
      (pss_cons (ps_fld (pv 0) (pv 2) rfl)
      (pss_one (ps_fld (pv 0) (pv 3) rfl)))), ?_⟩
    rw [show start N_Directory_init [.ref p, .str dom, .ref u, .ref l] = [some (.ref p), some (.str dom), some (.ref u), some (.ref l)] from rfl]
    walk_at "rs"
    refine rd_wSFld e Z.c.cl Z.n_domain (by show 0 < 1000; decide) ?_
    walk_at "rs"
    refine rd_wSFld upd_same Z.c.cl Z.n_users (by show 1 < 1000; decide) ?_
    walk_at "rs"
    refine rd_wSFld upd_same Z.c.cl Z.n_lists (Nat.lt_of_le_of_lt (Nat.le_refl _) (by show (putF _ _ [_]).length < 1000; unfold putF; split <;> simp [putF])) ?_
    walk_at "rs"
    refine q _ ⟨dx, upd_same⟩ fun b o hb n => ?_
    rw [upd_ne n, upd_ne n, upd_ne n]
    exact hb
/-- the lists of a directory: a name, an owner, members each -/
def LsL (H : Hp) : List V → List (Str × V × V) → Prop
  | [], [] => True
  | v :: vs, (s, o, m) :: r => (∃ p, v = .ref p ∧ Tk H p [.str s, o, m]) ∧ LsL H vs r
  | _, _ => False
theorem LsL.mono {H H1 : Hp} (k : ∀ a xs, Tk H a xs → Tk H1 a xs) : ∀ {vs : List V} {r : List (Str × V × V)}, LsL H vs r → LsL H1 vs r
  | [], [], _ => trivial
  | v :: vs, (s, o, m) :: r, ⟨⟨p, e, t⟩, g⟩ => ⟨⟨p, e, k _ _ t⟩, LsL.mono k g⟩
theorem LsL.len {H : Hp} : ∀ {vs : List V} {r : List (Str × V × V)}, LsL H vs r → vs.length = r.length
  | [], [], _ => rfl
  | v :: vs, (s, o, m) :: r, ⟨_, g⟩ => by rw [List.length_cons, List.length_cons, LsL.len g]
theorem LsL.get {H : Hp} : ∀ {vs : List V} {r : List (Str × V × V)} {i : Nat} {v : V}, LsL H vs r → vs[i]? = some v → ∃ s o m p, r[i]? = some (s, o, m) ∧ v = .ref p ∧ Tk H p [.str s, o, m]
  | v :: vs, (s, o, m) :: r, 0, w, ⟨⟨p, e, t⟩, _⟩, h => ⟨s, o, m, p, rfl, by rw [← Option.some.inj h]; exact e, t⟩
  | v :: vs, (s, o, m) :: r, i + 1, w, ⟨_, g⟩, h => LsL.get (i := i) g h
theorem LsL.snoc {H : Hp} {p : Addr} {s : Str} {o m : V} (t : Tk H p [.str s, o, m]) : ∀ {vs : List V} {r : List (Str × V × V)}, LsL H vs r → LsL H (vs ++ [.ref p]) (r ++ [(s, o, m)])
  | [], [], _ => ⟨⟨p, rfl, t⟩, trivial⟩
  | v :: vs, (s', o', m') :: r, ⟨a, g⟩ => ⟨a, LsL.snoc t g⟩
/-- what a lookup gives, with the lists that stand behind -/
def inL (L : List (Str × V × V)) (x : Str) : Option (Str × V × V) := L.find? fun e => decide (e.1 = x)
def lookV (dom : Str) (us : List Str) (L : List (Str × V × V)) (x d : Str) : List V :=
  if d = dom then (if x ∈ us then [.str "box", .str x] else match inL L x with
    | some (_, o, m) => [.str "list", o, m]
    | none => [.str "unknown"]) else [.str "remote"]
def spLookup (K : PySem.W.Frag) (C : Addr) : Sp := fun vs H Q _ => ∃ (p a u l : Addr) (dom x d : Str) (us : List Str) (lv : List V) (L : List (Str × V × V)), vs = [.ref p, .ref a] ∧ DirAt C H p dom u l ∧ Tk H a [.str x, .str d] ∧ SqT K H u (us.map V.str) ∧ SqT K H l lv ∧ LsL H lv L ∧
  ∀ q H', Same H H' → Tk H' q (lookV dom us L x d) → Q (.ref q) H'
theorem ok_Directory_lookup (T : Tx K mg) (Z : Cs_Directory K mg C) : OkM P w K mg base CX0 1 C "lookup" ["self", "address"] (spLookup K C) := by
  refine ok_mkM Z.m_Directory_lookup sc_Directory_lookup (fun vs H Q E h => ?_) (fun f cdv A outer s H vs Q E hr h => ?_)
  · obtain ⟨p, a, u, l, dom, x, d, us, lv, L, rfl, _⟩ := h
    rfl
  · obtain ⟨p, a, u, l, dom, x, d, us, lv, L, rfl, ⟨dx, e⟩, ta, tu, tl_, hL, q⟩ := h
    refine ⟨_, (pss_cons (ps_asg (pv 1) (pg_tup (by rfl) (pgs_cons (pg_name (i := 2) sc_Directory_lookup.nd rfl (Or.inl rfl)) (pgs_cons (pg_name (i := 3) sc_Directory_lookup.nd rfl (Or.inl rfl)) pgs_nil))))
      (pss_cons (ps_if (pt_cmpR op_ne (pv 3) (pe_fld (pv 0) rfl) (nomark _)) (pss_one (ps_ret (y_tt (pa_cons pe_str pa_nil)))) pss_nil)
      (pss_cons (ps_if (pt_cmpR op_in_seq (pv 2) (pe_fld (pv 0) rfl) (by rfl)) (pss_one (ps_ret (y_tt (pa_cons pe_str (pa_cons (pv 2) pa_nil))))) pss_nil)
      (pss_cons (ps_for PassesOwn.never rfl (pi_tup (pe_fld (pv 0) rfl)) (pg_tup (by rfl) (pgs_cons (pg_name (i := 4) sc_Directory_lookup.nd rfl (Or.inl rfl)) (pgs_cons (pg_name (i := 5) sc_Directory_lookup.nd rfl (Or.inl rfl)) (pgs_cons (pg_name (i := 6) sc_Directory_lookup.nd rfl (Or.inl rfl)) pgs_nil)))) (pss_one (ps_if (pt_cmpR op_eq (pv 4) (pv 2) (nomark _)) (pss_one (ps_ret (y_tt (pa_cons pe_str (pa_cons (pv 5) (pa_cons (pv 6) pa_nil)))))) pss_nil)))
      (pss_one (ps_ret (y_tt (pa_cons pe_str pa_nil)))))))), ?_⟩
    rw [show start N_Directory_lookup [.ref p, .ref a] = [some (.ref p), some (.ref a), none, none, none, none, none] from rfl]
    walk_at "rs"
    refine rd_gTup ta.seq rfl ?_
    walk_at "rs"
    refine rd_wFld e Z.c.cl Z.n_domain (dfl_d _ _ _) ?_
    walk_at "rs"
    unfold lookV at q
    refine if_ndec (fun c => ?_) (fun c => ?_)
    · rw [if_neg c] at q
      walk_at "rs"
      refine rd_wTT (Nat.le_of_ble_eq_true rfl) fun p0 H0 np0 sm0 t0 => ?_
      exact q _ _ sm0 t0
    · rw [if_pos c] at q
      walk_at "rs"
      refine rd_wFld e Z.c.cl Z.n_users (dfl_u _ _ _) ?_
      refine rd_inT tu ?_
      walk_at "rs"
      refine if_dec (fun c => ?_) (fun c => ?_)
      · rw [if_pos c] at q
        walk_at "rs"
        refine rd_wTT (Nat.le_of_ble_eq_true rfl) fun p0 H0 np0 sm0 t0 => ?_
        exact q _ _ sm0 t0
      · rw [if_neg c] at q
        walk_at "rs"
        refine rd_wFld e Z.c.cl Z.n_lists (dfl_l _ _ _) ?_
        refine rd_wSq tl_ ?_
        refine frJ (walk_t (xs := lv)) (fun i σ H' => H' = H ∧ ∃ (x4 x5 x6 : Option V), σ = [some (.ref p), some (.ref a), some (.str x), some (.str d), x4, x5, x6] ∧ inL (L.take i) x = none) ?_ (fun i σ H' _ p => by rw [p.1]; exact tl_) (fun i v σ H' hv pv => ?_) (fun σ H' pv => ?_)
        · exact ⟨rfl, none, none, none, rfl, rfl⟩
        · obtain ⟨rfl, x4, x5, x6, rfl, hn⟩ := pv
          obtain ⟨s, o, m, pe, hr1, rfl, te⟩ := hL.get hv
          refine rd_gTup te.seq rfl ?_
          walk_at "rs"
          have et : L.take (i + 1) = L.take i ++ [(s, o, m)] := by rw [List.take_add_one, hr1]; rfl
          refine if_dec (fun c => ?_) (fun c => ?_)
          · walk_at "rs"
            refine rd_wTT (Nat.le_of_ble_eq_true rfl) fun p0 H0 np0 sm0 t0 => ?_
            have ef : inL L x = some (s, o, m) := by
              have ed : L = L.take (i + 1) ++ L.drop (i + 1) := (List.take_append_drop _ _).symm
              unfold inL at hn ⊢
              rw [ed, et, List.find?_append, List.find?_append, hn]
              simp [c]
            rw [ef] at q
            exact q _ _ sm0 t0
          · walk_at "rs"
            refine ⟨rfl, _, _, _, rfl, ?_⟩
            unfold inL at hn ⊢
            rw [et, List.find?_append, hn]
            simp [c]
        · obtain ⟨rfl, x4, x5, x6, rfl, hn⟩ := pv
          rw [hL.len, List.take_length] at hn
          rw [hn] at q
          walk_at "rs"
          refine rd_wTT (Nat.le_of_ble_eq_true rfl) fun p0 H0 np0 sm0 t0 => ?_
          exact q _ _ sm0 t0
end

section
variable {P : Program} {w : World} {K : PySem.W.Frag} {mg : Str → Option Value} {base : Heap} {C : Addr}
theorem NmP.uni {c c' i i' : Nat} {x : Str} (h : NmP c i x) (g : NmP c' i' x) : c = c' ∧ i = i' := by
  obtain ⟨_, _, r, e⟩ := h
  obtain ⟨_, _, r', e'⟩ := g
  rw [e] at e'
  obtain ⟨h1, h2⟩ := List.cons.inj e'
  obtain ⟨h2, _⟩ := List.cons.inj h2
  exact ⟨h1, by omega⟩
/-- an entry of the lists, as data -/
def EnV (H : Hp) (e : Str × V × V) : Prop := Asc e.1 ∧ ∃ od md, Va H e.2.1 od ∧ Va H e.2.2 md ∧ Sh 1 od ∧ Sh 3 md
theorem EnV.mono {H H1 : Hp} {e : Str × V × V} (k : ∀ a xs, Tk H a xs → Tk H1 a xs) (h : EnV H e) : EnV H1 e := by
  obtain ⟨a, od, md, h1, h2, h3⟩ := h
  exact ⟨a, od, md, h1.mono k, h2.mono k, h3⟩
theorem lsl_va {H : Hp} : ∀ {vs : List V} {L : List (Str × V × V)}, LsL H vs L → (∀ e ∈ L, EnV H e) → ∃ ds, VaL H vs ds ∧ ∀ d ∈ ds, Sh 4 d
  | [], [], _, _ => ⟨[], .nil, fun _ h => nomatch h⟩
  | v :: vs, (s, o, m) :: r, ⟨⟨p, e, t⟩, g⟩, h => by
    obtain ⟨ds, h1, h2⟩ := lsl_va g fun e he => h e (List.mem_cons_of_mem _ he)
    obtain ⟨a, od, md, ho, hm, so, sm⟩ := h (s, o, m) List.mem_cons_self
    subst e
    refine ⟨.tuple [.str s, od, md] :: ds, .cons (Va.tri t (.str s) ho hm) h1, fun d hd => ?_⟩
    rcases List.mem_cons.mp hd with rfl | hd
    · exact Sh.tuple (Sh.three ((Sh.str a).mono (by decide)) (so.mono (by decide)) sm)
    · exact h2 d hd
theorem in_mem {L : List (Str × V × V)} {x : Str} {e : Str × V × V} (h : inL L x = some e) : e ∈ L ∧ e.1 = x := by
  unfold inL at h
  have h2 := List.find?_some (p := fun e : Str × V × V => decide (e.1 = x)) h
  exact ⟨List.mem_of_find?_eq_some h, of_decide_eq_true h2⟩
theorem look_va {H : Hp} {dom x d : Str} {us : List Str} {L : List (Str × V × V)} (hL : ∀ e ∈ L, EnV H e) (ax : Asc x) : ∃ ds, VaL H (lookV dom us L x d) ds ∧ ∀ z ∈ ds, Sh 3 z := by
  unfold lookV
  by_cases c : d = dom
  · rw [if_pos c]
    by_cases c : x ∈ us
    · rw [if_pos c]
      exact ⟨_, .cons (.str _) (.cons (.str _) .nil), Sh.two ((Sh.str (asc_of (by decide +kernel))).mono (by decide)) ((Sh.str ax).mono (by decide))⟩
    · rw [if_neg c]
      cases e : inL L x with
      | none => exact ⟨_, .cons (.str _) .nil, Sh.one ((Sh.str (asc_of (by decide +kernel))).mono (by decide))⟩
      | some z =>
        obtain ⟨s, o, m⟩ := z
        obtain ⟨a, od, md, ho, hm, so, sm⟩ := hL _ (in_mem e).1
        exact ⟨_, .cons (.str _) (.cons ho (.cons hm .nil)), Sh.three ((Sh.str (asc_of (by decide +kernel))).mono (by decide)) (so.mono (by decide)) sm⟩
  · rw [if_neg c]
    exact ⟨_, .cons (.str _) .nil, Sh.one ((Sh.str (asc_of (by decide +kernel))).mono (by decide))⟩
/-- what the law expects, of the lists so far -/
def expV (us : List Str) (L : List (Str × V × V)) (x : Str) : List V := match inL L x with
  | some (_, o, m) => [.str "list", o, m]
  | none => if x ∈ us then [.str "box", .str x] else [.str "unknown"]
theorem exp_look {dom x : Str} {us : List Str} {L : List (Str × V × V)} (h : ∀ e ∈ L, e.1 ∉ us) : expV us L x = lookV dom us L x dom := by
  unfold expV lookV
  rw [if_pos rfl]
  cases e : inL L x with
  | none => rfl
  | some z =>
    obtain ⟨m, h2⟩ := in_mem e
    have hx : x ∉ us := by
      rw [← h2]
      exact h z m
    obtain ⟨s, o, m'⟩ := z
    show [V.str "list", o, m'] = if x ∈ us then _ else [V.str "list", o, m']
    rw [if_neg hx]
theorem exp_step {us : List Str} {L : List (Str × V × V)} {x s : Str} {o m : V} {j : Nat} (e : L[j]? = some (s, o, m)) (d : ∀ i z, i < j → L[i]? = some z → z.1 ≠ s) :
    expV us (L.take (j + 1)) x = if s = x then [.str "list", o, m] else expV us (L.take j) x := by
  have et : L.take (j + 1) = L.take j ++ [(s, o, m)] := by rw [List.take_add_one, e]; rfl
  unfold expV
  rw [et]
  unfold inL
  rw [List.find?_append]
  by_cases c : s = x
  · have hn : (L.take j).find? (fun e => decide (e.1 = x)) = none := by
      rw [List.find?_eq_none]
      intro z hz
      obtain ⟨i, hi⟩ := List.getElem?_of_mem hz
      have hij : i < j := by
        have := (List.getElem?_eq_some_iff.mp hi).1
        rw [List.length_take] at this
        omega
      rw [List.getElem?_take_of_lt hij] at hi
      have := d i z hij hi
      simp only [decide_eq_true_eq]
      rw [← c]
      exact this
    rw [hn, if_pos c]
    simp [c]
  · rw [if_neg c]
    have : ([(s, o, m)] : List (Str × V × V)).find? (fun e => decide (e.1 = x)) = none := by simp [c]
    rw [this, Option.or_none]
/-- a member: a pair of texts -/
def MmP (H : Hp) (y : V) : Prop := ∃ a b p, y = V.ref p ∧ Tk H p [.str a, .str b] ∧ Asc a ∧ Asc b
theorem mm_va {H : Hp} : ∀ {ys : List V}, (∀ y ∈ ys, MmP H y) → ∃ ds, VaL H ys ds ∧ ∀ d ∈ ds, Sh 1 d
  | [], _ => ⟨[], .nil, fun _ h => nomatch h⟩
  | y :: ys, h => by
    obtain ⟨ds, h1, h2⟩ := mm_va (ys := ys) fun z hz => h z (List.mem_cons_of_mem _ hz)
    obtain ⟨a, b, p, rfl, t, aa, ab⟩ := h y List.mem_cons_self
    refine ⟨_, .cons (Va.pair t (.str a) (.str b)) h1, fun d hd => ?_⟩
    rcases List.mem_cons.mp hd with rfl | hd
    · exact Sh.tuple (Sh.two (Sh.str aa) (Sh.str ab))
    · exact h2 d hd
/-- hosts: a tuple of texts -/
def HsP (H : Hp) (y : V) : Prop := ∃ (p : Addr) (xs : List Str), y = V.ref p ∧ Tk H p (xs.map V.str) ∧ ∀ x ∈ xs, Asc x
theorem HsP.mono {H H1 : Hp} {y : V} (k : ∀ a xs, Tk H a xs → Tk H1 a xs) (h : HsP H y) : HsP H1 y := by
  obtain ⟨p, xs, e, t, a⟩ := h
  exact ⟨p, xs, e, k _ _ t, a⟩
def spLaw (K : PySem.W.Frag) : Sp := fun vs H Q _ => ∃ (sc : Addr) (ns : List Int), vs = [.ref sc] ∧ SqL K H sc (ns.map V.int) ∧ ∀ H', Q (.bl true) H'
theorem ok_law (T : Tx K mg) (Z : Cs_Directory K mg C) {f : Addr} {fd : FuncData} (F : Fun K "law" "law" s_law f fd) : FnOk P w K mg base CX0 7 f fd ["script"] (spLaw K) := by
  refine ok_F F sc_law (fun vs H Q E h => ?_) (fun cdv A outer s H vs Q E hr h => ?_)
  · obtain ⟨sc, ns, rfl, _⟩ := h
    rfl
  · obtain ⟨sc, ns, rfl, hS, q⟩ := h
    refine ⟨_, (pss_cons (ps_set (i := 1) sc_law.nd rfl (.inr rfl) (pe_lst (pa_cons pe_int (pa_cons pe_int pa_nil))))
      (pss_cons (ps_set (i := 2) sc_law.nd rfl (.inl rfl) (pe_callD (ok_Ldomain T) (hr.mono (by decide)) (by rfl) pass0 (pa_cons (pv 1) (pa_cons (pv 0) pa_nil))))
      (pss_cons (ps_set (i := 3) sc_law.nd rfl (.inl rfl) (pe_callTy y_tup (by rfl) T.z_tuple (by decide +kernel) (pa_cons (pe_callD (ok_Lnames T) hr (by rfl) pass0 (pa_cons (pv 1) (pa_cons (pv 0) (pa_cons (pe_callD (ok_Ldraw T) (hr.mono (by decide)) (by rfl) pass0 (pa_cons (pv 1) (pa_cons (pv 0) (pa_cons pe_int pa_nil)))) (pa_cons pe_str pa_nil))))) pa_nil)))
      (pss_cons (ps_set (i := 4) sc_law.nd rfl (.inl rfl) (pe_lst pa_nil))
      (pss_cons (ps_for PassesOwn.never rfl (pi_list (pe_callD (ok_Lnames T) hr (by rfl) pass0 (pa_cons (pv 1) (pa_cons (pv 0) (pa_cons (pe_callD (ok_Ldraw T) (hr.mono (by decide)) (by rfl) pass0 (pa_cons (pv 1) (pa_cons (pv 0) (pa_cons pe_int pa_nil)))) (pa_cons pe_str pa_nil)))))) (pg_name (i := 5) sc_law.nd rfl (Or.inl rfl)) (pss_cons (ps_set (i := 6) sc_law.nd rfl (.inl rfl) (pe_ix ix_list (pe_lst (pa_cons pe_non (pa_cons (y_tt (pa_cons pe_str (pa_cons (pv 2) pa_nil))) pa_nil))) (pe_callD (ok_Ldraw T) (hr.mono (by decide)) (by rfl) pass0 (pa_cons (pv 1) (pa_cons (pv 0) (pa_cons pe_int pa_nil)))) (fun _ _ => rfl)))
      (pss_cons (ps_set (i := 8) sc_law.nd rfl (.inl rfl) (pe_callTy y_tup (by rfl) T.z_tuple (by decide +kernel) (pa_cons (pe_lc (own := [("k", 7)]) (g := gName 7) rfl sc_law.nd (pi_range1 (by rfl) T.z_range (pa_cons (pe_callD (ok_Ldraw T) (hr.mono (by decide)) (by rfl) pass0 (pa_cons (pv 1) (pa_cons (pv 0) (pa_cons pe_int pa_nil)))) pa_nil)) (blkOk_by (N := N_law) (sc := defScope s_law) (by decide +kernel)) (fun _ _ _ _ _ => pg_name (i := 7) sc_law.nd rfl (Or.inl rfl)) (fun _ _ _ _ _ => pts_nil) (fun _ _ _ _ _ => (y_tt (pa_cons (pe_callD (ok_Llocal T) (hr.mono (by decide)) (by rfl) pass0 (pa_cons (pv 1) (pa_cons (pv 0) pa_nil))) (pa_cons (pe_callD (ok_Ldomain T) (hr.mono (by decide)) (by rfl) pass0 (pa_cons (pv 1) (pa_cons (pv 0) pa_nil))) pa_nil))))) pa_nil)))
      (pss_one (ps_expr (pe_bm PySem.F.plainAttrs_list PySem.F.slot_list_append PySem.F.type_list_append mt_append (pv 4) (pa_cons (y_tt (pa_cons (pv 5) (pa_cons (pv 6) (pa_cons (pv 8) pa_nil)))) pa_nil)))))))
      (pss_cons (ps_set (i := 9) sc_law.nd rfl (.inl rfl) (pe_makeC Z.c (ok_Directory_init T Z) (hr.mono (by decide)) (by rfl) pass0 (pa_cons (pv 2) (pa_cons (pv 3) (pa_cons (pe_callTy y_tup (by rfl) T.z_tuple (by decide +kernel) (pa_cons (pv 4) pa_nil)) pa_nil)))))
      (pss_cons (ps_if (PW.pt (pw_or (pt_cmpR op_ne (pe_fld (pv 9) rfl) (pv 2) (nomark _)) (pw_or (pt_cmpR (op_neD hr.units) (pe_fld (pv 9) rfl) (pv 3) (nomark _)) (pw_or1 (pt_cmpR (op_neD hr.units) (pe_fld (pv 9) rfl) (pe_callTy y_tup (by rfl) T.z_tuple (by decide +kernel) (pa_cons (pv 4) pa_nil)) (nomark _)))))) (pss_one (ps_ret pe_bl)) pss_nil)
      (pss_cons (ps_for PassesOwn.never rfl (pi_list (pe_op op_cat (pe_op op_cat (pe_callTy y_listOf (by rfl) T.z_list (by decide +kernel) (pa_cons (pv 3) pa_nil)) (pe_lc (own := [("one", 10)]) (g := gName 10) rfl sc_law.nd (pi_list (pv 4)) (blkOk_by (N := N_law) (sc := defScope s_law) (by decide +kernel)) (fun _ _ _ _ _ => pg_name (i := 10) sc_law.nd rfl (Or.inl rfl)) (fun _ _ _ _ _ => pts_nil) (fun _ _ _ _ _ => (pe_ix (show IxR _ (rIxT K) from ix_tup) (pv 10) pe_int (fun _ _ => rfl))))) (pe_lst (pa_cons (pe_callD (ok_Llocal T) (hr.mono (by decide)) (by rfl) pass0 (pa_cons (pv 1) (pa_cons (pv 0) pa_nil))) (pa_cons pe_str pa_nil))))) (pg_name (i := 5) sc_law.nd rfl (Or.inl rfl)) (pss_cons (ps_set (i := 11) sc_law.nd rfl (.inl rfl) (y_tt (pa_cons pe_str pa_nil)))
      (pss_cons (ps_if (pt_cmpR op_in_seq (pv 5) (pv 3) (by rfl)) (pss_one (ps_set (i := 11) sc_law.nd rfl (.inl rfl) (y_tt (pa_cons pe_str (pa_cons (pv 5) pa_nil))))) pss_nil)
      (pss_cons (ps_for PassesOwn.never rfl (pi_list (pv 4)) (pg_name (i := 10) sc_law.nd rfl (Or.inl rfl)) (pss_one (ps_if (pt_cmpR op_eq (pe_ix ix_tup (pv 10) pe_int (fun _ _ => rfl)) (pv 5) (nomark _)) (pss_one (ps_set (i := 11) sc_law.nd rfl (.inl rfl) (y_tt (pa_cons pe_str (pa_cons (pe_ix ix_tup (pv 10) pe_int (fun _ _ => rfl)) (pa_cons (pe_ix ix_tup (pv 10) pe_int (fun _ _ => rfl)) pa_nil)))))) pss_nil)))
      (pss_cons (ps_if (pt_cmpR (op_neD hr.units) (pe_methD Z.c.cl (ok_Directory_lookup T Z) (hr.mono (by decide)) pass0 (pv 9) (pa_cons (y_tt (pa_cons (pv 5) (pa_cons (pv 2) pa_nil))) pa_nil)) (pv 11) (nomark _)) (pss_one (ps_ret pe_bl)) pss_nil)
      (pss_cons (ps_set (i := 12) sc_law.nd rfl (.inl rfl) (pe_ix ix_list (pe_lst (pa_cons (pe_op y_adS (pv 2) pe_str) (pa_cons (pe_op y_adS pe_str (pv 2)) (pa_cons (pe_op y_adS (pe_callD (ok_Ldomain T) (hr.mono (by decide)) (by rfl) pass0 (pa_cons (pv 1) (pa_cons (pv 0) pa_nil))) pe_str) pa_nil)))) (pe_callD (ok_Ldraw T) (hr.mono (by decide)) (by rfl) pass0 (pa_cons (pv 1) (pa_cons (pv 0) (pa_cons pe_int pa_nil)))) (fun _ _ => rfl)))
      (pss_one (ps_if (PW.pt (pw_and (pt_cmpR op_ne (pv 12) (pv 2) (nomark _)) (pw_and1 (pt_cmpR (op_neD hr.units) (pe_methD Z.c.cl (ok_Directory_lookup T Z) (hr.mono (by decide)) pass0 (pv 9) (pa_cons (y_tt (pa_cons (pv 5) (pa_cons (pv 12) pa_nil))) pa_nil)) (y_tt (pa_cons pe_str pa_nil)) (nomark _))))) (pss_one (ps_ret pe_bl)) pss_nil))))))))
      (pss_cons (ps_set (i := 13) sc_law.nd rfl (.inl rfl) (pe_lst (pa_cons pe_str (pa_cons (pv 2) (pa_cons (pe_slice sl_str (pv 2) (po_some pe_int) po_none) (pa_cons (pe_op y_adS pe_str (pv 2)) (pa_cons (pe_op y_adS pe_str (pv 2)) (pa_cons (pe_slice sl_str (pv 2) (po_some (pe_op op_add (pe_m1 PySem.F.slot_str_find PySem.F.type_str_find y_find (pv 2) pe_str) pe_int)) po_none) (pa_cons (pe_callD (ok_Ldomain T) (hr.mono (by decide)) (by rfl) pass0 (pa_cons (pv 1) (pa_cons (pv 0) pa_nil))) pa_nil)))))))))
      (pss_cons (ps_set (i := 14) sc_law.nd rfl (.inl rfl) (pe_lst pa_nil))
      (pss_cons (ps_for PassesOwn.never rfl (pi_range1 (by rfl) T.z_range (pa_cons (pe_callD (ok_Ldraw T) (hr.mono (by decide)) (by rfl) pass0 (pa_cons (pv 1) (pa_cons (pv 0) (pa_cons pe_int pa_nil)))) pa_nil)) (pg_name (i := 7) sc_law.nd rfl (Or.inl rfl)) (pss_cons (ps_set (i := 15) sc_law.nd rfl (.inl rfl) (pe_callTy y_tup (by rfl) T.z_tuple (by decide +kernel) (pa_cons (pe_lc (own := [("j", 17)]) (g := gName 17) rfl sc_law.nd (pi_range1 (by rfl) T.z_range (pa_cons (pe_callD (ok_Ldraw T) (hr.mono (by decide)) (by rfl) pass0 (pa_cons (pv 1) (pa_cons (pv 0) (pa_cons pe_int pa_nil)))) pa_nil)) (blkOk_by (N := N_law) (sc := defScope s_law) (by decide +kernel)) (fun _ _ _ _ _ => pg_name (i := 17) sc_law.nd rfl (Or.inl rfl)) (fun _ _ _ _ _ => pts_nil) (fun _ _ _ _ _ => (pe_callD (ok_Ldomain T) (hr.mono (by decide)) (by rfl) pass0 (pa_cons (pv 1) (pa_cons (pv 0) pa_nil))))) pa_nil)))
      (pss_one (ps_expr (pe_bm PySem.F.plainAttrs_list PySem.F.slot_list_append PySem.F.type_list_append mt_append (pv 14) (pa_cons (y_tt (pa_cons (pe_ix ix_list (pv 13) (pe_callD (ok_Ldraw T) (hr.mono (by decide)) (by rfl) pass0 (pa_cons (pv 1) (pa_cons (pv 0) (pa_cons pe_int pa_nil)))) (fun _ _ => rfl)) (pa_cons (pv 15) pa_nil))) pa_nil))))))
      (pss_cons (ps_for PassesOwn.never rfl (pi_list (pe_lst (pa_cons (pv 2) (pa_cons (pe_op y_adS pe_str (pv 2)) (pa_cons (pe_op y_adS pe_str (pv 2)) (pa_cons (pe_op y_adS pe_str (pv 2)) (pa_cons (pe_callD (ok_Ldomain T) (hr.mono (by decide)) (by rfl) pass0 (pa_cons (pv 1) (pa_cons (pv 0) pa_nil))) pa_nil))))))) (pg_name (i := 10) sc_law.nd rfl (Or.inl rfl)) (pss_cons (ps_set (i := 16) sc_law.nd rfl (.inl rfl) (pe_callD (ok_route T) (hr.mono (by decide)) (by rfl) pass0 (pa_cons (pe_callTy y_tup (by rfl) T.z_tuple (by decide +kernel) (pa_cons (pv 14) pa_nil)) (pa_cons (pv 10) pa_nil))))
      (pss_one (ps_if (PW.pt (pw_or (pt_not (pt_val (pe_callB call_isi (by rfl) T.z_isinstance (by decide +kernel) (pa_cons (pv 16) (pa_cons (pe_bltn (v := .ty "tuple") (by rfl) T.z_tuple (by decide +kernel) rfl) pa_nil))))) (pw_or1 (pt_cmpR (op_neD hr.units) (pv 16) (pe_callD (ok_Lroute T) (hr.mono (by decide)) (by rfl) pass0 (pa_cons (pv 14) (pa_cons (pv 10) pa_nil))) (nomark _))))) (pss_one (ps_ret pe_bl)) pss_nil))))
      (pss_one (ps_ret pe_bl)))))))))))))), ?_⟩
    rw [show start N_law [.ref sc] = [some (.ref sc), none, none, none, none, none, none, none, none, none, none, none, none, none, none, none, none, none] from rfl]
    walk_at "rs"
    refine rd_wLs (Nat.le_of_ble_eq_true rfl) fun st nst => ?_
    have W : Wd K st sc ns (upd H st (.lst [.int 0, .int 0])) := ⟨⟨0, 0, upd_same⟩, fun H' k => Same.seq (fun a o e => k a o (ne_of_none e nst) (by rw [upd_ne (ne_of_none e nst)]; exact e)) hS⟩
    walk_at "rs"
    refine ⟨st, sc, ns, rfl, W, fun dom H1 ld ad D1 W1 => ?_⟩
    walk_at "rs"
    refine draw_i W1 (by decide) (by decide) fun d1 H2 b0 b1 D2 W2 => ?_
    walk_at "rs"
    refine ⟨st, sc, ns, d1, _, 117, rfl, by rw [tl_ofString]; rfl, by decide, W2, b0, by omega, fun us pu H3 eu nu lu hu D3 W3 => ?_⟩
    walk_at "rs"
    refine rd_tup (SqL.of eu) fun u H4 nu4 sm4 tu => ?_
    have W4 := W3.same sm4
    walk_at "rs"
    refine rd_wLs (Nat.le_of_ble_eq_true rfl) fun Ls nLs => ?_
    have WL := W4.new (o := .lst []) nLs
    have nLst : Ls ≠ st := W4.1.ne nLs
    walk_at "rs"
    refine draw_i WL (by decide) (by decide) fun d2 H5 c0 c1 D5 W5 => ?_
    walk_at "rs"
    refine ⟨st, sc, ns, d2, _, 108, rfl, by rw [tl_ofString]; rfl, by decide, W5, c0, by omega, fun ls pl H6 el nl ll hl D6 W6 => ?_⟩
    have eLs6 : H6 Ls = some (.lst []) := D6.at nLst (D5.at nLst upd_same)
    have D46 : Dr st H4 H6 := (((W4.dr.new nLs).trans D5).trans D6)
    walk_at "rs"
    refine rd_wSq (SqL.of el) ?_
    have nlst : pl ≠ st := W5.1.ne nl
    have nlLs : pl ≠ Ls := fun z => by
      have := D5.at nLst upd_same
      rw [← z, nl] at this
      cases this
    refine frJ (walk_l (xs := ls.map V.str)) (fun i σ H' => Dr st H4 H' ∧ H' pl = some (.lst (ls.map V.str)) ∧ ∃ (lv : List V) (L : List (Str × V × V)) (x5 x6 x7 x8 : Option V), σ = [some (.ref sc), some (.ref st), some (.str dom), some (.ref u), some (.ref Ls), x5, x6, x7, x8, none, none, none, none, none, none, none, none, none] ∧
      H' Ls = some (.lst lv) ∧ LsL H' lv L ∧ (∀ e ∈ L, EnV H' e) ∧ L.length = i ∧ ∀ k e, L[k]? = some e → NmP 108 k e.1) ?_ (fun i σ H' _ p => SqL.of p.2.1) (fun i v σ H' hv p => ?_) (fun σ H7 p => ?_)
    · exact ⟨D46, el, [], [], _, _, _, _, rfl, eLs6, trivial, (fun _ h => nomatch h), rfl, fun k e h => by simp at h⟩
    · obtain ⟨D, epl, lv, L, x5, x6, x7, x8, rfl, eL, hL, hE, hn, hN⟩ := p
      obtain ⟨nm, hnm, rfl⟩ : ∃ nm, ls[i]? = some nm ∧ v = .str nm := by
        rw [List.getElem?_map] at hv
        cases hx : ls[i]? with
        | none =>
          rw [hx] at hv
          cases hv
        | some x =>
          rw [hx] at hv
          exact ⟨x, rfl, (Option.some.inj hv).symm⟩
      have hP := hl i nm hnm
      have hi : i < ls.length := (List.getElem?_eq_some_iff.mp hnm).1
      have W' := W4.next D
      walk_at "rs"
      refine rd_wTT (Nat.le_of_ble_eq_true rfl) fun p1 G1 np1 sg1 t1 => ?_
      walk_at "rs"
      refine rd_wLs (Nat.le_of_ble_eq_true rfl) fun p2 np2 => ?_
      walk_at "rs"
      have Wg1 := W'.same sg1
      refine draw_i (Wg1.new np2) (by decide) (by decide) fun d3 G3 e0 e1 E3 Wg3 => ?_
      have ep := E3.at (Wg1.1.ne np2) upd_same
      have E13 : Dr st G1 G3 := (Wg1.dr.new np2).trans E3
      have t13 := t1.next Wg1.1 E13
      obtain ⟨ow, how, eow⟩ := atI_in (xs := [V.non, V.ref p1]) (i := d3) e0 e1
      have hod : ∃ od, Va G3 ow od ∧ Sh 1 od := by
        simp only [List.mem_cons, List.not_mem_nil, or_false] at how
        rcases how with rfl | rfl
        · exact ⟨_, .non, Sh.none.mono (by decide)⟩
        · exact ⟨_, Va.pair t13 (.str _) (.str _), Sh.tuple (Sh.two (Sh.str (asc_of (by decide +kernel))) (Sh.str ad))⟩
      obtain ⟨od, vod, sod⟩ := hod
      refine rd_ixL (SqL.of ep) eow ?_
      walk_at "rs"
      refine draw_i Wg3 (by decide) (by decide) fun d4 G4 f0 f1 E4 Wg4 => ?_
      walk_at "rs"
      refine rd_wRg (by omega) (by omega) fun Dm nDm => ?_
      refine lcRi (fun i H y => MmP H y) (fun i H H' y d s h => ?_) Wg4 nDm (by omega) (fun i G5 R hi Wg5 E5 r => ⟨rfl, ?_⟩) (fun G5 ys E5 Wg5 nS hD hl hg => ?_) (fun i H y zs _ e h o => ?_)
      · obtain ⟨a, b, p, rfl, t, aa, ab⟩ := h
        exact ⟨a, b, p, rfl, t.next s d, aa, ab⟩
      · walk_at "wp"
        refine ⟨st, sc, ns, rfl, Wg5, fun a G6 la aa E6 Wg6 => ?_⟩
        walk_at "rs"
        refine ⟨st, sc, ns, rfl, Wg6, fun b G7 lb ab E7 Wg7 => ?_⟩
        walk_at "rs"
        refine rd_wTT (Nat.le_of_ble_eq_true rfl) fun p8 G8 np8 sg8 t8 => ?_
        exact r _ _ ((E6.trans E7).trans (Dr.same Wg7.1 sg8)) ⟨a, b, p8, rfl, t8, aa, ab⟩
      · walk_at "rs"
        refine rd_tup (SqL.of hD) fun m G6 nm6 sg6 tm => ?_
        walk_at "rs"
        have E36 : Dr st G3 G6 := (E4.trans E5).trans (Dr.same Wg5.1 sg6)
        have E06 : Dr st H' G6 := ((Dr.same W'.1 sg1).trans E13).trans E36
        have Wg6 := Wg5.same sg6
        have eL6 : G6 Ls = some (.lst lv) := E06.at nLst eL
        refine rd_wTyL (SqL.of eL6) ?_
        walk_at "rs"
        refine rd_wTT (Nat.le_of_ble_eq_true rfl) fun p7 G7 np7 sg7 t7 => ?_
        have eL7 : G7 Ls = some (.lst lv) := sg7 _ _ eL6
        have hll := hL.len
        walk_at "rs"
        refine rd_append eL7 (by omega) ?_
        walk_at "rs"
        have E07 : Dr st H' G7 := E06.trans (Dr.same Wg6.1 sg7)
        obtain ⟨md, vmd, smd⟩ := mm_va (H := G5) (ys := ys) fun y hy => by
          obtain ⟨k, hk⟩ := List.getElem?_of_mem hy
          exact hg k y hk
        have all : ∀ a xs, Tk H' a xs → Tk (upd G7 Ls (.lst (lv ++ [.ref p7]))) a xs := fun a xs t => (t.next W'.1 E07).put eL7
        refine ⟨Dr.put W4.1 (D.trans E07) nLs, ?_, lv ++ [.ref p7], L ++ [(nm, ow, .ref m)], _, _, _, _, rfl, upd_same, LsL.snoc (t7.put eL7) (hL.mono all), fun e he => ?_, by rw [List.length_append, hn]; rfl, fun k e he => ?_⟩
        · rw [upd_ne nlLs]
          exact E07.at nlst epl
        · rcases List.mem_append.mp he with he | he
          · exact (hE e he).mono all
          · rw [List.mem_singleton.mp he]
            exact ⟨hP.2.1, od, .tuple md, ((vod.next Wg3.1 E36).same sg7).put eL7, ((Va.tup tm (vmd.same sg6)).same sg7).put eL7, sod, Sh.tuple fun d hd => (smd d hd).mono (by decide)⟩
        · by_cases hk : k < L.length
          · rw [List.getElem?_append_left hk] at he
            exact hN k e he
          · have h2 := (List.getElem?_eq_some_iff.mp he).1
            rw [List.length_append] at h2
            have h3 : k < L.length + 1 := h2
            have ek : k = L.length := by omega
            rw [ek, List.getElem?_append_right (Nat.le_refl _), Nat.sub_self] at he
            rw [← Option.some.inj he, ek, hn]
            exact hP
      · obtain ⟨a, b, p, rfl, t, aa, ab⟩ := h
        exact ⟨a, b, p, rfl, t.put e, aa, ab⟩
    · obtain ⟨D7, _, lv, L, x5, x6, x7, x8, rfl, eL, hL, hE, hn, hN⟩ := p
      have W7 := W4.next D7
      have nu7 := (tu.next W4.1 D7)
      have hlen : L.length ≤ 3 := by
        rw [List.length_map] at hn
        omega
      have hll := hL.len
      walk_at "rs"
      refine rd_tup (SqL.of eL) fun tl7 H8 nt8 sm8 t8 => ?_
      walk_at "rs"
      intro dr dx ndr ndx nex
      have nu8 := nu7.same sm8
      refine ⟨dr, dx, dom, u, tl7, rfl, upd_same, fun H9 hdir kp => ⟨rfl, ?_⟩⟩
      have sm9 : Same H8 H9 := fun b o e => kp b o (by
        rw [upd_ne (ne_of_none e ndr), upd_ne (ne_of_none e ndx)]
        exact e) (ne_of_none e ndr)
      have W9 := (W7.same sm8).same sm9
      have sm79 : Same H7 H9 := sm8.trans sm9
      have eL9 := sm79 _ _ eL
      have hL9 := hL.mono fun a xs t => t.same sm79
      have hE9 : ∀ e ∈ L, EnV H9 e := fun e he => (hE e he).mono fun a xs t => t.same sm79
      have t9 := t8.same sm9
      have nu9 := nu8.same sm9
      obtain ⟨dl, vdl, sdl⟩ := lsl_va hL9 hE9
      have aus : ∀ x ∈ us, Asc x := fun x hx => by
        obtain ⟨k, hk⟩ := List.getElem?_of_mem hx
        exact (hu k x hk).2.1
      have als : ∀ e ∈ L, e.1 ∉ us := fun e he hx => by
        obtain ⟨k, hk⟩ := List.getElem?_of_mem he
        obtain ⟨j, hj⟩ := List.getElem?_of_mem hx
        exact absurd ((hN k e hk).uni (hu j _ hj)).1 (by decide)
      obtain ⟨dxx, edir⟩ := id hdir
      walk_at "rs"
      refine rd_wFld edir Z.c.cl Z.n_domain (dfl_d _ _ _) ?_
      walk_at "rs"
      rw [decide_eq_true rfl]
      refine iteF ?_
      walk_at "rs"
      refine rd_wFld edir Z.c.cl Z.n_users (dfl_u _ _ _) ?_
      walk_at "rs"
      refine rd_neV (.tup nu9 (VaL.strs us)) (.tup nu9 (VaL.strs us)) (sh_strs aus) ?_
      walk_at "rs"
      refine rd_wFld edir Z.c.cl Z.n_lists (dfl_l _ _ _) ?_
      walk_at "rs"
      refine rd_tup (SqL.of eL9) fun t10 H10 nt10 sm10 tt10 => ?_
      refine rd_neV (.tup (t9.same sm10) (vdl.same sm10)) (.tup tt10 (vdl.same sm10)) (Sh.tuple sdl) ?_
      walk_at "rs"
      have W10 := W9.same sm10
      refine rd_listT ((nu9.same sm10).seq) fun q1 nq1 => ?_
      walk_at "rs"
      have sm11 : Same H9 (upd H10 q1 (.lst (us.map V.str))) := sm10.trans (same_new nq1)
      refine rd_wSq (SqL.of (sm11 _ _ eL9)) ?_
      intro q2 nq2
      refine lcSi (walk_l (xs := lv)) (fun H s => SqL.of (s _ _ (sm11 _ _ eL9))) nq2 (by omega) (fun i => .str (((L[i]?).map (·.1)).getD Str.empty)) (fun i x hx H R s r => ⟨rfl, ?_⟩) (fun H12 sm12 eq2 => ?_)
      · obtain ⟨s1, o1, m1, p1, hr1, rfl, tp1⟩ := hL9.get hx
        walk_at "wp"
        refine rd_ixT ((tp1.same sm11).same s).seq (i := 0) (v := .str s1) rfl ?_
        have r2 := r H (Same.refl H)
        rw [hr1] at r2
        exact r2
      · rw [hll, range_get L (fun e => V.str e.1) _ (fun i a h => by rw [h]; rfl)] at eq2
        have eq1 := sm12 _ _ (upd_same (H := H10) (a := q1) (o := .lst (us.map V.str)))
        refine rd_catL eq1 eq2 (by rw [List.length_map, List.length_map]; omega) fun q3 nq3 => ?_
        have W11 := W10.same (same_new nq1 (o := .lst (us.map V.str)))
        have W12 := W11.same sm12
        have W13 := W12.new nq3 (o := .lst (us.map V.str ++ L.map fun e => V.str e.1))
        walk_at "rs"
        refine ⟨st, sc, ns, rfl, W13, fun x0 H14 lx0 ax0 D14 W14 => ?_⟩
        walk_at "rs"
        refine rd_wLs (Nat.le_of_ble_eq_true rfl) fun q4 nq4 => ?_
        have eq3 := same_new nq4 (o := .lst [.str x0, .str "u0"]) _ _ (D14.at (W12.1.ne nq3) upd_same)
        refine rd_catL eq3 upd_same (by rw [List.length_append, List.length_map, List.length_map]; show _ + 2 ≤ _; omega) fun q5 nq5 => ?_
        have ecat : (us.map V.str ++ L.map fun e => V.str e.1) ++ [V.str x0, V.str (Str.ofString "u0")] = (us ++ L.map (·.1) ++ [x0, Str.ofString "u0"]).map V.str := by
          simp [List.map_append, List.map_map, Function.comp_def]
        rw [ecat]
        have aNN : ∀ x ∈ us ++ L.map (·.1) ++ [x0, Str.ofString "u0"], Asc x := fun x hx => by
          rcases List.mem_append.mp hx with hx | hx
          · rcases List.mem_append.mp hx with hx | hx
            · exact aus x hx
            · obtain ⟨e, he, rfl⟩ := List.mem_map.mp hx
              exact (hE e he).1
          · simp only [List.mem_cons, List.not_mem_nil, or_false] at hx
            rcases hx with rfl | rfl
            · exact ax0
            · exact asc_of (by decide +kernel)
        generalize us ++ L.map (·.1) ++ [x0, Str.ofString "u0"] = NN at aNN ⊢
        have W15 := (W14.new nq4 (o := .lst [.str x0, .str (Str.ofString "u0")])).new nq5 (o := .lst (NN.map V.str))
        have q5st : q5 ≠ st := (W14.new nq4 (o := .lst [.str x0, .str (Str.ofString "u0")])).1.ne nq5
        have D915 : Dr st H9 (upd (upd H14 q4 (.lst [.str x0, .str (Str.ofString "u0")])) q5 (.lst (NN.map V.str))) :=
          (((((Dr.same W9.1 sm11).trans (Dr.same W11.1 sm12)).trans (W12.dr.new nq3)).trans D14).trans (W14.dr.new nq4)).trans ((W14.new nq4).dr.new nq5)
        have eq5 : (upd (upd H14 q4 (.lst [.str x0, .str (Str.ofString "u0")])) q5 (.lst (NN.map V.str))) q5 = some (.lst (NN.map V.str)) := upd_same
        generalize upd (upd H14 q4 (.lst [.str x0, .str (Str.ofString "u0")])) q5 (.lst (NN.map V.str)) = H15 at W15 D915 eq5 ⊢
        have B : ∀ H', Dr st H15 H' → Wd K st sc ns H' ∧ H' Ls = some (.lst lv) ∧ LsL H' lv L ∧ (∀ e ∈ L, EnV H' e) ∧ Tk H' u (us.map V.str) ∧ Tk H' tl7 lv ∧ DirAt C H' dr dom u tl7 ∧ H' q5 = some (.lst (NN.map V.str)) := fun H' d => by
          have d' := D915.trans d
          exact ⟨W15.next d, d'.at nLst eL9, hL9.mono fun a xs t => t.next W9.1 d', fun e he => (hE9 e he).mono fun a xs t => t.next W9.1 d', nu9.next W9.1 d', t9.next W9.1 d', hdir.next W9.1 d', d.at q5st eq5⟩
        walk_at "rs"
        refine rd_wSq (SqL.of eq5) ?_
        refine frJ (walk_l (xs := NN.map V.str)) (fun i σ H' => Dr st H15 H' ∧ ∃ (x5 x6 x7 x8 x10 x11 x12 : Option V), σ = [some (.ref sc), some (.ref st), some (.str dom), some (.ref u), some (.ref Ls), x5, x6, x7, x8, some (.ref dr), x10, x11, x12, none, none, none, none, none])
          ⟨W15.dr, _, _, _, _, _, _, _, rfl⟩ (fun i σ H' _ p => SqL.of (B H' p.1).2.2.2.2.2.2.2) (fun i v σ H16 hv p => ?_) (fun σ H16 p => ?_)
        · obtain ⟨D16, x5, x6, x7, x8, x10, x11, x12, rfl⟩ := p
          obtain ⟨nm, hnm, rfl⟩ := List.mem_map.mp (List.mem_of_getElem? hv)
          have anm := aNN nm hnm
          obtain ⟨W16, eL16, hL16, hE16, tu16, tt16, hd16, _⟩ := B H16 D16
          have lx1 : (Str.ofString "x").length = 1 := by rw [len_of]; rfl
          have lx2 : (Str.ofString "x.").length = 2 := by rw [len_of]; rfl
          have lx3 : (Str.ofString "9").length = 1 := by rw [len_of]; rfl
          walk_at "rs"
          refine rd_wTT (Nat.le_of_ble_eq_true rfl) fun p1 G1 np1 sg1 t1 => ?_
          walk_at "rs"
          refine rd_inT ((tu16.same sg1).seq) ?_
          walk_at "rs"
          refine if_tail (fun σ H' => Same G1 H' ∧ ∃ pe, σ = [some (.ref sc), some (.ref st), some (.str dom), some (.ref u), some (.ref Ls), some (.str nm), x6, x7, x8, some (.ref dr), x10, some (.ref pe), x12, none, none, none, none, none] ∧ Tk H' pe (expV us [] nm)) (fun σ G2 pr => ?_) (fun nx' hnx => if_dec (fun c => ?_) (fun c => ?_))
          · obtain ⟨sg2, pe, rfl, te⟩ := pr
            have s2 := sg1.trans sg2
            walk_at "rs"
            refine rd_wSq (SqL.of (s2 _ _ eL16)) ?_
            refine frJ (walk_l (xs := lv)) (fun i σ H' => Same G2 H' ∧ ∃ pe x10, σ = [some (.ref sc), some (.ref st), some (.str dom), some (.ref u), some (.ref Ls), some (.str nm), x6, x7, x8, some (.ref dr), x10, some (.ref pe), x12, none, none, none, none, none] ∧ Tk H' pe (expV us (L.take i) nm))
              ⟨Same.refl _, pe, x10, rfl, te⟩ (fun i σ H' _ p => SqL.of (p.1 _ _ (s2 _ _ eL16))) (fun i v σ G3 hv p => ?_) (fun σ G3 p => ?_)
            · obtain ⟨sg3, pe, x10, rfl, te⟩ := p
              have s3 := s2.trans sg3
              obtain ⟨s1, o1, m1, p1, hr1, rfl, tp1⟩ := hL16.get hv
              have hx := exp_step (us := us) (x := nm) hr1 (fun i' z hi' hz hzs => by
                have h1 := hN i' z hz
                have h2 := hN i _ hr1
                rw [hzs] at h1
                have := (h1.uni h2).2
                omega)
              walk_at "rs"
              refine rd_ixT (tp1.same s3).seq (i := 0) (v := .str s1) rfl ?_
              walk_at "rs"
              refine if_dec (fun c => ?_) (fun c => ?_)
              · rw [if_pos c] at hx
                walk_at "rs"
                refine rd_ixT (tp1.same s3).seq (i := 1) (v := o1) rfl ?_
                walk_at "rs"
                refine rd_ixT (tp1.same s3).seq (i := 2) (v := m1) rfl ?_
                walk_at "rs"
                refine rd_wTT (Nat.le_of_ble_eq_true rfl) fun p4 G4 np4 sg4 t4 => ?_
                walk_at "rs"
                exact ⟨sg3.trans sg4, p4, _, rfl, by rw [hx]; exact t4⟩
              · rw [if_neg c] at hx
                walk_at "rs"
                exact ⟨sg3, pe, _, rfl, by rw [hx]; exact te⟩
            · obtain ⟨sg3, pe, x10, rfl, te⟩ := p
              have s3 := s2.trans sg3
              rw [hll, List.take_length, exp_look (dom := dom) als] at te
              have hE3 : ∀ e ∈ L, EnV G3 e := fun e he => (hE16 e he).mono fun a xs t => t.same s3
              walk_at "rs"
              obtain ⟨dy, ed3⟩ := hd16.same s3
              refine rd_wMeth ed3 (dfl_no _ _ _) ?_
              walk_at "rs"
              refine rd_wTT (Nat.le_of_ble_eq_true rfl) fun p4 G4 np4 sg4 t4 => ?_
              walk_at "rs"
              have s4 := s3.trans sg4
              refine ⟨dr, p4, u, tl7, dom, nm, dom, us, lv, L, rfl, hd16.same s4, t4, (tu16.same s4).seq, (tt16.same s4).seq, hL16.mono (fun a xs t => t.same s4), fun p5 G5 sg5 t5 => ?_⟩
              walk_at "rs"
              have hE5 : ∀ e ∈ L, EnV G5 e := fun e he => (hE3 e he).mono fun a xs t => t.same (sg4.trans sg5)
              obtain ⟨ds, vds, sds⟩ := look_va (dom := dom) (d := dom) (us := us) hE5 anm
              refine rd_neV (.tup t5 vds) (.tup (te.same (sg4.trans sg5)) vds) (Sh.tuple sds) ?_
              walk_at "rs"
              have s5 := s4.trans sg5
              have W5' := W16.same s5
              refine ⟨st, sc, ns, rfl, W5', fun od G6 lo ao D6' W6' => ?_⟩
              walk_at "rs"
              refine rd_wLs (Nat.le_of_ble_eq_true rfl) fun p7 np7 => ?_
              walk_at "rs"
              refine draw_i (W6'.new np7) (by decide) (by decide) fun d8 G8 h0 h1 D8 W8 => ?_
              have ep7 := D8.at (W6'.1.ne np7) upd_same
              obtain ⟨ov, hov, eov⟩ := atI_in (xs := [V.str (dom ++ Str.ofString "x"), V.str (Str.ofString "x." ++ dom), V.str (od ++ Str.ofString "9")]) (i := d8) h0 h1
              obtain ⟨oth, rfl⟩ : ∃ oth, ov = V.str oth := by
                simp only [List.mem_cons, List.not_mem_nil, or_false] at hov
                rcases hov with rfl | rfl | rfl <;> exact ⟨_, rfl⟩
              refine rd_ixL (SqL.of ep7) eov ?_
              walk_at "rs"
              have D168 : Dr st H16 G8 := ((Dr.same W16.1 s5).trans D6').trans ((W6'.dr.new np7).trans D8)
              obtain ⟨W18, eL18, hL18, hE18, tu18, tt18, hd18, _⟩ := B G8 (D16.trans D168)
              refine if_ndec (fun c => ?_) (fun c => ?_)
              · walk_at "rs"
                obtain ⟨dz, ed8⟩ := id hd18
                refine rd_wMeth ed8 (dfl_no _ _ _) ?_
                walk_at "rs"
                refine rd_wTT (Nat.le_of_ble_eq_true rfl) fun p9 G9 np9 sg9 t9' => ?_
                walk_at "rs"
                refine ⟨dr, p9, u, tl7, dom, nm, oth, us, lv, L, rfl, hd18.same sg9, t9', (tu18.same sg9).seq, (tt18.same sg9).seq, hL18.mono (fun a xs t => t.same sg9), fun p10 G10 sg10 t10' => ?_⟩
                walk_at "rs"
                refine rd_wTT (Nat.le_of_ble_eq_true rfl) fun p11 G11 np11 sg11 t11 => ?_
                have elk : lookV dom us L nm oth = [V.str (Str.ofString "remote")] := by
                  unfold lookV
                  rw [if_neg c]
                rw [elk] at t10'
                refine rd_neV (.tup (t10'.same sg11) (.cons (.str _) .nil)) (.tup t11 (.cons (.str _) .nil)) (Sh.tuple (Sh.one (Sh.str (asc_of (by decide +kernel))))) ?_
                walk_at "rs"
                exact ⟨D16.trans (D168.trans (((Dr.same W18.1 sg9).trans (Dr.same (W18.same sg9).1 sg10)).trans (Dr.same ((W18.same sg9).same sg10).1 sg11))), _, _, _, _, _, _, _, rfl⟩
              · walk_at "rs"
                exact ⟨D16.trans D168, _, _, _, _, _, _, _, rfl⟩
              all_goals (refine line_of ?_; omega)
          · walk_at "rs"
            refine rd_wTT (Nat.le_of_ble_eq_true rfl) fun p2 G2 np2 sg2 t2 => ?_
            walk_at "rs"
            refine hnx _ _ ⟨sg2, p2, rfl, ?_⟩
            show Tk G2 p2 (if nm ∈ us then [.str "box", .str nm] else [.str "unknown"])
            rw [if_pos c]
            exact t2
          · walk_at "rs"
            refine hnx _ _ ⟨Same.refl _, p1, rfl, ?_⟩
            show Tk G1 p1 (if nm ∈ us then [.str "box", .str nm] else [.str "unknown"])
            rw [if_neg c]
            exact t1
        · obtain ⟨D16, x5, x6, x7, x8, x10, x11, x12, rfl⟩ := p
          obtain ⟨W16, _, _, _, _, _, _, _⟩ := B H16 D16
          have lq : (Str.ofString "q").length = 1 := by rw [len_of]; rfl
          have lqd : (Str.ofString "q.").length = 2 := by rw [len_of]; rfl
          have lqq : (Str.ofString "qq.").length = 3 := by rw [len_of]; rfl
          walk_at "rs"
          · refine ⟨st, sc, ns, rfl, W16, fun od G1 lo ao D1' W1' => ?_⟩
            walk_at "rs"
            refine rd_wLsG (Nat.le_of_ble_eq_true rfl) fun pe G2 npe sg2 epe => ?_
            have We := W1'.same sg2
            have pest : pe ≠ st := W1'.1.ne npe
            have les : ∀ x ∈ [Str.ofString "", dom, cutS dom (some 1) none, Str.ofString "q" ++ dom, Str.ofString "q." ++ dom, cutS dom (some (Txt.find dom (Str.ofString ".") + 1)) none, od], x.length ≤ 200 := fun x hx => by
              have q1 := len_cut dom (some 1) none
              have q2 := len_cut dom (some (Txt.find dom (Str.ofString ".") + 1)) none
              simp only [List.mem_cons, List.not_mem_nil, or_false] at hx
              rcases hx with rfl | rfl | rfl | rfl | rfl | rfl | rfl
              · rw [len_lit0]
                decide
              · omega
              · omega
              · rw [len_app]
                omega
              · rw [len_app]
                omega
              · omega
              · omega
            have l7 : [Str.ofString "", dom, cutS dom (some 1) none, Str.ofString "q" ++ dom, Str.ofString "q." ++ dom, cutS dom (some (Txt.find dom (Str.ofString ".") + 1)) none, od].length = 7 := rfl
            have D162 : Dr st H15 G2 := (D16.trans D1').trans (Dr.same W1'.1 sg2)
            change G2 pe = some (.lst ([Str.ofString "", dom, cutS dom (some 1) none, Str.ofString "q" ++ dom, Str.ofString "q." ++ dom, cutS dom (some (Txt.find dom (Str.ofString ".") + 1)) none, od].map V.str)) at epe
            generalize [Str.ofString "", dom, cutS dom (some 1) none, Str.ofString "q" ++ dom, Str.ofString "q." ++ dom, cutS dom (some (Txt.find dom (Str.ofString ".") + 1)) none, od] = es at les l7 epe
            walk_at "rs"
            refine rd_wLs (Nat.le_of_ble_eq_true rfl) fun Rs nRs => ?_
            have WR := We.new (o := .lst []) nRs
            have Rst : Rs ≠ st := We.1.ne nRs
            walk_at "rs"
            refine draw_i WR (by decide) (by decide) fun d1' G3 a0 a1 D3' W3' => ?_
            walk_at "rs"
            have DR3 : Dr st G2 G3 := (We.dr.new nRs).trans D3'
            have eR3 : G3 Rs = some (.lst []) := D3'.at Rst upd_same
            refine rd_wRg (by omega) (by omega) ?_
            refine forR (fun i σ H' => Dr st G2 H' ∧ ∃ (rv : List V) (r : List (Str × V)) (x5 x6 x7 x8 x10 x11 x12 x15 : Option V), σ = [some (.ref sc), some (.ref st), some (.str dom), some (.ref u), some (.ref Ls), x5, x6, x7, x8, some (.ref dr), x10, x11, x12, some (.ref pe), some (.ref Rs), x15, none, none] ∧
              H' Rs = some (.lst rv) ∧ RtL H' rv r ∧ (∀ e ∈ r, HsP H' e.2) ∧ r.length = i) ?_ (fun i σ G4 hi p => ?_) (fun σ G4 p => ?_)
            · exact ⟨DR3, [], [], _, _, _, _, _, _, _, _, rfl, eR3, trivial, (fun _ h => nomatch h), rfl⟩
            · obtain ⟨D4, rv, r, x5, x6, x7, x8, x10, x11, x12, x15, rfl, eR, hR, hH, hn⟩ := p
              have W4' := We.next D4
              walk_at "rs"
              refine draw_i W4' (by decide) (by decide) fun d5 G5 g0 g1 E5 V5 => ?_
              walk_at "rs"
              refine rd_wRg (by omega) (by omega) fun Dm nDm => ?_
              refine lcRi (fun i _ y => ∃ x : Str, y = .str x ∧ Asc x) (fun i H H' y d s h => h) V5 nDm (by omega) (fun i G6 R hi V6 E6 r => ⟨rfl, ?_⟩) (fun G6 ys E6 V6 nS hD hl hg => ?_) (fun i H y zs _ e h o => h)
              · walk_at "wp"
                refine ⟨st, sc, ns, rfl, V6, fun a G7 la aa E7 V7 => ?_⟩
                exact r _ _ E7 ⟨a, rfl, aa⟩
              · obtain ⟨hs, rfl, ahs⟩ := strs_of (G := Asc) (ys := ys) fun y hy => by
                  obtain ⟨k, hk⟩ := List.getElem?_of_mem hy
                  exact hg k y hk
                walk_at "rs"
                refine rd_tup (SqL.of hD) fun m G7 nm7 sg7 tm => ?_
                have E47 : Dr st G4 G7 := (E5.trans E6).trans (Dr.same V6.1 sg7)
                have V7 := V6.same sg7
                have eR7 := E47.at Rst eR
                walk_at "rs"
                refine rd_wTyL (SqL.of eR7) ?_
                walk_at "rs"
                refine draw_i V7 (by decide) (by decide) fun d8 G8 h0 h1 E8 V8 => ?_
                walk_at "rs"
                have E48 := E47.trans E8
                have epe8 := (D4.trans E48).at pest epe
                obtain ⟨sv, hsv, esv⟩ := atI_in (xs := es.map V.str) (i := d8) h0 (by rw [List.length_map, l7]; exact h1)
                obtain ⟨su, hsu, rfl⟩ := List.mem_map.mp hsv
                refine rd_ixL (SqL.of epe8) esv ?_
                walk_at "rs"
                refine rd_wTT (Nat.le_of_ble_eq_true rfl) fun p9 G9 np9 sg9 t9' => ?_
                have eR9 := sg9 _ _ (E48.at Rst eR)
                have hrl := hR.len
                walk_at "rs"
                refine rd_append eR9 (by omega) ?_
                walk_at "rs"
                have E49 := E48.trans (Dr.same V8.1 sg9)
                have all : ∀ a xs, Tk G4 a xs → Tk (upd G9 Rs (.lst (rv ++ [.ref p9]))) a xs := fun a xs t => (t.next W4'.1 E49).put eR9
                refine ⟨Dr.put We.1 (D4.trans E49) nRs, rv ++ [.ref p9], r ++ [(su, .ref m)], _, _, _, _, _, _, _, _, rfl, upd_same, RtL.snoc (t9'.put eR9) (les su hsu) (hR.mono all), fun e he => ?_, by rw [List.length_append, hn]; rfl⟩
                rcases List.mem_append.mp he with he | he
                · exact (hH e he).mono all
                · rw [List.mem_singleton.mp he]
                  exact ⟨m, hs, rfl, ((tm.next V7.1 E8).same sg9).put eR9, ahs⟩
            · obtain ⟨D4, rv, r, x5, x6, x7, x8, x10, x11, x12, x15, rfl, eR, hR, hH, hn⟩ := p
              have W4' := We.next D4
              walk_at "rs"
              · refine ⟨st, sc, ns, rfl, W4', fun ox G5 lox aox E5 V5 => ?_⟩
                walk_at "rs"
                have hR5 := hR.mono fun a xs t => t.next W4'.1 E5
                have hH5 : ∀ e ∈ r, HsP G5 e.2 := fun e he => (hH e he).mono fun a xs t => t.next W4'.1 E5
                have eR5 := E5.at Rst eR
                refine rd_wLsG (Nat.le_of_ble_eq_true rfl) fun p6 G6 np6 sg6 ep6 => ?_
                have lon : ∀ x ∈ [dom, Str.ofString "q." ++ dom, Str.ofString "qq." ++ dom, Str.ofString "q" ++ dom, ox], x.length ≤ 200 := fun x hx => by
                  simp only [List.mem_cons, List.not_mem_nil, or_false] at hx
                  rcases hx with rfl | rfl | rfl | rfl | rfl
                  · omega
                  · rw [len_app]
                    omega
                  · rw [len_app]
                    omega
                  · rw [len_app]
                    omega
                  · omega
                change G6 p6 = some (.lst ([dom, Str.ofString "q." ++ dom, Str.ofString "qq." ++ dom, Str.ofString "q" ++ dom, ox].map V.str)) at ep6
                generalize [dom, Str.ofString "q." ++ dom, Str.ofString "qq." ++ dom, Str.ofString "q" ++ dom, ox] = os at lon ep6
                walk_at "rs"
                refine rd_wSq (SqL.of ep6) ?_
                have hrl := hR.len
                refine frJ (walk_l (xs := os.map V.str)) (fun i σ H' => Same G6 H' ∧ ∃ (x5 x6 x7 x8 x10 x11 x12 x15 x16 x17 : Option V), σ = [some (.ref sc), some (.ref st), some (.str dom), some (.ref u), some (.ref Ls), x5, x6, x7, x8, some (.ref dr), x10, x11, x12, some (.ref pe), some (.ref Rs), x15, x16, x17])
                  ⟨Same.refl _, _, _, _, _, _, _, _, _, _, _, rfl⟩ (fun i σ H' _ p => SqL.of (p.1 _ _ ep6)) (fun i v σ G7 hv p => ?_) (fun σ G7 p => ?_)
                · obtain ⟨sm7, x5, x6, x7, x8, x10, x11, x12, x15, x16, x17, rfl⟩ := p
                  obtain ⟨one, hone, rfl⟩ := List.mem_map.mp (List.mem_of_getElem? hv)
                  have l1 := lon one hone
                  have s7 := sg6.trans sm7
                  walk_at "rs"
                  refine rd_tup (SqL.of (s7 _ _ eR5)) fun tr G8 ntr sg8 ttr => ?_
                  have s8 := s7.trans sg8
                  have hR8 := hR5.mono fun a xs t => t.same s8
                  walk_at "rs"
                  refine ⟨tr, one, rv, r, rfl, ttr.seq, hR8, l1, by omega, fun v1 G9 sg9 A1 => ?_⟩
                  have s9 := s8.trans sg9
                  walk_at "rs"
                  have key : ∃ hs : List Str, (∀ x ∈ hs, Asc x) ∧ ∀ v G, Same G5 G → RtA one r r.length G v → ∃ p, v = .ref p ∧ Tk G p (hs.map V.str) := by
                    cases e : bst one (r.map (·.1)) r.length with
                    | none => exact ⟨[], (fun _ h => nomatch h), fun v G s A => A.1 e⟩
                    | some k =>
                      obtain ⟨_, k2⟩ := bst_lt _ _ _ _ e
                      rw [List.length_map] at k2
                      obtain ⟨⟨sk, yk⟩, hk⟩ : ∃ z, r[k]? = some z := ⟨r[k], List.getElem?_eq_getElem k2⟩
                      obtain ⟨p, xs, e2, t, a⟩ := hH5 _ (List.mem_of_getElem? hk)
                      exact ⟨xs, a, fun v G s A => ⟨p, (A.2 k sk yk e hk).trans e2, t.same s⟩⟩
                  obtain ⟨hs, ahs, key⟩ := key
                  obtain ⟨p1, rfl, tp1⟩ := key v1 G9 s9 A1
                  refine rd_isi tp1.ty (r := true) (by decide +kernel) ?_
                  walk_at "rs"
                  refine ⟨Rs, one, rv, r, rfl, SqL.of (s9 _ _ eR5), hR5.mono (fun a xs t => t.same s9), l1, by omega, fun v2 G10 sg10 A2 => ?_⟩
                  obtain ⟨p2, rfl, tp2⟩ := key v2 G10 (s9.trans sg10) A2
                  refine rd_neV (.tup (tp1.same sg10) (VaL.strs hs)) (.tup tp2 (VaL.strs hs)) (sh_strs ahs) ?_
                  walk_at "rs"
                  exact ⟨((sm7.trans sg8).trans sg9).trans sg10, _, _, _, _, _, _, _, _, _, _, rfl⟩
                · walk_at "rs"
                  exact q _
              all_goals (refine line_of ?_; omega)
          all_goals (refine line_of ?_; omega)
end
end Dw
set_option autoImplicit true
open PySem PySem.W PyProof.Rows
theorem Dw.end_mk {l : PySem.W.OpenLaw} {w : World} {K : PySem.W.Frag} {mg : Str → Option Value} {fa C : Addr} (hfa : mg "law" = some (.ref fa)) (T : Dw.Tx K mg) (Z : Dw.Cs_Directory K mg C) :
    ∃ fd : FuncData, (∀ (s : Shared) (v : Value), BindsTo s fd ⟨[v], []⟩ [("script", v)]) ∧ ∀ base : Heap, K.In base → base.Ns mainGlobals mg → L2.FnOk l.prog w K mg base L2.CX0 7 fa fd ["script"] (Dw.spLaw K) := by
  obtain ⟨f, fd, m, F, hb⟩ := T.d_law
  rw [hfa] at m
  cases m
  exact ⟨fd, fun s v => hb s [v] rfl, fun base _ _ => Dw.ok_law T Z F⟩
set_option maxHeartbeats 0 in
theorem PySem.Challenge.cw_dawkline_k09_directories_and_routes_holds : PySem.Challenge.rw_dawkline_k09_directories_and_routes.Holds := by
  w_on; o_law; k_head; (case hw => w_witness2)
  k_fill
  refine L2.walk_of (l := PySem.Challenge.rw_dawkline_k09_directories_and_routes) (n := 63) (k := 7) (x := "script") (CX := fun _ => L2.CX0) (sp := fun w => Dw.spLaw _) rfl (by decide) rfl ⟨rfl, by decide, by decide⟩ (fun w h Y => PySem.W.kIn_of Y) ?F (fun _ _ a ns hl _ hS => ⟨a, ns, rfl, hS, fun _ => rfl⟩) (fun _ _ _ _ _ h => h)
  case F =>
    intro w mg fa h KX G hmg
    refine' Dw.end_mk hmg ?T ?Z
    case T => exact ⟨(by
      (refine' Dw.dn_mk KX G ?a ?l ?c ?k (fun _ _ _ _ _ _ us hl => match us, hl with | [_, _], _ => rfl); (case a => k_is); (case l => k_is); (case c => k_is); (case k => k_is))),
(by
      (refine' Dw.dn_mk KX G ?a ?l ?c ?k (fun _ _ _ _ _ _ us hl => match us, hl with | [_, _, _], _ => rfl); (case a => k_is); (case l => k_is); (case c => k_is); (case k => k_is))),
(by
      (refine' Dw.dn_mk KX G ?a ?l ?c ?k (fun _ _ _ _ _ _ us hl => match us, hl with | [_, _, _], _ => rfl); (case a => k_is); (case l => k_is); (case c => k_is); (case k => k_is))),
(by
      (refine' Dw.dn_mk KX G ?a ?l ?c ?k (fun _ _ _ _ _ _ us hl => match us, hl with | [_, _], _ => rfl); (case a => k_is); (case l => k_is); (case c => k_is); (case k => k_is))),
(by
      (refine' Dw.dn_mk KX G ?a ?l ?c ?k (fun _ _ _ _ _ _ us hl => match us, hl with | [_, _, _, _], _ => rfl); (case a => k_is); (case l => k_is); (case c => k_is); (case k => k_is))),
(by
      (refine' Dw.dn_mk KX G ?a ?l ?c ?k (fun _ _ _ _ _ _ us hl => match us, hl with | [_, _], _ => rfl); (case a => k_is); (case l => k_is); (case c => k_is); (case k => k_is))),
(by
      (refine' Dw.dn_mk KX G ?a ?l ?c ?k (fun _ _ _ _ _ _ us hl => match us, hl with | [_, _, _, _], _ => rfl); (case a => k_is); (case l => k_is); (case c => k_is); (case k => k_is))),
(by
      (refine' Dw.dn_mk KX G ?a ?l ?c ?k (fun _ _ _ _ _ _ us hl => match us, hl with | [_, _], _ => rfl); (case a => k_is); (case l => k_is); (case c => k_is); (case k => k_is))),
(by
      (refine' Dw.dn_mk KX G ?a ?l ?c ?k (fun _ _ _ _ _ _ us hl => match us, hl with | [_, _], _ => rfl); (case a => k_is); (case l => k_is); (case c => k_is); (case k => k_is))),
(by
      (refine' Dw.dn_mk KX G ?a ?l ?c ?k (fun _ _ _ _ _ _ us hl => match us, hl with | [_, _], _ => rfl); (case a => k_is); (case l => k_is); (case c => k_is); (case k => k_is))),
(by
      (refine' Dw.dn_mk KX G ?a ?l ?c ?k (fun _ _ _ _ _ _ us hl => match us, hl with | [_, _], _ => rfl); (case a => k_is); (case l => k_is); (case c => k_is); (case k => k_is))),
(by
      (refine' Dw.dn_mk KX G ?a ?l ?c ?k (fun _ _ _ _ _ _ us hl => match us, hl with | [_], _ => rfl); (case a => k_is); (case l => k_is); (case c => k_is); (case k => k_is))),
(by
      (refine' PySem.W.mg_none_of KX G ?a; (case a => k_is))),
(by
      (refine' PySem.W.mg_none_of KX G ?a; (case a => k_is))),
(by
      (refine' PySem.W.mg_none_of KX G ?a; (case a => k_is))),
(by
      (refine' PySem.W.mg_none_of KX G ?a; (case a => k_is))),
(by
      (refine' PySem.W.mg_none_of KX G ?a; (case a => k_is))),
(by
      (refine' PySem.W.mg_none_of KX G ?a; (case a => k_is))),
(by
      (refine' PySem.W.mg_none_of KX G ?a; (case a => k_is)))⟩
    case Z => exact ⟨(by
      (refine' Dw.cs_mk KX G ?a ?b ?c ?d ?e ?f ?g; (case a => k_is); (case b => k_is); (case c => k_is); (case d => k_is); (case e => k_is); (case f => k_is); (case g => k_is))),
(by
      (show PySem.W.findIn _ _ _ = _; k_is)),
(by
      (show PySem.W.findIn _ _ _ = _; k_is)),
(by
      (show PySem.W.findIn _ _ _ = _; k_is)),
(by
      (refine' Dw.mn_mk ?a ?i ?l ?c ?k (fun _ _ _ _ _ _ us hl => match us, hl with | [_, _, _, _], _ => rfl); (case a => k_is); (case i => k_is); (case l => k_is); (case c => k_is); (case k => k_is))),
(by
      (refine' Dw.mn_mk ?a ?i ?l ?c ?k (fun _ _ _ _ _ _ us hl => match us, hl with | [_, _], _ => rfl); (case a => k_is); (case i => k_is); (case l => k_is); (case c => k_is); (case k => k_is)))⟩
