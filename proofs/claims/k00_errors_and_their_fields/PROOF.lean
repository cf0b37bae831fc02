import PyProof.Rows.All
import Wide.All
import OpenK.AllK
import Wide.FinOn
import PyProof.EqAt
import PyProof.EqKinds
import PyProof.TupleCall
import KE.KFromBytes
import KE.KMinKey
import KE.GoesEnum
import KE.GoesMore
import HandS.Base
import HandS.Call
import HandS.List
import HandS.Comp
import HandS.Ends
import HandS.Dict
import HandS.Iter
import HandS.Text
import HandS.Exc
import HandS.TryOnly
import HandS.ExcOwn
import HandS.ExcInit
import HandS.ExcIs
import HandS.Walk
import HandS.Wide
import HandS.Set
import HandS.SetFor
import HandS.TupAny
import HandS.TupMul
import HandS.SortKw
import HandS.TupLe
import HandS.IsInst
import HandS.Words
import HandS.WordsList
import HandS.WordsDict
import HandS.WordsExc
import HandS.Evl
import HandS.Conv
import HandS.Sort
import HandS.SortInts
import HandS.SortRule
import HandS.Rev
import PyProof.SeqIndex
import HandS.Flow
import HandS.TryMany
import PyProof.ListMulRight
import PyProof.TupleOfSeq
import PyProof.ReprRoads
import HandS.Deep
import HandS.Strs
import KE.SortData
import HandS.More
import KE.DataMinMax
import HandS.ExcField
import KE.KExcIs
import PySem.Challenge.RW_bymiddles_k00_errors_and_their_fields
set_option Elab.async false
set_option linter.all false
set_option maxRecDepth 100000
set_option maxHeartbeats 4000000

namespace L2
open PySem PySem.Spec PyProof.Rows
/-! t.index(k), whole numbers -/
section
variable {X : Cx}
def rTupIx (K : PySem.W.Frag) : V → List V → Hp → VK → Prop := fun x xs H Q => ∃ (p : Addr) (ks : List Nat) (k : Nat), x = .ref p ∧ xs = [.int (k : Int)] ∧ SqT K H p (ks.map fun j : Nat => V.int (j : Int)) ∧ k ∈ ks ∧ Q (.int (ks.idxOf k : Nat)) H
theorem mt_tupIx : MtR X "tuple.index" (rTupIx X.K) := by
  intro pins s σ H x xs v us Q I rx rs h
  obtain ⟨p, ks, k, rfl, rfl, hq, hk, q⟩ := h
  cases rx
  obtain ⟨u, rfl, t, rfl⟩ := vals1 rs
  obtain ⟨its, r, pl, hz⟩ := I.tuple hq
  have hl : its.length = ks.length := by rw [← r.length, List.length_map]
  have items : SeqAt.ItemsEq X.A.in1 s its ks (Value.int (k : Int) t) k := by
    refine ⟨hl, fun j h1 h2 => ?_⟩
    obtain ⟨w, hw, t', hw'⟩ := r.get (i := j) (x := .int ((ks[j] : Nat) : Int)) (by simp [h2])
    have e := (List.getElem?_eq_some_iff.mp hw).2
    rw [e, hw']
    have z := SeqAt.EqAt.int_int (A := X.A.in1) (s := s) ((ks[j] : Nat) : Int) t' (k : Int) t
    have e2 : (((ks[j] : Nat) : Int) == (k : Int)) = decide (ks[j] = k) := by
      rw [Bool.eq_iff_iff]
      simp
      omega
    rw [e2] at z
    exact z
  exact SeqAt.call_tuple_index pl items hk ⟨.int (ks.idxOf k : Nat), H, I.tok _, ⟨_, rfl⟩, q⟩
theorem mt_tupIxB {K : PySem.W.Frag} (h : X.K = K := by rfl) : MtR X "tuple.index" (rTupIx K) := h ▸ mt_tupIx
/-- xs.index(k) of a list of whole numbers -/
def rLstIx (K : PySem.W.Frag) : V → List V → Hp → VK → Prop := fun x xs H Q => ∃ (p : Addr) (ks : List Nat) (k : Nat), x = .ref p ∧ xs = [.int (k : Int)] ∧ SqL K H p (ks.map fun j : Nat => V.int (j : Int)) ∧ k ∈ ks ∧ Q (.int (ks.idxOf k : Nat)) H
theorem mt_lstIx : MtR X "list.index" (rLstIx X.K) := by
  intro pins s σ H x xs v us Q I rx rs h
  obtain ⟨p, ks, k, rfl, rfl, hq, hk, q⟩ := h
  refine mt_index pins s σ H _ _ v us Q I rx rs ⟨p, _, _, ks.idxOf k, .int (k : Int), rfl, rfl, hq, rfl, ?_, ?_, ?_, ?_, q⟩
  · rw [List.all_eq_true]
    intro x hx
    obtain ⟨i, _, rfl⟩ := List.mem_map.mp hx
    rfl
  · have h1 := List.idxOf_lt_length_iff.mpr hk
    rw [List.getElem?_map, List.getElem?_eq_getElem h1, List.getElem_idxOf h1]
    rfl
  · show ((k : Int) == (k : Int)) = true
    exact beq_self_eq_true _
  · intro m z' hm hz
    rw [List.getElem?_map] at hz
    cases e : ks[m]? with
    | none =>
      rw [e] at hz
      cases hz
    | some y =>
      rw [e] at hz
      cases hz
      have h2 := (List.getElem?_eq_some_iff.mp e).1
      have h3 := SeqAt.lt_idxOf_ne hm h2
      have h4 : y ≠ k := by rw [← (List.getElem?_eq_some_iff.mp e).2]; exact h3
      show ((y : Int) == (k : Int)) = false
      rw [beq_eq_false_iff_ne]
      omega
/-- tuple(xs): the new tuple's object is kept in mind -/
def rTupFz (K : PySem.W.Frag) : List V → Hp → VK → Prop := fun xs H Q => ∃ p ys, xs = [.ref p] ∧ SqL K H p ys ∧ ∀ l o, H l = none → o.dict = none → o.cls = .type "tuple" → Q (.ref l) (upd H l (.frz o (.tup ys)))
theorem call_tupleFz0 : CallR X (.type "tuple") (rTupFz X.K) := by
  intro pins s σ H xs us Q I r h
  obtain ⟨p, ys, rfl, hq, q⟩ := h
  obtain ⟨u, rfl, rx⟩ := vals1 r
  cases rx
  obtain ⟨its, r', pl, hz⟩ := I.list hq
  have hlen := r'.length
  refine call_tuple_list pl.isList (fun h' kp => ?_) (by simp only [List.size_toArray] <;> omega)
  have I1 : Inv X pins σ H { s with heap := h' } := I.kept (t' := s.toks) kp
  have I2 : Inv X pins σ (upd H h'.objs.size (.frz { cls := .type "tuple", data := .seq its.toArray } (.tup ys))) { s with heap := h'.push { cls := .type "tuple", data := .seq its.toArray } } :=
    I1.laid (t' := s.toks) (fun b o e => Heap.get?_push_of_some _ e) (Nat.le_refl _) (show ObjOk X.prog X.w _ _ _ (.frz _ (.tup ys)) from ⟨Heap.get?_push_size _ rfl, hz, its, r', IsTup.new _ _⟩)
  exact ⟨.ref h'.objs.size, _, I2, rfl, q _ _ (I1.hok.fresh (Nat.le_refl _)) rfl rfl⟩
theorem call_tupleFz {K : PySem.W.Frag} (h : X.K = K := by rfl) : CallR X (.type "tuple") (rTupFz K) := h ▸ call_tupleFz0
/-- t.m(..), the tuple's object known -/
def tBMF (r : V → List V → Hp → VK → Prop) (to : TE) (t : TA) : TE := fun σ H Q => to σ H fun x H1 => (∃ p o ys, x = .ref p ∧ H1 p = some (.frz o (.tup ys)) ∧ o.dict = none ∧ o.cls = .type "tuple") ∧ t σ H1 fun xs H2 => r x xs H2 Q
theorem pe_bmF {o e : Expr} {es : List Expr} {to : TE} {t : TA} {name : Str} {apos cpos : Pos} {id : String} {r : V → List V → Hp → VK → Prop} (pa : PlainAttrs "tuple") (slot : Slot "tuple" name id) (hty : typeOf (.builtin id) = pure (.type "method_descriptor")) (hm : MtR X id r) (ho : PE X o to) (ha : PA X (e :: es) t)
    (hbase : attributeBase o name X.env (eval o X.env) = eval o X.env := by rfl)
    (hfew : ((backTo cpos (starEach (e :: es) X.env)).all (fun x => !x.1) && (backToKw cpos (keywordEach [] X.env)).all (fun x => x.1.isSome)
      && decide ((e :: es).length + ([] : List Keyword).length + (if ([] : List Keyword).isEmpty then 0 else 1) < 30)) = true := by rfl)
    (hline : (apos.endLine == cpos.line) = true := by rfl) (hs : starEach (e :: es) X.env = (false, eval e X.env) :: starEach es X.env := by rfl) (hplain : (backTo cpos (starEach es X.env)).any (·.1) = false := by rfl) :
    PE X (.Call (.Attribute o name apos) (e :: es) [] cpos) (tBMF r to t) := by
  refine ⟨fun pins s σ H Q I h => ?_⟩
  refine wpAny_Call_method_late hbase hfew hline rfl (thn (ho.run pins s σ H _ I h) fun v s1 ⟨x, H1, I1, r1, ⟨p, ob, ys, ex, hp, hd, hc⟩, q1⟩ => ?_)
  subst ex
  cases r1
  obtain ⟨hob, _⟩ := (show ObjOk X.prog X.w H1 s1.heap p (.frz ob (.tup ys)) from I1.hok p _ hp)
  refine ⟨"tuple", id, pa, slot, hty, ⟨ob, hob, hc⟩, fun a e => ?_, ?_⟩
  · cases e
    exact ⟨ob, hob, hd⟩
  have hA := ha.run cpos pins s1 σ H1 _ I1 q1
  rw [hs] at hA ⊢
  refine Calls.callWith_builtin (by show (false || (backTo cpos (starEach es X.env)).any (·.1)) = false; rw [hplain] <;> rfl) (Calls.evalArgs_plain ?_)
  exact thn hA fun us s2 ⟨vs, H2, I2, r2, q2⟩ => hm pins s2 σ H2 (.ref p) vs (.ref p) us Q I2 rfl r2 q2
end
/-! sorted(t) of a tuple of whole numbers; k * t; isinstance of any caught own error -/
section
variable {X : Cx}
def rSortedTI (K : PySem.W.Frag) : List V → Hp → VK → Prop := fun vs H Q => ∃ (a : Addr) (ns : List Int), vs = [V.ref a] ∧ SqT K H a (ns.map V.int) ∧
  ∀ (ms : List Int) (p : Addr), ms.Perm ns → ms.Pairwise (· ≤ ·) → H p = none → Q (.ref p) (upd H p (.lst (ms.map V.int)))
theorem cr_sortedTI : CallR X (.builtin "sorted") (rSortedTI X.K) := by
  intro pins s σ H vs us Q I r h
  obtain ⟨a, ns, rfl, hs, q⟩ := h
  obtain ⟨its, rv, ⟨o, ho, hc, n, hd⟩, hz⟩ := I.tuple hs
  rw [Vals.ref1 r]
  have hi := rv.ints
  have hzz : its.length ≤ sizeLine := by rw [← rv.length] <;> exact hz
  refine Calls.call_function_entry PyProof.Rows.kind_sorted PyProof.Rows.plain_sorted PyProof.Rows.entry_sorted (PyProof.Rows.args_sorted1 _) ?_
  unfold Builtin.«sorted»
  refine wpAny_bind (m := checkCount "sorted" 1 1 _) (wpAny_pure ?_)
  refine wpAny_bind (wpAny_collect_seq a (.inr rfl) ho hc hd (fun h' hk => ?_) (by rw [List.size_toArray] <;> exact hzz))
  have eL : its.toArray.toList = its := by simp
  rw [eL]
  refine wpAny_bind (wpAny_newList ?_ hzz)
  have I1 : Inv X pins σ H { s with heap := h' } := I.kept (t' := s.toks) hk
  have atL : (h'.push (seqObj "list" its.toArray 0)).get? h'.objs.size = some (seqObj "list" its.toArray 0) := Heap.get?_push_size _ rfl
  show wpAny _ _ _ _ _ { s with heap := h'.push (seqObj "list" its.toArray 0) }
  refine wpAny_bind (wpAny_holding (wpAny_call_entry PyProof.Rows.slot_list_sort ⟨_, atL, rfl⟩ PyProof.Rows.entry_list_sort
    (SrtO.list_sort_ord (s := { s with heap := h'.push (seqObj "list" its.toArray 0) }) SrtO.swo_int atL hzz (fun h2 => SrtO.ints_sortable hi h2) fun out h1 h2 => ⟨_, rfl, ?_⟩) (PyProof.Rows.args_list_sort _)))
  obtain ⟨k1, k2, k3⟩ := SrtO.ints_out hi h1 h2
  obtain ⟨ep, he'⟩ := PyProof.Rows.sortedHeap_at (vs := its) (out := out.toArray) atL
  have hlen : ((out.map SrtO.iv).map V.int).length ≤ sizeLine := by
    rw [List.length_map, k2.length_eq]
    rw [List.length_map] at hz
    exact hz
  refine wpAny_pure ⟨_, rfl, .ref h'.objs.size, upd H h'.objs.size (.lst ((out.map SrtO.iv).map V.int)), I1.laid (t' := s.toks) (fun b u e => ?_) (Nat.le_refl _) ⟨hlen, out, ep, vals_of_ints k1, he'⟩, rfl, q _ _ k2 k3 (I1.hok.fresh (Nat.le_refl _))⟩
  have hb : b < h'.objs.size := Heap.lt_size e
  rw [PyProof.Rows.sortedHeap_old (Nat.ne_of_lt hb) (by rw [size_push'] <;> exact Nat.lt_succ_of_lt hb)]
  exact Heap.get?_push_of_some _ e
theorem int_mul_tuple (a : Int) (t : Tok) (l : Addr) (items : Array Value) (n : Nat) (dd : Option Addr) (sl : Array (Option Value)) :
    Meets (Builtin.«int.__mul__» ⟨[.int a t, .ref l], []⟩) (fun _ R s => s.heap.get? l = some { cls := .type "tuple", dict := dd, data := .seq items n, slots := sl } ∧ R (.ok (.ret Value.notImplemented)) s) :=
  .of_wp fun prog w A R s h => by
    obtain ⟨hp, g, d, tk, os⟩ := s
    obtain ⟨hl, h⟩ := h
    wp_walk using wpAny_loadPart' hl
    exact ⟨_, rfl, h⟩
def rRepL (K : PySem.W.Frag) : R2 := fun x y H Q => ∃ l k xs, y = .ref l ∧ x = .int k ∧ SqT K H l xs ∧ xs ≠ [] ∧ 2 ≤ k ∧ k ≤ 1000 ∧ xs.length ≤ 1000 ∧ ∀ p, H p = none → Q (.ref p) (upd H p (.tup (List.replicate k.toNat xs).flatten))
theorem op_repL : OpR X (binaryOp .Mult) (rRepL X.K) := by
  intro pins s σ H y x u v Q I ry rx h
  obtain ⟨l, k, xs, rfl, rfl, hT, hne, h1, h2, hz, q⟩ := h
  cases rx
  obtain ⟨t, rfl⟩ := ry
  obtain ⟨its, r, ⟨⟨cls, dd, data, sl⟩, ho, hc, n, hd⟩, hs⟩ := I.tuple hT
  simp only at hc hd
  subst hc hd
  have hle : its.length = xs.length := r.length.symm
  have hi : its.toArray.isEmpty = false := by
    cases its with
    | nil => exact absurd (List.eq_nil_of_length_eq_zero hle.symm) hne
    | cons a b => rfl
  have hsz : its.toArray.size = xs.length := by rw [List.size_toArray, hle]
  have flat : (List.replicate k.toNat its).flatten.length = k.toNat * xs.length := by rw [PyProof.Rows.lm_len_rep_flat, hle]
  have top : k.toNat * xs.length ≤ 1000 * 1000 := Nat.mul_le_mul (by omega) hz
  have hm : ((its.toArray.size : Nat) : Int) * k ≤ 1000000 := by
    rw [hsz]
    have a1 : ((xs.length : Nat) : Int) * k ≤ 1000 * k := Int.mul_le_mul_of_nonneg_right (by omega) (by omega)
    omega
  have c0 : (decide (k < -(2 ^ 63)) || decide (k ≥ 2 ^ 63)) = false := by
    rw [Bool.or_eq_false_iff, decide_eq_false_iff_not, decide_eq_false_iff_not]
    omega
  have c1 : (its.toArray.isEmpty || k == 1) = false := by
    rw [hi, Bool.false_or, beq_eq_false_iff_ne]
    omega
  have c2 : (decide (k ≤ 0) || its.toArray.isEmpty) = false := by
    rw [hi, Bool.or_false, decide_eq_false_iff_not]
    omega
  have c4 : Builtin.Tuple.tupleTooMany (((its.toArray.size : Nat) : Int) * k) = false := by
    unfold Builtin.Tuple.tupleTooMany
    rw [sizeLine_eq, decide_eq_false_iff_not]
    omega
  refine lm_binaryOp_repeat_right (T := "tuple") (U := "int") (by decide) (fun s' => typeIs_int s' k t) ⟨_, ho, rfl⟩ F.fills_int_mul noFill_tuple_mul F.slot_int_mul lm_noRepeat_int repeat_tuple F.slot_int_index.lookup
    (call_meets F.slot_int_mul (typeIs_int s k t) F.entry_int_mul (F.args_int_mul_2 _ _) (int_mul_tuple k t l its.toArray n dd sl) ⟨ho, rfl, ⟨_, ho, rfl⟩, ?_⟩)
  refine call_meets F.slot_tuple_mul ⟨_, ho, rfl⟩ F.entry_tuple_mul (F.args_tuple_mul_2 _ _) (tuple_mulW l its.toArray n dd sl k t c0 c1 c2 (by omega) c4 (by rw [size_rep, List.size_toArray, flat, sizeLine_eq] <;> omega)) ⟨ho, ?_⟩
  rw [size_rep]
  refine ⟨.ref s.heap.objs.size, _, I.laid (t' := s.toks) (o := .tup (List.replicate k.toNat xs).flatten) (fun b ob q => Heap.get?_push_of_some _ q) (Nat.le_refl _) ?_, rfl, q _ (I.hok.fresh (Nat.le_refl _))⟩
  exact ⟨by rw [PyProof.Rows.lm_len_rep_flat, sizeLine_eq] <;> omega, _, r.rep k.toNat, IsTup.new _ _⟩
/-- isinstance(e, c), e what the suite holds, of whichever own class -/
def rIsAny (K : PySem.W.Frag) (a : Addr) (cls : Value) (d : Option Addr) : List V → Hp → VK → Prop := fun xs H Q => ∃ (D : Addr) (c : V) (cv : Value) (b : Bool), cls = .ref D ∧ d = none ∧ ExcC K D ∧ xs = [.ref a, c] ∧ (∀ u, RelV c u → u = cv) ∧ PySem.W.kitOne K (.ref D) cv = some b ∧ Q (.bl b) H
theorem call_isAny {a : Addr} {oe : Obj} {cls : Value} {d : Option Addr} {pn : List (Addr × Obj)} (hz : Zc cls d oe) (hf : ∃ vs, oe.data = .fields vs) : CallR (X.suite a ((a, oe) :: pn)) (.builtin "isinstance") (rIsAny X.K a cls d) := by
  intro pins s σ H xs us Q I r h
  obtain ⟨D, c, cv, b, rfl, rfl, C, e, h1, h2, q⟩ := h
  exact call_isE C hz hf pins s σ H xs us Q I r ⟨c, cv, b, e, h1, h2, q⟩
end
theorem kit_own {K : PySem.W.Frag} {C D : Addr} {b : Bool} (h1 : PySem.W.hasDictIn K D = true) (h2 : PySem.W.typeIn K (.ref D) = some (.type "type")) (h3 : PySem.W.subIn K (.ref C) (.ref D) = some b) (h4 : PySem.W.subIn K (.ref C) (.ref C) = some true) : PySem.W.kitOne K (.ref C) (.ref D) = some b := by
  obtain ⟨cd, hc, _⟩ := PySem.W.any_some h1
  have e2 : ((PySem.W.clsIn K D).isSome && PySem.W.typeIn K (.ref D) == some (.type "type")) = true := by rw [hc, h2] <;> rfl
  show (if ((Value.ref C : Value) == .ref D) = true then some true else (if ((PySem.W.clsIn K D).isSome && PySem.W.typeIn K (.ref D) == some (.type "type")) = true then PySem.W.subIn K (.ref C) (.ref D) else none)) = some b
  by_cases e : C = D
  · subst e
    rw [if_pos (by simp), ← h4, h3]
  · rw [if_neg (by simp [e]), if_pos e2, h3]
/-! own == and != : whatever the own __eq__ answers -/
section
variable {X : Cx} {n : Nat}
theorem callTwo {CX : CXT} {f : Addr} {fd : FuncData} {ps : List Str} {sp : Sp} {E : XK} (F : FnOk X.prog X.w X.K X.mg X.base CX n f fd ps sp) (hb : Binds X.K fd ps []) (hx : Passes CX X E)
    {A : Around} {pins : List (Addr × Obj)} {s : Shared} {σ : St} {H : Hp} {a b : Addr} {Q : VK} (rm : Room n A) (fr : A.frames = X.A.frames) (I : Inv X pins σ H s) (hsp : sp [.ref a, .ref b] H Q E) :
    wpAny (model X.prog X.w) A (call (.ref f) [.ref a, .ref b]) (EP X pins σ Q) X.xe s := by
  have z := I.env0
  have z0 : Env0 X.prog X.w X.K X.mg X.base A X.stack s H :=
    ⟨by rw [fr] <;> exact z.frames, z.mod, z.bs, z.bsz, z.funs, z.frf, z.hok, z.bare⟩
  have two := F.len _ _ _ _ hsp
  have vs : Vals [V.ref a, V.ref b] [Value.ref a, Value.ref b] := .cons rfl (.cons rfl .nil)
  have bd := hb s [.ref a, .ref b] I.kIn (by simpa using two)
  refine wpAny_call (codeAny_mono (F.run A X.stack s H ⟨[.ref a, .ref b], []⟩ [.ref a, .ref b] [.ref a, .ref b] _ E rm z0 (by simpa using bd) vs hsp) fun r s' hq => ?_)
  cases r with
  | error er => exact hx pins σ H s er s' I hq
  | ok fl =>
    cases fl with
    | ret w => exact I.after hq
    | _ => exact False.elim hq
/-- two instances of the class at C, asked by the own __eq__ -/
def rOwnCmp (C : Addr) (sp : Sp) (E : XK) (neg : Bool) : R2 := fun x y H Q => ∃ a b dx dy fs gs, x = .ref a ∧ y = .ref b ∧ H a = some (.ins C dx fs) ∧ H b = some (.ins C dy gs) ∧
  sp [.ref a, .ref b] H (fun v H' => ∃ k : Bool, v = .bl k ∧ Q (.bl (k != neg)) H') E
theorem op_ownEq {CX : CXT} {C f : Addr} {fd : FuncData} {ps : List Str} {sp : Sp} {E : XK} (F : FnOk X.prog X.w X.K X.mg X.base CX n f fd ps sp) (hr : Room n X.A)
    (hs : PySem.W.findIn X.K (.ref C) "__eq__" = some (some (.ref f))) (hf : PySem.W.isFn X.K (.ref f) = true) (hb : Binds X.K fd ps []) (hx : Passes CX X E) : OpR X (compareOp .Eq) (rOwnCmp C sp E false) := by
  intro pins s σ H x y v u Q I rx ry hq
  obtain ⟨a, b, dx, dy, fs, gs, rfl, rfl, ha, hb', hsp⟩ := hq
  cases rx
  cases ry
  obtain ⟨_, J, _⟩ := ins_get I.hok ha
  obtain ⟨_, J', _⟩ := ins_get I.hok hb'
  obtain ⟨_, J, _⟩ := J.look
  obtain ⟨_, J', _⟩ := J'.look
  obtain ⟨m, hF⟩ := I.fr
  refine PySem.W.cmp_K (op := .Eq) (tb := .ref C) hr.units0 hF I.ok.mod.kin J J'.type (by simp [PySem.W.notFirst]) hs hf (wpAny_mono (callTwo F hb hx hr rfl I hsp) (fun r s' z => ?_) fun _ _ e => e)
  obtain ⟨z, H', I', rz, k, rfl, q⟩ := z
  cases rz
  refine ⟨.bl k, H', I', rfl, ?_⟩
  cases k <;> exact q
open PySem.W Builtin in
theorem ne_own {A : Around} {K : PySem.W.Frag} {a b C f : Addr} {oa ob : Obj} {da db : Option Obj} {prog : Program} {w : World} {E : Value → Shared → Prop} {s : Shared} {Q : Value → Shared → Prop} (hu : A.units < cLine) (hu1 : A.in1.units < cLine) (hK : K.In s.heap) (I : InstAt s.heap a oa C da) (J : InstAt s.heap b ob C db)
    (hs : findIn K (.ref C) "__eq__" = some (some (.ref f))) (hf : isFn K (.ref f) = true) (hn : findIn K (.ref C) "__ne__" = some (some (.builtin "object.__ne__"))) (hm : mroIn K C (.type "object") = some true)
    (h : wpAny (model prog w) A.in1 (call (.ref f) [.ref a, .ref b]) (fun v s' => ∃ k : Bool, v = .bool k ∧ Q (.bool (!k)) s') E s) : wpAny (model prog w) A (richCompare .NotEq (.ref a) (.ref b)) Q E s := by
  have body : wpAny (model prog w) A (call (.builtin "object.__ne__") [.ref a, .ref b]) (fun v s' => ∃ k : Bool, v = .bool k ∧ Q v s') E s := by
    refine wpAny_call (codeAny_call_builtin PySem.F.slot_object_ne.plain PySem.F.entry_object_ne (check_slot (i := "object.__ne__") (owner := "object") (n := "__ne__") (by decide +kernel) (by decide +kernel) (I.type.andThen (looks_mroIn hK hm)) (PySem.F.args_object_ne_2 _ _) ?_))
    unfold Builtin.«object.__ne__»
    refine wpAny_bind (m := slotArgs "__ne__" 1 _) (wpAny_pure ?_)
    refine wpAny_bind (m := cRoomFor _ _) (wpAny_cRoomFor hu1 ?_)
    refine wpAny_bind (m := callSpecialIfBound? (.ref a) (Str.ofString "__eq__") _) (ifBound_K hK I hs hf (wpAny_mono h (fun v s' hv => ?_) fun _ _ y => y))
    obtain ⟨k, rfl, q⟩ := hv
    refine wpAny_bind (m := truthy _) (wpAny_truthy_bool ?_)
    exact wpAny_pure ⟨!k, rfl, q⟩
  have one : wpAny (model prog w) A (tryCompare (.ref a) "__ne__" (.ref b)) (fun r s' => ∃ v, r = some v ∧ Q v s') E s := by
    unfold tryCompare
    refine wpAny_bind ?_
    simp only [callSpecialIfBound?, bindSpecialIfBound?]
    refine wpAny_holding (wpAny_bind (wpAny_bind (wpAny_bind (I.type.here ((looks_findIn hK hn).here ?_)))))
    simp only [PySem.F.slot_object_ne.bind]
    refine wpAny_bind (wpAny_askSetting (wpAny_ite ?_))
    have fin : wpAny (model prog w) A (call (.builtin "object.__ne__") ([.ref a] ++ [.ref b]) >>= fun v => pure (some v)) (fun r s' => wpAny (model prog w) A (match r with | some Value.notImplemented => pure none | none => pure none | some v => pure (some v)) (fun r s' => ∃ v, r = some v ∧ Q v s') E s') E s := by
      refine wpAny_bind (wpAny_mono body (fun v s' hv => ?_) fun _ _ y => y)
      obtain ⟨k, rfl, q⟩ := hv
      exact wpAny_pure (wpAny_pure ⟨_, rfl, q⟩)
    split
    · exact wpAny_bind (wpAny_pure (wpAny_pure fin))
    · exact wpAny_tryCatch (wpAny_bind (wpAny_pure (wpAny_pure fin)))
  unfold richCompare
  simp only [oneThing_ref]
  refine wpAny_holding (wpAny_bind (wpAny_cRoomFor hu ?_))
  refine wpAny_bind (I.type.here (wpAny_bind (J.type.here ?_)))
  split
  · rename_i q
    simp at q
  · refine wpAny_bind (wpAny_pure ?_)
    simp only [Bool.false_eq_true, if_false]
    refine wpAny_bind (wpAny_mono one (fun r s' z => ?_) fun _ _ e => e)
    obtain ⟨v, rfl, hq⟩ := z
    exact wpAny_pure hq
theorem op_ownNe {CX : CXT} {C f : Addr} {fd : FuncData} {ps : List Str} {sp : Sp} {E : XK} (F : FnOk X.prog X.w X.K X.mg X.base CX n f fd ps sp) (hr : Room (n + 1) X.A)
    (hs : PySem.W.findIn X.K (.ref C) "__eq__" = some (some (.ref f))) (hf : PySem.W.isFn X.K (.ref f) = true) (hb : Binds X.K fd ps []) (hx : Passes CX X E)
    (hn : PySem.W.findIn X.K (.ref C) "__ne__" = some (some (.builtin "object.__ne__"))) (hm : PySem.W.mroIn X.K C (.type "object") = some true) : OpR X (compareOp .NotEq) (rOwnCmp C sp E true) := by
  intro pins s σ H x y v u Q I rx ry hq
  obtain ⟨a, b, dx, dy, fs, gs, rfl, rfl, ha, hb', hsp⟩ := hq
  cases rx
  cases ry
  obtain ⟨_, J, _⟩ := ins_get I.hok ha
  obtain ⟨_, J', _⟩ := ins_get I.hok hb'
  obtain ⟨_, J, _⟩ := J.look
  obtain ⟨_, J', _⟩ := J'.look
  refine ne_own hr.units0 hr.in1.units0 I.kIn J J' hs hf hn hm (wpAny_mono (callTwo F hb hx hr.in1 rfl I hsp) (fun r s' z => ?_) fun _ _ e => e)
  obtain ⟨z, H', I', rz, k, rfl, q⟩ := z
  cases rz
  refine ⟨k, rfl, .bl (!k), H', I', rfl, ?_⟩
  cases k <;> exact q
end
/-! t[::-1] of a tuple -/
theorem fmSame {α β : Type} {f g : α → Option β} : ∀ {l : List α}, (∀ m ∈ l, f m = g m) → l.filterMap f = l.filterMap g
  | [], _ => rfl
  | a :: r, h => by
    rw [List.filterMap_cons, List.filterMap_cons, h a (List.mem_cons_self ..), fmSame fun m hm => h m (List.mem_cons_of_mem _ hm)]
theorem turnAll {α : Type} : ∀ ys : List α, (List.range ys.length).filterMap (fun m => ys[m]?) = ys
  | [] => rfl
  | y :: r => by
    rw [List.length_cons, List.range_succ_eq_map, List.filterMap_cons]
    show y :: _ = _
    rw [List.filterMap_map]
    exact congrArg (y :: ·) (turnAll r)
theorem turnAdjust (n : Nat) : Builtin.Slice.sliceAdjust none none (-1) (n : Int) = ((n : Int) - 1, -1) := by
  unfold Builtin.Slice.sliceAdjust
  simp
theorem turnPlaces (n : Nat) : Builtin.Slice.slicePlaces ((n : Int) - 1) (-1) (-1) = n := by
  unfold Builtin.Slice.slicePlaces
  rw [if_neg (by decide)]
  by_cases h : (n : Int) - 1 > -1
  · rw [if_pos h, show (-(-1) : Int) = 1 by decide, Int.ediv_one]
    omega
  · rw [if_neg h]
    omega
theorem turnPick (xs : Array Value) : ((List.range xs.size).filterMap fun (m : Nat) => xs[(((xs.size : Int) - 1) + (m : Int) * (-1)).toNat]?).toArray = xs.toList.reverse.toArray := by
  have g : ∀ m ∈ List.range xs.size, xs[(((xs.size : Int) - 1) + (m : Int) * (-1)).toNat]? = xs.toList.reverse[m]? := by
    intro m hm
    have hm' : m < xs.toList.length := by simpa using hm
    rw [List.getElem?_reverse hm']
    have e : ((((xs.size : Int) - 1) + (m : Int) * (-1)).toNat) = xs.toList.length - 1 - m := by
      rw [Array.length_toList]
      omega
    rw [e]
    simp
  have e : xs.size = xs.toList.reverse.length := by simp
  rw [fmSame g, e, turnAll]
section
variable {prog : Program} {w : World} {A : Around} {E : Value → Shared → Prop} {s : Shared}
theorem getItem_turn {t sl : Addr} {items : Array Value} {u : Tok} {Q : Value → Shared → Prop} (ht : IsTup s.heap t items) (hs : s.heap.IsSliceOf sl .none .none (.int (-1) u))
    (h : Q (.ref s.heap.objs.size) { s with heap := s.heap.push { cls := .type "tuple", data := .seq items.toList.reverse.toArray } }) (hz : items.size ≤ sizeLine) : wpAny (model prog w) A (getItem (.ref t) (.ref sl)) Q E s := by
  have room : sizeOk (.seq items.toList.reverse.toArray) := by
    show items.toList.reverse.toArray.size ≤ sizeLine
    simpa using hz
  obtain ⟨os, hos, hcs, hds⟩ := id hs
  have isl : s.TypeIs (.ref sl) "slice" := ⟨os, hos, hcs⟩
  unfold getItem
  try with_reducible refine wpAny_holding ?_
  first | refine wpAny_bind (wpAny_pure ?_) | skip
  refine wpAny_bind (wpAny_sequenceKey ht.typeIs (by decide) ?_)
  refine wpAny_bind (wpAny_callSpecial?_slot (name := Str.ofString "__getitem__") ht.typeIs slot_tuple_getitem (wpAny_call_entry slot_tuple_getitem ht.typeIs entry_tuple_getitem ?_ (args_tuple_getitem _ _)))
  show wpAny _ _ (Builtin.Tuple.tupleItemsOf (.ref t) >>= _) _ _ s
  refine wpAny_bind (tupleItemsOf_ ht ?_)
  refine wpAny_bind (wpAny_typeOf isl ?_)
  rw [if_pos (by decide)]
  have app : ∀ {R : Int × Int × Nat → Shared → Prop}, R (((items.size : Nat) : Int) - 1, -1, items.size) s → wpAny (model prog w) (A.in1) (Builtin.Slice.sliceApplied (.ref sl) (pure ((items.size : Nat) : Int))) R E s := by
    intro R hR
    unfold Builtin.Slice.sliceApplied Builtin.Slice.sliceFields
    refine wpAny_bind (wpAny_bind (wpAny_field hos hds (x := .none) rfl (wpAny_bind (wpAny_field hos hds (x := .none) rfl (wpAny_bind (wpAny_field hos hds (x := .int (-1) u) rfl (wpAny_pure ?_)))))))
    refine wpAny_bind (slicePart_int ?_)
    show wpAny _ _ (if ((-1 : Int) == 0) = true then _ else _) _ _ s
    rw [if_neg (by decide)]
    refine wpAny_bind (slicePart_none (wpAny_bind (slicePart_none (wpAny_bind (wpAny_pure ?_)))))
    show wpAny _ _ (match Builtin.Slice.sliceAdjust none none (-1) ((items.size : Nat) : Int) with | (lo, hi) => pure (lo, (-1 : Int), Builtin.Slice.slicePlaces lo hi (-1))) _ _ s
    rw [turnAdjust]
    show wpAny _ _ (pure (((items.size : Nat) : Int) - 1, (-1 : Int), Builtin.Slice.slicePlaces (((items.size : Nat) : Int) - 1) (-1) (-1))) _ _ s
    rw [turnPlaces]
    exact wpAny_pure hR
  refine wpAny_bind (app ?_)
  have hno : ¬ (((((items.size : Nat) : Int) - 1) == 0 && (-1 : Int) == 1 && items.size == items.size) = true) := by simp
  show wpAny _ _ (if ((((items.size : Nat) : Int) - 1) == 0 && (-1 : Int) == 1 && items.size == items.size) = true then _ else _) _ _ s
  rw [if_neg hno, turnPick]
  first
    | exact wpAny_bind (m := Builtin.Tuple.tupleExact _) (wpAny_newObj_type (wpAny_pure ⟨_, rfl, wpAny_pure h⟩) room)
    | exact wpAny_bind (m := Builtin.Tuple.tupleExact _) (wpAny_newObj_type (wpAny_bind (wpAny_pure (wpAny_pure ⟨_, rfl, wpAny_pure h⟩))) room)
    | exact wpAny_bind (wpAny_bind (m := Builtin.Tuple.tupleExact _) (wpAny_newObj_type (wpAny_pure (wpAny_pure ⟨_, rfl, wpAny_pure h⟩)) room))
    | exact wpAny_bind (wpAny_bind (m := Builtin.Tuple.tupleExact _) (wpAny_newObj_type (wpAny_pure ⟨_, rfl, wpAny_pure h⟩) room))
end
section
variable {X : Cx} {e ee : Expr} {te : TE} {tk : TO} {pos p2 : Pos}
theorem turn_read {pins : List (Addr × Obj)} {s : Shared} {σ : St} {H : Hp} {a sl : Addr} {xs : List V} {u : Tok} {Q : VK} (I : Inv X pins σ H s) (hs : s.heap.IsSliceOf sl .none .none (.int (-1) u)) (hx : SqT X.K H a xs) (q : ∀ p, H p = none → Q (.ref p) (upd H p (.tup xs.reverse))) :
    s.TypeIs (.ref a) "tuple" ∧ wpAny (model X.prog X.w) X.A (getItem (.ref a) (.ref sl)) (EP X pins σ Q) X.xe s := by
  obtain ⟨its, r, ht, hz⟩ := I.tuple hx
  have hlen : its.toArray.size = xs.length := by rw [List.size_toArray] <;> exact r.length.symm
  refine ⟨ht.typeIs, getItem_turn ht hs ?_ (by rw [hlen] <;> exact hz)⟩
  refine ⟨.ref s.heap.objs.size, _, I.laid (t' := s.toks) (o := .tup xs.reverse) (fun b ob z => Heap.get?_push_of_some _ z) (Nat.le_refl _) ?_, rfl, q _ (I.hok.fresh (Nat.le_refl _))⟩
  exact ⟨by rw [List.length_reverse] <;> exact hz, _, r.reverse, IsTup.new _ _⟩
def tTurn (K : PySem.W.Frag) (te : TE) (tk : TO) : TE := fun σ H Q => te σ H fun x H1 => tk σ H1 fun k H2 => k = some (-1) ∧ ∃ a xs, x = .ref a ∧ SqT K H2 a xs ∧ ∀ p, H2 p = none → Q (.ref p) (upd H2 p (.tup xs.reverse))
theorem pe_turn (he : PE X e te) (hk : PO X (some ee) tk) : PE X (.Subscript e (.Slice none none (some ee) p2) pos) (tTurn X.K te tk) := by
  refine ⟨fun pins s σ H Q I h => Subscript_ (thn (he.run pins s σ H _ I h) fun v s1 ⟨x, H1, I1, r1, q1⟩ => ?_)⟩
  refine wpAny_Slice ?_
  rw [evalPart_none]
  refine wpAny_pure ?_
  refine wpAny_pure (thn (hk.run pins s1 σ H1 _ I1 q1) fun vk s3 ⟨k, H2, I3, pk, q2⟩ => ?_)
  obtain ⟨rfl, a, xs, rfl, hx, q⟩ := q2
  cases r1
  cases pk with
  | int i u =>
    have I4 : Inv X pins σ H2 { s3 with heap := s3.heap.push { cls := .type "slice", data := .fields #[.none, .none, .int (-1) u] } } := I3.kept (t' := s3.toks) fun b ob z => Heap.get?_push_of_some _ z
    obtain ⟨hT, hg⟩ := turn_read I4 (Heap.IsSliceOf.new ..) hx q
    exact tail_any (ops := [.ref a, .ref s3.heap.objs.size]) hT slot_tuple_getitem.lookup hg (by with_unfolding_all rfl)
end
/-! ### raise X(), X an own error with an __init__(self) that passes -/
def tMkO0 (C : Addr) : St → Hp → XK → Prop := fun _ H Q => Q (.ref C) none H
def sp_pass : Sp := fun vs H Q _ => ∃ a, vs = [.ref a] ∧ Q .non H
section
variable {X : Cx}
theorem mk_end00 {pins : List (Addr × Obj)} {σ : L2.St} {H1 : Hp} {hp hp2 h2 : Heap} {g1 g2 : Array GenState} {d1 d2 : Drawn} {t1 t2 : Nat} {os1 os2 : OsState} {a C : Addr} (I1 : Inv X pins σ H1 ⟨hp, g1, d1, t1, os1⟩)
    (ha : hp.objs.size ≤ a) (k : ∀ b o, hp.get? b = some o → hp2.get? b = some o) (un : Un (frs X.stack) [] (upd H1 a (exo a C none)) (upd H1 a (exo a C none)) hp2 h2) (hok : HOk X.prog X.w (upd H1 a (exo a C none)) h2) (ho : os2 = os1) (hb : AllBare g2) :
    ∃ (t0 : Addr) (G : Heap), Inv X pins σ H1 ⟨G, g2, d2, t2, os2⟩ ∧ (∀ b o, G.get? b = some o → h2.get? b = some o) ∧ G.get? a = none ∧
      h2.get? a = some ({ cls := .ref C, dict := none, data := .fields #[.ref t0, .none, .none, .none, .bool false, .none] } : Obj) := by
  have ea : (upd H1 a (exo a C none)) a = some (exo a C none) := upd_same
  obtain ⟨t0, hoe⟩ := exo_at hok ea
  have hn : H1 a = none := I1.hok.fresh ha
  obtain ⟨G, g1', g2'⟩ := restrict h2 fun b => decide (b ≠ a)
  have gk : ∀ b, b ≠ a → G.get? b = h2.get? b := fun b hb => g1' b (decide_eq_true hb)
  have ge : G.get? a = none := g2' a (by simp)
  have nha : ∀ {b : Addr} {o : Obj}, hp.get? b = some o → b ≠ a := fun {b o} z => Nat.ne_of_lt (Nat.lt_of_lt_of_le (Heap.lt_size z) ha)
  have up : ∀ {b : Addr}, b ≠ a → H1 b = none → upd H1 a (exo a C none) b = none := fun {b} hb n => by rw [upd_ne hb]; exact n
  have U : Un (frs X.stack) [] H1 H1 hp G := {
    keep := fun b o z n hf hx => by
      rw [gk b (nha z)]
      exact un.keep b o (k b o z) (up (nha z) n) hf hx
    slot := fun b o z n hf hx => by
      rw [gk b (nha z)]
      exact un.slot b o (k b o z) (up (nha z) n) hf hx
    free := fun b o z n hx => n
    there := fun b o z hx => by
      rw [gk b (nha z)]
      exact un.there b o (k b o z) hx
    tups := fun b xs z => z
    frzs := fun b o v z => z
    tbls := fun b ps z => ⟨#[], by simpa using z⟩ }
  have hok3 : HOk X.prog X.w H1 G := fun b o z => by
    have hba : b ≠ a := fun e => by
      rw [e, hn] at z
      cases z
    have z' : (upd H1 a (exo a C none)) b = some o := by rw [upd_ne hba]; exact z
    have noa : ∀ {c : Addr}, (upd H1 a (exo a C none)) c = some (.own b) → c ≠ a := fun {c} hc => at_ne ea hc exo_own
    exact (hok b o z').stay (fun c v hc y => by
        have hca : c ≠ a := by
          rcases hc with hc | hc
          · rw [hc]
            exact hba
          · exact noa hc
        rw [gk c hca]
        exact y)
      (fun c hc => by have q := hc; rw [upd_ne (noa hc)] at q; exact q) (fun c xs hc => by have q := hc; rw [upd_ne (at_ne ea hc exo_tup)] at q; exact q)
  have J : Inv X pins σ H1 ⟨G, g2, d2, t2, os2⟩ := I1.call' (ch := []) ho U hok3 hb (fun b z => absurd z (by simp))
  refine ⟨t0, G, J, fun b o z => ?_, ge, hoe⟩
  by_cases hba : b = a
  · rw [hba, ge] at z
    cases z
  · exact (gk b hba).symm.trans z
theorem pmk_oex0 {p pos : Pos} {CX : CXT} {x : Str} {C fI : Addr} {k : Nat} {fd : FuncData} {ps : List Str} (T : OexC X.K C) (iC : PySem.W.findIn X.K (.ref C) "__init__" = some (some (.ref fI))) (tI : PySem.W.typeIn X.K (.ref fI) = some (.type "function"))
    (F1 : FnOk X.prog X.w X.K X.mg X.base CX k fI fd ps sp_pass) (hr : Room (k + 1) X.A) (hb : Binds X.K fd ps []) (hx : Passes CX X (fun _ _ _ => False)) (hg : Gl X x) (hm : X.mg x = some (.ref C))
    (hdb : (x == ("__debug__" : Str)) = false := by decide) :
    PMk X (.Call (.Name x p) [] [] pos) (tMkO0 C) := by
  intro pins s σ H Q I h
  obtain ⟨nm, q, N, bs, bm, sn, sub, ab, col, dd, k0, k1, k2, k3, k5, hC, hbm⟩ := T.cls
  refine wpAny_Call_Name_kw (ld_glob I hg hm ?_ hdb)
  refine PySem.W.callWith_K0 I.kIn T.kC ?_
  show wpAny _ _ (call (.ref C) []) _ _ _
  obtain ⟨hp, g, dr, tk, os⟩ := s
  have hsz : hp.objs.size ≤ hp.objs.size + 1 := Nat.le_succ _
  have hn : H (hp.objs.size + 1) = none := I.hok.fresh hsz
  have kk : ∀ b o, hp.get? b = some o → ((hp.push (PySem.W.kdv_tup [])).push (PySem.HandSPX.excO C hp.objs.size)).get? b = some o := fun b o e => Heap.get?_push_of_some _ (Heap.get?_push_of_some _ e)
  have hget : ((hp.push (PySem.W.kdv_tup [])).push (PySem.HandSPX.excO C hp.objs.size)).get? (hp.objs.size + 1) = some (PySem.HandSPX.excO C hp.objs.size) := by heap_get
  have I2 : Inv X pins σ (upd H (hp.objs.size + 1) (exo (hp.objs.size + 1) C none)) ⟨(hp.push (PySem.W.kdv_tup [])).push (PySem.HandSPX.excO C hp.objs.size), g, dr, tk, os⟩ :=
    I.laid (t' := tk) (a := hp.objs.size + 1) (o := exo (hp.objs.size + 1) C none) (h' := (hp.push (PySem.W.kdv_tup [])).push (PySem.HandSPX.excO C hp.objs.size)) kk hsz (exo_ok hget)
  have r2 : Vals [V.ref (hp.objs.size + 1)] [Value.ref (hp.objs.size + 1)] := .cons rfl .nil
  have hq : sp_pass [V.ref (hp.objs.size + 1)] (upd H (hp.objs.size + 1) (exo (hp.objs.size + 1) C none)) (fun v H2 => v = .non ∧ H2 = upd H (hp.objs.size + 1) (exo (hp.objs.size + 1) C none)) (fun _ _ _ => False) := ⟨_, rfl, rfl, rfl⟩
  have hl : [Value.ref (hp.objs.size + 1)].length = ps.length := by
    have e := r2.length
    rw [F1.len _ _ _ _ hq] at e
    exact e.symm
  refine wpAny_call (PySem.HandSPX.call_own F.excBase_ValueError (fun Y => PySem.HandSPX.refsVE_contains Y bm hbm) (I.kIn _ _ hC) (PySem.W.looks_findIn I.kIn iC) (fun self => PySem.W.bind_fn I.kIn self tI) (by rw [sizeLine_eq]; exact Nat.zero_le _)
    (codeAny_mono (F1.run _ X.stack _ _ ⟨[Value.ref (hp.objs.size + 1)], []⟩ [Value.ref (hp.objs.size + 1)] _ _ (fun _ _ _ => False) (hr.make C [] []) (I2.env0.make C [] []) (hb _ [Value.ref (hp.objs.size + 1)] I2.kIn hl) r2 hq) fun r s' hq' => ?_))
  cases r with
  | error er => exact hx pins σ _ _ er s' I2 hq'
  | ok fl =>
    cases fl with
    | ret u =>
      obtain ⟨v, H2, os2, bare2, un2, hok2, rv, ev, eH⟩ := hq'
      subst ev
      subst eH
      obtain ⟨h2, g2, d2, t2, os'⟩ := s'
      obtain ⟨t0, G, J, kG, ge, hoe⟩ := mk_end00 (d2 := d2) (t2 := t2) I hsz kk un2 hok2 os2 bare2
      exact ⟨rv, hp.objs.size + 1, _, _, ⟨G, g2, d2, t2, os'⟩, _, .ref C, none, rfl, J, kG, ge, hoe, ⟨rfl, rfl⟩, rfl, rfl, hn, rfl, bare2, raises_own T.exC T.tyC, h⟩
    | next => exact False.elim hq'
    | brk => exact False.elim hq'
    | cont => exact False.elim hq'
end
/-! ### enumerate over a tuple -/
abbrev enO (it : Addr) : Obj := { cls := .type "enumerate", data := .fields #[.none, .bool false, .ref it, rawInt 0, .none, .none] }
set_option maxHeartbeats 1000000 in
theorem en_new {v : Value} {o : Obj} {Hd : Heap → Prop} (B : Begins v o Hd) :
    Meets (Builtin.«enumerate.__new__» ⟨[.type "enumerate", v], []⟩) (fun _ R s => Hd s.heap ∧ R (.ok (.ret (.ref (s.heap.push o).objs.size))) { s with heap := (s.heap.push o).push (enO s.heap.objs.size) }) := .of_wp fun prog w A R s h => by
  obtain ⟨hp, g, d, tk, os⟩ := s
  obtain ⟨h1, h2⟩ := h
  have su := sub_enumerate
  have go : ∀ {A' : Around} {E : Value → Shared → Prop} {Q : Value → Shared → Prop}, Q (.ref hp.objs.size) ⟨hp.push o, g, d, tk, os⟩ → wpAny (model prog w) A' (pyIter v) Q E ⟨hp, g, d, tk, os⟩ := fun q => B.iter prog w _ _ ⟨hp, g, d, tk, os⟩ _ h1 q
  wp_walk using go
  refine wpAny_stack_any fun st => wpAny_pure ?_
  split
  · rename_i c _ _ _ _ _
    cases (c == Value.type "enumerate") <;> (wp_walk using go; exact ⟨_, rfl, h2⟩)
  · wp_walk using go
    exact ⟨_, rfl, h2⟩
theorem en_call {prog : Program} {w : World} {A : Around} {E : Value → Shared → Prop} {s : Shared} {v : Value} {o : Obj} {Hd : Heap → Prop} {Q : Value → Shared → Prop} (B : Begins v o Hd) (h1 : Hd s.heap)
    (k : ∀ h', IsEnum h' (s.heap.objs.size + 1) s.heap.objs.size 0 .none → h'.get? s.heap.objs.size = some o → (∀ b u, s.heap.get? b = some u → h'.get? b = some u) → Q (.ref (s.heap.objs.size + 1)) { s with heap := h' }) :
    wpAny (model prog w) A (call (.type "enumerate") [v]) Q E s := by
  refine callType_new F.called_enumerate (by decide) (F.typeCall_enumerate_1 _) (F.newCall_enumerate_1 _) (fun obj => F.args_object_init_2 obj _) F.entry_enumerate_new (en_new B) ⟨h1, ?_⟩
  have z : (s.heap.push o).objs.size = s.heap.objs.size + 1 := Heap.size_push ..
  show _ ∧ _
  rw [z]
  have he : IsEnum ((s.heap.push o).push (enO s.heap.objs.size)) (s.heap.objs.size + 1) s.heap.objs.size 0 .none := by
    have y := Heap.get?_push_size (s.heap.push o) (o := enO s.heap.objs.size) rfl
    rw [z] at y
    exact y
  exact ⟨⟨_, he, rfl⟩, k _ he (Heap.get?_push_of_some _ (Heap.get?_push_size _ B.free)) fun b u x => Heap.get?_push_of_some _ (Heap.get?_push_of_some _ x)⟩
/-- the tuple at a, each item in a new pair behind its place -/
def Iet (K : PySem.W.Frag) (a : Addr) : It :=
  ⟨fun i H => ∃ (xs : List V) (x : V), SqT K H a xs ∧ xs[i]? = some x, fun i H v H' => ∃ T x, v = .ref T ∧ H T = none ∧ H' = upd H T (.tup [.int (i : Nat), x]) ∧ ∀ xs, SqT K H a xs → xs[i]? = some x, fun i H => ∃ xs : List V, SqT K H a xs ∧ xs.length ≤ i⟩
theorem tup_apart {h : Heap} {it a e : Addr} {i : Nat} {z : Int} {old : Value} {its : Array Value} (he : IsEnum h e it z old) (hi : h.IsTupleIter it a i) (hp : IsTup h a its) : a ≠ it ∧ e ≠ a := by
  obtain ⟨o, ho, hc, _⟩ := hi
  obtain ⟨u, hu, hv, _⟩ := hp
  constructor
  · intro y
    rw [y, ho] at hu
    cases hu
    rw [hc] at hv
    simp at hv
  · intro y
    have he' : h.get? e = some { cls := .type "enumerate", dict := none, data := .fields #[.none, .bool false, .ref it, rawInt z, .none, old], slots := #[] } := he
    rw [y, hu] at he'
    cases he'
    simp at hv
theorem en_end {prog : Program} {w : World} {A : Around} {E : Value → Shared → Prop} {s : Shared} {e it l : Addr} {i : Nat} {items : Array Value} {old : Value} {Q : Option Value → Shared → Prop} (hh : A.handled = none) (he : IsEnum s.heap e it i old) (hit : s.heap.IsTupleIter it l i) (hl : s.heap.IsTuple l items) (hx : items[i]? = none)
    (k : ∀ h', Heap.ExtBut it s.heap h' → Q none { s with heap := h' }) : wpAny (model prog w) A (pyNext (.ref e)) Q E s := by
  have ty : s.TypeIs (.ref e) "enumerate" := ⟨_, he, rfl⟩
  unfold pyNext
  refine wpAny_bind (wpAny_attempt (wpAny_callSpecial?_slot (name := Str.ofString "__next__") ty F.slot_enumerate_next (wpAny_call_entry F.slot_enumerate_next ty F.entry_enumerate_next ?_ (F.args_enumerate_next_1 _))))
  show wpAny _ _ (field (.ref e) 2 >>= _) _ _ _
  refine wpAny_bind (wpAny_field he rfl (x := .ref it) rfl (wpAny_bind (wpAny_nextOf_tuple_end hh hit hl hx fun h' x a b => ?_)))
  obtain ⟨o, ho, hc⟩ := b
  exact wpAny_bind (wpAny_isInstance (T := "StopIteration") (b := true) ⟨o, ho, hc⟩ isSubtype_stop (wpAny_pure (k _ a)))
theorem turn_enT {P : Program} {w : World} {K : PySem.W.Frag} {elts : List Expr} {kk : Nat} {tpos : Pos} (a e it : Addr) :
    Turn P w K (.Tuple elts kk tpos) (Iet K a) [e, it] e (fun i h => (∃ old, IsEnum h e it ((i : Nat) : Int) old) ∧ h.IsTupleIter it a i ∧ e ≠ it) where
  mem := by simp
  obj := fun i h st b hb => by
    obtain ⟨⟨old, he⟩, ⟨o, ho, hc, hd⟩, _⟩ := st
    rcases (show b = e ∨ b = it by simpa using hb) with z | z
    · rw [z]
      exact ⟨_, he, fun v q => nomatch q⟩
    · rw [z]
      exact ⟨o, ho, fun v q => by rw [hd] at q; cases q⟩
  keep := fun i h h' st k => ⟨⟨st.1.choose, k e (by simp) _ st.1.choose_spec⟩, st.2.1.at fun o q => k it (by simp) o q, st.2.2⟩
  item := by
    intro X hP hw hK hc i pins s σ H E I hf st hg
    subst hP hw hK
    obtain ⟨⟨old, he⟩, hit, hne⟩ := st
    obtain ⟨xs, x, hq, hx⟩ := hg
    obtain ⟨its, rv, p, hz⟩ := I.tuple hq
    obtain ⟨u, hu, ru⟩ := rv.get hx
    obtain ⟨ai, ea⟩ := tup_apart he hit p
    have hel : e < s.heap.objs.size := Heap.lt_size he
    have hil : it < s.heap.objs.size := by
      obtain ⟨_, q, _⟩ := hit
      exact Heap.lt_size q
    have hlt : i < its.toArray.size := by
      have := (List.getElem?_eq_some_iff.mp hu).1
      simpa using this
    refine wpAny_pyNext_enum_itemC (Draws.tuple (A := X.A.in1) (show X.A.in1.handled = none from I.ok.hd hc) it a ai its.toArray) he ⟨hit, p⟩ hlt hne (by simp [hne, ea]) fun y h' tk hP ho hst hT hsz hk => ?_
    have ey : y = u := by
      have hP' : its.toArray[i]? = some y := hP
      rw [show its.toArray[i]? = some u by simpa using hu] at hP'
      exact (Option.some.inj hP').symm
    subst ey
    refine ⟨_, rfl, wpAny_letOwnedTupleGo_enum (s := { s with heap := h', toks := tk + 1 }) ho fun h2 he2 sb => ?_⟩
    have hT2 : h2.get? s.heap.objs.size = some { cls := .type "tuple", data := .seq #[.int i tk, y] } := (sb.2 _ (Nat.ne_of_gt hel)).trans hT
    have new : ObjOk X.prog X.w (upd H s.heap.objs.size (.tup [.int (i : Nat), x])) h2 s.heap.objs.size (.tup [.int (i : Nat), x]) := ⟨by show 2 ≤ sizeLine; decide, [.int i tk, y], .cons ⟨_, rfl⟩ (.cons ru .nil), ⟨_, hT2, rfl, _, rfl⟩⟩
    have J : Inv X pins σ (upd H s.heap.objs.size (.tup [.int (i : Nat), x])) { s with heap := h2, toks := tk + 1 } :=
      I.turnedNew (ch := [e, it]) (t' := tk + 1) (fun b ob hb q => (sb.2 b (fun z => hb (by simp [z]))).trans (hk b ob (fun z => hb (by simp [z])) (fun z => hb (by simp [z])) q)) hf (Nat.le_refl _) new
    refine ⟨.ref s.heap.objs.size, _, J, rfl, ⟨_, x, rfl, I.hok.fresh (Nat.le_refl _), rfl, fun ys hy => by rw [I.tuple_inj hy hq]; exact hx⟩, ⟨⟨y, by rw [show ((i + 1 : Nat) : Int) = (i : Int) + 1 by omega]; exact he2⟩, hst.1.at fun o q => (sb.2 it (Ne.symm hne)).trans q, hne⟩, fun b hb => ?_⟩
    have hb' : b < s.heap.objs.size := by
      rcases (show b = e ∨ b = it by simpa using hb) with z | z <;> rw [z] <;> assumption
    rw [upd_ne (Nat.ne_of_lt hb')]
    exact (hf b hb).1
  done := by
    intro X hP hw hK hc i pins s σ H E I hf st hg
    subst hP hw hK
    obtain ⟨⟨old, he⟩, hit, hne⟩ := st
    obtain ⟨xs, hq, hx⟩ := hg
    obtain ⟨its, rv, p, hz⟩ := I.tuple hq
    obtain ⟨ai, _⟩ := tup_apart he hit p
    obtain ⟨f0, f1, f2, f3, f4, f5⟩ := hf it (by simp)
    have hl := rv.length
    have fin : its.toArray[i]? = none := by
      simp
      omega
    exact en_end (I.ok.hd hc) he hit p fin fun h' eb => ⟨rfl, I.turned (t' := s.toks) (fun b o hb q => eb b o hb q) f0 f1 f3 f4 f5⟩
  self := fun A i s Q E st h => wpAny_pyIter_enum st.1.choose_spec h
def iEnT (K : PySem.W.Frag) (ta : TA) : TI := fun σ H R => ta σ H fun vs H1 => ∃ a xs, vs = [.ref a] ∧ SqT K H1 a xs ∧ R (Iet K a) H1
theorem pi_enT {X : Cx} {e : Expr} {ta : TA} {p pos tpos : Pos} {elts : List Expr} {kk : Nat} (hg : Gl X "enumerate") (hm : X.mg "enumerate" = none) (ha : PA X [e] ta) (hs : starEach [e] X.env = [(false, eval e X.env)] := by rfl) :
    PI X (.Tuple elts kk tpos) (.Call (.Name "enumerate" p) [e] [] pos) (iEnT X.K ta) := ⟨fun pins s σ H R I h => by
  refine Call_ (ld_blt I hg hm boot_enumerate (PyProof.Rows.callWith_type1 (thn (ha.run pos pins s σ H _ I h) fun us s1 ⟨vs, H1, I1, r1, q1⟩ => ?_) hs rfl))
  obtain ⟨a, xs, ex, hq, q⟩ := q1
  subst ex
  cases r1 with
  | cons r rr =>
    cases rr
    cases r
    obtain ⟨its, rv, p', hz⟩ := I1.tuple hq
    refine en_call (begins_tuple a its.toArray) p' fun h' he hit hk => wpAny_pyIter_enum he ?_
    have I2 : Inv X pins σ H1 { s1 with heap := h' } := I1.kept (t' := s1.toks) hk
    refine ⟨s1.heap.objs.size + 1, [s1.heap.objs.size + 1, s1.heap.objs.size], _, _, H1, rfl, I2, turn_enT a (s1.heap.objs.size + 1) s1.heap.objs.size, ⟨⟨.none, he⟩, ⟨_, hit, rfl, rfl⟩, Nat.succ_ne_self _⟩, fun b hb => ?_, q⟩
    have hle : s1.heap.objs.size ≤ b := by
      rcases (show b = s1.heap.objs.size + 1 ∨ b = s1.heap.objs.size by simpa using hb) with z | z <;> rw [z]
      · exact Nat.le_add_right _ _
      · exact Nat.le_refl _
    exact I1.fpOk hle (I1.hok.fresh hle)⟩
theorem walk_enT {K : PySem.W.Frag} {a : Addr} {xs : List V} : Walk (Iet K a) xs.length (fun H => SqT K H a xs) (YPair (fun i => some (.int (i : Nat))) (fun i => xs[i]?)) :=
  ⟨fun i H hi h => ⟨xs, xs[i], h, List.getElem?_eq_getElem hi⟩, fun H h => ⟨xs, h, Nat.le_refl _⟩, fun i H x H' hi h y => by
    obtain ⟨T, u, e1, e2, e3, e4⟩ := y
    exact ⟨T, _, u, e1, e2, e3, rfl, e4 xs h⟩⟩
/-! ### a op b op c op d -/
def tChain3 (r r' r'' : R2) (ta tb tc td : TE) : TE := fun σ H Q => ta σ H fun x H1 => tb σ H1 fun y H2 => r x y H2 fun z H3 => ∃ k, z = .bl k ∧
  (if k = true then tc σ H3 fun u H4 => r' y u H4 fun z2 H5 => ∃ k2, z2 = .bl k2 ∧ (if k2 = true then td σ H5 fun v H6 => r'' u v H6 Q else Q (.bl false) H5) else Q (.bl false) H3)
theorem pe_chain3 {X : Cx} {a b c d : Expr} {ta tb tc td : TE} {pos : Pos} {op op' op2 : CmpOp} {r r' r'' : R2} (ho : OpR X (compareOp op) r) (ho' : OpR X (compareOp op') r') (ho2 : OpR X (compareOp op2) r'') (ha : PE X a ta) (hb : PE X b tb) (hc : PE X c tc) (hd : PE X d td)
    (hm : lastMarks [op, op', op2] [b, c, d] = false := by with_unfolding_all rfl) : PE X (.Compare a [op, op', op2] [b, c, d] pos) (tChain3 r r' r'' ta tb tc td) := ⟨fun pins s σ H Q I h => by
  refine Compare_chain (thn (ha.run pins s σ H _ I h) fun v s1 ⟨x, H1, I1, r1, q1⟩ => chain_link (thn (hb.run pins s1 σ H1 _ I1 q1) fun u s2 ⟨y, H2, I2, r2, q2⟩ => thn (ho pins s2 σ H2 x y v u _ I2 r1 r2 q2) fun e s3 ⟨z, H3, I3, r3, k, ez, q3⟩ => ?_)) hm
  subst ez
  cases r3
  refine wpAny_truthy_bool ?_
  cases k with
  | false => exact ite_ff ⟨.bl false, H3, I3, rfl, q3⟩
  | true =>
    refine ite_tt (chain_link (thn (hc.run pins s3 σ H3 _ I3 q3) fun u2 s4 ⟨y2, H4, I4, r4, q4⟩ => thn (ho' pins s4 σ H4 y y2 u u2 _ I4 r2 r4 q4) fun e2 s5 ⟨z2, H5, I5, r5, k2, ez2, q5⟩ => ?_))
    subst ez2
    cases r5
    refine wpAny_truthy_bool ?_
    cases k2 with
    | false => exact ite_ff ⟨.bl false, H5, I5, rfl, q5⟩
    | true => exact ite_tt (chain_last (thn (hd.run pins s5 σ H5 _ I5 q5) fun u3 s6 ⟨y3, H6, I6, r6, q6⟩ => ho2 pins s6 σ H6 y2 y3 u2 u3 Q I6 r4 r6 q6))⟩
/-! ### rules within a comprehension, the written part named -/
section
variable {X : Cx} {K : PySem.W.Frag}
theorem ix_tupB (h : X.K = K := by rfl) : IxR X (rIxT K) := h ▸ ix_tup
theorem ix_listB (h : X.K = K := by rfl) : IxR X (rIxL K) := h ▸ ix_list
theorem op_in_seqB (h : X.K = K := by rfl) : OpR X (compareOp .In) (rIn K false) := h ▸ op_in_seq
theorem op_notIn_seqB (h : X.K = K := by rfl) : OpR X (compareOp .NotIn) (rIn K true) := h ▸ op_notIn_seq
theorem call_isiB (h : X.K = K := by rfl) : CallR X (.builtin "isinstance") (rIsi K) := h ▸ call_isi
theorem call_len_seqB (h : X.K = K := by rfl) : CallR X (.builtin "len") (fun xs H Q => ∃ p ys, xs = [.ref p] ∧ (SqL K H p ys ∨ SqT K H p ys) ∧ Q (.int ys.length) H) := h ▸ call_len_seq
theorem op_eqDB (h : X.K = K) (hu : X.A.units + 64 < cLine) : OpR X (compareOp .Eq) (rEqD K) := h ▸ op_eqD hu
theorem op_neDB (h : X.K = K) (hu : X.A.units + 64 < cLine) : OpR X (compareOp .NotEq) (rNeD K) := h ▸ op_neD hu
end
/-! ### len(set(t)), t a tuple of ints -/
def tLenSetT (K : PySem.W.Frag) (ta : TE) : TE := fun σ H Q => ta σ H fun x H1 => ∃ (l : Addr) (ns : List Int), x = .ref l ∧ SqT K H1 l (ns.map V.int) ∧ ns.length ≤ 1000 ∧ ∀ m : List Int, m.Nodup → (∀ k, k ∈ m ↔ k ∈ ns) → Q (.int (m.length : Nat)) H1
theorem pe_lenSetT {X : Cx} {a : Expr} {ta : TE} {p p2 q pos : Pos} (hg : Gl X "len") (hm : X.mg "len" = none) (hg2 : Gl X "set") (hm2 : X.mg "set" = none) (ha : PE X a ta) (hc : X.calm = true := by rfl)
    (na : starEach [a] X.env = (false, eval a X.env) :: starEach [] X.env := by rfl) : PE X (.Call (.Name "len" p) [.Call (.Name "set" p2) [a] [] q] [] pos) (tLenSetT X.K ta) := ⟨fun pins s σ H Q I h => by
  refine Call_ (ld_blt I hg hm boot_len (PyProof.Rows.callWith_builtin1 (PyProof.Rows.args_cons (Call_ (ld_blt I hg2 hm2 boot_set (PyProof.Rows.callWith_type1 (PyProof.Rows.args_cons (thn (ha.run pins s σ H _ I h) fun v s1 ⟨x, H1, I1, r1, q1⟩ => PyProof.Rows.args_nil ?_) na) na rfl))) rfl) rfl rfl))
  obtain ⟨l, ns, rfl, hq, hl, k⟩ := q1
  cases r1
  obtain ⟨its, r, pt, hz⟩ := I1.tuple hq
  refine call_set_tupI ns (I1.ok.hd hc) (show s1.heap.IsTuple l its.toArray from pt) (ints_of_vals r) (by unfold scanBound; omega) fun h' tk c R hcn hk => PyProof.Rows.args_nil ?_
  obtain ⟨o, es, ep, t, ho, hex, hd, _, nd, hm3, hb, hf, hn, _⟩ := R
  have I2 : Inv X pins σ H1 { s1 with heap := h', toks := tk } := I1.kept fun b o e => hk b o e
  refine call_len_set ho hex hd hf (by unfold scanBound at hb; omega) ⟨.int ((es.toList.map keyOf).length : Nat), H1, I2.tok _, ⟨_, by rw [List.length_map, Array.length_toList]⟩, k _ nd fun j => ?_⟩
  rw [← hm3 j, decide_eq_true_eq]⟩
/-! ### t * k, k from 1 on -/
theorem tuple_mul_one (l : Addr) (items : Array Value) (n : Nat) (dd : Option Addr) (sl : Array (Option Value)) (u : Tok) :
    Meets (Builtin.«tuple.__mul__» ⟨[.ref l, .int 1 u], []⟩) (fun _ R s => s.heap.get? l = some { cls := .type "tuple", dict := dd, data := .seq items n, slots := sl } ∧ R (.ok (.ret (Value.ref l))) s) :=
  .of_wp fun prog w A R s h => by
    obtain ⟨hp, g, d, tk, os⟩ := s
    obtain ⟨hl, h⟩ := h
    have f1 := AutoSeq1.idx_int
    wp_walk using wpAny_loadPart' hl
    repeat (first
      | (refine wpAny_ite_false (decide_eq_false (by decide)) ?_; wp_walk using wpAny_loadPart' hl)
      | (refine wpAny_ite_true (decide_eq_true (by simp)) ?_; wp_walk using wpAny_loadPart' hl))
    exact ⟨_, rfl, h⟩
def rRep1 (K : PySem.W.Frag) : R2 := fun x y H Q => ∃ l k xs, x = .ref l ∧ y = .int k ∧ SqT K H l xs ∧ xs ≠ [] ∧ 1 ≤ k ∧ k ≤ 1000 ∧ xs.length ≤ 1000 ∧ (k = 1 → Q (.ref l) H) ∧ (2 ≤ k → ∀ p, H p = none → Q (.ref p) (upd H p (.tup (List.replicate k.toNat xs).flatten)))
theorem op_rep1 {X : Cx} : OpR X (binaryOp .Mult) (rRep1 X.K) := by
  intro pins s σ H x y v u Q I rx ry h
  obtain ⟨l, k, xs, rfl, rfl, hT, hne, h1, h2, hz, q1, q2⟩ := h
  by_cases hk : k = 1
  · subst hk
    cases rx
    obtain ⟨t, rfl⟩ := ry
    obtain ⟨its, r, ⟨⟨cls, dd, data, sl⟩, ho, hc, n, hd⟩, hs⟩ := I.tuple hT
    simp only at hc hd
    subst hc hd
    exact wpAny_binaryOp_repeat_ref (T := "tuple") (U := "int") (by decide) ⟨_, ho, rfl⟩ (fun s' => typeIs_int s' 1 t) noFill_tuple_mul F.fills_int_mul F.slot_int_rmul repeat_tuple F.slot_int_index.lookup
      (call_meets F.slot_int_rmul (typeIs_int s 1 t) F.entry_int_rmul (F.args_int_rmul_2 _ _) (int_rmul_tuple 1 t l its.toArray n dd sl)
        ⟨ho, rfl, ⟨_, ho, rfl⟩, call_meets F.slot_tuple_mul ⟨_, ho, rfl⟩ F.entry_tuple_mul (F.args_tuple_mul_2 _ _) (tuple_mul_one l its.toArray n dd sl t) ⟨ho, ⟨.ref l, H, I, rfl, q1 rfl⟩⟩⟩)
  · exact op_repT pins s σ H _ _ v u Q I rx ry ⟨l, k, xs, rfl, rfl, hT, hne, by omega, h2, hz, q2 (by omega)⟩
/-! ### max(xs, default=d) of whole numbers -/
abbrev mxW : String := "max.loop"
theorem mx_args (a d : Value) : argsOk "max" ⟨[a], [(Str.ofString "default", d)]⟩ := by unfold argsOk; kernel_rfl
theorem mx_name : (toString "max" ++ toString ".loop" : String) = mxW := by decide
section
variable {prog : Program} {w : World} {A : Around} {R : Result → Shared → Prop} {J : Addr} {fp wr : List Addr} {n : Nat} {P : Nat → Value → Prop} {St : Nat → Heap → Prop} {d : Value}
theorem mx_loop (W : Walks prog w A.in1 J fp wr n P St) (bt : Nat → Nat → Bool) (hc : CmpOf prog w A.in1 .Gt P bt) (B : Addr) (hB : B ∉ fp) : ∀ (k j : Nat) (s : Shared) (vb : Value) (c : Nat), n - (j + 1) = k → j + 1 ≤ n → St (j + 1) s.heap → P (argBest bt j) vb → s.heap.get? B = some { cls := .type "list", dict := none, data := .seq #[vb, vb] c, slots := #[] } →
    (∀ v h' tk, P (argBest bt (n - 1)) v → (∀ b o, b ∉ wr → b ≠ B → s.heap.get? b = some o → h'.get? b = some o) → R (.ok (.ret v)) { s with heap := h', toks := tk }) → codeAny (model prog w) A (.builtin mxW ⟨[.ref J, .none, .ref B], [(Str.ofString "default", d)]⟩) R s := by
  have hBw : B ∉ wr := fun h => hB (W.sub _ h)
  intro k
  induction k with
  | zero =>
    intro j s vb c hk hj hst hP hs hR
    have hin : j + 1 = n := by omega
    refine codeAny_builtin PySem.F.entry_max_loop ?_
    rw [Around.under_plainId PySem.F.plain_max_loop _]
    show wpAny _ A.in1 (seqItems? (.ref B) >>= _) _ _ s
    refine wpAny_bind (wpAny_seqItems hs rfl ?_)
    show wpAny _ A.in1 (tryCatch (pyNext (.ref J)) _ >>= _) _ _ s
    refine wpAny_bind (wpAny_tryCatch (W.done s _ _ (hin ▸ hst) fun h' tk kk => ?_))
    show wpAny _ A.in1 (updateSeq B (fun _ => #[]) >>= _) _ _ _
    refine wpAny_bind (wpAny_updateSeq (kk B _ hBw hs) rfl (wpAny_bind (wpAny_letGo (wpAny_pure ?_))))
    exact hR vb _ tk (by rw [← hin]; exact hP) fun b o h1 h2 e => (Heap.get?_update_other _ _ (Ne.symm h2)).trans (kk b o h1 e)
  | succ k ih =>
    intro j s vb c hk hj hst hP hs hR
    have hlt : j + 1 < n := by omega
    refine codeAny_builtin PySem.F.entry_max_loop ?_
    rw [Around.under_plainId PySem.F.plain_max_loop _]
    show wpAny _ A.in1 (seqItems? (.ref B) >>= _) _ _ s
    refine wpAny_bind (wpAny_seqItems hs rfl ?_)
    show wpAny _ A.in1 (tryCatch (pyNext (.ref J)) _ >>= _) _ _ s
    refine wpAny_bind (wpAny_tryCatch (W.item (j + 1) s _ _ hlt hst fun v h' tk hPv hst' kk => ?_))
    have hs' := kk B _ hBw hs
    show wpAny _ A.in1 (tryCatch (holding [v, v] (richCompare .Gt v vb >>= _)) _ >>= _) _ _ _
    refine wpAny_bind (wpAny_tryCatch (wpAny_holding (wpAny_bind (hc (j + 1) (argBest bt j) v vb _ _ _ hPv hP (wpAny_bind (wpAny_holding (wpAny_truthy_bool (wpAny_bind (wpAny_letGo (wpAny_pure ?_))))))))))
    cases hb : bt (j + 1) (argBest bt j) with
    | true =>
      simp only [if_true]
      refine wpAny_bind (wpAny_updateSeq hs' rfl (wpAny_bind (wpAny_letGo ?_)))
      rw [mx_name]
      refine wpAny_pure ⟨plainId_quiet PySem.F.plain_max_loop _, ih (j + 1) _ v _ (by omega) hlt (W.frame _ _ _ hst' fun b hbf o e => (Heap.get?_update_other _ _ (fun h : B = b => hB (by rw [h]; exact hbf))).trans e) (by simp only [argBest, hb, if_true]; exact hPv) (Heap.get?_update_self _ hs' rfl) fun v2 h2 tk2 hP2 kk2 => ?_⟩
      exact hR v2 h2 tk2 hP2 fun b o h1 h2 e => kk2 b o h1 h2 ((Heap.get?_update_other _ _ (Ne.symm h2)).trans (kk b o h1 e))
    | false =>
      simp only [Bool.false_eq_true, if_false]
      refine wpAny_bind (wpAny_letGo ?_)
      rw [mx_name]
      exact wpAny_pure ⟨plainId_quiet PySem.F.plain_max_loop _, ih (j + 1) _ vb c (by omega) hlt hst' (by simp only [argBest, hb, Bool.false_eq_true, if_false]; exact hP) hs' fun v2 h2 tk2 hP2 kk2 => hR v2 h2 tk2 hP2 fun b o h1 h2 e => kk2 b o h1 h2 (kk b o h1 e)⟩
end
theorem mx_raw {prog : Program} {w : World} {A : Around} {E : Value → Shared → Prop} {s : Shared} {l : Addr} {its : List Value} {ns : List Int} {d : Value} {Q : Value → Shared → Prop} (hh : A.handled = none) (hl : s.heap.IsList l its.toArray) (hi : IntsAre its ns)
    (h0 : ns = [] → ∀ h' tk, (∀ b o, s.heap.get? b = some o → h'.get? b = some o) → Q d { s with heap := h', toks := tk })
    (h1 : ∀ h' tk M t', (∀ b o, s.heap.get? b = some o → h'.get? b = some o) → M ∈ ns → (∀ a, a ∈ ns → a ≤ M) → Q (.int M t') { s with heap := h', toks := tk }) : wpAny (model prog w) A (call (.builtin "max") [.ref l] [(Str.ofString "default", d)]) Q E s := by
  obtain ⟨xs, e⟩ := hi.allInts.items
  have hn : numsOf (intItems xs).toList = ns := by rw [← e]; exact hi.numsOf
  rw [nums_intItems] at hn
  subst hn
  rw [e] at hl
  refine PyProof.Rows.kmk_tree PySem.F.kind_max PySem.F.plain_max PySem.F.entry_max (mx_args _ _) ?_
  show wpAny _ A.in1 (Builtin.Builtins.bindParams "max" ["key", "default"] 0 ⟨[], [(Str.ofString "default", d)]⟩ >>= _) _ _ s
  refine wpAny_bind (wpAny_of_eq (show Builtin.Builtins.bindParams "max" ["key", "default"] 0 ⟨[], [(Str.ofString "default", d)]⟩ = pure [none, some d] from rfl) (wpAny_bind (wpAny_pure (wpAny_bind (iter_intList hl fun s₂ e st hfp hlI => ?_)))))
  subst e
  refine wpAny_bind (wpAny_newList ?_ (Nat.zero_le _))
  rw [mx_name]
  have W := Walks.list (prog := prog) (w := w) (A := A.in1) hh s.heap.objs.size l hlI (intItems xs)
  generalize hz : s.heap.push { cls := .type "list_iterator", data := .fields #[.ref l, .int 0 0] } = hp1 at st hfp
  have hBf : hp1.objs.size ∉ [s.heap.objs.size, l] := fun hm => Nat.lt_irrefl _ (hfp _ hm)
  have up : ∀ b o, s.heap.get? b = some o → hp1.get? b = some o := fun b o e => by rw [← hz]; exact Heap.get?_push_of_some _ e
  refine wpAny_pure ⟨plainId_quiet PySem.F.plain_max_loop _, codeAny_builtin PySem.F.entry_max_loop ?_⟩
  rw [Around.under_plainId PySem.F.plain_max_loop _]
  have gS : (hp1.push (seqObj "list" #[] 0)).get? hp1.objs.size = some { cls := .type "list", dict := none, data := .seq #[] 0, slots := #[] } := Heap.get?_push_size _ rfl
  have st2 := W.frame 0 hp1 (hp1.push (seqObj "list" #[] 0)) st fun b _ o e => Heap.get?_push_of_some _ e
  have out : ∀ b o, s.heap.get? b = some o → b ∉ [s.heap.objs.size] ∧ b ≠ hp1.objs.size ∧ (hp1.push (seqObj "list" #[] 0)).get? b = some o := fun b o e => by
    have h1 := Heap.lt_size e
    have h2 := Heap.lt_size (up b o e)
    exact ⟨by simp; exact Nat.ne_of_lt h1, Nat.ne_of_lt h2, Heap.get?_push_of_some _ (up b o e)⟩
  show wpAny _ A.in1 (seqItems? (.ref hp1.objs.size) >>= _) _ _ _
  refine wpAny_bind (wpAny_seqItems gS rfl ?_)
  show wpAny _ A.in1 (tryCatch (pyNext (.ref s.heap.objs.size)) _ >>= _) _ _ _
  by_cases hne : xs.size = 0
  · have hx : xs.toList.map (·.1) = [] := by
      rw [List.map_eq_nil_iff]
      exact List.eq_nil_of_length_eq_zero (by rw [Array.length_toList]; exact hne)
    have hn0 : (intItems xs).size = 0 := by simpa [intItems] using hne
    have st3 : (hp1.push (seqObj "list" #[] 0)).IsListIter s.heap.objs.size l (intItems xs).size ∧ (hp1.push (seqObj "list" #[] 0)).IsList l (intItems xs) := by
      rw [hn0]
      exact st2
    refine wpAny_bind (wpAny_tryCatch (W.done _ _ _ st3 fun h' tk kk => ?_))
    show wpAny _ A.in1 (rule _ >>= _) _ _ _
    refine wpAny_bind (wpAny_rule (wpAny_pure ?_))
    exact h0 hx h' tk fun b o e => kk b o (out b o e).1 (out b o e).2.2
  · have hpos : 0 < (intItems xs).size := by
      have : (intItems xs).size = xs.size := by simp [intItems]
      omega
    have hBw : hp1.objs.size ∉ [s.heap.objs.size] := fun h => hBf (W.sub _ h)
    refine wpAny_bind (wpAny_tryCatch (W.item 0 _ _ _ hpos st2 fun v h' tk hP hst' kk => ?_))
    have hs' := kk _ _ hBw gS
    show wpAny _ A.in1 (updateSeq hp1.objs.size (fun _ => #[v, v]) >>= _) _ _ _
    refine wpAny_bind (wpAny_updateSeq hs' rfl ?_)
    rw [mx_name]
    refine wpAny_pure ⟨plainId_quiet PySem.F.plain_max_loop _, mx_loop W _ (CmpOf.ints_gt (numAt xs) (fun _ _ => intItems_at)) _ hBf _ 0 _ v _ rfl hpos (W.frame _ _ _ hst' fun b hbf o e => (Heap.get?_update_other _ _ (fun h => hBf (by rw [h]; exact hbf))).trans e) hP (Heap.get?_update_self _ hs' rfl) fun v2 h2 tk2 hP2 kk2 => ?_⟩
    have hv : (intItems xs)[argBest (fun i j => decide (numAt xs i > numAt xs j)) (xs.size - 1)]? = some v2 := by simpa [intItems] using hP2
    obtain ⟨t, rfl⟩ := intItems_at hv
    obtain ⟨g1, g2⟩ := argBest_gt (numAt xs) (xs.size - 1)
    refine h1 _ _ _ t (fun b o e => kk2 b o (out b o e).1 (out b o e).2.1 ((Heap.get?_update_other _ _ (Ne.symm (out b o e).2.1)).trans (kk b o (out b o e).1 (out b o e).2.2))) ?_ fun a ha => ?_
    · rw [numAt_eq]
      exact PySem.getD_mem (by rw [List.length_map, Array.length_toList]; omega)
    · obtain ⟨j, hj, rfl⟩ := mem_getD ha
      rw [List.length_map, Array.length_toList] at hj
      have := g2 j (by omega)
      rwa [numAt_eq] at this
def rMaxD (K : PySem.W.Frag) : List V → List V → Hp → VK → Prop := fun vs zs H Q => ∃ (a : Addr) (ns : List Int) (d : V), vs = [V.ref a] ∧ zs = [d] ∧ SqL K H a (ns.map V.int) ∧ (ns = [] → Q d H) ∧ ∀ M, M ∈ ns → (∀ k, k ∈ ns → k ≤ M) → Q (.int M) H
theorem cr_maxD {X : Cx} (hc : X.calm = true) : CallRK X (.builtin "max") [Str.ofString "default"] (rMaxD X.K) := by
  intro pins s σ H xs zs us ws Q I r1 r2 h
  obtain ⟨a, ns, d, rfl, rfl, hs, q0, q1⟩ := h
  obtain ⟨its, rv, hl, _⟩ := I.list hs
  rw [Vals.ref1 r1]
  cases r2 with
  | cons rd rn =>
    cases rn
    exact mx_raw (I.ok.hd hc) hl.isList rv.ints (fun e h' tk hk => ⟨d, H, I.kept hk, rd, q0 e⟩) fun h' tk m t' hk h1 h2 => ⟨.int _, H, I.kept hk, ⟨_, rfl⟩, q1 m h1 h2⟩
theorem pe_fldB {X : Cx} {K : PySem.W.Frag} {o : Expr} {to : TE} {f : Str} {pos : Pos} (h : X.K = K) (ho : PE X o to) (hb : attributeBase o f X.env (eval o X.env) = eval o X.env := by rfl) : PE X (.Attribute o f pos) (tFld K to f) := h ▸ pe_fld ho hb
/-! ### nothing is being shown around a law: repr -/
structure RoomG (k : Nat) (A : Around) : Prop where
  rm : Room k A
  gd : A.guards = some []
structure FnOkG (P : Program) (w : World) (K : PySem.W.Frag) (mg : Str → Option Value) (base : Heap)
    (CX : CXT) (k : Nat) (f : Addr) (fd : FuncData) (ps : List Str) (sp : Sp) : Prop where
  len : ∀ xs H Q E, sp xs H Q E → xs.length = ps.length
  run : ∀ (A : Around) (outer : List Env) (s : Shared) (H : Hp) (args : Args) (us : List Value) (xs : List V)
    (Q : VK) (E : XK), RoomG k A → Env0 P w K mg base A outer s H → BindsTo s fd args (ps.zip us) → Vals xs us →
    sp xs H Q E → codeAny (model P w) A (.call (.ref f) args) (CR CX outer P w H s Q E) s
section
variable {P : Program} {w : World} {K : PySem.W.Frag} {mg : Str → Option Value} {base : Heap}
theorem FnOk.toG {CX : CXT} {k : Nat} {f : Addr} {fd : FuncData} {ps : List Str} {sp : Sp}
    (F : FnOk P w K mg base CX k f fd ps sp) : FnOkG P w K mg base CX k f fd ps sp :=
  ⟨F.len, fun A outer s H args us xs Q E z => F.run A outer s H args us xs Q E z.rm⟩
set_option maxHeartbeats 4000000 in
theorem Fun.okG {x qual : Str} {st : Stmt} {f : Addr} {fd : FuncData} {N ps : List Str} {k : Nat} {sp : Sp}
    (F : Fun K x qual st f fd) (S : FnScope N ps (defScope st))
    (len : ∀ xs H Q E, sp xs H Q E → xs.length = ps.length)
    (hbody : ∀ (cdv : Value) (A : Around) (outer : List Env) (s : Shared) (H : Hp) (xs : List V) (Q : VK) (E : XK),
      RoomG k (A.deeper (envOfC qual (defScope st) s.heap.objs.size f cdv)) → sp xs H Q E →
      ∃ t, PSs (cxOf CX0 P w K mg base N qual (defScope st) f cdv A outer s H E).nox (defBody st) t ∧
        t { nx := fun _ G => Q .non G, rt := Q } (start N xs) H) :
    FnOkG P w K mg base CX0 (k + 1) f fd ps sp := by
  obtain ⟨oc, od, kV, doc, pm, an, cdv, ct, osl, rfl, lk, hcd⟩ := F.ex
  refine ⟨len, fun A outer s H args us xs Q E hr e0 hb r hsp => ?_⟩
  have hn := len _ _ _ _ hsp
  have inK : K.In s.heap := e0.mod.kin.keeps (fun a o q => (e0.bs a o q).1)
  have noL : s.heap.NoLimit := e0.mod.nolimit.keeps (fun a o q => (e0.bs a o q).1)
  have kinds : ∀ y ∈ ps.zip us, (defScope st).names.lookup y.1 = some .local ∨
      ((defScope st).names.lookup y.1 = some .cell ∧
        ((cellsFrom (s.heap.objs.size + 1) (defScope st).names []).lookup y.1).isSome = true) := by
    rintro ⟨n, v⟩ hy
    rcases S.par n (List.of_mem_zip hy).1 with q | q
    · exact .inl q
    · exact .inr ⟨q, PySem.W.cellsFrom_some (defScope st).names (s.heap.objs.size + 1) [] (.inl q)⟩
  refine codeAny_call_function hr.rm.depth (inK _ _ lk) rfl S.co S.gen rfl (PySem.W.codeRec_of inK hcd)
    (hb _ _ _ _ ?_)
  refine wpAny_newFunctionEnv_cells S.kind kinds fun env he s1 x => ?_
  subst he
  refine ⟨noL.keeps x.toInCall.keep, codeAny_func ?_⟩
  obtain ⟨t, ht, hq⟩ := hbody cdv A outer s H xs Q E ⟨hr.rm.deeper _, hr.gd⟩ hsp
  have ht' := ht.nox
  have J0 := inv_start (CX := CX0) (P := P) (w := w) (cd := cdv) (f := f) (qual := qual) (E := E) S hr.rm.hd e0 hn r x
  refine wpAny_mono (ht'.run [] s1 (start N xs) H _ J0 hq) (fun fl s' hs => ?_) fun e s' hs => hs
  have fin : ∀ {τ : St} {G : Hp} {y : V} {u : Value},
      Inv (cxOf CX0 P w K mg base N qual (defScope st) f cdv A outer s H E) [] τ G s' → RelV y u → Q y G →
      CE outer P w H s Q u s' := by
    intro τ G y u J ry q
    exact ⟨y, G, J.os, J.bare, J.base, J.hok, ry, q⟩
  cases fl with
  | ret u =>
    obtain ⟨y, τ, G, J, ry, q⟩ := hs
    exact fin J ry q
  | next =>
    obtain ⟨τ, G, J, q⟩ := hs
    exact fin (y := V.non) (u := Value.none) J rfl q
  | brk =>
    obtain ⟨_, _, _, q⟩ := hs
    exact q.elim
  | cont =>
    obtain ⟨_, _, _, q⟩ := hs
    exact q.elim
end
set_option maxHeartbeats 4000000 in
/-- a law's promise at its caller, where nothing is being shown -/
theorem law_callG {P : Program} {w : World} {K : PySem.W.Frag} {mg mb : Str → Option Value} {CX : CXT} {k : Nat}
    {fa a : Addr} {fd : FuncData} {x : Str} {sp : Sp} {s : Shared} {vs : List Value} {ns : List Int}
    (kx : K.In s.heap) (hns : s.heap.Ns mainGlobals mg) (hb : s.heap.Ns builtinsNs mb)
    (hbb : ∀ x : Str, x ≠ "__name__" → mb x = bootBuiltins x) (hlim : s.heap.NoLimit) (hg : s.gens = #[])
    (ha : s.heap.get? a = some { cls := .type "list", data := .seq vs.toArray }) (hi : IntsAre vs ns)
    (hl : ns.length ≤ sizeLine) (hr : Room k callerA)
    (F : ∀ base : Heap, K.In base → base.Ns mainGlobals mg → FnOkG P w K mg base CX k fa fd [x] sp)
    (hbind : ∀ (t : Shared) (u : Value), BindsTo t fd ⟨[u], []⟩ [(x, u)])
    (hsp : ∀ H : Hp, Only H → SqL K H a (ns.map V.int) → sp [.ref a] H (fun v _ => v = .bl true) fun _ _ _ => False)
    (hCX : ∀ H e t, CX [] H s (fun _ _ _ => False) e t → False) :
    codeAny (model P w) callerA (.call (.ref fa) ⟨[.ref a], []⟩)
      (fun r t => r = .ok (.ret (.bool true)) ∧ OldK s.heap t.heap ∧ t.os = s.os ∧ AllBare t.gens) s := by
  have rv := vals_ints hi
  have lenV := hi.length
  have core : ∀ H : Hp, Only H → SqL K H a (ns.map V.int) → HOk P w H s.heap → (∀ b, H b ≠ none → b = a) →
      (H a ≠ none → K.lookup a = none) → codeAny (model P w) callerA (.call (.ref fa) ⟨[.ref a], []⟩)
      (fun r t => r = .ok (.ret (.bool true)) ∧ OldK s.heap t.heap ∧ t.os = s.os ∧ AllBare t.gens) s := by
    intro H hO hS hok hA hK
    have noA : ∀ {b : Addr} {o : Obj} {es : Array DictEntry} {ep : Nat}, s.heap.get? b = some o →
        o.data = .dict es ep → H b = none := by
      intro b o es ep e d
      cases q : H b with
      | none => rfl
      | some u =>
        obtain rfl : b = a := hA b (by rw [q]; exact fun z => nomatch z)
        rw [ha] at e
        cases e
        exact nomatch (show Data.seq vs.toArray _ = Data.dict es ep from d)
    have nsK : ∀ {b : Addr} {m : Str → Option Value}, s.heap.Ns b m → (hidT s.heap H).Ns b m := by
      rintro b m ⟨o, es, ep, e, d, r⟩
      exact ⟨o, es, ep, hidT_get e (noA e d), d, r⟩
    have hKb : K.In (hidT s.heap H) := by
      intro b o e
      refine hidT_get (kx b o e) ?_
      cases q : H b with
      | none => rfl
      | some u =>
        obtain rfl : b = a := hA b (by rw [q]; exact fun z => nomatch z)
        rw [hK (by rw [q]; exact fun z => nomatch z)] at e
        exact nomatch e
    have hM : Mod K mg (hidT s.heap H) := by
      obtain ⟨mc, h1, h2⟩ := hlim
      exact ⟨hKb, nsK hns, ⟨mb, nsK hb, hbb⟩, mc, nsK h1, h2⟩
    have e0 : Env0 P w K mg (hidT s.heap H) callerA [] s H :=
      ⟨rfl, hM, fun _ _ e => of_hidT e, Nat.le_of_eq (hidT_size _ _), trivial, fun b z => (nomatch z), hok, .of_eq hg⟩
    have go := (F _ hKb (nsK hns)).run callerA [] s H ⟨[.ref a], []⟩ [.ref a] [.ref a] _ _ ⟨hr, rfl⟩ e0
      (hbind s (.ref a)) (.cons rfl .nil) (hsp H hO hS)
    refine codeAny_mono go fun r t h => ?_
    cases r with
    | error e => exact (hCX H e t h).elim
    | ok fl =>
      cases fl with
      | next => exact h.elim
      | brk => exact h.elim
      | cont => exact h.elim
      | ret u =>
        obtain ⟨y, G, os, bare, un, hok', ry, q⟩ := h
        obtain rfl : y = .bl true := q
        obtain rfl : u = Value.bool true := ry
        refine ⟨rfl, OldK.of_keep fun b o e => ?_, os, bare⟩
        cases q : H b with
        | none => exact un.keep b o e q (fun z => (nomatch z)) (by simp)
        | some u =>
          rcases hO b with z | ⟨ob, xs, z⟩
          · rw [q] at z
            exact nomatch z
          · obtain ⟨e1, _⟩ := hok b _ z
            obtain ⟨e2, _⟩ := hok' b _ (un.frzs b ob _ z)
            rw [e] at e1
            cases e1
            exact e2
  cases hk : K.lookup a with
  | some o =>
    have e := kx a o hk
    rw [ha] at e
    cases e
    refine core (fun _ => none) (fun _ => .inl rfl) (.inr ⟨_, vs.toArray, _, hk, rfl, rfl, rfl, ?_, ?_⟩)
      (fun b u z => nomatch (show (none : Option HO) = some u from z)) (fun b z => absurd rfl z) fun z => absurd rfl z
    · rw [List.size_toArray, lenV]
      exact hl
    · simpa using rv
  | none =>
    let ob : Obj := { cls := .type "list", data := .seq vs.toArray }
    refine core (fun b => if b = a then some (.frz ob (.lst (ns.map V.int))) else none) (fun b => ?_)
      (.inl (.inr ⟨ob, if_pos rfl⟩)) (fun b u z => ?_) (fun b z => ?_) fun _ => hk
    · by_cases hb : b = a
      · exact .inr ⟨_, _, if_pos hb⟩
      · exact .inl (if_neg hb)
    · by_cases hb : b = a
      · cases (if_pos hb).symm.trans z
        subst hb
        exact ⟨ha, by rw [List.length_map]; exact hl, vs, _, rv, ha⟩
      · exact nomatch (if_neg hb).symm.trans z
    · by_cases hb : b = a
      · exact hb
      · exact absurd (if_neg hb) z
theorem walk_ofG {l : PySem.W.OpenLaw} {n k : Nat} {q : Program} {loose : List Str}
    {XP : (Str → Option Value) → Heap → Prop} {YP : World → Heap → Prop} {d : DefRec} {K : Params → PySem.W.Frag}
    {CX : World → CXT} {sp : World → Sp} {x : Str} (hn : l.most = some n) (hz : n ≤ sizeLine)
    (hdf : d.params.defaults = []) (hr : Room k callerA) (hY : ∀ (w : World) (h : Heap), YP w h → (K w.params).In h)
    (F : ∀ (w : World) (mg : Str → Option Value) (fa : Addr) (h : Heap), (K w.params).In h → h.Ns mainGlobals mg →
      mg d.name = some (.ref fa) → ∃ fd : FuncData, (∀ (t : Shared) (u : Value), BindsTo t fd ⟨[u], []⟩ [(x, u)]) ∧
        ∀ base : Heap, (K w.params).In base → base.Ns mainGlobals mg →
          FnOkG l.prog w (K w.params) mg base (CX w) k fa fd [x] (sp w))
    (hsp : ∀ (w : World) (H : Hp) (a : Addr) (ns : List Int), ns.length ≤ n → Only H →
      SqL (K w.params) H a (ns.map V.int) → sp w [.ref a] H (fun v _ => v = .bl true) fun _ _ _ => False)
    (hCX : ∀ (w : World) (H : Hp) (s : Shared) (e : Value) (t : Shared), CX w [] H s (fun _ _ _ => False) e t → False) :
    PySem.W.WalkO q loose XP YP l.row.toRowW d [] (fun f vs => PySem.call f vs) := by
  refine Att.attach_call hn hdf fun w s₀ s mg mb fa o pm cd doc a vs ns G Y ho hd hcd hmg hobj hints hlen hg => ?_
  obtain ⟨fd, hb, hF⟩ := F w mg fa s.heap (hY w _ Y) G.T.g hmg
  exact law_callG (hY w _ Y) G.T.g G.T.b G.T.builtins G.T.nolimit hg hobj hints (Nat.le_trans hlen hz) hr hF hb
    (fun H hO hS => hsp w H a ns hlen hO hS) fun H e t => hCX w H s e t
/-- repr of data without dicts -/
def rRepr (K : PySem.W.Frag) : List V → Hp → VK → Prop := fun xs H Q => ∃ v d, xs = [v] ∧ Dp K H v d ∧
  d.showable = true ∧ d.hasDict = false ∧ d.depth ≤ 60 ∧ d.shown.length ≤ sizeLine ∧ Q (.str d.shown) H
theorem cr_repr {X : Cx} {K : PySem.W.Frag} (hK : X.K = K) (hg : X.A.guards = some []) (hu : X.A.units + 64 < cLine) :
    CallR X (.builtin "repr") (rRepr K) := by
  subst hK
  intro pins s σ H xs us Q I r h
  obtain ⟨v, d, rfl, hd, h1, h2, h3, h4, q⟩ := h
  cases r with
  | cons rv rt =>
    rename_i u ut
    cases rt
    obtain ⟨as, rd⟩ := Dp.reads I d v u hd rv
    cases hd with
    | non =>
      cases rv
      exact PySem.P.repr_of_none ⟨.str _, H, I.tok _, ⟨_, rfl⟩, by simpa only [PyData.shown] using q⟩
    | bl b =>
      cases rv
      exact PySem.P.repr_of_bool ⟨.str _, H, I.tok _, ⟨_, rfl⟩, by simpa only [PyData.shown] using q⟩
    | int i =>
      obtain ⟨t, rfl⟩ := rv
      exact PySem.P.repr_of_int (by simpa [PyData.showable] using h1)
        ⟨.str _, H, I.tok _, ⟨_, rfl⟩, by simpa only [PyData.shown] using q⟩
    | str x =>
      obtain ⟨t, rfl⟩ := rv
      exact PySem.P.repr_of_str ⟨.str _, H, I.tok _, ⟨_, rfl⟩, by simpa only [PyData.shown] using q⟩
        (by simpa only [PyData.shown] using h4)
    | lst hs ha =>
      cases rv
      exact repr_of_reads' rd h1 (PyData.noDict_hsm h2) hg (by omega) (fun _ _ e => e)
        (fun h' u tk hk => ⟨.str _, H, I.kept hk, ⟨_, rfl⟩, q⟩) h4
    | tup hs ha =>
      cases rv
      exact repr_of_reads' rd h1 (PyData.noDict_hsm h2) hg (by omega) (fun _ _ e => e)
        (fun h' u tk hk => ⟨.str _, H, I.kept hk, ⟨_, rfl⟩, q⟩) h4
theorem Room.u65 {k : Nat} {A : Around} (r : Room k A) : A.units + 65 < cLine := by
  have := r.un
  omega
/-! ### a thing in a list of tuples, the thing a dict among others -/
theorem dict_no_tuple (l b : Addr) (es : Array DictEntry) (items : Array Value) (n ep : Nat) (dd dd2 : Option Addr) (sl sl2 : Array (Option Value)) :
    Meets (Builtin.«dict.__eq__» ⟨[.ref l, .ref b], []⟩) (fun _ R s => s.heap.get? l = some { cls := .type "dict", dict := dd, data := .dict es ep, slots := sl } ∧
      s.heap.get? b = some { cls := .type "tuple", dict := dd2, data := .seq items n, slots := sl2 } ∧ R (.ok (.ret .notImplemented)) s) :=
  .of_wp fun prog w A R s h => by
    obtain ⟨hp, g, d, tk, os⟩ := s
    obtain ⟨hl, hb, h⟩ := h
    have f1 := PySem.F.sub_tuple_dict
    wp_walk using wpAny_loadPart' hl, wpAny_loadPart' hb
    exact ⟨_, rfl, h⟩
theorem tuple_no_dict (l b : Addr) (es : Array DictEntry) (items : Array Value) (n ep : Nat) (dd dd2 : Option Addr) (sl sl2 : Array (Option Value)) :
    Meets (Builtin.«tuple.__eq__» ⟨[.ref l, .ref b], []⟩) (fun _ R s => s.heap.get? l = some { cls := .type "tuple", dict := dd, data := .seq items n, slots := sl } ∧
      s.heap.get? b = some { cls := .type "dict", dict := dd2, data := .dict es ep, slots := sl2 } ∧ R (.ok (.ret .notImplemented)) s) :=
  .of_wp fun prog w A R s h => by
    obtain ⟨hp, g, d, tk, os⟩ := s
    obtain ⟨hl, hb, h⟩ := h
    have f1 := PySem.F.sub_dict_tuple
    wp_walk using wpAny_loadPart' hl, wpAny_loadPart' hb
    exact ⟨_, rfl, h⟩
open SeqAt in
theorem rc_tuple_dict {A : Around} {s : Shared} {l b : Addr} {o : Obj} {es : Array DictEntry} {ep : Nat} {items : Array Value} (hl : s.heap.IsTuple l items)
    (ho2 : s.heap.get? b = some o) (hx : o.ExactDict) (hdt : o.data = .dict es ep) (hu : A.units < cLine) : l ≠ b ∧ RcAt A s (.ref l) (.ref b) false := by
  obtain ⟨⟨cls, dd, data, sl⟩, ho, hc, n, hd⟩ := id hl
  obtain ⟨cls2, dd2, data2, sl2⟩ := o
  obtain ⟨hc2, hdd, hsl⟩ := hx
  simp only at hc hd hc2 hdt
  subst hc hd hc2 hdt
  have hne : l ≠ b := fun e => by
    subst e
    exact absurd (congrArg Obj.cls (Option.some.inj (ho.symm.trans ho2))) (by simp)
  refine ⟨hne, fun prog w E Q h => ?_⟩
  exact rc_eq_decline_or (k := false) ⟨_, ho, rfl⟩ ⟨_, ho2, rfl⟩ (by decide) PySem.F.sub_dict_tuple PySem.F.slot_tuple_eq PySem.F.slot_dict_eq_refl
    (fun _ hq => call_meets PySem.F.slot_tuple_eq ⟨_, ho, rfl⟩ PySem.F.entry_tuple_eq (PySem.F.args_tuple_eq_2 _ _) (tuple_no_dict l b es items n ep dd dd2 sl sl2) ⟨ho, ho2, hq⟩)
    (fun _ hq => call_meets PySem.F.slot_dict_eq_refl ⟨_, ho2, rfl⟩ PySem.F.entry_dict_eq (PySem.F.args_dict_eq_2 _ _) (dict_no_tuple b l es items n ep dd2 dd sl2 sl) ⟨ho2, ho, hq⟩)
    (fun _ hq => wpAny_isSame_ref_other' hne ho ho2 (by simp) hq) (.inr hu) h
/-- x in a list of tuples: x a dict, or data -/
def rInM (K : PySem.W.Frag) : R2 := fun x y H Q => rInD K x y H Q ∨ ∃ (a p : Addr) (kvs : List (Key × V)) (as : List Addr), x = .ref a ∧ y = .ref p ∧ H a = some (.dK kvs) ∧ SqL K H p (as.map V.ref) ∧ (∀ t ∈ as, ∃ zs, SqT K H t zs) ∧ Q (.bl false) H
theorem op_inM {X : Cx} {K : PySem.W.Frag} (hK : X.K = K) (hu : X.A.units + 65 < cLine) : OpR X (compareOp .In) (rInM K) := by
  subst hK
  intro pins s σ H x y v u Q I rx ry h
  rcases h with h | ⟨a, p, kvs, as, rfl, rfl, ha, hp, ht, q⟩
  · exact op_inD hu pins s σ H x y v u Q I rx ry h
  · cases rx
    cases ry
    obtain ⟨its, rv, ⟨o, n, ho, hc, _, hd⟩, _⟩ := I.list hp
    obtain ⟨_, _, vs, _, od, es, ep, e1, e2, e3, _⟩ := I.hok a _ ha
    refine SeqAt.in_listAt (items := its.toArray) (fun _ => false) ⟨o, ho, hc, n, hd⟩ (fun y hy => ?_) ?_
    · have hm : y ∈ its := by simpa using hy
      obtain ⟨i, hi, e⟩ := List.mem_iff_getElem.mp hm
      have hl := rv.length
      rw [List.length_map] at hl
      have hia : i < as.length := by omega
      obtain ⟨u, hu1, hu2⟩ := rv.get (i := i) (x := .ref as[i]) (by rw [List.getElem?_map, List.getElem?_eq_getElem hia] <;> rfl)
      rw [List.getElem?_eq_getElem hi, e] at hu1
      cases hu1
      cases hu2
      obtain ⟨zs, hz⟩ := ht _ (List.getElem_mem hia)
      obtain ⟨its2, _, hT, _⟩ := I.tuple hz
      obtain ⟨hne, hr⟩ := rc_tuple_dict (A := X.A.in1) (s := s) (l := as[i]) (b := a) hT e1 e2 e3 (by show X.A.units + 1 < cLine; omega)
      exact .of_refs hne hr
    · have e : (its.toArray.any fun _ => false) = false := by simp
      exact ⟨.bl _, H, I, by rw [e] <;> rfl, q⟩
/-! ### things told whole: lists and dicts with what is in them -/
def keyD : Key → PyData
  | .inl i => .int i
  | .inr x => .str x
mutual
inductive Tg (K : PySem.W.Frag) (H : Hp) : V → PyData → Prop
  | non : Tg K H .non .none
  | bl (b : Bool) : Tg K H (.bl b) (.bool b)
  | int (i : Int) : Tg K H (.int i) (.int i)
  | str (x : Str) : Tg K H (.str x) (.str x)
  | lst {a : Addr} {xs : List V} {ds : List PyData} : SqL K H a xs → TgAll K H xs ds → Tg K H (.ref a) (.list ds)
  | tup {a : Addr} {xs : List V} {ds : List PyData} : SqT K H a xs → TgAll K H xs ds → Tg K H (.ref a) (.tuple ds)
  | dic {a : Addr} {kvs : List (Key × V)} {ds : List PyData} : H a = some (.dK kvs) → TgAll K H (kvs.map (·.2)) ds → Tg K H (.ref a) (.dict ((kvs.map fun kv => keyD kv.1).zip ds))
inductive TgAll (K : PySem.W.Frag) (H : Hp) : List V → List PyData → Prop
  | nil : TgAll K H [] []
  | cons {v : V} {vs : List V} {d : PyData} {ds : List PyData} : Tg K H v d → TgAll K H vs ds → TgAll K H (v :: vs) (d :: ds)
end
theorem TgAll.length {K : PySem.W.Frag} {H : Hp} : ∀ {vs : List V} {ds : List PyData}, TgAll K H vs ds → vs.length = ds.length
  | _, _, .nil => rfl
  | _, _, .cons _ r => congrArg (· + 1) r.length
mutual
/-- no list, no dict in it -/
def afD : PyData → Bool
  | .list _ => false
  | .dict _ => false
  | .tuple xs => afAll xs
  | _ => true
def afAll : List PyData → Bool
  | [] => true
  | x :: r => afD x && afAll r
end
mutual
/-- no dict in a list, nothing that may change in a dict -/
def dlD : PyData → Bool
  | .list xs => !PyData.hasDictAll xs
  | .dict kvs => afAll (kvs.map (·.2))
  | .tuple xs => dlAll xs
  | _ => true
def dlAll : List PyData → Bool
  | [] => true
  | x :: r => dlD x && dlAll r
end
theorem key_read {h : Heap} {k : Key} {v : Value} (p : keyIs k v = true) : Reads h v (keyD k) [] := by
  rcases keyIs_shape p with ⟨i, t, e1, e2⟩ | ⟨x, t, e1, e2⟩
  · rw [e1, e2]
    exact .int i t
  · rw [e1, e2]
    exact .str x t
theorem readsAll_one {h : Heap} {v : Value} {d : PyData} {vs : List Value} {ds : List PyData} (a : Reads h v d []) (b : ReadsAll h vs ds []) : ReadsAll h (v :: vs) (d :: ds) [] := by
  have := ReadsAll.cons a b
  simpa using this
theorem keys_read {P : Program} {w : World} {h : Heap} : ∀ {es : List DictEntry} {kvs : List (Key × V)} {vs : List (Key × Value)}, KV kvs vs → Pairs (mixKind P w) es vs →
    ReadsAll h (es.map (·.key)) (kvs.map fun kv => keyD kv.1) [] ∧ es.map (·.val) = vs.map (·.2) ∧ Vals (kvs.map (·.2)) (vs.map (·.2)) ∧ es.length = kvs.length
  | _, _, _, .nil, .nil => ⟨.nil, rfl, .nil, rfl⟩
  | _, _, _, .cons q r, .cons p p2 s => by
    obtain ⟨i1, i2, i3, i4⟩ := keys_read (h := h) r s
    obtain ⟨q1, q2⟩ := q
    rename_i a b l1 l2 e es
    have hk : Reads h e.key (keyD a.1) [] := by
      rw [q1]
      exact key_read p
    refine ⟨readsAll_one hk i1, ?_, .cons q2 i3, ?_⟩
    · rw [List.map_cons, List.map_cons, i2, p2]
    · rw [List.length_cons, List.length_cons, i4]
theorem zip_fst {α β : Type} : ∀ {l : List α} {m : List β}, l.length = m.length → (l.zip m).map (·.1) = l
  | [], [], _ => rfl
  | a :: l, b :: m, h => by
    rw [List.zip_cons_cons, List.map_cons, zip_fst (by simpa using h)]
theorem zip_snd {α β : Type} : ∀ {l : List α} {m : List β}, l.length = m.length → (l.zip m).map (·.2) = m
  | [], [], _ => rfl
  | a :: l, b :: m, h => by
    rw [List.zip_cons_cons, List.map_cons, zip_snd (by simpa using h)]
section
variable {X : Cx} {pins : List (Addr × Obj)} {σ : St} {H : Hp} {s : Shared}
mutual
theorem Tg.reads (I : Inv X pins σ H s) : ∀ {v : V} {d : PyData} {u : Value}, Tg X.K H v d → RelV v u → ∃ as, Reads s.heap u d as ∧ (afD d = true → as = [])
  | _, _, _, .non, r => by
    cases r
    exact ⟨_, .none, fun _ => rfl⟩
  | _, _, _, .bl b, r => by
    cases r
    exact ⟨_, .bool b, fun _ => rfl⟩
  | _, _, _, .int i, r => by
    obtain ⟨t, rfl⟩ := r
    exact ⟨_, .int i t, fun _ => rfl⟩
  | _, _, _, .str x, r => by
    obtain ⟨t, rfl⟩ := r
    exact ⟨_, .str x t, fun _ => rfl⟩
  | _, _, _, .lst hs ha, r => by
    cases r
    obtain ⟨its, rv, ⟨o, n, ho, hc, _, hd⟩, _⟩ := I.list hs
    obtain ⟨as, hr, _⟩ := TgAll.reads I ha rv
    exact ⟨_, .list ho hc hd hr, fun z => nomatch z⟩
  | _, _, _, .tup hs ha, r => by
    cases r
    obtain ⟨its, rv, ⟨o, ho, hc, n, hd⟩, _⟩ := I.tuple hs
    obtain ⟨as, hr, hf⟩ := TgAll.reads I ha rv
    exact ⟨_, .tuple ho hc hd hr, hf⟩
  | _, _, _, .dic hs ha, r => by
    cases r
    obtain ⟨_, _, vs, kv, o, es, ep, e1, ⟨e2, _⟩, e3, _, e4, _⟩ := I.hok _ _ hs
    obtain ⟨k1, k2, k3, k4⟩ := keys_read (h := s.heap) kv e4
    obtain ⟨as, hr, _⟩ := TgAll.reads I ha k3
    have hl := ha.length
    rw [List.length_map] at hl
    refine ⟨_, .dict e1 e2 e3 (as := []) (bs := as) ?_ ?_, fun z => nomatch z⟩
    · rw [zip_fst (by rw [List.length_map]; exact hl)]
      exact k1
    · rw [zip_snd (by rw [List.length_map]; exact hl), k2]
      exact hr
theorem TgAll.reads (I : Inv X pins σ H s) : ∀ {vs : List V} {ds : List PyData} {us : List Value}, TgAll X.K H vs ds → Vals vs us → ∃ as, ReadsAll s.heap us ds as ∧ (afAll ds = true → as = [])
  | _, _, _, .nil, r => by
    cases r
    exact ⟨_, .nil, fun _ => rfl⟩
  | _, _, _, .cons h1 h2, r => by
    cases r with
    | cons r1 r2 =>
      obtain ⟨as, q1, f1⟩ := Tg.reads I h1 r1
      obtain ⟨bs, q2, f2⟩ := TgAll.reads I h2 r2
      refine ⟨_, .cons q1 q2, fun z => ?_⟩
      simp only [afAll, Bool.and_eq_true] at z
      rw [f1 z.1, f2 z.2]
      rfl
end
/-- what is needed to show it -/
def Shows (P : Program) (w : World) (h : Heap) (u : Value) (d : PyData) : Prop := (∃ as, Reads h u d as) ∧ ∃ bs, ReadAtMost h d.depth bs ∧ ReprK P w bs h d.depth u d.shown
mutual
theorem Tg.shows (I : Inv X pins σ H s) : ∀ {v : V} {d : PyData} {u : Value}, Tg X.K H v d → RelV v u → dlD d = true → d.showable = true → d.shown.length ≤ sizeLine → Shows X.prog X.w s.heap u d
  | _, _, _, .tup (a := a) (ds := ds) hs ha, r, hd, hw, hz => by
    obtain ⟨as, rd, _⟩ := Tg.reads I (.tup hs ha) r
    cases r
    obtain ⟨its, rv, ⟨o, ho, hc, n, hdt⟩, _⟩ := I.tuple hs
    have hz' : (tupleText (PyData.shownAll ds)).length ≤ sizeLine := by simpa only [PyData.shown] using hz
    obtain ⟨bs, hb, hk⟩ := TgAll.shows I ha rv (by simpa [dlD] using hd) (by simpa [PyData.showable] using hw) (fun t ht => Nat.le_trans (tupleText_mem_le ht) hz')
    have hna : a ∉ bs := not_mem_of_deeper rd (by simp only [PyData.depth]; omega) hb
    refine ⟨⟨_, rd⟩, a :: bs, ReadAtMost.cons rd (by simp only [PyData.depth]; omega) hb, ?_⟩
    simp only [PyData.depth, PyData.shown]
    exact ReprK.tuple ho hc hdt hna hk
  | _, _, u, .lst (a := a) (ds := ds) hs ha, r, hd, hw, hz => by
    obtain ⟨as, rd, _⟩ := Tg.reads I (.lst hs ha) r
    have hn : PyData.hasDict (.list ds) = false := by
      simp only [PyData.hasDict]
      simpa [dlD] using hd
    exact ⟨⟨_, rd⟩, ReprK.of_reads rd hw (PyData.noDict_hsm hn) hz⟩
  | _, _, u, .dic (a := a) (kvs := kvs) (ds := ds) hs ha, r, hd, hw, hz => by
    cases r
    obtain ⟨_, hsys, vs, kv, o, es, ep, e1, ⟨e2, _⟩, e3, _, e4, _⟩ := I.hok _ _ hs
    obtain ⟨k1, k2, k3, k4⟩ := keys_read (h := s.heap) kv e4
    obtain ⟨as, hr, hf⟩ := TgAll.reads I ha k3
    have hl := ha.length
    rw [List.length_map] at hl
    simp only [dlD] at hd
    rw [zip_snd (by rw [List.length_map]; exact hl)] at hd
    have has := hf hd
    subst has
    have rd : Reads s.heap (.ref a) (.dict ((kvs.map fun kv => keyD kv.1).zip ds)) (a :: [] ++ []) := .dict e1 e2 e3 (as := []) (bs := []) (by rw [zip_fst (by rw [List.length_map]; exact hl)]; exact k1) (by rw [zip_snd (by rw [List.length_map]; exact hl), k2]; exact hr)
    refine ⟨⟨_, rd⟩, ReprK.of_reads rd hw (fun _ hm => ?_) hz⟩
    simp only [List.cons_append, List.nil_append, List.mem_singleton] at hm
    rw [← hm] at hsys
    simp at hsys
  | _, _, _, .non, r, hd, hw, hz => by
    cases r
    exact ⟨⟨_, .none⟩, ReprK.of_reads .none hw (fun h => nomatch h) hz⟩
  | _, _, _, .bl b, r, hd, hw, hz => by
    cases r
    exact ⟨⟨_, .bool b⟩, ReprK.of_reads (.bool b) hw (fun h => nomatch h) hz⟩
  | _, _, _, .int i, r, hd, hw, hz => by
    obtain ⟨t, rfl⟩ := r
    exact ⟨⟨_, .int i t⟩, ReprK.of_reads (.int i t) hw (fun h => nomatch h) hz⟩
  | _, _, _, .str x, r, hd, hw, hz => by
    obtain ⟨t, rfl⟩ := r
    exact ⟨⟨_, .str x t⟩, ReprK.of_reads (.str x t) hw (fun h => nomatch h) hz⟩
theorem TgAll.shows (I : Inv X pins σ H s) : ∀ {vs : List V} {ds : List PyData} {us : List Value}, TgAll X.K H vs ds → Vals vs us → dlAll ds = true → PyData.showableAll ds = true → (∀ t ∈ PyData.shownAll ds, t.length ≤ sizeLine) →
    ∃ bs, ReadAtMost s.heap (PyData.depthAll ds) bs ∧ ReprAllK X.prog X.w bs s.heap (PyData.depthAll ds) us (PyData.shownAll ds)
  | _, _, _, .nil, r, _, _, _ => by
    cases r
    exact ⟨[], (fun _ h => nomatch h), by simp only [PyData.shownAll]; exact .nil⟩
  | _, _, _, .cons h1 h2, r, hd, hw, hz => by
    cases r with
    | cons r1 r2 =>
      simp only [dlAll, Bool.and_eq_true] at hd
      simp only [PyData.showableAll, Bool.and_eq_true] at hw
      obtain ⟨_, b1, hb1, k1⟩ := Tg.shows I h1 r1 hd.1 hw.1 (hz _ (by simp only [PyData.shownAll]; exact List.mem_cons_self ..))
      obtain ⟨b2, hb2, k2⟩ := TgAll.shows I h2 r2 hd.2 hw.2 (fun t ht => hz t (by simp only [PyData.shownAll]; exact List.mem_cons_of_mem _ ht))
      refine ⟨b1 ++ b2, ?_, ?_⟩
      · simp only [PyData.depthAll]
        exact (hb1.mono (Nat.le_max_left _ _)).append (hb2.mono (Nat.le_max_right _ _))
      · simp only [PyData.depthAll, PyData.shownAll]
        exact .cons ((k1.more fun b hb => List.mem_append_left _ hb).level_le (Nat.le_max_left _ _)) (k2.more_le (fun b hb => List.mem_append_right _ hb) (Nat.le_max_right _ _))
end
end
/-- repr of what is told whole -/
def rReprT (K : PySem.W.Frag) : List V → Hp → VK → Prop := fun xs H Q => ∃ v d, xs = [v] ∧ Tg K H v d ∧ dlD d = true ∧
  d.showable = true ∧ d.depth ≤ 60 ∧ d.shown.length ≤ sizeLine ∧ Q (.str d.shown) H
theorem cr_reprT {X : Cx} {K : PySem.W.Frag} (hK : X.K = K) (hg : X.A.guards = some []) (hu : X.A.units + 64 < cLine) :
    CallR X (.builtin "repr") (rReprT K) := by
  subst hK
  intro pins s σ H xs us Q I r h
  obtain ⟨v, d, rfl, hd, h1, h2, h3, h4, q⟩ := h
  cases r with
  | cons rv rt =>
    rename_i u ut
    cases rt
    have S := Tg.shows I hd rv h1 h2 h4
    cases hd with
    | non =>
      cases rv
      exact PySem.P.repr_of_none ⟨.str _, H, I.tok _, ⟨_, rfl⟩, by simpa only [PyData.shown] using q⟩
    | bl b =>
      cases rv
      exact PySem.P.repr_of_bool ⟨.str _, H, I.tok _, ⟨_, rfl⟩, by simpa only [PyData.shown] using q⟩
    | int i =>
      obtain ⟨t, rfl⟩ := rv
      exact PySem.P.repr_of_int (by simpa [PyData.showable] using h2)
        ⟨.str _, H, I.tok _, ⟨_, rfl⟩, by simpa only [PyData.shown] using q⟩
    | str x =>
      obtain ⟨t, rfl⟩ := rv
      exact PySem.P.repr_of_str ⟨.str _, H, I.tok _, ⟨_, rfl⟩, by simpa only [PyData.shown] using q⟩
        (by simpa only [PyData.shown] using h4)
    | lst hs ha =>
      rename_i a xs ds
      obtain ⟨as, rd, _⟩ := Tg.reads I (.lst hs ha) rv
      cases rv
      have hn : PyData.hasDict (.list ds) = false := by
        simp only [PyData.hasDict]
        simpa [dlD] using h1
      exact repr_of_reads' rd h2 (PyData.noDict_hsm hn) hg (by omega) (fun _ _ e => e)
        (fun h' u tk hk => ⟨.str _, H, I.kept hk, ⟨_, rfl⟩, q⟩) h4
    | tup hs ha =>
      rename_i a xs ds
      cases rv
      obtain ⟨its, rv', ⟨o, ho, hc, n, hdt⟩, _⟩ := I.tuple hs
      have hz' : (tupleText (PyData.shownAll ds)).length ≤ sizeLine := by simpa only [PyData.shown] using h4
      obtain ⟨bs, hb, hk⟩ := TgAll.shows I ha rv' (by simpa [dlD] using h1) (by simpa [PyData.showable] using h2) (fun t ht => Nat.le_trans (tupleText_mem_le ht) hz')
      obtain ⟨⟨as, rd⟩, _⟩ := S
      have hna : a ∉ bs := not_mem_of_deeper rd (by simp only [PyData.depth]; omega) hb
      simp only [PyData.depth] at h3
      refine call_repr_slot (T := "tuple") (idr := "tuple.__repr__") (by omega) ⟨o, ho, hc⟩ F.slot_tuple_repr ?_
      simp only [PyData.shown] at q
      exact call_tuple_reprK ho hc hdt hna hk hg (fun b _ => Clear.nil b) (by show X.A.units + 1 + (PyData.depthAll ds + 1) < cLine; omega) (fun _ _ e => e)
        (fun h' u tk hk' => ⟨_, _, rfl, ⟨.str _, H, I.kept hk', ⟨_, rfl⟩, q⟩⟩) hz'
    | dic hs ha =>
      rename_i a kvs ds
      cases rv
      obtain ⟨_, hsys, vs, kv, o, es, ep, e1, ⟨e2, _⟩, e3, _, e4, _⟩ := I.hok _ _ hs
      obtain ⟨k1, k2, k3, k4⟩ := keys_read (h := s.heap) kv e4
      obtain ⟨as, hr, hf⟩ := TgAll.reads I ha k3
      have hl := ha.length
      rw [List.length_map] at hl
      simp only [dlD] at h1
      rw [zip_snd (by rw [List.length_map]; exact hl)] at h1
      have has := hf h1
      subst has
      have rd : Reads s.heap (.ref a) (.dict ((kvs.map fun kv => keyD kv.1).zip ds)) (a :: [] ++ []) := .dict e1 e2 e3 (as := []) (bs := []) (by rw [zip_fst (by rw [List.length_map]; exact hl)]; exact k1) (by rw [zip_snd (by rw [List.length_map]; exact hl), k2]; exact hr)
      refine repr_of_reads' rd h2 (fun _ hm => ?_) hg (by omega) (fun _ _ e => e) (fun h' u tk hk => ⟨.str _, H, I.kept hk, ⟨_, rfl⟩, q⟩) h4
      simp only [List.cons_append, List.nil_append, List.mem_singleton] at hm
      rw [← hm] at hsys
      simp at hsys
/-! ### a new instance within a try -/
def tMakeS (C : Addr) (sp : Sp) (E : St → XK) (t : TA) : TE := fun σ H Q => t σ H fun vs G => ∀ x dx, G x = none → G dx = none → dx ≠ x →
  sp (.ref x :: vs) (upd (upd G dx (.own x)) x (.ins C dx [])) (fun v G2 => v = .non ∧ Q (.ref x) G2) (E σ)
theorem pe_makeS {X : Cx} {CX : CXT} {k : Nat} {f C : Addr} {fd : FuncData} {ps : List Str} {sp : Sp} {E : St → XK} {x : Str} {p pos : Pos} {e : Expr} {es : List Expr} {t : TA}
    (M : Mk X.K C f) (F : FnOk X.prog X.w X.K X.mg X.base CX k f fd ps sp) (hr : Room (k + 1) X.A) (hg : Gl X x) (hm : X.mg x = some (.ref C)) (hb : Binds X.K fd ps [])
    (hx : ∀ σ, PassesAt CX X σ (E σ)) (ha : PA X (e :: es) t) (hdb : (x == ("__debug__" : Str)) = false := by decide)
    (he : starEach (e :: es) X.env = (false, eval e X.env) :: starEach es X.env := by rfl) (hpl : (backTo pos (starEach es X.env)).any (·.1) = false := by rfl) :
    PE X (.Call (.Name x p) (e :: es) [] pos) (tMakeS C sp E t) := by
  refine ⟨fun pins s0 σ H0 Q I0 h0 => ?_⟩
  refine wpAny_Call_Name_kw (ld_glob I0 hg hm ?_ hdb)
  refine PySem.W.callWith_K (h₀ := X.base) I0.ok.mod.kin M.kp (thn (ha.run pos pins s0 σ H0 _ I0 h0) fun us s vsH => ?_) he hpl
  obtain ⟨vs, H, I, r, q0⟩ := vsH
  refine ⟨I.kIn, ?_⟩
  have q1 := q0 (s.heap.objs.size + 1) s.heap.objs.size (I.hok.fresh (Nat.le_succ _)) (I.hok.fresh (Nat.le_refl _)) (Nat.ne_of_lt (Nat.lt_succ_self _))
  have J := Inv.made (C := C) I
  have rr : Vals (V.ref (s.heap.objs.size + 1) :: vs) (Value.ref (s.heap.objs.size + 1) :: us) := .cons rfl r
  have ln : (Value.ref (s.heap.objs.size + 1) :: us).length = ps.length := by
    have z := rr.length
    rw [F.len _ _ _ _ q1] at z
    exact z.symm
  have bb := hb _ (Value.ref (s.heap.objs.size + 1) :: us) J.kIn (by rw [List.append_nil]; exact ln)
  rw [List.append_nil] at bb
  have go := F.run _ X.stack _ _ ⟨Value.ref (s.heap.objs.size + 1) :: us, []⟩ (Value.ref (s.heap.objs.size + 1) :: us) _ _ (E σ) (hr.make C us []) (J.env0.make C us []) bb rr q1
  refine wpAny_call (make_map (f := f) I.kIn M.makes M.init (beq_iff_eq.mp M.fn) (codeAny_mono go fun res s' hq => ?_))
  cases res with
  | error er => exact hx σ pins _ _ er s' J hq
  | ok fl =>
    cases fl with
    | ret u =>
      obtain ⟨v, G, J3, rv, ev, q3⟩ := J.after hq
      subst ev
      exact ⟨rv, ⟨V.ref (s.heap.objs.size + 1), G, J3, rfl, q3⟩⟩
    | next => exact hq.elim
    | brk => exact hq.elim
    | cont => exact hq.elim
/-! ### sorted(xs) of any alike data; set(xs) of a list of ints -/
section
variable {X : Cx}
def rSortedD (K : PySem.W.Frag) : List V → Hp → VK → Prop := fun vs H Q => ∃ (a : Addr) (β : Type) (bs : List β) (val : β → V) (enc : β → PyData), vs = [V.ref a] ∧ SqL K H a (bs.map val) ∧ (∀ b ∈ bs, Dp K H (val b) (enc b)) ∧
  PySem.W.AllAlike (bs.map enc) ∧ PySem.W.Sortable (bs.map enc) ∧ (∀ b ∈ bs, (enc b).depth ≤ 60) ∧ ∀ p, H p = none → Q (.ref p) (upd H p (.lst ((bs.mergeSort (PySem.W.dataLe false enc)).map val)))
theorem each_vals {β : Type} {val : β → V} : ∀ {bs : List β} {us : List Value}, Vals (bs.map val) us → PySem.W.EachIs (fun u b => RelV (val b) u) us bs
  | [], _, .nil => .nil
  | _ :: _, _, .cons h t => .cons h (each_vals t)
theorem vals_each {β : Type} {val : β → V} : ∀ {bs : List β} {us : List Value}, PySem.W.EachIs (fun u b => RelV (val b) u) us bs → Vals (bs.map val) us
  | _, _, .nil => .nil
  | _, _, .cons h t => .cons h (vals_each t)
theorem each_with {α β : Type} {R S : α → β → Prop} : ∀ {us : List α} {bs : List β}, PySem.W.EachIs R us bs → (∀ u b, b ∈ bs → R u b → S u b) → PySem.W.EachIs S us bs
  | _, _, .nil, _ => .nil
  | _, _, .cons h t, k => .cons (k _ _ (List.mem_cons_self ..) h) (each_with t fun u b m => k u b (List.mem_cons_of_mem _ m))
theorem cr_sortedD (hu : X.A.units + 64 < cLine) : CallR X (.builtin "sorted") (rSortedD X.K) := by
  intro pins s σ H vs us Q I r h
  obtain ⟨a, β, bs, val, enc, rfl, hs, hd, hal, hk, hdp, q⟩ := h
  obtain ⟨its, rv, hl, hz⟩ := I.list hs
  obtain ⟨u, rfl, ru⟩ := vals1 r
  obtain rfl : u = Value.ref a := ru
  have e := each_vals rv
  rw [List.length_map] at hz
  refine PySem.W.sorted_data (vs := its) (enc := enc) hl.isList e (each_with e fun u b m z => Dp.reads I _ _ _ (hd b m) z) hal hk hz (fun b hb => ?_) fun out ho eo => ?_
  · have := hdp b hb
    omega
  · obtain ⟨c, hc⟩ := PyProof.Rows.sortedAll_at s.heap its out.toArray
    have hn : H (s.heap.objs.size + 1) = none := I.hok.fresh (Nat.le_succ _)
    have hl2 : ((bs.mergeSort (PySem.W.dataLe false enc)).map val).length ≤ sizeLine := by
      rw [List.length_map, List.length_mergeSort]
      exact hz
    exact ⟨.ref (s.heap.objs.size + 1), upd H (s.heap.objs.size + 1) (.lst ((bs.mergeSort (PySem.W.dataLe false enc)).map val)), I.laid (t' := s.toks) (fun b u e => PyProof.Rows.sortedAll_old e) (Nat.le_succ _) ⟨hl2, out, c, vals_each eo, hc⟩, rfl, q _ hn⟩
end
/-! ### set(xs), xs a list of ints -/
section
variable {w : World} {P : Program} {A : Around} {s : Shared} {E : Value → Shared → Prop}
abbrev set0 (w : World) : Obj := { cls := .type "set", dict := none, data := .set #[] 0 (.fresh 0 0 (!w.params.followText "set-order")) }
set_option maxHeartbeats 8000000 in
theorem call_setL {l : Addr} {xs : Array Value} (ks : List Int) {Q : Value → Shared → Prop} (ha : A.handled = none) (at0 : s.heap.IsList l xs) (ia : IntsAre xs.toList ks) (few : ks.length + 1 < scanBound)
    (fin : ∀ (g : Heap) (tk c : Nat), SetR w g s.heap.objs.size (fun j => decide (j ∈ ks)) c → c ≤ ks.length → (∀ b o, s.heap.get? b = some o → g.get? b = some o) → Q (.ref s.heap.objs.size) { s with heap := g, toks := tk }) :
    wpAny (model P w) A (call (.type "set") [Value.ref l]) Q E s := by
  have sz : xs.size = ks.length := (Array.length_toList (xs := xs)).symm.trans (IntsAre.length ia)
  obtain ⟨cc, ct, em⟩ := F.called_set.mro
  have m1 := F.called_set.made
  have m2 := F.called_set.sub
  have m3 := F.called_set.notType
  have m4 := F.called_set.canCreate
  have m5 := F.typeCall_set_1 (.ref l)
  have m6 := F.called_set.init.lookup
  refine wpAny_call (codeAny_of_tree ?_); show wpAny _ _ (callAny (.type "set") _) _ _ _
  refine wpAny_pure (And.intro (Code.quiet_builtin _ (by decide +kernel)) (codeAny_builtin F.entry_type_call ?_))
  rw [Around.under_plain (weight_type_call_type "set" [.ref l] []) (rfl)]
  repeat any_goals first | assumption | wp_step

  refine codeAny_mono (code_set_led1 (.ref l) (E := E) (Q₁ := fun o t => o = .ref s.heap.objs.size ∧ t = { s with heap := s.heap.push (set0 w) }) ⟨rfl, rfl⟩) fun r t hr => ?_
  rcases r with r | fl
  · exact hr
  cases fl with
  | ret obj =>
    obtain ⟨rfl, rfl⟩ := hr
    have hN : (s.heap.push (set0 w)).get? s.heap.objs.size = some (set0 w) := Heap.get?_push_size _ rfl
    have hY : Shared.TypeIs { s with heap := s.heap.push (set0 w) } (.ref s.heap.objs.size) "set" := ⟨_, hN, rfl⟩
    have m7 := F.called_set.init.bind (.ref s.heap.objs.size)
    repeat any_goals first | assumption | wp_step

    refine codeAny_mono (codeAny_call_builtin (R := wants (fun r t => r = .none ∧ ∃ g tk c, t = { s with heap := g, toks := tk } ∧ SetR w g s.heap.objs.size (fun j => decide (j ∈ ks)) c ∧ c ≤ ks.length ∧
        (∀ b o, s.heap.get? b = some o → g.get? b = some o)) E) F.called_set.init.plain F.entry_set_init (check_set_init_1 hY ?_)) fun r t ht => ?_
    · obtain ⟨⟨oc, od, oo, os⟩, e1, e2, nl, e3⟩ := at0
      simp only at e2 e3
      subst e2
      subst e3
      have e4 : (s.heap.push (set0 w)).get? l = some { cls := .type "list", dict := od, data := .seq xs nl, slots := os } := Heap.get?_push_of_some _ e1
      have n1 := F.sub_list_set
      have n2 := F.sub_list_frozenset
      have n3 : (Value.type "list" == Value.type "dict") = false := by decide
      have e5 : (s.heap.push (set0 w)).IsList l xs := ⟨_, e4, rfl, nl, rfl⟩
      unfold Builtin.«set.__init__» Builtin.Frozenset.updateFrom noKeywords
      generalize hPI : pyIter = PI
      wp_walk
      subst hPI

      refine wpAny_pyIter_list e5 (wpAny_bind (wpAny_runValue ?_))
      have lt0 : l < s.heap.objs.size := Heap.lt_size e1
      have a3 : A.in1.in1.in1.handled = none := by simp [ha]
      have ne1 : l ≠ (s.heap.push (set0 w)).objs.size := by
        rw [Heap.size_push]
        exact Nat.ne_of_lt (Nat.lt_succ_of_lt lt0)
      have ne2 : s.heap.objs.size ∉ [(s.heap.push (set0 w)).objs.size, l] := by
        rw [Heap.size_push]
        simp only [List.mem_cons, List.not_mem_nil, or_false, not_or]
        exact ⟨Nat.ne_of_lt (Nat.lt_succ_self _), (Nat.ne_of_lt lt0).symm⟩
      have vals : ∀ (i : Nat) (v : Value), xs[i]? = some v → ∃ k t, ks[i]? = some k ∧ v = .int k t := fun i v hv => by
        have hi : i < ks.length := by rw [← sz]; exact (Array.getElem?_eq_some_iff.mp hv).1
        obtain ⟨t, e⟩ := IntsAre.int_at ia i v (by rw [Array.getElem?_toList]; exact hv)
        refine ⟨ks[i], t, List.getElem?_eq_getElem hi, ?_⟩
        rw [e, List.getD_eq_getElem?_getD, List.getElem?_eq_getElem hi] <;> rfl
      refine set_update_ints ((Walks.list a3 _ l ne1 xs).toS) s.heap.objs.size ne2 ks sz few vals (xs.size - 0) 0 _ (by omega) (Nat.zero_le _) ⟨⟨_, Heap.get?_push_size _ rfl, rfl, rfl⟩, (e5.push _)⟩ ⟨0, Nat.le_refl 0, setR_new_at (Heap.get?_push_of_some _ hN)⟩ ?_
      intro t c mv hc hS
      obtain ⟨g, g2, d2, tk, os2⟩ := t
      have q1 : g2 = s.gens := mv.gens
      have q2 : d2 = s.drawn := mv.drawn
      have q3 : os2 = s.os := mv.os
      subst q1 q2 q3
      show wpAny _ _ _ _ _ _
      refine wpAny_pure ?_
      show wpAny _ _ (ret .none) _ _ _
      rw [sz] at hc
      refine wpAny_pure ⟨rfl, g, tk, c, rfl, hS, hc, fun b o e => ?_⟩
      have lb : b < s.heap.objs.size := Heap.lt_size e
      refine mv.heap b o (fun hb => ?_) (Heap.get?_push_of_some _ (Heap.get?_push_of_some _ e))
      rw [Heap.size_push] at hb
      simp only [List.mem_cons, List.not_mem_nil, or_false] at hb
      rcases hb with hb | hb
      · exact Nat.ne_of_lt lb hb
      · exact Nat.ne_of_lt (Nat.lt_succ_of_lt lb) hb
    · rcases r with r | fl
      · exact ht
      cases fl with
      | ret r =>
        obtain ⟨rfl, g, tk, c, rfl, h1, h2, h3⟩ := ht
        repeat any_goals first | assumption | wp_step
        exact fin _ _ _ h1 h2 h3
      | _ => exact ht.elim
  | _ => exact hr.elim
end
section
variable {X : Cx}
def rSetLI (K : PySem.W.Frag) (w : World) : List V → Hp → VK → Prop := fun vs H Q => ∃ (l : Addr) (ns : List Int), vs = [V.ref l] ∧ SqL K H l (ns.map V.int) ∧ ns.length ≤ 1000 ∧
  ∀ (p : Addr) (c : Nat), c ≤ ns.length → H p = none → Q (.ref p) (upd H p (SetO w p (fun j => decide (j ∈ ns)) c))
theorem cr_setL (hc : X.calm = true) : CallR X (.type "set") (rSetLI X.K X.w) := by
  intro pins s σ H vs us Q I r h
  obtain ⟨l, ns, rfl, hs, hl, q⟩ := h
  obtain ⟨its, rv, pl, hz⟩ := I.list hs
  rw [Vals.ref1 r]
  have hn : H s.heap.objs.size = none := I.hok.fresh (Nat.le_refl _)
  exact call_setL ns (I.ok.hd hc) pl.isList (ints_of_vals rv) (by unfold scanBound; omega) fun g tk c h1 h2 h3 =>
    ⟨.ref s.heap.objs.size, upd H s.heap.objs.size (SetO X.w s.heap.objs.size (fun j => decide (j ∈ ns)) c), I.laid (t' := tk) h3 (Nat.le_refl _) (setO_new h1), rfl, q _ c h2 hn⟩
end
/-! ### xs.extend(t), t a tuple -/
theorem ext_tup (l b : Addr) (xs ys : Array Value) (n m : Nat) (od : Option Addr) (os : Array (Option Value)) (c0 : ¬ (!xs.isEmpty && Builtin.List.listTooLong (xs.size + ys.size)) = true) (c1 : xs.size ≤ sizeLine) (c2 : xs.size + ys.size ≤ sizeLine + 1) :
    Meets (Builtin.«list.extend» ⟨[.ref l, .ref b], []⟩) (fun _ R s => s.heap.get? l = some { cls := .type "list", dict := none, data := .seq xs n, slots := #[] } ∧
      s.heap.get? b = some { cls := .type "tuple", dict := od, data := .seq ys m, slots := os } ∧ R (.ok (.ret Value.none)) { s with heap := s.heap.update l (Obj.mapSeq fun x => x ++ ys), toks := s.toks }) :=
  .of_wp fun prog w A R s h => by
    obtain ⟨hp, g, d, tk, os⟩ := s
    obtain ⟨q1, q2, h⟩ := h
    have a1 := PyProof.Rows.sub_tuple_tuple
    have a2 := PyProof.Rows.sub_list_list
    have a3 := PyProof.Rows.sub_tuple_list
    have a4 := PyProof.Rows.sub_list_tuple
    have a5 : (xs ++ ys).size ≤ sizeLine + 1 := by
      rw [Array.size_append]
      exact c2
    wp_walk using (wpAny_updateSeq q1 rfl (hz := c1) (_hz' := a5)), wpAny_loadPart' q1, wpAny_loadPart' q2
    exact ⟨_, rfl, h⟩
section
variable {X : Cx}
def rExtT (K : PySem.W.Frag) : V → List V → Hp → VK → Prop := fun x vs H Q => ∃ (l b : Addr) (xs zs : List V), x = .ref l ∧ vs = [.ref b] ∧ H l = some (.lst xs) ∧ H b = some (.tup zs) ∧ xs.length + zs.length ≤ sizeLine ∧ Q .non (upd H l (.lst (xs ++ zs)))
theorem mt_extT : MtM X "list.extend" (rExtT X.K) := by
  intro pns s τ H x vs v us Q I rx rv h
  obtain ⟨l, b, xs, zs, rfl, rfl, hl, hb, hz, q⟩ := h
  cases rx
  obtain ⟨u, rfl, ru⟩ := rv.one
  cases ru
  obtain ⟨z, its, n, r, hn, e⟩ := I.lstM hl
  obtain ⟨it2, r2, ⟨⟨oc, od, oo, os⟩, e2, c2, n2, d2⟩, z2⟩ := I.tuple (SqT.of hb)
  simp only at c2 d2
  subst c2 d2
  have hn2 : zs.length = it2.length := r2.length
  have few : its.toArray.size + it2.toArray.size ≤ sizeLine := by
    rw [List.size_toArray, List.size_toArray]
    omega
  have nl : ¬ (!its.toArray.isEmpty && Builtin.List.listTooLong (its.toArray.size + it2.toArray.size)) = true := by
    rw [notLongL few, Bool.and_false]
    exact Bool.false_ne_true
  have M := ext_tup l b its.toArray it2.toArray n n2 od os nl (by rw [List.size_toArray]; omega) (by omega)
  refine call_meets F.slot_list_extend ⟨_, e, rfl⟩ F.entry_list_extend (F.args_list_extend_2 _ _) M ⟨e, e2, ?_⟩
  refine ⟨.non, _, I.lset (its' := its ++ it2) hl e (by simp) (r.append r2) ?_, rfl, q⟩
  rw [List.length_append]
  omega
end
/-! ### x == b, b an instance of an own class with __eq__, x of another kind -/
section
variable {P : Program} {w : World} {A : Around} {K : PySem.W.Frag} {b C dx : Addr} {E : Value → Shared → Prop} {s : Shared} {Q : Value → Shared → Prop}
/-- the kind's own __eq__ declines -/
theorem dcl_tuple {l : Addr} (hl : s.TypeIs (.ref l) "tuple") (hb : PySem.W.Looks (model P w) s.heap (isInstance (.ref b) (.type "tuple")) false) (q : Q .notImplemented s) : wpAny (model P w) A (call (.builtin "tuple.__eq__") [.ref l, .ref b]) Q E s := by
  refine wpAny_call_entry PySem.F.slot_tuple_eq hl PySem.F.entry_tuple_eq ?_ (PySem.F.args_tuple_eq_2 _ _)
  unfold Builtin.«tuple.__eq__»
  show wpAny _ _ (slotArgs "__eq__" 1 ⟨[.ref l, .ref b], []⟩ >>= _) _ _ _
  refine wpAny_bind (m := slotArgs "__eq__" 1 _) (wpAny_pure ?_)
  refine wpAny_bind (hb.at ?_)
  exact wpAny_pure ⟨_, rfl, q⟩
theorem dcl_list {l : Addr} (hl : s.TypeIs (.ref l) "list") (hb : PySem.W.Looks (model P w) s.heap (isInstance (.ref b) (.type "list")) false) (q : Q .notImplemented s) : wpAny (model P w) A (call (.builtin "list.__eq__") [.ref l, .ref b]) Q E s := by
  refine wpAny_call_entry PySem.F.slot_list_eq hl PySem.F.entry_list_eq ?_ (PySem.F.args_list_eq_2 _ _)
  unfold Builtin.«list.__eq__»
  show wpAny _ _ (slotArgs "__eq__" 1 ⟨[.ref l, .ref b], []⟩ >>= _) _ _ _
  refine wpAny_bind (m := slotArgs "__eq__" 1 _) (wpAny_pure ?_)
  refine wpAny_bind (hb.at ?_)
  exact wpAny_pure ⟨_, rfl, q⟩
theorem dcl_int {i : Int} {t : Tok} (ho : s.heap.get? b = some (PySem.W.instObj C dx)) (q : Q .notImplemented s) : wpAny (model P w) A (call (.builtin "int.__eq__") [.int i t, .ref b]) Q E s := by
  refine wpAny_call_entry PySem.F.slot_int_eq (show s.TypeIs (.int i t) "int" from rfl) PySem.F.entry_int_eq ?_ (PySem.F.args_int_eq_2 _ _)
  obtain ⟨hp, g, d, tk, os⟩ := s
  unfold Builtin.«int.__eq__»
  wp_walk using wpAny_loadPart' ho
  exact ⟨_, rfl, q⟩
theorem dcl_str {x : Str} {t : Tok} (ho : s.heap.get? b = some (PySem.W.instObj C dx)) (q : Q .notImplemented s) : wpAny (model P w) A (call (.builtin "str.__eq__") [.str x t, .ref b]) Q E s := by
  refine wpAny_call_entry PySem.F.slot_str_eq (show s.TypeIs (.str x t) "str" from rfl) PySem.F.entry_str_eq ?_ (PySem.F.args_str_eq_2 _ _)
  obtain ⟨hp, g, d, tk, os⟩ := s
  unfold Builtin.«str.__eq__»
  wp_walk using wpAny_loadPart' ho
  exact ⟨_, rfl, q⟩
theorem dcl_none (q : Q .notImplemented s) : wpAny (model P w) A (call (.builtin "NoneType.__eq__") [.none, .ref b]) Q E s := by
  refine wpAny_call_entry PySem.F.slot_NoneType_eq (show s.TypeIs .none "NoneType" from rfl) PySem.F.entry_NoneType_eq ?_ (PySem.F.args_NoneType_eq_2 _ _)
  obtain ⟨hp, g, d, tk, os⟩ := s
  unfold Builtin.«NoneType.__eq__»
  wp_walk
  exact ⟨_, rfl, q⟩
theorem dcl_dict {l : Addr} (hl : s.TypeIs (.ref l) "dict") (hb : PySem.W.Looks (model P w) s.heap (isInstance (.ref b) (.type "dict")) false) (q : Q .notImplemented s) : wpAny (model P w) A (call (.builtin "dict.__eq__") [.ref l, .ref b]) Q E s := by
  refine wpAny_call_entry PySem.F.slot_dict_eq hl PySem.F.entry_dict_eq ?_ (PySem.F.args_dict_eq_2 _ _)
  obtain ⟨hp, g, d, tk, os⟩ := s
  unfold Builtin.«dict.__eq__»
  show wpAny _ _ (Builtin.Dict.dictSlotArgs "__eq__" _ >>= _) _ _ _
  unfold Builtin.Dict.dictSlotArgs Builtin.Dict.notOrdered
  rw [if_neg (by decide)]
  refine wpAny_bind (wpAny_bind (wpAny_pure ?_))
  refine wpAny_bind (m := slotArgs "__eq__" 1 _) (wpAny_pure (wpAny_pure ?_))
  refine wpAny_bind (hb.at ?_)
  exact wpAny_bind (wpAny_rule (wpAny_pure ⟨_, rfl, q⟩))
end
section
open PySem.W
variable {prog : Program} {w : World} {A : Around} {K : Frag} {b C f : Addr} {ob : Obj} {od : Option Obj} {a : Value} {T ida : String} {E : Value → Shared → Prop} {s : Shared} {Q : Value → Shared → Prop}
theorem eq_right (hu : A.units < cLine) (X : K.In s.heap) (I : InstAt s.heap b ob C od) (ha : s.TypeIs a T) (hm : mroIn K C (.type T) = some false) (sl : Slot T (cmpInfo .Eq).2.1 ida)
    (dec : ∀ Q' : Value → Shared → Prop, Q' .notImplemented s → wpAny (model prog w) A (call (.builtin ida) [a, .ref b]) Q' E s)
    (hs : findIn K (.ref C) "__eq__" = some (some (.ref f))) (hf : isFn K (.ref f) = true) (h : wpAny (model prog w) A (call (.ref f) [.ref b, a]) (PySem.W.CmpBack Q) E s) : wpAny (model prog w) A (richCompare .Eq a (.ref b)) Q E s := by
  have two : wpAny (model prog w) A (tryCompare (.ref b) "__eq__" a) (fun r s' => ∃ v, r = some v ∧ Q v s') E s := by
    unfold tryCompare
    refine wpAny_bind (ifBound_K X I hs hf (wpAny_mono h (fun v s' hv => ?_) fun _ _ e => e))
    cases v <;> first | exact hv.elim | exact wpAny_pure ⟨_, rfl, hv⟩
  have ne : (Value.type T != .ref C) = true := by simp
  unfold richCompare
  simp only [ha.oneThing_none]
  refine wpAny_holding (wpAny_bind (wpAny_cRoomFor hu ?_))
  refine wpAny_bind (wpAny_typeOf ha (wpAny_bind (I.type.at ?_)))
  simp only [cmpInfo, ne, if_true]
  refine wpAny_bind ((looks_mroIn X hm).at ?_)
  simp only [Bool.false_eq_true, if_false, Bool.not_false, if_true]
  refine wpAny_bind (m := tryCompare a _ (.ref b)) (wpAny_tryCompare_declines ha sl (dec _ ⟨rfl, ?_⟩))
  refine wpAny_bind (wpAny_mono two (fun r s' z => ?_) fun _ _ e => e)
  obtain ⟨v, rfl, hq⟩ := z
  exact wpAny_pure hq
end
/-- of another kind: its type, that type's __eq__ -/
inductive Oth (K : PySem.W.Frag) (H : Hp) : V → String → String → Prop
  | non : Oth K H .non "NoneType" "NoneType.__eq__"
  | int (i : Int) : Oth K H (.int i) "int" "int.__eq__"
  | str (x : Str) : Oth K H (.str x) "str" "str.__eq__"
  | tup {a : Addr} {xs : List V} : SqT K H a xs → Oth K H (.ref a) "tuple" "tuple.__eq__"
  | lst {a : Addr} {xs : List V} : SqL K H a xs → Oth K H (.ref a) "list" "list.__eq__"
  | dic {a : Addr} {kvs : List (Key × V)} : H a = some (.dK kvs) → Oth K H (.ref a) "dict" "dict.__eq__"
/-- the class at C is below none of these, and is a class -/
structure NoBase (K : PySem.W.Frag) (C : Addr) : Prop where
  non : PySem.W.mroIn K C (.type "NoneType") = some false
  int : PySem.W.mroIn K C (.type "int") = some false
  str : PySem.W.mroIn K C (.type "str") = some false
  tup : PySem.W.mroIn K C (.type "tuple") = some false
  lst : PySem.W.mroIn K C (.type "list") = some false
  dic : PySem.W.mroIn K C (.type "dict") = some false
  hd : PySem.W.hasDictIn K C = true
  ty : PySem.W.typeIn K (.ref C) = some (.type "type")
theorem looks_is {M : Model} {s : Shared} {v : Value} {T : String} (h : s.TypeIs v T) : PySem.W.Looks M s.heap (typeOf v) (.type T) := by
  cases v with
  | ref a =>
    obtain ⟨o, ho, hc⟩ := h
    exact hc ▸ (PySem.W.Looks.ld ho).andThen .now
  | _ => exact .of_pure h
section
variable {X : Cx} {n : Nat} {pins : List (Addr × Obj)} {σ : St} {H : Hp} {s : Shared}
theorem Oth.is {v : V} {T i : String} {u : Value} (h : Oth X.K H v T i) (I : Inv X pins σ H s) (r : RelV v u) : s.TypeIs u T := by
  cases h with
  | non =>
    cases r
    exact (rfl : typeOf .none = pure (.type "NoneType"))
  | int i =>
    obtain ⟨t, rfl⟩ := r
    exact (rfl : typeOf (.int i t) = pure (.type "int"))
  | str x =>
    obtain ⟨t, rfl⟩ := r
    exact (rfl : typeOf (.str x t) = pure (.type "str"))
  | tup hs =>
    cases r
    obtain ⟨its, _, ⟨o, ho, hc, _⟩, _⟩ := I.tuple hs
    exact ⟨o, ho, hc⟩
  | lst hs =>
    cases r
    obtain ⟨its, _, hl, _⟩ := I.list hs
    obtain ⟨o, ho, hc, _⟩ := hl.isList
    exact ⟨o, ho, hc⟩
  | dic hs =>
    cases r
    obtain ⟨_, _, vs, kv, o, es, ep, e1, ⟨e2, _⟩, _⟩ := I.hok _ _ hs
    exact ⟨o, e1, e2⟩
theorem Oth.first {C : Addr} {v : V} {T i : String} (h : Oth X.K H v T i) : PySem.W.notFirst X.K C (.type T) = true := by
  have q : ∀ T : String, (PySem.fastBuiltinMro T).map (·.contains (Value.ref C)) = some false → PySem.W.notFirst X.K C (.type T) = true := fun T e => by
    unfold PySem.W.notFirst
    have e2 : PySem.W.subIn X.K (.type T) (.ref C) = some false := e
    rw [e2, Bool.or_eq_true]
    exact .inr rfl
  cases h <;> exact q _ rfl
theorem Oth.kit {K : PySem.W.Frag} {H : Hp} {C : Addr} (N : NoBase K C) {v : V} {T i : String} (h : Oth K H v T i) : PySem.W.kitOne K (.type T) (.ref C) = some false := by
  obtain ⟨cd, hc, _⟩ := PySem.W.any_some N.hd
  have e2 : ((PySem.W.clsIn K C).isSome && PySem.W.typeIn K (.ref C) == some (.type "type")) = true := by rw [hc, N.ty] <;> rfl
  have q : ∀ T : String, (PySem.fastBuiltinMro T).map (·.contains (Value.ref C)) = some false → PySem.W.kitOne K (.type T) (.ref C) = some false := fun T e => by
    show (if ((Value.type T : Value) == .ref C) = true then some true else (if ((PySem.W.clsIn K C).isSome && PySem.W.typeIn K (.ref C) == some (.type "type")) = true then PySem.W.subIn K (.type T) (.ref C) else none)) = some false
    rw [if_neg (by simp), if_pos e2]
    exact e
  cases h <;> exact q _ rfl
theorem Oth.ty {K : PySem.W.Frag} {H : Hp} {v : V} {T i : String} (h : Oth K H v T i) : TyX K H v (.type T) := by
  cases h with
  | non => exact .base .non
  | int i => exact .base (.int i)
  | str x => exact .base (.str x)
  | tup hs =>
    rcases hs with (h | ⟨o, h⟩) | ⟨o, its, n, h, c, _⟩
    · exact .base (.tup h)
    · exact .fTuple h
    · exact .kTuple h c
  | lst hs =>
    rcases hs with (h | ⟨o, h⟩) | ⟨o, its, n, h, c, _⟩
    · exact .base (.lst h)
    · exact .base (.frz h)
    · exact .kList h c
  | dic hs => exact .base (.dK hs)
theorem callTwoV {CX : CXT} {f : Addr} {fd : FuncData} {ps : List Str} {sp : Sp} {E : XK} (F : FnOk X.prog X.w X.K X.mg X.base CX n f fd ps sp) (hb : Binds X.K fd ps []) (hx : Passes CX X E)
    {A : Around} {a : Addr} {y : V} {u : Value} {Q : VK} (rm : Room n A) (fr : A.frames = X.A.frames) (I : Inv X pins σ H s) (ry : RelV y u) (hsp : sp [.ref a, y] H Q E) :
    wpAny (model X.prog X.w) A (call (.ref f) [.ref a, u]) (EP X pins σ Q) X.xe s := by
  have z := I.env0
  have z0 : Env0 X.prog X.w X.K X.mg X.base A X.stack s H :=
    ⟨by rw [fr] <;> exact z.frames, z.mod, z.bs, z.bsz, z.funs, z.frf, z.hok, z.bare⟩
  have two := F.len _ _ _ _ hsp
  have vs : Vals [V.ref a, y] [Value.ref a, u] := .cons rfl (.cons ry .nil)
  have bd := hb s [.ref a, u] I.kIn (by simpa using two)
  refine wpAny_call (codeAny_mono (F.run A X.stack s H ⟨[.ref a, u], []⟩ [.ref a, u] [.ref a, y] _ E rm z0 (by simpa using bd) vs hsp) fun r s' hq => ?_)
  cases r with
  | error er => exact hx pins σ H s er s' I hq
  | ok fl =>
    cases fl with
    | ret w => exact I.after hq
    | _ => exact False.elim hq
/-- ==, one of them an instance of the class at C -/
def rEqMix (K : PySem.W.Frag) (C : Addr) (sp : Sp) (E : XK) : R2 := fun x y H Q => (∃ a dx fs, x = .ref a ∧ H a = some (.ins C dx fs) ∧ ((∃ b dy gs, y = .ref b ∧ H b = some (.ins C dy gs)) ∨ ∃ T i, Oth K H y T i) ∧ sp [x, y] H (fun v H' => ∃ k : Bool, v = .bl k ∧ Q (.bl k) H') E) ∨
  ∃ b dy gs T i, y = .ref b ∧ H b = some (.ins C dy gs) ∧ Oth K H x T i ∧ sp [y, x] H (fun v H' => ∃ k : Bool, v = .bl k ∧ Q (.bl k) H') E
theorem op_eqMix {CX : CXT} {C f : Addr} {fd : FuncData} {ps : List Str} {sp : Sp} {E : XK} (F : FnOk X.prog X.w X.K X.mg X.base CX n f fd ps sp) (hr : Room n X.A) (N : NoBase X.K C)
    (hs : PySem.W.findIn X.K (.ref C) "__eq__" = some (some (.ref f))) (hf : PySem.W.isFn X.K (.ref f) = true) (hb : Binds X.K fd ps []) (hx : Passes CX X E) : OpR X (compareOp .Eq) (rEqMix X.K C sp E) := by
  intro pins s σ H x y v u Q I rx ry hq
  have back : ∀ {r : Value} {s' : Shared}, EP X pins σ (fun v H' => ∃ k : Bool, v = .bl k ∧ Q (.bl k) H') r s' → PySem.W.CmpBack (EP X pins σ Q) r s' := fun {r s'} z => by
    obtain ⟨z, H', I', rz, k, rfl, q⟩ := z
    cases rz
    exact ⟨.bl k, H', I', rfl, q⟩
  rcases hq with ⟨a, dx, fs, rfl, ha, hy, hsp⟩ | ⟨b, dy, gs, T, i, rfl, hb', ho, hsp⟩
  · cases rx
    obtain ⟨_, J, _⟩ := ins_get I.hok ha
    obtain ⟨_, J, _⟩ := J.look
    obtain ⟨m, hF⟩ := I.fr
    rcases hy with ⟨b, dy, gs, rfl, hb'⟩ | ⟨T, i, ho⟩
    · cases ry
      obtain ⟨_, J', _⟩ := ins_get I.hok hb'
      obtain ⟨_, J', _⟩ := J'.look
      exact PySem.W.cmp_K (op := .Eq) (tb := .ref C) hr.units0 hF I.ok.mod.kin J J'.type (by simp [PySem.W.notFirst]) hs hf (wpAny_mono (callTwoV (y := .ref b) F hb hx hr rfl I rfl hsp) (fun r s' z => back z) fun _ _ e => e)
    · exact PySem.W.cmp_K (op := .Eq) (tb := .type T) hr.units0 hF I.ok.mod.kin J (looks_is (ho.is I ry)) ho.first hs hf (wpAny_mono (callTwoV F hb hx hr rfl I ry hsp) (fun r s' z => back z) fun _ _ e => e)
  · cases ry
    obtain ⟨_, J, _⟩ := ins_get I.hok hb'
    have at0 := J.1
    obtain ⟨_, J, _⟩ := J.look
    have is0 := ho.is I rx
    have lk : ∀ {T : String}, PySem.W.mroIn X.K C (.type T) = some false → PySem.W.Looks (model X.prog X.w) s.heap (isInstance (.ref b) (.type T)) false := fun e => J.type.andThen (PySem.W.looks_mroIn I.kIn e)
    have fin := wpAny_mono (callTwoV F hb hx hr rfl I rx hsp) (fun r s' z => back z) fun _ _ (e : X.xe _ _) => e
    cases ho with
    | non =>
      cases rx
      exact eq_right hr.units0 I.kIn J is0 N.non PySem.F.slot_NoneType_eq (fun Q' q => dcl_none q) hs hf fin
    | int i =>
      obtain ⟨t, rfl⟩ := rx
      exact eq_right hr.units0 I.kIn J is0 N.int PySem.F.slot_int_eq (fun Q' q => dcl_int at0 q) hs hf fin
    | str z =>
      obtain ⟨t, rfl⟩ := rx
      exact eq_right hr.units0 I.kIn J is0 N.str PySem.F.slot_str_eq (fun Q' q => dcl_str at0 q) hs hf fin
    | tup h1 =>
      cases rx
      exact eq_right hr.units0 I.kIn J is0 N.tup PySem.F.slot_tuple_eq (fun Q' q => dcl_tuple is0 (lk N.tup) q) hs hf fin
    | lst h1 =>
      cases rx
      exact eq_right hr.units0 I.kIn J is0 N.lst PySem.F.slot_list_eq (fun Q' q => dcl_list is0 (lk N.lst) q) hs hf fin
    | dic h1 =>
      cases rx
      exact eq_right hr.units0 I.kIn J is0 N.dic PySem.F.slot_dict_eq (fun Q' q => dcl_dict is0 (lk N.dic) q) hs hf fin
end
/-! ### max(xs) of alike data: the item that reads as the greatest -/
def rMaxData (K : PySem.W.Frag) : List V → Hp → VK → Prop := fun vs H Q => ∃ (a : Addr) (β : Type) (b : β) (bs : List β) (val : β → V) (enc : β → PyData), vs = [V.ref a] ∧ SqL K H a ((b :: bs).map val) ∧ (∀ c ∈ b :: bs, Dp K H (val c) (enc c)) ∧
  PySem.W.AlikeAll ((b :: bs).map enc) ∧ PyData.depthAll ((b :: bs).map enc) ≤ 60 ∧ ∀ c ∈ b :: bs, enc c = PySem.W.maxD (enc b) (bs.map enc) → Q (val c) H
theorem dpAll_of {K : PySem.W.Frag} {H : Hp} {β : Type} {val : β → V} {enc : β → PyData} : ∀ {bs : List β}, (∀ c ∈ bs, Dp K H (val c) (enc c)) → DpAll K H (bs.map val) (bs.map enc)
  | [], _ => .nil
  | b :: bs, h => .cons (h b (List.mem_cons_self ..)) (dpAll_of fun c m => h c (List.mem_cons_of_mem _ m))
theorem cr_maxData {X : Cx} (hc : X.calm = true) (hu : X.A.units + 64 < cLine) : CallR X (.builtin "max") (rMaxData X.K) := by
  intro pins s σ H vs us Q I r h
  obtain ⟨a, β, b, bs, val, enc, rfl, hs, hd, hal, hdp, q⟩ := h
  obtain ⟨its, rv, hl, hz⟩ := I.list hs
  obtain ⟨u, rfl, ru⟩ := vals1 r
  obtain rfl : u = Value.ref a := ru
  obtain ⟨as, hr⟩ := Dp.readsAll I _ _ _ (dpAll_of hd) rv
  refine PySem.W.max_list_data (vs := its.toArray) (x := enc b) (xs := bs.map enc) (I.ok.hd hc) hl.isList (by simpa using hr) hal (by show _ + 1 + PyData.depthAll ((b :: bs).map enc) < cLine; omega) fun i v h' tk cs hv hr' hk => ?_
  have hi : i < (b :: bs).length := by
    have h1 := (Array.getElem?_eq_some_iff.mp hv).1
    have h2 := rv.length
    rw [List.length_map] at h2
    rw [List.size_toArray] at h1
    omega
  obtain ⟨v', hv', rel⟩ := rv.get (i := i) (x := val (b :: bs)[i]) (by rw [List.getElem?_map, List.getElem?_eq_getElem hi] <;> rfl)
  have ev : v' = v := by
    have h1 : its[i]? = some v := by rw [← hv]; simp
    exact Option.some.inj (hv'.symm.trans h1)
  subst ev
  obtain ⟨ds, rd⟩ := Dp.reads I _ _ _ (hd _ (List.getElem_mem hi)) rel
  have one := (PySem.Reads.unique (PyProof.Rows.Reads.keeps hk rd) _ _ hr').1
  exact ⟨val (b :: bs)[i], H, I.kept (t' := tk) hk, rel, q _ (List.getElem_mem hi) one⟩
/-! ### an own error as a value: C(..), C's own __init__ keeping sp -/
def tMkV (C : Addr) (sp : Sp) (ta : TA) : TE := fun σ H Q => ta σ H fun vs H1 => vs.length ≤ 1000 ∧ ∀ a, H1 a = none → sp (.ref a :: vs) (upd H1 a (exo a C none)) (fun v H2 => v = .non ∧ Q (.ref a) H2) (fun _ _ _ => False)
def tMkV0 (C : Addr) (sp : Sp) : TE := fun _ H Q => ∀ a, H a = none → sp [.ref a] (upd H a (exo a C none)) (fun v H2 => v = .non ∧ Q (.ref a) H2) (fun _ _ _ => False)
section
variable {X : Cx} {e : Expr} {es : List Expr} {ta : TA} {p pos : Pos}
theorem pe_oexV {CX : CXT} {x : Str} {C fI : Addr} {k : Nat} {fd : FuncData} {ps : List Str} {sp : Sp} (T : OexC X.K C) (iC : PySem.W.findIn X.K (.ref C) "__init__" = some (some (.ref fI))) (tI : PySem.W.typeIn X.K (.ref fI) = some (.type "function"))
    (F1 : FnOk X.prog X.w X.K X.mg X.base CX k fI fd ps sp) (hr : Room (k + 1) X.A) (hb : Binds X.K fd ps []) (hx : Passes CX X (fun _ _ _ => False)) (hg : Gl X x) (hm : X.mg x = some (.ref C)) (ha : PA X (e :: es) ta)
    (hdb : (x == ("__debug__" : Str)) = false := by decide) (he : starEach (e :: es) X.env = (false, eval e X.env) :: starEach es X.env := by rfl) (hpl : (backTo pos (starEach es X.env)).any (·.1) = false := by rfl) :
    PE X (.Call (.Name x p) (e :: es) [] pos) (tMkV C sp ta) := by
  refine ⟨fun pins s σ H Q I h => ?_⟩
  obtain ⟨nm, q, N, bs, bm, sn, sub, ab, col, dd, k0, k1, k2, k3, k5, hC, hbm⟩ := T.cls
  refine wpAny_Call_Name_kw (ld_glob I hg hm ?_ hdb)
  refine PySem.W.callWith_K (h₀ := X.base) I.ok.mod.kin T.kC (thn (ha.run pos pins s σ H _ I h) fun us s1 ⟨vs, H1, I1, r1, hz, q1⟩ => ⟨I1.kIn, ?_⟩) he hpl
  show wpAny _ _ (call (.ref C) us) _ _ _
  obtain ⟨hp, g, dr, tk, os⟩ := s1
  have hsz : hp.objs.size ≤ hp.objs.size + 1 := Nat.le_succ _
  have hn : H1 (hp.objs.size + 1) = none := I1.hok.fresh hsz
  have hq := q1 (hp.objs.size + 1) hn
  have hget : ((hp.push (PySem.W.kdv_tup us)).push (PySem.HandSPX.excO C hp.objs.size)).get? (hp.objs.size + 1) = some (PySem.HandSPX.excO C hp.objs.size) := by heap_get
  have I2 : Inv X pins σ (upd H1 (hp.objs.size + 1) (exo (hp.objs.size + 1) C none)) ⟨(hp.push (PySem.W.kdv_tup us)).push (PySem.HandSPX.excO C hp.objs.size), g, dr, tk, os⟩ := I1.laid (t' := tk) (a := hp.objs.size + 1) (o := exo (hp.objs.size + 1) C none) (h' := (hp.push (PySem.W.kdv_tup us)).push (PySem.HandSPX.excO C hp.objs.size)) (fun b o e => Heap.get?_push_of_some _ (Heap.get?_push_of_some _ e)) hsz (exo_ok hget)
  have r2 : Vals (V.ref (hp.objs.size + 1) :: vs) (Value.ref (hp.objs.size + 1) :: us) := .cons rfl r1
  have hl : (Value.ref (hp.objs.size + 1) :: us ++ []).length = ps.length := by
    rw [List.append_nil]
    have e := r2.length
    rw [F1.len _ _ _ _ hq] at e
    exact e.symm
  have hus : us.length ≤ sizeLine := by
    rw [← Paired.length r1, sizeLine_eq]
    omega
  refine wpAny_call (PySem.HandSPX.call_own F.excBase_ValueError (fun Y => PySem.HandSPX.refsVE_contains Y bm hbm) (I1.kIn _ _ hC) (PySem.W.looks_findIn I1.kIn iC) (fun self => PySem.W.bind_fn I1.kIn self tI) hus
    (codeAny_mono (F1.run _ X.stack _ _ ⟨Value.ref (hp.objs.size + 1) :: us, []⟩ (Value.ref (hp.objs.size + 1) :: us) _ _ (fun _ _ _ => False) (hr.make C us []) (I2.env0.make C us []) (by have := hb _ (Value.ref (hp.objs.size + 1) :: us) I2.kIn hl; rw [List.append_nil] at this; exact this) r2 hq) fun r s' hq' => ?_))
  cases r with
  | error er => exact hx pins σ _ _ er s' I2 hq'
  | ok fl =>
    cases fl with
    | ret u =>
      obtain ⟨v, H2, J, rv, ev, q2⟩ := I2.after hq'
      subst ev
      exact ⟨rv, .ref (hp.objs.size + 1), H2, J, rfl, q2⟩
    | next => exact False.elim hq'
    | brk => exact False.elim hq'
    | cont => exact False.elim hq'
theorem pe_oexV0 {CX : CXT} {x : Str} {C fI : Addr} {k : Nat} {fd : FuncData} {ps : List Str} {sp : Sp} (T : OexC X.K C) (iC : PySem.W.findIn X.K (.ref C) "__init__" = some (some (.ref fI))) (tI : PySem.W.typeIn X.K (.ref fI) = some (.type "function"))
    (F1 : FnOk X.prog X.w X.K X.mg X.base CX k fI fd ps sp) (hr : Room (k + 1) X.A) (hb : Binds X.K fd ps []) (hx : Passes CX X (fun _ _ _ => False)) (hg : Gl X x) (hm : X.mg x = some (.ref C)) (hdb : (x == ("__debug__" : Str)) = false := by decide) :
    PE X (.Call (.Name x p) [] [] pos) (tMkV0 C sp) := by
  refine ⟨fun pins s σ H Q I h => ?_⟩
  obtain ⟨nm, q, N, bs, bm, sn, sub, ab, col, dd, k0, k1, k2, k3, k5, hC, hbm⟩ := T.cls
  refine wpAny_Call_Name_kw (ld_glob I hg hm ?_ hdb)
  refine PySem.W.callWith_K0 I.kIn T.kC ?_
  show wpAny _ _ (call (.ref C) []) _ _ _
  obtain ⟨hp, g, dr, tk, os⟩ := s
  have hsz : hp.objs.size ≤ hp.objs.size + 1 := Nat.le_succ _
  have hn : H (hp.objs.size + 1) = none := I.hok.fresh hsz
  have hq := h (hp.objs.size + 1) hn
  have hget : ((hp.push (PySem.W.kdv_tup [])).push (PySem.HandSPX.excO C hp.objs.size)).get? (hp.objs.size + 1) = some (PySem.HandSPX.excO C hp.objs.size) := by heap_get
  have I2 := I.laid (t' := tk) (a := hp.objs.size + 1) (o := exo (hp.objs.size + 1) C none) (h' := (hp.push (PySem.W.kdv_tup [])).push (PySem.HandSPX.excO C hp.objs.size)) (fun b o e => Heap.get?_push_of_some _ (Heap.get?_push_of_some _ e)) hsz (exo_ok hget)
  have r2 : Vals [V.ref (hp.objs.size + 1)] [Value.ref (hp.objs.size + 1)] := .cons rfl .nil
  have hl : [Value.ref (hp.objs.size + 1)].length = ps.length := by
    have e := r2.length
    rw [F1.len _ _ _ _ hq] at e
    exact e.symm
  refine wpAny_call (PySem.HandSPX.call_own F.excBase_ValueError (fun Y => PySem.HandSPX.refsVE_contains Y bm hbm) (I.kIn _ _ hC) (PySem.W.looks_findIn I.kIn iC) (fun self => PySem.W.bind_fn I.kIn self tI) (by rw [sizeLine_eq]; exact Nat.zero_le _)
    (codeAny_mono (F1.run _ X.stack _ _ ⟨[Value.ref (hp.objs.size + 1)], []⟩ [Value.ref (hp.objs.size + 1)] _ _ (fun _ _ _ => False) (hr.make C [] []) (I2.env0.make C [] []) (hb _ [Value.ref (hp.objs.size + 1)] I2.kIn hl) r2 hq) fun r s' hq' => ?_))
  cases r with
  | error er => exact hx pins σ _ _ er s' I2 hq'
  | ok fl =>
    cases fl with
    | ret u =>
      obtain ⟨v, H2, J, rv, ev, q2⟩ := I2.after hq'
      subst ev
      exact ⟨rv, .ref (hp.objs.size + 1), H2, J, rfl, q2⟩
    | next => exact False.elim hq'
    | brk => exact False.elim hq'
    | cont => exact False.elim hq'
end
/-! ### isinstance of an own error that is held as a value; its field -/
def rIsX (K : PySem.W.Frag) : List V → Hp → VK → Prop := fun xs H Q => ∃ (a C : Addr) (d : Option Addr) (c : V) (u : Value) (b : Bool), xs = [.ref a, c] ∧ ClsV c u ∧ H a = some (exo a C d) ∧ (∀ dx, d = some dx → ∃ fs, H dx = some (exd dx fs)) ∧ ExcC K C ∧ PySem.W.kitOne K (.ref C) u = some b ∧ Q (.bl b) H
section
variable {X : Cx} {pins : List (Addr × Obj)} {σ : L2.St} {H : Hp} {s : Shared}
theorem exo_inst {a C : Addr} {d : Option Addr} (I : Inv X pins σ H s) (ha : H a = some (exo a C d)) (hd : ∀ dx, d = some dx → ∃ fs, H dx = some (exd dx fs)) :
    ∃ (ox : Obj) (od : Option Obj), PySem.W.InstAt s.heap a ox C od := by
  obtain ⟨t1, ho⟩ := exo_at I.hok ha
  cases d with
  | none => exact ⟨_, none, ho, rfl, rfl, trivial⟩
  | some dx =>
    obtain ⟨fs, hx⟩ := hd dx rfl
    obtain ⟨mA, hns, _⟩ := exd_at I.hok hx
    obtain ⟨od, ho2, _⟩ := lookIn_ns hns
    exact ⟨_, some od, ho, rfl, rfl, ho2⟩
theorem call_isX : CallR X (.builtin "isinstance") (rIsX X.K) := by
  intro pins s σ H xs us Q I r h
  obtain ⟨a, C, d, c, u, b, rfl, k, ha, hd, T, e, q⟩ := h
  obtain ⟨u1, u2, rfl, r1, r2⟩ := vals2 r
  cases (show u1 = Value.ref a from r1)
  cases k.eq r2
  obtain ⟨ox, od, J⟩ := exo_inst I ha hd
  obtain ⟨cd, hcd, _⟩ := PySem.W.any_some T.hd
  exact PySem.W.kia_one (PySem.W.kitx_exc (by rw [hcd] <;> rfl) T.hg T.hk T.hs T.ha T.hn T.ht T.hm) I.kIn J e (fun z => nomatch z) fun tk => ⟨.bl b, H, I.tok tk, rfl, q⟩
def tExF (K : PySem.W.Frag) (n : Str) (te : TE) : TE := fun σ H Q => te σ H fun x H1 => ∃ (a C dx : Addr) (fs : List (Str × V)) (v : V), x = .ref a ∧ H1 a = some (exo a C (some dx)) ∧ H1 dx = some (exd dx fs) ∧ XfC K C ∧ PySem.W.findIn K (.ref C) n = some none ∧ fs.lookup n = some v ∧ Q v H1
theorem pe_exF {e : Expr} {te : TE} {pos : Pos} {n : Str} (he : PE X e te) (hb : attributeBase e n X.env (eval e X.env) = eval e X.env := by rfl) : PE X (.Attribute e n pos) (tExF X.K n te) := by
  refine ⟨fun pins s σ H Q I h => ?_⟩
  refine attr_of hb (thn (he.run pins s σ H _ I h) fun u s1 hh => ?_)
  obtain ⟨x, H1, I1, rx, a, C, dx, fs, v, ex, ha, hx, T, hno, l, q⟩ := hh
  subst ex
  obtain rfl : u = Value.ref a := rx
  obtain ⟨t1, ho⟩ := exo_at I1.hok ha
  obtain ⟨mA, hns, hr⟩ := exd_at I1.hok hx
  obtain ⟨od, ho2, hl⟩ := lookIn_ns hns
  obtain ⟨u, hu, ru⟩ := RelO.some_of (v := v) (o := mA n) (by rw [← l]; exact hr n)
  have J : PySem.W.InstAt s1.heap a _ C (some od) := ⟨ho, rfl, rfl, ho2⟩
  exact HandSPX.exc_get I1.kIn J T.ga T.gg T.exC (PySem.W.findObj_own T.hdC hno rfl (by rw [hl, hu])) (handed_of ru) ⟨v, H1, I1.tok _, ru, q⟩
end
def rEqOr (K : PySem.W.Frag) : R2 := fun x y H Q => rEqD K x y H Q ∨ ∃ a b kvs, x = .ref a ∧ y = .ref b ∧ H a = some (.dK kvs) ∧ H b = some (.dK kvs) ∧ (kvs.map (·.1)).Nodup ∧ (∀ p ∈ kvs, flatB p.2 = true) ∧ Q (.bl true) H
theorem op_eqOr {X : Cx} (hu : X.A.units + 64 < cLine) (h0 : X.A.units < cLine) : OpR X (compareOp .Eq) (rEqOr X.K) := by
  intro pins s σ H x y v u Q I rx ry h
  rcases h with h | h
  · exact op_eqD hu pins s σ H x y v u Q I rx ry h
  · exact op_eq_dict h0 pins s σ H x y v u Q I rx ry h
end L2
namespace My
open PySem PySem.Spec PyProof.Rows L2 Evl
theorem if_pos_of {c : Bool} {A B : Prop} (hc : c = true) (h : A) : if c = true then A else B := by
  rw [if_pos hc]
  exact h
theorem if_neg_of {c : Bool} {A B : Prop} (hc : c = false) (h : B) : if c = true then A else B := by
  rw [hc, if_neg Bool.false_ne_true]
  exact h
theorem atI0 (x : V) (xs : List V) : atI (x :: xs) 0 = some x := by
  unfold atI ixN
  rw [if_pos (by decide), if_pos (by simp only [List.length_cons]; omega)]
  rfl
theorem ixN0 (n : Nat) : ixN (n + 1) 0 = some 0 := by
  unfold ixN
  rw [if_pos (by decide), if_pos (by omega)]
  rfl
theorem atI_of {xs : List V} {i : Nat} {v : V} (h : xs[i]? = some v) : atI xs (i : Int) = some v := by
  have hi := (List.getElem?_eq_some_iff.mp h).1
  unfold atI ixN
  rw [if_pos (by omega), if_pos (by omega)]
  simpa using h
theorem seqIx0 (n : Nat) : seqIndex? 0 (n + 1) = some 0 := by
  unfold seqIndex?
  simp
theorem cutV_ints (ns : List Int) (lo hi : Option Int) : ∃ ms : List Int, cutV (ns.map V.int) lo hi = ms.map V.int ∧ ms.length ≤ ns.length := by
  unfold cutV
  refine ⟨_, by rw [← List.map_drop, ← List.map_take], ?_⟩
  rw [List.length_take, List.length_drop]
  omega
theorem ints_get {ms : List Int} {i : Nat} {y : V} (h : (ms.map V.int)[i]? = some y) : ∃ z, ms[i]? = some z ∧ y = .int z := by
  rw [List.getElem?_map] at h
  cases e : ms[i]? with
  | none =>
    rw [e] at h
    cases h
  | some z =>
    rw [e] at h
    exact ⟨z, rfl, (Option.some.inj h).symm⟩

structure Ad where
  a : Nat → Addr
  C : Nat → Addr
structure Fd where
  d : Nat → FuncData
abbrev Ad.a_BadBook_init (A : Ad) : Addr := A.a 0
abbrev Fd.d_BadBook_init (D : Fd) : FuncData := D.d 0
abbrev Ad.a_NoWork_init (A : Ad) : Addr := A.a 1
abbrev Fd.d_NoWork_init (D : Fd) : FuncData := D.d 1
abbrev Ad.a_is_integer (A : Ad) : Addr := A.a 2
abbrev Fd.d_is_integer (D : Fd) : FuncData := D.d 2
abbrev Ad.a_is_pair (A : Ad) : Addr := A.a 3
abbrev Fd.d_is_pair (D : Fd) : FuncData := D.d 3
abbrev Ad.a_Book_init (A : Ad) : Addr := A.a 4
abbrev Fd.d_Book_init (D : Fd) : FuncData := D.d 4
abbrev Ad.a_is_windows (A : Ad) : Addr := A.a 5
abbrev Fd.d_is_windows (D : Fd) : FuncData := D.d 5
abbrev Ad.a_is_window (A : Ad) : Addr := A.a 6
abbrev Fd.d_is_window (D : Fd) : FuncData := D.d 6
abbrev Ad.a_is_work (A : Ad) : Addr := A.a 7
abbrev Fd.d_is_work (D : Fd) : FuncData := D.d 7
abbrev Ad.a_middle (A : Ad) : Addr := A.a 8
abbrev Fd.d_middle (D : Fd) : FuncData := D.d 8
abbrev Ad.a_is_inside (A : Ad) : Addr := A.a 9
abbrev Fd.d_is_inside (D : Fd) : FuncData := D.d 9
abbrev Ad.a_within (A : Ad) : Addr := A.a 10
abbrev Fd.d_within (D : Fd) : FuncData := D.d 10
abbrev Ad.a_l_pool (A : Ad) : Addr := A.a 11
abbrev Fd.d_l_pool (D : Fd) : FuncData := D.d 11
abbrev Ad.a_l_draw (A : Ad) : Addr := A.a 12
abbrev Fd.d_l_draw (D : Fd) : FuncData := D.d 12
abbrev Ad.a_l_windows (A : Ad) : Addr := A.a 13
abbrev Fd.d_l_windows (D : Fd) : FuncData := D.d 13
abbrev Ad.a_l_refused (A : Ad) : Addr := A.a 14
abbrev Fd.d_l_refused (D : Fd) : FuncData := D.d 14
abbrev Ad.a_law (A : Ad) : Addr := A.a 15
abbrev Fd.d_law (D : Fd) : FuncData := D.d 15
abbrev Ad.a_NoLot_init (A : Ad) : Addr := A.a 16
abbrev Fd.d_NoLot_init (D : Fd) : FuncData := D.d 16
abbrev Ad.a_NoRow_init (A : Ad) : Addr := A.a 17
abbrev Fd.d_NoRow_init (D : Fd) : FuncData := D.d 17
abbrev Ad.a_is_row (A : Ad) : Addr := A.a 18
abbrev Fd.d_is_row (D : Fd) : FuncData := D.d 18
abbrev Ad.a_is_length_or_none (A : Ad) : Addr := A.a 19
abbrev Fd.d_is_length_or_none (D : Fd) : FuncData := D.d 19
abbrev Ad.a_is_lot (A : Ad) : Addr := A.a 20
abbrev Fd.d_is_lot (D : Fd) : FuncData := D.d 20
abbrev Ad.a_check_run (A : Ad) : Addr := A.a 21
abbrev Fd.d_check_run (D : Fd) : FuncData := D.d 21
abbrev Ad.a_is_all_in (A : Ad) : Addr := A.a 22
abbrev Fd.d_is_all_in (D : Fd) : FuncData := D.d 22
abbrev Ad.a_coming (A : Ad) : Addr := A.a 23
abbrev Fd.d_coming (D : Fd) : FuncData := D.d 23
abbrev Ad.a_steps (A : Ad) : Addr := A.a 24
abbrev Fd.d_steps (D : Fd) : FuncData := D.d 24
abbrev Ad.a_run (A : Ad) : Addr := A.a 25
abbrev Fd.d_run (D : Fd) : FuncData := D.d 25
abbrev Ad.a_l_row (A : Ad) : Addr := A.a 26
abbrev Fd.d_l_row (D : Fd) : FuncData := D.d 26
abbrev Ad.a_l_lot (A : Ad) : Addr := A.a 27
abbrev Fd.d_l_lot (D : Fd) : FuncData := D.d 27
abbrev Ad.a_l_some (A : Ad) : Addr := A.a 28
abbrev Fd.d_l_some (D : Fd) : FuncData := D.d 28
abbrev Ad.a_l_run (A : Ad) : Addr := A.a 29
abbrev Fd.d_l_run (D : Fd) : FuncData := D.d 29
abbrev Ad.a_is_served (A : Ad) : Addr := A.a 30
abbrev Fd.d_is_served (D : Fd) : FuncData := D.d 30
abbrev Ad.a_serves (A : Ad) : Addr := A.a 31
abbrev Fd.d_serves (D : Fd) : FuncData := D.d 31
abbrev Ad.a_lateness (A : Ad) : Addr := A.a 32
abbrev Fd.d_lateness (D : Fd) : FuncData := D.d 32
abbrev Ad.a_l_lateness (A : Ad) : Addr := A.a 33
abbrev Fd.d_l_lateness (D : Fd) : FuncData := D.d 33
abbrev Ad.a_l_flag (A : Ad) : Addr := A.a 34
abbrev Fd.d_l_flag (D : Fd) : FuncData := D.d 34
abbrev Ad.a_broken (A : Ad) : Addr := A.a 35
abbrev Fd.d_broken (D : Fd) : FuncData := D.d 35
abbrev Ad.a_NoNumber_init (A : Ad) : Addr := A.a 36
abbrev Fd.d_NoNumber_init (D : Fd) : FuncData := D.d 36
abbrev Ad.a_Book_eq (A : Ad) : Addr := A.a 37
abbrev Fd.d_Book_eq (D : Fd) : FuncData := D.d 37
abbrev Ad.a_unbounded (A : Ad) : Addr := A.a 38
abbrev Fd.d_unbounded (D : Fd) : FuncData := D.d 38
abbrev Ad.a_shifted (A : Ad) : Addr := A.a 39
abbrev Fd.d_shifted (D : Fd) : FuncData := D.d 39
abbrev Ad.a_last_of_all (A : Ad) : Addr := A.a 40
abbrev Fd.d_last_of_all (D : Fd) : FuncData := D.d 40
abbrev Ad.a_mirrored (A : Ad) : Addr := A.a 41
abbrev Fd.d_mirrored (D : Fd) : FuncData := D.d 41
abbrev Ad.a_NoGroup_init (A : Ad) : Addr := A.a 42
abbrev Fd.d_NoGroup_init (D : Fd) : FuncData := D.d 42
abbrev Ad.a_is_group (A : Ad) : Addr := A.a 43
abbrev Fd.d_is_group (D : Fd) : FuncData := D.d 43
abbrev Ad.a_part (A : Ad) : Addr := A.a 44
abbrev Fd.d_part (D : Fd) : FuncData := D.d 44
abbrev Ad.a_joined (A : Ad) : Addr := A.a 45
abbrev Fd.d_joined (D : Fd) : FuncData := D.d 45
abbrev Ad.a_l_main (A : Ad) : Addr := A.a 46
abbrev Fd.d_l_main (D : Fd) : FuncData := D.d 46
abbrev Ad.a_l_told (A : Ad) : Addr := A.a 47
abbrev Fd.d_l_told (D : Fd) : FuncData := D.d 47
abbrev Ad.a_l_more (A : Ad) : Addr := A.a 48
abbrev Fd.d_l_more (D : Fd) : FuncData := D.d 48
abbrev Ad.a_room (A : Ad) : Addr := A.a 49
abbrev Fd.d_room (D : Fd) : FuncData := D.d 49
abbrev Ad.a_latest_end (A : Ad) : Addr := A.a 50
abbrev Fd.d_latest_end (D : Fd) : FuncData := D.d 50
abbrev Ad.a_l_moved (A : Ad) : Addr := A.a 51
abbrev Fd.d_l_moved (D : Fd) : FuncData := D.d 51
abbrev Ad.a_is_broken (A : Ad) : Addr := A.a 52
abbrev Fd.d_is_broken (D : Fd) : FuncData := D.d 52
abbrev Ad.a_l_is_late (A : Ad) : Addr := A.a 53
abbrev Fd.d_l_is_late (D : Fd) : FuncData := D.d 53
abbrev Ad.a_l_with (A : Ad) : Addr := A.a 54
abbrev Fd.d_l_with (D : Fd) : FuncData := D.d 54
abbrev Ad.a_l_no_row (A : Ad) : Addr := A.a 55
abbrev Fd.d_l_no_row (D : Fd) : FuncData := D.d 55
abbrev Ad.a_l_no_lot (A : Ad) : Addr := A.a 56
abbrev Fd.d_l_no_lot (D : Fd) : FuncData := D.d 56
abbrev Ad.a_l_broken (A : Ad) : Addr := A.a 57
abbrev Fd.d_l_broken (D : Fd) : FuncData := D.d 57
abbrev Ad.a_is_order (A : Ad) : Addr := A.a 58
abbrev Fd.d_is_order (D : Fd) : FuncData := D.d 58
abbrev Ad.a_there (A : Ad) : Addr := A.a 59
abbrev Fd.d_there (D : Fd) : FuncData := D.d 59
abbrev Ad.a_l_deep (A : Ad) : Addr := A.a 60
abbrev Fd.d_l_deep (D : Fd) : FuncData := D.d 60
abbrev Ad.a_l_is_row (A : Ad) : Addr := A.a 61
abbrev Fd.d_l_is_row (D : Fd) : FuncData := D.d 61
abbrev Ad.a_l_is_lot (A : Ad) : Addr := A.a 62
abbrev Fd.d_l_is_lot (D : Fd) : FuncData := D.d 62
abbrev Ad.a_l_there (A : Ad) : Addr := A.a 63
abbrev Fd.d_l_there (D : Fd) : FuncData := D.d 63
abbrev Ad.a_l_bent (A : Ad) : Addr := A.a 64
abbrev Fd.d_l_bent (D : Fd) : FuncData := D.d 64
abbrev Ad.a_l_is_hour (A : Ad) : Addr := A.a 65
abbrev Fd.d_l_is_hour (D : Fd) : FuncData := D.d 65
abbrev Ad.a_l_is_window (A : Ad) : Addr := A.a 66
abbrev Fd.d_l_is_window (D : Fd) : FuncData := D.d 66
abbrev Ad.a_l_are_windows (A : Ad) : Addr := A.a 67
abbrev Fd.d_l_are_windows (D : Fd) : FuncData := D.d 67
abbrev Ad.a_NoOrder_init (A : Ad) : Addr := A.a 68
abbrev Fd.d_NoOrder_init (D : Fd) : FuncData := D.d 68
abbrev Ad.a_check_order (A : Ad) : Addr := A.a 69
abbrev Fd.d_check_order (D : Fd) : FuncData := D.d 69
abbrev Ad.a_thrown_over (A : Ad) : Addr := A.a 70
abbrev Fd.d_thrown_over (D : Fd) : FuncData := D.d 70
abbrev Ad.a_row_throws (A : Ad) : Addr := A.a 71
abbrev Fd.d_row_throws (D : Fd) : FuncData := D.d 71
abbrev Ad.a_throws (A : Ad) : Addr := A.a 72
abbrev Fd.d_throws (D : Fd) : FuncData := D.d 72
abbrev Ad.a_is_one_order (A : Ad) : Addr := A.a 73
abbrev Fd.d_is_one_order (D : Fd) : FuncData := D.d 73
abbrev Ad.a_l_within (A : Ad) : Addr := A.a 74
abbrev Fd.d_l_within (D : Fd) : FuncData := D.d 74
abbrev Ad.a_l_middle (A : Ad) : Addr := A.a 75
abbrev Fd.d_l_middle (D : Fd) : FuncData := D.d 75
abbrev Ad.a_l_throws (A : Ad) : Addr := A.a 76
abbrev Fd.d_l_throws (D : Fd) : FuncData := D.d 76
abbrev Ad.a_l_by_middles (A : Ad) : Addr := A.a 77
abbrev Fd.d_l_by_middles (D : Fd) : FuncData := D.d 77
abbrev Ad.a_l_near_order (A : Ad) : Addr := A.a 78
abbrev Fd.d_l_near_order (D : Fd) : FuncData := D.d 78
abbrev Ad.a_l_nested (A : Ad) : Addr := A.a 79
abbrev Fd.d_l_nested (D : Fd) : FuncData := D.d 79
abbrev Ad.a_l_book_windows (A : Ad) : Addr := A.a 80
abbrev Fd.d_l_book_windows (D : Fd) : FuncData := D.d 80
abbrev Ad.a_NoPrices_init (A : Ad) : Addr := A.a 81
abbrev Fd.d_NoPrices_init (D : Fd) : FuncData := D.d 81
abbrev Ad.a_Over_init (A : Ad) : Addr := A.a 82
abbrev Fd.d_Over_init (D : Fd) : FuncData := D.d 82
abbrev Ad.a_NoLength_init (A : Ad) : Addr := A.a 83
abbrev Fd.d_NoLength_init (D : Fd) : FuncData := D.d 83
abbrev Ad.a_NothingDone_init (A : Ad) : Addr := A.a 84
abbrev Fd.d_NothingDone_init (D : Fd) : FuncData := D.d 84
abbrev Ad.a_NoLine_init (A : Ad) : Addr := A.a 85
abbrev Fd.d_NoLine_init (D : Fd) : FuncData := D.d 85
abbrev Ad.a_NoBounds_init (A : Ad) : Addr := A.a 86
abbrev Fd.d_NoBounds_init (D : Fd) : FuncData := D.d 86
abbrev Ad.a_TooMany_init (A : Ad) : Addr := A.a 87
abbrev Fd.d_TooMany_init (D : Fd) : FuncData := D.d 87
abbrev Ad.a_NoRule_init (A : Ad) : Addr := A.a 88
abbrev Fd.d_NoRule_init (D : Fd) : FuncData := D.d 88
abbrev Ad.a_TooLate_init (A : Ad) : Addr := A.a 89
abbrev Fd.d_TooLate_init (D : Fd) : FuncData := D.d 89
abbrev Ad.a_BadText_init (A : Ad) : Addr := A.a 90
abbrev Fd.d_BadText_init (D : Fd) : FuncData := D.d 90
abbrev Ad.a_NoName_init (A : Ad) : Addr := A.a 91
abbrev Fd.d_NoName_init (D : Fd) : FuncData := D.d 91
abbrev Ad.a_l_made (A : Ad) : Addr := A.a 92
abbrev Fd.d_l_made (D : Fd) : FuncData := D.d 92
abbrev Ad.a_l_kinds (A : Ad) : Addr := A.a 93
abbrev Fd.d_l_kinds (D : Fd) : FuncData := D.d 93
abbrev Ad.a_l_same (A : Ad) : Addr := A.a 94
abbrev Fd.d_l_same (D : Fd) : FuncData := D.d 94
abbrev Ad.a_l_caught (A : Ad) : Addr := A.a 95
abbrev Fd.d_l_caught (D : Fd) : FuncData := D.d 95
abbrev Ad.C_BadBook (A : Ad) : Addr := A.C 0
abbrev Ad.C_NoWork (A : Ad) : Addr := A.C 1
abbrev Ad.C_Book (A : Ad) : Addr := A.C 2
abbrev Ad.C_NoLot (A : Ad) : Addr := A.C 3
abbrev Ad.C_NoRow (A : Ad) : Addr := A.C 4
abbrev Ad.C_NoNumber (A : Ad) : Addr := A.C 5
abbrev Ad.C_MiddleError (A : Ad) : Addr := A.C 6
abbrev Ad.C_NoGroup (A : Ad) : Addr := A.C 7
abbrev Ad.C_NoOrder (A : Ad) : Addr := A.C 8
abbrev Ad.C_NoPrices (A : Ad) : Addr := A.C 9
abbrev Ad.C_Over (A : Ad) : Addr := A.C 10
abbrev Ad.C_NoLength (A : Ad) : Addr := A.C 11
abbrev Ad.C_NothingDone (A : Ad) : Addr := A.C 12
abbrev Ad.C_NoLine (A : Ad) : Addr := A.C 13
abbrev Ad.C_NoBounds (A : Ad) : Addr := A.C 14
abbrev Ad.C_TooMany (A : Ad) : Addr := A.C 15
abbrev Ad.C_NoRule (A : Ad) : Addr := A.C 16
abbrev Ad.C_TooLate (A : Ad) : Addr := A.C 17
abbrev Ad.C_BadText (A : Ad) : Addr := A.C 18
abbrev Ad.C_NoName (A : Ad) : Addr := A.C 19

/-- the pool at p: its list, its cells at c -/
structure PoolAt (H : Hp) (p c : Addr) : Prop where
  ob : ∃ i j : Int, H p = some (.lst [.int i, .int j, .ref c])
  cl : ∃ ns : List Int, H c = some (.lst (ns.map V.int))
  ne : p ≠ c
def Kept (p c : Addr) (H H' : Hp) : Prop := ∀ a o, a ≠ p → a ≠ c → H a = some o → H' a = some o
structure SpDraw (vs : List V) (H : Hp) (Q : VK) : Prop where
  ex : ∃ (p c : Addr) (m : Int), vs = [.ref p, .int m] ∧ PoolAt H p c ∧ 0 < m ∧ m < 1267650600228229401496703205376 ∧
    ∀ (d : Int) (H' : Hp), 0 ≤ d → d < m → PoolAt H' p c → Kept p c H H' → Q (.int d) H'
theorem SpDraw.len {vs : List V} {H : Hp} {Q : VK} (h : SpDraw vs H Q) : vs.length = 2 := by
  obtain ⟨p, c, m, rfl, _⟩ := h.ex
  rfl
abbrev sp_l_draw (K : PySem.W.Frag) (A : Ad) : Sp := fun vs H Q _ => SpDraw vs H Q
structure SpPool (K : PySem.W.Frag) (vs : List V) (H : Hp) (Q : VK) : Prop where
  ex : ∃ (a : Addr) (ns : List Int), vs = [.ref a] ∧ SqL K H a (ns.map V.int) ∧ ns.length ≤ 63 ∧ ∀ (p c : Addr) (H' : Hp), H p = none → H c = none → PoolAt H' p c → Ex H H' → Q (.ref p) H'
theorem SpPool.len {K : PySem.W.Frag} {vs : List V} {H : Hp} {Q : VK} (h : SpPool K vs H Q) : vs.length = 1 := by
  obtain ⟨a, ns, rfl, _⟩ := h.ex
  rfl
abbrev sp_l_pool (K : PySem.W.Frag) (A : Ad) : Sp := fun vs H Q _ => SpPool K vs H Q
/-- a tuple of pairs of ints at w -/
structure WinAt (K : PySem.W.Frag) (H : Hp) (w : Addr) (ws : List (Int × Int)) : Prop where
  le : ws.length ≤ 1000
  ex : ∃ as : List Addr, SqT K H w (as.map V.ref) ∧ as.length = ws.length ∧ ∀ (i : Nat) (a : Addr) (q : Int × Int), as[i]? = some a → ws[i]? = some q → SqT K H a [.int q.1, .int q.2]
theorem WinAt.mono {K : PySem.W.Frag} {H H' : Hp} {w : Addr} {ws : List (Int × Int)} (h : WinAt K H w ws) (e : Ex H H') : WinAt K H' w ws := by
  obtain ⟨as, h1, h2, h3⟩ := h.ex
  exact ⟨h.le, ⟨as, ex_t e h1, h2, fun i a q x y => ex_t e (h3 i a q x y)⟩⟩
theorem PoolAt.mono {H H' : Hp} {p c : Addr} (h : PoolAt H p c) (e : Ex H H') : PoolAt H' p c := by
  obtain ⟨⟨i, j, h1⟩, ⟨ns, h2⟩, h3⟩ := h
  exact ⟨⟨i, j, e _ _ h1⟩, ⟨ns, e _ _ h2⟩, h3⟩
theorem Kept.refl (p c : Addr) (H : Hp) : Kept p c H H := fun _ _ _ _ h => h
theorem Kept.trans {p c : Addr} {H H1 H2 : Hp} (a : Kept p c H H1) (b : Kept p c H1 H2) : Kept p c H H2 := fun x o h1 h2 h => b x o h1 h2 (a x o h1 h2 h)
theorem kept_of {p c : Addr} {H H1 : Hp} (a : Ex H H1) : Kept p c H H1 := fun x o _ _ h => a x o h
theorem PoolAt.nep {H : Hp} {p c a : Addr} (h : PoolAt H p c) (n : H a = none) : a ≠ p := by
  obtain ⟨i, j, e⟩ := h.ob
  exact (ne_of_none e n).symm
theorem PoolAt.nec {H : Hp} {p c a : Addr} (h : PoolAt H p c) (n : H a = none) : a ≠ c := by
  obtain ⟨ns, e⟩ := h.cl
  exact (ne_of_none e n).symm
theorem PoolAt.upd {H : Hp} {p c f : Addr} {o : HO} (h : PoolAt H p c) (h1 : p ≠ f) (h2 : c ≠ f) : PoolAt (upd H f o) p c := by
  obtain ⟨⟨i, j, e1⟩, ⟨ns, e2⟩, e3⟩ := h
  exact ⟨⟨i, j, by rw [upd_ne h1]; exact e1⟩, ⟨ns, by rw [upd_ne h2]; exact e2⟩, e3⟩
def inWin (b : Int) (q : Int × Int) : Prop := 0 ≤ q.1 ∧ q.1 ≤ q.2 ∧ q.2 ≤ b
structure SpWin (K : PySem.W.Frag) (vs : List V) (H : Hp) (Q : VK) : Prop where
  ex : ∃ (p c : Addr) (n t : Int), vs = [.ref p, .int n, .int t] ∧ PoolAt H p c ∧ 0 ≤ n ∧ n ≤ 1000 ∧ 0 ≤ t ∧ t ≤ 1000000 ∧
    ∀ (w : Addr) (ws : List (Int × Int)) (H' : Hp), H w = none → WinAt K H' w ws → (ws.length : Int) = n → (∀ q ∈ ws, inWin (2 * t + n + 4) q) → PoolAt H' p c → Kept p c H H' → Q (.ref w) H'
theorem SpWin.len {K : PySem.W.Frag} {vs : List V} {H : Hp} {Q : VK} (h : SpWin K vs H Q) : vs.length = 3 := by
  obtain ⟨p, c, n, t, rfl, _⟩ := h.ex
  rfl
abbrev sp_l_windows (K : PySem.W.Frag) (A : Ad) : Sp := fun vs H Q _ => SpWin K vs H Q
/-- the list of pairs that grows at f -/
structure Grows (K : PySem.W.Frag) (H : Hp) (f : Addr) (ws : List (Int × Int)) : Prop where
  ex : ∃ as : List Addr, H f = some (.lst (as.map V.ref)) ∧ as.length = ws.length ∧ ∀ (i : Nat) (a : Addr) (q : Int × Int), as[i]? = some a → ws[i]? = some q → H a = some (.tup [.int q.1, .int q.2])
theorem Grows.mono {K : PySem.W.Frag} {H H' : Hp} {p c f : Addr} {ws : List (Int × Int)} (h : Grows K H f ws) (P : PoolAt H p c) (k : Kept p c H H') (n1 : f ≠ p) (n2 : f ≠ c) : Grows K H' f ws := by
  obtain ⟨as, h1, h2, h3⟩ := h.ex
  refine ⟨⟨as, k _ _ n1 n2 h1, h2, fun i a q x y => ?_⟩⟩
  have z := h3 i a q x y
  refine k _ _ ?_ ?_ z
  · intro e
    obtain ⟨u, v, hp⟩ := P.ob
    rw [e, hp] at z
    cases z
  · intro e
    obtain ⟨ns, hc⟩ := P.cl
    rw [e, hc] at z
    cases z
theorem Grows.add {K : PySem.W.Frag} {H : Hp} {f r : Addr} {ws : List (Int × Int)} {q : Int × Int} {as : List Addr} (h1 : H f = some (.lst (as.map V.ref))) (h2 : as.length = ws.length) (h3 : ∀ (i : Nat) (a : Addr) (q : Int × Int), as[i]? = some a → ws[i]? = some q → H a = some (.tup [.int q.1, .int q.2]))
    (hr : H r = some (.tup [.int q.1, .int q.2])) : Grows K (L2.upd H f (.lst (as.map V.ref ++ [.ref r]))) f (ws ++ [q]) := by
  have nf : ∀ {a : Addr} {xs : List V}, H a = some (.tup xs) → a ≠ f := fun {a xs} z e => by
    rw [e, h1] at z
    cases z
  refine ⟨⟨as ++ [r], by rw [upd_same, List.map_append] <;> rfl, by rw [List.length_append, List.length_append, h2] <;> rfl, fun i a q' x y => ?_⟩⟩
  by_cases hi : i < as.length
  · rw [List.getElem?_append_left hi] at x
    rw [List.getElem?_append_left (by omega)] at y
    have z := h3 i a q' x y
    rw [upd_ne (nf z)]
    exact z
  · rw [List.getElem?_append_right (by omega)] at x
    rw [List.getElem?_append_right (by omega)] at y
    have e0 : i - as.length = 0 := by
      have := (List.getElem?_eq_some_iff.mp x).1
      simp at this
      omega
    rw [e0] at x
    rw [← h2, e0] at y
    cases (Option.some.inj x)
    cases (Option.some.inj y)
    rw [upd_ne (nf hr)]
    exact hr
theorem Grows.win {K : PySem.W.Frag} {H : Hp} {f w : Addr} {ws : List (Int × Int)} {as : List Addr} (h2 : as.length = ws.length) (h3 : ∀ (i : Nat) (a : Addr) (q : Int × Int), as[i]? = some a → ws[i]? = some q → H a = some (.tup [.int q.1, .int q.2])) (nw : H w = none) (hl : ws.length ≤ 1000) :
    WinAt K (L2.upd H w (.tup (as.map V.ref))) w ws :=
  ⟨hl, ⟨as, SqT.of upd_same, h2, fun i a q x y => SqT.of (by rw [upd_ne (ne_of_none (h3 i a q x y) nw)]; exact h3 i a q x y)⟩⟩
/-! ### things -/
inductive Da where
  | non | bl (b : Bool) | int (i : Int) | str (x : Str) | lst | dic | tup (xs : List Da)
mutual
inductive Rp (K : PySem.W.Frag) (H : Hp) : V → Da → Prop
  | non : Rp K H .non .non
  | bl (b : Bool) : Rp K H (.bl b) (.bl b)
  | int (i : Int) : Rp K H (.int i) (.int i)
  | str (x : Str) : Rp K H (.str x) (.str x)
  | lst {a : Addr} {xs : List V} : SqL K H a xs → Rp K H (.ref a) .lst
  | dic {a : Addr} {kvs : List (Key × V)} : H a = some (.dK kvs) → Rp K H (.ref a) .dic
  | tup {a : Addr} {xs : List V} {ds : List Da} : SqT K H a xs → RpAll K H xs ds → Rp K H (.ref a) (.tup ds)
inductive RpAll (K : PySem.W.Frag) (H : Hp) : List V → List Da → Prop
  | nil : RpAll K H [] []
  | cons {v : V} {vs : List V} {d : Da} {ds : List Da} : Rp K H v d → RpAll K H vs ds → RpAll K H (v :: vs) (d :: ds)
end
mutual
theorem Rp.mono {K : PySem.W.Frag} {H H' : Hp} (e : Ex H H') : ∀ {v : V} {d : Da}, Rp K H v d → Rp K H' v d
  | _, _, .non => .non
  | _, _, .bl b => .bl b
  | _, _, .int i => .int i
  | _, _, .str x => .str x
  | _, _, .lst h => .lst (ex_l e h)
  | _, _, .dic h => .dic (e _ _ h)
  | _, _, .tup h r => .tup (ex_t e h) (RpAll.mono e r)
theorem RpAll.mono {K : PySem.W.Frag} {H H' : Hp} (e : Ex H H') : ∀ {vs : List V} {ds : List Da}, RpAll K H vs ds → RpAll K H' vs ds
  | _, _, .nil => .nil
  | _, _, .cons h r => .cons (Rp.mono e h) (RpAll.mono e r)
end
theorem RpAll.length {K : PySem.W.Frag} {H : Hp} : ∀ {vs : List V} {ds : List Da}, RpAll K H vs ds → vs.length = ds.length
  | _, _, .nil => rfl
  | _, _, .cons _ r => congrArg (· + 1) r.length
theorem RpAll.get {K : PySem.W.Frag} {H : Hp} : ∀ {vs : List V} {ds : List Da} {i : Nat} {v : V}, RpAll K H vs ds → vs[i]? = some v → ∃ d, ds[i]? = some d ∧ Rp K H v d
  | _, _, 0, _, .cons h _, e => by
    cases e
    exact ⟨_, rfl, h⟩
  | _, _, i + 1, _, .cons _ r, e => RpAll.get (i := i) r e
/-- what isinstance says of int, bool, tuple -/
def isI : Da → Bool | .int _ => true | .bl _ => true | _ => false
def isB : Da → Bool | .bl _ => true | _ => false
def isT : Da → Bool | .tup _ => true | _ => false
def isZ : Da → Bool | .int _ => true | _ => false
theorem isZ_eq (d : Da) : (isI d && !isB d) = isZ d := by cases d <;> rfl
theorem ty_list {K : PySem.W.Frag} {H : Hp} {a : Addr} {xs : List V} (h : SqL K H a xs) : TyX K H (.ref a) (.type "list") := by
  rcases h with (h | ⟨o, h⟩) | ⟨o, its, n, h, c, _⟩
  · exact .base (.lst h)
  · exact .base (.frz h)
  · exact .kList h c
theorem ty_tup {K : PySem.W.Frag} {H : Hp} {a : Addr} {xs : List V} (h : SqT K H a xs) : TyX K H (.ref a) (.type "tuple") := by
  rcases h with (h | ⟨o, h⟩) | ⟨o, its, n, h, c, _⟩
  · exact .base (.tup h)
  · exact .fTuple h
  · exact .kTuple h c
theorem Rp.ty {K : PySem.W.Frag} {H : Hp} {v : V} {d : Da} (h : Rp K H v d) : ∃ t, TyX K H v t ∧ PySem.W.kitOne K t (.type "int") = some (isI d) ∧ PySem.W.kitOne K t (.type "bool") = some (isB d) ∧ PySem.W.kitOne K t (.type "tuple") = some (isT d) := by
  cases h with
  | non => exact ⟨_, .base .non, kit_ty (by decide +kernel : kitB "NoneType" "int" = some false), kit_ty (by decide +kernel : kitB "NoneType" "bool" = some false), kit_ty (by decide +kernel : kitB "NoneType" "tuple" = some false)⟩
  | bl b => exact ⟨_, .base (.bl b), kit_ty (by decide +kernel : kitB "bool" "int" = some true), kit_ty (by decide +kernel : kitB "bool" "bool" = some true), kit_ty (by decide +kernel : kitB "bool" "tuple" = some false)⟩
  | int i => exact ⟨_, .base (.int i), kit_ty (by decide +kernel : kitB "int" "int" = some true), kit_ty (by decide +kernel : kitB "int" "bool" = some false), kit_ty (by decide +kernel : kitB "int" "tuple" = some false)⟩
  | str x => exact ⟨_, .base (.str x), kit_ty (by decide +kernel : kitB "str" "int" = some false), kit_ty (by decide +kernel : kitB "str" "bool" = some false), kit_ty (by decide +kernel : kitB "str" "tuple" = some false)⟩
  | lst h => exact ⟨_, ty_list h, kit_ty (by decide +kernel : kitB "list" "int" = some false), kit_ty (by decide +kernel : kitB "list" "bool" = some false), kit_ty (by decide +kernel : kitB "list" "tuple" = some false)⟩
  | dic h => exact ⟨_, .base (.dK h), kit_ty (by decide +kernel : kitB "dict" "int" = some false), kit_ty (by decide +kernel : kitB "dict" "bool" = some false), kit_ty (by decide +kernel : kitB "dict" "tuple" = some false)⟩
  | tup h r => exact ⟨_, ty_tup h, kit_ty (by decide +kernel : kitB "tuple" "int" = some false), kit_ty (by decide +kernel : kitB "tuple" "bool" = some false), kit_ty (by decide +kernel : kitB "tuple" "tuple" = some true)⟩
/-- a window, as a thing -/
def winD : Da → Bool
  | .tup [.int f, .int l] => decide (0 ≤ f) && decide (f ≤ l) && decide (l ≤ 1000000)
  | _ => false
def pairD : Da → Bool | .tup xs => decide (xs.length = 2) | _ => false
def winsD : Da → Bool
  | .tup ds => decide (1 ≤ ds.length) && decide (ds.length ≤ 40) && ds.all winD
  | _ => false
def workD (n : Nat) : Da → Bool | .int z => decide (0 ≤ z) && decide (z < (n : Int)) | _ => false
def winDa (q : Int × Int) : Da := .tup [.int q.1, .int q.2]
structure Sp1 (vs : List V) (P : V → Prop) : Prop where
  ex : ∃ x, vs = [x] ∧ P x
theorem Sp1.len {vs : List V} {P : V → Prop} (h : Sp1 vs P) : vs.length = 1 := by
  obtain ⟨x, rfl, _⟩ := h.ex
  rfl
structure Sp2 (vs : List V) (P : V → V → Prop) : Prop where
  ex : ∃ x y, vs = [x, y] ∧ P x y
theorem Sp2.len {vs : List V} {P : V → V → Prop} (h : Sp2 vs P) : vs.length = 2 := by
  obtain ⟨x, y, rfl, _⟩ := h.ex
  rfl
structure Sp3 (vs : List V) (P : V → V → V → Prop) : Prop where
  ex : ∃ x y z, vs = [x, y, z] ∧ P x y z
theorem Sp3.len {vs : List V} {P : V → V → V → Prop} (h : Sp3 vs P) : vs.length = 3 := by
  obtain ⟨x, y, z, rfl, _⟩ := h.ex
  rfl
/-- a def that judges a thing, by f -/
abbrev spJudge (K : PySem.W.Frag) (f : Da → Bool) : Sp := fun vs H Q _ => Sp1 vs fun x => ∃ d, Rp K H x d ∧ ∀ H', Ex H H' → Q (.bl (f d)) H'
abbrev sp_is_integer (K : PySem.W.Frag) (A : Ad) : Sp := spJudge K isZ
abbrev sp_is_pair (K : PySem.W.Frag) (A : Ad) : Sp := spJudge K pairD
abbrev sp_is_window (K : PySem.W.Frag) (A : Ad) : Sp := spJudge K winD
abbrev sp_is_windows (K : PySem.W.Frag) (A : Ad) : Sp := spJudge K winsD
/-- a book at b, its windows' tuple at w -/
def BookAt (C : Addr) (H : Hp) (b w : Addr) : Prop := ∃ dx, H b = some (.ins C dx [("windows", .ref w)])
theorem BookAt.mono {C : Addr} {H H' : Hp} {b w : Addr} (h : BookAt C H b w) (e : Ex H H') : BookAt C H' b w := by
  obtain ⟨dx, h⟩ := h
  exact ⟨dx, e _ _ h⟩
abbrev sp_NoWork_init (K : PySem.W.Frag) (A : Ad) : Sp := sp_pass
abbrev sp_BadBook_init (K : PySem.W.Frag) (A : Ad) : Sp := sp_pass
abbrev sp_Book_init (K : PySem.W.Frag) (A : Ad) : Sp := fun vs H Q E => Sp2 vs fun x y => ∃ (p dx : Addr) (d : Da), x = .ref p ∧ H p = some (.ins A.C_Book dx []) ∧ Rp K H y d ∧
  (winsD d = true → ∀ H', Ex H H' → Q .non (L2.upd H' p (.ins A.C_Book dx [("windows", y)]))) ∧ (winsD d = false → ∀ H', Ex H H' → E (.ref A.C_BadBook) none H')
abbrev sp_is_work (K : PySem.W.Frag) (A : Ad) : Sp := fun vs H Q _ => Sp2 vs fun x y => ∃ (b w : Addr) (ws : List (Int × Int)) (d : Da), x = .ref b ∧ BookAt A.C_Book H b w ∧ WinAt K H w ws ∧ Rp K H y d ∧ ∀ H', Ex H H' → Q (.bl (workD ws.length d)) H'
/-- a def upon a book and a work, or NoWork -/
structure OnWork (K : PySem.W.Frag) (A : Ad) (H : Hp) (x y : V) (E : XK) (G : List (Int × Int) → Nat → Prop) : Prop where
  ex : ∃ (b w : Addr) (ws : List (Int × Int)) (d : Da), x = .ref b ∧ BookAt A.C_Book H b w ∧ WinAt K H w ws ∧ Rp K H y d ∧ (workD ws.length d = false → ∀ H', Ex H H' → E (.ref A.C_NoWork) none H') ∧
    ∀ i : Nat, d = .int i → i < ws.length → G ws i
def winAt (ws : List (Int × Int)) (i : Nat) : Int × Int := ws.getD i (0, 0)
def insideB (p q : Int × Int) : Bool := decide (q.1 < p.1) && decide (p.2 < q.2)
def withinL (ws : List (Int × Int)) (i : Nat) : List V := given ws.length (fun j => insideB (winAt ws j) (winAt ws i)) (fun j => .int (j : Nat))
abbrev sp_middle (K : PySem.W.Frag) (A : Ad) : Sp := fun vs H Q E => Sp2 vs fun x y => OnWork K A H x y E fun ws i => ∀ H', Ex H H' → Q (.int ((winAt ws i).1 + (winAt ws i).2)) H'
abbrev sp_within (K : PySem.W.Frag) (A : Ad) : Sp := fun vs H Q E => Sp2 vs fun x y => OnWork K A H x y E fun ws i => ∀ p H', H p = none → Ex H H' → H' p = some (.tup (withinL ws i)) → Q (.ref p) H'
abbrev sp_is_inside (K : PySem.W.Frag) (A : Ad) : Sp := fun vs H Q _ => Sp2 vs fun x y => ∃ (a b : Addr) (p q : Int × Int), x = .ref a ∧ y = .ref b ∧ SqT K H a [.int p.1, .int p.2] ∧ SqT K H b [.int q.1, .int q.2] ∧ Q (.bl (insideB p q)) H
theorem workD_int {n : Nat} {d : Da} (h : workD n d = true) : ∃ i : Nat, d = .int i ∧ i < n := by
  cases d with
  | int z =>
    simp only [workD, Bool.and_eq_true, decide_eq_true_eq] at h
    exact ⟨z.toNat, by rw [Int.toNat_of_nonneg h.1], by omega⟩
  | _ => cases h
theorem WinAt.item {K : PySem.W.Frag} {H : Hp} {ws : List (Int × Int)} {as : List Addr} (h2 : as.length = ws.length) (h3 : ∀ (i : Nat) (a : Addr) (q : Int × Int), as[i]? = some a → ws[i]? = some q → SqT K H a [.int q.1, .int q.2]) {i : Nat} (hi : i < ws.length) :
    ∃ a, (as.map V.ref)[i]? = some (.ref a) ∧ SqT K H a [.int (winAt ws i).1, .int (winAt ws i).2] := by
  have e1 : as[i]? = some (as[i]'(by omega)) := List.getElem?_eq_getElem _
  have e2 : ws[i]? = some (ws[i]) := List.getElem?_eq_getElem _
  have e3 : winAt ws i = ws[i] := by
    unfold winAt
    rw [List.getD_eq_getElem?_getD, e2] <;> rfl
  rw [e3]
  exact ⟨_, by rw [List.getElem?_map, e1] <;> rfl, h3 i _ _ e1 e2⟩
/-! ### tuples of ints, compared -/
def dInts (l : List Int) : PyData := .tuple (l.map .int)
theorem dpAll_ints {K : PySem.W.Frag} {H : Hp} : ∀ l : List Int, DpAll K H (l.map V.int) (l.map PyData.int)
  | [] => .nil
  | i :: r => .cons (.int i) (dpAll_ints r)
theorem dp_ints {K : PySem.W.Frag} {H : Hp} {a : Addr} {l : List Int} (h : SqT K H a (l.map V.int)) : Dp K H (.ref a) (dInts l) := .tup h (dpAll_ints l)
theorem lay_ints : ∀ l : List Int, PyData.canLayAll0 (l.map .int) = true
  | [] => by simp only [List.map_nil, PyData.canLayAll0]
  | i :: r => by
    simp only [List.map_cons, PyData.canLayAll0, PyData.canLay0, lay_ints r]
    rfl
theorem deep_ints : ∀ l : List Int, PyData.depthAll (l.map .int) = 0
  | [] => by simp only [List.map_nil, PyData.depthAll]
  | i :: r => by
    simp only [List.map_cons, PyData.depthAll, PyData.depth, deep_ints r]
    rfl
theorem shaped_ints (l : List Int) : SeqAt.shaped (dInts l) = true := by
  unfold SeqAt.shaped dInts
  simp only [PyData.canLay0, PyData.depth, lay_ints, deep_ints]
  decide
theorem eqvAll_ints : ∀ l m : List Int, PyData.eqvAll (l.map .int) (m.map .int) = decide (l = m)
  | [], [] => by simp [PyData.eqvAll]
  | [], _ :: _ => by simp [PyData.eqvAll]
  | _ :: _, [] => by simp [PyData.eqvAll]
  | i :: l, j :: m => by
    simp only [List.map_cons, PyData.eqvAll, PyData.eqv, eqvAll_ints l m]
    by_cases h1 : i = j <;> by_cases h2 : l = m <;> simp [h1, h2]
theorem eqv_dInts (l m : List Int) : PyData.eqv (dInts l) (dInts m) = decide (l = m) := by
  unfold dInts
  simp only [PyData.eqv, eqvAll_ints]
theorem inV_ints (z : Int) (l : List Int) : inV (.int z) (l.map V.int) = decide (z ∈ l) := by
  unfold inV
  induction l with
  | nil => simp
  | cons i r ih =>
    rw [List.map_cons, List.any_cons, ih]
    by_cases h : i = z
    · simp [eqV, h]
    · have h' : ¬ z = i := fun e => h e.symm
      simp [eqV, h, h']
theorem flat_ints (l : List Int) : (l.map V.int).all flatV = true := by
  rw [List.all_eq_true]
  intro x hx
  obtain ⟨i, _, rfl⟩ := List.mem_map.mp hx
  rfl
theorem WinAt.rp {K : PySem.W.Frag} {H : Hp} {w : Addr} {ws : List (Int × Int)} (h : WinAt K H w ws) : Rp K H (.ref w) (.tup (ws.map winDa)) := by
  obtain ⟨_, as, h1, h2, h3⟩ := h
  refine .tup h1 ?_
  clear h1
  induction ws generalizing as with
  | nil =>
    cases as with
    | nil => exact .nil
    | cons _ _ => simp at h2
  | cons q r ih =>
    cases as with
    | nil => simp at h2
    | cons a s =>
      refine .cons (.tup (h3 0 a q rfl rfl) (.cons (.int _) (.cons (.int _) .nil))) (ih ?_ s (by simpa using h2) fun i a q x y => h3 (i + 1) a q x y)
      have : (q :: r).length ≤ 1000 := by assumption
      simp at this
      omega
theorem winsD_of {ws : List (Int × Int)} (h1 : 1 ≤ ws.length) (h2 : ws.length ≤ 40) (h3 : ∀ q ∈ ws, inWin 1000000 q) : winsD (.tup (ws.map winDa)) = true := by
  simp only [winsD, List.length_map, Bool.and_eq_true, decide_eq_true_eq, List.all_eq_true]
  refine ⟨⟨h1, h2⟩, fun x hx => ?_⟩
  obtain ⟨q, hq, rfl⟩ := List.mem_map.mp hx
  obtain ⟨a, b, c⟩ := h3 q hq
  simp [winDa, winD, a, b, c]
def withinN (ws : List (Int × Int)) (i : Nat) : List Int := ((List.range ws.length).filter fun j => insideB (winAt ws j) (winAt ws i)).map fun j => ((j : Nat) : Int)
theorem withinL_eq (ws : List (Int × Int)) (i : Nat) : withinL ws i = (withinN ws i).map V.int := by
  unfold withinL withinN given
  rw [List.map_map] <;> rfl
theorem mem_withinN {ws : List (Int × Int)} {i : Nat} {z : Int} : z ∈ withinN ws i ↔ ∃ j : Nat, z = (j : Int) ∧ j < ws.length ∧ insideB (winAt ws j) (winAt ws i) = true := by
  unfold withinN
  rw [List.mem_map]
  constructor
  · rintro ⟨j, hj, rfl⟩
    rw [List.mem_filter, List.mem_range] at hj
    exact ⟨j, rfl, hj.1, hj.2⟩
  · rintro ⟨j, rfl, h1, h2⟩
    exact ⟨j, List.mem_filter.mpr ⟨List.mem_range.mpr h1, h2⟩, rfl⟩
theorem insideB_iff {p q : Int × Int} : insideB p q = true ↔ q.1 < p.1 ∧ p.2 < q.2 := by
  unfold insideB
  rw [Bool.and_eq_true, decide_eq_true_eq, decide_eq_true_eq]
abbrev sp_l_refused (K : PySem.W.Frag) (A : Ad) : Sp := fun vs H Q _ => Sp3 vs fun x y z => ∃ (k : Int) (b w : Addr) (ws : List (Int × Int)) (d : Da), x = .int k ∧ y = .ref b ∧ BookAt A.C_Book H b w ∧ WinAt K H w ws ∧ Rp K H z d ∧ workD ws.length d = false ∧ ∀ H', Ex H H' → Q (.bl true) H'
/-- the law's own promise: the script's ints are handed in, True comes out -/
structure SpLaw (K : PySem.W.Frag) (vs : List V) (H : Hp) (Q : VK) : Prop where
  ex : ∃ (a : Addr) (ns : List Int), vs = [.ref a] ∧ SqL K H a (ns.map V.int) ∧ ns.length ≤ 63 ∧ ∀ H', Q (.bl true) H'
theorem SpLaw.len {K : PySem.W.Frag} {vs : List V} {H : Hp} {Q : VK} (h : SpLaw K vs H Q) : vs.length = 1 := by
  obtain ⟨a, ns, rfl, _⟩ := h.ex
  rfl
abbrev sp_law (K : PySem.W.Frag) (A : Ad) : Sp := fun vs H Q _ => SpLaw K vs H Q
theorem atI_three {a b c : Int} {d : Int} (h0 : 0 ≤ d) (h1 : d < 3) : ∃ t, atI [V.int a, .int b, .int c] d = some (.int t) ∧ (t = a ∨ t = b ∨ t = c) := by
  have : d = 0 ∨ d = 1 ∨ d = 2 := by omega
  rcases this with rfl | rfl | rfl
  · exact ⟨a, rfl, .inl rfl⟩
  · exact ⟨b, rfl, .inr (.inl rfl)⟩
  · exact ⟨c, rfl, .inr (.inr rfl)⟩
/-! ### rows, lots, runs -/
def daInt : Da → Int | .int z => z | _ => 0
def rowD (n : Nat) : Da → Bool
  | .tup ds => ds.all (workD n) && decide ((ds.map daInt).Nodup)
  | _ => false
def lenD : Da → Bool | .non => true | .int z => decide (0 ≤ z) | _ => false
def lotD (n : Nat) : Da → Bool
  | .tup ds => decide (ds.length = n) && ds.all lenD
  | _ => false
def isNon : Da → Bool | .non => true | _ => false
def inAt (ls : List Da) (rs : List Int) (i : Nat) : Bool := (match ls[i]? with | some d => isNon d | none => false) || decide ((i : Int) ∈ rs)
def allInD : Da → Da → Bool
  | .tup ls, .tup rs => (List.range ls.length).all (inAt ls (rs.map daInt))
  | _, _ => false
/-- 0: right, 1: no row, 2: no lot -/
def runD (n : Nat) (r l : Da) : Nat := if rowD n r = true then (if lotD n l = true ∧ allInD l r = true then 0 else 2) else 1
def smallD : Da → Prop | .tup ds => ds.length ≤ 1000 | _ => True
abbrev sp_NoRow_init (K : PySem.W.Frag) (A : Ad) : Sp := sp_pass
abbrev sp_NoLot_init (K : PySem.W.Frag) (A : Ad) : Sp := sp_pass
/-- a def that judges a thing of a book -/
structure OnBook (K : PySem.W.Frag) (A : Ad) (H : Hp) (x y : V) (G : List (Int × Int) → Da → Prop) : Prop where
  ex : ∃ (b w : Addr) (ws : List (Int × Int)) (d : Da), x = .ref b ∧ BookAt A.C_Book H b w ∧ WinAt K H w ws ∧ Rp K H y d ∧ smallD d ∧ G ws d
abbrev sp_is_row (K : PySem.W.Frag) (A : Ad) : Sp := fun vs H Q _ => Sp2 vs fun x y => OnBook K A H x y fun ws d => ∀ H', Ex H H' → Q (.bl (rowD ws.length d)) H'
abbrev sp_is_length_or_none (K : PySem.W.Frag) (A : Ad) : Sp := spJudge K lenD
abbrev sp_is_lot (K : PySem.W.Frag) (A : Ad) : Sp := fun vs H Q _ => Sp2 vs fun x y => OnBook K A H x y fun ws d => ∀ H', Ex H H' → Q (.bl (lotD ws.length d)) H'
abbrev sp_is_all_in (K : PySem.W.Frag) (A : Ad) : Sp := fun vs H Q _ => Sp2 vs fun x y => ∃ (ls rs : List Da) (zs : List Int), Rp K H x (.tup ls) ∧ Rp K H y (.tup rs) ∧ rs = zs.map .int ∧ ls.length ≤ 1000 ∧ ∀ H', Ex H H' → Q (.bl (allInD (.tup ls) (.tup rs))) H'
abbrev sp_check_run (K : PySem.W.Frag) (A : Ad) : Sp := fun vs H Q E => Sp3 vs fun x y z => ∃ (b w : Addr) (ws : List (Int × Int)) (r l : Da), x = .ref b ∧ BookAt A.C_Book H b w ∧ WinAt K H w ws ∧ Rp K H y r ∧ Rp K H z l ∧ smallD r ∧ smallD l ∧
  (runD ws.length r l = 1 → ∀ H', Ex H H' → E (.ref A.C_NoRow) none H') ∧ (runD ws.length r l = 2 → ∀ H', Ex H H' → E (.ref A.C_NoLot) none H') ∧ (runD ws.length r l = 0 → ∀ H', Ex H H' → Q .non H')
def vNat (j : Nat) : V := .int (j : Int)
def vO : Option Int → V | none => .non | some n => .int n
def dNat (j : Nat) : Da := .int (j : Int)
def dO : Option Int → Da | none => .non | some n => .int n
/-- those of the row that are there -/
def comingN (row : List Nat) (lot : List (Option Int)) : List Nat := row.filter fun j => ((lot[j]?).getD none).isSome
def lenAt (lot : List (Option Int)) (j : Nat) : Int := ((lot[j]?).getD none).getD 0
/-- (work, begin, end), from this hour on -/
def stepsF (ws : List (Int × Int)) (lot : List (Option Int)) : Int → List Nat → List (Int × Int × Int)
  | _, [] => []
  | h, j :: r =>
    let b := if (winAt ws j).1 > h then (winAt ws j).1 else h
    ((j : Int), b, b + lenAt lot j) :: stepsF ws lot (b + lenAt lot j) r
def stepsN (ws : List (Int × Int)) (row : List Nat) (lot : List (Option Int)) : List (Int × Int × Int) := stepsF ws lot 0 (comingN row lot)
def vTri (q : Int × Int × Int) : List V := [.int q.1, .int q.2.1, .int q.2.2]
/-- the addresses of triples -/
def TrisAt (K : PySem.W.Frag) (H : Hp) (as : List Addr) (ts : List (Int × Int × Int)) : Prop := as.length = ts.length ∧ ∀ (i : Nat) (a : Addr) (q : Int × Int × Int), as[i]? = some a → ts[i]? = some q → H a = some (.tup (vTri q))
theorem TrisAt.mono {K : PySem.W.Frag} {H H' : Hp} {as : List Addr} {ts : List (Int × Int × Int)} (h : TrisAt K H as ts) (e : Ex H H') : TrisAt K H' as ts := ⟨h.1, fun i a q x y => e _ _ (h.2 i a q x y)⟩
/-- a right row and a right lot of a book -/
structure Right (ws : List (Int × Int)) (row : List Nat) (lot : List (Option Int)) : Prop where
  lt : ∀ j ∈ row, j < ws.length
  nd : row.Nodup
  sz : lot.length = ws.length
  ge : ∀ n, some n ∈ lot → 0 ≤ n
  isin : ∀ j : Nat, (lot[j]?).getD none ≠ none → j ∈ row
structure RunOn (K : PySem.W.Frag) (A : Ad) (H : Hp) (x y z : V) (G : List (Int × Int) → List Nat → List (Option Int) → Prop) : Prop where
  ex : ∃ (b w : Addr) (ws : List (Int × Int)) (row : List Nat) (lot : List (Option Int)) (a c : Addr), x = .ref b ∧ y = .ref a ∧ z = .ref c ∧ BookAt A.C_Book H b w ∧ WinAt K H w ws ∧ SqT K H a (row.map vNat) ∧ SqT K H c (lot.map vO) ∧
    (∀ j ∈ row, j < ws.length) ∧ lot.length = ws.length ∧ row.length ≤ 1000 ∧ G ws row lot
abbrev sp_coming (K : PySem.W.Frag) (A : Ad) : Sp := fun vs H Q _ => Sp2 vs fun y z => ∃ (row : List Nat) (lot : List (Option Int)) (a c : Addr), y = .ref a ∧ z = .ref c ∧ SqT K H a (row.map vNat) ∧ SqT K H c (lot.map vO) ∧ (∀ j ∈ row, j < lot.length) ∧ row.length ≤ 1000 ∧ RetL ((comingN row lot).map vNat) H Q
abbrev sp_steps (K : PySem.W.Frag) (A : Ad) : Sp := fun vs H Q _ => Sp3 vs fun x y z => RunOn K A H x y z fun ws row lot => ∀ (l : Addr) (as : List Addr) (H' : Hp), H l = none → Ex H H' → H' l = some (.lst (as.map V.ref)) → TrisAt K H' as (stepsN ws row lot) → Q (.ref l) H'
abbrev sp_run (K : PySem.W.Frag) (A : Ad) : Sp := fun vs H Q E => Sp3 vs fun x y z => RunOn K A H x y z fun ws row lot => Right ws row lot ∧ ∀ (l : Addr) (as : List Addr) (H' : Hp), H l = none → Ex H H' → H' l = some (.tup (as.map V.ref)) → TrisAt K H' as (stepsN ws row lot) → Q (.ref l) H'
theorem works_ints {K : PySem.W.Frag} {H : Hp} {n : Nat} : ∀ {xs : List V} {ds : List Da}, RpAll K H xs ds → ds.all (workD n) = true → xs = (ds.map daInt).map V.int ∧ ds = (ds.map daInt).map Da.int
  | _, _, .nil, _ => ⟨rfl, rfl⟩
  | _, _, .cons h r, e => by
    rw [List.all_cons, Bool.and_eq_true] at e
    obtain ⟨e1, e2⟩ := works_ints r e.2
    obtain ⟨i, rfl, _⟩ := workD_int e.1
    cases h
    refine ⟨?_, ?_⟩
    · rw [List.map_cons, List.map_cons, ← e1] <;> rfl
    · rw [List.map_cons, List.map_cons, ← e2] <;> rfl
theorem len_le_of_nodup : ∀ {m l : List Int}, m.Nodup → (∀ k ∈ m, k ∈ l) → m.length ≤ l.length
  | [], _, _, _ => Nat.zero_le _
  | x :: r, l, nd, h => by
    have hx := h x (List.mem_cons_self ..)
    obtain ⟨n1, n2⟩ := List.nodup_cons.mp nd
    have ih := len_le_of_nodup (m := r) (l := l.erase x) n2 fun k hk => (List.mem_erase_of_ne (fun e : k = x => n1 (by rw [← e]; exact hk))).mpr (h k (List.mem_cons_of_mem _ hk))
    have := List.length_erase_of_mem hx
    have h0 : 0 < l.length := List.length_pos_of_mem hx
    rw [List.length_cons]
    omega
theorem dup_of : ∀ {l : List Int}, ¬ l.Nodup → ∃ x ∈ l, x ∈ l.erase x
  | [], h => absurd List.nodup_nil h
  | y :: r, h => by
    by_cases hy : y ∈ r
    · exact ⟨y, List.mem_cons_self .., by rw [List.erase_cons_head]; exact hy⟩
    · have hr : ¬ r.Nodup := fun n => h (List.nodup_cons.mpr ⟨hy, n⟩)
      obtain ⟨x, hx, he⟩ := dup_of hr
      refine ⟨x, List.mem_cons_of_mem _ hx, ?_⟩
      have hn : y ≠ x := fun e => hy (by rw [e]; exact hx)
      rw [List.erase_cons_tail (by simpa using hn)]
      exact List.mem_cons_of_mem _ he
theorem len_nodup {m l : List Int} (nd : m.Nodup) (h : ∀ k, k ∈ m ↔ k ∈ l) : m.length = l.length ↔ l.Nodup := by
  have h1 := len_le_of_nodup nd fun k hk => (h k).mp hk
  constructor
  · intro e
    apply Classical.byContradiction
    intro n
    obtain ⟨x, hx, he⟩ := dup_of n
    have h2 := len_le_of_nodup (l := l.erase x) nd fun k hk => by
      by_cases hkx : k = x
      · rw [hkx]
        exact he
      · exact (List.mem_erase_of_ne hkx).mpr ((h k).mp hk)
    have := List.length_erase_of_mem hx
    have h0 : 0 < l.length := List.length_pos_of_mem hx
    omega
  · intro n
    have h2 := len_le_of_nodup n fun k hk => (h k).mpr hk
    omega
theorem rp_row {K : PySem.W.Frag} {H : Hp} {a : Addr} {row : List Nat} (h : SqT K H a (row.map vNat)) : Rp K H (.ref a) (.tup (row.map dNat)) := by
  refine .tup h ?_
  clear h
  induction row with
  | nil => exact .nil
  | cons j r ih => exact .cons (.int _) ih
theorem rp_lot {K : PySem.W.Frag} {H : Hp} {a : Addr} {lot : List (Option Int)} (h : SqT K H a (lot.map vO)) : Rp K H (.ref a) (.tup (lot.map dO)) := by
  refine .tup h ?_
  clear h
  induction lot with
  | nil => exact .nil
  | cons j r ih =>
    cases j with
    | none => exact .cons .non ih
    | some n => exact .cons (.int n) ih
theorem da_row (row : List Nat) : (row.map dNat).map daInt = row.map fun j => ((j : Nat) : Int) := by
  rw [List.map_map] <;> rfl
theorem right_run {ws : List (Int × Int)} {row : List Nat} {lot : List (Option Int)} (R : Right ws row lot) : runD ws.length (.tup (row.map dNat)) (.tup (lot.map dO)) = 0 := by
  have h1 : rowD ws.length (.tup (row.map dNat)) = true := by
    simp only [rowD, Bool.and_eq_true, decide_eq_true_eq, List.all_eq_true]
    refine ⟨fun x hx => ?_, ?_⟩
    · obtain ⟨j, hj, rfl⟩ := List.mem_map.mp hx
      have := R.lt j hj
      simp [dNat, workD, this]
    · rw [da_row]
      refine List.pairwise_map.mpr (R.nd.imp fun h e => h ?_)
      omega
  have h2 : lotD ws.length (.tup (lot.map dO)) = true := by
    simp only [lotD, List.length_map, Bool.and_eq_true, decide_eq_true_eq, List.all_eq_true]
    refine ⟨R.sz, fun x hx => ?_⟩
    obtain ⟨j, hj, rfl⟩ := List.mem_map.mp hx
    cases j with
    | none => rfl
    | some n =>
      have := R.ge n hj
      simp [dO, lenD, this]
  have h3 : allInD (.tup (lot.map dO)) (.tup (row.map dNat)) = true := by
    simp only [allInD, List.all_eq_true, List.length_map]
    intro i hi
    rw [List.mem_range] at hi
    unfold inAt
    rw [da_row, List.getElem?_map]
    have e : lot[i]? = some lot[i] := List.getElem?_eq_getElem hi
    have is := R.isin i
    rw [e] at is
    rw [e]
    cases h : lot[i] with
    | none => rfl
    | some n =>
      rw [h] at is
      have : i ∈ row := is (by simp)
      simp [dO, isNon]
      exact ⟨i, this, rfl⟩
  unfold runD
  rw [if_pos h1, if_pos ⟨h2, h3⟩]
theorem TrisAt.add {K : PySem.W.Frag} {H : Hp} {f r : Addr} {xs ys : List V} {as : List Addr} {ts : List (Int × Int × Int)} {q : Int × Int × Int} (h : TrisAt K H as ts) (hf : H f = some (.lst xs)) (hr : H r = some (.tup (vTri q))) : TrisAt K (L2.upd H f (.lst ys)) (as ++ [r]) (ts ++ [q]) := by
  obtain ⟨h2, h3⟩ := h
  have nf : ∀ {a : Addr} {zs : List V}, H a = some (.tup zs) → a ≠ f := fun {a zs} z e => by
    rw [e, hf] at z
    cases z
  refine ⟨by rw [List.length_append, List.length_append, h2] <;> rfl, fun i a q' x y => ?_⟩
  by_cases hi : i < as.length
  · rw [List.getElem?_append_left hi] at x
    rw [List.getElem?_append_left (by omega)] at y
    have z := h3 i a q' x y
    rw [upd_ne (nf z)]
    exact z
  · rw [List.getElem?_append_right (by omega)] at x
    rw [List.getElem?_append_right (by omega)] at y
    have e0 : i - as.length = 0 := by
      have := (List.getElem?_eq_some_iff.mp x).1
      simp at this
      omega
    rw [e0] at x
    rw [← h2, e0] at y
    cases (Option.some.inj x)
    cases (Option.some.inj y)
    rw [upd_ne (nf hr)]
    exact hr
theorem nats_get {ms : List Nat} {i : Nat} {y : V} (h : (ms.map vNat)[i]? = some y) : ∃ z, ms[i]? = some z ∧ y = .int (z : Int) := by
  rw [List.getElem?_map] at h
  cases e : ms[i]? with
  | none =>
    rw [e] at h
    cases h
  | some z =>
    rw [e] at h
    exact ⟨z, rfl, (Option.some.inj h).symm⟩
theorem lot_at {lot : List (Option Int)} {j : Nat} (h : j < lot.length) : atI (lot.map vO) (j : Int) = some (vO ((lot[j]?).getD none)) := by
  refine atI_of ?_
  rw [List.getElem?_map, List.getElem?_eq_getElem h] <;> rfl
theorem comingN_le (row : List Nat) (lot : List (Option Int)) : (comingN row lot).length ≤ row.length := List.length_filter_le ..
theorem comingN_mem {row : List Nat} {lot : List (Option Int)} {j : Nat} (h : j ∈ comingN row lot) : j ∈ row ∧ ∃ n, (lot[j]?).getD none = some n := by
  obtain ⟨h1, h2⟩ := List.mem_filter.mp h
  exact ⟨h1, Option.isSome_iff_exists.mp h2⟩
theorem drop_of {α : Type} {l : List α} {i : Nat} {x : α} (h : l[i]? = some x) : l.drop i = x :: l.drop (i + 1) := by
  obtain ⟨hi, e⟩ := List.getElem?_eq_some_iff.mp h
  rw [List.drop_eq_getElem_cons hi, e]
/-! ### the law's own drawn rows and lots -/
theorem sqt_kept {K : PySem.W.Frag} {H H' : Hp} {p c a : Addr} {xs : List V} (h : SqT K H a xs) (P : PoolAt H p c) (k : Kept p c H H') : SqT K H' a xs := by
  have ne : ∀ {o : HO}, H a = some o → (∀ ys, o ≠ .lst ys) → a ≠ p ∧ a ≠ c := fun {o} e n => by
    constructor
    · intro z
      obtain ⟨i, j, q⟩ := P.ob
      rw [z, q] at e
      exact n _ (Option.some.inj e).symm
    · intro z
      obtain ⟨ns, q⟩ := P.cl
      rw [z, q] at e
      exact n _ (Option.some.inj e).symm
  rcases h with (h | ⟨o, h⟩) | h
  · have q := ne h (fun ys z => by cases z)
    exact .inl (.inl (k _ _ q.1 q.2 h))
  · have q := ne h (fun ys z => by cases z)
    exact .inl (.inr ⟨o, k _ _ q.1 q.2 h⟩)
  · exact .inr h
theorem WinAt.kept {K : PySem.W.Frag} {H H' : Hp} {p c w : Addr} {ws : List (Int × Int)} (h : WinAt K H w ws) (P : PoolAt H p c) (k : Kept p c H H') : WinAt K H' w ws := by
  obtain ⟨hl, as, h1, h2, h3⟩ := h
  exact ⟨hl, ⟨as, sqt_kept h1 P k, h2, fun i a q x y => sqt_kept (h3 i a q x y) P k⟩⟩
theorem BookAt.kept {C : Addr} {H H' : Hp} {p c b w : Addr} (h : BookAt C H b w) (P : PoolAt H p c) (k : Kept p c H H') : BookAt C H' b w := by
  obtain ⟨dx, h⟩ := h
  refine ⟨dx, k _ _ ?_ ?_ h⟩
  · intro z
    obtain ⟨i, j, q⟩ := P.ob
    rw [z, q] at h
    cases h
  · intro z
    obtain ⟨ns, q⟩ := P.cl
    rw [z, q] at h
    cases h
theorem free_kept {H H' : Hp} {p c a : Addr} (P : PoolAt H' p c) (k : Kept p c H H') (n : H' a = none) : H a = none := by
  cases e : H a with
  | none => rfl
  | some o =>
    rw [k a o (P.nep n) (P.nec n) e] at n
    cases n
/-- a list or a tuple of works, told by numbers, not of the pool -/
def WorksAt (K : PySem.W.Frag) (H : Hp) (p c a : Addr) (row : List Nat) : Prop := SqT K H a (row.map vNat) ∨ (H a = some (.lst (row.map vNat)) ∧ a ≠ p ∧ a ≠ c)
theorem WorksAt.kept {K : PySem.W.Frag} {H H' : Hp} {p c a : Addr} {row : List Nat} (h : WorksAt K H p c a row) (P : PoolAt H p c) (k : Kept p c H H') : WorksAt K H' p c a row := by
  rcases h with h | ⟨h, n1, n2⟩
  · exact .inl (sqt_kept h P k)
  · exact .inr ⟨k _ _ n1 n2 h, n1, n2⟩
theorem WorksAt.mono {K : PySem.W.Frag} {H H' : Hp} {p c a : Addr} {row : List Nat} (h : WorksAt K H p c a row) (e : Ex H H') : WorksAt K H' p c a row := by
  rcases h with h | ⟨h, n1, n2⟩
  · exact .inl (ex_t e h)
  · exact .inr ⟨e _ _ h, n1, n2⟩
theorem WorksAt.seq {K : PySem.W.Frag} {H : Hp} {p c a : Addr} {row : List Nat} (h : WorksAt K H p c a row) : SqL K H a (row.map vNat) ∨ SqT K H a (row.map vNat) := by
  rcases h with h | ⟨h, _⟩
  · exact .inr h
  · exact .inl (SqL.of h)
abbrev sp_l_row (K : PySem.W.Frag) (A : Ad) : Sp := fun vs H Q _ => Sp2 vs fun x y => ∃ (p c a : Addr) (row : List Nat), x = .ref p ∧ y = .ref a ∧ PoolAt H p c ∧ WorksAt K H p c a row ∧ row.length ≤ 1000 ∧
  ∀ (w : Addr) (out : List Nat) (H' : Hp), H w = none → out.Perm row → H' w = some (.tup (out.map vNat)) → PoolAt H' p c → Kept p c H H' → Q (.ref w) H'
abbrev sp_l_some (K : PySem.W.Frag) (A : Ad) : Sp := fun vs H Q _ => Sp2 vs fun x y => ∃ (p c : Addr) (n : Nat), x = .ref p ∧ y = .int (n : Int) ∧ PoolAt H p c ∧ n ≤ 1000 ∧
  ∀ (w : Addr) (out : List Nat) (H' : Hp), H w = none → (∀ j ∈ out, j < n) → out.Nodup → H' w = some (.tup (out.map vNat)) → PoolAt H' p c → Kept p c H H' → Q (.ref w) H'
abbrev sp_l_lot (K : PySem.W.Frag) (A : Ad) : Sp := fun vs H Q _ => Sp3 vs fun x y z => ∃ (p c w a : Addr) (ws : List (Int × Int)) (row : List Nat), x = .ref p ∧ y = .ref w ∧ z = .ref a ∧ PoolAt H p c ∧ WinAt K H w ws ∧ WorksAt K H p c a row ∧ (∀ q ∈ ws, inWin 1000000 q) ∧
  ∀ (l : Addr) (lot : List (Option Int)) (H' : Hp), H l = none → lot.length = ws.length → (∀ n, some n ∈ lot → 0 ≤ n ∧ n ≤ 1000001) → (∀ j : Nat, j < ws.length → ((lot[j]?).getD none ≠ none ↔ j ∈ row)) → H' l = some (.tup (lot.map vO)) → PoolAt H' p c → Kept p c H H' → Q (.ref l) H'
abbrev sp_l_run (K : PySem.W.Frag) (A : Ad) : Sp := fun vs H Q _ => Sp3 vs fun x y z => ∃ (w a c : Addr) (ws : List (Int × Int)) (row : List Nat) (lot : List (Option Int)), x = .ref w ∧ y = .ref a ∧ z = .ref c ∧ WinAt K H w ws ∧ SqT K H a (row.map vNat) ∧ SqT K H c (lot.map vO) ∧
  (∀ j ∈ row, j < ws.length) ∧ lot.length = ws.length ∧ row.length ≤ 1000 ∧ ∀ (l : Addr) (as : List Addr) (H' : Hp), H l = none → Ex H H' → H' l = some (.lst (as.map V.ref)) → TrisAt K H' as (stepsN ws row lot) → Q (.ref l) H'
theorem seqIx_of {d : Int} {n : Nat} (h0 : 0 ≤ d) (h1 : d < n) : seqIndex? d n = some d.toNat := by
  unfold seqIndex?
  simp [h0, h1, show ¬ d < 0 by omega]
theorem inV_nats (z : Nat) (l : List Nat) : inV (.int (z : Int)) (l.map vNat) = decide (z ∈ l) := by
  unfold inV
  induction l with
  | nil => simp
  | cons i r ih =>
    rw [List.map_cons, List.any_cons, ih]
    by_cases h : i = z
    · simp [eqV, vNat, h]
    · have h' : ¬ z = i := fun e => h e.symm
      have h2 : ¬ ((i : Int) = (z : Int)) := by omega
      simp [eqV, vNat, h', h2]
theorem flat_nats (l : List Nat) : (l.map vNat).all flatV = true := by
  rw [List.all_eq_true]
  intro x hx
  obtain ⟨i, _, rfl⟩ := List.mem_map.mp hx
  rfl
theorem fdiv_two {n : Int} (h0 : 0 ≤ n) : 0 ≤ n / 2 ∧ n / 2 ≤ n := by omega
theorem map_eraseIdx' {α β : Type} (f : α → β) : ∀ (l : List α) (k : Nat), (l.map f).eraseIdx k = (l.eraseIdx k).map f
  | [], _ => rfl
  | _ :: _, 0 => rfl
  | a :: l, k + 1 => congrArg (f a :: ·) (map_eraseIdx' f l k)
theorem perm_eraseIdx : ∀ {l : List Nat} {k : Nat} (h : k < l.length), (l[k] :: l.eraseIdx k).Perm l
  | a :: l, 0, _ => List.Perm.refl _
  | a :: l, k + 1, h => (List.Perm.swap a (l[k]'(by simpa using h)) (l.eraseIdx k)).trans ((perm_eraseIdx (l := l) (k := k) (by simpa using h)).cons a)
/-! ### tuples of triples, compared -/
def dTri (q : Int × Int × Int) : PyData := .tuple [.int q.1, .int q.2.1, .int q.2.2]
def dTris (ts : List (Int × Int × Int)) : PyData := .tuple (ts.map dTri)
theorem dp_tris {K : PySem.W.Frag} {H : Hp} {l : Addr} {as : List Addr} {ts : List (Int × Int × Int)} (h : SqT K H l (as.map V.ref)) (t : TrisAt K H as ts) : Dp K H (.ref l) (dTris ts) := by
  refine .tup h ?_
  obtain ⟨t1, t2⟩ := t
  clear h
  induction ts generalizing as with
  | nil =>
    cases as with
    | nil => exact .nil
    | cons _ _ => simp at t1
  | cons q r ih =>
    cases as with
    | nil => simp at t1
    | cons a s => exact .cons (.tup (SqT.of (t2 0 a q rfl rfl)) (.cons (.int _) (.cons (.int _) (.cons (.int _) .nil)))) (ih (by simpa using t1) fun i a q x y => t2 (i + 1) a q x y)
theorem lay_tris : ∀ ts : List (Int × Int × Int), PyData.canLayAll0 (ts.map dTri) = true
  | [] => by simp only [List.map_nil, PyData.canLayAll0]
  | q :: r => by
    simp only [List.map_cons, PyData.canLayAll0, dTri, PyData.canLay0, lay_tris r]
    rfl
theorem deep_tris : ∀ ts : List (Int × Int × Int), PyData.depthAll (ts.map dTri) ≤ 1
  | [] => by simp only [List.map_nil, PyData.depthAll]; omega
  | q :: r => by
    have := deep_tris r
    simp only [List.map_cons, PyData.depthAll, dTri, PyData.depth]
    omega
theorem shaped_tris (ts : List (Int × Int × Int)) : SeqAt.shaped (dTris ts) = true := by
  have h := deep_tris ts
  unfold SeqAt.shaped dTris
  have e1 : PyData.canLay0 (.tuple (ts.map dTri)) = true := by simp only [PyData.canLay0, lay_tris]
  rw [e1, Bool.true_and]
  apply decide_eq_true
  simp only [PyData.depth]
  omega
theorem eqv_tris (ts : List (Int × Int × Int)) : PyData.eqv (dTris ts) (dTris ts) = true := SeqAt.eqv_refl _ (by
  unfold dTris
  simp only [PyData.canLay0, lay_tris])
theorem comingN_self (row : List Nat) (lot : List (Option Int)) : comingN (comingN row lot) lot = comingN row lot := by
  unfold comingN
  rw [List.filter_filter]
  congr 1
  funext j
  rw [Bool.and_self]
theorem comingN_app (r s : List Nat) (lot : List (Option Int)) : comingN (r ++ s) lot = comingN r lot ++ comingN s lot := List.filter_append ..
theorem comingN_away {r : List Nat} {lot : List (Option Int)} (h : ∀ j ∈ r, (lot[j]?).getD none = none) : comingN r lot = [] := by
  unfold comingN
  rw [List.filter_eq_nil_iff]
  intro j hj
  rw [h j hj]
  exact Bool.false_ne_true
theorem cat_read {K : PySem.W.Frag} {H : Hp} {a b : Addr} {xs ys : List V} {Q : VK} (ha : SqT K H a xs) (hb : SqT K H b ys) (hl : xs.length + ys.length ≤ 2000) (k : ∀ r H', Ex H H' → SqT K H' r (xs ++ ys) → Q (.ref r) H') : rCatA K (.ref a) (.ref b) H Q := by
  refine ⟨a, b, xs, ys, rfl, rfl, ha, hb, sz_of (by omega), fun e => ?_, fun _ e => ?_, fun _ _ p np => k p _ (Ex.new np) (SqT.of upd_same)⟩
  · refine k b H (Ex.refl H) ?_
    rw [e, List.nil_append]
    exact hb
  · refine k a H (Ex.refl H) ?_
    rw [e, List.append_nil]
    exact ha
theorem map_setO (lot : List (Option Int)) (j : Nat) (d : Int) : (lot.map vO).set j (.int d) = (lot.set j (some d)).map vO := by
  rw [List.map_set] <;> rfl
/-- a lot just of these works -/
structure LotOf (ws : List (Int × Int)) (works : List Nat) (lot : List (Option Int)) : Prop where
  sz : lot.length = ws.length
  ge : ∀ n, some n ∈ lot → 0 ≤ n
  isin : ∀ j : Nat, j < ws.length → ((lot[j]?).getD none ≠ none ↔ j ∈ works)
theorem LotOf.out {ws : List (Int × Int)} {works : List Nat} {lot : List (Option Int)} (L : LotOf ws works lot) {j : Nat} (h : (lot[j]?).getD none ≠ none) : j < ws.length ∧ j ∈ works := by
  have hj : j < ws.length := by
    rw [← L.sz]
    apply Classical.byContradiction
    intro n
    rw [List.getElem?_eq_none (by omega)] at h
    exact h rfl
  exact ⟨hj, (L.isin j hj).mp h⟩
theorem LotOf.set {ws : List (Int × Int)} {works : List Nat} {lot : List (Option Int)} (L : LotOf ws works lot) {j : Nat} {d : Int} (hj : j ∈ works) (hd : 0 ≤ d) : LotOf ws works (lot.set j (some d)) := by
  refine ⟨by rw [List.length_set]; exact L.sz, fun n hn => ?_, fun i hi => ?_⟩
  · rcases List.mem_or_eq_of_mem_set hn with h | h
    · exact L.ge n h
    · cases h
      exact hd
  · by_cases e : j = i
    · subst e
      rw [List.getElem?_set_self (by rw [L.sz]; exact hi)]
      exact ⟨fun _ => hj, fun _ => by simp⟩
    · rw [List.getElem?_set_ne e]
      exact L.isin i hi
theorem LotOf.right {ws : List (Int × Int)} {works row : List Nat} {lot : List (Option Int)} (L : LotOf ws works lot) (h1 : ∀ j ∈ row, j < ws.length) (h2 : row.Nodup) (h3 : ∀ j ∈ works, j ∈ row) : Right ws row lot :=
  ⟨h1, h2, L.sz, L.ge, fun j h => h3 j (L.out h).2⟩
theorem flat_none : ∀ m : Nat, (List.replicate m [V.non]).flatten = (List.replicate m (none : Option Int)).map vO
  | 0 => rfl
  | m + 1 => by
    rw [List.replicate_succ, List.replicate_succ, List.flatten_cons, flat_none m]
    rfl
/-! ### lateness -/
def maxL : List Int → Option Int
  | [] => none
  | a :: r => some (r.foldl (fun m k => if k > m then k else m) a)
theorem foldl_max (r : List Int) : ∀ a : Int, (r.foldl (fun m k => if k > m then k else m) a ∈ a :: r) ∧ ∀ k ∈ a :: r, k ≤ r.foldl (fun m k => if k > m then k else m) a := by
  induction r with
  | nil => intro a; exact ⟨List.mem_cons_self .., fun k hk => by cases List.mem_singleton.mp hk; exact Int.le_refl _⟩
  | cons b r ih =>
    intro a
    obtain ⟨h1, h2⟩ := ih (if b > a then b else a)
    rw [List.foldl_cons]
    refine ⟨?_, fun k hk => ?_⟩
    · rcases List.mem_cons.mp h1 with h | h
      · rw [h]
        split <;> simp
      · exact List.mem_cons_of_mem _ (List.mem_cons_of_mem _ h)
    · have hm := h2 _ (List.mem_cons_self ..)
      rcases List.mem_cons.mp hk with h | h
      · subst h
        refine Int.le_trans ?_ hm
        split <;> omega
      · rcases List.mem_cons.mp h with h | h
        · subst h
          refine Int.le_trans ?_ hm
          split <;> omega
        · exact h2 k (List.mem_cons_of_mem _ h)
theorem maxL_some {l : List Int} {m : Int} (h : maxL l = some m) : m ∈ l ∧ ∀ k ∈ l, k ≤ m := by
  cases l with
  | nil => cases h
  | cons a r =>
    cases h
    exact foldl_max r a
theorem maxL_of {l : List Int} {m : Int} (h1 : m ∈ l) (h2 : ∀ k ∈ l, k ≤ m) : maxL l = some m := by
  cases l with
  | nil => cases h1
  | cons a r =>
    obtain ⟨g1, g2⟩ := foldl_max r a
    have e : r.foldl (fun m k => if k > m then k else m) a = m := Int.le_antisymm (h2 _ g1) (g2 _ h1)
    show some _ = some m
    rw [e]
theorem maxL_none {l : List Int} : maxL l = none ↔ l = [] := by
  cases l with
  | nil => exact ⟨fun _ => rfl, fun _ => rfl⟩
  | cons a r => exact ⟨fun h => (by cases h), fun h => (by cases h)⟩
def lateAt (ws : List (Int × Int)) (q : Int × Int × Int) : Int := q.2.2 - (winAt ws q.1.toNat).2
def latesN (ws : List (Int × Int)) (ts : List (Int × Int × Int)) : List Int := ts.map (lateAt ws)
def inTime (ws : List (Int × Int)) (q : Int × Int × Int) : Bool := decide (q.2.2 ≤ (winAt ws q.1.toNat).2)
def servesB (ws : List (Int × Int)) (ts : List (Int × Int × Int)) : Bool := (ts.map (inTime ws)).all id
abbrev sp_is_served (K : PySem.W.Frag) (A : Ad) : Sp := fun vs H Q _ => Sp3 vs fun x y z => RunOn K A H x y z fun ws row lot => ∀ H', Ex H H' → Q (.bl (servesB ws (stepsN ws row lot))) H'
abbrev sp_serves (K : PySem.W.Frag) (A : Ad) : Sp := fun vs H Q E => Sp3 vs fun x y z => RunOn K A H x y z fun ws row lot => Right ws row lot ∧ ∀ H', Ex H H' → Q (.bl (servesB ws (stepsN ws row lot))) H'
abbrev sp_lateness (K : PySem.W.Frag) (A : Ad) : Sp := fun vs H Q E => Sp3 vs fun x y z => RunOn K A H x y z fun ws row lot => Right ws row lot ∧ ∀ H', Ex H H' → Q (vO (maxL (latesN ws (stepsN ws row lot)))) H'
abbrev sp_l_lateness (K : PySem.W.Frag) (A : Ad) : Sp := fun vs H Q _ => Sp3 vs fun x y z => ∃ (w a c : Addr) (ws : List (Int × Int)) (row : List Nat) (lot : List (Option Int)), x = .ref w ∧ y = .ref a ∧ z = .ref c ∧ WinAt K H w ws ∧ SqT K H a (row.map vNat) ∧ SqT K H c (lot.map vO) ∧
  (∀ j ∈ row, j < ws.length) ∧ lot.length = ws.length ∧ row.length ≤ 1000 ∧ ∀ H', Ex H H' → Q (vO (maxL (latesN ws (stepsN ws row lot)))) H'
abbrev sp_l_flag (K : PySem.W.Frag) (A : Ad) : Sp := fun vs H Q _ => Sp2 vs fun x y => ∃ a b : Bool, x = .bl a ∧ y = .bl b ∧ Q (.bl (decide (a = b))) H
theorem stepsF_len (ws : List (Int × Int)) (lot : List (Option Int)) : ∀ (l : List Nat) (h : Int), (stepsF ws lot h l).length = l.length
  | [], _ => rfl
  | j :: r, h => by
    show (stepsF ws lot _ r).length + 1 = r.length + 1
    rw [stepsF_len ws lot r]
theorem stepsF_mem {ws : List (Int × Int)} {lot : List (Option Int)} : ∀ {l : List Nat} {h : Int} {q : Int × Int × Int}, q ∈ stepsF ws lot h l → ∃ j ∈ l, q.1 = (j : Int)
  | [], _, _, hq => by cases hq
  | j :: r, h, q, hq => by
    rcases List.mem_cons.mp hq with e | hq
    · exact ⟨j, List.mem_cons_self .., by rw [e]⟩
    · obtain ⟨i, hi, e⟩ := stepsF_mem (l := r) hq
      exact ⟨i, List.mem_cons_of_mem _ hi, e⟩
theorem steps_len {ws : List (Int × Int)} {row : List Nat} {lot : List (Option Int)} : (stepsN ws row lot).length ≤ row.length := by
  unfold stepsN
  rw [stepsF_len]
  exact comingN_le row lot
theorem steps_work {ws : List (Int × Int)} {row : List Nat} {lot : List (Option Int)} (h : ∀ j ∈ row, j < ws.length) {q : Int × Int × Int} (hq : q ∈ stepsN ws row lot) : ∃ j : Nat, q.1 = (j : Int) ∧ j < ws.length := by
  obtain ⟨j, hj, e⟩ := stepsF_mem hq
  exact ⟨j, e, h j (comingN_mem hj).1⟩
/-! ### shorter, fewer, longer -/
theorem lates_mono {ws : List (Int × Int)} {A B : List (Option Int)} (p : Nat → Bool) : ∀ (l : List Nat) (h1 h2 : Int), h1 ≤ h2 → (∀ j ∈ l, 0 ≤ lenAt B j) → (∀ j ∈ l, p j = true → lenAt A j ≤ lenAt B j) → ∀ x ∈ latesN ws (stepsF ws A h1 (l.filter p)), ∃ y ∈ latesN ws (stepsF ws B h2 l), x ≤ y
  | [], _, _, _, _, _, x, hx => by cases hx
  | j :: r, h1, h2, hh, g0, g1, x, hx => by
    have b0 := g0 j (List.mem_cons_self ..)
    have ih := fun h1 h2 hh => lates_mono (ws := ws) p r h1 h2 hh (fun i hi => g0 i (List.mem_cons_of_mem _ hi)) (fun i hi => g1 i (List.mem_cons_of_mem _ hi))
    cases hp : p j with
    | false =>
      rw [List.filter_cons_of_neg (by rw [hp]; exact Bool.false_ne_true)] at hx
      obtain ⟨y, hy, e⟩ := ih h1 ((if (winAt ws j).1 > h2 then (winAt ws j).1 else h2) + lenAt B j) (by split <;> omega) x hx
      exact ⟨y, List.mem_cons_of_mem _ hy, e⟩
    | true =>
      rw [List.filter_cons_of_pos hp] at hx
      have a1 := g1 j (List.mem_cons_self ..) hp
      have m : (if (winAt ws j).1 > h1 then (winAt ws j).1 else h1) + lenAt A j ≤ (if (winAt ws j).1 > h2 then (winAt ws j).1 else h2) + lenAt B j := by split <;> split <;> omega
      rcases List.mem_cons.mp hx with e | hx
      · refine ⟨_, List.mem_cons_self .., ?_⟩
        rw [e]
        exact Int.sub_le_sub_right m _
      · obtain ⟨y, hy, e⟩ := ih _ _ m x hx
        exact ⟨y, List.mem_cons_of_mem _ hy, e⟩
theorem lates_more {ws : List (Int × Int)} {A B : List (Option Int)} : ∀ (l : List Nat) (h1 h2 : Int), h1 ≤ h2 → (∀ j ∈ l, lenAt A j + 1 ≤ lenAt B j) → ∀ x ∈ latesN ws (stepsF ws A h1 l), ∃ y ∈ latesN ws (stepsF ws B h2 l), x + 1 ≤ y
  | [], _, _, _, _, x, hx => by cases hx
  | j :: r, h1, h2, hh, g1, x, hx => by
    have a1 := g1 j (List.mem_cons_self ..)
    have m : (if (winAt ws j).1 > h1 then (winAt ws j).1 else h1) + lenAt A j + 1 ≤ (if (winAt ws j).1 > h2 then (winAt ws j).1 else h2) + lenAt B j := by split <;> split <;> omega
    rcases List.mem_cons.mp hx with e | hx
    · refine ⟨_, List.mem_cons_self .., ?_⟩
      rw [e]
      show ((if (winAt ws j).1 > h1 then (winAt ws j).1 else h1) + lenAt A j) - (winAt ws ((j : Int)).toNat).2 + 1 ≤ ((if (winAt ws j).1 > h2 then (winAt ws j).1 else h2) + lenAt B j) - (winAt ws ((j : Int)).toNat).2
      generalize (if (winAt ws j).1 > h1 then (winAt ws j).1 else h1) + lenAt A j = u at m
      generalize (if (winAt ws j).1 > h2 then (winAt ws j).1 else h2) + lenAt B j = v at m
      omega
    · have m' : (if (winAt ws j).1 > h1 then (winAt ws j).1 else h1) + lenAt A j ≤ (if (winAt ws j).1 > h2 then (winAt ws j).1 else h2) + lenAt B j := by
        generalize (if (winAt ws j).1 > h1 then (winAt ws j).1 else h1) + lenAt A j = u at m ⊢
        generalize (if (winAt ws j).1 > h2 then (winAt ws j).1 else h2) + lenAt B j = v at m ⊢
        omega
      obtain ⟨y, hy, e⟩ := lates_more r _ _ m' (fun i hi => g1 i (List.mem_cons_of_mem _ hi)) x hx
      exact ⟨y, List.mem_cons_of_mem _ hy, e⟩
def dueN (ws : List (Int × Int)) (row : List Nat) (lot : List (Option Int)) : Option Int := maxL (latesN ws (stepsN ws row lot))
theorem due_none {ws : List (Int × Int)} {row : List Nat} {lot : List (Option Int)} : dueN ws row lot = none ↔ comingN row lot = [] := by
  unfold dueN
  rw [maxL_none]
  have e : (latesN ws (stepsN ws row lot)).length = (comingN row lot).length := by
    unfold latesN stepsN
    rw [List.length_map, stepsF_len]
  rw [← List.length_eq_zero_iff, ← List.length_eq_zero_iff, e]
theorem due_le {ws : List (Int × Int)} {row : List Nat} {A B : List (Option Int)} (p : Nat → Bool) (hc : comingN row A = (comingN row B).filter p) (g0 : ∀ j ∈ comingN row B, 0 ≤ lenAt B j) (g1 : ∀ j ∈ comingN row B, p j = true → lenAt A j ≤ lenAt B j) {m n : Int} (hm : dueN ws row A = some m) (hn : dueN ws row B = some n) : m ≤ n := by
  obtain ⟨m1, _⟩ := maxL_some hm
  unfold stepsN at m1
  rw [hc] at m1
  obtain ⟨y, hy, e⟩ := lates_mono p _ _ _ (Int.le_refl 0) g0 g1 m m1
  exact Int.le_trans e ((maxL_some hn).2 y hy)
theorem due_lt {ws : List (Int × Int)} {row : List Nat} {A B : List (Option Int)} (hc : comingN row A = comingN row B) (g1 : ∀ j ∈ comingN row B, lenAt A j + 1 ≤ lenAt B j) {m n : Int} (hm : dueN ws row A = some m) (hn : dueN ws row B = some n) : m < n := by
  obtain ⟨m1, _⟩ := maxL_some hm
  unfold stepsN at m1
  rw [hc] at m1
  obtain ⟨y, hy, e⟩ := lates_more _ _ _ (Int.le_refl 0) g1 m m1
  have := (maxL_some hn).2 y hy
  omega
theorem serves_due {ws : List (Int × Int)} {row : List Nat} {lot : List (Option Int)} : servesB ws (stepsN ws row lot) = (match dueN ws row lot with | none => true | some m => decide (m ≤ 0)) := by
  have key : servesB ws (stepsN ws row lot) = true ↔ ∀ x ∈ latesN ws (stepsN ws row lot), x ≤ 0 := by
    unfold servesB latesN
    rw [List.all_eq_true]
    constructor
    · intro h x hx
      obtain ⟨q, hq, rfl⟩ := List.mem_map.mp hx
      have := h _ (List.mem_map_of_mem (f := inTime ws) hq)
      have t : q.2.2 ≤ (winAt ws q.1.toNat).2 := of_decide_eq_true this
      unfold lateAt
      omega
    · intro h x hx
      obtain ⟨q, hq, rfl⟩ := List.mem_map.mp hx
      have := h _ (List.mem_map_of_mem (f := lateAt ws) hq)
      unfold lateAt at this
      exact decide_eq_true (by omega)
  cases hd : dueN ws row lot with
  | none =>
    refine key.mpr fun x hx => ?_
    rw [maxL_none.mp hd] at hx
    cases hx
  | some m =>
    obtain ⟨m1, m2⟩ := maxL_some hd
    show _ = decide (m ≤ 0)
    rw [Bool.eq_iff_iff, key, decide_eq_true_eq]
    exact ⟨fun h => h m m1, fun h x hx => Int.le_trans (m2 x hx) h⟩
def halfO : Option Int → Option Int | none => none | some n => some (n / 2)
def moreO : Option Int → Option Int | none => none | some n => some (n + 1)
theorem at_map (f : Option Int → Option Int) (hf : f none = none) (lot : List (Option Int)) (j : Nat) : (((lot.map f)[j]?).getD none) = f ((lot[j]?).getD none) := by
  rw [List.getElem?_map]
  cases lot[j]? with
  | none => exact hf.symm
  | some o => rfl
theorem coming_map (f : Option Int → Option Int) (hf : f none = none) (hs : ∀ n, (f (some n)).isSome = true) (row : List Nat) (lot : List (Option Int)) : comingN row (lot.map f) = comingN row lot := by
  unfold comingN
  congr 1
  funext j
  rw [at_map f hf]
  cases (lot[j]?).getD none with
  | none => rw [hf]
  | some n => exact hs n
theorem at_set (lot : List (Option Int)) (s j : Nat) : ((lot.set s none)[j]?).getD none = if j = s then none else (lot[j]?).getD none := by
  by_cases e : j = s
  · subst e
    rw [if_pos rfl, List.getElem?_set]
    by_cases h : j < lot.length
    · simp [h]
    · simp [h]
  · rw [if_neg e, List.getElem?_set_ne (fun z => e z.symm)]
theorem coming_set (row : List Nat) (lot : List (Option Int)) (s : Nat) : comingN row (lot.set s none) = (comingN row lot).filter fun j => decide (j ≠ s) := by
  unfold comingN
  rw [List.filter_filter]
  congr 1
  funext j
  rw [at_set]
  by_cases e : j = s
  · simp [e]
  · simp [e]
theorem Right.map {ws : List (Int × Int)} {row : List Nat} {lot : List (Option Int)} (R : Right ws row lot) (f : Option Int → Option Int) (hf : f none = none) (hg : ∀ n m, 0 ≤ n → f (some n) = some m → 0 ≤ m) : Right ws row (lot.map f) := by
  refine ⟨R.lt, R.nd, by rw [List.length_map]; exact R.sz, fun n hn => ?_, fun j hj => R.isin j fun z => hj (by rw [at_map f hf, z, hf])⟩
  obtain ⟨o, ho, e⟩ := List.mem_map.mp hn
  cases o with
  | none =>
    rw [hf] at e
    cases e
  | some k => exact hg k n (R.ge k ho) e
theorem Right.gone {ws : List (Int × Int)} {row : List Nat} {lot : List (Option Int)} (R : Right ws row lot) (s : Nat) : Right ws row (lot.set s none) := by
  refine ⟨R.lt, R.nd, by rw [List.length_set]; exact R.sz, fun n hn => ?_, fun j hj => R.isin j fun z => hj ?_⟩
  · rcases List.mem_or_eq_of_mem_set hn with h | h
    · exact R.ge n h
    · cases h
  · rw [at_set]
    split
    · rfl
    · exact z
theorem Right.len0 {ws : List (Int × Int)} {row : List Nat} {lot : List (Option Int)} (R : Right ws row lot) (j : Nat) : 0 ≤ lenAt lot j := by
  unfold lenAt
  cases h : lot[j]? with
  | none => exact Int.le_refl _
  | some o =>
    cases o with
    | none => exact Int.le_refl _
    | some n => exact R.ge n (List.mem_of_getElem? h)
theorem lot_gone {lot : List (Option Int)} {s : Nat} (h : s < lot.length) : cutV (lot.map vO) none (some (s : Int)) ++ [V.non] ++ cutV (lot.map vO) (some ((s : Int) + 1)) none = (lot.set s none).map vO := by
  unfold cutV
  have e : ((s : Int) + 1) = ((s + 1 : Nat) : Int) := rfl
  rw [e, HT.sIx_none, HT.sIx_nat, HT.sIx_nat, HT.sIx_none, List.length_map, List.set_eq_take_append_cons_drop, if_pos h]
  rw [Nat.min_eq_left (by omega), Nat.min_eq_left (by omega), List.drop_zero, Nat.sub_zero, List.take_of_length_le (l := List.drop (s + 1) (lot.map vO)) (by rw [List.length_drop, List.length_map] <;> omega), List.map_append, List.map_cons, List.append_assoc, List.map_take, List.map_drop]
  rfl
theorem lates_empty {ws : List (Int × Int)} {row : List Nat} {lot : List (Option Int)} (h : ∀ j ∈ row, (lot[j]?).getD none = none) : stepsN ws row lot = [] := by
  unfold stepsN
  rw [comingN_away h] <;> rfl
theorem os_get {ms : List (Option Int)} {i : Nat} {y : V} (h : (ms.map vO)[i]? = some y) : ∃ z, ms[i]? = some z ∧ y = vO z := by
  rw [List.getElem?_map] at h
  cases e : ms[i]? with
  | none =>
    rw [e] at h
    cases h
  | some z =>
    rw [e] at h
    exact ⟨z, rfl, (Option.some.inj h).symm⟩
theorem slice_read {K : PySem.W.Frag} {H : Hp} {a : Addr} {xs : List V} {lo hi : Option Int} {Q : VK} (ha : SqT K H a xs) (k : ∀ r H', Ex H H' → SqT K H' r (cutV xs lo hi) → Q (.ref r) H') : rSlA K (.ref a) lo hi H Q := by
  refine ⟨a, xs, rfl, ha, fun e => k a H (Ex.refl H) ?_, fun _ p np => k p _ (Ex.new np) (SqT.of upd_same)⟩
  unfold cutV
  rw [e.1, e.2, List.drop_zero, Nat.sub_zero, List.take_length]
  exact ha
theorem len_half {lot : List (Option Int)} {j : Nat} (h : 0 ≤ lenAt lot j) : lenAt (lot.map halfO) j ≤ lenAt lot j := by
  unfold lenAt at h ⊢
  rw [at_map halfO rfl]
  cases e : (lot[j]?).getD none with
  | none => exact Int.le_refl _
  | some n =>
    rw [e] at h
    have h' : 0 ≤ n := h
    show n / 2 ≤ n
    omega
theorem len_more {row : List Nat} {lot : List (Option Int)} {j : Nat} (h : j ∈ comingN row lot) : lenAt lot j + 1 ≤ lenAt (lot.map moreO) j := by
  obtain ⟨_, n, e⟩ := comingN_mem h
  unfold lenAt
  rw [at_map moreO rfl, e]
  exact Int.le_refl _
theorem len_gone {lot : List (Option Int)} {s j : Nat} (h : j ≠ s) : lenAt (lot.set s none) j = lenAt lot j := by
  unfold lenAt
  rw [at_set, if_neg h]
theorem rep_read {K : PySem.W.Frag} {H : Hp} {a : Addr} {k : Int} {Q : VK} (ha : SqT K H a [.non]) (h1 : 1 ≤ k) (h2 : k ≤ 1000) (q : ∀ r H', Ex H H' → SqT K H' r ((List.replicate k.toNat (none : Option Int)).map vO) → Q (.ref r) H') : rRep1 K (.ref a) (.int k) H Q :=
  ⟨a, k, [.non], rfl, rfl, ha, by simp, h1, h2, by decide, fun e => q a H (Ex.refl H) (by rw [e]; exact ha), fun _ p np => q p _ (Ex.new np) (SqT.of (by rw [upd_same, flat_none]))⟩
theorem rgV_nats (n : Nat) : rgV 0 (n : Int) = (List.range n).map vNat := by
  unfold rgV
  rw [Int.sub_zero, Int.toNat_natCast]
  congr 1
  funext i
  rw [Int.zero_add] <;> rfl
theorem right_bare {ws : List (Int × Int)} {row : List Nat} (h1 : ∀ j ∈ row, j < ws.length) (h2 : row.Nodup) : Right ws row (List.replicate ws.length (none : Option Int)) := by
  refine ⟨h1, h2, List.length_replicate .., fun m hm => ?_, fun j hj => ?_⟩
  · rw [List.mem_replicate] at hm
    cases hm.2
  · refine absurd ?_ hj
    by_cases hjn : j < ws.length
    · rw [List.getElem?_replicate, if_pos hjn] <;> rfl
    · rw [List.getElem?_replicate, if_neg hjn] <;> rfl
theorem steps_bare {ws : List (Int × Int)} {row : List Nat} (n : Nat) : stepsN ws row (List.replicate n (none : Option Int)) = [] := by
  refine lates_empty fun j _ => ?_
  by_cases hjn : j < n
  · rw [List.getElem?_replicate, if_pos hjn] <;> rfl
  · rw [List.getElem?_replicate, if_neg hjn] <;> rfl
theorem slice_readN {K : PySem.W.Frag} {σ : L2.St} {H : Hp} {a : Addr} {xs : List V} {lo : Option Int} {Q : VK} (ha : SqT K H a xs) (k : ∀ r H', Ex H H' → SqT K H' r (cutV xs lo none) → Q (.ref r) H') : tNoPart σ H fun u H3 => rSlA K (.ref a) lo u H3 Q := slice_read ha k
/-! ### lateness by stretches -/
def fstAt (ws : List (Int × Int)) (j : Nat) : Int := (winAt ws j).1
def lstAt (ws : List (Int × Int)) (j : Nat) : Int := (winAt ws j).2
/-- of the stretches that begin at this hour with the head of the row: how late each one ends -/
def fromF (ws : List (Int × Int)) (lot : List (Option Int)) : Int → List Nat → List Int
  | _, [] => []
  | h, j :: r => (h + lenAt lot j - lstAt ws j) :: fromF ws lot (h + lenAt lot j) r
/-- of all stretches -/
def strsF (ws : List (Int × Int)) (lot : List (Option Int)) : List Nat → List Int
  | [] => []
  | j :: r => fromF ws lot (fstAt ws j) (j :: r) ++ strsF ws lot r
theorem lates_cons (ws : List (Int × Int)) (lot : List (Option Int)) (h : Int) (j : Nat) (r : List Nat) : latesN ws (stepsF ws lot h (j :: r)) = ((if (winAt ws j).1 > h then (winAt ws j).1 else h) + lenAt lot j - lstAt ws j) :: latesN ws (stepsF ws lot ((if (winAt ws j).1 > h then (winAt ws j).1 else h) + lenAt lot j) r) := rfl
theorem lates_str {ws : List (Int × Int)} {lot : List (Option Int)} : ∀ (l : List Nat) (h x : Int), x ∈ latesN ws (stepsF ws lot h l) → x ∈ fromF ws lot h l ∨ x ∈ strsF ws lot l
  | [], _, _, hx => by cases hx
  | j :: r, h, x, hx => by
    have ih := lates_str (ws := ws) (lot := lot) r ((if (winAt ws j).1 > h then (winAt ws j).1 else h) + lenAt lot j) x
    by_cases c : (winAt ws j).1 > h
    · rw [if_pos c] at ih
      refine .inr (List.mem_append.mpr ?_)
      have e : latesN ws (stepsF ws lot h (j :: r)) = ((winAt ws j).1 + lenAt lot j - lstAt ws j) :: latesN ws (stepsF ws lot ((winAt ws j).1 + lenAt lot j) r) := by
        rw [lates_cons, if_pos c]
      rw [e] at hx
      rcases List.mem_cons.mp hx with e | hx
      · rw [e]
        exact .inl (List.mem_cons_self ..)
      · rcases ih hx with h1 | h1
        · exact .inl (List.mem_cons_of_mem _ h1)
        · exact .inr h1
    · rw [if_neg c] at ih
      have e : latesN ws (stepsF ws lot h (j :: r)) = (h + lenAt lot j - lstAt ws j) :: latesN ws (stepsF ws lot (h + lenAt lot j) r) := by
        rw [lates_cons, if_neg c]
      rw [e] at hx
      rcases List.mem_cons.mp hx with e | hx
      · rw [e]
        exact .inl (List.mem_cons_self ..)
      · rcases ih hx with h1 | h1
        · exact .inl (List.mem_cons_of_mem _ h1)
        · exact .inr (List.mem_append_right _ h1)
theorem from_le {ws : List (Int × Int)} {lot : List (Option Int)} : ∀ (l : List Nat) (h h' y : Int), (h' ≤ h ∨ ∃ j r, l = j :: r ∧ h' ≤ fstAt ws j) → y ∈ fromF ws lot h' l → ∃ x ∈ latesN ws (stepsF ws lot h l), y ≤ x
  | [], _, _, _, _, hy => by cases hy
  | j :: r, h, h', y, hh, hy => by
    have m : h' + lenAt lot j ≤ (if (winAt ws j).1 > h then (winAt ws j).1 else h) + lenAt lot j := by
      have hh' : h' ≤ h ∨ h' ≤ (winAt ws j).1 := by
        rcases hh with a | ⟨i, s, e, a⟩
        · exact .inl a
        · cases e
          exact .inr a
      split <;> omega
    rcases List.mem_cons.mp hy with e | hy
    · refine ⟨_, List.mem_cons_self .., ?_⟩
      rw [e]
      exact Int.sub_le_sub_right m _
    · obtain ⟨x, hx, e⟩ := from_le r _ _ y (.inl m) hy
      exact ⟨x, List.mem_cons_of_mem _ hx, e⟩
theorem str_le {ws : List (Int × Int)} {lot : List (Option Int)} : ∀ (l : List Nat) (h y : Int), y ∈ strsF ws lot l → ∃ x ∈ latesN ws (stepsF ws lot h l), y ≤ x
  | [], _, _, hy => by cases hy
  | j :: r, h, y, hy => by
    rcases List.mem_append.mp hy with hy | hy
    · exact from_le (j :: r) h _ y (.inr ⟨j, r, rfl, Int.le_refl _⟩) hy
    · obtain ⟨x, hx, e⟩ := str_le r _ y hy
      exact ⟨x, List.mem_cons_of_mem _ hx, e⟩
theorem from_mono {ws : List (Int × Int)} {lot : List (Option Int)} : ∀ (l : List Nat) (h h' x : Int), h ≤ h' → x ∈ fromF ws lot h l → ∃ y ∈ fromF ws lot h' l, x ≤ y
  | [], _, _, _, _, hx => by cases hx
  | j :: r, h, h', x, hh, hx => by
    rcases List.mem_cons.mp hx with e | hx
    · exact ⟨_, List.mem_cons_self .., by rw [e]; omega⟩
    · obtain ⟨y, hy, e⟩ := from_mono r _ (h' + lenAt lot j) x (by omega) hx
      exact ⟨y, List.mem_cons_of_mem _ hy, e⟩
/-- lateness is the greatest of the stretches -/
theorem due_strs {ws : List (Int × Int)} {row : List Nat} {lot : List (Option Int)} (h0 : ∀ j ∈ row, 0 ≤ fstAt ws j) : dueN ws row lot = maxL (strsF ws lot (comingN row lot)) := by
  cases hd : dueN ws row lot with
  | none =>
    rw [due_none.mp hd]
    rfl
  | some M =>
    obtain ⟨m1, m2⟩ := maxL_some hd
    have up : ∀ y ∈ strsF ws lot (comingN row lot), y ≤ M := fun y hy => by
      obtain ⟨x, hx, e⟩ := str_le (comingN row lot) 0 y hy
      exact Int.le_trans e (m2 x hx)
    refine (maxL_of ?_ up).symm
    rcases lates_str _ _ _ m1 with h1 | h1
    · -- a stretch from hour 0 is no later than the same from its own first hour
      cases hc : comingN row lot with
      | nil =>
        rw [hc] at h1
        cases h1
      | cons j r =>
        rw [hc] at h1 up
        have hj : j ∈ row := (comingN_mem (row := row) (lot := lot) (by rw [hc]; exact List.mem_cons_self ..)).1
        obtain ⟨y, hy, e⟩ := from_mono (j :: r) 0 (fstAt ws j) M (h0 j hj) h1
        have hy' : y ∈ strsF ws lot (j :: r) := List.mem_append_left _ hy
        have := up y hy'
        have ey : y = M := by omega
        rw [ey] at hy'
        exact hy'
    · exact h1
def loadN (lot : List (Option Int)) (l : List Nat) : Int := (l.map (lenAt lot)).sum
theorem fromF_get {ws : List (Int × Int)} {lot : List (Option Int)} : ∀ (l : List Nat) (h : Int) (t : Nat) (ht : t < l.length), (fromF ws lot h l)[t]? = some (h + loadN lot (l.take (t + 1)) - lstAt ws l[t])
  | j :: r, h, 0, _ => by
    show some _ = some _
    simp [loadN]
  | j :: r, h, t + 1, ht => by
    have ht' : t < r.length := by simpa using ht
    show (fromF ws lot (h + lenAt lot j) r)[t]? = _
    rw [fromF_get r _ t ht']
    simp only [List.take_succ_cons, List.getElem_cons_succ, loadN, List.map_cons, List.sum_cons]
    congr 1
    omega
theorem fromF_len {ws : List (Int × Int)} {lot : List (Option Int)} : ∀ (l : List Nat) (h : Int), (fromF ws lot h l).length = l.length
  | [], _ => rfl
  | j :: r, h => by
    show (fromF ws lot _ r).length + 1 = r.length + 1
    rw [fromF_len r]
/-- the stretches whose heads are the first i works -/
def strsTo (ws : List (Int × Int)) (lot : List (Option Int)) (row : List Nat) : Nat → List Int
  | 0 => []
  | i + 1 => strsTo ws lot row i ++ fromF ws lot (fstAt ws (row.getD i 0)) (row.drop i)
theorem strsTo_cons {ws : List (Int × Int)} {lot : List (Option Int)} (j : Nat) (r : List Nat) : ∀ i : Nat, strsTo ws lot (j :: r) (i + 1) = fromF ws lot (fstAt ws j) (j :: r) ++ strsTo ws lot r i
  | 0 => by simp [strsTo]
  | i + 1 => by
    show strsTo ws lot (j :: r) (i + 1) ++ fromF ws lot (fstAt ws (r.getD i 0)) (r.drop i) = fromF ws lot (fstAt ws j) (j :: r) ++ (strsTo ws lot r i ++ fromF ws lot (fstAt ws (r.getD i 0)) (r.drop i))
    rw [strsTo_cons j r i, List.append_assoc]
theorem strsTo_all {ws : List (Int × Int)} {lot : List (Option Int)} : ∀ row : List Nat, strsTo ws lot row row.length = strsF ws lot row
  | [] => rfl
  | j :: r => by
    show strsTo ws lot (j :: r) (r.length + 1) = _
    rw [strsTo_cons, strsTo_all r] <;> rfl
/-! ### broken stretches -/
def brkFrom (ws : List (Int × Int)) (lot : List (Option Int)) (one : Nat) : Int → List Nat → List (Int × Int)
  | _, [] => []
  | h, j :: r => (if h + lenAt lot j > lstAt ws j then [((one : Int), (j : Int))] else []) ++ brkFrom ws lot one (h + lenAt lot j) r
def brkF (ws : List (Int × Int)) (lot : List (Option Int)) : List Nat → List (Int × Int)
  | [] => []
  | j :: r => brkFrom ws lot j (fstAt ws j) (j :: r) ++ brkF ws lot r
theorem brkFrom_len {ws : List (Int × Int)} {lot : List (Option Int)} {one : Nat} : ∀ (l : List Nat) (h : Int), (brkFrom ws lot one h l).length ≤ l.length
  | [], _ => Nat.le_refl _
  | j :: r, h => by
    have := brkFrom_len (ws := ws) (lot := lot) (one := one) r (h + lenAt lot j)
    show ((if h + lenAt lot j > lstAt ws j then [((one : Int), (j : Int))] else []) ++ brkFrom ws lot one (h + lenAt lot j) r).length ≤ r.length + 1
    rw [List.length_append]
    split <;> simp <;> omega
theorem brkF_len {ws : List (Int × Int)} {lot : List (Option Int)} {m : Nat} : ∀ l : List Nat, l.length ≤ m → (brkF ws lot l).length ≤ l.length * m
  | [], _ => Nat.zero_le _
  | j :: r, h => by
    have h1 := brkFrom_len (ws := ws) (lot := lot) (one := j) (j :: r) (fstAt ws j)
    have h' : r.length + 1 ≤ m := by simpa using h
    have h2 := brkF_len (ws := ws) (lot := lot) (m := m) r (by omega)
    show (brkFrom ws lot j (fstAt ws j) (j :: r) ++ brkF ws lot r).length ≤ (r.length + 1) * m
    rw [List.length_append, Nat.succ_mul]
    simp only [List.length_cons] at h1
    omega
/-- refs to pairs: just these pairs -/
structure BrkAt (H : Hp) (ys : List V) (bs : List (Int × Int)) : Prop where
  all : ∀ y ∈ ys, ∃ a q, y = V.ref a ∧ H a = some (.tup [.int q.1, .int q.2]) ∧ q ∈ bs
  has : ∀ q ∈ bs, ∃ a, V.ref a ∈ ys ∧ H a = some (.tup [.int q.1, .int q.2])
theorem BrkAt.mono {H H' : Hp} {ys : List V} {bs : List (Int × Int)} (h : BrkAt H ys bs) (e : Ex H H') : BrkAt H' ys bs := by
  refine ⟨fun y hy => ?_, fun q hq => ?_⟩
  · obtain ⟨a, q, h1, h2, h3⟩ := h.all y hy
    exact ⟨a, q, h1, e _ _ h2, h3⟩
  · obtain ⟨a, h1, h2⟩ := h.has q hq
    exact ⟨a, h1, e _ _ h2⟩
theorem Grows.brk {K : PySem.W.Frag} {H : Hp} {as : List Addr} {ps : List (Int × Int)} {ys : List V} (h2 : as.length = ps.length) (h3 : ∀ (i : Nat) (a : Addr) (q : Int × Int), as[i]? = some a → ps[i]? = some q → H a = some (.tup [.int q.1, .int q.2])) (hp : ys.Perm (as.map V.ref)) : BrkAt H ys ps := by
  refine ⟨fun y hy => ?_, fun q hq => ?_⟩
  · obtain ⟨a, ha, rfl⟩ := List.mem_map.mp (hp.mem_iff.mp hy)
    obtain ⟨i, hi, e⟩ := List.mem_iff_getElem.mp ha
    have hi' : i < ps.length := by omega
    exact ⟨a, ps[i], rfl, h3 i a _ (by rw [List.getElem?_eq_getElem hi, e]) (List.getElem?_eq_getElem hi'), List.getElem_mem hi'⟩
  · obtain ⟨i, hi, e⟩ := List.mem_iff_getElem.mp hq
    have hi' : i < as.length := by omega
    exact ⟨as[i], hp.mem_iff.mpr (List.mem_map_of_mem (List.getElem_mem hi')), h3 i _ q (List.getElem?_eq_getElem hi') (by rw [List.getElem?_eq_getElem hi, e])⟩
theorem Grows.ext {K : PySem.W.Frag} {H H' : Hp} {f : Addr} {ps : List (Int × Int)} (h : Grows K H f ps) (e : Ex H H') : Grows K H' f ps := by
  obtain ⟨as, h1, h2, h3⟩ := h.ex
  exact ⟨⟨as, e _ _ h1, h2, fun i a q x y => e _ _ (h3 i a q x y)⟩⟩
theorem cut_drop (l : List Nat) (i : Nat) : cutV (l.map vNat) (some (i : Int)) none = (l.drop i).map vNat := by
  unfold cutV
  rw [HT.sIx_none, HT.sIx_nat, List.length_map, List.map_drop]
  by_cases h : i ≤ l.length
  · rw [Nat.min_eq_left h, List.take_of_length_le (by rw [List.length_drop, List.length_map] <;> omega)]
  · rw [Nat.min_eq_right (by omega), Nat.sub_self, List.take_zero, List.drop_of_length_le (by rw [List.length_map]; omega)]
theorem cutL_read {K : PySem.W.Frag} {σ : L2.St} {H : Hp} {a : Addr} {xs : List V} {lo : Option Int} {Q : VK} (ha : SqL K H a xs) (k : ∀ r, H r = none → Q (.ref r) (L2.upd H r (.lst (cutV xs lo none)))) : tNoPart σ H fun u H3 => rSlL K (.ref a) lo u H3 Q := ⟨a, xs, rfl, ha, k⟩
theorem free_ex {H H' : Hp} {a : Addr} (e : Ex H H') (n : H' a = none) : H a = none := by
  cases h : H a with
  | none => rfl
  | some o =>
    rw [e _ _ h] at n
    cases n
abbrev sp_broken (K : PySem.W.Frag) (A : Ad) : Sp := fun vs H Q E => Sp3 vs fun x y z => RunOn K A H x y z fun ws row lot => Right ws row lot ∧ ∀ (l : Addr) (ys : List V) (H' : Hp), H l = none → Ex H H' → H' l = some (.lst ys) → ys.length ≤ 1000000 → BrkAt H' ys (brkF ws lot (comingN row lot)) → Q (.ref l) H'
/-! ### a late work has a stretch -/
theorem brk_str {ws : List (Int × Int)} {lot : List (Option Int)} {one : Nat} : ∀ (l : List Nat) (h : Int), brkFrom ws lot one h l = [] ↔ ∀ y ∈ fromF ws lot h l, y ≤ 0
  | [], _ => ⟨fun _ y hy => (by cases hy), fun _ => rfl⟩
  | j :: r, h => by
    have ih := brk_str (ws := ws) (lot := lot) (one := one) r (h + lenAt lot j)
    show (if h + lenAt lot j > lstAt ws j then [((one : Int), (j : Int))] else []) ++ brkFrom ws lot one (h + lenAt lot j) r = [] ↔ ∀ y ∈ (h + lenAt lot j - lstAt ws j) :: fromF ws lot (h + lenAt lot j) r, y ≤ 0
    rw [List.append_eq_nil_iff, ih, List.forall_mem_cons]
    by_cases c : h + lenAt lot j > lstAt ws j
    · rw [if_pos c]
      exact ⟨fun z => (by cases z.1), fun z => absurd z.1 (by omega)⟩
    · rw [if_neg c]
      exact ⟨fun z => ⟨by omega, z.2⟩, fun z => ⟨rfl, z.2⟩⟩
theorem brkF_str {ws : List (Int × Int)} {lot : List (Option Int)} : ∀ l : List Nat, brkF ws lot l = [] ↔ ∀ y ∈ strsF ws lot l, y ≤ 0
  | [] => ⟨fun _ y hy => (by cases hy), fun _ => rfl⟩
  | j :: r => by
    have ih := brkF_str (ws := ws) (lot := lot) r
    show brkFrom ws lot j (fstAt ws j) (j :: r) ++ brkF ws lot r = [] ↔ ∀ y ∈ fromF ws lot (fstAt ws j) (j :: r) ++ strsF ws lot r, y ≤ 0
    rw [List.append_eq_nil_iff, ih, brk_str, List.forall_mem_append]
theorem serves_brk {ws : List (Int × Int)} {row : List Nat} {lot : List (Option Int)} (h0 : ∀ j ∈ row, 0 ≤ fstAt ws j) : servesB ws (stepsN ws row lot) = decide (brkF ws lot (comingN row lot) = []) := by
  rw [serves_due, due_strs h0]
  cases hm : maxL (strsF ws lot (comingN row lot)) with
  | none =>
    have e := maxL_none.mp hm
    refine (decide_eq_true ((brkF_str _).mpr fun y hy => ?_)).symm
    rw [e] at hy
    cases hy
  | some m =>
    obtain ⟨m1, m2⟩ := maxL_some hm
    show decide (m ≤ 0) = _
    apply decide_eq_decide.mpr
    rw [brkF_str]
    exact ⟨fun h y hy => Int.le_trans (m2 y hy) h, fun h => h m m1⟩
theorem brk_mono {ws : List (Int × Int)} {lot : List (Option Int)} {one : Nat} : ∀ (l : List Nat) (h h' : Int) (x : Int × Int), h ≤ h' → x ∈ brkFrom ws lot one h l → x ∈ brkFrom ws lot one h' l
  | [], _, _, _, _, hx => by cases hx
  | j :: r, h, h', x, hh, hx => by
    rcases List.mem_append.mp hx with hx | hx
    · refine List.mem_append_left _ ?_
      by_cases c : h + lenAt lot j > lstAt ws j
      · rw [if_pos c] at hx
        rw [if_pos (by omega)]
        exact hx
      · rw [if_neg c] at hx
        cases hx
    · exact List.mem_append_right _ (brk_mono r _ _ x (by omega) hx)
theorem late_has {ws : List (Int × Int)} {lot : List (Option Int)} : ∀ (l : List Nat) (h : Int) (q : Int × Int × Int), q ∈ stepsF ws lot h l → q.2.2 > (winAt ws q.1.toNat).2 →
    (∀ one : Nat, ((one : Int), q.1) ∈ brkFrom ws lot one h l) ∨ ∃ q' ∈ stepsF ws lot h l, q'.2.1 = (winAt ws q'.1.toNat).1 ∧ (q'.1, q.1) ∈ brkF ws lot l
  | [], _, _, hq, _ => by cases hq
  | j :: r, h, q, hq, hl => by
    have ih := late_has (ws := ws) (lot := lot) r ((if (winAt ws j).1 > h then (winAt ws j).1 else h) + lenAt lot j) q
    rcases List.mem_cons.mp hq with e | hq
    · subst e
      have hl' : (if (winAt ws j).1 > h then (winAt ws j).1 else h) + lenAt lot j > lstAt ws j := hl
      by_cases c : (winAt ws j).1 > h
      · rw [if_pos c] at hl'
        refine .inr ⟨_, List.mem_cons_self .., ?_, ?_⟩
        · show (if (winAt ws j).1 > h then (winAt ws j).1 else h) = (winAt ws j).1
          rw [if_pos c]
        · refine List.mem_append_left _ (List.mem_append_left _ ?_)
          rw [if_pos (show fstAt ws j + lenAt lot j > lstAt ws j from hl')]
          exact List.mem_singleton.mpr rfl
      · rw [if_neg c] at hl'
        refine .inl fun one => List.mem_append_left _ ?_
        rw [if_pos hl']
        exact List.mem_singleton.mpr rfl
    · rcases ih hq hl with h1 | ⟨q', h1, h2, h3⟩
      · by_cases c : (winAt ws j).1 > h
        · rw [if_pos c] at h1
          refine .inr ⟨_, List.mem_cons_self .., ?_, List.mem_append_left _ (List.mem_append_right _ (h1 j))⟩
          show (if (winAt ws j).1 > h then (winAt ws j).1 else h) = (winAt ws j).1
          rw [if_pos c]
        · rw [if_neg c] at h1
          exact .inl fun one => List.mem_append_right _ (h1 one)
      · exact .inr ⟨q', List.mem_cons_of_mem _ h1, h2, List.mem_append_right _ h3⟩
theorem late_stretch {ws : List (Int × Int)} {row : List Nat} {lot : List (Option Int)} (h0 : ∀ j ∈ row, 0 ≤ fstAt ws j) {q : Int × Int × Int} (hq : q ∈ stepsN ws row lot) (hl : q.2.2 > (winAt ws q.1.toNat).2) :
    ∃ q' ∈ stepsN ws row lot, q'.2.1 = (winAt ws q'.1.toNat).1 ∧ (q'.1, q.1) ∈ brkF ws lot (comingN row lot) := by
  rcases late_has _ _ _ hq hl with h1 | h1
  · unfold stepsN at hq ⊢
    cases hc : comingN row lot with
    | nil =>
      rw [hc] at hq
      cases hq
    | cons j r =>
      rw [hc] at h1
      have hj := h0 j (comingN_mem (row := row) (lot := lot) (by rw [hc]; exact List.mem_cons_self ..)).1
      refine ⟨_, List.mem_cons_self .., ?_, List.mem_append_left _ (brk_mono _ _ _ _ hj (h1 j))⟩
      show (if (winAt ws j).1 > 0 then (winAt ws j).1 else 0) = (winAt ws j).1
      have hj' : 0 ≤ (winAt ws j).1 := hj
      split <;> omega
  · exact h1
/-! ### a list of pairs against [] -/
def dPair (q : Int × Int) : PyData := .tuple [.int q.1, .int q.2]
theorem BrkAt.data {K : PySem.W.Frag} {H : Hp} {bs : List (Int × Int)} : ∀ {ys : List V}, BrkAt H ys bs → ∃ qs : List (Int × Int), DpAll K H ys (qs.map dPair) ∧ qs.length = ys.length
  | [], _ => ⟨[], .nil, rfl⟩
  | y :: r, h => by
    obtain ⟨a, q, rfl, h2, h3⟩ := h.all y (List.mem_cons_self ..)
    have go : ∀ r : List V, (∀ y ∈ r, ∃ a q, y = V.ref a ∧ H a = some (.tup [.int q.1, .int q.2]) ∧ q ∈ bs) → ∃ qs : List (Int × Int), DpAll K H r (qs.map dPair) ∧ qs.length = r.length := by
      intro r
      induction r with
      | nil => exact fun _ => ⟨[], .nil, rfl⟩
      | cons y s ih =>
        intro g
        obtain ⟨a, q, rfl, h2, _⟩ := g y (List.mem_cons_self ..)
        obtain ⟨qs, d, e⟩ := ih fun z hz => g z (List.mem_cons_of_mem _ hz)
        exact ⟨q :: qs, .cons (.tup (SqT.of h2) (.cons (.int _) (.cons (.int _) .nil))) d, congrArg (· + 1) e⟩
    exact go _ h.all
theorem lay_pairs : ∀ ts : List (Int × Int), PyData.canLayAll0 (ts.map dPair) = true
  | [] => by simp only [List.map_nil, PyData.canLayAll0]
  | q :: r => by
    simp only [List.map_cons, PyData.canLayAll0, dPair, PyData.canLay0, lay_pairs r]
    rfl
theorem deep_pairs : ∀ ts : List (Int × Int), PyData.depthAll (ts.map dPair) ≤ 1
  | [] => by simp only [List.map_nil, PyData.depthAll]; omega
  | q :: r => by
    have := deep_pairs r
    simp only [List.map_cons, PyData.depthAll, dPair, PyData.depth]
    omega
theorem shaped_pairs (ts : List (Int × Int)) : SeqAt.shaped (.list (ts.map dPair)) = true := by
  have h := deep_pairs ts
  unfold SeqAt.shaped
  have e1 : PyData.canLay0 (.list (ts.map dPair)) = true := by simp only [PyData.canLay0, lay_pairs]
  rw [e1, Bool.true_and]
  apply decide_eq_true
  simp only [PyData.depth]
  omega
theorem cut_mid (l : List Nat) (i t : Nat) (h : i + t < l.length) : cutV (l.map vNat) (some (i : Int)) (some ((i : Int) + (t : Int) + 1)) = ((l.drop i).take (t + 1)).map vNat := by
  have e : (i : Int) + (t : Int) + 1 = ((i + t + 1 : Nat) : Int) := by omega
  unfold cutV
  rw [e, HT.sIx_nat, HT.sIx_nat, List.length_map, Nat.min_eq_left (by omega), Nat.min_eq_left (by omega), show i + t + 1 - i = t + 1 by omega, List.map_take, List.map_drop]
theorem eqv_nil : ∀ qs : List (Int × Int), PyData.eqv (.list (qs.map dPair)) (.list []) = decide (qs = [])
  | [] => by simp [PyData.eqv, PyData.eqvAll]
  | q :: r => by simp [PyData.eqv, PyData.eqvAll]
theorem BrkAt.nil_iff {H : Hp} {ys : List V} {bs : List (Int × Int)} (h : BrkAt H ys bs) : ys = [] ↔ bs = [] := by
  constructor
  · intro e
    cases hb : bs with
    | nil => rfl
    | cons q r =>
      obtain ⟨a, h1, _⟩ := h.has q (by rw [hb]; exact List.mem_cons_self ..)
      rw [e] at h1
      cases h1
  · intro e
    cases hy : ys with
    | nil => rfl
    | cons y r =>
      obtain ⟨_, _, _, _, h3⟩ := h.all y (by rw [hy]; exact List.mem_cons_self ..)
      rw [e] at h3
      cases h3
theorem strsTo_len {ws : List (Int × Int)} {lot : List (Option Int)} {row : List Nat} : ∀ i : Nat, (strsTo ws lot row i).length ≤ i * row.length
  | 0 => Nat.zero_le _
  | i + 1 => by
    have := strsTo_len (ws := ws) (lot := lot) (row := row) i
    show (strsTo ws lot row i ++ fromF ws lot (fstAt ws (row.getD i 0)) (row.drop i)).length ≤ (i + 1) * row.length
    rw [List.length_append, fromF_len, List.length_drop, Nat.succ_mul]
    omega
/-! ### turned about -/
theorem from_iff {ws : List (Int × Int)} {lot : List (Option Int)} {x : Int} : ∀ (l : List Nat) (h : Int), x ∈ fromF ws lot h l ↔ ∃ m q b, l = m ++ q ∧ m.getLast? = some b ∧ x = h + loadN lot m - lstAt ws b
  | [], h => by
    refine ⟨fun hx => (by cases hx), fun ⟨m, q, b, e, hb, _⟩ => ?_⟩
    rw [(List.append_eq_nil_iff.mp e.symm).1] at hb
    cases hb
  | j :: r, h => by
    have ih := from_iff (ws := ws) (lot := lot) (x := x) r (h + lenAt lot j)
    constructor
    · intro hx
      rcases List.mem_cons.mp hx with e | hx
      · exact ⟨[j], r, j, rfl, rfl, by rw [e]; simp [loadN]⟩
      · obtain ⟨m, q, b, e, hb, hx⟩ := ih.mp hx
        refine ⟨j :: m, q, b, by rw [e] <;> rfl, by rw [List.getLast?_cons, hb] <;> rfl, ?_⟩
        rw [hx]
        simp only [loadN, List.map_cons, List.sum_cons]
        omega
    · rintro ⟨m, q, b, e, hb, hx⟩
      cases m with
      | nil => cases hb
      | cons i m =>
        obtain ⟨rfl, rfl⟩ := List.cons.inj e
        rw [List.getLast?_cons] at hb
        cases hm : m.getLast? with
        | none =>
          rw [hm] at hb
          cases hb
          rw [List.getLast?_eq_none_iff.mp hm] at hx
          refine List.mem_cons.mpr (.inl ?_)
          rw [hx]
          simp [loadN]
        | some b' =>
          rw [hm] at hb
          cases hb
          refine List.mem_cons_of_mem _ (ih.mpr ⟨m, q, _, rfl, hm, ?_⟩)
          rw [hx]
          simp only [loadN, List.map_cons, List.sum_cons, Option.getD_some]
          omega
theorem strs_iff {ws : List (Int × Int)} {lot : List (Option Int)} {x : Int} : ∀ l : List Nat, x ∈ strsF ws lot l ↔ ∃ p m q a b, l = p ++ (m ++ q) ∧ m.head? = some a ∧ m.getLast? = some b ∧ x = fstAt ws a + loadN lot m - lstAt ws b
  | [] => by
    refine ⟨fun hx => (by cases hx), fun ⟨p, m, q, a, b, e, ha, _⟩ => ?_⟩
    rw [(List.append_eq_nil_iff.mp (List.append_eq_nil_iff.mp e.symm).2).1] at ha
    cases ha
  | j :: r => by
    have ih := strs_iff (ws := ws) (lot := lot) (x := x) r
    constructor
    · intro hx
      rcases List.mem_append.mp hx with hx | hx
      · obtain ⟨m, q, b, e, hb, hy⟩ := (from_iff _ _).mp hx
        cases m with
        | nil => cases hb
        | cons i m =>
          obtain ⟨rfl, rfl⟩ := List.cons.inj e
          exact ⟨[], j :: m, q, j, b, rfl, rfl, hb, hy⟩
      · obtain ⟨p, m, q, a, b, e, ha, hb, hx⟩ := ih.mp hx
        exact ⟨j :: p, m, q, a, b, by rw [e] <;> rfl, ha, hb, hx⟩
    · rintro ⟨p, m, q, a, b, e, ha, hb, hx⟩
      cases p with
      | nil =>
        refine List.mem_append_left _ ((from_iff _ _).mpr ⟨m, q, b, e, hb, ?_⟩)
        cases m with
        | nil => cases hb
        | cons i m =>
          obtain ⟨rfl, rfl⟩ := List.cons.inj e
          cases ha
          exact hx
      | cons i p =>
        obtain ⟨rfl, rfl⟩ := List.cons.inj e
        exact List.mem_append_right _ (ih.mpr ⟨p, m, q, a, b, rfl, ha, hb, hx⟩)
theorem maxL_same {l m : List Int} (h : ∀ x, x ∈ l ↔ x ∈ m) : maxL l = maxL m := by
  cases e : maxL m with
  | none =>
    rw [maxL_none] at e ⊢
    refine List.eq_nil_iff_forall_not_mem.mpr fun x hx => ?_
    rw [h, e] at hx
    cases hx
  | some k =>
    obtain ⟨h1, h2⟩ := maxL_some e
    exact maxL_of ((h k).mpr h1) fun x hx => h2 x ((h x).mp hx)
theorem loadN_rev (lot : List (Option Int)) (m : List Nat) : loadN lot m.reverse = loadN lot m := by
  unfold loadN
  rw [List.map_reverse, List.sum_reverse]
theorem coming_rev (row : List Nat) (lot : List (Option Int)) : comingN row.reverse lot = (comingN row lot).reverse := List.filter_reverse ..
theorem due_turn {ws ws' : List (Int × Int)} {row : List Nat} {lot : List (Option Int)} {u : Int} (h0 : ∀ j ∈ row, 0 ≤ fstAt ws j) (h1 : ∀ j ∈ row, lstAt ws j ≤ u) (hf : ∀ j ∈ row, fstAt ws' j = u - lstAt ws j) (hl : ∀ j ∈ row, lstAt ws' j = u - fstAt ws j) :
    dueN ws' row.reverse lot = dueN ws row lot := by
  rw [due_strs h0, due_strs (fun j hj => by
    have hj := List.mem_reverse.mp hj
    rw [hf j hj]
    have := h1 j hj
    omega), coming_rev]
  have sub : ∀ j ∈ comingN row lot, j ∈ row := fun j hj => (comingN_mem hj).1
  refine maxL_same fun x => ?_
  rw [strs_iff, strs_iff]
  constructor
  · rintro ⟨p, m, q, a, b, e, ha, hb, hx⟩
    have e' : comingN row lot = q.reverse ++ (m.reverse ++ p.reverse) := by
      rw [← List.reverse_reverse (comingN row lot), e]
      simp
    have am : a ∈ m := List.mem_of_head? ha
    have bm : b ∈ m := List.mem_of_getLast? hb
    have ar : a ∈ row := sub a (by rw [e']; simp [am])
    have br : b ∈ row := sub b (by rw [e']; simp [bm])
    refine ⟨q.reverse, m.reverse, p.reverse, b, a, e', by rw [List.head?_reverse]; exact hb, by rw [List.getLast?_reverse]; exact ha, ?_⟩
    rw [hx, loadN_rev, hf a ar, hl b br]
    omega
  · rintro ⟨p, m, q, a, b, e, ha, hb, hx⟩
    have am : a ∈ m := List.mem_of_head? ha
    have bm : b ∈ m := List.mem_of_getLast? hb
    have ar : a ∈ row := sub a (by rw [e]; simp [am])
    have br : b ∈ row := sub b (by rw [e]; simp [bm])
    refine ⟨q.reverse, m.reverse, p.reverse, b, a, by rw [e]; simp, by rw [List.head?_reverse]; exact hb, by rw [List.getLast?_reverse]; exact ha, ?_⟩
    rw [hx, loadN_rev, hf b br, hl a ar]
    omega
/-! ### mirrored, shifted -/
def mirW (u : Int) (ws : List (Int × Int)) : List (Int × Int) := ws.map fun q => (u - q.2, u - q.1)
def shW (k : Int) (ws : List (Int × Int)) : List (Int × Int) := ws.map fun q => (q.1 + k, q.2 + k)
structure MaxW (u : Int) (ws : List (Int × Int)) : Prop where
  mem : ∃ q ∈ ws, q.2 = u
  le : ∀ q ∈ ws, q.2 ≤ u
structure MinW (u : Int) (ws : List (Int × Int)) : Prop where
  mem : ∃ q ∈ ws, q.1 = u
  le : ∀ q ∈ ws, u ≤ q.1
theorem MaxW.eq {u v : Int} {ws : List (Int × Int)} (a : MaxW u ws) (b : MaxW v ws) : u = v := by
  obtain ⟨q, h1, h2⟩ := a.mem
  obtain ⟨r, h3, h4⟩ := b.mem
  have := a.le r h3
  have := b.le q h1
  omega
theorem MinW.eq {u v : Int} {ws : List (Int × Int)} (a : MinW u ws) (b : MinW v ws) : u = v := by
  obtain ⟨q, h1, h2⟩ := a.mem
  obtain ⟨r, h3, h4⟩ := b.mem
  have := a.le r h3
  have := b.le q h1
  omega
theorem max_mir {u low : Int} {ws : List (Int × Int)} (b : MinW low ws) : MaxW (u - low) (mirW u ws) := by
  obtain ⟨q, h1, h2⟩ := b.mem
  refine ⟨⟨_, List.mem_map_of_mem h1, by rw [h2]⟩, fun r hr => ?_⟩
  obtain ⟨p, hp, rfl⟩ := List.mem_map.mp hr
  have := b.le p hp
  show u - p.1 ≤ u - low
  omega
theorem max_sh {u k : Int} {ws : List (Int × Int)} (b : MaxW u ws) : MaxW (u + k) (shW k ws) := by
  obtain ⟨q, h1, h2⟩ := b.mem
  refine ⟨⟨_, List.mem_map_of_mem h1, by rw [h2]⟩, fun r hr => ?_⟩
  obtain ⟨p, hp, rfl⟩ := List.mem_map.mp hr
  have := b.le p hp
  show p.2 + k ≤ u + k
  omega
theorem mir_mir (u v : Int) (ws : List (Int × Int)) : mirW v (mirW u ws) = shW (v - u) ws := by
  unfold mirW shW
  rw [List.map_map]
  refine List.map_congr_left fun q _ => ?_
  refine Prod.ext ?_ ?_
  · show v - (u - q.1) = q.1 + (v - u)
    omega
  · show v - (u - q.2) = q.2 + (v - u)
    omega
theorem mir_sh (v k : Int) (ws : List (Int × Int)) : mirW v (shW k ws) = mirW (v - k) ws := by
  unfold mirW shW
  rw [List.map_map]
  refine List.map_congr_left fun q _ => ?_
  refine Prod.ext ?_ ?_
  · show v - (q.2 + k) = v - k - q.2
    omega
  · show v - (q.1 + k) = v - k - q.1
    omega
theorem winAt_map {f : Int × Int → Int × Int} {ws : List (Int × Int)} {j : Nat} (h : j < ws.length) : winAt (ws.map f) j = f (winAt ws j) := by
  unfold winAt
  rw [List.getD_eq_getElem?_getD, List.getD_eq_getElem?_getD, List.getElem?_map, List.getElem?_eq_getElem h] <;> rfl
theorem winAt_mem {ws : List (Int × Int)} {j : Nat} (h : j < ws.length) : winAt ws j ∈ ws := by
  unfold winAt
  rw [List.getD_eq_getElem?_getD, List.getElem?_eq_getElem h]
  exact List.getElem_mem h
/-! ### lists of pairs laid one by one -/
/-- refs to pairs -/
def PairsAt (K : PySem.W.Frag) (H : Hp) (as : List Addr) (ps : List (Int × Int)) : Prop := as.length = ps.length ∧ ∀ (i : Nat) (a : Addr) (q : Int × Int), as[i]? = some a → ps[i]? = some q → SqT K H a [.int q.1, .int q.2]
theorem PairsAt.mono {K : PySem.W.Frag} {H H' : Hp} {as : List Addr} {ps : List (Int × Int)} (h : PairsAt K H as ps) (e : Ex H H') : PairsAt K H' as ps := ⟨h.1, fun i a q x y => ex_t e (h.2 i a q x y)⟩
theorem PairsAt.nil {K : PySem.W.Frag} {H : Hp} : PairsAt K H [] [] := ⟨rfl, fun i a q x => by simp at x⟩
theorem PairsAt.add {K : PySem.W.Frag} {H : Hp} {as : List Addr} {ps : List (Int × Int)} {r : Addr} {q : Int × Int} (h : PairsAt K H as ps) (hr : SqT K H r [.int q.1, .int q.2]) : PairsAt K H (as ++ [r]) (ps ++ [q]) := by
  obtain ⟨h2, h3⟩ := h
  refine ⟨by rw [List.length_append, List.length_append, h2] <;> rfl, fun i a q' x y => ?_⟩
  by_cases hi : i < as.length
  · rw [List.getElem?_append_left hi] at x
    rw [List.getElem?_append_left (by omega)] at y
    exact h3 i a q' x y
  · rw [List.getElem?_append_right (by omega)] at x
    rw [List.getElem?_append_right (by omega)] at y
    have e0 : i - as.length = 0 := by
      have := (List.getElem?_eq_some_iff.mp x).1
      simp at this
      omega
    rw [e0] at x
    rw [← h2, e0] at y
    cases (Option.some.inj x)
    cases (Option.some.inj y)
    exact hr
theorem WinAt.of {K : PySem.W.Frag} {H : Hp} {w : Addr} {as : List Addr} {ps : List (Int × Int)} (h : SqT K H w (as.map V.ref)) (p : PairsAt K H as ps) (hl : ps.length ≤ 1000) : WinAt K H w ps := ⟨hl, as, h, p.1, p.2⟩
theorem sqt_upd {K : PySem.W.Frag} {H : Hp} {D : Addr} {ys zs : List V} {a : Addr} {xs : List V} (hD : H D = some (.lst ys)) (h : SqT K H a xs) : SqT K (L2.upd H D (.lst zs)) a xs := by
  have ne : ∀ {o : HO}, H a = some o → (∀ us, o ≠ .lst us) → a ≠ D := fun {o} e n z => by
    rw [z, hD] at e
    exact n _ (Option.some.inj e).symm
  rcases h with (h | ⟨o, h⟩) | h
  · exact .inl (.inl (by rw [upd_ne (ne h (fun us z => by cases z))]; exact h))
  · exact .inl (.inr ⟨o, by rw [upd_ne (ne h (fun us z => by cases z))]; exact h⟩)
  · exact .inr h
theorem PairsAt.upd {K : PySem.W.Frag} {H : Hp} {D : Addr} {ys zs : List V} {as : List Addr} {ps : List (Int × Int)} (h : PairsAt K H as ps) (hD : H D = some (.lst ys)) : PairsAt K (L2.upd H D (.lst zs)) as ps := ⟨h.1, fun i a q x y => sqt_upd hD (h.2 i a q x y)⟩
theorem dp_wins {K : PySem.W.Frag} {H : Hp} {w : Addr} {ws : List (Int × Int)} (h : WinAt K H w ws) : Dp K H (.ref w) (.tuple (ws.map dPair)) := by
  obtain ⟨_, as, h1, h2, h3⟩ := h
  refine .tup h1 ?_
  clear h1
  induction ws generalizing as with
  | nil =>
    cases as with
    | nil => exact .nil
    | cons _ _ => simp at h2
  | cons q r ih =>
    cases as with
    | nil => simp at h2
    | cons a s =>
      refine .cons (.tup (h3 0 a q rfl rfl) (.cons (.int _) (.cons (.int _) .nil))) (ih ?_ s (by simpa using h2) fun i a q x y => h3 (i + 1) a q x y)
      have : (q :: r).length ≤ 1000 := by assumption
      simp at this
      omega
theorem shaped_wins (ws : List (Int × Int)) : SeqAt.shaped (.tuple (ws.map dPair)) = true := by
  have h := deep_pairs ws
  unfold SeqAt.shaped
  have e1 : PyData.canLay0 (.tuple (ws.map dPair)) = true := by simp only [PyData.canLay0, lay_pairs]
  rw [e1, Bool.true_and]
  apply decide_eq_true
  simp only [PyData.depth]
  omega
theorem eqvAll_pairs : ∀ l m : List (Int × Int), PyData.eqvAll (l.map dPair) (m.map dPair) = decide (l = m)
  | [], [] => by simp [PyData.eqvAll]
  | [], _ :: _ => by simp [PyData.eqvAll]
  | _ :: _, [] => by simp [PyData.eqvAll]
  | (a, b) :: l, (c, d) :: m => by
    simp only [List.map_cons, PyData.eqvAll, dPair, PyData.eqv, eqvAll_pairs l m]
    by_cases h1 : a = c <;> by_cases h2 : b = d <;> by_cases h3 : l = m <;> simp [h1, h2, h3]
theorem eqv_wins (l m : List (Int × Int)) : PyData.eqv (.tuple (l.map dPair)) (.tuple (m.map dPair)) = decide (l = m) := by
  simp only [PyData.eqv, eqvAll_pairs]
/-! ### the defs of books -/
abbrev sp_unbounded (K : PySem.W.Frag) (A : Ad) : Sp := fun vs H Q _ => Sp1 vs fun x => ∃ (l : Addr) (as : List Addr) (ws : List (Int × Int)), x = .ref l ∧ (SqL K H l (as.map V.ref) ∨ SqT K H l (as.map V.ref)) ∧ PairsAt K H as ws ∧ ws.length ≤ 1000 ∧
  ∀ (b w : Addr) (H' : Hp), H b = none → Ex H H' → BookAt A.C_Book H' b w → WinAt K H' w ws → Q (.ref b) H'
abbrev sp_last_of_all (K : PySem.W.Frag) (A : Ad) : Sp := fun vs H Q _ => Sp1 vs fun x => ∃ (b w : Addr) (ws : List (Int × Int)), x = .ref b ∧ BookAt A.C_Book H b w ∧ WinAt K H w ws ∧ 0 < ws.length ∧ ∀ (u : Int) (H' : Hp), MaxW u ws → Ex H H' → Q (.int u) H'
abbrev sp_mirrored (K : PySem.W.Frag) (A : Ad) : Sp := fun vs H Q _ => Sp1 vs fun x => ∃ (b w : Addr) (ws : List (Int × Int)), x = .ref b ∧ BookAt A.C_Book H b w ∧ WinAt K H w ws ∧ 0 < ws.length ∧
  ∀ (b2 w2 : Addr) (u : Int) (H' : Hp), H b2 = none → MaxW u ws → Ex H H' → BookAt A.C_Book H' b2 w2 → WinAt K H' w2 (mirW u ws) → Q (.ref b2) H'
def byD (ws : List (Int × Int)) : Da → Bool | .int z => ws.all (fun q => decide (0 ≤ q.1 + z)) | _ => false
abbrev sp_NoNumber_init (K : PySem.W.Frag) (A : Ad) : Sp := sp_pass
abbrev sp_shifted (K : PySem.W.Frag) (A : Ad) : Sp := fun vs H Q E => Sp2 vs fun x y => ∃ (b w : Addr) (ws : List (Int × Int)) (d : Da), x = .ref b ∧ BookAt A.C_Book H b w ∧ WinAt K H w ws ∧ 0 < ws.length ∧ Rp K H y d ∧
  (byD ws d = false → ∀ H', Ex H H' → E (.ref A.C_NoNumber) none H') ∧
  ∀ z : Int, d = .int z → byD ws d = true → ∀ (b2 w2 : Addr) (H' : Hp), H b2 = none → Ex H H' → BookAt A.C_Book H' b2 w2 → WinAt K H' w2 (shW z ws) → Q (.ref b2) H'
abbrev sp_Book_eq (K : PySem.W.Frag) (A : Ad) : Sp := fun vs H Q _ => Sp2 vs fun x y => ∃ (a wa b wb : Addr) (us ws : List (Int × Int)), x = .ref a ∧ y = .ref b ∧ BookAt A.C_Book H a wa ∧ WinAt K H wa us ∧ BookAt A.C_Book H b wb ∧ WinAt K H wb ws ∧ Q (.bl (decide (us = ws))) H
theorem shW_len (k : Int) (ws : List (Int × Int)) : (shW k ws).length = ws.length := List.length_map ..
theorem mirW_len (k : Int) (ws : List (Int × Int)) : (mirW k ws).length = ws.length := List.length_map ..
theorem win_step {K : PySem.W.Frag} {H : Hp} {ws : List (Int × Int)} {was : List Addr} (h2 : was.length = ws.length) (h3 : ∀ (i : Nat) (a : Addr) (q : Int × Int), was[i]? = some a → ws[i]? = some q → SqT K H a [.int q.1, .int q.2]) {i : Nat} {y : V} (hi : (was.map V.ref)[i]? = some y) :
    ∃ a q, y = .ref a ∧ SqT K H a [.int q.1, .int q.2] ∧ ws.take (i + 1) = ws.take i ++ [q] ∧ i < ws.length ∧ q ∈ ws := by
  have hia : i < was.length := by
    have := (List.getElem?_eq_some_iff.mp hi).1
    rw [List.length_map] at this
    exact this
  have hiw : i < ws.length := by omega
  rw [List.getElem?_map, List.getElem?_eq_getElem hia] at hi
  exact ⟨was[i], ws[i], (Option.some.inj hi).symm, h3 i _ _ (List.getElem?_eq_getElem hia) (List.getElem?_eq_getElem hiw), List.take_succ_eq_append_getElem hiw, hiw, List.getElem_mem hiw⟩
/-! ### groups, parts, joined books -/
def upD (ds : List Da) : Bool := decide ((ds.map daInt).Pairwise (· ≤ ·))
def groupD (n : Nat) : Da → Bool
  | .tup ds => rowD n (.tup ds) && upD ds
  | _ => false
def partD (n : Nat) : Da → Bool
  | .tup ds => groupD n (.tup ds) && !ds.isEmpty
  | _ => false
abbrev sp_NoGroup_init (K : PySem.W.Frag) (A : Ad) : Sp := sp_pass
abbrev sp_is_group (K : PySem.W.Frag) (A : Ad) : Sp := fun vs H Q _ => Sp2 vs fun x y => OnBook K A H x y fun ws d => ∀ H', Ex H H' → Q (.bl (groupD ws.length d)) H'
def partW (ws : List (Int × Int)) (row : List Nat) : List (Int × Int) := row.map (winAt ws)
abbrev sp_part (K : PySem.W.Frag) (A : Ad) : Sp := fun vs H Q E => Sp2 vs fun x y => OnBook K A H x y fun ws d =>
  (partD ws.length d = false → ∀ H', Ex H H' → E (.ref A.C_NoGroup) none H') ∧
  ∀ row : List Nat, d = .tup (row.map dNat) → partD ws.length d = true → ∀ (b2 w2 : Addr) (H' : Hp), H b2 = none → Ex H H' → BookAt A.C_Book H' b2 w2 → WinAt K H' w2 (partW ws row) → Q (.ref b2) H'
abbrev sp_joined (K : PySem.W.Frag) (A : Ad) : Sp := fun vs H Q _ => Sp2 vs fun x y => ∃ (a wa b wb : Addr) (us ws : List (Int × Int)), x = .ref a ∧ y = .ref b ∧ BookAt A.C_Book H a wa ∧ WinAt K H wa us ∧ BookAt A.C_Book H b wb ∧ WinAt K H wb ws ∧ us.length + ws.length ≤ 1000 ∧
  ∀ (b2 w2 : Addr) (H' : Hp), H b2 = none → Ex H H' → BookAt A.C_Book H' b2 w2 → WinAt K H' w2 (us ++ ws) → Q (.ref b2) H'
theorem PairsAt.append {K : PySem.W.Frag} {H : Hp} {as bs : List Addr} {ps qs : List (Int × Int)} (h : PairsAt K H as ps) (g : PairsAt K H bs qs) : PairsAt K H (as ++ bs) (ps ++ qs) := by
  obtain ⟨h2, h3⟩ := h
  obtain ⟨g2, g3⟩ := g
  refine ⟨by rw [List.length_append, List.length_append, h2, g2], fun i a q x y => ?_⟩
  by_cases hi : i < as.length
  · rw [List.getElem?_append_left hi] at x
    rw [List.getElem?_append_left (by omega)] at y
    exact h3 i a q x y
  · rw [List.getElem?_append_right (by omega)] at x
    rw [List.getElem?_append_right (by omega)] at y
    rw [h2] at x
    exact g3 _ a q x y
/-- the list of a row's works is ascending just if sorting leaves it -/
theorem up_iff {ns ms : List Int} (hp : ms.Perm ns) (hs : ms.Pairwise (· ≤ ·)) : decide (ns = ms) = decide (ns.Pairwise (· ≤ ·)) := by
  apply decide_eq_decide.mpr
  constructor
  · intro e
    rw [e]
    exact hs
  · intro h
    exact List.Perm.eq_of_pairwise (le := (· ≤ ·)) (fun a b _ _ h1 h2 => Int.le_antisymm h1 h2) h hs hp.symm
def dIntL (l : List Int) : PyData := .list (l.map .int)
theorem shaped_intL (l : List Int) : SeqAt.shaped (dIntL l) = true := by
  unfold SeqAt.shaped dIntL
  simp only [PyData.canLay0, PyData.depth, lay_ints, deep_ints]
  decide
theorem eqv_intL (l m : List Int) : PyData.eqv (dIntL l) (dIntL m) = decide (l = m) := by
  unfold dIntL
  simp only [PyData.eqv, eqvAll_ints]
theorem partD_row {ws : List (Int × Int)} {row : List Nat} (h1 : ∀ j ∈ row, j < ws.length) (h2 : row.Pairwise (· < ·)) (h3 : row ≠ []) : partD ws.length (.tup (row.map dNat)) = true := by
  have e1 : rowD ws.length (.tup (row.map dNat)) = true := by
    simp only [rowD, Bool.and_eq_true, decide_eq_true_eq, List.all_eq_true]
    refine ⟨fun x hx => ?_, ?_⟩
    · obtain ⟨j, hj, rfl⟩ := List.mem_map.mp hx
      have := h1 j hj
      simp [dNat, workD, this]
    · rw [da_row]
      refine List.pairwise_map.mpr (h2.imp fun h e => ?_)
      omega
  have e2 : upD (row.map dNat) = true := by
    unfold upD
    rw [da_row]
    refine decide_eq_true (List.pairwise_map.mpr (h2.imp fun h => ?_))
    omega
  have e3 : (!(row.map dNat).isEmpty) = true := by
    cases row with
    | nil => exact absurd rfl h3
    | cons a b => rfl
  simp only [partD, groupD, e1, e2, e3, Bool.and_self]
theorem partD_nats {n : Nat} {d : Da} (h : partD n d = true) : ∃ row : List Nat, d = .tup (row.map dNat) ∧ ∀ j ∈ row, j < n := by
  cases d with
  | tup ds =>
    simp only [partD, groupD, rowD, Bool.and_eq_true, List.all_eq_true] at h
    have h1 := h.1.1.1
    refine ⟨ds.map fun d => (daInt d).toNat, ?_, fun j hj => ?_⟩
    · rw [List.map_map]
      congr 1
      symm
      refine (List.map_congr_left fun d hd => ?_).trans (List.map_id _)
      obtain ⟨i, rfl, _⟩ := workD_int (h1 d hd)
      rfl
    · obtain ⟨d, hd, rfl⟩ := List.mem_map.mp hj
      obtain ⟨i, rfl, hi⟩ := workD_int (h1 d hd)
      exact hi
  | _ => cases h
theorem nats_inj {r s : List Nat} (h : r.map dNat = s.map dNat) : r = s := by
  induction r generalizing s with
  | nil =>
    cases s with
    | nil => rfl
    | cons _ _ => cases h
  | cons a r ih =>
    cases s with
    | nil => cases h
    | cons b s =>
      obtain ⟨h1, h2⟩ := List.cons.inj h
      have e := Da.int.inj h1
      rw [ih h2, show a = b by omega]
theorem ex_kept {H H1 H2 : Hp} {p c : Addr} (np : H p = none) (nc : H c = none) (e : Ex H H1) (k : Kept p c H1 H2) : Ex H H2 := fun a o h => k a o (fun z => by
  rw [z, np] at h
  cases h) (fun z => by
  rw [z, nc] at h
  cases h) (e a o h)
structure SpFlagLaw (K : PySem.W.Frag) (vs : List V) (H : Hp) (Q : VK) : Prop where
  ex : ∃ (a : Addr) (ns : List Int), vs = [.ref a] ∧ SqL K H a (ns.map V.int) ∧ ns.length ≤ 63 ∧ ∀ H', Ex H H' → Q (.bl true) H'
theorem SpFlagLaw.len {K : PySem.W.Frag} {vs : List V} {H : Hp} {Q : VK} (h : SpFlagLaw K vs H Q) : vs.length = 1 := by
  obtain ⟨a, ns, rfl, _⟩ := h.ex
  rfl
abbrev sp_l_main (K : PySem.W.Frag) (A : Ad) : Sp := fun vs H Q _ => SpFlagLaw K vs H Q
abbrev sp_l_more (K : PySem.W.Frag) (A : Ad) : Sp := fun vs H Q _ => SpFlagLaw K vs H Q
abbrev sp_l_someU (K : PySem.W.Frag) (A : Ad) : Sp := fun vs H Q _ => Sp2 vs fun x y => ∃ (p c : Addr) (n : Nat), x = .ref p ∧ y = .int (n : Int) ∧ PoolAt H p c ∧ n ≤ 1000 ∧
  ∀ (w : Addr) (out : List Nat) (H' : Hp), H w = none → (∀ j ∈ out, j < n) → out.Pairwise (· < ·) → H' w = some (.tup (out.map vNat)) → PoolAt H' p c → Kept p c H H' → Q (.ref w) H'
/-- let, or which error -/
def toldD (x y : Bool) : PyData := .list [.bool x, .bool y]
abbrev sp_l_told5 (K : PySem.W.Frag) (A : Ad) : Sp := fun vs H Q _ => Sp3 vs fun x y z => ∃ (k : Int) (b w : Addr) (ws : List (Int × Int)) (d : Da), x = .int k ∧ y = .ref b ∧ BookAt A.C_Book H b w ∧ WinAt K H w ws ∧ 0 < ws.length ∧ Rp K H z d ∧ smallD d ∧
  ((if k = 0 then partD ws.length d else byD ws d) = true → ∀ H', Ex H H' → Q (.str "let") H') ∧
  ((if k = 0 then partD ws.length d else byD ws d) = false → ∀ l H', Ex H H' → H' l = some (.lst [.bl (decide (k = 0)), .bl (decide (k ≠ 0))]) → Q (.ref l) H')
theorem pair_nums {ws : List (Int × Int)} {j : Nat} (h : j < ws.length) : winAt ws j = ws[j] := by
  unfold winAt
  rw [List.getD_eq_getElem?_getD, List.getElem?_eq_getElem h] <;> rfl
theorem rpAll_nats {K : PySem.W.Frag} {H : Hp} : ∀ {row : List Nat} {xs : List V}, RpAll K H xs (row.map dNat) → xs = row.map vNat
  | [], _, h => by
    cases h
    rfl
  | j :: r, _, h => by
    cases h with
    | cons h1 h2 =>
      cases h1
      rw [rpAll_nats h2]
      rfl
theorem WinAt.pairs {K : PySem.W.Frag} {H : Hp} {w : Addr} {ws : List (Int × Int)} (h : WinAt K H w ws) : ∃ as : List Addr, SqT K H w (as.map V.ref) ∧ PairsAt K H as ws := by
  obtain ⟨_, as, h1, h2, h3⟩ := h
  exact ⟨as, h1, h2, h3⟩
theorem cat_wins {K : PySem.W.Frag} {H : Hp} {a b : Addr} {us ws : List (Int × Int)} {Q : VK} (ha : WinAt K H a us) (hb : WinAt K H b ws) (hl : us.length + ws.length ≤ 1000) (k : ∀ r H', Ex H H' → WinAt K H' r (us ++ ws) → Q (.ref r) H') : rCatA K (.ref a) (.ref b) H Q := by
  obtain ⟨as, a1, a2⟩ := ha.pairs
  obtain ⟨bs, b1, b2⟩ := hb.pairs
  have e1 := a2.1
  have e2 := b2.1
  refine cat_read a1 b1 (by rw [List.length_map, List.length_map]; omega) fun r H' e h => k r H' e ?_
  rw [← List.map_append] at h
  exact WinAt.of h (PairsAt.append (a2.mono e) (b2.mono e)) (by rw [List.length_append]; exact hl)
theorem rep_wins {K : PySem.W.Frag} {H : Hp} {a : Addr} {us : List (Int × Int)} {Q : VK} (ha : WinAt K H a us) (h0 : us ≠ []) (hl : us.length + us.length ≤ 1000) (k : ∀ r H', Ex H H' → WinAt K H' r (us ++ us) → Q (.ref r) H') : rRepL K (.int 2) (.ref a) H Q := by
  obtain ⟨as, a1, a2⟩ := ha.pairs
  have e1 := a2.1
  refine ⟨a, 2, _, rfl, rfl, a1, ?_, by decide, by decide, by rw [List.length_map]; omega, fun p np => k p _ (Ex.new np) ?_⟩
  · intro e
    have e0 : as = [] := List.map_eq_nil_iff.mp e
    rw [e0] at e1
    exact h0 (List.eq_nil_of_length_eq_zero e1.symm)
  · have x := Ex.new (o := .tup (List.replicate (2 : Int).toNat (as.map V.ref)).flatten) np
    refine WinAt.of (as := as ++ as) (SqT.of ?_) (PairsAt.append (a2.mono x) (a2.mono x)) (by rw [List.length_append]; exact hl)
    rw [upd_same, List.map_append]
    show some (HO.tup (as.map V.ref ++ (as.map V.ref ++ []))) = _
    rw [List.append_nil]
theorem winAt_app {us ws : List (Int × Int)} {j : Nat} (h : j < us.length) : winAt (us ++ ws) j = winAt us j := by
  unfold winAt
  rw [List.getD_eq_getElem?_getD, List.getD_eq_getElem?_getD, List.getElem?_append_left h]
theorem winAt_app2 {us ws : List (Int × Int)} (j : Nat) : winAt (us ++ ws) (us.length + j) = winAt ws j := by
  unfold winAt
  rw [List.getD_eq_getElem?_getD, List.getD_eq_getElem?_getD, List.getElem?_append_right (by omega)]
  congr 2
  omega
theorem partW_app {us ws : List (Int × Int)} {row : List Nat} (h : ∀ j ∈ row, j < us.length) : partW (us ++ ws) row = partW us row := List.map_congr_left fun j hj => winAt_app (h j hj)
theorem partW_range (ws : List (Int × Int)) : partW ws (List.range ws.length) = ws := by
  show (List.range ws.length).map (winAt ws) = ws
  refine List.ext_getElem (by simp) fun i h1 h2 => ?_
  rw [List.getElem_map, List.getElem_range, pair_nums h2]
theorem partW_rest (us ws : List (Int × Int)) : partW (us ++ ws) ((List.range ws.length).map fun i => us.length + i) = ws := by
  unfold partW
  rw [List.map_map]
  refine Eq.trans (List.map_congr_left fun j hj => ?_) (partW_range ws)
  exact winAt_app2 j
theorem partW_sh {ws : List (Int × Int)} {row : List Nat} {k : Int} (h : ∀ j ∈ row, j < ws.length) : partW (shW k ws) row = shW k (partW ws row) := by
  unfold partW shW
  rw [List.map_map]
  exact List.map_congr_left fun j hj => winAt_map (h j hj)
theorem sh_back (k : Int) (ws : List (Int × Int)) : shW (-k) (shW k ws) = ws := by
  unfold shW
  rw [List.map_map]
  refine (List.map_congr_left fun q _ => ?_).trans (List.map_id _)
  refine Prod.ext ?_ ?_
  · show q.1 + k + -k = q.1
    omega
  · show q.2 + k + -k = q.2
    omega
theorem byD_of {ws : List (Int × Int)} {z : Int} (h : ∀ q ∈ ws, 0 ≤ q.1 + z) : byD ws (.int z) = true := by
  simp only [byD, List.all_eq_true, decide_eq_true_eq]
  exact h
theorem rgV_from (n k : Nat) : rgV (n : Int) ((n : Int) + (k : Int)) = (((List.range k).map fun i => n + i).map vNat) := by
  unfold rgV
  rw [show ((n : Int) + (k : Int) - (n : Int)).toNat = k by omega, List.map_map]
  rfl
theorem RpAll.append {K : PySem.W.Frag} {H : Hp} : ∀ {vs us : List V} {ds es : List Da}, RpAll K H vs ds → RpAll K H us es → RpAll K H (vs ++ us) (ds ++ es)
  | _, _, _, _, .nil, g => g
  | _, _, _, _, .cons h r, g => .cons h (RpAll.append r g)
theorem rpAll_row {K : PySem.W.Frag} {H : Hp} : ∀ row : List Nat, RpAll K H (row.map vNat) (row.map dNat)
  | [] => .nil
  | j :: r => .cons (.int _) (rpAll_row r)
def BadD (n : Nat) (d : Da) : Prop := smallD d ∧ partD n d = false
theorem bad_work {n : Nat} {ds : List Da} (h0 : ds.length ≤ 1000) (h : ds.all (workD n) = false) : BadD n (.tup ds) := ⟨h0, by simp only [partD, groupD, rowD, h, Bool.false_and]⟩
theorem bad_twice {n : Nat} {ds : List Da} (h0 : ds.length ≤ 1000) (h : ¬ (ds.map daInt).Nodup) : BadD n (.tup ds) := ⟨h0, by simp only [partD, groupD, rowD, decide_eq_false h, Bool.and_false, Bool.false_and]⟩
theorem bad_up {n : Nat} {ds : List Da} (h0 : ds.length ≤ 1000) (h : ¬ (ds.map daInt).Pairwise (· ≤ ·)) : BadD n (.tup ds) := ⟨h0, by simp only [partD, groupD, upD, decide_eq_false h, Bool.and_false, Bool.false_and]⟩
theorem bad_nil (n : Nat) : BadD n (.tup []) := ⟨Nat.zero_le _, by simp [partD]⟩
theorem byD_bad {ws : List (Int × Int)} {z : Int} (h : ∃ q ∈ ws, q.1 + z < 0) : byD ws (.int z) = false := by
  obtain ⟨q, hq, h⟩ := h
  simp only [byD]
  rw [List.all_eq_false]
  exact ⟨q, hq, by simp; omega⟩
/-! ### runs moved, renamed, one behind another -/
def mvT (f : Nat → Nat) (k : Int) (q : Int × Int × Int) : Int × Int × Int := (((f q.1.toNat : Nat) : Int), q.2.1 + k, q.2.2 + k)
structure Alike (ws ws' : List (Int × Int)) (lot lot' : List (Option Int)) (f : Nat → Nat) (k : Int) (j : Nat) : Prop where
  fst : fstAt ws' (f j) = fstAt ws j + k
  lst : lstAt ws' (f j) = lstAt ws j + k
  len : lenAt lot' (f j) = lenAt lot j
theorem steps_mv {ws ws' : List (Int × Int)} {lot lot' : List (Option Int)} {f : Nat → Nat} {k : Int} : ∀ (l : List Nat) (h h' : Int), (h' = h + k ∨ ∃ j r, l = j :: r ∧ h ≤ fstAt ws j ∧ h' ≤ fstAt ws j + k) → (∀ j ∈ l, Alike ws ws' lot lot' f k j) →
    stepsF ws' lot' h' (l.map f) = (stepsF ws lot h l).map (mvT f k)
  | [], _, _, _, _ => rfl
  | j :: r, h, h', hh, al => by
    obtain ⟨a1, a2, a3⟩ := al j (List.mem_cons_self ..)
    have hb : (if (winAt ws' (f j)).1 > h' then (winAt ws' (f j)).1 else h') = (if (winAt ws j).1 > h then (winAt ws j).1 else h) + k := by
      have a1' : (winAt ws' (f j)).1 = (winAt ws j).1 + k := a1
      rw [a1']
      rcases hh with e | ⟨i, s, e, g1, g2⟩
      · rw [e]
        split <;> split <;> omega
      · obtain ⟨rfl, rfl⟩ := List.cons.inj e
        have g1' : h ≤ (winAt ws j).1 := g1
        have g2' : h' ≤ (winAt ws j).1 + k := g2
        split <;> split <;> omega
    show _ :: stepsF ws' lot' _ (r.map f) = mvT f k _ :: (stepsF ws lot _ r).map (mvT f k)
    rw [hb, a3]
    have e1 : ((if (winAt ws j).1 > h then (winAt ws j).1 else h) + k + lenAt lot j) = ((if (winAt ws j).1 > h then (winAt ws j).1 else h) + lenAt lot j) + k := by omega
    rw [e1, steps_mv r _ _ (.inl rfl) fun i hi => al i (List.mem_cons_of_mem _ hi)]
    rfl
theorem stepsF_mem' {ws : List (Int × Int)} {lot : List (Option Int)} : ∀ {l : List Nat} {h : Int} {q : Int × Int × Int}, q ∈ stepsF ws lot h l → ∃ j ∈ l, q.1 = (j : Int) := stepsF_mem
theorem late_mv {ws ws' : List (Int × Int)} {lot lot' : List (Option Int)} {f : Nat → Nat} {k : Int} {l : List Nat} {h : Int} (al : ∀ j ∈ l, Alike ws ws' lot lot' f k j) : latesN ws' ((stepsF ws lot h l).map (mvT f k)) = latesN ws (stepsF ws lot h l) := by
  unfold latesN
  rw [List.map_map]
  refine List.map_congr_left fun q hq => ?_
  obtain ⟨j, hj, e⟩ := stepsF_mem hq
  have a2 := (al j hj).lst
  have e1 : (mvT f k q).1.toNat = f j := by
    show (((f q.1.toNat : Nat) : Int)).toNat = f j
    rw [e, Int.toNat_natCast, Int.toNat_natCast]
  have e2 : q.1.toNat = j := by rw [e, Int.toNat_natCast]
  show (q.2.2 + k) - (winAt ws' (mvT f k q).1.toNat).2 = q.2.2 - (winAt ws q.1.toNat).2
  rw [e1, e2]
  have a2' : (winAt ws' (f j)).2 = (winAt ws j).2 + k := a2
  rw [a2']
  omega
theorem intime_mv {ws ws' : List (Int × Int)} {lot lot' : List (Option Int)} {f : Nat → Nat} {k : Int} {l : List Nat} {h : Int} (al : ∀ j ∈ l, Alike ws ws' lot lot' f k j) : ((stepsF ws lot h l).map (mvT f k)).map (inTime ws') = (stepsF ws lot h l).map (inTime ws) := by
  rw [List.map_map]
  refine List.map_congr_left fun q hq => ?_
  obtain ⟨j, hj, e⟩ := stepsF_mem hq
  have a2 := (al j hj).lst
  have e1 : (mvT f k q).1.toNat = f j := by
    show (((f q.1.toNat : Nat) : Int)).toNat = f j
    rw [e, Int.toNat_natCast, Int.toNat_natCast]
  have e2 : q.1.toNat = j := by rw [e, Int.toNat_natCast]
  have a2' : (winAt ws' (f j)).2 = (winAt ws j).2 + k := a2
  show decide ((q.2.2 + k) ≤ (winAt ws' (mvT f k q).1.toNat).2) = decide (q.2.2 ≤ (winAt ws q.1.toNat).2)
  rw [e1, e2, a2']
  exact decide_eq_decide.mpr (by omega)
/-- the hour behind the run -/
def endF (ws : List (Int × Int)) (lot : List (Option Int)) : Int → List Nat → Int
  | h, [] => h
  | h, j :: r => endF ws lot ((if (winAt ws j).1 > h then (winAt ws j).1 else h) + lenAt lot j) r
theorem stepsF_app {ws : List (Int × Int)} {lot : List (Option Int)} : ∀ (l m : List Nat) (h : Int), stepsF ws lot h (l ++ m) = stepsF ws lot h l ++ stepsF ws lot (endF ws lot h l) m
  | [], _, _ => rfl
  | j :: r, m, h => by
    show _ :: stepsF ws lot _ (r ++ m) = _ :: (stepsF ws lot _ r ++ stepsF ws lot _ m)
    rw [stepsF_app r m]
    rfl
theorem endF_le {ws : List (Int × Int)} {lot : List (Option Int)} {M : Int} : ∀ (l : List Nat) (h : Int), h ≤ M → (∀ j ∈ l, fstAt ws j ≤ M) → (∀ j ∈ l, 0 ≤ lenAt lot j) → endF ws lot h l ≤ M + loadN lot l
  | [], h, hm, _, _ => by
    show h ≤ M + 0
    omega
  | j :: r, h, hm, hf, hl => by
    have f0 : (winAt ws j).1 ≤ M := hf j (List.mem_cons_self ..)
    have l0 := hl j (List.mem_cons_self ..)
    have ih := endF_le (ws := ws) (lot := lot) (M := M + lenAt lot j) r ((if (winAt ws j).1 > h then (winAt ws j).1 else h) + lenAt lot j) (by split <;> omega) (fun i hi => by have := hf i (List.mem_cons_of_mem _ hi); omega) (fun i hi => hl i (List.mem_cons_of_mem _ hi))
    show endF ws lot _ r ≤ M + loadN lot (j :: r)
    have e : loadN lot (j :: r) = lenAt lot j + loadN lot r := by simp [loadN]
    rw [e]
    omega
theorem load_pos {lot : List (Option Int)} (h0 : ∀ j, 0 ≤ lenAt lot j) : ∀ m : List Nat, 0 ≤ loadN lot m
  | [] => Int.le_refl _
  | a :: r => by
    have ih := load_pos h0 r
    have := h0 a
    have e : loadN lot (a :: r) = lenAt lot a + loadN lot r := by simp [loadN]
    omega
theorem sum_perm {l m : List Int} (h : l.Perm m) : l.sum = m.sum := by
  induction h with
  | nil => rfl
  | cons x _ ih => rw [List.sum_cons, List.sum_cons, ih]
  | swap x y l =>
    rw [List.sum_cons, List.sum_cons, List.sum_cons, List.sum_cons]
    omega
  | trans _ _ ih1 ih2 => rw [ih1, ih2]
theorem load_sub {lot : List (Option Int)} (h0 : ∀ j, 0 ≤ lenAt lot j) : ∀ {l m : List Nat}, l.Nodup → (∀ j ∈ l, j ∈ m) → loadN lot l ≤ loadN lot m
  | [], m, _, _ => load_pos h0 m
  | x :: r, m, nd, hs => by
    have hx := hs x (List.mem_cons_self ..)
    obtain ⟨n1, n2⟩ := List.nodup_cons.mp nd
    have ih := load_sub h0 (l := r) (m := m.erase x) n2 fun k hk => (List.mem_erase_of_ne (fun e : k = x => n1 (by rw [← e]; exact hk))).mpr (hs k (List.mem_cons_of_mem _ hk))
    have p := List.perm_cons_erase hx
    have e1 : loadN lot m = loadN lot (x :: m.erase x) := by
      unfold loadN
      exact sum_perm (p.map (lenAt lot))
    have e2 : loadN lot (x :: m.erase x) = lenAt lot x + loadN lot (m.erase x) := by simp [loadN]
    have e3 : loadN lot (x :: r) = lenAt lot x + loadN lot r := by simp [loadN]
    omega
theorem load_range : ∀ lot : List (Option Int), loadN lot (List.range lot.length) = (lot.filterMap id).sum
  | [] => rfl
  | o :: r => by
    have ih := load_range r
    unfold loadN at ih ⊢
    rw [List.length_cons, List.range_succ_eq_map, List.map_cons, List.map_map, List.sum_cons]
    have e : (List.range r.length).map (lenAt (o :: r) ∘ Nat.succ) = (List.range r.length).map (lenAt r) := by
      refine List.map_congr_left fun j _ => ?_
      rfl
    rw [e, ih]
    cases o with
    | none =>
      show (0 : Int) + _ = _
      rw [Int.zero_add]
      rfl
    | some n =>
      show n + _ = _
      rw [List.filterMap_cons]
      show n + _ = (n :: List.filterMap id r).sum
      rw [List.sum_cons]
theorem brk_sh {ws ws' : List (Int × Int)} {lot : List (Option Int)} {k : Int} {one : Nat} : ∀ (l : List Nat) (h : Int), (∀ j ∈ l, lstAt ws' j = lstAt ws j + k) → brkFrom ws' lot one (h + k) l = brkFrom ws lot one h l
  | [], _, _ => rfl
  | j :: r, h, hl => by
    have e := hl j (List.mem_cons_self ..)
    show (if h + k + lenAt lot j > lstAt ws' j then [((one : Int), (j : Int))] else []) ++ brkFrom ws' lot one (h + k + lenAt lot j) r = (if h + lenAt lot j > lstAt ws j then [((one : Int), (j : Int))] else []) ++ brkFrom ws lot one (h + lenAt lot j) r
    rw [show h + k + lenAt lot j = h + lenAt lot j + k by omega, brk_sh r _ fun i hi => hl i (List.mem_cons_of_mem _ hi), e]
    by_cases c : h + lenAt lot j > lstAt ws j
    · rw [if_pos c, if_pos (by omega)]
    · rw [if_neg c, if_neg (by omega)]
theorem brkF_sh {ws ws' : List (Int × Int)} {lot : List (Option Int)} {k : Int} : ∀ l : List Nat, (∀ j ∈ l, fstAt ws' j = fstAt ws j + k) → (∀ j ∈ l, lstAt ws' j = lstAt ws j + k) → brkF ws' lot l = brkF ws lot l
  | [], _, _ => rfl
  | j :: r, hf, hl => by
    show brkFrom ws' lot j (fstAt ws' j) (j :: r) ++ brkF ws' lot r = brkFrom ws lot j (fstAt ws j) (j :: r) ++ brkF ws lot r
    rw [hf j (List.mem_cons_self ..), brk_sh (j :: r) _ hl, brkF_sh r (fun i hi => hf i (List.mem_cons_of_mem _ hi)) fun i hi => hl i (List.mem_cons_of_mem _ hi)]
/-! ### the room of a work -/
def backF (ws : List (Int × Int)) (lot : List (Option Int)) (h : Int) (l : List Nat) : Int := l.foldl (fun h j => (if lstAt ws j < h then lstAt ws j else h) - lenAt lot j) h
def latestN (ws : List (Int × Int)) (lot : List (Option Int)) (l : List Nat) (w : Nat) : Int :=
  if lstAt ws w < backF ws lot (lstAt ws (l.getLast?.getD 0)) (l.drop (l.idxOf w + 1)).reverse then lstAt ws w else backF ws lot (lstAt ws (l.getLast?.getD 0)) (l.drop (l.idxOf w + 1)).reverse
def bareL (lot : List (Option Int)) (w : Nat) : List (Option Int) := lot.set w (some 0)
def begsN (ws : List (Int × Int)) (row : List Nat) (lot : List (Option Int)) (w : Nat) : List Int := ((stepsN ws row (bareL lot w)).filter fun q => decide (q.1 = (w : Int))).map fun q => q.2.1
def roomN (ws : List (Int × Int)) (row : List Nat) (lot : List (Option Int)) (w : Nat) : Option Int :=
  if servesB ws (stepsN ws row (bareL lot w)) = true then some (latestN ws lot (comingN row lot) w - (begsN ws row lot w).headD 0) else none
theorem back_sh {ws ws' : List (Int × Int)} {lot : List (Option Int)} {k : Int} : ∀ (l : List Nat) (h : Int), (∀ j ∈ l, lstAt ws' j = lstAt ws j + k) → backF ws' lot (h + k) l = backF ws lot h l + k
  | [], _, _ => rfl
  | j :: r, h, hl => by
    have e := hl j (List.mem_cons_self ..)
    show backF ws' lot ((if lstAt ws' j < h + k then lstAt ws' j else h + k) - lenAt lot j) r = backF ws lot ((if lstAt ws j < h then lstAt ws j else h) - lenAt lot j) r + k
    rw [← back_sh r _ fun i hi => hl i (List.mem_cons_of_mem _ hi), e]
    congr 1
    split <;> split <;> omega
theorem latest_sh {ws ws' : List (Int × Int)} {lot : List (Option Int)} {k : Int} {l : List Nat} {w : Nat} (hw : w ∈ l) (hl : ∀ j ∈ l, lstAt ws' j = lstAt ws j + k) : latestN ws' lot l w = latestN ws lot l w + k := by
  unfold latestN
  have hne : l ≠ [] := fun e => by
    rw [e] at hw
    cases hw
  have hg : l.getLast?.getD 0 ∈ l := by
    cases hgl : l.getLast? with
    | none => exact absurd (List.getLast?_eq_none_iff.mp hgl) hne
    | some b => exact List.mem_of_getLast? hgl
  have hd : ∀ j ∈ (l.drop (l.idxOf w + 1)).reverse, j ∈ l := fun j hj => List.mem_of_mem_drop (List.mem_reverse.mp hj)
  rw [hl _ hg, back_sh _ _ fun j hj => hl j (hd j hj), hl w hw]
  split <;> split <;> omega
theorem comingN_bare {row : List Nat} {lot : List (Option Int)} {w : Nat} (h : (lot[w]?).getD none ≠ none) : comingN row (bareL lot w) = comingN row lot := by
  unfold comingN bareL
  congr 1
  funext j
  by_cases e : w = j
  · subst e
    have hw : w < lot.length := by
      apply Classical.byContradiction
      intro n
      rw [List.getElem?_eq_none (by omega)] at h
      exact h rfl
    rw [List.getElem?_set_self hw]
    cases hh : (lot[w]?).getD none with
    | none => exact absurd hh h
    | some n => rfl
  · rw [List.getElem?_set_ne e]
/-! ### pairs in order -/
theorem pairs_uniq {ps qs bs : List (Int × Int)} (h1 : ps.Perm bs) (h2 : qs.Perm bs) (s1 : ps.Pairwise fun p q => SrtO.lexB q p = false) (s2 : qs.Pairwise fun p q => SrtO.lexB q p = false) : ps = qs := by
  refine List.Perm.eq_of_pairwise (fun a b _ _ g1 g2 => ?_) s1 s2 (h1.trans h2.symm)
  have a1 := SrtO.lexB_no.mp g1
  have a2 := SrtO.lexB_no.mp g2
  refine Prod.ext ?_ ?_ <;> omega
abbrev sp_brokenO (K : PySem.W.Frag) (A : Ad) : Sp := fun vs H Q E => Sp3 vs fun x y z => RunOn K A H x y z fun ws row lot => Right ws row lot ∧ ∀ (l : Addr) (as : List Addr) (qs : List (Int × Int)) (H' : Hp), H l = none → Ex H H' → H' l = some (.lst (as.map V.ref)) → PairsAt K H' as qs → qs.Perm (brkF ws lot (comingN row lot)) → (qs.Pairwise fun p q => SrtO.lexB q p = false) → Q (.ref l) H'
theorem dp_pairsL {K : PySem.W.Frag} {H : Hp} {l : Addr} {as : List Addr} {qs : List (Int × Int)} (h : SqL K H l (as.map V.ref)) (p : PairsAt K H as qs) : Dp K H (.ref l) (.list (qs.map dPair)) := by
  refine .lst h ?_
  clear h
  obtain ⟨h2, h3⟩ := p
  induction qs generalizing as with
  | nil =>
    cases as with
    | nil => exact .nil
    | cons _ _ => simp at h2
  | cons q r ih =>
    cases as with
    | nil => simp at h2
    | cons a s => exact .cons (.tup (h3 0 a q rfl rfl) (.cons (.int _) (.cons (.int _) .nil))) (ih (by simpa using h2) fun i a q x y => h3 (i + 1) a q x y)
theorem eqv_pairsL (l m : List (Int × Int)) : PyData.eqv (.list (l.map dPair)) (.list (m.map dPair)) = decide (l = m) := by
  simp only [PyData.eqv, eqvAll_pairs]
def pairOf (H : Hp) : V → Int × Int
  | .ref a => match H a with
    | some (.tup [.int i, .int j]) => (i, j)
    | _ => (0, 0)
  | _ => (0, 0)
theorem Grows.srt {K : PySem.W.Frag} {H : Hp} {as : List Addr} {ps : List (Int × Int)} {ys : List V} (h2 : as.length = ps.length) (h3 : ∀ (i : Nat) (a : Addr) (q : Int × Int), as[i]? = some a → ps[i]? = some q → H a = some (.tup [.int q.1, .int q.2])) (hs : SrtO.Srtd (ltP (pairOf H)) ys) (hp : ys.Perm (as.map V.ref)) :
    ∃ (bs : List Addr) (qs : List (Int × Int)), ys = bs.map V.ref ∧ PairsAt K H bs qs ∧ qs.Perm ps ∧ qs.Pairwise fun p q => SrtO.lexB q p = false := by
  have hk : (as.map V.ref).map (pairOf H) = ps := by
    rw [List.map_map]
    refine List.ext_getElem (by rw [List.length_map, h2]) fun i g1 g2 => ?_
    rw [List.length_map] at g1
    rw [List.getElem_map]
    have e := h3 i as[i] ps[i] (List.getElem?_eq_getElem g1) (List.getElem?_eq_getElem g2)
    show pairOf H (.ref as[i]) = ps[i]
    simp only [pairOf, e]
  have hr : ∃ bs : List Addr, ys = bs.map V.ref ∧ ∀ b ∈ bs, b ∈ as := by
    have : ∀ y ∈ ys, ∃ a ∈ as, y = V.ref a := fun y hy => by
      obtain ⟨a, ha, e⟩ := List.mem_map.mp (hp.mem_iff.mp hy)
      exact ⟨a, ha, e.symm⟩
    clear hp hs hk
    induction ys with
    | nil => exact ⟨[], rfl, fun b hb => by cases hb⟩
    | cons y r ih =>
      obtain ⟨a, ha, rfl⟩ := this _ (List.mem_cons_self ..)
      obtain ⟨bs, rfl, g⟩ := ih fun z hz => this z (List.mem_cons_of_mem _ hz)
      exact ⟨a :: bs, rfl, fun b hb => by
        rcases List.mem_cons.mp hb with e | hb
        · rw [e]; exact ha
        · exact g b hb⟩
  obtain ⟨bs, rfl, hb⟩ := hr
  refine ⟨bs, (bs.map V.ref).map (pairOf H), rfl, ⟨by rw [List.length_map, List.length_map], fun i a q x y => ?_⟩, ?_, List.pairwise_map.mpr hs⟩
  · rw [List.getElem?_map, List.getElem?_map, x] at y
    have hm := hb a (List.mem_of_getElem? x)
    obtain ⟨n, hn, en⟩ := List.mem_iff_getElem.mp hm
    have e := h3 n a ps[n] (by rw [List.getElem?_eq_getElem hn, en]) (List.getElem?_eq_getElem (by omega))
    have y' : pairOf H (.ref a) = q := Option.some.inj y
    have e2 : pairOf H (.ref a) = ps[n] := by simp only [pairOf, e]
    rw [← y', e2]
    exact SqT.of e
  · rw [← hk]
    exact hp.map _
structure Sp4 (vs : List V) (P : V → V → V → V → Prop) : Prop where
  ex : ∃ x y z u, vs = [x, y, z, u] ∧ P x y z u
theorem Sp4.len {vs : List V} {P : V → V → V → V → Prop} (h : Sp4 vs P) : vs.length = 4 := by
  obtain ⟨x, y, z, u, rfl, _⟩ := h.ex
  rfl
abbrev sp_latest_end (K : PySem.W.Frag) (A : Ad) : Sp := fun vs H Q _ => Sp4 vs fun x y z u => ∃ w : Nat, u = .int (w : Int) ∧ RunOn K A H x y z fun ws row lot => w ∈ comingN row lot ∧ ∀ H', Ex H H' → Q (.int (latestN ws lot (comingN row lot) w)) H'
abbrev sp_room (K : PySem.W.Frag) (A : Ad) : Sp := fun vs H Q E => Sp4 vs fun x y z u => ∃ w : Nat, u = .int (w : Int) ∧ RunOn K A H x y z fun ws row lot => Right ws row lot ∧ w ∈ comingN row lot ∧ ∀ H', Ex H H' → Q (vO (roomN ws row lot w)) H'
abbrev sp_l_moved (K : PySem.W.Frag) (A : Ad) : Sp := fun vs H Q _ => Sp2 vs fun x y => ∃ (l : Addr) (as : List Addr) (ts : List (Int × Int × Int)) (k : Int), x = .ref l ∧ y = .int k ∧ SqT K H l (as.map V.ref) ∧ TrisAt K H as ts ∧ ts.length ≤ 1000 ∧
  ∀ (l2 : Addr) (bs : List Addr) (H' : Hp), H l2 = none → Ex H H' → H' l2 = some (.tup (bs.map V.ref)) → TrisAt K H' bs (ts.map fun q => (q.1, q.2.1 + k, q.2.2 + k)) → Q (.ref l2) H'
theorem atI_end {l : List Nat} (h : l ≠ []) : atI (l.map vNat) (-1) = some (vNat (l.getLast?.getD 0)) := by
  obtain ⟨r, a, rfl⟩ : ∃ r a, l = r ++ [a] := ⟨l.dropLast, l.getLast h, (List.dropLast_concat_getLast h).symm⟩
  rw [List.map_append, List.getLast?_append]
  exact atI_last _ _
theorem lot_put {lot : List (Option Int)} {s : Nat} {d : Int} (h : s < lot.length) : cutV (lot.map vO) none (some (s : Int)) ++ [V.int d] ++ cutV (lot.map vO) (some ((s : Int) + 1)) none = (lot.set s (some d)).map vO := by
  unfold cutV
  have e : ((s : Int) + 1) = ((s + 1 : Nat) : Int) := rfl
  rw [e, HT.sIx_none, HT.sIx_nat, HT.sIx_nat, HT.sIx_none, List.length_map, List.set_eq_take_append_cons_drop, if_pos h]
  rw [Nat.min_eq_left (by omega), Nat.min_eq_left (by omega), List.drop_zero, Nat.sub_zero, List.take_of_length_le (l := List.drop (s + 1) (lot.map vO)) (by rw [List.length_drop, List.length_map] <;> omega), List.map_append, List.map_cons, List.append_assoc, List.map_take, List.map_drop]
  rfl
theorem steps_has {ws : List (Int × Int)} {lot : List (Option Int)} : ∀ {l : List Nat} {h : Int} {w : Nat}, w ∈ l → ∃ q ∈ stepsF ws lot h l, q.1 = (w : Int)
  | j :: r, h, w, hw => by
    rcases List.mem_cons.mp hw with e | hw
    · rw [e]
      exact ⟨_, List.mem_cons_self .., rfl⟩
    · obtain ⟨q, hq, e⟩ := steps_has (ws := ws) (lot := lot) (h := (if (winAt ws j).1 > h then (winAt ws j).1 else h) + lenAt lot j) hw
      exact ⟨q, List.mem_cons_of_mem _ hq, e⟩
theorem Right.put {ws : List (Int × Int)} {row : List Nat} {lot : List (Option Int)} (R : Right ws row lot) {w : Nat} {d : Int} (hd : 0 ≤ d) (hw : w ∈ row) : Right ws row (lot.set w (some d)) := by
  refine ⟨R.lt, R.nd, by rw [List.length_set]; exact R.sz, fun n hn => ?_, fun j hj => ?_⟩
  · rcases List.mem_or_eq_of_mem_set hn with h | h
    · exact R.ge n h
    · cases h
      exact hd
  · by_cases e : w = j
    · rw [← e]
      exact hw
    · rw [List.getElem?_set_ne e] at hj
      exact R.isin j hj
/-! ### k14: what follows of runs -/
theorem shW_fst {ws : List (Int × Int)} {k : Int} {j : Nat} (h : j < ws.length) : fstAt (shW k ws) j = fstAt ws j + k := by
  unfold fstAt shW
  rw [winAt_map h]
theorem shW_lst {ws : List (Int × Int)} {k : Int} {j : Nat} (h : j < ws.length) : lstAt (shW k ws) j = lstAt ws j + k := by
  unfold lstAt shW
  rw [winAt_map h]
theorem alike_sh {ws : List (Int × Int)} {lot : List (Option Int)} {k : Int} {j : Nat} (h : j < ws.length) : Alike ws (shW k ws) lot lot id k j := ⟨shW_fst h, shW_lst h, rfl⟩
def plusT (n k : Int) (q : Int × Int × Int) : Int × Int × Int := (q.1 + n, q.2.1 + k, q.2.2 + k)
theorem mv_plus {ws : List (Int × Int)} {lot : List (Option Int)} {l : List Nat} {h : Int} {f : Nat → Nat} {n : Nat} {k : Int} (hf : ∀ j ∈ l, f j = j + n) : (stepsF ws lot h l).map (mvT f k) = (stepsF ws lot h l).map (plusT n k) := by
  refine List.map_congr_left fun q hq => ?_
  obtain ⟨j, hj, e⟩ := stepsF_mem hq
  have e1 : (((f q.1.toNat : Nat) : Int)) = q.1 + (n : Int) := by
    rw [e, Int.toNat_natCast, hf j hj]
    omega
  show ((((f q.1.toNat : Nat) : Int)), q.2.1 + k, q.2.2 + k) = (q.1 + (n : Int), q.2.1 + k, q.2.2 + k)
  rw [e1]
theorem stepsN_sh {ws : List (Int × Int)} {row : List Nat} {lot : List (Option Int)} {k : Int} (h1 : ∀ j ∈ row, j < ws.length) (h0 : ∀ j ∈ row, 0 ≤ fstAt ws j) (hk : 0 ≤ k) : stepsN (shW k ws) row lot = (stepsN ws row lot).map (plusT 0 k) := by
  unfold stepsN
  have sub : ∀ j ∈ comingN row lot, j ∈ row := fun j hj => (comingN_mem hj).1
  have m := mv_plus (ws := ws) (lot := lot) (l := comingN row lot) (h := 0) (f := id) (n := 0) (k := k) (fun j _ => rfl)
  have m' : (stepsF ws lot 0 (comingN row lot)).map (mvT id k) = (stepsF ws lot 0 (comingN row lot)).map (plusT 0 k) := m
  rw [← m']
  cases hc : comingN row lot with
  | nil => rfl
  | cons j r =>
    rw [hc] at sub
    have hj := h0 j (sub j (List.mem_cons_self ..))
    have key := steps_mv (f := id) (k := k) (ws := ws) (ws' := shW k ws) (lot := lot) (lot' := lot) (j :: r) 0 0 (.inr ⟨j, r, rfl, hj, by omega⟩) fun i hi => alike_sh (h1 i (sub i hi))
    rw [List.map_id] at key
    exact key
theorem late_plus {ws : List (Int × Int)} {lot : List (Option Int)} {k : Int} {l : List Nat} {h : Int} (h1 : ∀ j ∈ l, j < ws.length) : latesN (shW k ws) ((stepsF ws lot h l).map (plusT 0 k)) = latesN ws (stepsF ws lot h l) := by
  have m : (stepsF ws lot h l).map (mvT id k) = (stepsF ws lot h l).map (plusT 0 k) := mv_plus (n := 0) fun j _ => rfl
  rw [← m]
  exact late_mv (lot' := lot) fun j hj => alike_sh (h1 j hj)
theorem due_sh {ws : List (Int × Int)} {row : List Nat} {lot : List (Option Int)} {k : Int} (h1 : ∀ j ∈ row, j < ws.length) (h0 : ∀ j ∈ row, 0 ≤ fstAt ws j) (hk : 0 ≤ k) : dueN (shW k ws) row lot = dueN ws row lot := by
  unfold dueN
  rw [stepsN_sh h1 h0 hk]
  unfold stepsN
  rw [late_plus fun j hj => h1 j (comingN_mem hj).1]
theorem brk_sh' {ws : List (Int × Int)} {row : List Nat} {lot : List (Option Int)} {k : Int} (h1 : ∀ j ∈ row, j < ws.length) : brkF (shW k ws) lot (comingN row lot) = brkF ws lot (comingN row lot) :=
  brkF_sh _ (fun j hj => shW_fst (h1 j (comingN_mem hj).1)) fun j hj => shW_lst (h1 j (comingN_mem hj).1)
theorem begs_sh {ws : List (Int × Int)} {row : List Nat} {lot : List (Option Int)} {k : Int} {w : Nat} (h1 : ∀ j ∈ row, j < ws.length) (h0 : ∀ j ∈ row, 0 ≤ fstAt ws j) (hk : 0 ≤ k) : begsN (shW k ws) row lot w = (begsN ws row lot w).map (· + k) := by
  unfold begsN
  rw [stepsN_sh h1 h0 hk, List.filter_map, List.map_map, List.map_map]
  have e : ((fun q : Int × Int × Int => decide (q.1 = (w : Int))) ∘ plusT 0 k) = fun q => decide (q.1 = (w : Int)) := by
    funext q
    show decide (q.1 + 0 = (w : Int)) = _
    rw [Int.add_zero]
  rw [e]
  rfl
theorem begs_some {ws : List (Int × Int)} {row : List Nat} {lot : List (Option Int)} {w : Nat} (hw : w ∈ comingN row lot) : ∃ g r, begsN ws row lot w = g :: r := by
  have cb : comingN row (bareL lot w) = comingN row lot := comingN_bare (by
    obtain ⟨_, n, e⟩ := comingN_mem hw
    rw [e]
    simp)
  obtain ⟨q, hq, e⟩ := steps_has (ws := ws) (lot := bareL lot w) (h := 0) (w := w) (l := comingN row (bareL lot w)) (by rw [cb]; exact hw)
  have hq' : q.2.1 ∈ begsN ws row lot w := List.mem_map.mpr ⟨q, List.mem_filter.mpr ⟨hq, decide_eq_true e⟩, rfl⟩
  cases hh : begsN ws row lot w with
  | nil =>
    rw [hh] at hq'
    cases hq'
  | cons g r => exact ⟨g, r, rfl⟩
theorem room_sh {ws : List (Int × Int)} {row : List Nat} {lot : List (Option Int)} {k : Int} {w : Nat} (h1 : ∀ j ∈ row, j < ws.length) (h0 : ∀ j ∈ row, 0 ≤ fstAt ws j) (hk : 0 ≤ k) (hw : w ∈ comingN row lot) : roomN (shW k ws) row lot w = roomN ws row lot w := by
  obtain ⟨g, r, hg⟩ := begs_some (ws := ws) hw
  have hl := latest_sh (ws := ws) (ws' := shW k ws) (lot := lot) (k := k) hw fun j hj => shW_lst (h1 j (comingN_mem hj).1)
  unfold roomN
  have e : latestN ws lot (comingN row lot) w + k - (List.map (· + k) (g :: r)).headD 0 = latestN ws lot (comingN row lot) w - (g :: r).headD 0 := by
    show latestN ws lot (comingN row lot) w + k - (g + k) = latestN ws lot (comingN row lot) w - g
    omega
  rw [serves_due, serves_due, due_sh h1 h0 hk, begs_sh h1 h0 hk, hg, hl, e]
theorem lot_app1 {lot lot2 : List (Option Int)} {j : Nat} (h : j < lot.length) : (lot ++ lot2)[j]? = lot[j]? := List.getElem?_append_left h
theorem lot_app2 {lot lot2 : List (Option Int)} {j : Nat} : (lot ++ lot2)[j + lot.length]? = lot2[j]? := by
  rw [List.getElem?_append_right (by omega)]
  congr 1
  omega
theorem coming_twice {row : List Nat} {lot : List (Option Int)} (h1 : ∀ j ∈ row, j < lot.length) : comingN (row ++ row.map (· + lot.length)) (lot ++ lot) = comingN row lot ++ (comingN row lot).map (· + lot.length) := by
  rw [comingN_app]
  congr 1
  · unfold comingN
    refine List.filter_congr fun j hj => ?_
    rw [lot_app1 (h1 j hj)]
  · unfold comingN
    rw [List.filter_map]
    congr 1
    refine List.filter_congr fun j hj => ?_
    show (((lot ++ lot)[j + lot.length]?).getD none).isSome = _
    rw [lot_app2]
theorem steps_twice {ws : List (Int × Int)} {row : List Nat} {lot : List (Option Int)} {far M : Int} (R : Right ws row lot) (h0 : ∀ j ∈ row, 0 ≤ fstAt ws j) (hM : ∀ j ∈ row, fstAt ws j ≤ M) (hM0 : 0 ≤ M) (hf : M + (lot.filterMap id).sum ≤ far) :
    stepsN (ws ++ shW far ws) (row ++ row.map (· + lot.length)) (lot ++ lot) = stepsN ws row lot ++ (stepsN ws row lot).map (plusT lot.length far) := by
  have h1 : ∀ j ∈ row, j < lot.length := fun j hj => by
    rw [R.sz]
    exact R.lt j hj
  have sub : ∀ j ∈ comingN row lot, j ∈ row := fun j hj => (comingN_mem hj).1
  unfold stepsN
  rw [coming_twice h1, stepsF_app]
  have al1 : ∀ j ∈ comingN row lot, Alike ws (ws ++ shW far ws) lot (lot ++ lot) id 0 j := fun j hj => by
    have hj' := R.lt j (sub j hj)
    refine ⟨?_, ?_, ?_⟩
    · show (winAt (ws ++ shW far ws) j).1 = (winAt ws j).1 + 0
      rw [winAt_app hj', Int.add_zero]
    · show (winAt (ws ++ shW far ws) j).2 = (winAt ws j).2 + 0
      rw [winAt_app hj', Int.add_zero]
    · unfold lenAt
      show ((((lot ++ lot)[j]?).getD none).getD 0) = _
      rw [lot_app1 (h1 j (sub j hj))]
  have al2 : ∀ j ∈ comingN row lot, Alike ws (ws ++ shW far ws) lot (lot ++ lot) (· + lot.length) far j := fun j hj => by
    have hj' := R.lt j (sub j hj)
    have e : winAt (ws ++ shW far ws) (j + lot.length) = winAt (shW far ws) j := by
      rw [R.sz, Nat.add_comm]
      exact winAt_app2 j
    refine ⟨?_, ?_, ?_⟩
    · show (winAt (ws ++ shW far ws) (j + lot.length)).1 = fstAt ws j + far
      rw [e]
      exact shW_fst hj'
    · show (winAt (ws ++ shW far ws) (j + lot.length)).2 = lstAt ws j + far
      rw [e]
      exact shW_lst hj'
    · unfold lenAt
      show ((((lot ++ lot)[j + lot.length]?).getD none).getD 0) = _
      rw [lot_app2]
  have s1 : stepsF (ws ++ shW far ws) (lot ++ lot) 0 (comingN row lot) = stepsF ws lot 0 (comingN row lot) := by
    have key := steps_mv (comingN row lot) 0 0 (.inl rfl) al1
    rw [List.map_id] at key
    rw [key]
    have m : (stepsF ws lot 0 (comingN row lot)).map (mvT id 0) = (stepsF ws lot 0 (comingN row lot)).map (plusT 0 0) := mv_plus (n := 0) fun j _ => rfl
    rw [m]
    refine (List.map_congr_left fun q _ => ?_).trans (List.map_id _)
    show (q.1 + 0, q.2.1 + 0, q.2.2 + 0) = q
    rw [Int.add_zero, Int.add_zero, Int.add_zero]
  rw [s1]
  congr 1
  have m := mv_plus (ws := ws) (lot := lot) (l := comingN row lot) (h := 0) (f := (· + lot.length)) (n := lot.length) (k := far) fun j _ => rfl
  rw [← m]
  have eF : endF (ws ++ shW far ws) (lot ++ lot) 0 (comingN row lot) ≤ M + loadN (lot ++ lot) (comingN row lot) := endF_le _ _ hM0 (fun j hj => by
    have := (al1 j hj).fst
    have e : fstAt (ws ++ shW far ws) j = fstAt ws j := by
      rw [← Int.add_zero (fstAt ws j)]
      exact this
    rw [e]
    exact hM j (sub j hj)) fun j hj => by
    have := (al1 j hj).len
    have e : lenAt (lot ++ lot) j = lenAt lot j := this
    rw [e]
    exact R.len0 j
  have e3 : loadN (lot ++ lot) (comingN row lot) = loadN lot (comingN row lot) := by
    unfold loadN
    congr 1
    exact List.map_congr_left fun j hj => (al1 j hj).len
  have e4 : loadN lot (comingN row lot) ≤ loadN lot (List.range lot.length) := load_sub R.len0 (List.Pairwise.filter _ R.nd) fun j hj => List.mem_range.mpr (h1 j (sub j hj))
  rw [load_range] at e4
  rw [e3] at eF
  cases hc : comingN row lot with
  | nil => rfl
  | cons j r =>
    rw [hc] at al2 eF sub e4
    have hj := h0 j (sub j (List.mem_cons_self ..))
    exact steps_mv (j :: r) 0 _ (.inr ⟨j, r, rfl, hj, by omega⟩) al2
theorem serves_twice {ws : List (Int × Int)} {row : List Nat} {lot : List (Option Int)} {far : Int} (R : Right ws row lot) : servesB (ws ++ shW far ws) (stepsN ws row lot ++ (stepsN ws row lot).map (plusT lot.length far)) = servesB ws (stepsN ws row lot) := by
  have sub : ∀ j ∈ comingN row lot, j ∈ row := fun j hj => (comingN_mem hj).1
  unfold servesB
  rw [List.map_append, List.all_append]
  have a : (stepsN ws row lot).map (inTime (ws ++ shW far ws)) = (stepsN ws row lot).map (inTime ws) := by
    refine List.map_congr_left fun q hq => ?_
    obtain ⟨j, hj, e⟩ := stepsF_mem hq
    unfold inTime
    rw [e, Int.toNat_natCast, winAt_app (R.lt j (sub j hj))]
  have b : ((stepsN ws row lot).map (plusT lot.length far)).map (inTime (ws ++ shW far ws)) = (stepsN ws row lot).map (inTime ws) := by
    rw [List.map_map]
    refine List.map_congr_left fun q hq => ?_
    obtain ⟨j, hj, e⟩ := stepsF_mem hq
    have hj' := R.lt j (sub j hj)
    have e1 : (plusT lot.length far q).1.toNat = ws.length + j := by
      show (q.1 + (lot.length : Int)).toNat = _
      rw [e, R.sz]
      omega
    have e2 : (winAt (shW far ws) j).2 = (winAt ws j).2 + far := shW_lst hj'
    show decide ((q.2.2 + far) ≤ (winAt (ws ++ shW far ws) (plusT lot.length far q).1.toNat).2) = decide (q.2.2 ≤ (winAt ws q.1.toNat).2)
    rw [e1, winAt_app2, e2, e, Int.toNat_natCast]
    exact decide_eq_decide.mpr (by omega)
  rw [a, b, Bool.and_self]
theorem right_twice {ws : List (Int × Int)} {row : List Nat} {lot : List (Option Int)} {far : Int} (R : Right ws row lot) : Right (ws ++ shW far ws) (row ++ row.map (· + lot.length)) (lot ++ lot) := by
  refine ⟨fun j hj => ?_, ?_, by rw [List.length_append, List.length_append, shW_len, R.sz], fun m hm => ?_, fun j hj => ?_⟩
  · rw [List.length_append, shW_len]
    rcases List.mem_append.mp hj with hj | hj
    · have := R.lt j hj
      omega
    · obtain ⟨i, hi, rfl⟩ := List.mem_map.mp hj
      have := R.lt i hi
      have := R.sz
      omega
  · rw [List.nodup_append]
    refine ⟨R.nd, List.pairwise_map.mpr (R.nd.imp fun h e => h (by omega)), fun a ha b hb e => ?_⟩
    obtain ⟨i, hi, rfl⟩ := List.mem_map.mp hb
    have := R.lt a ha
    have := R.sz
    omega
  · rcases List.mem_append.mp hm with hm | hm <;> exact R.ge m hm
  · by_cases h : j < lot.length
    · rw [lot_app1 h] at hj
      exact List.mem_append_left _ (R.isin j hj)
    · obtain ⟨i, rfl⟩ : ∃ i, j = i + lot.length := ⟨j - lot.length, by omega⟩
      rw [lot_app2] at hj
      exact List.mem_append_right _ (List.mem_map_of_mem (R.isin i hj))
/-! ### a part with its works renumbered -/
def lotAt (lot : List (Option Int)) (j : Nat) : Option Int := (lot[j]?).getD none
theorem part_win {ws : List (Int × Int)} {grp : List Nat} {j : Nat} (hj : j ∈ grp) : winAt (partW ws grp) (grp.idxOf j) = winAt ws j := by
  have h := List.idxOf_lt_length_iff.mpr hj
  unfold winAt partW
  rw [List.getD_eq_getElem?_getD, List.getElem?_map, List.getElem?_eq_getElem h, List.getElem_idxOf h]
  rfl
theorem part_lot {lot : List (Option Int)} {grp : List Nat} {j : Nat} (hj : j ∈ grp) : ((grp.map (lotAt lot))[grp.idxOf j]?).getD none = lotAt lot j := by
  have h := List.idxOf_lt_length_iff.mpr hj
  rw [List.getElem?_map, List.getElem?_eq_getElem h, List.getElem_idxOf h]
  rfl
theorem steps_part {ws : List (Int × Int)} {row grp : List Nat} {lot : List (Option Int)} (hs : ∀ j ∈ row, j ∈ grp) : stepsN (partW ws grp) (row.map grp.idxOf) (grp.map (lotAt lot)) = (stepsN ws row lot).map fun q => (((grp.idxOf q.1.toNat : Nat) : Int), q.2.1, q.2.2) := by
  have c : comingN (row.map grp.idxOf) (grp.map (lotAt lot)) = (comingN row lot).map grp.idxOf := by
    unfold comingN
    rw [List.filter_map]
    congr 1
    refine List.filter_congr fun j hj => ?_
    show (((grp.map (lotAt lot))[grp.idxOf j]?).getD none).isSome = _
    rw [part_lot (hs j hj)]
    rfl
  unfold stepsN
  rw [c]
  have key := steps_mv (ws := ws) (ws' := partW ws grp) (lot := lot) (lot' := grp.map (lotAt lot)) (f := grp.idxOf) (k := 0) (comingN row lot) 0 0 (.inl rfl) fun j hj => by
    have hj' := hs j (comingN_mem hj).1
    refine ⟨?_, ?_, ?_⟩
    · show (winAt (partW ws grp) (grp.idxOf j)).1 = (winAt ws j).1 + 0
      rw [part_win hj', Int.add_zero]
    · show (winAt (partW ws grp) (grp.idxOf j)).2 = (winAt ws j).2 + 0
      rw [part_win hj', Int.add_zero]
    · unfold lenAt
      rw [part_lot hj']
      rfl
  rw [key]
  refine List.map_congr_left fun q _ => ?_
  show ((((grp.idxOf q.1.toNat : Nat) : Int)), q.2.1 + 0, q.2.2 + 0) = _
  rw [Int.add_zero, Int.add_zero]
theorem right_part {ws : List (Int × Int)} {row grp : List Nat} {lot : List (Option Int)} (R : Right ws row lot) (hp : grp.Perm row) : Right (partW ws grp) (row.map grp.idxOf) (grp.map (lotAt lot)) := by
  have gnd : grp.Nodup := hp.nodup_iff.mpr R.nd
  refine ⟨fun j hj => ?_, ?_, by unfold partW; rw [List.length_map, List.length_map], fun m hm => ?_, fun j hj => ?_⟩
  · obtain ⟨i, hi, rfl⟩ := List.mem_map.mp hj
    unfold partW
    rw [List.length_map]
    exact List.idxOf_lt_length_iff.mpr (hp.mem_iff.mpr hi)
  · refine List.pairwise_map.mpr (R.nd.imp_of_mem fun {a b} ha hb h e => h ?_)
    have h1 := List.idxOf_lt_length_iff.mpr (hp.mem_iff.mpr ha)
    have h2 := List.idxOf_lt_length_iff.mpr (hp.mem_iff.mpr hb)
    have g1 := List.getElem_idxOf h1
    have g2 := List.getElem_idxOf h2
    rw [← g1, ← g2]
    congr 1
  · obtain ⟨i, hi, e⟩ := List.mem_map.mp hm
    unfold lotAt at e
    cases hh : lot[i]? with
    | none =>
      rw [hh] at e
      cases e
    | some o =>
      rw [hh] at e
      cases e
      exact R.ge m (List.mem_of_getElem? hh)
  · by_cases h : j < grp.length
    · refine List.mem_map.mpr ⟨grp[j], hp.mem_iff.mp (List.getElem_mem h), ?_⟩
      exact List.Nodup.idxOf_getElem gnd j h
    · rw [List.getElem?_eq_none (by rw [List.length_map]; omega)] at hj
      exact absurd rfl hj
theorem TrisAt.append {K : PySem.W.Frag} {H : Hp} {as bs : List Addr} {ts us : List (Int × Int × Int)} (h : TrisAt K H as ts) (g : TrisAt K H bs us) : TrisAt K H (as ++ bs) (ts ++ us) := by
  obtain ⟨h2, h3⟩ := h
  obtain ⟨g2, g3⟩ := g
  refine ⟨by rw [List.length_append, List.length_append, h2, g2], fun i a q x y => ?_⟩
  by_cases hi : i < as.length
  · rw [List.getElem?_append_left hi] at x
    rw [List.getElem?_append_left (by omega)] at y
    exact h3 i a q x y
  · rw [List.getElem?_append_right (by omega)] at x
    rw [List.getElem?_append_right (by omega)] at y
    rw [h2] at x
    exact g3 _ a q x y
theorem to_nats {ms : List Int} {row : List Nat} (hp : ms.Perm (row.map fun j => ((j : Nat) : Int))) : ∃ grp : List Nat, ms = grp.map (fun j => ((j : Nat) : Int)) ∧ grp.Perm row := by
  refine ⟨ms.map Int.toNat, ?_, ?_⟩
  · rw [List.map_map]
    refine ((List.map_congr_left fun z hz => ?_).trans (List.map_id _)).symm
    obtain ⟨j, _, e⟩ := List.mem_map.mp (hp.mem_iff.mp hz)
    show ((z.toNat : Nat) : Int) = z
    rw [← e, Int.toNat_natCast]
  · have := hp.map Int.toNat
    rw [List.map_map] at this
    have e : (row.map (Int.toNat ∘ fun j => ((j : Nat) : Int))) = row := by
      refine (List.map_congr_left fun j _ => ?_).trans (List.map_id _)
      exact Int.toNat_natCast j
    rw [e] at this
    exact this
/-! ### the greatest length of a work -/
section
variable {ws : List (Int × Int)} {lot lot' : List (Option Int)}
/-- all in time, from this hour on -/
def okF (ws : List (Int × Int)) (lot : List (Option Int)) : Int → List Nat → Bool
  | _, [] => true
  | h, j :: r => decide ((if fstAt ws j > h then fstAt ws j else h) + lenAt lot j ≤ lstAt ws j) && okF ws lot ((if fstAt ws j > h then fstAt ws j else h) + lenAt lot j) r
theorem okF_cons {h : Int} {j : Nat} {r : List Nat} : okF ws lot h (j :: r) = true ↔ (if fstAt ws j > h then fstAt ws j else h) + lenAt lot j ≤ lstAt ws j ∧ okF ws lot ((if fstAt ws j > h then fstAt ws j else h) + lenAt lot j) r = true := by
  show (decide _ && _) = true ↔ _
  rw [Bool.and_eq_true, decide_eq_true_iff]
theorem serves_ok : ∀ (l : List Nat) (h : Int), servesB ws (stepsF ws lot h l) = okF ws lot h l
  | [], _ => rfl
  | j :: r, h => by
    have ih := serves_ok r ((if fstAt ws j > h then fstAt ws j else h) + lenAt lot j)
    show (decide _ && servesB ws (stepsF ws lot ((if fstAt ws j > h then fstAt ws j else h) + lenAt lot j) r)) = _
    rw [ih]
    rfl
theorem okF_app : ∀ (l m : List Nat) (h : Int), okF ws lot h (l ++ m) = (okF ws lot h l && okF ws lot (endF ws lot h l) m)
  | [], _, _ => rfl
  | j :: r, m, h => by
    have ih := okF_app r m ((if fstAt ws j > h then fstAt ws j else h) + lenAt lot j)
    show (decide _ && okF ws lot ((if fstAt ws j > h then fstAt ws j else h) + lenAt lot j) (r ++ m)) = ((decide _ && okF ws lot ((if fstAt ws j > h then fstAt ws j else h) + lenAt lot j) r) && okF ws lot (endF ws lot ((if fstAt ws j > h then fstAt ws j else h) + lenAt lot j) r) m)
    rw [ih, Bool.and_assoc]
theorem okF_congr : ∀ (l : List Nat) (h : Int), (∀ j ∈ l, lenAt lot' j = lenAt lot j) → okF ws lot' h l = okF ws lot h l
  | [], _, _ => rfl
  | j :: r, h, e => by
    have e0 := e j (List.mem_cons_self ..)
    have ih := okF_congr r ((if fstAt ws j > h then fstAt ws j else h) + lenAt lot j) fun i hi => e i (List.mem_cons_of_mem _ hi)
    show (decide (_ + lenAt lot' j ≤ _) && okF ws lot' (_ + lenAt lot' j) r) = (decide _ && okF ws lot ((if fstAt ws j > h then fstAt ws j else h) + lenAt lot j) r)
    rw [e0, ih]
theorem endF_congr : ∀ (l : List Nat) (h : Int), (∀ j ∈ l, lenAt lot' j = lenAt lot j) → endF ws lot' h l = endF ws lot h l
  | [], _, _ => rfl
  | j :: r, h, e => by
    have e0 := e j (List.mem_cons_self ..)
    have ih := endF_congr r ((if fstAt ws j > h then fstAt ws j else h) + lenAt lot j) fun i hi => e i (List.mem_cons_of_mem _ hi)
    show endF ws lot' ((if fstAt ws j > h then fstAt ws j else h) + lenAt lot' j) r = endF ws lot ((if fstAt ws j > h then fstAt ws j else h) + lenAt lot j) r
    rw [e0, ih]
theorem ok_mono : ∀ (l : List Nat) (t0 t : Int), t0 ≤ t → okF ws lot t l = true → okF ws lot t0 l = true
  | [], _, _, _, _ => rfl
  | j :: r, t0, t, ht, h => by
    obtain ⟨h1, h2⟩ := okF_cons.mp h
    have le : (if fstAt ws j > t0 then fstAt ws j else t0) + lenAt lot j ≤ (if fstAt ws j > t then fstAt ws j else t) + lenAt lot j := by
      split <;> split <;> omega
    exact okF_cons.mpr ⟨Int.le_trans le h1, ok_mono r _ _ le h2⟩
/-- the hour by which the first of these must begin -/
def needF (ws : List (Int × Int)) (lot : List (Option Int)) (T : Int) : List Nat → Int
  | [] => T
  | j :: r => (if lstAt ws j < needF ws lot T r then lstAt ws j else needF ws lot T r) - lenAt lot j
theorem back_need {T : Int} : ∀ l : List Nat, backF ws lot T l.reverse = needF ws lot T l
  | [] => rfl
  | j :: r => by
    have ih := back_need (T := T) r
    unfold backF at ih ⊢
    rw [List.reverse_cons, List.foldl_append, ih]
    rfl
theorem need_congr {T : Int} : ∀ l : List Nat, (∀ j ∈ l, lenAt lot' j = lenAt lot j) → needF ws lot' T l = needF ws lot T l
  | [], _ => rfl
  | j :: r, e => by
    have e0 := e j (List.mem_cons_self ..)
    have ih := need_congr (T := T) r fun i hi => e i (List.mem_cons_of_mem _ hi)
    show (if lstAt ws j < needF ws lot' T r then lstAt ws j else needF ws lot' T r) - lenAt lot' j = (if lstAt ws j < needF ws lot T r then lstAt ws j else needF ws lot T r) - lenAt lot j
    rw [e0, ih]
theorem ok_need : ∀ (r : List Nat) (j : Nat) (t0 t : Int), okF ws lot t0 (j :: r) = true → t0 ≤ t → (okF ws lot t (j :: r) = true ↔ t ≤ needF ws lot (lstAt ws ((j :: r).getLast?.getD 0)) (j :: r))
  | [], j, t0, t, h, ht => by
    obtain ⟨h1, _⟩ := okF_cons.mp h
    rw [okF_cons]
    show _ ∧ true = true ↔ t ≤ (if lstAt ws j < lstAt ws j then lstAt ws j else lstAt ws j) - lenAt lot j
    rw [if_neg (Int.lt_irrefl _)]
    revert h1
    split <;> split <;> intro h1 <;> constructor <;> intro h2 <;> first | omega | exact ⟨by omega, rfl⟩
  | k :: r, j, t0, t, h, ht => by
    obtain ⟨h1, h2⟩ := okF_cons.mp h
    have e : (j :: k :: r).getLast? = (k :: r).getLast? := List.getLast?_cons_cons
    have le : (if fstAt ws j > t0 then fstAt ws j else t0) + lenAt lot j ≤ (if fstAt ws j > t then fstAt ws j else t) + lenAt lot j := by
      split <;> split <;> omega
    have i0 := (ok_need r k _ _ h2 (Int.le_refl _)).mp h2
    have i1 := ok_need r k _ _ h2 le
    rw [okF_cons, i1, e]
    show _ ∧ _ ↔ t ≤ (if lstAt ws j < needF ws lot (lstAt ws ((k :: r).getLast?.getD 0)) (k :: r) then lstAt ws j else needF ws lot (lstAt ws ((k :: r).getLast?.getD 0)) (k :: r)) - lenAt lot j
    generalize needF ws lot (lstAt ws ((k :: r).getLast?.getD 0)) (k :: r) = N at i0 ⊢
    clear i1 le e h2 h
    revert h1 i0
    split <;> split <;> split <;> intro h1 i0 <;> constructor <;> intro h2 <;> first | omega | exact ⟨by omega, by omega⟩
end
theorem mid_of {l : List Nat} {w : Nat} (nd : l.Nodup) (hw : w ∈ l) : ∃ pre suf, l = pre ++ w :: suf ∧ w ∉ pre ∧ w ∉ suf := by
  obtain ⟨pre, suf, rfl⟩ := List.append_of_mem hw
  obtain ⟨_, n2, n3⟩ := List.nodup_append.mp nd
  exact ⟨pre, suf, rfl, fun h => n3 w h w (List.mem_cons_self ..) rfl, (List.nodup_cons.mp n2).1⟩
theorem idx_mid {w : Nat} {suf : List Nat} : ∀ pre : List Nat, w ∉ pre → (pre ++ w :: suf).drop ((pre ++ w :: suf).idxOf w + 1) = suf
  | [], _ => by
    show (w :: suf).drop ((w :: suf).idxOf w + 1) = suf
    rw [List.idxOf_cons_self] <;> rfl
  | j :: r, h => by
    have ih := idx_mid (suf := suf) r fun z => h (List.mem_cons_of_mem _ z)
    have ne : j ≠ w := fun e => h (by rw [e]; exact List.mem_cons_self ..)
    show (j :: (r ++ w :: suf)).drop ((j :: (r ++ w :: suf)).idxOf w + 1) = suf
    have nb : (j == w) = false := beq_eq_false_iff_ne.mpr ne
    rw [List.idxOf_cons, nb]
    exact ih
theorem last_mid {w : Nat} {suf pre : List Nat} : (pre ++ w :: suf).getLast? = (w :: suf).getLast? := by
  rw [List.getLast?_append]
  cases h : (w :: suf).getLast? with
  | none => exact absurd (List.getLast?_eq_none_iff.mp h) (by simp)
  | some b => rfl
section
variable {ws : List (Int × Int)} {lot : List (Option Int)} {row pre suf : List Nat} {w : Nat} {d : Int}
theorem len_put_self (hw : w < lot.length) : lenAt (lot.set w (some d)) w = d := by
  unfold lenAt
  rw [List.getElem?_set_self hw]
  rfl
theorem len_put_ne {j : Nat} (h : j ≠ w) : lenAt (lot.set w (some d)) j = lenAt lot j := by
  unfold lenAt
  rw [List.getElem?_set_ne h.symm]
theorem lot_self {n : Int} (h : (lot[w]?).getD none = some n) : lot.set w (some n) = lot := by
  refine List.ext_getElem? fun j => ?_
  by_cases e : w = j
  · subst e
    cases hh : lot[w]? with
    | none =>
      rw [hh] at h
      cases h
    | some o =>
      rw [hh] at h
      have e0 : o = some n := h
      rw [List.getElem?_set_self (List.getElem?_eq_some_iff.mp hh).1, e0]
  · rw [List.getElem?_set_ne e]
theorem bare_put : bareL (lot.set w (some d)) w = bareL lot w := List.set_set ..
theorem there_put (hw : w < lot.length) : ((lot.set w (some d))[w]?).getD none ≠ none := by
  rw [List.getElem?_set_self hw]
  show some d ≠ none
  simp
theorem coming_put (h : (lot[w]?).getD none ≠ none) (hw : w < lot.length) : comingN row (lot.set w (some d)) = comingN row lot := by
  rw [← comingN_bare (lot := lot.set w (some d)) (w := w) (there_put hw), bare_put, comingN_bare h]
theorem latest_need (hl : w < lot.length) (h1 : w ∉ pre) (h2 : w ∉ suf) : latestN ws lot (pre ++ w :: suf) w = needF ws (bareL lot w) (lstAt ws ((w :: suf).getLast?.getD 0)) (w :: suf) := by
  unfold latestN
  rw [idx_mid pre h1, last_mid, back_need]
  show _ = (if lstAt ws w < needF ws (bareL lot w) _ suf then lstAt ws w else needF ws (bareL lot w) _ suf) - lenAt (bareL lot w) w
  have e : lenAt (bareL lot w) w = 0 := len_put_self hl
  rw [need_congr (lot := lot) (lot' := bareL lot w) suf fun j hj => len_put_ne fun e => h2 (by rw [← e]; exact hj), e, Int.sub_zero]
theorem begs_head (e : comingN row (bareL lot w) = pre ++ w :: suf) (h1 : w ∉ pre) : (begsN ws row lot w).headD 0 = (if fstAt ws w > endF ws (bareL lot w) 0 pre then fstAt ws w else endF ws (bareL lot w) 0 pre) := by
  unfold begsN stepsN
  rw [e, stepsF_app, List.filter_append]
  have n0 : (stepsF ws (bareL lot w) 0 pre).filter (fun q => decide (q.1 = (w : Int))) = [] := by
    refine List.filter_eq_nil_iff.mpr fun q hq => ?_
    obtain ⟨j, hj, ej⟩ := stepsF_mem hq
    intro z
    have z' := of_decide_eq_true z
    rw [ej] at z'
    have : j = w := by omega
    exact h1 (by rw [← this]; exact hj)
  rw [n0, List.nil_append]
  show (((((w : Nat) : Int), (if fstAt ws w > endF ws (bareL lot w) 0 pre then fstAt ws w else endF ws (bareL lot w) 0 pre), _) :: stepsF ws (bareL lot w) _ suf).filter _ |>.map _).headD 0 = _
  rw [List.filter_cons_of_pos (by exact decide_eq_true rfl)]
  rfl
theorem room_own (R : Right ws row lot) (hw : w ∈ comingN row lot) : roomN ws row (lot.set w (some d)) w = roomN ws row lot w := by
  obtain ⟨hr, n, hn⟩ := comingN_mem hw
  have hl : w < lot.length := by rw [R.sz]; exact R.lt w hr
  obtain ⟨pre, suf, e, h1, h2⟩ := mid_of (l := comingN row lot) (List.Pairwise.filter _ R.nd) hw
  have ec : comingN row (lot.set w (some d)) = comingN row lot := coming_put (by rw [hn]; simp) hl
  unfold roomN begsN
  rw [bare_put, ec, e, latest_need (lot := lot.set w (some d)) (by rw [List.length_set]; exact hl) h1 h2, latest_need hl h1 h2, bare_put]
/-- what the room says -/
def RoomIs (ws : List (Int × Int)) (row : List Nat) (lot : List (Option Int)) (w : Nat) : Option Int → Prop
  | none => ∀ d : Int, 0 ≤ d → servesB ws (stepsN ws row (lot.set w (some d))) = false
  | some r => 0 ≤ r ∧ ∀ d : Int, 0 ≤ d → servesB ws (stepsN ws row (lot.set w (some d))) = decide (d ≤ r)
theorem room_is (R : Right ws row lot) (hw : w ∈ comingN row lot) : RoomIs ws row lot w (roomN ws row lot w) := by
  obtain ⟨hr, n, hn⟩ := comingN_mem hw
  have hl : w < lot.length := by rw [R.sz]; exact R.lt w hr
  have hn' : (lot[w]?).getD none ≠ none := by rw [hn]; simp
  obtain ⟨pre, suf, e, h1, h2⟩ := mid_of (l := comingN row lot) (List.Pairwise.filter _ R.nd) hw
  have eb : comingN row (bareL lot w) = pre ++ w :: suf := (comingN_bare hn').trans e
  have l0 : lenAt (bareL lot w) w = 0 := len_put_self hl
  have pe : ∀ d : Int, ∀ j ∈ pre, lenAt (lot.set w (some d)) j = lenAt (bareL lot w) j := fun d j hj => by
    have ne : j ≠ w := fun z => h1 (by rw [← z]; exact hj)
    rw [len_put_ne ne]
    exact (len_put_ne ne).symm
  have se : ∀ d : Int, ∀ j ∈ suf, lenAt (lot.set w (some d)) j = lenAt (bareL lot w) j := fun d j hj => by
    have ne : j ≠ w := fun z => h2 (by rw [← z]; exact hj)
    rw [len_put_ne ne]
    exact (len_put_ne ne).symm
  obtain ⟨b, hb⟩ : ∃ b, b = (if fstAt ws w > endF ws (bareL lot w) 0 pre then fstAt ws w else endF ws (bareL lot w) 0 pre) := ⟨_, rfl⟩
  have hbf : fstAt ws w ≤ b := by rw [hb]; split <;> omega
  have key : ∀ d : Int, servesB ws (stepsN ws row (lot.set w (some d))) = (okF ws (bareL lot w) 0 pre && (decide (b + d ≤ lstAt ws w) && okF ws (bareL lot w) (b + d) suf)) := fun d => by
    unfold stepsN
    rw [coming_put hn' hl, e, serves_ok, okF_app, okF_congr pre 0 (pe d), endF_congr pre 0 (pe d)]
    show (_ && (decide ((if fstAt ws w > endF ws (bareL lot w) 0 pre then fstAt ws w else endF ws (bareL lot w) 0 pre) + lenAt (lot.set w (some d)) w ≤ lstAt ws w) && okF ws (lot.set w (some d)) ((if fstAt ws w > endF ws (bareL lot w) 0 pre then fstAt ws w else endF ws (bareL lot w) 0 pre) + lenAt (lot.set w (some d)) w) suf)) = _
    rw [len_put_self hl, ← hb, okF_congr suf _ (se d)]
  have bareOk : ∀ d : Int, 0 ≤ d → (okF ws (bareL lot w) (b + d) (w :: suf) = true ↔ b + d ≤ lstAt ws w ∧ okF ws (bareL lot w) (b + d) suf = true) := fun d hd => by
    rw [okF_cons, l0, if_neg (by omega), Int.add_zero]
  have keyB : ∀ d : Int, 0 ≤ d → (servesB ws (stepsN ws row (lot.set w (some d))) = true ↔ okF ws (bareL lot w) 0 pre = true ∧ okF ws (bareL lot w) (b + d) (w :: suf) = true) := fun d hd => by
    rw [key d, bareOk d hd, Bool.and_eq_true, Bool.and_eq_true, decide_eq_true_iff]
  have k0 := keyB 0 (Int.le_refl 0)
  rw [Int.add_zero] at k0
  have hsb : servesB ws (stepsN ws row (bareL lot w)) = servesB ws (stepsN ws row (lot.set w (some 0))) := rfl
  unfold roomN
  cases hs : servesB ws (stepsN ws row (bareL lot w)) with
  | false =>
    rw [if_neg Bool.false_ne_true]
    intro d hd
    cases hh : servesB ws (stepsN ws row (lot.set w (some d))) with
    | false => rfl
    | true =>
      obtain ⟨a1, a2⟩ := (keyB d hd).mp hh
      have := k0.mpr ⟨a1, ok_mono _ _ _ (by omega) a2⟩
      rw [hsb, this] at hs
      cases hs
  | true =>
    rw [if_pos rfl]
    obtain ⟨a1, a2⟩ := k0.mp (by rw [← hsb]; exact hs)
    have nd : ∀ d : Int, 0 ≤ d → _ := fun d hd => ok_need (ws := ws) (lot := bareL lot w) suf w b (b + d) a2 (by omega)
    have e1 : latestN ws lot (comingN row lot) w - (begsN ws row lot w).headD 0 = needF ws (bareL lot w) (lstAt ws ((w :: suf).getLast?.getD 0)) (w :: suf) - b := by
      rw [e, latest_need hl h1 h2, begs_head eb h1, ← hb]
    rw [e1]
    generalize needF ws (bareL lot w) (lstAt ws ((w :: suf).getLast?.getD 0)) (w :: suf) = N at nd
    refine ⟨?_, fun d hd => ?_⟩
    · have := (nd 0 (Int.le_refl 0)).mp (by rw [Int.add_zero]; exact a2)
      omega
    · rw [Bool.eq_iff_iff, keyB d hd, nd d hd, decide_eq_true_iff]
      constructor
      · rintro ⟨_, h⟩
        omega
      · intro h
        exact ⟨a1, by omega⟩
end
/-! ### what raises: the def's word -/
structure BadRun (K : PySem.W.Frag) (A : Ad) (H : Hp) (x y z : V) (PR PL : Hp → Prop) : Prop where
  ex : ∃ (b w : Addr) (ws : List (Int × Int)) (r l : Da), x = .ref b ∧ BookAt A.C_Book H b w ∧ WinAt K H w ws ∧ Rp K H y r ∧ Rp K H z l ∧ smallD r ∧ smallD l ∧ runD ws.length r l ≠ 0 ∧
    (runD ws.length r l = 1 → ∀ H', Ex H H' → PR H') ∧ (runD ws.length r l = 2 → ∀ H', Ex H H' → PL H')
theorem BadRun.imp {K : PySem.W.Frag} {A : Ad} {H : Hp} {x y z : V} {PR PL PR' PL' : Hp → Prop} (h : BadRun K A H x y z PR PL) (f : ∀ H', PR H' → PR' H') (g : ∀ H', PL H' → PL' H') : BadRun K A H x y z PR' PL' := by
  obtain ⟨b, w, ws, r, l, h1, h2, h3, h4, h5, h6, h7, h8, h9, h10⟩ := h.ex
  exact ⟨b, w, ws, r, l, h1, h2, h3, h4, h5, h6, h7, h8, fun q H' e => f _ (h9 q H' e), fun q H' e => g _ (h10 q H' e)⟩
abbrev sp_runB (K : PySem.W.Frag) (A : Ad) : Sp := fun vs H Q E => Sp3 vs fun x y z => BadRun K A H x y z (E (.ref A.C_NoRow) none) (E (.ref A.C_NoLot) none) ∨ RunOn K A H x y z fun ws row lot => Right ws row lot ∧ ∀ (l : Addr) (as : List Addr) (H' : Hp), H l = none → Ex H H' → H' l = some (.tup (as.map V.ref)) → TrisAt K H' as (stepsN ws row lot) → Q (.ref l) H'
abbrev sp_servesB (K : PySem.W.Frag) (A : Ad) : Sp := fun vs H Q E => Sp3 vs fun x y z => BadRun K A H x y z (E (.ref A.C_NoRow) none) (E (.ref A.C_NoLot) none) ∨ RunOn K A H x y z fun ws row lot => Right ws row lot ∧ ∀ H', Ex H H' → Q (.bl (servesB ws (stepsN ws row lot))) H'
abbrev sp_latenessB (K : PySem.W.Frag) (A : Ad) : Sp := fun vs H Q E => Sp3 vs fun x y z => BadRun K A H x y z (E (.ref A.C_NoRow) none) (E (.ref A.C_NoLot) none) ∨ RunOn K A H x y z fun ws row lot => Right ws row lot ∧ ∀ H', Ex H H' → Q (vO (maxL (latesN ws (stepsN ws row lot)))) H'
abbrev sp_brokenB (K : PySem.W.Frag) (A : Ad) : Sp := fun vs H Q E => Sp3 vs fun x y z => BadRun K A H x y z (E (.ref A.C_NoRow) none) (E (.ref A.C_NoLot) none) ∨ RunOn K A H x y z fun ws row lot => Right ws row lot ∧ ∀ (l : Addr) (ys : List V) (H' : Hp), H l = none → Ex H H' → H' l = some (.lst ys) → ys.length ≤ 1000000 → BrkAt H' ys (brkF ws lot (comingN row lot)) → Q (.ref l) H'
abbrev sp_is_broken (K : PySem.W.Frag) (A : Ad) : Sp := fun vs H Q E => Sp4 vs fun x y z u => BadRun K A H x y z (E (.ref A.C_NoRow) none) (E (.ref A.C_NoLot) none) ∨ ∃ d : Da, Rp K H u d ∧ pairD d = false ∧ RunOn K A H x y z fun ws row lot => Right ws row lot ∧ ∀ H', Ex H H' → Q (.bl false) H'
/-- no work that is there -/
def BadWork (ws : List (Int × Int)) (lot : List (Option Int)) (d : Da) : Prop := workD ws.length d = false ∨ ∃ w : Nat, d = .int (w : Int) ∧ w < ws.length ∧ (lot[w]?).getD none = none
abbrev sp_roomB (K : PySem.W.Frag) (A : Ad) : Sp := fun vs H Q E => Sp4 vs fun x y z u => BadRun K A H x y z (E (.ref A.C_NoRow) none) (E (.ref A.C_NoLot) none) ∨ (∃ d : Da, Rp K H u d ∧ RunOn K A H x y z fun ws row lot => Right ws row lot ∧ BadWork ws lot d ∧ ∀ H', Ex H H' → E (.ref A.C_NoWork) none H') ∨
  ∃ w : Nat, u = .int (w : Int) ∧ RunOn K A H x y z fun ws row lot => Right ws row lot ∧ w ∈ comingN row lot ∧ ∀ H', Ex H H' → Q (vO (roomN ws row lot w)) H'
structure Sp5 (vs : List V) (P : V → V → V → V → V → Prop) : Prop where
  ex : ∃ k x y z u, vs = [k, x, y, z, u] ∧ P k x y z u
theorem Sp5.len {vs : List V} {P : V → V → V → V → V → Prop} (h : Sp5 vs P) : vs.length = 5 := by
  obtain ⟨k, x, y, z, u, rfl, _⟩ := h.ex
  rfl
abbrev sp_l_told12 (K : PySem.W.Frag) (A : Ad) : Sp := fun vs H Q _ => Sp5 vs fun k x y z u => ∃ (n : Int) (d : Da), k = .int n ∧ 0 ≤ n ∧ n ≤ 5 ∧ Rp K H u d ∧ pairD d = false ∧ (BadRun K A H x y z (Q (.str "row")) (Q (.str "lot")) ∨
  RunOn K A H x y z fun ws row lot => Right ws row lot ∧ ((∃ w : Nat, d = .int (w : Int) ∧ w ∈ comingN row lot ∧ ∀ H', Ex H H' → Q (.str "let") H') ∨ (BadWork ws lot d ∧ ∀ H', Ex H H' → Q (.str (if n = 5 then "work" else "let")) H')))
abbrev sp_l_is_late (K : PySem.W.Frag) (A : Ad) : Sp := fun vs H Q _ => Sp3 vs fun x y z => ∃ (w a c : Addr) (ws : List (Int × Int)) (row : List Nat) (lot : List (Option Int)), x = .ref w ∧ y = .ref a ∧ z = .ref c ∧ WinAt K H w ws ∧ SqT K H a (row.map vNat) ∧ SqT K H c (lot.map vO) ∧
  (∀ j ∈ row, j < ws.length) ∧ lot.length = ws.length ∧ row.length ≤ 1000 ∧ ∀ H', Ex H H' → Q (.bl (!servesB ws (stepsN ws row lot))) H'
abbrev sp_l_with (K : PySem.W.Frag) (A : Ad) : Sp := fun vs H Q _ => Sp3 vs fun x y z => ∃ (c : Addr) (lot : List (Option Int)) (w : Nat) (d : Int), x = .ref c ∧ y = .int (w : Int) ∧ z = .int d ∧ SqT K H c (lot.map vO) ∧ w < lot.length ∧ lot.length ≤ 900 ∧
  ∀ (r : Addr) (H' : Hp), Ex H H' → SqT K H' r ((lot.set w (some d)).map vO) → Q (.ref r) H'
/-! ### what stays told through draws -/
def RpS (K : PySem.W.Frag) (p c : Addr) (H : Hp) (v : V) (d : Da) : Prop := ∀ H', Kept p c H H' → Rp K H' v d
inductive RpAllS (K : PySem.W.Frag) (p c : Addr) (H : Hp) : List V → List Da → Prop
  | nil : RpAllS K p c H [] []
  | cons {v : V} {d : Da} {vs : List V} {ds : List Da} : RpS K p c H v d → RpAllS K p c H vs ds → RpAllS K p c H (v :: vs) (d :: ds)
section
variable {K : PySem.W.Frag} {p c : Addr} {H H1 : Hp}
theorem RpS.kept {v : V} {d : Da} (h : RpS K p c H v d) (k : Kept p c H H1) : RpS K p c H1 v d := fun H' k' => h H' (k.trans k')
theorem RpS.now {v : V} {d : Da} (h : RpS K p c H v d) : Rp K H v d := h H (Kept.refl p c H)
theorem RpS.non : RpS K p c H .non .non := fun _ _ => .non
theorem RpS.bl (b : Bool) : RpS K p c H (.bl b) (.bl b) := fun _ _ => .bl b
theorem RpS.int (i : Int) : RpS K p c H (.int i) (.int i) := fun _ _ => .int i
theorem RpS.str (x : Str) : RpS K p c H (.str x) (.str x) := fun _ _ => .str x
theorem RpS.lst {a : Addr} {xs : List V} (h : H a = some (.lst xs)) (h1 : a ≠ p) (h2 : a ≠ c) : RpS K p c H (.ref a) .lst := fun _ k => .lst (SqL.of (k _ _ h1 h2 h))
theorem RpS.dic {a : Addr} {kvs : List (Key × V)} (h : H a = some (.dK kvs)) (h1 : a ≠ p) (h2 : a ≠ c) : RpS K p c H (.ref a) .dic := fun _ k => .dic (k _ _ h1 h2 h)
theorem RpAllS.all {vs : List V} {ds : List Da} (h : RpAllS K p c H vs ds) : ∀ H', Kept p c H H' → RpAll K H' vs ds := by
  induction h with
  | nil => exact fun _ _ => .nil
  | cons a _ ih => exact fun H' k => .cons (a H' k) (ih H' k)
theorem RpS.tup {a : Addr} {xs : List V} {ds : List Da} (P : PoolAt H p c) (h : SqT K H a xs) (r : RpAllS K p c H xs ds) : RpS K p c H (.ref a) (.tup ds) := fun H' k => .tup (sqt_kept h P k) (r.all H' k)
theorem RpAllS.get {vs : List V} {ds : List Da} (h : RpAllS K p c H vs ds) : ∀ {i : Nat} {v : V}, vs[i]? = some v → ∃ d, ds[i]? = some d ∧ RpS K p c H v d := by
  induction h with
  | nil => intro i v e; cases e
  | @cons v0 d0 vs ds a _ ih =>
    intro i v e
    cases i with
    | zero =>
      cases Option.some.inj e
      exact ⟨d0, rfl, a⟩
    | succ i => exact ih e
theorem RpAllS.length {vs : List V} {ds : List Da} (h : RpAllS K p c H vs ds) : vs.length = ds.length := by
  induction h with
  | nil => rfl
  | cons _ _ ih => simp [ih]
theorem RpAllS.lot (lot : List (Option Int)) : RpAllS K p c H (lot.map vO) (lot.map dO) := by
  induction lot with
  | nil => exact .nil
  | cons o r ih =>
    refine .cons ?_ ih
    cases o with
    | none => exact .non
    | some n => exact .int n
theorem RpAllS.set {vs : List V} {ds : List Da} {v : V} {d : Da} (h : RpAllS K p c H vs ds) (hv : RpS K p c H v d) : ∀ i : Nat, RpAllS K p c H (vs.set i v) (ds.set i d) := by
  induction h with
  | nil => exact fun i => .nil
  | cons a r ih =>
    intro i
    cases i with
    | zero => exact .cons hv r
    | succ i => exact .cons a (ih i)
theorem RpAllS.app {vs us : List V} {ds es : List Da} (h : RpAllS K p c H vs ds) (g : RpAllS K p c H us es) : RpAllS K p c H (vs ++ us) (ds ++ es) := by
  induction h with
  | nil => exact g
  | cons a r ih => exact .cons a ih
end
abbrev sp_l_no_row (K : PySem.W.Frag) (A : Ad) : Sp := fun vs H Q _ => Sp2 vs fun x y => ∃ (p c : Addr) (n : Nat), x = .ref p ∧ y = .int (n : Int) ∧ PoolAt H p c ∧ 2 ≤ n ∧ n ≤ 900 ∧
  ∀ (v : V) (d : Da) (H' : Hp), PoolAt H' p c → Kept p c H H' → RpS K p c H' v d → smallD d → rowD n d = false → Q v H'
abbrev sp_l_no_lot (K : PySem.W.Frag) (A : Ad) : Sp := fun vs H Q _ => Sp2 vs fun x y => ∃ (p c a : Addr) (lot : List (Option Int)), x = .ref p ∧ y = .ref a ∧ PoolAt H p c ∧ SqT K H a (lot.map vO) ∧ 2 ≤ lot.length ∧ lot.length ≤ 900 ∧
  ∀ (v : V) (d : Da) (H' : Hp), PoolAt H' p c → Kept p c H H' → RpS K p c H' v d → smallD d → lotD lot.length d = false → Q v H'
theorem put_gen {xs : List V} {s : Nat} {v : V} (h : s < xs.length) : cutV xs none (some (s : Int)) ++ [v] ++ cutV xs (some ((s : Int) + 1)) none = xs.set s v := by
  unfold cutV
  have e : ((s : Int) + 1) = ((s + 1 : Nat) : Int) := rfl
  rw [e, HT.sIx_none, HT.sIx_nat, HT.sIx_nat, HT.sIx_none, List.set_eq_take_append_cons_drop, if_pos h]
  rw [Nat.min_eq_left (by omega), Nat.min_eq_left (by omega), List.drop_zero, Nat.sub_zero, List.take_of_length_le (l := List.drop (s + 1) xs) (by rw [List.length_drop] <;> omega), List.append_assoc]
  rfl
theorem cut_tail {xs : List V} (h : 1 ≤ xs.length) : cutV xs (some 1) none = xs.drop 1 := by
  unfold cutV
  have e : (1 : Int) = ((1 : Nat) : Int) := rfl
  rw [e, HT.sIx_nat, HT.sIx_none, Nat.min_eq_left (by omega), List.take_of_length_le (by rw [List.length_drop] <;> omega)]
theorem bad_rowW {n : Nat} {ds : List Da} (h : ds.all (workD n) = false) : rowD n (.tup ds) = false := by simp only [rowD, h, Bool.false_and]
theorem bad_rowT {n : Nat} {ds : List Da} (h : ¬ (ds.map daInt).Nodup) : rowD n (.tup ds) = false := by simp only [rowD, decide_eq_false h, Bool.and_false]
theorem bad_lotN {n : Nat} {ds : List Da} (h : ds.length ≠ n) : lotD n (.tup ds) = false := by simp only [lotD, decide_eq_false h, Bool.false_and]
theorem bad_lotS {ds : List Da} {n s : Nat} {d : Da} (hs : s < ds.length) (h : lenD d = false) : lotD n (.tup (ds.set s d)) = false := by
  have : (ds.set s d).all lenD = false := List.all_eq_false.mpr ⟨d, List.mem_set hs .., by rw [h]; exact Bool.false_ne_true⟩
  simp only [lotD, this, Bool.and_false]
theorem runD_row {n : Nat} {r l : Da} (h : rowD n r = false) : runD n r l = 1 := by simp [runD, h]
theorem runD_lot {n : Nat} {r l : Da} (h : rowD n r = true) (h2 : lotD n l = false) : runD n r l = 2 := by simp [runD, h, h2]
theorem runD_in {n : Nat} {r l : Da} (h : rowD n r = true) (h2 : allInD l r = false) : runD n r l = 2 := by simp [runD, h, h2]
theorem cut_head {xs : List V} {k : Nat} (h : k ≤ xs.length) : cutV xs none (some (k : Int)) = xs.take k := by
  unfold cutV
  rw [HT.sIx_none, HT.sIx_nat, Nat.min_eq_left h, List.drop_zero, Nat.sub_zero]
theorem rowD_right {ws : List (Int × Int)} {row : List Nat} (h1 : ∀ j ∈ row, j < ws.length) (h2 : row.Nodup) : rowD ws.length (.tup (row.map dNat)) = true := by
  simp only [rowD, Bool.and_eq_true, decide_eq_true_eq, List.all_eq_true]
  refine ⟨fun x hx => ?_, ?_⟩
  · obtain ⟨j, hj, rfl⟩ := List.mem_map.mp hx
    have := h1 j hj
    simp [dNat, workD, this]
  · rw [da_row]
    refine List.pairwise_map.mpr (h2.imp fun h e => h ?_)
    omega
theorem lacks {row : List Nat} {lot : List (Option Int)} {k : Nat} (hk : k ≤ lot.length) (hn : k ∉ row) : allInD (.tup ((lot.take k ++ [some 3]).map dO)) (.tup (row.map dNat)) = false := by
  have hlen : (lot.take k).length = k := by rw [List.length_take]; omega
  simp only [allInD]
  refine List.all_eq_false.mpr ⟨k, List.mem_range.mpr (by rw [List.length_map, List.length_append, hlen]; show k < k + 1; omega), ?_⟩
  unfold inAt
  rw [da_row, List.getElem?_map, List.getElem?_append_right (by omega), hlen, Nat.sub_self]
  have : ¬ ((k : Int) ∈ row.map fun j => ((j : Nat) : Int)) := fun h => by
    obtain ⟨j, hj, e⟩ := List.mem_map.mp h
    have : j = k := by omega
    exact hn (by rw [← this]; exact hj)
  rw [decide_eq_false this]
  exact Bool.false_ne_true
/-! ### k10: things beside pairs, shown -/
mutual
theorem dp_mono {K : PySem.W.Frag} {H H' : Hp} (e : Ex H H') : ∀ {v : V} {d : PyData}, Dp K H v d → Dp K H' v d
  | _, _, .non => .non
  | _, _, .bl b => .bl b
  | _, _, .int i => .int i
  | _, _, .str x => .str x
  | _, _, .lst h r => .lst (ex_l e h) (dpAll_mono e r)
  | _, _, .tup h r => .tup (ex_t e h) (dpAll_mono e r)
theorem dpAll_mono {K : PySem.W.Frag} {H H' : Hp} (e : Ex H H') : ∀ {vs : List V} {ds : List PyData}, DpAll K H vs ds → DpAll K H' vs ds
  | _, _, .nil => .nil
  | _, _, .cons h r => .cons (dp_mono e h) (dpAll_mono e r)
end
abbrev sp_l_broken (K : PySem.W.Frag) (A : Ad) : Sp := fun vs H Q _ => Sp3 vs fun x y z => ∃ (w a c : Addr) (ws : List (Int × Int)) (row : List Nat) (lot : List (Option Int)), x = .ref w ∧ y = .ref a ∧ z = .ref c ∧ WinAt K H w ws ∧ SqT K H a (row.map vNat) ∧ SqT K H c (lot.map vO) ∧
  (∀ j ∈ row, j < ws.length) ∧ lot.length = ws.length ∧ row.length ≤ 1000 ∧ ∀ (l : Addr) (as : List Addr) (qs : List (Int × Int)) (H' : Hp), H l = none → Ex H H' → H' l = some (.lst (as.map V.ref)) → PairsAt K H' as qs → qs.Perm (brkF ws lot (comingN row lot)) → (qs.Pairwise fun p q => SrtO.lexB q p = false) → Q (.ref l) H'
def isBrk (bs : List (Int × Int)) : Da → Bool
  | .tup [.int i, .int j] => decide ((i, j) ∈ bs)
  | _ => false
/-- a pair of ints, a flag and 0, other data, a dict -/
inductive Th (K : PySem.W.Frag) (H : Hp) : V → Prop
  | pair {a : Addr} {i j : Int} : SqT K H a [.int i, .int j] → Th K H (.ref a)
  | flag {a : Addr} : SqT K H a [.bl true, .int 0] → Th K H (.ref a)
  | other {v : V} {d : Da} {e : PyData} : Rp K H v d → Dp K H v e → SeqAt.shaped e = true → (∀ q, PyData.eqv (dPair q) e = false) → (∀ bs, isBrk bs d = false) → Th K H v
  | dic {a : Addr} {kvs : List (Key × V)} : H a = some (.dK kvs) → Th K H (.ref a)
theorem Th.mono {K : PySem.W.Frag} {H H' : Hp} {v : V} (e : Ex H H') : Th K H v → Th K H' v
  | .pair h => .pair (ex_t e h)
  | .flag h => .flag (ex_t e h)
  | .other h1 h2 h3 h4 h5 => .other (h1.mono e) (dp_mono e h2) h3 h4 h5
  | .dic h => .dic (e _ _ h)
abbrev sp_is_brokenT (K : PySem.W.Frag) (A : Ad) : Sp := fun vs H Q E => Sp4 vs fun x y z u => RunOn K A H x y z fun ws row lot => Right ws row lot ∧ ∃ d, Rp K H u d ∧ ∀ H', Ex H H' → Q (.bl (isBrk (brkF ws lot (comingN row lot)) d)) H'
def shP (q : Int × Int) : Str := tupleText [toString q.1, toString q.2]
theorem shP_eq (q : Int × Int) : (dPair q).shown = shP q := by simp only [dPair, PyData.shown, PyData.shownAll, shP]
theorem shF_eq : (PyData.tuple [.bool true, .int 0]).shown = tupleText ["True", "0"] := by
  simp only [PyData.shown, PyData.shownAll]
  rfl
theorem shP_all : ∀ i : Fin 41, ∀ j : Fin 41, (shP ((i.val : Int), (j.val : Int))).length ≤ 100 ∧ shP ((i.val : Int), (j.val : Int)) ≠ tupleText ["True", "0"] := by decide +kernel
theorem shF_len : (tupleText ["True", "0"]).length ≤ 100 := by decide +kernel
theorem shP_ok {i j : Nat} (hi : i < 41) (hj : j < 41) : (shP ((i : Int), (j : Int))).length ≤ 100 ∧ shP ((i : Int), (j : Int)) ≠ tupleText ["True", "0"] := shP_all ⟨i, hi⟩ ⟨j, hj⟩
theorem lt_showable {i : Nat} (h : i < 41) : PyData.showable (.int (i : Int)) = true := by
  simp only [PyData.showable, decide_eq_true_eq, Int.natAbs_natCast]
  by_cases z : i = 0
  · subst z; decide
  · exact Nat.lt_of_lt_of_le ((Nat.log2_lt z).mpr (by omega : i < 2 ^ 6)) (by decide)
theorem repr_pair {K : PySem.W.Frag} {H : Hp} {v : V} {i j : Nat} {Q : VK} (h : Dp K H v (dPair ((i : Int), (j : Int)))) (hi : i < 41) (hj : j < 41) (k : Q (.str (shP ((i : Int), (j : Int)))) H) : rRepr K [v] H Q := by
  refine ⟨v, _, rfl, h, ?_, by simp [dPair, PyData.hasDict, PyData.hasDictAll], by simp [dPair, PyData.depth, PyData.depthAll], ?_, ?_⟩
  · simp only [dPair, PyData.showable, PyData.showableAll, Bool.and_true]
    rw [Bool.and_eq_true]
    exact ⟨lt_showable hi, lt_showable hj⟩
  · rw [shP_eq]
    have := (shP_ok hi hj).1
    have := sizeLine_eq
    omega
  · rw [shP_eq]
    exact k
theorem repr_flag {K : PySem.W.Frag} {H : Hp} {a : Addr} {Q : VK} (h : SqT K H a [.bl true, .int 0]) (k : Q (.str (tupleText ["True", "0"])) H) : rRepr K [.ref a] H Q := by
  refine ⟨.ref a, _, rfl, .tup h (.cons (.bl true) (.cons (.int 0) .nil)), by decide, by simp [PyData.hasDict, PyData.hasDictAll], by simp [PyData.depth, PyData.depthAll], ?_, ?_⟩
  · rw [shF_eq]
    have := shF_len
    have := sizeLine_eq
    omega
  · rw [shF_eq]
    exact k
theorem eqv_pair (q r : Int × Int) : PyData.eqv (dPair q) (dPair r) = decide (q = r) := by
  have e : PyData.eqv (dPair q) (dPair r) = ((q.1 == r.1) && ((q.2 == r.2) && true)) := by simp only [dPair, PyData.eqv, PyData.eqvAll]
  rw [e, Bool.eq_iff_iff]
  simp [Prod.ext_iff]
theorem eqv_flag (q : Int × Int) : PyData.eqv (dPair q) (.tuple [.bool true, .int 0]) = decide (q = (1, 0)) := by
  have e : PyData.eqv (dPair q) (.tuple [.bool true, .int 0]) = ((q.1 == 1) && ((q.2 == 0) && true)) := by simp only [dPair, PyData.eqv, PyData.eqvAll]; rfl
  rw [e, Bool.eq_iff_iff]
  simp [Prod.ext_iff]
theorem any_pairs (qs : List (Int × Int)) (r : Int × Int) : ((qs.map dPair).any fun z => PyData.eqv z (dPair r)) = decide (r ∈ qs) := by
  rw [Bool.eq_iff_iff]
  simp only [List.any_map, List.any_eq_true, Function.comp, eqv_pair, decide_eq_true_eq]
  exact ⟨fun ⟨q, h1, h2⟩ => h2 ▸ h1, fun h => ⟨r, h, rfl⟩⟩
theorem any_flag (qs : List (Int × Int)) : ((qs.map dPair).any fun z => PyData.eqv z (.tuple [.bool true, .int 0])) = decide (((1, 0) : Int × Int) ∈ qs) := by
  rw [Bool.eq_iff_iff]
  simp only [List.any_map, List.any_eq_true, Function.comp, eqv_flag, decide_eq_true_eq]
  exact ⟨fun ⟨q, h1, h2⟩ => h2 ▸ h1, fun h => ⟨_, h, rfl⟩⟩
theorem any_none (qs : List (Int × Int)) {e : PyData} (h : ∀ q, PyData.eqv (dPair q) e = false) : ((qs.map dPair).any fun z => PyData.eqv z e) = false := by
  rw [List.any_map, List.any_eq_false]
  intro q _
  show ¬ PyData.eqv (dPair q) e = true
  rw [h q]
  exact Bool.false_ne_true
theorem shaped_pair (r : Int × Int) : SeqAt.shaped (dPair r) = true := by
  have := shaped_pairs [r]
  unfold SeqAt.shaped at this ⊢
  rw [Bool.and_eq_true] at this ⊢
  obtain ⟨h1, h2⟩ := this
  simp only [List.map_cons, List.map_nil, PyData.canLay0, PyData.canLayAll0, Bool.and_true] at h1
  refine ⟨h1, ?_⟩
  simp only [dPair, PyData.depth, PyData.depthAll]
  decide
theorem brkFrom_mem {ws : List (Int × Int)} {lot : List (Option Int)} {one : Nat} {q : Int × Int} : ∀ {l : List Nat} {h : Int}, q ∈ brkFrom ws lot one h l → q.1 = (one : Int) ∧ ∃ j ∈ l, q.2 = (j : Int)
  | j :: r, h, hq => by
    rcases List.mem_append.mp (show q ∈ (if h + lenAt lot j > lstAt ws j then [((one : Int), (j : Int))] else []) ++ brkFrom ws lot one (h + lenAt lot j) r from hq) with hq | hq
    · split at hq
      · cases List.mem_singleton.mp hq
        exact ⟨rfl, j, List.mem_cons_self .., rfl⟩
      · cases hq
    · obtain ⟨h1, j', h2, h3⟩ := brkFrom_mem hq
      exact ⟨h1, j', List.mem_cons_of_mem _ h2, h3⟩
theorem brkF_mem {ws : List (Int × Int)} {lot : List (Option Int)} {q : Int × Int} : ∀ {l : List Nat}, q ∈ brkF ws lot l → ∃ i ∈ l, ∃ j ∈ l, q = ((i : Int), (j : Int))
  | j :: r, hq => by
    rcases List.mem_append.mp (show q ∈ brkFrom ws lot j (fstAt ws j) (j :: r) ++ brkF ws lot r from hq) with hq | hq
    · obtain ⟨h1, k, h2, h3⟩ := brkFrom_mem hq
      exact ⟨j, List.mem_cons_self .., k, h2, Prod.ext h1 h3⟩
    · obtain ⟨i, h1, k, h2, h3⟩ := brkF_mem hq
      exact ⟨i, List.mem_cons_of_mem _ h1, k, List.mem_cons_of_mem _ h2, h3⟩
theorem isBrk_no {bs : List (Int × Int)} {d : Da} (h : ∀ i j, d ≠ .tup [.int i, .int j]) : isBrk bs d = false := by
  unfold isBrk
  split
  · exact absurd rfl (h _ _)
  · rfl
theorem mem_cutV {xs : List V} {lo hi : Option Int} {x : V} (h : x ∈ cutV xs lo hi) : x ∈ xs := List.mem_of_mem_drop (List.mem_of_mem_take h)
theorem cutV_len (xs : List V) (lo hi : Option Int) : (cutV xs lo hi).length ≤ xs.length := by
  unfold cutV
  rw [List.length_take, List.length_drop]
  omega
theorem cut3 (xs : List V) : (cutV xs none (some 3)).length ≤ 3 := by
  unfold cutV
  rw [HT.sIx_none, List.length_take]
  have : HT.sIx xs.length xs.length (some 3) = min 3 xs.length := HT.sIx_nat xs.length xs.length 3
  rw [this]
  omega
theorem eqv_pairs_self (qs : List (Int × Int)) : PyData.eqv (.list (qs.map dPair)) (.list (qs.map dPair)) = true := SeqAt.eqv_refl _ (by
  have := shaped_pairs qs
  unfold SeqAt.shaped at this
  rw [Bool.and_eq_true] at this
  exact this.1)
theorem flat_strs (qs : List (Int × Int)) : (qs.map fun q => V.str (shP q)).all flatV = true := by
  rw [List.all_eq_true]
  intro x hx
  obtain ⟨q, _, rfl⟩ := List.mem_map.mp hx
  rfl
theorem inV_yes {qs : List (Int × Int)} {q : Int × Int} (h : q ∈ qs) : inV (.str (shP q)) (qs.map fun q => V.str (shP q)) = true := by
  unfold inV
  rw [List.any_eq_true]
  refine ⟨_, List.mem_map_of_mem h, ?_⟩
  simp [eqV]
theorem inV_not {qs : List (Int × Int)} {s : Str} (h : ∀ q ∈ qs, shP q ≠ s) : inV (.str s) (qs.map fun q => V.str (shP q)) = false := by
  unfold inV
  rw [List.any_eq_false]
  intro x hx
  obtain ⟨q, hq, rfl⟩ := List.mem_map.mp hx
  simpa [eqV] using h q hq
theorem no_beh {H1 H2 : Hp} {a : Addr} {o : HO} (h : H1 a = none) (g : H2 a = some o) (e : Ex H2 H1) : False := by
  rw [e _ _ g] at h
  cases h
theorem pair_shown {i j : Nat} (hi : i < 41) (hj : j < 41) : (dPair ((i : Int), (j : Int))).showable = true ∧ (dPair ((i : Int), (j : Int))).hasDict = false ∧ (dPair ((i : Int), (j : Int))).depth ≤ 60 ∧ (dPair ((i : Int), (j : Int))).shown.length ≤ sizeLine := by
  refine ⟨?_, by simp [dPair, PyData.hasDict, PyData.hasDictAll], by simp [dPair, PyData.depth, PyData.depthAll], ?_⟩
  · simp only [dPair, PyData.showable, PyData.showableAll, Bool.and_true]
    rw [Bool.and_eq_true]
    exact ⟨lt_showable hi, lt_showable hj⟩
  · rw [shP_eq]
    have := (shP_ok hi hj).1
    have := sizeLine_eq
    omega
theorem flag_shown : (PyData.tuple [.bool true, .int 0]).showable = true ∧ (PyData.tuple [.bool true, .int 0]).hasDict = false ∧ (PyData.tuple [.bool true, .int 0]).depth ≤ 60 ∧ (PyData.tuple [.bool true, .int 0]).shown.length ≤ sizeLine := by
  refine ⟨by decide, by simp [PyData.hasDict, PyData.hasDictAll], by simp [PyData.depth, PyData.depthAll], ?_⟩
  rw [shF_eq]
  have := shF_len
  have := sizeLine_eq
  omega
/-! ### things told whole: what is kept, how long it is shown -/
mutual
def dOf : PyData → Da
  | .none => .non
  | .bool b => .bl b
  | .int i => .int i
  | .str x => .str x
  | .list _ => .lst
  | .dict _ => .dic
  | .tuple xs => .tup (dOfs xs)
def dOfs : List PyData → List Da
  | [] => []
  | x :: r => dOf x :: dOfs r
end
theorem dOfs_map : ∀ xs : List PyData, dOfs xs = xs.map dOf
  | [] => by simp only [dOfs, List.map_nil]
  | x :: r => by simp only [dOfs, List.map_cons, dOfs_map r]
mutual
theorem tg_rp {K : PySem.W.Frag} {H : Hp} : ∀ {v : V} {d : PyData}, Tg K H v d → Rp K H v (dOf d)
  | _, _, .non => by simp only [dOf]; exact .non
  | _, _, .bl b => by simp only [dOf]; exact .bl b
  | _, _, .int i => by simp only [dOf]; exact .int i
  | _, _, .str x => by simp only [dOf]; exact .str x
  | _, _, .lst h _ => by simp only [dOf]; exact .lst h
  | _, _, .dic h _ => by simp only [dOf]; exact .dic h
  | _, _, .tup h r => by simp only [dOf]; exact .tup h (tgAll_rp r)
theorem tgAll_rp {K : PySem.W.Frag} {H : Hp} : ∀ {vs : List V} {ds : List PyData}, TgAll K H vs ds → RpAll K H vs (dOfs ds)
  | _, _, .nil => by simp only [dOfs]; exact .nil
  | _, _, .cons a r => by simp only [dOfs]; exact .cons (tg_rp a) (tgAll_rp r)
end
mutual
theorem tg_mono {K : PySem.W.Frag} {H H' : Hp} (e : Ex H H') : ∀ {v : V} {d : PyData}, Tg K H v d → Tg K H' v d
  | _, _, .non => .non
  | _, _, .bl b => .bl b
  | _, _, .int i => .int i
  | _, _, .str x => .str x
  | _, _, .lst h r => .lst (ex_l e h) (tgAll_mono e r)
  | _, _, .dic h r => .dic (e _ _ h) (tgAll_mono e r)
  | _, _, .tup h r => .tup (ex_t e h) (tgAll_mono e r)
theorem tgAll_mono {K : PySem.W.Frag} {H H' : Hp} (e : Ex H H') : ∀ {vs : List V} {ds : List PyData}, TgAll K H vs ds → TgAll K H' vs ds
  | _, _, .nil => .nil
  | _, _, .cons a r => .cons (tg_mono e a) (tgAll_mono e r)
end
mutual
inductive TgS (K : PySem.W.Frag) (p c : Addr) (H : Hp) : V → PyData → Prop
  | non : TgS K p c H .non .none
  | bl (b : Bool) : TgS K p c H (.bl b) (.bool b)
  | int (i : Int) : TgS K p c H (.int i) (.int i)
  | str (x : Str) : TgS K p c H (.str x) (.str x)
  | lst {a : Addr} {xs : List V} {ds : List PyData} : H a = some (.lst xs) → a ≠ p → a ≠ c → TgsS K p c H xs ds → TgS K p c H (.ref a) (.list ds)
  | tup {a : Addr} {xs : List V} {ds : List PyData} : SqT K H a xs → TgsS K p c H xs ds → TgS K p c H (.ref a) (.tuple ds)
  | dic {a : Addr} {kvs : List (Key × V)} {ds : List PyData} : H a = some (.dK kvs) → a ≠ p → a ≠ c → TgsS K p c H (kvs.map (·.2)) ds → TgS K p c H (.ref a) (.dict ((kvs.map fun kv => keyD kv.1).zip ds))
inductive TgsS (K : PySem.W.Frag) (p c : Addr) (H : Hp) : List V → List PyData → Prop
  | nil : TgsS K p c H [] []
  | cons {v : V} {vs : List V} {d : PyData} {ds : List PyData} : TgS K p c H v d → TgsS K p c H vs ds → TgsS K p c H (v :: vs) (d :: ds)
end
section
variable {K : PySem.W.Frag} {p c : Addr} {H H1 : Hp}
mutual
theorem TgS.kept (P : PoolAt H p c) (k : Kept p c H H1) : ∀ {v : V} {d : PyData}, TgS K p c H v d → TgS K p c H1 v d
  | _, _, .non => .non
  | _, _, .bl b => .bl b
  | _, _, .int i => .int i
  | _, _, .str x => .str x
  | _, _, .lst h n1 n2 r => .lst (k _ _ n1 n2 h) n1 n2 (TgsS.kept P k r)
  | _, _, .tup h r => .tup (sqt_kept h P k) (TgsS.kept P k r)
  | _, _, .dic h n1 n2 r => .dic (k _ _ n1 n2 h) n1 n2 (TgsS.kept P k r)
theorem TgsS.kept (P : PoolAt H p c) (k : Kept p c H H1) : ∀ {vs : List V} {ds : List PyData}, TgsS K p c H vs ds → TgsS K p c H1 vs ds
  | _, _, .nil => .nil
  | _, _, .cons a r => .cons (TgS.kept P k a) (TgsS.kept P k r)
end
mutual
theorem TgS.now : ∀ {v : V} {d : PyData}, TgS K p c H v d → Tg K H v d
  | _, _, .non => .non
  | _, _, .bl b => .bl b
  | _, _, .int i => .int i
  | _, _, .str x => .str x
  | _, _, .lst h _ _ r => .lst (SqL.of h) (TgsS.all r)
  | _, _, .tup h r => .tup h (TgsS.all r)
  | _, _, .dic h _ _ r => .dic h (TgsS.all r)
theorem TgsS.all : ∀ {vs : List V} {ds : List PyData}, TgsS K p c H vs ds → TgAll K H vs ds
  | _, _, .nil => .nil
  | _, _, .cons a r => .cons (TgS.now a) (TgsS.all r)
end
theorem TgsS.len : ∀ {vs : List V} {ds : List PyData}, TgsS K p c H vs ds → vs.length = ds.length
  | _, _, .nil => rfl
  | _, _, .cons _ r => congrArg (· + 1) r.len
theorem TgsS.nth : ∀ {vs : List V} {ds : List PyData}, TgsS K p c H vs ds → ∀ (i : Nat) (v : V) (d : PyData), vs[i]? = some v → ds[i]? = some d → TgS K p c H v d
  | _, _, .nil, i, v, d, h, _ => by simp at h
  | _, _, .cons a r, 0, v, d, h1, h2 => by
    cases Option.some.inj h1
    cases Option.some.inj h2
    exact a
  | _, _, .cons a r, i + 1, v, d, h1, h2 => TgsS.nth r i v d h1 h2
theorem TgsS.of : ∀ {vs : List V} {ds : List PyData}, vs.length = ds.length → (∀ (i : Nat) (v : V) (d : PyData), vs[i]? = some v → ds[i]? = some d → TgS K p c H v d) → TgsS K p c H vs ds
  | [], [], _, _ => .nil
  | v :: vs, d :: ds, h, f => .cons (f 0 v d rfl rfl) (TgsS.of (by simpa using h) fun i v d h1 h2 => f (i + 1) v d h1 h2)
  | [], _ :: _, h, _ => by simp at h
  | _ :: _, [], h, _ => by simp at h
theorem TgsS.get {vs : List V} {ds : List PyData} (h : TgsS K p c H vs ds) {i : Nat} {v : V} (e : vs[i]? = some v) : ∃ d, ds[i]? = some d ∧ TgS K p c H v d := by
  have hi := (List.getElem?_eq_some_iff.mp e).1
  have hi' : i < ds.length := by rw [← h.len]; exact hi
  exact ⟨_, List.getElem?_eq_getElem hi', h.nth i v _ e (List.getElem?_eq_getElem hi')⟩
theorem TgsS.app {us : List V} {es : List PyData} (g : TgsS K p c H us es) : ∀ {vs : List V} {ds : List PyData}, TgsS K p c H vs ds → TgsS K p c H (vs ++ us) (ds ++ es)
  | _, _, .nil => g
  | _, _, .cons a r => .cons a (TgsS.app g r)
theorem TgsS.take : ∀ {vs : List V} {ds : List PyData} (n : Nat), TgsS K p c H vs ds → TgsS K p c H (vs.take n) (ds.take n)
  | _, _, 0, _ => .nil
  | _, _, n + 1, .nil => .nil
  | _, _, n + 1, .cons a r => .cons a (TgsS.take n r)
theorem TgsS.drop : ∀ {vs : List V} {ds : List PyData} (n : Nat), TgsS K p c H vs ds → TgsS K p c H (vs.drop n) (ds.drop n)
  | _, _, 0, h => h
  | _, _, n + 1, .nil => .nil
  | _, _, n + 1, .cons a r => TgsS.drop n r
theorem TgS.inv {v : V} {ds : List PyData} (h : TgS K p c H v (.tuple ds)) : ∃ a xs, v = .ref a ∧ SqT K H a xs ∧ TgsS K p c H xs ds := by
  cases h with
  | tup h r => exact ⟨_, _, rfl, h, r⟩
end
mutual
def bdD : PyData → Bool
  | .int i => decide (i.natAbs < 10 ^ 38)
  | .str x => decide ((reprText x).length ≤ 40)
  | .list xs => bdAll xs
  | .tuple xs => bdAll xs
  | .dict kvs => bdKv kvs
  | _ => true
def bdAll : List PyData → Bool
  | [] => true
  | x :: r => bdD x && bdAll r
def bdKv : List (PyData × PyData) → Bool
  | [] => true
  | (k, v) :: r => bdD k && bdD v && bdKv r
end
mutual
def szD : PyData → Nat
  | .list xs => szAll xs + 1
  | .tuple xs => szAll xs + 1
  | .dict kvs => szKv kvs + 1
  | _ => 1
def szAll : List PyData → Nat
  | [] => 0
  | x :: r => szD x + szAll r
def szKv : List (PyData × PyData) → Nat
  | [] => 0
  | (k, v) :: r => szD k + szD v + szKv r
end
theorem piled_cons' (t : Str) (ts : List Str) : piled (t :: ts) = (t.length + 2) + piled ts := by
  simp only [piled, List.map_cons, List.sum_cons]
theorem tupleText_le (ts : List Str) : (tupleText ts).length ≤ piled ts + 3 := by
  unfold tupleText
  rw [strLen_append, strLen_append]
  have e1 : (("(" : String) : Str).length = 1 := rfl
  have e2 : ((if ts.length == 1 then ",)" else ")" : String) : Str).length ≤ 2 := by
    split <;> decide
  by_cases h : ts = []
  · subst h
    have : (Str.join ", " []).length = 0 := rfl
    have e2' : ((if ([] : List Str).length == 1 then ",)" else ")" : String) : Str).length ≤ 2 := e2
    omega
  · have := join_length_add ts h
    omega
theorem textFrom_le : ∀ (ts : List Str) (k : Nat) (acc : Str), (textFrom k acc ts).length ≤ acc.length + piled ts
  | [], k, acc => Nat.le_add_right _ _
  | t :: r, k, acc => by
    have ih := textFrom_le r (k + 1) (acc ++ (if k > 0 then ", " else "" : String) ++ t)
    show (textFrom (k + 1) (acc ++ (if k > 0 then ", " else "" : String) ++ t) r).length ≤ _
    rw [strLen_append, strLen_append] at ih
    have e : ((if k > 0 then ", " else "" : String) : Str).length ≤ 2 := by
      split <;> decide
    rw [piled_cons']
    omega
theorem listText_le (ts : List Str) : (listText ts).length ≤ piled ts + 2 := by
  have h := textFrom_le ts 0 "["
  unfold listText
  rw [strLen_append]
  have e1 : (("[" : String) : Str).length = 1 := rfl
  have e2 : (("]" : String) : Str).length = 1 := rfl
  omega
theorem dictText_le (ts : List Str) : (dictText ts).length ≤ piled ts + 2 := by
  unfold dictText
  rw [strLen_append, strLen_append]
  have e1 : (("{" : String) : Str).length = 1 := rfl
  have e2 : (("}" : String) : Str).length = 1 := rfl
  by_cases h : ts = []
  · subst h
    have : (Str.join ", " []).length = 0 := rfl
    omega
  · have := join_length_add ts h
    omega
mutual
theorem shown_le : ∀ d : PyData, bdD d = true → d.shown.length + 4 ≤ 50 * szD d
  | .none, _ => by simp only [PyData.shown, szD]; decide
  | .bool b, _ => by
    simp only [PyData.shown, szD]
    cases b <;> decide
  | .int i, h => by
    simp only [bdD, decide_eq_true_eq] at h
    simp only [PyData.shown, szD]
    have := int_text_length_le10 (a := i) (k := 38) (by decide) h
    show (Str.ofString (toString i)).length + 4 ≤ 50 * 1
    rw [PySem.ofString_length]
    omega
  | .str x, h => by
    simp only [bdD, decide_eq_true_eq] at h
    simp only [PyData.shown, szD]
    omega
  | .list xs, h => by
    simp only [bdD] at h
    have h1 := shownAll_le xs h
    have h2 := listText_le (PyData.shownAll xs)
    simp only [PyData.shown, szD]
    omega
  | .tuple xs, h => by
    simp only [bdD] at h
    have h1 := shownAll_le xs h
    have h2 := tupleText_le (PyData.shownAll xs)
    simp only [PyData.shown, szD]
    omega
  | .dict kvs, h => by
    simp only [bdD] at h
    have h1 := shownKv_le kvs h
    have h2 := dictText_le (PyData.shownKv kvs)
    simp only [PyData.shown, szD]
    omega
theorem shownAll_le : ∀ xs : List PyData, bdAll xs = true → piled (PyData.shownAll xs) ≤ 50 * szAll xs
  | [], _ => by simp only [PyData.shownAll, szAll]; decide
  | x :: r, h => by
    simp only [bdAll, Bool.and_eq_true] at h
    have h1 := shown_le x h.1
    have h2 := shownAll_le r h.2
    simp only [PyData.shownAll, szAll]
    rw [piled_cons']
    omega
theorem shownKv_le : ∀ kvs : List (PyData × PyData), bdKv kvs = true → piled (PyData.shownKv kvs) ≤ 50 * szKv kvs
  | [], _ => by simp only [PyData.shownKv, szKv]; decide
  | (k, v) :: r, h => by
    simp only [bdKv, Bool.and_eq_true] at h
    have h1 := shown_le k h.1.1
    have h2 := shown_le v h.1.2
    have h3 := shownKv_le r h.2
    simp only [PyData.shownKv, szKv]
    rw [piled_cons', strLen_append, strLen_append]
    have e1 : ((": " : String) : Str).length = 2 := rfl
    omega
end
mutual
theorem bd_showable : ∀ d : PyData, bdD d = true → d.showable = true
  | .none, _ => by simp only [PyData.showable]
  | .bool b, _ => by simp only [PyData.showable]
  | .str x, _ => by simp only [PyData.showable]
  | .int i, h => by
    simp only [bdD, decide_eq_true_eq] at h
    simp only [PyData.showable, decide_eq_true_eq]
    by_cases z : i.natAbs = 0
    · rw [z]; decide
    · exact Nat.lt_of_lt_of_le ((Nat.log2_lt z).mpr (Nat.lt_of_lt_of_le h (by decide : 10 ^ 38 ≤ 2 ^ 127))) (by decide)
  | .list xs, h => by
    simp only [bdD] at h
    simp only [PyData.showable]
    exact bdAll_showable xs h
  | .tuple xs, h => by
    simp only [bdD] at h
    simp only [PyData.showable]
    exact bdAll_showable xs h
  | .dict kvs, h => by
    simp only [bdD] at h
    simp only [PyData.showable]
    exact bdKv_showable kvs h
theorem bdAll_showable : ∀ xs : List PyData, bdAll xs = true → PyData.showableAll xs = true
  | [], _ => by simp only [PyData.showableAll]
  | x :: r, h => by
    simp only [bdAll, Bool.and_eq_true] at h
    simp only [PyData.showableAll, Bool.and_eq_true]
    exact ⟨bd_showable x h.1, bdAll_showable r h.2⟩
theorem bdKv_showable : ∀ kvs : List (PyData × PyData), bdKv kvs = true → PyData.showableKv kvs = true
  | [], _ => by simp only [PyData.showableKv]
  | (k, v) :: r, h => by
    simp only [bdKv, Bool.and_eq_true] at h
    simp only [PyData.showableKv, Bool.and_eq_true]
    exact ⟨⟨bd_showable k h.1.1, bd_showable v h.1.2⟩, bdKv_showable r h.2⟩
end
/-- what may stand in a thing -/
structure OkI (d : PyData) : Prop where
  bd : bdD d = true
  dl : dlD d = true
  dp : d.depth ≤ 39
  sz : szD d ≤ 200
/-- a thing: an item, or a tuple of items -/
def OkT (m : Nat) (d : PyData) : Prop := OkI d ∨ ∃ ds, d = .tuple ds ∧ ds.length ≤ m ∧ ∀ x ∈ ds, OkI x
theorem okAll : ∀ {ds : List PyData}, (∀ x ∈ ds, OkI x) → bdAll ds = true ∧ dlAll ds = true ∧ PyData.depthAll ds ≤ 39 ∧ szAll ds ≤ 200 * ds.length
  | [], _ => by simp [bdAll, dlAll, PyData.depthAll, szAll]
  | x :: r, h => by
    obtain ⟨h1, h2, h3, h4⟩ := okAll (ds := r) fun y hy => h y (List.mem_cons_of_mem _ hy)
    obtain ⟨g1, g2, g3, g4⟩ := h x (List.mem_cons_self ..)
    simp only [bdAll, dlAll, PyData.depthAll, szAll, List.length_cons, h1, h2, g1, g2, Bool.and_self, true_and]
    refine ⟨Nat.max_le.mpr ⟨g3, h3⟩, ?_⟩
    rw [Nat.mul_succ]
    omega
theorem OkT.shows {m : Nat} {d : PyData} (h : OkT m d) (hm : m ≤ 1000) : dlD d = true ∧ d.showable = true ∧ d.depth ≤ 60 ∧ d.shown.length ≤ sizeLine := by
  have sl := sizeLine_eq
  rcases h with h | ⟨ds, rfl, hl, hi⟩
  · have := shown_le d h.bd
    have := h.sz
    exact ⟨h.dl, bd_showable d h.bd, by have := h.dp; omega, by omega⟩
  · obtain ⟨h1, h2, h3, h4⟩ := okAll hi
    have hb : bdD (.tuple ds) = true := by simp only [bdD]; exact h1
    have := shown_le (.tuple ds) hb
    have hs : szD (.tuple ds) = szAll ds + 1 := by simp only [szD]
    refine ⟨by simp only [dlD]; exact h2, bd_showable _ hb, by simp only [PyData.depth]; omega, ?_⟩
    omega
def nestD : Nat → PyData
  | 0 => .tuple [.int 0]
  | n + 1 => .tuple [nestD n]
theorem nest_ok : ∀ n, n ≤ 37 → bdD (nestD n) = true ∧ dlD (nestD n) = true ∧ (nestD n).depth = n + 1 ∧ szD (nestD n) = n + 2
  | 0, _ => by simp [nestD, bdD, bdAll, dlD, dlAll, PyData.depth, PyData.depthAll, szD, szAll]
  | n + 1, h => by
    obtain ⟨h1, h2, h3, h4⟩ := nest_ok n (by omega)
    simp [nestD, bdD, bdAll, dlD, dlAll, PyData.depth, PyData.depthAll, szD, szAll, h1, h2, h3, h4]
theorem OkI.nest : OkI (nestD 37) := by
  obtain ⟨h1, h2, h3, h4⟩ := nest_ok 37 (Nat.le_refl _)
  exact ⟨h1, h2, by omega, by omega⟩
theorem OkI.int {i : Int} (h : i.natAbs < 10 ^ 38) : OkI (.int i) := ⟨by simp only [bdD]; exact decide_eq_true h, by simp only [dlD], by simp only [PyData.depth]; omega, by simp only [szD]; omega⟩
/-! ### k04 -/
structure Sp0 (vs : List V) (P : Prop) : Prop where
  ex : vs = [] ∧ P
theorem Sp0.len {vs : List V} {P : Prop} (h : Sp0 vs P) : vs.length = 0 := by
  obtain ⟨rfl, _⟩ := h.ex
  rfl
def ordD (n : Nat) : Da → Bool
  | .tup ds => rowD n (.tup ds) && decide (ds.length = n)
  | _ => false
abbrev sp_is_order (K : PySem.W.Frag) (A : Ad) : Sp := fun vs H Q _ => Sp2 vs fun x y => OnBook K A H x y fun ws d => ∀ H', Ex H H' → Q (.bl (ordD ws.length d)) H'
def thereV (ds : List Da) : List V := given ds.length (fun j => !isNon (ds.getD j .non)) fun j => .int (j : Nat)
abbrev sp_there (K : PySem.W.Frag) (A : Ad) : Sp := fun vs H Q E => Sp2 vs fun x y => OnBook K A H x y fun ws d => (lotD ws.length d = false → ∀ H', Ex H H' → E (.ref A.C_NoLot) none H') ∧
  ∀ ds, d = .tup ds → lotD ws.length d = true → ∀ r H', H r = none → Ex H H' → H' r = some (.tup (thereV ds)) → Q (.ref r) H'
abbrev sp_l_deep (K : PySem.W.Frag) (A : Ad) : Sp := fun vs H Q _ => Sp0 vs (∀ a H', Ex H H' → Tg K H' (.ref a) (nestD 37) → Q (.ref a) H')
abbrev sp_l_is_row (K : PySem.W.Frag) (A : Ad) : Sp := fun vs H Q _ => Sp2 vs fun x y => ∃ (n : Nat) (d : Da), x = .int (n : Int) ∧ Rp K H y d ∧ smallD d ∧ ∀ H', Ex H H' → Q (.bl (rowD n d)) H'
abbrev sp_l_is_lot (K : PySem.W.Frag) (A : Ad) : Sp := fun vs H Q _ => Sp2 vs fun x y => ∃ (n : Nat) (d : Da), x = .int (n : Int) ∧ Rp K H y d ∧ smallD d ∧ ∀ H', Ex H H' → Q (.bl (lotD n d)) H'
abbrev sp_l_there (K : PySem.W.Frag) (A : Ad) : Sp := fun vs H Q _ => Sp2 vs fun x y => OnBook K A H x y fun ws d => (lotD ws.length d = false → ∀ H', Ex H H' → Q (.str "none") H') ∧
  ∀ ds, d = .tup ds → lotD ws.length d = true → ∀ r H', Ex H H' → H' r = some (.tup (thereV ds)) → Q (.ref r) H'
abbrev sp_l_bent (K : PySem.W.Frag) (A : Ad) : Sp := fun vs H Q _ => Sp3 vs fun x y z => ∃ (p c : Addr) (n m : Nat) (d : PyData), x = .ref p ∧ z = .int (n : Int) ∧ PoolAt H p c ∧ TgS K p c H y d ∧ OkT m d ∧ 200 ≤ m ∧ m ≤ 900 ∧ n ≤ 40 ∧
  ∀ (v : V) (d' : PyData) (H' : Hp), PoolAt H' p c → Kept p c H H' → TgS K p c H' v d' → OkT (m + 1) d' → Q v H'
theorem rp_non {K : PySem.W.Frag} {H : Hp} {v : V} {d : Da} (h : Rp K H v d) : decide (v = V.non) = isNon d := by
  cases h <;> simp [isNon]
theorem cut_from {xs : List V} (k : Nat) : cutV xs (some (k : Int)) none = xs.drop k := by
  unfold cutV
  rw [HT.sIx_none, HT.sIx_nat]
  by_cases h : k ≤ xs.length
  · rw [Nat.min_eq_left h, List.take_of_length_le (by rw [List.length_drop] <;> omega)]
  · rw [Nat.min_eq_right (by omega), Nat.sub_self, List.take_zero, List.drop_of_length_le (by omega)]
mutual
theorem TgS.of {K : PySem.W.Frag} {p c : Addr} {H : Hp} : ∀ {v : V} {d : PyData}, Tg K H v d → afD d = true → TgS K p c H v d
  | _, _, .non, _ => .non
  | _, _, .bl b, _ => .bl b
  | _, _, .int i, _ => .int i
  | _, _, .str x, _ => .str x
  | _, _, .lst _ _, h => by simp [afD] at h
  | _, _, .dic _ _, h => by simp [afD] at h
  | _, _, .tup h r, z => .tup h (TgsS.ofAll r (by simpa [afD] using z))
theorem TgsS.ofAll {K : PySem.W.Frag} {p c : Addr} {H : Hp} : ∀ {vs : List V} {ds : List PyData}, TgAll K H vs ds → afAll ds = true → TgsS K p c H vs ds
  | _, _, .nil, _ => .nil
  | _, _, .cons a r, z => by
    simp only [afAll, Bool.and_eq_true] at z
    exact .cons (TgS.of a z.1) (TgsS.ofAll r z.2)
end
theorem nest_af : ∀ n, afD (nestD n) = true
  | 0 => by simp [nestD, afD, afAll]
  | n + 1 => by simp [nestD, afD, afAll, nest_af n]
theorem TgsS.rev {K : PySem.W.Frag} {p c : Addr} {H : Hp} {vs : List V} {ds : List PyData} (h : TgsS K p c H vs ds) : TgsS K p c H vs.reverse ds.reverse := by
  refine TgsS.of (by simp [h.len]) fun i v d h1 h2 => ?_
  have hi : i < vs.length := by
    have := (List.getElem?_eq_some_iff.mp h1).1
    simpa using this
  rw [List.getElem?_reverse hi] at h1
  rw [List.getElem?_reverse (by rw [← h.len]; exact hi), ← h.len] at h2
  exact h.nth _ v d h1 h2
theorem TgsS.ints {K : PySem.W.Frag} {p c : Addr} {H : Hp} : ∀ l : List Int, TgsS K p c H (l.map V.int) (l.map PyData.int)
  | [] => .nil
  | i :: r => .cons (.int i) (TgsS.ints r)
theorem ints_ok {l : List Int} (h : ∀ i ∈ l, i.natAbs < 10 ^ 38) : ∀ x ∈ l.map PyData.int, OkI x := fun x hx => by
  obtain ⟨i, hi, rfl⟩ := List.mem_map.mp hx
  exact OkI.int (h i hi)
theorem ints_dict (l : List Int) : PyData.hasDictAll (l.map PyData.int) = false := by
  induction l with
  | nil => simp [PyData.hasDictAll]
  | cons i r ih => simp [PyData.hasDictAll, PyData.hasDict, ih]
theorem ints_sz (l : List Int) : szAll (l.map PyData.int) = l.length := by
  induction l with
  | nil => simp [szAll]
  | cons i r ih =>
    simp only [List.map_cons, szAll, szD, ih, List.length_cons]
    omega
theorem ints_depth (l : List Int) : PyData.depthAll (l.map PyData.int) = 0 := by
  induction l with
  | nil => simp [PyData.depthAll]
  | cons i r ih => simp [PyData.depthAll, PyData.depth, ih]
theorem OkI.ints {l : List Int} (h : ∀ i ∈ l, i.natAbs < 10 ^ 38) (hl : l.length ≤ 90) : OkI (.list (l.map PyData.int)) := by
  have h1 := okAll (ints_ok h)
  refine ⟨by simp only [bdD]; exact h1.1, by simp [dlD, ints_dict], by simp only [PyData.depth, ints_depth]; omega, by simp only [szD, ints_sz]; omega⟩
theorem szD_pos : ∀ d : PyData, 1 ≤ szD d
  | .none => by simp only [szD]; omega
  | .bool _ => by simp only [szD]; omega
  | .int _ => by simp only [szD]; omega
  | .str _ => by simp only [szD]; omega
  | .list _ => by simp only [szD]; omega
  | .tuple _ => by simp only [szD]; omega
  | .dict _ => by simp only [szD]; omega
theorem okI_items : ∀ {ds : List PyData}, bdAll ds = true → dlAll ds = true → PyData.depthAll ds ≤ 39 → szAll ds ≤ 200 → ds.length ≤ szAll ds ∧ ∀ x ∈ ds, OkI x
  | [], _, _, _, _ => ⟨Nat.zero_le _, fun x hx => nomatch hx⟩
  | y :: r, h1, h2, h3, h4 => by
    simp only [bdAll, Bool.and_eq_true] at h1
    simp only [dlAll, Bool.and_eq_true] at h2
    simp only [PyData.depthAll] at h3
    simp only [szAll] at h4 ⊢
    have p := szD_pos y
    obtain ⟨g1, g2⟩ := okI_items h1.2 h2.2 (Nat.le_trans (Nat.le_max_right _ _) h3) (by omega)
    refine ⟨by rw [List.length_cons]; omega, fun x hx => ?_⟩
    rcases List.mem_cons.mp hx with rfl | hx
    · exact ⟨h1.1, h2.1, Nat.le_trans (Nat.le_max_left _ _) h3, by omega⟩
    · exact g2 x hx
theorem OkT.items {m : Nat} {ds : List PyData} (h : OkT m (.tuple ds)) (hm : 200 ≤ m) : ds.length ≤ m ∧ ∀ x ∈ ds, OkI x := by
  rcases h with h | ⟨es, e, h1, h2⟩
  · obtain ⟨h1, h2, h3, h4⟩ := h
    simp only [bdD] at h1
    simp only [dlD] at h2
    simp only [PyData.depth] at h3
    simp only [szD] at h4
    obtain ⟨g1, g2⟩ := okI_items h1 h2 (by omega) (by omega)
    exact ⟨by omega, g2⟩
  · cases e
    exact ⟨h1, h2⟩
theorem OkT.tup {m : Nat} {ds : List PyData} (h1 : ds.length ≤ m) (h2 : ∀ x ∈ ds, OkI x) : OkT m (.tuple ds) := .inr ⟨ds, rfl, h1, h2⟩
theorem dOfs_len (ds : List PyData) : (dOfs ds).length = ds.length := by rw [dOfs_map, List.length_map]
theorem OkT.small {m : Nat} {d : PyData} (h : OkT m d) (h0 : 200 ≤ m) (hm : m ≤ 1000) : smallD (dOf d) := by
  cases d with
  | tuple ds =>
    have := (h.items h0).1
    simp only [dOf]
    show (dOfs ds).length ≤ 1000
    rw [dOfs_len]
    omega
  | _ => simp only [dOf]; exact True.intro
theorem OkI.simple {d : PyData} (h1 : bdD d = true) (h2 : dlD d = true) (h3 : d.depth ≤ 39) (h4 : szD d ≤ 200) : OkI d := ⟨h1, h2, h3, h4⟩
theorem rowD_no {n : Nat} {d : Da} (h : ∀ ds, d ≠ .tup ds) : rowD n d = false := by
  cases d with
  | tup ds => exact absurd rfl (h ds)
  | _ => rfl
theorem lotD_no {n : Nat} {d : Da} (h : ∀ ds, d ≠ .tup ds) : lotD n d = false := by
  cases d with
  | tup ds => exact absurd rfl (h ds)
  | _ => rfl
def pO : Option Int → PyData
  | none => .none
  | some n => .int n
theorem dOf_pO (l : List (Option Int)) : dOfs (l.map pO) = l.map dO := by
  rw [dOfs_map, List.map_map]
  refine List.map_congr_left fun o _ => ?_
  cases o <;> simp [pO, dOf, dO]
theorem TgsS.lot {K : PySem.W.Frag} {p c : Addr} {H : Hp} : ∀ l : List (Option Int), TgsS K p c H (l.map vO) (l.map pO)
  | [] => .nil
  | none :: r => .cons .non (TgsS.lot r)
  | some n :: r => .cons (.int n) (TgsS.lot r)
theorem lot_ok {l : List (Option Int)} (h : ∀ n, some n ∈ l → n.natAbs < 10 ^ 38) : ∀ x ∈ l.map pO, OkI x := fun x hx => by
  obtain ⟨o, ho, rfl⟩ := List.mem_map.mp hx
  cases o with
  | none => exact ⟨by simp [pO, bdD], by simp [pO, dlD], by simp [pO, PyData.depth], by simp [pO, szD]⟩
  | some n => exact OkI.int (h n ho)
theorem nat_ints (l : List Nat) : l.map vNat = (l.map fun j => ((j : Nat) : Int)).map V.int := by
  rw [List.map_map] <;> rfl
theorem thereV_ints (ds : List Da) : thereV ds = (((List.range ds.length).filter fun j => !isNon (ds.getD j .non)).map fun j => ((j : Nat) : Int)).map V.int := by
  unfold thereV given
  rw [List.map_map] <;> rfl
def bools (l : List Bool) : PyData := .list (l.map .bool)
theorem dp_bools {K : PySem.W.Frag} {H : Hp} {a : Addr} {l : List Bool} (h : SqL K H a (l.map V.bl)) : Dp K H (.ref a) (bools l) := by
  refine .lst h ?_
  clear h
  induction l with
  | nil => exact .nil
  | cons b r ih => exact .cons (.bl b) ih
theorem shaped_bools (l : List Bool) : SeqAt.shaped (bools l) = true := by
  have h1 : PyData.canLayAll0 (l.map PyData.bool) = true := by
    induction l with
    | nil => simp [PyData.canLayAll0]
    | cons b r ih => simp [PyData.canLayAll0, PyData.canLay0, ih]
  have h2 : PyData.depthAll (l.map PyData.bool) = 0 := by
    induction l with
    | nil => simp [PyData.depthAll]
    | cons b r ih =>
      have := ih (by
        have := h1
        simp only [List.map_cons, PyData.canLayAll0, Bool.and_eq_true] at this
        exact this.2)
      simp [PyData.depthAll, PyData.depth, this]
  unfold SeqAt.shaped bools
  rw [Bool.and_eq_true]
  exact ⟨by simp only [PyData.canLay0]; exact h1, decide_eq_true (by simp only [PyData.depth, h2]; omega)⟩
theorem eqv_bools (l : List Bool) : PyData.eqv (bools l) (bools l) = true := SeqAt.eqv_refl _ (by
  have := shaped_bools l
  unfold SeqAt.shaped at this
  rw [Bool.and_eq_true] at this
  exact this.1)
theorem ord_row {n : Nat} {d : Da} (h : rowD n d = false) : ordD n d = false := by
  cases d with
  | tup ds =>
    show (rowD n (.tup ds) && _) = false
    rw [h, Bool.false_and]
  | _ => rfl
theorem grp_row {n : Nat} {d : Da} (h : rowD n d = false) : groupD n d = false := by
  cases d with
  | tup ds =>
    show (rowD n (.tup ds) && _) = false
    rw [h, Bool.false_and]
  | _ => rfl
/-! ### k01 -/
def hourD : Da → Bool | .int z => decide (0 ≤ z) && decide (z ≤ 1000000) | _ => false
abbrev sp_l_is_hour (K : PySem.W.Frag) (A : Ad) : Sp := spJudge K hourD
abbrev sp_l_is_window (K : PySem.W.Frag) (A : Ad) : Sp := spJudge K winD
abbrev sp_l_are_windows (K : PySem.W.Frag) (A : Ad) : Sp := fun vs H Q _ => Sp1 vs fun x => ∃ d, Rp K H x d ∧ smallD d ∧ ∀ H', Ex H H' → Q (.bl (winsD d)) H'
abbrev sp_l_bent01 (K : PySem.W.Frag) (A : Ad) : Sp := fun vs H Q _ => Sp2 vs fun x y => ∃ (p c : Addr) (m : Nat) (ds : List PyData), x = .ref p ∧ PoolAt H p c ∧ TgS K p c H y (.tuple ds) ∧ OkT m (.tuple ds) ∧ 200 ≤ m ∧ m ≤ 900 ∧ 1 ≤ ds.length ∧
  ∀ (v : V) (ds' : List PyData) (H' : Hp), PoolAt H' p c → Kept p c H H' → TgS K p c H' v (.tuple ds') → OkT m (.tuple ds') → ds'.length = ds.length → Q v H'
theorem winD_hours {d1 d2 : Da} : winD (.tup [d1, d2]) = (hourD d1 && (hourD d2 && (match d1, d2 with | .int f, .int l => decide (f ≤ l) | _, _ => false))) := by
  cases d1 with
  | int f =>
    cases d2 with
    | int l =>
      simp only [winD, hourD]
      by_cases a : 0 ≤ f <;> by_cases b : f ≤ l <;> by_cases c : l ≤ 1000000 <;> by_cases e : f ≤ 1000000 <;> by_cases g : 0 ≤ l <;> simp [a, b, c, e, g] <;> omega
    | _ => simp [winD, hourD]
  | _ => simp [winD, hourD]
/-- a small item -/
structure OkS (d : PyData) : Prop where
  bd : bdD d = true
  dl : dlD d = true
  dp : d.depth ≤ 3
  sz : szD d ≤ 10
theorem okS_all : ∀ {ds : List PyData}, (∀ x ∈ ds, OkS x) → bdAll ds = true ∧ dlAll ds = true ∧ PyData.depthAll ds ≤ 3 ∧ szAll ds ≤ 10 * ds.length
  | [], _ => by simp [bdAll, dlAll, PyData.depthAll, szAll]
  | x :: r, h => by
    obtain ⟨h1, h2, h3, h4⟩ := okS_all (ds := r) fun y hy => h y (List.mem_cons_of_mem _ hy)
    obtain ⟨g1, g2, g3, g4⟩ := h x (List.mem_cons_self ..)
    simp only [bdAll, dlAll, PyData.depthAll, szAll, List.length_cons, h1, h2, g1, g2, Bool.and_self, true_and]
    refine ⟨Nat.max_le.mpr ⟨g3, h3⟩, ?_⟩
    omega
theorem OkS.tup {ds : List PyData} (h : ∀ x ∈ ds, OkS x) (hl : ds.length ≤ 10) : OkI (.tuple ds) := by
  obtain ⟨h1, h2, h3, h4⟩ := okS_all h
  refine ⟨by simp only [bdD]; exact h1, by simp only [dlD]; exact h2, by simp only [PyData.depth]; omega, by simp only [szD]; omega⟩
theorem OkS.big {d : PyData} (h : OkS d) : OkI d := ⟨h.bd, h.dl, by have := h.dp; omega, by have := h.sz; omega⟩
theorem OkS.int {i : Int} (h : i.natAbs < 10 ^ 38) : OkS (.int i) := ⟨by simp only [bdD]; exact decide_eq_true h, by simp only [dlD], by simp only [PyData.depth]; omega, by simp only [szD]; omega⟩
theorem OkS.pair {i j : Int} (h1 : i.natAbs < 10 ^ 38) (h2 : j.natAbs < 10 ^ 38) : OkS (.tuple [.int i, .int j]) := by
  refine ⟨?_, by simp [dlD, dlAll], by simp [PyData.depth, PyData.depthAll], by simp [szD, szAll]⟩
  simp only [bdD, bdAll, Bool.and_true, Bool.and_eq_true, decide_eq_true_eq]
  exact ⟨h1, h2⟩
theorem bdAll_of {ds : List PyData} (h : ∀ x ∈ ds, bdD x = true) : bdAll ds = true := by
  induction ds with
  | nil => simp [bdAll]
  | cons x r ih =>
    simp only [bdAll, Bool.and_eq_true]
    exact ⟨h x (List.mem_cons_self ..), ih fun y hy => h y (List.mem_cons_of_mem _ hy)⟩
theorem wins_facts : ∀ ws : List (Int × Int), PyData.hasDictAll (ws.map dPair) = false ∧ dlAll (ws.map dPair) = true ∧ PyData.depthAll (ws.map dPair) ≤ 1 ∧ szAll (ws.map dPair) = 3 * ws.length
  | [] => by simp [PyData.hasDictAll, dlAll, PyData.depthAll, szAll]
  | q :: r => by
    obtain ⟨h1, h2, h3, h4⟩ := wins_facts r
    simp only [List.map_cons, PyData.hasDictAll, dlAll, PyData.depthAll, szAll, dPair, PyData.hasDict, dlD, PyData.depth, szD, h1, h2, h4, List.length_cons]
    refine ⟨by simp, by simp, ?_, by omega⟩
    have : max 0 (max 0 0) = 0 := rfl
    refine Nat.max_le.mpr ⟨?_, h3⟩
    decide
theorem OkI.wins {ws : List (Int × Int)} (h : ∀ q ∈ ws, q.1.natAbs < 10 ^ 38 ∧ q.2.natAbs < 10 ^ 38) (hl : ws.length ≤ 60) : OkI (.tuple (ws.map dPair)) ∧ OkI (.list (ws.map dPair)) := by
  obtain ⟨h1, h2, h3, h4⟩ := wins_facts ws
  have hb : bdAll (ws.map dPair) = true := bdAll_of fun x hx => by
    obtain ⟨q, hq, rfl⟩ := List.mem_map.mp hx
    exact (OkS.pair (h q hq).1 (h q hq).2).bd
  exact ⟨⟨by simp only [bdD]; exact hb, by simp only [dlD]; exact h2, by simp only [PyData.depth]; omega, by simp only [szD]; omega⟩, ⟨by simp only [bdD]; exact hb, by simp only [dlD, h1]; rfl, by simp only [PyData.depth]; omega, by simp only [szD]; omega⟩⟩
theorem TgsS.pairs {K : PySem.W.Frag} {p c : Addr} {H : Hp} : ∀ {as : List Addr} {ws : List (Int × Int)}, PairsAt K H as ws → TgsS K p c H (as.map V.ref) (ws.map dPair)
  | [], [], _ => .nil
  | a :: r, q :: s, h => .cons (.tup (h.2 0 a q rfl rfl) (.cons (.int _) (.cons (.int _) .nil))) (TgsS.pairs ⟨by simpa using h.1, fun i a q x y => h.2 (i + 1) a q x y⟩)
  | [], _ :: _, h => by simp [PairsAt] at h
  | _ :: _, [], h => by simp [PairsAt] at h
theorem dPair_of {e : PyData} (h : winD (dOf e) = true) : ∃ q : Int × Int, e = dPair q := by
  cases e with
  | tuple xs =>
    simp only [dOf] at h
    match xs, h with
    | [], h => simp [dOfs, winD] at h
    | [_], h => simp [dOfs, winD] at h
    | [x, y], h =>
      simp only [dOfs] at h
      cases x <;> simp only [dOf, winD] at h <;> try cases h
      cases y <;> simp only [dOf, winD] at h <;> try cases h
      rename_i i j
      exact ⟨(i, j), rfl⟩
    | _ :: _ :: _ :: _, h => simp [dOfs, winD] at h
  | _ => simp [dOf, winD] at h
theorem dPairs_of : ∀ {es : List PyData}, (dOfs es).all winD = true → ∃ ws : List (Int × Int), es = ws.map dPair
  | [], _ => ⟨[], rfl⟩
  | e :: r, h => by
    simp only [dOfs, List.all_cons, Bool.and_eq_true] at h
    obtain ⟨q, rfl⟩ := dPair_of h.1
    obtain ⟨ws, rfl⟩ := dPairs_of h.2
    exact ⟨q :: ws, rfl⟩
theorem wins_of {d : PyData} (h : winsD (dOf d) = true) : ∃ ws : List (Int × Int), d = .tuple (ws.map dPair) ∧ ws.length ≤ 40 := by
  cases d with
  | tuple xs =>
    simp only [dOf] at h
    have h' : (decide (1 ≤ (dOfs xs).length) && decide ((dOfs xs).length ≤ 40) && (dOfs xs).all winD) = true := h
    simp only [Bool.and_eq_true, decide_eq_true_eq] at h'
    obtain ⟨ws, rfl⟩ := dPairs_of h'.2
    refine ⟨ws, rfl, ?_⟩
    have := h'.1.2
    rw [dOfs_len, List.length_map] at this
    exact this
  | _ => simp only [dOf] at h; cases h
theorem tg_pairs {K : PySem.W.Frag} {H : Hp} {v : V} {ws : List (Int × Int)} (h : Tg K H v (.tuple (ws.map dPair))) : ∃ a xs, v = .ref a ∧ SqT K H a xs ∧ Dp K H v (.tuple (ws.map dPair)) := by
  cases h with
  | @tup a xs _ hs r =>
    refine ⟨a, xs, rfl, hs, .tup hs ?_⟩
    clear hs
    induction ws generalizing xs with
    | nil =>
      cases r
      exact .nil
    | cons q s ih =>
      rw [List.map_cons] at r
      cases r with
      | cons r1 r2 =>
        refine .cons ?_ (ih r2)
        cases r1 with
        | tup h1 h2 =>
          cases h2 with
          | cons h3 h4 =>
            cases h4 with
            | cons h5 h6 =>
              cases h6
              cases h3
              cases h5
              exact .tup h1 (.cons (.int _) (.cons (.int _) .nil))
/-! ### throws -/
abbrev Tw := Str × List Nat
def twV (t : Tw) : List V := .str t.1 :: t.2.map vNat
def twR (t : Tw) : List PyData := .str t.1 :: t.2.map fun n : Nat => PyData.int (n : Int)
def twD (t : Tw) : PyData := .tuple (twR t)
def twM (a b : Nat) : Tw := (Str.ofString "middle", [a, b])
def twF (a b c : Nat) : Tw := (Str.ofString "front", [a, b, c])
def twB (a b c : Nat) : Tw := (Str.ofString "back", [a, b, c])
def midW (ws : List (Int × Int)) (j : Nat) : Int := fstAt ws j + lstAt ws j
/-- the window of b lies within that of a -/
def insW (ws : List (Int × Int)) (b a : Nat) : Bool := decide (fstAt ws a < fstAt ws b) && decide (lstAt ws b < lstAt ws a)
def midsT (ws : List (Int × Int)) (a : Nat) (l : List Nat) : List Tw := (l.filter fun b => decide (midW ws a > midW ws b)).map (twM a)
def frontT (ws : List (Int × Int)) (a : Nat) (behind : List Nat) (b : Nat) : List Tw := if insW ws b a = true then (behind.filter fun c => decide (fstAt ws c < midW ws b - fstAt ws a)).map (twF a b) else []
def backT (ws : List (Int × Int)) (a : Nat) (ahead : List Nat) (b : Nat) : List Tw := if insW ws b a = true then (ahead.filter fun c => decide (lstAt ws c > midW ws b - lstAt ws a)).map (twB a b) else []
def overT (ws : List (Int × Int)) (ahead : List Nat) (a : Nat) (behind : List Nat) : List Tw := ahead.flatMap (frontT ws a behind) ++ behind.flatMap (backT ws a ahead)
/-- the throws of the works behind, those ahead given -/
def rowT (ws : List (Int × Int)) : List Nat → List Nat → List Tw
  | _, [] => []
  | ahead, a :: r => (midsT ws a r ++ overT ws ahead a r) ++ rowT ws (ahead ++ [a]) r
/-- as the law goes: of the i-th work a, over the j-th work b -/
def lawC (ws : List (Int × Int)) (ahead : List Nat) (a : Nat) (behind : List Nat) (j b : Nat) : List Tw :=
  (if (decide (ahead.length < j) && decide (midW ws a > midW ws b)) = true then [twM a b] else []) ++
  (if (decide (ahead.length ≠ j) && insW ws b a) = true then
    (behind.filter fun c => decide (j < ahead.length) && decide (fstAt ws c < midW ws b - fstAt ws a)).map (twF a b) ++
    (ahead.filter fun c => decide (ahead.length < j) && decide (lstAt ws c > midW ws b - lstAt ws a)).map (twB a b) else [])
def lawIn (ws : List (Int × Int)) (ahead : List Nat) (a : Nat) (behind : List Nat) : Nat → List Nat → List Tw
  | _, [] => []
  | j, b :: r => lawC ws ahead a behind j b ++ lawIn ws ahead a behind (j + 1) r
def lawOut (ws : List (Int × Int)) (row : List Nat) : List Nat → List Nat → List Tw
  | _, [] => []
  | ahead, a :: r => lawIn ws ahead a r 0 row ++ lawOut ws row (ahead ++ [a]) r
theorem filter_no {α : Type} (l : List α) : l.filter (fun _ => false) = [] := List.filter_eq_nil_iff.mpr fun _ _ => Bool.false_ne_true
theorem lawIn_app (ws : List (Int × Int)) (ahead : List Nat) (a : Nat) (behind : List Nat) : ∀ (l m : List Nat) (j : Nat), lawIn ws ahead a behind j (l ++ m) = lawIn ws ahead a behind j l ++ lawIn ws ahead a behind (j + l.length) m
  | [], m, j => by simp [lawIn]
  | x :: l, m, j => by
    show lawC ws ahead a behind j x ++ lawIn ws ahead a behind (j + 1) (l ++ m) = (lawC ws ahead a behind j x ++ lawIn ws ahead a behind (j + 1) l) ++ _
    rw [lawIn_app ws ahead a behind l m (j + 1), List.append_assoc, List.length_cons]
    have : j + 1 + l.length = j + (l.length + 1) := by omega
    rw [this]
theorem lawIn_low (ws : List (Int × Int)) (ahead : List Nat) (a : Nat) (behind : List Nat) : ∀ (l : List Nat) (j : Nat), j + l.length ≤ ahead.length → lawIn ws ahead a behind j l = l.flatMap (frontT ws a behind)
  | [], _, _ => rfl
  | b :: l, j, h => by
    rw [List.length_cons] at h
    have c1 : decide (ahead.length < j) = false := decide_eq_false (by omega)
    have c2 : decide (ahead.length ≠ j) = true := decide_eq_true (by omega)
    have c3 : decide (j < ahead.length) = true := decide_eq_true (by omega)
    show lawC ws ahead a behind j b ++ lawIn ws ahead a behind (j + 1) l = _
    rw [lawIn_low ws ahead a behind l (j + 1) (by omega), List.flatMap_cons]
    unfold lawC frontT
    simp only [c1, c2, c3, Bool.false_and, Bool.true_and, Bool.false_eq_true, if_false, List.nil_append, filter_no, List.map_nil, List.append_nil]
theorem lawIn_high (ws : List (Int × Int)) (ahead : List Nat) (a : Nat) (behind : List Nat) : ∀ (l : List Nat) (j : Nat), ahead.length < j → (lawIn ws ahead a behind j l).Perm (midsT ws a l ++ l.flatMap (backT ws a ahead))
  | [], _, _ => List.Perm.refl _
  | b :: l, j, h => by
    have c1 : decide (ahead.length < j) = true := decide_eq_true h
    have c2 : decide (ahead.length ≠ j) = true := decide_eq_true (by omega)
    have c3 : decide (j < ahead.length) = false := decide_eq_false (by omega)
    have ih := lawIn_high ws ahead a behind l (j + 1) (by omega)
    have e1 : midsT ws a (b :: l) = (if decide (midW ws a > midW ws b) = true then [twM a b] else []) ++ midsT ws a l := by
      unfold midsT
      rw [List.filter_cons]
      split <;> rfl
    have e2 : lawC ws ahead a behind j b = (if decide (midW ws a > midW ws b) = true then [twM a b] else []) ++ backT ws a ahead b := by
      unfold lawC backT
      simp only [c1, c2, c3, Bool.false_and, Bool.true_and, filter_no, List.map_nil, List.nil_append]
    show (lawC ws ahead a behind j b ++ lawIn ws ahead a behind (j + 1) l).Perm _
    rw [e1, e2, List.flatMap_cons, List.append_assoc, List.append_assoc]
    refine List.Perm.append_left _ ?_
    refine (List.Perm.append_left _ ih).trans ?_
    rw [← List.append_assoc, ← List.append_assoc]
    exact List.Perm.append_right _ List.perm_append_comm
theorem lawIn_perm (ws : List (Int × Int)) (ahead : List Nat) (a : Nat) (behind : List Nat) : (lawIn ws ahead a behind 0 (ahead ++ a :: behind)).Perm (midsT ws a behind ++ overT ws ahead a behind) := by
  rw [lawIn_app, lawIn_low _ _ _ _ _ _ (by omega)]
  have e : lawIn ws ahead a behind (0 + ahead.length) (a :: behind) = lawIn ws ahead a behind (ahead.length + 1) behind := by
    show lawC ws ahead a behind (0 + ahead.length) a ++ lawIn ws ahead a behind (0 + ahead.length + 1) behind = _
    rw [Nat.zero_add]
    have c1 : decide (ahead.length < ahead.length) = false := decide_eq_false (by omega)
    have c2 : decide (ahead.length ≠ ahead.length) = false := decide_eq_false (by omega)
    unfold lawC
    simp only [c1, c2, Bool.false_and, Bool.false_eq_true, if_false, List.nil_append]
  rw [e]
  refine (List.Perm.append_left _ (lawIn_high ws ahead a behind behind _ (Nat.lt_succ_self _))).trans ?_
  unfold overT
  rw [← List.append_assoc, ← List.append_assoc]
  exact List.Perm.append_right _ List.perm_append_comm
theorem lawOut_perm (ws : List (Int × Int)) (row : List Nat) : ∀ (ahead r : List Nat), ahead ++ r = row → (lawOut ws row ahead r).Perm (rowT ws ahead r)
  | _, [], _ => List.Perm.refl _
  | ahead, a :: r, h => by
    refine List.Perm.append ?_ (lawOut_perm ws row (ahead ++ [a]) r (by rw [← h]; simp))
    rw [← h]
    exact lawIn_perm ws ahead a r
/-! sorted -/
def srtT (ts : List Tw) : List Tw := ts.mergeSort (PySem.W.dataLe false twD)
theorem twLe_trans (x y z : Tw) (h1 : PySem.W.dataLe false twD x y = true) (h2 : PySem.W.dataLe false twD y z = true) : PySem.W.dataLe false twD x z = true := by
  have e1 : PySem.W.dataLt (twD y) (twD x) = false := by simpa [PySem.W.dataLe_eq] using h1
  have e2 : PySem.W.dataLt (twD z) (twD y) = false := by simpa [PySem.W.dataLe_eq] using h2
  have e3 : PySem.W.dataLt (twD z) (twD x) = false := by
    cases e : PySem.W.dataLt (twD z) (twD x) with
    | false => rfl
    | true =>
      rcases PyProof.Rows.lex_negTrans (O := PyProof.Rows.itemOrd) _ (PySem.W.keyToks (twD y)) _ e with q | q
      · exact q.symm.trans e2
      · exact q.symm.trans e1
  simpa [PySem.W.dataLe_eq] using e3
theorem twLe_total (x y : Tw) : (PySem.W.dataLe false twD x y || PySem.W.dataLe false twD y x) = true := by
  cases h1 : PySem.W.dataLe false twD x y with
  | true => rfl
  | false =>
    have e1 : PySem.W.dataLt (twD y) (twD x) = true := by simpa [PySem.W.dataLe_eq] using h1
    have e2 : PySem.W.dataLt (twD x) (twD y) = false := by
      cases e : PySem.W.dataLt (twD x) (twD y) with
      | false => rfl
      | true => exact (PyProof.Rows.lex_trans (O := PyProof.Rows.itemOrd) _ _ _ e e1).symm.trans (PyProof.Rows.lex_irrefl (O := PyProof.Rows.itemOrd) _)
    have : PySem.W.dataLe false twD y x = true := by simpa [PySem.W.dataLe_eq] using e2
    rw [this] <;> rfl
theorem eqvR_ints : ∀ (l m : List Nat), PyData.eqvAll (l.map fun n : Nat => PyData.int (n : Int)) (m.map fun n : Nat => PyData.int (n : Int)) = decide (l = m)
  | [], [] => rfl
  | [], _ :: _ => by simp [PyData.eqvAll]
  | _ :: _, [] => by simp [PyData.eqvAll]
  | x :: l, y :: m => by
    rw [List.map_cons, List.map_cons, PyData.eqvAll, eqvR_ints l m]
    simp only [PyData.eqv]
    rw [Bool.eq_iff_iff]
    simp only [Bool.and_eq_true, beq_iff_eq, decide_eq_true_eq, List.cons.injEq]
    exact and_congr ⟨fun h => by omega, fun h => by rw [h]⟩ Iff.rfl
theorem eqv_tw (x y : Tw) : PyData.eqv (twD x) (twD y) = decide (x = y) := by
  unfold twD twR
  rw [PyData.eqv, PyData.eqvAll, eqvR_ints]
  simp only [PyData.eqv]
  rw [Bool.eq_iff_iff]
  simp [Prod.ext_iff]
theorem alike_tw (x y : Tw) : PySem.W.alike (twD x) (twD y) = true := by
  have q : ∀ l m : List Nat, PySem.W.alikeAll (l.map fun n : Nat => PyData.int (n : Int)) (m.map fun n : Nat => PyData.int (n : Int)) = true := fun l m => by
    have := PySem.W.alike_ints (l.map fun n : Nat => (n : Int)) (m.map fun n : Nat => (n : Int))
    simpa [List.map_map, Function.comp_def] using this
  unfold twD twR
  rw [PySem.W.alike, PySem.W.alikeAll, q]
  simp [PySem.W.alike]
theorem ints_toks : ∀ (l m : List Nat), PySem.W.keyToksAll (l.map fun n : Nat => PyData.int (n : Int)) = PySem.W.keyToksAll (m.map fun n : Nat => PyData.int (n : Int)) → l = m
  | [], [], _ => rfl
  | [], y :: m, h => by
    rw [List.map_nil, List.map_cons, PySem.W.keyToksAll, PySem.W.keyToksAll] at h
    simp at h
  | x :: l, [], h => by
    rw [List.map_nil, List.map_cons, PySem.W.keyToksAll, PySem.W.keyToksAll] at h
    simp at h
  | x :: l, y :: m, h => by
    rw [List.map_cons, List.map_cons, PySem.W.keyToksAll, PySem.W.keyToksAll, PySem.W.keyToks, PySem.W.keyToks] at h
    have h1 := (List.cons.inj h).2
    have h2 : (Sum.inl (x : Int) : Int ⊕ List Nat) = Sum.inl (y : Int) := (List.cons.inj h1).1
    have h3 := (List.cons.inj h1).2
    rw [ints_toks l m h3]
    have := Sum.inl.inj h2
    have e : x = y := by omega
    rw [e]
theorem tw_toks {x y : Tw} (h : PySem.W.keyToks (twD x) = PySem.W.keyToks (twD y)) : x = y := by
  unfold twD twR at h
  rw [PySem.W.keyToks, PySem.W.keyToks, PySem.W.keyToksAll, PySem.W.keyToksAll, PySem.W.keyToks, PySem.W.keyToks] at h
  have h1 := (List.cons.inj h).2
  have h2 := (List.cons.inj h1).1
  have h3 := (List.cons.inj h1).2
  exact Prod.ext (PySem.W.str_of_cps (Sum.inr.inj h2)) (ints_toks _ _ h3)
theorem twLe_anti (x y : Tw) (h1 : PySem.W.dataLe false twD x y = true) (h2 : PySem.W.dataLe false twD y x = true) : x = y := by
  have e1 : PySem.W.dataLt (twD y) (twD x) = false := by simpa [PySem.W.dataLe_eq] using h1
  have e2 : PySem.W.dataLt (twD x) (twD y) = false := by simpa [PySem.W.dataLe_eq] using h2
  exact tw_toks (PyProof.Rows.lex_total (O := PyProof.Rows.itemOrd) _ _ e2 e1)
theorem one_sorted {α : Type} {le : α → α → Bool} (anti : ∀ x y, le x y = true → le y x = true → x = y) : ∀ {l m : List α}, l.Pairwise (fun x y => le x y = true) → m.Pairwise (fun x y => le x y = true) → l.Perm m → l = m
  | [], m, _, _, h => (List.Perm.eq_nil h.symm).symm
  | x :: l, [], _, _, h => absurd h.length_eq (by simp)
  | x :: l, y :: m, hl, hm, h => by
    have e : x = y := by
      rcases List.mem_cons.mp (h.mem_iff.mp (List.mem_cons_self (a := x) (l := l))) with e | hx
      · exact e
      · rcases List.mem_cons.mp (h.mem_iff.mpr (List.mem_cons_self (a := y) (l := m))) with e | hy
        · exact e.symm
        · exact anti _ _ ((List.pairwise_cons.mp hl).1 y hy) ((List.pairwise_cons.mp hm).1 x hx)
    subst e
    rw [one_sorted anti (List.pairwise_cons.mp hl).2 (List.pairwise_cons.mp hm).2 h.cons_inv]
theorem srt_perm {ts us : List Tw} (h : ts.Perm us) : srtT ts = srtT us :=
  one_sorted twLe_anti (List.pairwise_mergeSort twLe_trans twLe_total ts) (List.pairwise_mergeSort twLe_trans twLe_total us) (((List.mergeSort_perm ts _).trans h).trans (List.mergeSort_perm us _).symm)
theorem srt_len (ts : List Tw) : (srtT ts).length = ts.length := List.length_mergeSort _
/-! the list of throws at f -/
def TwAt (H : Hp) (p : V × Tw) : Prop := ∃ a, p.1 = .ref a ∧ H a = some (.tup (twV p.2))
def TL (H : Hp) (f : Addr) (ts : List Tw) : Prop := ∃ bs : List (V × Tw), H f = some (.lst (bs.map (·.1))) ∧ (∀ p ∈ bs, TwAt H p) ∧ bs.map (·.2) = ts
theorem TwAt.ext {H H' : Hp} {p : V × Tw} (h : TwAt H p) (e : Ex H H') : TwAt H' p := by
  obtain ⟨a, h1, h2⟩ := h
  exact ⟨a, h1, e _ _ h2⟩
theorem TwAt.upd {H : Hp} {p : V × Tw} {f : Addr} {xs ys : List V} (h : TwAt H p) (hf : H f = some (.lst xs)) : TwAt (L2.upd H f (.lst ys)) p := by
  obtain ⟨a, h1, h2⟩ := h
  refine ⟨a, h1, ?_⟩
  rw [upd_ne fun z => by rw [z, hf] at h2; cases h2]
  exact h2
theorem TL.ext {H H' : Hp} {f : Addr} {ts : List Tw} (h : TL H f ts) (e : Ex H H') : TL H' f ts := by
  obtain ⟨bs, h1, h2, h3⟩ := h
  exact ⟨bs, e _ _ h1, fun p m => (h2 p m).ext e, h3⟩
theorem TL.new {H : Hp} {f : Addr} (h : H f = some (.lst [])) : TL H f [] := ⟨[], h, fun p m => by simp at m, rfl⟩
/-- another list was written -/
theorem TL.beside {H : Hp} {f g : Addr} {xs ys : List V} {ts : List Tw} (h : TL H f ts) (hg : H g = some (.lst xs)) (ne : f ≠ g) : TL (L2.upd H g (.lst ys)) f ts := by
  obtain ⟨bs, h1, h2, h3⟩ := h
  exact ⟨bs, by rw [upd_ne ne]; exact h1, fun p m => (h2 p m).upd hg, h3⟩
theorem TL.at {H : Hp} {f : Addr} {ts : List Tw} (h : TL H f ts) : ∃ xs, H f = some (.lst xs) ∧ xs.length = ts.length := by
  obtain ⟨bs, h1, h2, h3⟩ := h
  exact ⟨_, h1, by rw [List.length_map, ← h3, List.length_map]⟩
theorem TL.cat {H : Hp} {f z : Addr} {xs zs : List V} {ts us : List Tw} (h : TL H f ts) (g : TL H z us) (hx : H f = some (.lst xs)) (hz : H z = some (.lst zs)) : TL (L2.upd H f (.lst (xs ++ zs))) f (ts ++ us) := by
  obtain ⟨bs, h1, h2, h3⟩ := h
  obtain ⟨cs, g1, g2, g3⟩ := g
  have e1 : xs = bs.map (·.1) := by
    rw [hx] at h1
    injection h1 with h1
    injection h1
  have e2 : zs = cs.map (·.1) := by
    rw [hz] at g1
    injection g1 with g1
    injection g1
  refine ⟨bs ++ cs, by rw [upd_same, List.map_append, e1, e2], fun p m => ?_, by rw [List.map_append, h3, g3]⟩
  rcases List.mem_append.mp m with m | m
  · exact (h2 p m).upd hx
  · exact (g2 p m).upd hx
theorem TL.push {H : Hp} {f r : Addr} {xs : List V} {ts : List Tw} {t : Tw} (h : TL H f ts) (hx : H f = some (.lst xs)) (hr : H r = some (.tup (twV t))) : TL (L2.upd H f (.lst (xs ++ [.ref r]))) f (ts ++ [t]) := by
  obtain ⟨bs, h1, h2, h3⟩ := h
  have e1 : xs = bs.map (·.1) := by
    rw [hx] at h1
    injection h1 with h1
    injection h1
  refine ⟨bs ++ [(.ref r, t)], by rw [upd_same, List.map_append, e1] <;> rfl, fun p m => ?_, by rw [List.map_append, h3] <;> rfl⟩
  rcases List.mem_append.mp m with m | m
  · exact (h2 p m).upd hx
  · rw [List.mem_singleton.mp m]
    exact TwAt.upd ⟨r, rfl, hr⟩ hx
theorem dpAll_nats {K : PySem.W.Frag} {H : Hp} : ∀ l : List Nat, DpAll K H (l.map vNat) (l.map fun n : Nat => PyData.int (n : Int))
  | [] => .nil
  | x :: l => .cons (.int _) (dpAll_nats l)
theorem TwAt.dp {K : PySem.W.Frag} {H : Hp} {p : V × Tw} (h : TwAt H p) : Dp K H p.1 (twD p.2) := by
  obtain ⟨a, h1, h2⟩ := h
  rw [h1]
  exact .tup (SqT.of h2) (.cons (.str _) (dpAll_nats _))
theorem TL.dp {K : PySem.W.Frag} {H : Hp} {f : Addr} {ts : List Tw} (h : TL H f ts) : Dp K H (.ref f) (.list (ts.map twD)) := by
  obtain ⟨bs, h1, h2, rfl⟩ := h
  refine .lst (SqL.of h1) ?_
  clear h1
  induction bs with
  | nil => exact .nil
  | cons b r ih => exact .cons (h2 b (List.mem_cons_self ..)).dp (ih fun p m => h2 p (List.mem_cons_of_mem _ m))
theorem depth_tw (t : Tw) : (twD t).depth ≤ 60 := by
  have q : PyData.depthAll (t.2.map fun n : Nat => PyData.int (n : Int)) = 0 := by
    have := PySem.W.depth_ints (t.2.map fun n : Nat => (n : Int))
    simpa [List.map_map, Function.comp_def] using this
  unfold twD twR
  rw [PyData.depth, PyData.depthAll, q]
  simp [PyData.depth]
/-- sorted(found) -/
theorem TL.srt {K : PySem.W.Frag} {H : Hp} {f : Addr} {ts : List Tw} {Q : VK} (h : TL H f ts) (q : ∀ p H', H p = none → Ex H H' → TL H' p (srtT ts) → Q (.ref p) H') : rSortedD K [.ref f] H Q := by
  obtain ⟨bs, h1, h2, rfl⟩ := h
  refine ⟨f, V × Tw, bs, (·.1), fun p => twD p.2, rfl, SqL.of h1, fun p m => (h2 p m).dp, PySem.W.AllAlike.of fun b c => alike_tw _ _, PySem.W.Sortable.tuples fun b => ⟨_, _, rfl⟩, fun b _ => depth_tw _, fun p np => q p _ np (Ex.new np) ?_⟩
  refine ⟨bs.mergeSort (PySem.W.dataLe false fun p => twD p.2), upd_same, fun c m => ?_, ?_⟩
  · exact (h2 c ((List.mergeSort_perm bs _).mem_iff.mp m)).ext (Ex.new np)
  · exact List.map_mergeSort (fun a _ b _ => rfl)
/-! promises -/
abbrev sp_NoOrder_init (K : PySem.W.Frag) (A : Ad) : Sp := sp_pass
def RowOn (K : PySem.W.Frag) (A : Ad) (H : Hp) (x y : V) (G : List (Int × Int) → List Nat → Prop) : Prop :=
  ∃ (b w0 a : Addr) (ws : List (Int × Int)) (row : List Nat), x = .ref b ∧ y = .ref a ∧ BookAt A.C_Book H b w0 ∧ WinAt K H w0 ws ∧ SqT K H a (row.map vNat) ∧ (∀ j ∈ row, j < ws.length) ∧ row.length ≤ 200 ∧ G ws row
abbrev sp_check_order (K : PySem.W.Frag) (A : Ad) : Sp := fun vs H Q _ => Sp2 vs fun x y => OnBook K A H x y fun ws d => ordD ws.length d = true ∧ ∀ H', Ex H H' → Q .non H'
abbrev sp_thrown_over (K : PySem.W.Frag) (A : Ad) : Sp := fun vs H Q _ => Sp4 vs fun x y z u => ∃ (b w0 a1 a2 : Addr) (ws : List (Int × Int)) (ahead behind : List Nat) (i : Nat), x = .ref b ∧ y = .ref a1 ∧ z = .int (i : Int) ∧ u = .ref a2 ∧ BookAt A.C_Book H b w0 ∧ WinAt K H w0 ws ∧
  SqT K H a1 (ahead.map vNat) ∧ SqT K H a2 (behind.map vNat) ∧ (∀ j ∈ ahead, j < ws.length) ∧ (∀ j ∈ behind, j < ws.length) ∧ i < ws.length ∧ ahead.length ≤ 200 ∧ behind.length ≤ 200 ∧
  ∀ p H', H p = none → Ex H H' → TL H' p (overT ws ahead i behind) → Q (.ref p) H'
abbrev sp_row_throws (K : PySem.W.Frag) (A : Ad) : Sp := fun vs H Q _ => Sp2 vs fun x y => RowOn K A H x y fun ws row => ∀ p H', H p = none → Ex H H' → TL H' p (srtT (rowT ws [] row)) → Q (.ref p) H'
abbrev sp_throws (K : PySem.W.Frag) (A : Ad) : Sp := fun vs H Q _ => Sp2 vs fun x y => RowOn K A H x y fun ws row => row.Nodup ∧ row.length = ws.length ∧ ∀ p H', H p = none → Ex H H' → TL H' p (srtT (rowT ws [] row)) → Q (.ref p) H'
abbrev sp_is_one_order (K : PySem.W.Frag) (A : Ad) : Sp := fun vs H Q _ => Sp2 vs fun x y => RowOn K A H x y fun ws row => row.Nodup ∧ row.length = ws.length ∧ ∀ H', Ex H H' → Q (.bl (decide (rowT ws [] row = []))) H'
abbrev sp_l_within (K : PySem.W.Frag) (A : Ad) : Sp := fun vs H Q _ => Sp3 vs fun x y z => ∃ (w : Addr) (ws : List (Int × Int)) (i j : Nat), x = .ref w ∧ y = .int (i : Int) ∧ z = .int (j : Int) ∧ WinAt K H w ws ∧ i < ws.length ∧ j < ws.length ∧ Q (.bl (insW ws i j)) H
abbrev sp_l_middle (K : PySem.W.Frag) (A : Ad) : Sp := fun vs H Q _ => Sp2 vs fun x y => ∃ (w : Addr) (ws : List (Int × Int)) (i : Nat), x = .ref w ∧ y = .int (i : Int) ∧ WinAt K H w ws ∧ i < ws.length ∧ Q (.int (midW ws i)) H
abbrev sp_l_throws (K : PySem.W.Frag) (A : Ad) : Sp := fun vs H Q _ => Sp2 vs fun x y => ∃ (w a : Addr) (ws : List (Int × Int)) (row : List Nat), x = .ref w ∧ y = .ref a ∧ WinAt K H w ws ∧ SqT K H a (row.map vNat) ∧ (∀ j ∈ row, j < ws.length) ∧ row.length ≤ 200 ∧
  ∀ p H', H p = none → Ex H H' → TL H' p (srtT (rowT ws [] row)) → Q (.ref p) H'
/-- drawn orders -/
abbrev sp_l_by_middles (K : PySem.W.Frag) (A : Ad) : Sp := fun vs H Q _ => Sp3 vs fun x y z => ∃ (p c w l : Addr) (ws : List (Int × Int)) (works : List Nat), x = .ref p ∧ y = .ref w ∧ z = .ref l ∧ PoolAt H p c ∧ WinAt K H w ws ∧ H l = some (.lst (works.map vNat)) ∧ l ≠ p ∧ l ≠ c ∧ (∀ j ∈ works, j < ws.length) ∧ works.length ≤ 60 ∧
  ∀ (q : Addr) (row : List Nat) (H' : Hp), H q = none → row.Perm works → H' q = some (.tup (row.map vNat)) → PoolAt H' p c → Kept p c H H' → Q (.ref q) H'
abbrev sp_l_near_order (K : PySem.W.Frag) (A : Ad) : Sp := fun vs H Q _ => Sp2 vs fun x y => ∃ (p c w : Addr) (ws : List (Int × Int)), x = .ref p ∧ y = .ref w ∧ PoolAt H p c ∧ WinAt K H w ws ∧ 1 ≤ ws.length ∧ ws.length ≤ 60 ∧
  ∀ (q : Addr) (row : List Nat) (H' : Hp), H q = none → row.Perm (List.range ws.length) → H' q = some (.tup (row.map vNat)) → PoolAt H' p c → Kept p c H H' → Q (.ref q) H'
abbrev sp_l_nested (K : PySem.W.Frag) (A : Ad) : Sp := fun vs H Q _ => SpWin K vs H Q
abbrev sp_l_book_windows (K : PySem.W.Frag) (A : Ad) : Sp := fun vs H Q _ => Sp2 vs fun x y => ∃ (p c : Addr) (n : Int), x = .ref p ∧ y = .int n ∧ PoolAt H p c ∧ 0 ≤ n ∧ n ≤ 60 ∧
  ∀ (w : Addr) (ws : List (Int × Int)) (H' : Hp), H w = none → WinAt K H' w ws → (ws.length : Int) = n → (∀ q ∈ ws, inWin 1000000 q) → PoolAt H' p c → Kept p c H H' → Q (.ref w) H'
/-! reading the lists of throws -/
theorem filter_snoc {α : Type} {p : α → Bool} {l : List α} {i : Nat} {x : α} (h : l[i]? = some x) : (l.take (i + 1)).filter p = (l.take i).filter p ++ (if p x = true then [x] else []) := by
  have h1 := (List.getElem?_eq_some_iff.mp h).1
  have h2 := (List.getElem?_eq_some_iff.mp h).2
  rw [List.take_succ_eq_append_getElem h1, h2, List.filter_append, List.filter_cons]
  split <;> simp
theorem flat_snoc {α β : Type} {g : α → List β} {l : List α} {i : Nat} {x : α} (h : l[i]? = some x) : (l.take (i + 1)).flatMap g = (l.take i).flatMap g ++ g x := by
  have h1 := (List.getElem?_eq_some_iff.mp h).1
  have h2 := (List.getElem?_eq_some_iff.mp h).2
  rw [List.take_succ_eq_append_getElem h1, h2, List.flatMap_append, List.flatMap_cons, List.flatMap_nil, List.append_nil]
theorem flat_len {α β : Type} {g : α → List β} {m : Nat} (h : ∀ x, (g x).length ≤ m) : ∀ l : List α, (l.flatMap g).length ≤ l.length * m
  | [] => Nat.zero_le _
  | x :: l => by
    rw [List.flatMap_cons, List.length_append, List.length_cons, Nat.succ_mul]
    have := flat_len h l
    have := h x
    omega
theorem lc_tw {K : PySem.W.Frag} {a : Addr} {l : List Nat} {g : TG} {tt : TT} {te : TE} {vs : List Nat} {σ : L2.St} {H1 : Hp} {D : Addr} {Qd : Hp → Prop} (f : Nat → Tw) (p : Nat → Bool) (nD : H1 D = none) (ha : SqT K H1 a (l.map vNat)) (hl : l.length ≤ 1000)
    (hs : ∀ (c : Nat) (H : Hp) (Y : V → Hp → Prop) (N : Hp → Prop), c ∈ l → Ex H1 H → (p c = true → ∀ r H', Ex H H' → H' r = none → Y (.ref r) (L2.upd H' r (.tup (twV (f c))))) → (p c = false → ∀ H', Ex H H' → N H') →
      g (.int (c : Int)) (wipe σ vs) H fun σ2 H2 => wipe σ2 vs = wipe σ vs ∧ tt σ2 H2 fun b H3 => if b = true then te σ2 H3 Y else N H3)
    (hd : ∀ H, Ex H1 H → TL H D ((l.filter p).map f) → Qd H) :
    ∃ W : Nat → Nat → Hp → Prop, (∃ m, W 0 m (L2.upd H1 D (.lst []))) ∧ ∀ i m H, W i m H →
      ((Itt K a).stop i H ∧ Qd H) ∨ ((Itt K a).go i H ∧ ∃ Nx : Hp → Prop, (∀ H', Nx H' → ∃ m', m' < m ∧ W (i + 1) m' H') ∧ ∀ x H', (Itt K a).yld i H x H' → g x (wipe σ vs) H' fun σ2 H2 => wipe σ2 vs = wipe σ vs ∧ tt σ2 H2 fun b H3 =>
        if b = true then te σ2 H3 fun y H4 => ∃ acc, H4 D = some (.lst acc) ∧ acc.length < sizeLine ∧ Nx (L2.upd H4 D (.lst (acc ++ [y]))) else Nx H3) := by
  refine lc_tup (K := K) (a := a) (xs := l.map vNat) (fun i H' => TL H' D (((l.take i).filter p).map f) ∧ Ex H1 H') ⟨TL.new upd_same, Ex.new nD⟩ (fun i H' _ q => ex_t q.2 ha) ?_ ?_
  · rintro i y H' hi ⟨p1, p2⟩
    obtain ⟨c, hc, rfl⟩ := nats_get hi
    refine hs c H' _ _ (List.mem_of_getElem? hc) p2 (fun hp r H' e' nr => ?_) fun hp H' e' => ?_
    · have p1 := p1.ext e'
      have p2 := p2.trans e'
      obtain ⟨acc, q1, q2⟩ := p1.at
      have x2 : Ex H' (L2.upd H' r (.tup (twV (f c)))) := Ex.new nr
      have hlen : acc.length ≤ 1000 := by
        rw [q2, List.length_map]
        have := List.length_filter_le p (l.take i)
        rw [List.length_take] at this
        omega
      refine ⟨acc, x2 _ _ q1, small1000 hlen, ?_, (p2.trans x2).mut nD⟩
      have := (p1.ext x2).push (x2 _ _ q1) (t := f c) (r := r) upd_same
      rw [filter_snoc hc, if_pos hp, List.map_append]
      exact this
    · have p1 := p1.ext e'
      refine ⟨?_, p2.trans e'⟩
      rw [filter_snoc hc, if_neg (by rw [hp]; exact Bool.false_ne_true), List.append_nil]
      exact p1
  · rintro H' ⟨p1, p2⟩
    rw [List.length_map, List.take_length] at p1
    exact hd H' p2 p1
theorem midsT_len (ws : List (Int × Int)) (a : Nat) (l : List Nat) : (midsT ws a l).length ≤ l.length := by
  unfold midsT
  rw [List.length_map]
  exact List.length_filter_le _ _
theorem frontT_len (ws : List (Int × Int)) (a : Nat) (l : List Nat) (b : Nat) : (frontT ws a l b).length ≤ l.length := by
  unfold frontT
  split
  · rw [List.length_map]
    exact List.length_filter_le _ _
  · exact Nat.zero_le _
theorem backT_len (ws : List (Int × Int)) (a : Nat) (l : List Nat) (b : Nat) : (backT ws a l b).length ≤ l.length := by
  unfold backT
  split
  · rw [List.length_map]
    exact List.length_filter_le _ _
  · exact Nat.zero_le _
theorem overT_len (ws : List (Int × Int)) (l : List Nat) (a : Nat) (r : List Nat) : (overT ws l a r).length ≤ 2 * (l.length * r.length) := by
  unfold overT
  rw [List.length_append]
  have h1 := flat_len (frontT_len ws a r) l
  have h2 := flat_len (backT_len ws a l) r
  rw [Nat.mul_comm r.length] at h2
  omega
theorem rowT_len (ws : List (Int × Int)) {n : Nat} : ∀ (r l : List Nat), l.length + r.length ≤ n → (rowT ws l r).length ≤ r.length * (n + 2 * (n * n))
  | [], _, _ => Nat.zero_le _
  | a :: r, l, h => by
    rw [List.length_cons] at h
    show ((midsT ws a r ++ overT ws l a r) ++ rowT ws (l ++ [a]) r).length ≤ _
    rw [List.length_append, List.length_append, List.length_cons, Nat.succ_mul]
    have h1 := midsT_len ws a r
    have h2 := overT_len ws l a r
    have h3 := rowT_len ws (n := n) r (l ++ [a]) (by rw [List.length_append]; show l.length + 1 + r.length ≤ n; omega)
    have h4 : l.length * r.length ≤ n * n := Nat.mul_le_mul (by omega) (by omega)
    omega
theorem onWork {K : PySem.W.Frag} {A : Ad} {H : Hp} {b w0 : Addr} {ws : List (Int × Int)} {i : Nat} {E : XK} {G : List (Int × Int) → Nat → Prop} (hb : BookAt A.C_Book H b w0) (hW : WinAt K H w0 ws) (hi : i < ws.length) (g : G ws i) : OnWork K A H (.ref b) (.int (i : Int)) E G :=
  ⟨⟨b, w0, ws, .int (i : Int), rfl, hb, hW, .int _, fun z => absurd z (by simp [workD, hi]), fun j hj _ => by
    injection hj with hj
    have e : i = j := by omega
    rw [← e]
    exact g⟩⟩
theorem rowT_at {ws : List (Int × Int)} {row : List Nat} {i j : Nat} (h : row[i]? = some j) : rowT ws (row.take i) (row.drop i) = (midsT ws j (row.drop (i + 1)) ++ overT ws (row.take i) j (row.drop (i + 1))) ++ rowT ws (row.take (i + 1)) (row.drop (i + 1)) := by
  have h1 := (List.getElem?_eq_some_iff.mp h).1
  have h2 := (List.getElem?_eq_some_iff.mp h).2
  rw [drop_of h, List.take_succ_eq_append_getElem h1, h2] <;> rfl
theorem lawOut_at {ws : List (Int × Int)} {row : List Nat} {i j : Nat} (h : row[i]? = some j) : lawOut ws row (row.take i) (row.drop i) = lawIn ws (row.take i) j (row.drop (i + 1)) 0 row ++ lawOut ws row (row.take (i + 1)) (row.drop (i + 1)) := by
  have h1 := (List.getElem?_eq_some_iff.mp h).1
  have h2 := (List.getElem?_eq_some_iff.mp h).2
  rw [drop_of h, List.take_succ_eq_append_getElem h1, h2] <;> rfl
theorem lawIn_at {ws : List (Int × Int)} {ahead : List Nat} {a : Nat} {behind : List Nat} {row : List Nat} {j b : Nat} (h : row[j]? = some b) : lawIn ws ahead a behind j (row.drop j) = lawC ws ahead a behind j b ++ lawIn ws ahead a behind (j + 1) (row.drop (j + 1)) := by
  rw [drop_of h] <;> rfl
theorem prod_le {l r : Nat} (h : l + r ≤ 40) : l * r ≤ 400 := by
  have q : ∀ x : Fin 41, x.val * (40 - x.val) ≤ 400 := by decide
  have hl : l < 41 := by omega
  have hr : r ≤ 40 - l := by omega
  exact Nat.le_trans (Nat.mul_le_mul_left l hr) (q ⟨l, hl⟩)
theorem rowT_len40 (ws : List (Int × Int)) : ∀ (r l : List Nat), l.length + r.length ≤ 40 → (rowT ws l r).length ≤ r.length * 840
  | [], _, _ => Nat.zero_le _
  | a :: r, l, h => by
    rw [List.length_cons] at h
    show ((midsT ws a r ++ overT ws l a r) ++ rowT ws (l ++ [a]) r).length ≤ _
    rw [List.length_append, List.length_append, List.length_cons, Nat.succ_mul]
    have h1 := midsT_len ws a r
    have h2 := overT_len ws l a r
    have h3 := rowT_len40 ws r (l ++ [a]) (by rw [List.length_append]; show l.length + 1 + r.length ≤ 40; omega)
    have h4 := prod_le (l := l.length) (r := r.length) (by omega)
    omega
theorem lawOut_len (ws : List (Int × Int)) (row : List Nat) (h : row.length ≤ 200) : (lawOut ws row [] row).length ≤ 200 * 80200 := by
  rw [(lawOut_perm ws row [] row rfl).length_eq]
  have h1 : (rowT ws [] row).length ≤ row.length * 80200 := rowT_len ws (n := 200) row [] (by rw [List.length_nil, Nat.zero_add]; exact h)
  exact Nat.le_trans h1 (Nat.mul_le_mul_right _ h)
theorem srt_nil {ts : List Tw} : srtT ts = [] ↔ ts = [] := by
  constructor
  · intro h
    have := srt_len ts
    rw [h] at this
    exact List.eq_nil_of_length_eq_zero this.symm
  · rintro rfl
    exact List.eq_nil_of_length_eq_zero (srt_len [])
theorem eqv_tws : ∀ ts : List Tw, PyData.eqv (.list (ts.map twD)) (.list []) = decide (ts = [])
  | [] => by simp [PyData.eqv, PyData.eqvAll]
  | t :: r => by simp [PyData.eqv, PyData.eqvAll]
theorem canLay_ints : ∀ l : List Nat, PyData.canLayAll0 (l.map fun n : Nat => PyData.int (n : Int)) = true
  | [] => rfl
  | x :: l => by
    rw [List.map_cons, PyData.canLayAll0, canLay_ints l]
    simp [PyData.canLay0]
def Good (n : Nat) (t : Tw) : Prop := (t.1 = Str.ofString "middle" ∨ t.1 = Str.ofString "front" ∨ t.1 = Str.ofString "back") ∧ t.2.length ≤ 3 ∧ ∀ j ∈ t.2, j < n
theorem good_m {n a b : Nat} (ha : a < n) (hb : b < n) : Good n (twM a b) := ⟨.inl rfl, by show 2 ≤ 3; omega, fun j hj => by
  rcases List.mem_cons.mp hj with rfl | hj
  · exact ha
  · rw [List.mem_singleton.mp hj]
    exact hb⟩
theorem good_3 {n a b c : Nat} {s : Str} (hs : s = Str.ofString "front" ∨ s = Str.ofString "back") (ha : a < n) (hb : b < n) (hc : c < n) : Good n (s, [a, b, c]) := ⟨.inr hs, Nat.le_refl 3, fun j hj => by
  rcases List.mem_cons.mp hj with rfl | hj
  · exact ha
  · rcases List.mem_cons.mp hj with rfl | hj
    · exact hb
    · rw [List.mem_singleton.mp hj]
      exact hc⟩
theorem overT_good {ws : List (Int × Int)} {n a : Nat} {l r : List Nat} (hl : ∀ j ∈ l, j < n) (ha : a < n) (hr : ∀ j ∈ r, j < n) : ∀ t ∈ overT ws l a r, Good n t := by
  intro t ht
  rcases List.mem_append.mp ht with ht | ht
  · obtain ⟨b, hb, ht⟩ := List.mem_flatMap.mp ht
    unfold frontT at ht
    split at ht
    · obtain ⟨c, hc, rfl⟩ := List.mem_map.mp ht
      exact good_3 (.inl rfl) ha (hl b hb) (hr c (List.mem_filter.mp hc).1)
    · cases ht
  · obtain ⟨b, hb, ht⟩ := List.mem_flatMap.mp ht
    unfold backT at ht
    split at ht
    · obtain ⟨c, hc, rfl⟩ := List.mem_map.mp ht
      exact good_3 (.inr rfl) ha (hr b hb) (hl c (List.mem_filter.mp hc).1)
    · cases ht
theorem rowT_good {ws : List (Int × Int)} {n : Nat} : ∀ {r l : List Nat}, (∀ j ∈ l, j < n) → (∀ j ∈ r, j < n) → ∀ t ∈ rowT ws l r, Good n t
  | [], _, _, _, t, ht => by cases ht
  | a :: r, l, hl, hr, t, ht => by
    have ha := hr a (List.mem_cons_self ..)
    have hr' : ∀ j ∈ r, j < n := fun j hj => hr j (List.mem_cons_of_mem _ hj)
    rcases List.mem_append.mp ht with ht | ht
    · rcases List.mem_append.mp ht with ht | ht
      · obtain ⟨b, hb, rfl⟩ := List.mem_map.mp ht
        exact good_m ha (hr' b (List.mem_filter.mp hb).1)
      · exact overT_good hl ha hr' t ht
    · refine rowT_good (l := l ++ [a]) (fun j hj => ?_) hr' t ht
      rcases List.mem_append.mp hj with hj | hj
      · exact hl j hj
      · rw [List.mem_singleton.mp hj]
        exact ha
theorem ints_facts {n : Nat} (hn : n ≤ 1000) : ∀ l : List Nat, (∀ j ∈ l, j < n) → PyData.canLayAll0 (l.map fun n : Nat => PyData.int (n : Int)) = true ∧ bdAll (l.map fun n : Nat => PyData.int (n : Int)) = true ∧ szAll (l.map fun n : Nat => PyData.int (n : Int)) = l.length ∧ PyData.hasDictAll (l.map fun n : Nat => PyData.int (n : Int)) = false
  | [], _ => by simp [PyData.canLayAll0, bdAll, szAll, PyData.hasDictAll]
  | x :: l, h => by
    obtain ⟨h1, h2, h3, h4⟩ := ints_facts hn l fun j hj => h j (List.mem_cons_of_mem _ hj)
    have hx := h x (List.mem_cons_self ..)
    have hb : decide ((x : Int).natAbs < 10 ^ 38) = true := decide_eq_true (by rw [Int.natAbs_natCast]; omega)
    rw [List.map_cons, PyData.canLayAll0, bdAll, szAll, PyData.hasDictAll, h1, h2, h3, h4, List.length_cons]
    simp only [PyData.canLay0, bdD, szD, PyData.hasDict, hb, Bool.and_self, Bool.or_self, true_and, and_true]
    omega
theorem word_facts {s : Str} (h : s = Str.ofString "middle" ∨ s = Str.ofString "front" ∨ s = Str.ofString "back") : PyData.strOk s = true ∧ (reprText s).length ≤ 40 := by
  rcases h with rfl | rfl | rfl
  · exact ⟨by decide +kernel, by decide +kernel⟩
  · exact ⟨by decide +kernel, by decide +kernel⟩
  · exact ⟨by decide +kernel, by decide +kernel⟩
theorem tw_facts {n : Nat} (hn : n ≤ 1000) {t : Tw} (h : Good n t) : PyData.canLay0 (twD t) = true ∧ bdD (twD t) = true ∧ szD (twD t) ≤ 5 ∧ (twD t).hasDict = false := by
  obtain ⟨h1, h2, h3⟩ := h
  obtain ⟨w1, w2⟩ := word_facts h1
  obtain ⟨i1, i2, i3, i4⟩ := ints_facts hn t.2 h3
  unfold twD twR
  rw [PyData.canLay0, bdD, szD, PyData.hasDict, PyData.canLayAll0, bdAll, szAll, PyData.hasDictAll, i1, i2, i3, i4]
  simp only [PyData.canLay0, bdD, szD, PyData.hasDict, w1, decide_eq_true w2, Bool.and_self, Bool.or_self, true_and, and_true]
  omega
theorem tws_facts {n : Nat} (hn : n ≤ 1000) : ∀ ts : List Tw, (∀ t ∈ ts, Good n t) → PyData.canLayAll0 (ts.map twD) = true ∧ bdAll (ts.map twD) = true ∧ szAll (ts.map twD) ≤ 5 * ts.length ∧ PyData.hasDictAll (ts.map twD) = false ∧ PyData.depthAll (ts.map twD) ≤ 2
  | [], _ => by simp [PyData.canLayAll0, bdAll, szAll, PyData.hasDictAll, PyData.depthAll]
  | t :: ts, h => by
    obtain ⟨h1, h2, h3, h4, h5⟩ := tws_facts hn ts fun j hj => h j (List.mem_cons_of_mem _ hj)
    obtain ⟨g1, g2, g3, g4⟩ := tw_facts hn (h t (List.mem_cons_self ..))
    have g5 : (twD t).depth ≤ 2 := by
      have q : PyData.depthAll (t.2.map fun n : Nat => PyData.int (n : Int)) = 0 := by
        have := PySem.W.depth_ints (t.2.map fun n : Nat => (n : Int))
        simpa [List.map_map, Function.comp_def] using this
      unfold twD twR
      rw [PyData.depth, PyData.depthAll, q]
      simp [PyData.depth]
    rw [List.map_cons, PyData.canLayAll0, bdAll, szAll, PyData.hasDictAll, PyData.depthAll, h1, h2, h4, g1, g2, g4, List.length_cons]
    refine ⟨rfl, rfl, by omega, rfl, Nat.max_le.mpr ⟨g5, h5⟩⟩
theorem tws_shown {n : Nat} (hn : n ≤ 1000) {ts : List Tw} (h : ∀ t ∈ ts, Good n t) (hl : ts.length ≤ 60000) : dlD (.list (ts.map twD)) = true ∧ (PyData.list (ts.map twD)).showable = true ∧ (PyData.list (ts.map twD)).depth ≤ 60 ∧ (PyData.list (ts.map twD)).shown.length ≤ sizeLine ∧ SeqAt.shaped (.list (ts.map twD)) = true := by
  obtain ⟨h1, h2, h3, h4, h5⟩ := tws_facts hn ts h
  have hb : bdD (.list (ts.map twD)) = true := by rw [bdD]; exact h2
  have hs := shown_le _ hb
  have e : szD (.list (ts.map twD)) = szAll (ts.map twD) + 1 := by rw [szD]
  have hd : (PyData.list (ts.map twD)).depth ≤ 3 := by
    rw [PyData.depth]
    omega
  refine ⟨by rw [dlD, h4] <;> rfl, bd_showable _ hb, by omega, by rw [sizeLine_eq]; omega, ?_⟩
  unfold SeqAt.shaped
  rw [PyData.canLay0, h1, Bool.true_and]
  exact decide_eq_true (by omega)
theorem srt_mem {ts : List Tw} {t : Tw} : t ∈ srtT ts ↔ t ∈ ts := (List.mergeSort_perm ts _).mem_iff
theorem tgAll_nats {K : PySem.W.Frag} {H : Hp} : ∀ l : List Nat, TgAll K H (l.map vNat) (l.map fun n : Nat => PyData.int (n : Int))
  | [] => .nil
  | x :: l => .cons (.int _) (tgAll_nats l)
theorem TL.tg {K : PySem.W.Frag} {H : Hp} {f : Addr} {ts : List Tw} (h : TL H f ts) : Tg K H (.ref f) (.list (ts.map twD)) := by
  obtain ⟨bs, h1, h2, rfl⟩ := h
  refine .lst (SqL.of h1) ?_
  clear h1
  induction bs with
  | nil => exact .nil
  | cons b r ih =>
    obtain ⟨a, e, ht⟩ := h2 b (List.mem_cons_self ..)
    refine .cons ?_ (ih fun p m => h2 p (List.mem_cons_of_mem _ m))
    show Tg K H b.1 (twD b.2)
    rw [e]
    exact .tup (SqT.of ht) (.cons (.str _) (tgAll_nats _))
theorem eqv_same {d : PyData} (h : SeqAt.shaped d = true) : PyData.eqv d d = true := SeqAt.eqv_refl _ (by
  unfold SeqAt.shaped at h
  rw [Bool.and_eq_true] at h
  exact h.1)
theorem perm_classes (f : Nat → Int) : ∀ (ns : List Int) (l : List Nat), ns.Nodup → (∀ j ∈ l, f j ∈ ns) → (ns.flatMap fun m => l.filter fun j => decide (f j = m)).Perm l
  | [], l, _, h => by
    have : l = [] := List.eq_nil_iff_forall_not_mem.mpr fun j hj => by
      have := h j hj
      simp at this
    rw [this]
    exact List.Perm.refl _
  | m :: ns, l, hn, h => by
    have hn' := List.nodup_cons.mp hn
    rw [List.flatMap_cons]
    refine List.Perm.trans ?_ (List.filter_append_perm (fun j => decide (f j = m)) l)
    refine List.Perm.append_left _ ?_
    have ih := perm_classes f ns (l.filter fun j => !decide (f j = m)) hn'.2 fun j hj => by
      have h1 := List.mem_filter.mp hj
      rcases List.mem_cons.mp (h j h1.1) with e | e
      · rw [decide_eq_true e] at h1
        exact absurd h1.2 (by decide)
      · exact e
    refine List.Perm.trans ?_ ih
    have e : ∀ k ∈ ns, (l.filter fun j => decide (f j = k)) = ((l.filter fun j => !decide (f j = m)).filter fun j => decide (f j = k)) := fun k hk => by
      rw [List.filter_filter]
      refine List.filter_congr fun j _ => ?_
      by_cases c : f j = k
      · have : f j ≠ m := fun z => hn'.1 (by rw [← z, c]; exact hk)
        rw [decide_eq_true c, decide_eq_false this] <;> rfl
      · rw [decide_eq_false c, Bool.false_and]
    have e2 : (ns.flatMap fun m => l.filter fun j => decide (f j = m)) = (ns.flatMap fun k => (l.filter fun j => !decide (f j = m)).filter fun j => decide (f j = k)) := by
      rw [List.flatMap_def, List.flatMap_def, List.map_congr_left e]
    rw [e2]
theorem tws_facts_shaped {n : Nat} (hn : n ≤ 1000) {ts : List Tw} (h : ∀ t ∈ ts, Good n t) : SeqAt.shaped (.list (ts.map twD)) = true := by
  obtain ⟨h1, h2, h3, h4, h5⟩ := tws_facts hn ts h
  have hd : (PyData.list (ts.map twD)).depth ≤ 3 := by
    rw [PyData.depth]
    omega
  unfold SeqAt.shaped
  rw [PyData.canLay0, h1, Bool.true_and]
  exact decide_eq_true (by omega)
/-! ### == of a book and whatever -/
abbrev sp_Book_eqO (K : PySem.W.Frag) (A : Ad) : Sp := fun vs H Q _ => Sp2 vs fun x y => ∃ (a wa : Addr) (us : List (Int × Int)), x = .ref a ∧ BookAt A.C_Book H a wa ∧ WinAt K H wa us ∧
  ((∃ (b wb : Addr) (ws : List (Int × Int)), y = .ref b ∧ BookAt A.C_Book H b wb ∧ WinAt K H wb ws ∧ Q (.bl (decide (us = ws))) H) ∨ ∃ T i, Oth K H y T i ∧ Q (.bl false) H)
theorem PairsAt.list {K : PySem.W.Frag} {H : Hp} {as : List Addr} {ps : List (Int × Int)} (h : PairsAt K H as ps) : ∃ bs : List (Addr × (Int × Int)), as = bs.map (·.1) ∧ ps = bs.map (·.2) ∧ ∀ z ∈ bs, SqT K H z.1 [.int z.2.1, .int z.2.2] := by
  obtain ⟨h1, h2⟩ := h
  refine ⟨as.zip ps, (List.map_fst_zip (Nat.le_of_eq h1)).symm, (List.map_snd_zip (Nat.le_of_eq h1.symm)).symm, fun z hz => ?_⟩
  obtain ⟨i, hi, e⟩ := List.mem_iff_getElem.mp hz
  rw [List.getElem_zip] at e
  rw [List.length_zip] at hi
  rw [← e]
  exact h2 i _ _ (List.getElem?_eq_getElem (by omega)) (List.getElem?_eq_getElem (by omega))
theorem PairsAt.of_list {K : PySem.W.Frag} {H : Hp} {ps : List (Int × Int)} {bs : List (Addr × (Int × Int))} (e : ps = bs.map (·.2)) (h : ∀ z ∈ bs, SqT K H z.1 [.int z.2.1, .int z.2.2]) : PairsAt K H (bs.map (·.1)) ps := by
  subst e
  refine ⟨by rw [List.length_map, List.length_map], fun i a q x y => ?_⟩
  rw [List.getElem?_map] at x y
  cases hb : bs[i]? with
  | none => rw [hb] at x; cases x
  | some z =>
    rw [hb] at x y
    cases Option.some.inj x
    cases Option.some.inj y
    exact h z (List.mem_of_getElem? hb)
/-- a tuple of windows that a book may have -/
def TupW (K : PySem.W.Frag) (H : Hp) (x : V) (us : List (Int × Int)) : Prop := ∃ w, x = .ref w ∧ WinAt K H w us ∧ 1 ≤ us.length ∧ us.length ≤ 40 ∧ ∀ q ∈ us, inWin 1000000 q
theorem TupW.mono {K : PySem.W.Frag} {H H' : Hp} {x : V} {us : List (Int × Int)} (h : TupW K H x us) (e : Ex H H') : TupW K H' x us := by
  obtain ⟨w, h1, h2, h3⟩ := h
  exact ⟨w, h1, h2.mono e, h3⟩
theorem TupW.of {K : PySem.W.Frag} {H : Hp} {w : Addr} {bs : List (Addr × (Int × Int))} (h : SqT K H w (bs.map fun z => V.ref z.1)) (hz : ∀ z ∈ bs, SqT K H z.1 [.int z.2.1, .int z.2.2]) (h1 : 1 ≤ bs.length) (h2 : bs.length ≤ 40) (h3 : ∀ z ∈ bs, inWin 1000000 z.2) : TupW K H (.ref w) (bs.map (·.2)) := by
  refine ⟨w, rfl, ?_, by rw [List.length_map]; exact h1, by rw [List.length_map]; exact h2, fun q hq => ?_⟩
  · exact WinAt.of (by rw [List.map_map]; exact h) (PairsAt.of_list rfl hz) (by rw [List.length_map]; omega)
  · obtain ⟨z, m, rfl⟩ := List.mem_map.mp hq
    exact h3 z m
/-! ### regret: the values of stretches (k72) -/
/-- v is the edge of a stretch of the row with two unlike works of it: f the first hours, l the last ones -/
def RV (f l : Nat → Int) (row : List Nat) (v : Int) : Prop := ∃ (i j : Nat) (x y a b : Nat), i < j ∧ row[i]? = some x ∧ row[j]? = some y ∧ (∃ k, i ≤ k ∧ k ≤ j ∧ row[k]? = some a) ∧ (∃ k, i ≤ k ∧ k ≤ j ∧ row[k]? = some b) ∧ a ≠ b ∧ v = f x - l y - f a + l b
def IsReg (f l : Nat → Int) (row : List Nat) (r : Int) : Prop := 0 ≤ r ∧ (r = 0 ∨ RV f l row r) ∧ ∀ v, RV f l row v → v ≤ r
theorem IsReg.uniq {f l : Nat → Int} {row : List Nat} {r q : Int} (h : IsReg f l row r) (g : IsReg f l row q) : r = q := by
  obtain ⟨h1, h2, h3⟩ := h
  obtain ⟨g1, g2, g3⟩ := g
  have a : r ≤ q := by
    rcases h2 with e | e
    · omega
    · exact g3 r e
  have b : q ≤ r := by
    rcases g2 with e | e
    · omega
    · exact h3 q e
  omega
theorem rv_congr {f l f' l' : Nat → Int} {row : List Nat} {v : Int} (hf : ∀ j ∈ row, f j = f' j) (hl : ∀ j ∈ row, l j = l' j) (h : RV f l row v) : RV f' l' row v := by
  obtain ⟨i, j, x, y, a, b, h1, h2, h3, ⟨k, k1, k2, k3⟩, ⟨m, m1, m2, m3⟩, h6, h7⟩ := h
  refine ⟨i, j, x, y, a, b, h1, h2, h3, ⟨k, k1, k2, k3⟩, ⟨m, m1, m2, m3⟩, h6, ?_⟩
  rw [h7, hf x (List.mem_of_getElem? h2), hl y (List.mem_of_getElem? h3), hf a (List.mem_of_getElem? k3), hl b (List.mem_of_getElem? m3)]
theorem rv_shift {f l : Nat → Int} {row : List Nat} {v z : Int} (h : RV f l row v) : RV (fun j => f j + z) (fun j => l j + z) row v := by
  obtain ⟨i, j, x, y, a, b, h1, h2, h3, h4, h5, h6, h7⟩ := h
  exact ⟨i, j, x, y, a, b, h1, h2, h3, h4, h5, h6, by rw [h7]; show f x - l y - f a + l b = (f x + z) - (l y + z) - (f a + z) + (l b + z); omega⟩
theorem get_rev {row : List Nat} {k a : Nat} (h : row[k]? = some a) : row.reverse[row.length - 1 - k]? = some a := by
  have hk := (List.getElem?_eq_some_iff.mp h).1
  rw [List.getElem?_reverse (by omega)]
  rw [show row.length - 1 - (row.length - 1 - k) = k by omega]
  exact h
theorem rv_turn {f l : Nat → Int} {row : List Nat} {v u : Int} (h : RV f l row v) : RV (fun j => u - l j) (fun j => u - f j) row.reverse v := by
  obtain ⟨i, j, x, y, a, b, h1, h2, h3, ⟨k, k1, k2, k3⟩, ⟨m, m1, m2, m3⟩, h6, h7⟩ := h
  have hj := (List.getElem?_eq_some_iff.mp h3).1
  refine ⟨row.length - 1 - j, row.length - 1 - i, y, x, b, a, by omega, get_rev h3, get_rev h2, ⟨_, by omega, by omega, get_rev m3⟩, ⟨_, by omega, by omega, get_rev k3⟩, fun e => h6 e.symm, by rw [h7]; show f x - l y - f a + l b = (u - l y) - (u - f x) - (u - l b) + (u - f a); omega⟩
theorem IsReg.congr {f l f' l' : Nat → Int} {row : List Nat} {r : Int} (hf : ∀ j ∈ row, f j = f' j) (hl : ∀ j ∈ row, l j = l' j) (h : IsReg f l row r) : IsReg f' l' row r := by
  obtain ⟨h1, h2, h3⟩ := h
  exact ⟨h1, h2.imp id (rv_congr hf hl), fun v e => h3 v (rv_congr (fun j m => (hf j m).symm) (fun j m => (hl j m).symm) e)⟩
theorem IsReg.shift {f l : Nat → Int} {row : List Nat} {r z : Int} (h : IsReg f l row r) : IsReg (fun j => f j + z) (fun j => l j + z) row r := by
  obtain ⟨h1, h2, h3⟩ := h
  refine ⟨h1, h2.imp id rv_shift, fun v e => h3 v ?_⟩
  have := rv_shift (z := -z) e
  refine rv_congr (fun j _ => ?_) (fun j _ => ?_) this
  · show f j + z + -z = f j
    omega
  · show l j + z + -z = l j
    omega
theorem IsReg.turn {f l : Nat → Int} {row : List Nat} {r u : Int} (h : IsReg f l row r) : IsReg (fun j => u - l j) (fun j => u - f j) row.reverse r := by
  obtain ⟨h1, h2, h3⟩ := h
  refine ⟨h1, h2.imp id rv_turn, fun v e => h3 v ?_⟩
  have := rv_turn (u := u) e
  rw [List.reverse_reverse] at this
  refine rv_congr (fun j _ => ?_) (fun j _ => ?_) this
  · show u - (u - f j) = f j
    omega
  · show u - (u - l j) = l j
    omega
/-- a part of the row, its works named anew: its values are some of the row's -/
theorem rv_part {f l : Nat → Int} {row : List Nat} {p : Nat → Bool} {n : Nat → Nat} {v : Int} (inj : ∀ a ∈ row, ∀ b ∈ row, p a = true → p b = true → n a = n b → a = b) {f' l' : Nat → Int} (hf : ∀ a ∈ row, p a = true → f' (n a) = f a) (hl : ∀ a ∈ row, p a = true → l' (n a) = l a)
    (h : RV f' l' ((row.filter p).map n) v) : RV f l row v := by
  obtain ⟨i, j, x, y, a, b, h1, h2, h3, ⟨k, k1, k2, k3⟩, ⟨m, m1, m2, m3⟩, h6, h7⟩ := h
  have hs : (row.filter p).Sublist row := List.filter_sublist
  obtain ⟨is, e, mono⟩ := List.sublist_eq_map_getElem hs
  have pos : ∀ {t z : Nat}, ((row.filter p).map n)[t]? = some z → ∃ (w q : Nat) (ht : t < is.length), row[q]? = some w ∧ q = (is[t]).val ∧ n w = z ∧ p w = true ∧ w ∈ row := fun {t z} ht => by
    rw [List.getElem?_map] at ht
    cases hw : (row.filter p)[t]? with
    | none => rw [hw] at ht; cases ht
    | some w =>
      rw [hw] at ht
      have hm := List.mem_filter.mp (List.mem_of_getElem? hw)
      have hz : n w = z := Option.some.inj ht
      rw [e, List.getElem?_map] at hw
      have tl : t < is.length := by
        have := (List.getElem?_eq_some_iff.mp (show ((row.filter p).map n)[t]? = some z by rw [List.getElem?_map, e, List.getElem?_map, hw]; exact ht)).1
        rw [List.length_map, e, List.length_map] at this
        exact this
      rw [List.getElem?_eq_getElem tl] at hw
      have hw2 : row[(is[t]).val]'(is[t]).isLt = w := Option.some.inj hw
      exact ⟨w, (is[t]).val, tl, by rw [List.getElem?_eq_getElem (is[t]).isLt, ← hw2] <;> rfl, rfl, hz, hm.2, hm.1⟩
  have up : ∀ {s t : Nat} (hs : s < is.length) (ht : t < is.length), s < t → (is[s]).val < (is[t]).val := fun {s t} hs ht hst => (List.pairwise_iff_getElem.mp mono) s t hs ht hst
  obtain ⟨x0, qi, ti, x1, x2, x3, x4, x5⟩ := pos h2
  obtain ⟨y0, qj, tj, y1, y2, y3, y4, y5⟩ := pos h3
  obtain ⟨a0, qk, tk, a1, a2, a3, a4, a5⟩ := pos k3
  obtain ⟨b0, qm, tm, b1, b2, b3, b4, b5⟩ := pos m3
  have le : ∀ {s t : Nat} (hs : s < is.length) (ht : t < is.length), s ≤ t → (is[s]).val ≤ (is[t]).val := fun {s t} hs ht hst => by
    by_cases c : s = t
    · subst c
      exact Nat.le_refl _
    · exact Nat.le_of_lt (up hs ht (by omega))
  refine ⟨qi, qj, x0, y0, a0, b0, by rw [x2, y2]; exact up ti tj h1, x1, y1, ⟨qk, by rw [x2, a2]; exact le ti tk k1, by rw [a2, y2]; exact le tk tj k2, a1⟩, ⟨qm, by rw [x2, b2]; exact le ti tm m1, by rw [b2, y2]; exact le tm tj m2, b1⟩, fun z => h6 (by rw [← a3, ← b3, z]), ?_⟩
  rw [h7, ← x3, ← y3, ← a3, ← b3, hf x0 x5 x4, hl y0 y5 y4, hf a0 a5 a4, hl b0 b5 b4]
/-! ### errors as values (k00) -/
def sp_keep (K : PySem.W.Frag) (f : Str) : Sp := fun vs H Q _ => ∃ (a C : Addr) (v : V), vs = [.ref a, v] ∧ OexC K C ∧ PySem.W.findIn K (.ref C) f = some none ∧ H a = some (exo a C none) ∧ ∀ dx, H dx = none → dx ≠ a → Q .non (L2.upd (L2.upd H dx (exd dx [(f, v)])) a (exo a C (some dx)))
abbrev sp_NoPrices_init (K : PySem.W.Frag) (A : Ad) : Sp := sp_pass
abbrev sp_Over_init (K : PySem.W.Frag) (A : Ad) : Sp := sp_pass
abbrev sp_NoLength_init (K : PySem.W.Frag) (A : Ad) : Sp := sp_pass
abbrev sp_NothingDone_init (K : PySem.W.Frag) (A : Ad) : Sp := sp_pass
abbrev sp_NoLine_init (K : PySem.W.Frag) (A : Ad) : Sp := sp_pass
abbrev sp_NoBounds_init (K : PySem.W.Frag) (A : Ad) : Sp := sp_pass
abbrev sp_TooMany_init (K : PySem.W.Frag) (A : Ad) : Sp := sp_keep K "most"
abbrev sp_NoRule_init (K : PySem.W.Frag) (A : Ad) : Sp := sp_keep K "group"
abbrev sp_TooLate_init (K : PySem.W.Frag) (A : Ad) : Sp := sp_keep K "most"
abbrev sp_BadText_init (K : PySem.W.Frag) (A : Ad) : Sp := sp_keep K "line"
abbrev sp_NoName_init (K : PySem.W.Frag) (A : Ad) : Sp := sp_keep K "name"
structure Er (K : PySem.W.Frag) (CM C : Addr) : Prop where
  lk : ∃ nm q N bs sn sub ab col dd m0 m1 m2 m3 m5, K.lookup C = some (excClassObj nm q C N bs [.ref CM, .type "ValueError", .type "Exception", .type "BaseException", .type "object"] true sn sub ab col dd m0 m1 m2 m3 m5 "ValueError.__new__")
  hd : PySem.W.hasDictIn K C = true
  ty : PySem.W.typeIn K (.ref C) = some (.type "type")
theorem Er.mro {K : PySem.W.Frag} {CM C : Addr} (h : Er K CM C) (base : Value) : PySem.W.subIn K (.ref C) base = some ([Value.ref C, .ref CM, .type "ValueError", .type "Exception", .type "BaseException", .type "object"].contains base) := by
  obtain ⟨nm, q, N, bs, sn, sub, ab, col, dd, m0, m1, m2, m3, m5, hC⟩ := h.lk
  show PySem.W.mroIn K C base = _
  have hcl : PySem.W.clsIn K C = some { name := nm, bases := bs, mro := [.ref C, .ref CM, .type "ValueError", .type "Exception", .type "BaseException", .type "object"], ns := N, qualname := q, hasDict := true, slotNames := sn, subclasses := sub, abstract := ab, collection := col, hasDel := false } := by unfold PySem.W.clsIn; rw [hC] <;> rfl
  unfold PySem.W.mroIn
  rw [hcl]
  rfl
theorem Er.kit {K : PySem.W.Frag} {CM C D : Addr} (h : Er K CM C) (g : Er K CM D) (ne : D ≠ CM) : PySem.W.kitOne K (.ref C) (.ref D) = some (decide (C = D)) := by
  refine kit_own g.hd g.ty ?_ ?_
  · rw [h.mro]
    by_cases e : C = D
    · subst e
      simp
    · have e2 : D ≠ C := fun z => e z.symm
      simp [e, e2, ne]
  · rw [h.mro]
    simp
theorem Er.mid {K : PySem.W.Frag} {CM C : Addr} (h : Er K CM C) (hd : PySem.W.hasDictIn K CM = true) (ty : PySem.W.typeIn K (.ref CM) = some (.type "type")) : PySem.W.kitOne K (.ref C) (.ref CM) = some true := by
  refine kit_own hd ty ?_ ?_
  · rw [h.mro]
    simp
  · rw [h.mro]
    simp
theorem Er.val {K : PySem.W.Frag} {CM C : Addr} (h : Er K CM C) : PySem.W.kitOne K (.ref C) (.type "ValueError") = some true := by
  have e : PySem.W.kitMeta "ValueError" = true := by decide +kernel
  unfold PySem.W.kitOne
  rw [if_neg (by simp)]
  show (if PySem.W.kitMeta "ValueError" = true then PySem.W.subIn K (.ref C) (.type "ValueError") else none) = some true
  rw [if_pos e, h.mro]
  simp
/-- the 18 -/
def errs (A : Ad) : List Addr := [A.C_BadBook, A.C_NoWork, A.C_NoLot, A.C_NoGroup, A.C_NoNumber, A.C_NoRow, A.C_NoOrder, A.C_NoPrices, A.C_Over, A.C_NoLength, A.C_NothingDone, A.C_NoLine, A.C_NoBounds, A.C_TooMany, A.C_NoRule, A.C_TooLate, A.C_BadText, A.C_NoName]
structure Errs (K : PySem.W.Frag) (A : Ad) : Prop where
  er : ∀ C ∈ errs A, Er K A.C_MiddleError C
  nd : (A.C_MiddleError :: errs A).Nodup
  xc : ∀ C ∈ errs A, ExcC K C
  hd : PySem.W.hasDictIn K A.C_MiddleError = true
  ty : PySem.W.typeIn K (.ref A.C_MiddleError) = some (.type "type")
theorem Errs.kit {K : PySem.W.Frag} {A : Ad} (h : Errs K A) {C D : Addr} (hC : C ∈ errs A) (hD : D ∈ errs A) : PySem.W.kitOne K (.ref C) (.ref D) = some (decide (C = D)) :=
  (h.er C hC).kit (h.er D hD) fun e => (List.nodup_cons.mp h.nd).1 (e ▸ hD)
theorem Errs.mid {K : PySem.W.Frag} {A : Ad} (h : Errs K A) {C : Addr} (hC : C ∈ errs A) : PySem.W.kitOne K (.ref C) (.ref A.C_MiddleError) = some true := (h.er C hC).mid h.hd h.ty
/-- an error of the class at C, without a field | its field f holding v -/
def ErrAt (H : Hp) (C : Addr) (f : Option (Str × V)) (x : V) : Prop := ∃ a, x = .ref a ∧ match f with
  | none => H a = some (exo a C none)
  | some p => ∃ dx, H a = some (exo a C (some dx)) ∧ H dx = some (exd dx [p])
theorem ErrAt.mono {H H' : Hp} {C : Addr} {f : Option (Str × V)} {x : V} (h : ErrAt H C f x) (e : Ex H H') : ErrAt H' C f x := by
  obtain ⟨a, h1, h2⟩ := h
  refine ⟨a, h1, ?_⟩
  cases f with
  | none => exact e _ _ h2
  | some p =>
    obtain ⟨dx, h3, h4⟩ := h2
    exact ⟨dx, e _ _ h3, e _ _ h4⟩
theorem ErrAt.at {H : Hp} {C : Addr} {f : Option (Str × V)} {x : V} (h : ErrAt H C f x) : ∃ a d, x = .ref a ∧ H a = some (exo a C d) ∧ ∀ dx, d = some dx → ∃ fs, H dx = some (exd dx fs) := by
  obtain ⟨a, h1, h2⟩ := h
  cases f with
  | none => exact ⟨a, none, h1, h2, fun dx e => by cases e⟩
  | some p =>
    obtain ⟨dx, h3, h4⟩ := h2
    exact ⟨a, some dx, h1, h3, fun d e => by cases e; exact ⟨_, h4⟩⟩
def fldOf (v : V) : List (Option (Str × V)) := [none, none, none, none, none, none, none, none, none, none, none, none, none, some ("most", v), some ("group", v), some ("most", v), some ("line", v), some ("name", v)]
abbrev sp_l_made (K : PySem.W.Frag) (A : Ad) : Sp := fun vs H Q _ => Sp1 vs fun v => ∀ (l : Addr) (xs : List V) (H' : Hp), Ex H H' → H' l = some (.lst xs) → xs.length = 18 →
  (∀ (i : Nat) (x : V) (C : Addr) (f : Option (Str × V)), xs[i]? = some x → (errs A)[i]? = some C → (fldOf v)[i]? = some f → ErrAt H' C f x) → Q (.ref l) H'
abbrev sp_l_kinds (K : PySem.W.Frag) (A : Ad) : Sp := fun vs H Q _ => Sp1 vs fun x => ∃ (C : Addr) (f : Option (Str × V)), C ∈ errs A ∧ ErrAt H C f x ∧ ∀ (l : Addr) (H' : Hp), Ex H H' → H' l = some (.lst ((errs A).map fun D => V.bl (decide (C = D)))) → Q (.ref l) H'
/-- a thing that is told of by itself -/
def SameV (K : PySem.W.Frag) (H : Hp) (v : V) : Prop := (∃ b, TyX K H v b ∧ ∃ c, PySem.W.kitOne K b (.type "bool") = some c) ∧ ((∃ d, Dp K H v d ∧ SeqAt.shaped d = true) ∨ ∃ a kvs, v = .ref a ∧ H a = some (.dK kvs) ∧ (kvs.map (·.1)).Nodup ∧ ∀ p ∈ kvs, flatB p.2 = true)
abbrev sp_l_same (K : PySem.W.Frag) (A : Ad) : Sp := fun vs H Q _ => Sp2 vs fun x y => x = y ∧ SameV K H x ∧ Q (.bl true) H
abbrev sp_l_caught (K : PySem.W.Frag) (A : Ad) : Sp := fun vs H Q _ => Sp2 vs fun x y => ∃ i : Nat, x = .int (i : Int) ∧ i < 3 ∧ ∀ H', Ex H H' → Q (.str (if i = 1 then Str.ofString "many" else Str.ofString "middle")) H'

end My

namespace My
open PySem PySem.Spec PyProof.Rows L2 Evl
def top (i : Nat) : Stmt := PySem.Challenge.pw_bymiddles_k00_errors_and_their_fields.main.body.getD i (.Pass ⟨0, 0, 0, 0⟩)
abbrev s_BadBook_init : Stmt := (inClass (top 2) 0)
abbrev n_BadBook_init : List Str := ["self"]
abbrev p_BadBook_init : List Str := ["self"]
theorem sc_BadBook_init : FnScope n_BadBook_init p_BadBook_init (defScope s_BadBook_init) := ⟨rfl, rfl, rfl, by decide +kernel, rfl, by decide +kernel, by decide +kernel⟩
abbrev s_NoWork_init : Stmt := (inClass (top 3) 0)
abbrev n_NoWork_init : List Str := ["self"]
abbrev p_NoWork_init : List Str := ["self"]
theorem sc_NoWork_init : FnScope n_NoWork_init p_NoWork_init (defScope s_NoWork_init) := ⟨rfl, rfl, rfl, by decide +kernel, rfl, by decide +kernel, by decide +kernel⟩
abbrev s_NoLot_init : Stmt := (inClass (top 4) 0)
abbrev n_NoLot_init : List Str := ["self"]
abbrev p_NoLot_init : List Str := ["self"]
theorem sc_NoLot_init : FnScope n_NoLot_init p_NoLot_init (defScope s_NoLot_init) := ⟨rfl, rfl, rfl, by decide +kernel, rfl, by decide +kernel, by decide +kernel⟩
abbrev s_NoGroup_init : Stmt := (inClass (top 5) 0)
abbrev n_NoGroup_init : List Str := ["self"]
abbrev p_NoGroup_init : List Str := ["self"]
theorem sc_NoGroup_init : FnScope n_NoGroup_init p_NoGroup_init (defScope s_NoGroup_init) := ⟨rfl, rfl, rfl, by decide +kernel, rfl, by decide +kernel, by decide +kernel⟩
abbrev s_NoNumber_init : Stmt := (inClass (top 6) 0)
abbrev n_NoNumber_init : List Str := ["self"]
abbrev p_NoNumber_init : List Str := ["self"]
theorem sc_NoNumber_init : FnScope n_NoNumber_init p_NoNumber_init (defScope s_NoNumber_init) := ⟨rfl, rfl, rfl, by decide +kernel, rfl, by decide +kernel, by decide +kernel⟩
abbrev s_NoRow_init : Stmt := (inClass (top 7) 0)
abbrev n_NoRow_init : List Str := ["self"]
abbrev p_NoRow_init : List Str := ["self"]
theorem sc_NoRow_init : FnScope n_NoRow_init p_NoRow_init (defScope s_NoRow_init) := ⟨rfl, rfl, rfl, by decide +kernel, rfl, by decide +kernel, by decide +kernel⟩
abbrev s_TooMany_init : Stmt := (inClass (top 8) 0)
abbrev n_TooMany_init : List Str := ["self", "most"]
abbrev p_TooMany_init : List Str := ["self", "most"]
theorem sc_TooMany_init : FnScope n_TooMany_init p_TooMany_init (defScope s_TooMany_init) := ⟨rfl, rfl, rfl, by decide +kernel, rfl, by decide +kernel, by decide +kernel⟩
abbrev s_NoOrder_init : Stmt := (inClass (top 9) 0)
abbrev n_NoOrder_init : List Str := ["self"]
abbrev p_NoOrder_init : List Str := ["self"]
theorem sc_NoOrder_init : FnScope n_NoOrder_init p_NoOrder_init (defScope s_NoOrder_init) := ⟨rfl, rfl, rfl, by decide +kernel, rfl, by decide +kernel, by decide +kernel⟩
abbrev s_NoRule_init : Stmt := (inClass (top 10) 0)
abbrev n_NoRule_init : List Str := ["self", "group"]
abbrev p_NoRule_init : List Str := ["self", "group"]
theorem sc_NoRule_init : FnScope n_NoRule_init p_NoRule_init (defScope s_NoRule_init) := ⟨rfl, rfl, rfl, by decide +kernel, rfl, by decide +kernel, by decide +kernel⟩
abbrev s_TooLate_init : Stmt := (inClass (top 11) 0)
abbrev n_TooLate_init : List Str := ["self", "most"]
abbrev p_TooLate_init : List Str := ["self", "most"]
theorem sc_TooLate_init : FnScope n_TooLate_init p_TooLate_init (defScope s_TooLate_init) := ⟨rfl, rfl, rfl, by decide +kernel, rfl, by decide +kernel, by decide +kernel⟩
abbrev s_NoPrices_init : Stmt := (inClass (top 12) 0)
abbrev n_NoPrices_init : List Str := ["self"]
abbrev p_NoPrices_init : List Str := ["self"]
theorem sc_NoPrices_init : FnScope n_NoPrices_init p_NoPrices_init (defScope s_NoPrices_init) := ⟨rfl, rfl, rfl, by decide +kernel, rfl, by decide +kernel, by decide +kernel⟩
abbrev s_NoBounds_init : Stmt := (inClass (top 13) 0)
abbrev n_NoBounds_init : List Str := ["self"]
abbrev p_NoBounds_init : List Str := ["self"]
theorem sc_NoBounds_init : FnScope n_NoBounds_init p_NoBounds_init (defScope s_NoBounds_init) := ⟨rfl, rfl, rfl, by decide +kernel, rfl, by decide +kernel, by decide +kernel⟩
abbrev s_Over_init : Stmt := (inClass (top 14) 0)
abbrev n_Over_init : List Str := ["self"]
abbrev p_Over_init : List Str := ["self"]
theorem sc_Over_init : FnScope n_Over_init p_Over_init (defScope s_Over_init) := ⟨rfl, rfl, rfl, by decide +kernel, rfl, by decide +kernel, by decide +kernel⟩
abbrev s_NoLength_init : Stmt := (inClass (top 15) 0)
abbrev n_NoLength_init : List Str := ["self"]
abbrev p_NoLength_init : List Str := ["self"]
theorem sc_NoLength_init : FnScope n_NoLength_init p_NoLength_init (defScope s_NoLength_init) := ⟨rfl, rfl, rfl, by decide +kernel, rfl, by decide +kernel, by decide +kernel⟩
abbrev s_NothingDone_init : Stmt := (inClass (top 16) 0)
abbrev n_NothingDone_init : List Str := ["self"]
abbrev p_NothingDone_init : List Str := ["self"]
theorem sc_NothingDone_init : FnScope n_NothingDone_init p_NothingDone_init (defScope s_NothingDone_init) := ⟨rfl, rfl, rfl, by decide +kernel, rfl, by decide +kernel, by decide +kernel⟩
abbrev s_BadText_init : Stmt := (inClass (top 17) 0)
abbrev n_BadText_init : List Str := ["self", "line"]
abbrev p_BadText_init : List Str := ["self", "line"]
theorem sc_BadText_init : FnScope n_BadText_init p_BadText_init (defScope s_BadText_init) := ⟨rfl, rfl, rfl, by decide +kernel, rfl, by decide +kernel, by decide +kernel⟩
abbrev s_NoLine_init : Stmt := (inClass (top 18) 0)
abbrev n_NoLine_init : List Str := ["self"]
abbrev p_NoLine_init : List Str := ["self"]
theorem sc_NoLine_init : FnScope n_NoLine_init p_NoLine_init (defScope s_NoLine_init) := ⟨rfl, rfl, rfl, by decide +kernel, rfl, by decide +kernel, by decide +kernel⟩
abbrev s_NoName_init : Stmt := (inClass (top 19) 0)
abbrev n_NoName_init : List Str := ["self", "name"]
abbrev p_NoName_init : List Str := ["self", "name"]
theorem sc_NoName_init : FnScope n_NoName_init p_NoName_init (defScope s_NoName_init) := ⟨rfl, rfl, rfl, by decide +kernel, rfl, by decide +kernel, by decide +kernel⟩
abbrev s_l_pool : Stmt := (top 21)
abbrev n_l_pool : List Str := ["_law_script", "_law_seed", "_law_cell"]
abbrev p_l_pool : List Str := ["_law_script"]
theorem sc_l_pool : FnScope n_l_pool p_l_pool (defScope s_l_pool) := ⟨rfl, rfl, rfl, by decide +kernel, rfl, by decide +kernel, by decide +kernel⟩
abbrev s_l_draw : Stmt := (top 22)
abbrev n_l_draw : List Str := ["_law_pool_here", "_law_many", "_law_cells", "_law_digit", "_law_mixed"]
abbrev p_l_draw : List Str := ["_law_pool_here", "_law_many"]
theorem sc_l_draw : FnScope n_l_draw p_l_draw (defScope s_l_draw) := ⟨rfl, rfl, rfl, by decide +kernel, rfl, by decide +kernel, by decide +kernel⟩
abbrev s_l_made : Stmt := (top 23)
abbrev n_l_made : List Str := ["_law_value", "_law_made_here"]
abbrev p_l_made : List Str := ["_law_value"]
theorem sc_l_made : FnScope n_l_made p_l_made (defScope s_l_made) := ⟨rfl, rfl, rfl, by decide +kernel, rfl, by decide +kernel, by decide +kernel⟩
abbrev s_l_kinds : Stmt := (top 24)
abbrev n_l_kinds : List Str := ["_law_e", "_law_kinds_here"]
abbrev p_l_kinds : List Str := ["_law_e"]
theorem sc_l_kinds : FnScope n_l_kinds p_l_kinds (defScope s_l_kinds) := ⟨rfl, rfl, rfl, by decide +kernel, rfl, by decide +kernel, by decide +kernel⟩
abbrev s_l_same : Stmt := (top 25)
abbrev n_l_same : List Str := ["_law_told", "_law_value"]
abbrev p_l_same : List Str := ["_law_told", "_law_value"]
theorem sc_l_same : FnScope n_l_same p_l_same (defScope s_l_same) := ⟨rfl, rfl, rfl, by decide +kernel, rfl, by decide +kernel, by decide +kernel⟩
abbrev s_l_caught : Stmt := (top 26)
abbrev n_l_caught : List Str := ["_law_which", "_law_value", "_law_told"]
abbrev p_l_caught : List Str := ["_law_which", "_law_value"]
theorem sc_l_caught : FnScope n_l_caught p_l_caught (defScope s_l_caught) := ⟨rfl, rfl, rfl, by decide +kernel, rfl, by decide +kernel, by decide +kernel⟩
abbrev s_law : Stmt := (top 27)
abbrev n_law : List Str := ["_law_script", "_law_pool_here", "_law_things", "_law_value", "_law_made_here", "_law_k", "_law_place", "_law_fields", "_law_told", "_law_which"]
abbrev p_law : List Str := ["_law_script"]
theorem sc_law : FnScope n_law p_law (defScope s_law) := ⟨rfl, rfl, rfl, by decide +kernel, rfl, by decide +kernel, by decide +kernel⟩
structure Txt (K : PySem.W.Frag) (mg : Str → Option Value) (A : Ad) (D : Fd) : Prop where
  F_BadBook_init : Fun K "__init__" "BadBook.__init__" s_BadBook_init A.a_BadBook_init D.d_BadBook_init
  F_NoWork_init : Fun K "__init__" "NoWork.__init__" s_NoWork_init A.a_NoWork_init D.d_NoWork_init
  F_NoLot_init : Fun K "__init__" "NoLot.__init__" s_NoLot_init A.a_NoLot_init D.d_NoLot_init
  F_NoGroup_init : Fun K "__init__" "NoGroup.__init__" s_NoGroup_init A.a_NoGroup_init D.d_NoGroup_init
  F_NoNumber_init : Fun K "__init__" "NoNumber.__init__" s_NoNumber_init A.a_NoNumber_init D.d_NoNumber_init
  F_NoRow_init : Fun K "__init__" "NoRow.__init__" s_NoRow_init A.a_NoRow_init D.d_NoRow_init
  F_TooMany_init : Fun K "__init__" "TooMany.__init__" s_TooMany_init A.a_TooMany_init D.d_TooMany_init
  F_NoOrder_init : Fun K "__init__" "NoOrder.__init__" s_NoOrder_init A.a_NoOrder_init D.d_NoOrder_init
  F_NoRule_init : Fun K "__init__" "NoRule.__init__" s_NoRule_init A.a_NoRule_init D.d_NoRule_init
  F_TooLate_init : Fun K "__init__" "TooLate.__init__" s_TooLate_init A.a_TooLate_init D.d_TooLate_init
  F_NoPrices_init : Fun K "__init__" "NoPrices.__init__" s_NoPrices_init A.a_NoPrices_init D.d_NoPrices_init
  F_NoBounds_init : Fun K "__init__" "NoBounds.__init__" s_NoBounds_init A.a_NoBounds_init D.d_NoBounds_init
  F_Over_init : Fun K "__init__" "Over.__init__" s_Over_init A.a_Over_init D.d_Over_init
  F_NoLength_init : Fun K "__init__" "NoLength.__init__" s_NoLength_init A.a_NoLength_init D.d_NoLength_init
  F_NothingDone_init : Fun K "__init__" "NothingDone.__init__" s_NothingDone_init A.a_NothingDone_init D.d_NothingDone_init
  F_BadText_init : Fun K "__init__" "BadText.__init__" s_BadText_init A.a_BadText_init D.d_BadText_init
  F_NoLine_init : Fun K "__init__" "NoLine.__init__" s_NoLine_init A.a_NoLine_init D.d_NoLine_init
  F_NoName_init : Fun K "__init__" "NoName.__init__" s_NoName_init A.a_NoName_init D.d_NoName_init
  F_l_pool : Fun K "_law_pool" "_law_pool" s_l_pool A.a_l_pool D.d_l_pool
  g_l_pool : mg "_law_pool" = some (.ref A.a_l_pool)
  F_l_draw : Fun K "_law_draw" "_law_draw" s_l_draw A.a_l_draw D.d_l_draw
  g_l_draw : mg "_law_draw" = some (.ref A.a_l_draw)
  F_l_made : Fun K "_law_made" "_law_made" s_l_made A.a_l_made D.d_l_made
  g_l_made : mg "_law_made" = some (.ref A.a_l_made)
  F_l_kinds : Fun K "_law_kinds" "_law_kinds" s_l_kinds A.a_l_kinds D.d_l_kinds
  g_l_kinds : mg "_law_kinds" = some (.ref A.a_l_kinds)
  F_l_same : Fun K "_law_same" "_law_same" s_l_same A.a_l_same D.d_l_same
  g_l_same : mg "_law_same" = some (.ref A.a_l_same)
  F_l_caught : Fun K "_law_caught" "_law_caught" s_l_caught A.a_l_caught D.d_l_caught
  g_l_caught : mg "_law_caught" = some (.ref A.a_l_caught)
  F_law : Fun K "law" "law" s_law A.a_law D.d_law
  g_law : mg "law" = some (.ref A.a_law)
  g_MiddleError : mg "MiddleError" = some (.ref A.C_MiddleError)
  g_BadBook : mg "BadBook" = some (.ref A.C_BadBook)
  g_NoWork : mg "NoWork" = some (.ref A.C_NoWork)
  g_NoLot : mg "NoLot" = some (.ref A.C_NoLot)
  g_NoGroup : mg "NoGroup" = some (.ref A.C_NoGroup)
  g_NoNumber : mg "NoNumber" = some (.ref A.C_NoNumber)
  g_NoRow : mg "NoRow" = some (.ref A.C_NoRow)
  g_TooMany : mg "TooMany" = some (.ref A.C_TooMany)
  g_NoOrder : mg "NoOrder" = some (.ref A.C_NoOrder)
  g_NoRule : mg "NoRule" = some (.ref A.C_NoRule)
  g_TooLate : mg "TooLate" = some (.ref A.C_TooLate)
  g_NoPrices : mg "NoPrices" = some (.ref A.C_NoPrices)
  g_NoBounds : mg "NoBounds" = some (.ref A.C_NoBounds)
  g_Over : mg "Over" = some (.ref A.C_Over)
  g_NoLength : mg "NoLength" = some (.ref A.C_NoLength)
  g_NothingDone : mg "NothingDone" = some (.ref A.C_NothingDone)
  g_BadText : mg "BadText" = some (.ref A.C_BadText)
  g_NoLine : mg "NoLine" = some (.ref A.C_NoLine)
  g_NoName : mg "NoName" = some (.ref A.C_NoName)
  n_ValueError : mg "ValueError" = none
  n_abs : mg "abs" = none
  n_all : mg "all" = none
  n_bool : mg "bool" = none
  n_int : mg "int" = none
  n_isinstance : mg "isinstance" = none
  n_len : mg "len" = none
  n_range : mg "range" = none
  n_sum : mg "sum" = none
  e_BadBook : OexC K A.C_BadBook
  i_BadBook : PySem.W.findIn K (.ref A.C_BadBook) "__init__" = some (some (.ref A.a_BadBook_init))
  t_BadBook : PySem.W.typeIn K (.ref A.a_BadBook_init) = some (.type "function")
  m_BadBook : PySem.W.exmOne K (.ref A.C_BadBook) (.ref A.C_BadBook) = some true
  e_NoWork : OexC K A.C_NoWork
  i_NoWork : PySem.W.findIn K (.ref A.C_NoWork) "__init__" = some (some (.ref A.a_NoWork_init))
  t_NoWork : PySem.W.typeIn K (.ref A.a_NoWork_init) = some (.type "function")
  m_NoWork : PySem.W.exmOne K (.ref A.C_NoWork) (.ref A.C_NoWork) = some true
  e_NoLot : OexC K A.C_NoLot
  i_NoLot : PySem.W.findIn K (.ref A.C_NoLot) "__init__" = some (some (.ref A.a_NoLot_init))
  t_NoLot : PySem.W.typeIn K (.ref A.a_NoLot_init) = some (.type "function")
  m_NoLot : PySem.W.exmOne K (.ref A.C_NoLot) (.ref A.C_NoLot) = some true
  e_NoGroup : OexC K A.C_NoGroup
  i_NoGroup : PySem.W.findIn K (.ref A.C_NoGroup) "__init__" = some (some (.ref A.a_NoGroup_init))
  t_NoGroup : PySem.W.typeIn K (.ref A.a_NoGroup_init) = some (.type "function")
  m_NoGroup : PySem.W.exmOne K (.ref A.C_NoGroup) (.ref A.C_NoGroup) = some true
  e_NoNumber : OexC K A.C_NoNumber
  i_NoNumber : PySem.W.findIn K (.ref A.C_NoNumber) "__init__" = some (some (.ref A.a_NoNumber_init))
  t_NoNumber : PySem.W.typeIn K (.ref A.a_NoNumber_init) = some (.type "function")
  m_NoNumber : PySem.W.exmOne K (.ref A.C_NoNumber) (.ref A.C_NoNumber) = some true
  e_NoRow : OexC K A.C_NoRow
  i_NoRow : PySem.W.findIn K (.ref A.C_NoRow) "__init__" = some (some (.ref A.a_NoRow_init))
  t_NoRow : PySem.W.typeIn K (.ref A.a_NoRow_init) = some (.type "function")
  m_NoRow : PySem.W.exmOne K (.ref A.C_NoRow) (.ref A.C_NoRow) = some true
  e_NoOrder : OexC K A.C_NoOrder
  i_NoOrder : PySem.W.findIn K (.ref A.C_NoOrder) "__init__" = some (some (.ref A.a_NoOrder_init))
  t_NoOrder : PySem.W.typeIn K (.ref A.a_NoOrder_init) = some (.type "function")
  m_NoOrder : PySem.W.exmOne K (.ref A.C_NoOrder) (.ref A.C_NoOrder) = some true
  e_NoPrices : OexC K A.C_NoPrices
  i_NoPrices : PySem.W.findIn K (.ref A.C_NoPrices) "__init__" = some (some (.ref A.a_NoPrices_init))
  t_NoPrices : PySem.W.typeIn K (.ref A.a_NoPrices_init) = some (.type "function")
  m_NoPrices : PySem.W.exmOne K (.ref A.C_NoPrices) (.ref A.C_NoPrices) = some true
  e_Over : OexC K A.C_Over
  i_Over : PySem.W.findIn K (.ref A.C_Over) "__init__" = some (some (.ref A.a_Over_init))
  t_Over : PySem.W.typeIn K (.ref A.a_Over_init) = some (.type "function")
  m_Over : PySem.W.exmOne K (.ref A.C_Over) (.ref A.C_Over) = some true
  e_NoLength : OexC K A.C_NoLength
  i_NoLength : PySem.W.findIn K (.ref A.C_NoLength) "__init__" = some (some (.ref A.a_NoLength_init))
  t_NoLength : PySem.W.typeIn K (.ref A.a_NoLength_init) = some (.type "function")
  m_NoLength : PySem.W.exmOne K (.ref A.C_NoLength) (.ref A.C_NoLength) = some true
  e_NothingDone : OexC K A.C_NothingDone
  i_NothingDone : PySem.W.findIn K (.ref A.C_NothingDone) "__init__" = some (some (.ref A.a_NothingDone_init))
  t_NothingDone : PySem.W.typeIn K (.ref A.a_NothingDone_init) = some (.type "function")
  m_NothingDone : PySem.W.exmOne K (.ref A.C_NothingDone) (.ref A.C_NothingDone) = some true
  e_NoLine : OexC K A.C_NoLine
  i_NoLine : PySem.W.findIn K (.ref A.C_NoLine) "__init__" = some (some (.ref A.a_NoLine_init))
  t_NoLine : PySem.W.typeIn K (.ref A.a_NoLine_init) = some (.type "function")
  m_NoLine : PySem.W.exmOne K (.ref A.C_NoLine) (.ref A.C_NoLine) = some true
  e_NoBounds : OexC K A.C_NoBounds
  i_NoBounds : PySem.W.findIn K (.ref A.C_NoBounds) "__init__" = some (some (.ref A.a_NoBounds_init))
  t_NoBounds : PySem.W.typeIn K (.ref A.a_NoBounds_init) = some (.type "function")
  m_NoBounds : PySem.W.exmOne K (.ref A.C_NoBounds) (.ref A.C_NoBounds) = some true
  e_TooMany : OexC K A.C_TooMany
  i_TooMany : PySem.W.findIn K (.ref A.C_TooMany) "__init__" = some (some (.ref A.a_TooMany_init))
  t_TooMany : PySem.W.typeIn K (.ref A.a_TooMany_init) = some (.type "function")
  m_TooMany : PySem.W.exmOne K (.ref A.C_TooMany) (.ref A.C_TooMany) = some true
  e_NoRule : OexC K A.C_NoRule
  i_NoRule : PySem.W.findIn K (.ref A.C_NoRule) "__init__" = some (some (.ref A.a_NoRule_init))
  t_NoRule : PySem.W.typeIn K (.ref A.a_NoRule_init) = some (.type "function")
  m_NoRule : PySem.W.exmOne K (.ref A.C_NoRule) (.ref A.C_NoRule) = some true
  e_TooLate : OexC K A.C_TooLate
  i_TooLate : PySem.W.findIn K (.ref A.C_TooLate) "__init__" = some (some (.ref A.a_TooLate_init))
  t_TooLate : PySem.W.typeIn K (.ref A.a_TooLate_init) = some (.type "function")
  m_TooLate : PySem.W.exmOne K (.ref A.C_TooLate) (.ref A.C_TooLate) = some true
  e_BadText : OexC K A.C_BadText
  i_BadText : PySem.W.findIn K (.ref A.C_BadText) "__init__" = some (some (.ref A.a_BadText_init))
  t_BadText : PySem.W.typeIn K (.ref A.a_BadText_init) = some (.type "function")
  m_BadText : PySem.W.exmOne K (.ref A.C_BadText) (.ref A.C_BadText) = some true
  e_NoName : OexC K A.C_NoName
  i_NoName : PySem.W.findIn K (.ref A.C_NoName) "__init__" = some (some (.ref A.a_NoName_init))
  t_NoName : PySem.W.typeIn K (.ref A.a_NoName_init) = some (.type "function")
  m_NoName : PySem.W.exmOne K (.ref A.C_NoName) (.ref A.C_NoName) = some true
  es : Errs K A
  xf_TooMany : XfC K A.C_TooMany
  nf_TooMany : PySem.W.findIn K (.ref A.C_TooMany) "most" = some none
  xf_NoRule : XfC K A.C_NoRule
  nf_NoRule : PySem.W.findIn K (.ref A.C_NoRule) "group" = some none
  xf_TooLate : XfC K A.C_TooLate
  nf_TooLate : PySem.W.findIn K (.ref A.C_TooLate) "most" = some none
  xf_BadText : XfC K A.C_BadText
  nf_BadText : PySem.W.findIn K (.ref A.C_BadText) "line" = some none
  xf_NoName : XfC K A.C_NoName
  nf_NoName : PySem.W.findIn K (.ref A.C_NoName) "name" = some none
  mm_Over : PySem.W.exmOne K (.ref A.C_Over) (.ref A.C_MiddleError) = some true
  mm_NoLine : PySem.W.exmOne K (.ref A.C_NoLine) (.ref A.C_MiddleError) = some true
  mm_TooMany : PySem.W.exmOne K (.ref A.C_TooMany) (.ref A.C_MiddleError) = some true
  mt_Over : PySem.W.exmOne K (.ref A.C_Over) (.ref A.C_TooMany) = some false
  mt_NoLine : PySem.W.exmOne K (.ref A.C_NoLine) (.ref A.C_TooMany) = some false
section
variable {P : Program} {w : World} {K : PySem.W.Frag} {mg : Str → Option Value} {base : Heap} {A : Ad} {D : Fd}
theorem k_BadBook_init (T : Txt K mg A D) : PySem.W.keepIn K (.ref A.a_BadBook_init) = true := T.F_BadBook_init.kp
theorem b_BadBook_init (T : Txt K mg A D) : Binds K D.d_BadBook_init p_BadBook_init [] := T.F_BadBook_init.binds (ps := p_BadBook_init) fun _ _ _ _ _ _ us hl => match us, hl with | [_], _ => rfl
theorem k_NoWork_init (T : Txt K mg A D) : PySem.W.keepIn K (.ref A.a_NoWork_init) = true := T.F_NoWork_init.kp
theorem b_NoWork_init (T : Txt K mg A D) : Binds K D.d_NoWork_init p_NoWork_init [] := T.F_NoWork_init.binds (ps := p_NoWork_init) fun _ _ _ _ _ _ us hl => match us, hl with | [_], _ => rfl
theorem k_NoLot_init (T : Txt K mg A D) : PySem.W.keepIn K (.ref A.a_NoLot_init) = true := T.F_NoLot_init.kp
theorem b_NoLot_init (T : Txt K mg A D) : Binds K D.d_NoLot_init p_NoLot_init [] := T.F_NoLot_init.binds (ps := p_NoLot_init) fun _ _ _ _ _ _ us hl => match us, hl with | [_], _ => rfl
theorem k_NoGroup_init (T : Txt K mg A D) : PySem.W.keepIn K (.ref A.a_NoGroup_init) = true := T.F_NoGroup_init.kp
theorem b_NoGroup_init (T : Txt K mg A D) : Binds K D.d_NoGroup_init p_NoGroup_init [] := T.F_NoGroup_init.binds (ps := p_NoGroup_init) fun _ _ _ _ _ _ us hl => match us, hl with | [_], _ => rfl
theorem k_NoNumber_init (T : Txt K mg A D) : PySem.W.keepIn K (.ref A.a_NoNumber_init) = true := T.F_NoNumber_init.kp
theorem b_NoNumber_init (T : Txt K mg A D) : Binds K D.d_NoNumber_init p_NoNumber_init [] := T.F_NoNumber_init.binds (ps := p_NoNumber_init) fun _ _ _ _ _ _ us hl => match us, hl with | [_], _ => rfl
theorem k_NoRow_init (T : Txt K mg A D) : PySem.W.keepIn K (.ref A.a_NoRow_init) = true := T.F_NoRow_init.kp
theorem b_NoRow_init (T : Txt K mg A D) : Binds K D.d_NoRow_init p_NoRow_init [] := T.F_NoRow_init.binds (ps := p_NoRow_init) fun _ _ _ _ _ _ us hl => match us, hl with | [_], _ => rfl
theorem k_TooMany_init (T : Txt K mg A D) : PySem.W.keepIn K (.ref A.a_TooMany_init) = true := T.F_TooMany_init.kp
theorem b_TooMany_init (T : Txt K mg A D) : Binds K D.d_TooMany_init p_TooMany_init [] := T.F_TooMany_init.binds (ps := p_TooMany_init) fun _ _ _ _ _ _ us hl => match us, hl with | [_, _], _ => rfl
theorem k_NoOrder_init (T : Txt K mg A D) : PySem.W.keepIn K (.ref A.a_NoOrder_init) = true := T.F_NoOrder_init.kp
theorem b_NoOrder_init (T : Txt K mg A D) : Binds K D.d_NoOrder_init p_NoOrder_init [] := T.F_NoOrder_init.binds (ps := p_NoOrder_init) fun _ _ _ _ _ _ us hl => match us, hl with | [_], _ => rfl
theorem k_NoRule_init (T : Txt K mg A D) : PySem.W.keepIn K (.ref A.a_NoRule_init) = true := T.F_NoRule_init.kp
theorem b_NoRule_init (T : Txt K mg A D) : Binds K D.d_NoRule_init p_NoRule_init [] := T.F_NoRule_init.binds (ps := p_NoRule_init) fun _ _ _ _ _ _ us hl => match us, hl with | [_, _], _ => rfl
theorem k_TooLate_init (T : Txt K mg A D) : PySem.W.keepIn K (.ref A.a_TooLate_init) = true := T.F_TooLate_init.kp
theorem b_TooLate_init (T : Txt K mg A D) : Binds K D.d_TooLate_init p_TooLate_init [] := T.F_TooLate_init.binds (ps := p_TooLate_init) fun _ _ _ _ _ _ us hl => match us, hl with | [_, _], _ => rfl
theorem k_NoPrices_init (T : Txt K mg A D) : PySem.W.keepIn K (.ref A.a_NoPrices_init) = true := T.F_NoPrices_init.kp
theorem b_NoPrices_init (T : Txt K mg A D) : Binds K D.d_NoPrices_init p_NoPrices_init [] := T.F_NoPrices_init.binds (ps := p_NoPrices_init) fun _ _ _ _ _ _ us hl => match us, hl with | [_], _ => rfl
theorem k_NoBounds_init (T : Txt K mg A D) : PySem.W.keepIn K (.ref A.a_NoBounds_init) = true := T.F_NoBounds_init.kp
theorem b_NoBounds_init (T : Txt K mg A D) : Binds K D.d_NoBounds_init p_NoBounds_init [] := T.F_NoBounds_init.binds (ps := p_NoBounds_init) fun _ _ _ _ _ _ us hl => match us, hl with | [_], _ => rfl
theorem k_Over_init (T : Txt K mg A D) : PySem.W.keepIn K (.ref A.a_Over_init) = true := T.F_Over_init.kp
theorem b_Over_init (T : Txt K mg A D) : Binds K D.d_Over_init p_Over_init [] := T.F_Over_init.binds (ps := p_Over_init) fun _ _ _ _ _ _ us hl => match us, hl with | [_], _ => rfl
theorem k_NoLength_init (T : Txt K mg A D) : PySem.W.keepIn K (.ref A.a_NoLength_init) = true := T.F_NoLength_init.kp
theorem b_NoLength_init (T : Txt K mg A D) : Binds K D.d_NoLength_init p_NoLength_init [] := T.F_NoLength_init.binds (ps := p_NoLength_init) fun _ _ _ _ _ _ us hl => match us, hl with | [_], _ => rfl
theorem k_NothingDone_init (T : Txt K mg A D) : PySem.W.keepIn K (.ref A.a_NothingDone_init) = true := T.F_NothingDone_init.kp
theorem b_NothingDone_init (T : Txt K mg A D) : Binds K D.d_NothingDone_init p_NothingDone_init [] := T.F_NothingDone_init.binds (ps := p_NothingDone_init) fun _ _ _ _ _ _ us hl => match us, hl with | [_], _ => rfl
theorem k_BadText_init (T : Txt K mg A D) : PySem.W.keepIn K (.ref A.a_BadText_init) = true := T.F_BadText_init.kp
theorem b_BadText_init (T : Txt K mg A D) : Binds K D.d_BadText_init p_BadText_init [] := T.F_BadText_init.binds (ps := p_BadText_init) fun _ _ _ _ _ _ us hl => match us, hl with | [_, _], _ => rfl
theorem k_NoLine_init (T : Txt K mg A D) : PySem.W.keepIn K (.ref A.a_NoLine_init) = true := T.F_NoLine_init.kp
theorem b_NoLine_init (T : Txt K mg A D) : Binds K D.d_NoLine_init p_NoLine_init [] := T.F_NoLine_init.binds (ps := p_NoLine_init) fun _ _ _ _ _ _ us hl => match us, hl with | [_], _ => rfl
theorem k_NoName_init (T : Txt K mg A D) : PySem.W.keepIn K (.ref A.a_NoName_init) = true := T.F_NoName_init.kp
theorem b_NoName_init (T : Txt K mg A D) : Binds K D.d_NoName_init p_NoName_init [] := T.F_NoName_init.binds (ps := p_NoName_init) fun _ _ _ _ _ _ us hl => match us, hl with | [_, _], _ => rfl
theorem k_l_pool (T : Txt K mg A D) : PySem.W.keepIn K (.ref A.a_l_pool) = true := T.F_l_pool.kp
theorem b_l_pool (T : Txt K mg A D) : Binds K D.d_l_pool p_l_pool [] := T.F_l_pool.binds (ps := p_l_pool) fun _ _ _ _ _ _ us hl => match us, hl with | [_], _ => rfl
theorem k_l_draw (T : Txt K mg A D) : PySem.W.keepIn K (.ref A.a_l_draw) = true := T.F_l_draw.kp
theorem b_l_draw (T : Txt K mg A D) : Binds K D.d_l_draw p_l_draw [] := T.F_l_draw.binds (ps := p_l_draw) fun _ _ _ _ _ _ us hl => match us, hl with | [_, _], _ => rfl
theorem k_l_made (T : Txt K mg A D) : PySem.W.keepIn K (.ref A.a_l_made) = true := T.F_l_made.kp
theorem b_l_made (T : Txt K mg A D) : Binds K D.d_l_made p_l_made [] := T.F_l_made.binds (ps := p_l_made) fun _ _ _ _ _ _ us hl => match us, hl with | [_], _ => rfl
theorem k_l_kinds (T : Txt K mg A D) : PySem.W.keepIn K (.ref A.a_l_kinds) = true := T.F_l_kinds.kp
theorem b_l_kinds (T : Txt K mg A D) : Binds K D.d_l_kinds p_l_kinds [] := T.F_l_kinds.binds (ps := p_l_kinds) fun _ _ _ _ _ _ us hl => match us, hl with | [_], _ => rfl
theorem k_l_same (T : Txt K mg A D) : PySem.W.keepIn K (.ref A.a_l_same) = true := T.F_l_same.kp
theorem b_l_same (T : Txt K mg A D) : Binds K D.d_l_same p_l_same [] := T.F_l_same.binds (ps := p_l_same) fun _ _ _ _ _ _ us hl => match us, hl with | [_, _], _ => rfl
theorem k_l_caught (T : Txt K mg A D) : PySem.W.keepIn K (.ref A.a_l_caught) = true := T.F_l_caught.kp
theorem b_l_caught (T : Txt K mg A D) : Binds K D.d_l_caught p_l_caught [] := T.F_l_caught.binds (ps := p_l_caught) fun _ _ _ _ _ _ us hl => match us, hl with | [_, _], _ => rfl
theorem k_law (T : Txt K mg A D) : PySem.W.keepIn K (.ref A.a_law) = true := T.F_law.kp
theorem b_law (T : Txt K mg A D) : Binds K D.d_law p_law [] := T.F_law.binds (ps := p_law) fun _ _ _ _ _ _ us hl => match us, hl with | [_], _ => rfl
end
section
variable {P : Program} {w : World} {K : PySem.W.Frag} {mg : Str → Option Value} {base : Heap} {A : Ad} {D : Fd}
theorem ok_BadBook_init (T : Txt K mg A D) : FnOk P w K mg base CX0 1 A.a_BadBook_init D.d_BadBook_init p_BadBook_init (sp_BadBook_init K A) := by
  refine T.F_BadBook_init.ok sc_BadBook_init (fun vs H Q E h => ?_) (fun cdv Ar outer s H vs Q E hr h => ?_)
  · (obtain ⟨a, rfl, _⟩ := h; rfl)
  · have hu := hu_of hr
    refine ⟨_, (pss_one ps_pass), ?_⟩
    obtain ⟨a, rfl, k⟩ := h
    exact k
theorem ok_NoWork_init (T : Txt K mg A D) : FnOk P w K mg base CX0 1 A.a_NoWork_init D.d_NoWork_init p_NoWork_init (sp_NoWork_init K A) := by
  refine T.F_NoWork_init.ok sc_NoWork_init (fun vs H Q E h => ?_) (fun cdv Ar outer s H vs Q E hr h => ?_)
  · (obtain ⟨a, rfl, _⟩ := h; rfl)
  · have hu := hu_of hr
    refine ⟨_, (pss_one ps_pass), ?_⟩
    obtain ⟨a, rfl, k⟩ := h
    exact k
theorem ok_NoLot_init (T : Txt K mg A D) : FnOk P w K mg base CX0 1 A.a_NoLot_init D.d_NoLot_init p_NoLot_init (sp_NoLot_init K A) := by
  refine T.F_NoLot_init.ok sc_NoLot_init (fun vs H Q E h => ?_) (fun cdv Ar outer s H vs Q E hr h => ?_)
  · (obtain ⟨a, rfl, _⟩ := h; rfl)
  · have hu := hu_of hr
    refine ⟨_, (pss_one ps_pass), ?_⟩
    obtain ⟨a, rfl, k⟩ := h
    exact k
theorem ok_NoGroup_init (T : Txt K mg A D) : FnOk P w K mg base CX0 1 A.a_NoGroup_init D.d_NoGroup_init p_NoGroup_init (sp_NoGroup_init K A) := by
  refine T.F_NoGroup_init.ok sc_NoGroup_init (fun vs H Q E h => ?_) (fun cdv Ar outer s H vs Q E hr h => ?_)
  · (obtain ⟨a, rfl, _⟩ := h; rfl)
  · have hu := hu_of hr
    refine ⟨_, (pss_one ps_pass), ?_⟩
    obtain ⟨a, rfl, k⟩ := h
    exact k
theorem ok_NoNumber_init (T : Txt K mg A D) : FnOk P w K mg base CX0 1 A.a_NoNumber_init D.d_NoNumber_init p_NoNumber_init (sp_NoNumber_init K A) := by
  refine T.F_NoNumber_init.ok sc_NoNumber_init (fun vs H Q E h => ?_) (fun cdv Ar outer s H vs Q E hr h => ?_)
  · (obtain ⟨a, rfl, _⟩ := h; rfl)
  · have hu := hu_of hr
    refine ⟨_, (pss_one ps_pass), ?_⟩
    obtain ⟨a, rfl, k⟩ := h
    exact k
theorem ok_NoRow_init (T : Txt K mg A D) : FnOk P w K mg base CX0 1 A.a_NoRow_init D.d_NoRow_init p_NoRow_init (sp_NoRow_init K A) := by
  refine T.F_NoRow_init.ok sc_NoRow_init (fun vs H Q E h => ?_) (fun cdv Ar outer s H vs Q E hr h => ?_)
  · (obtain ⟨a, rfl, _⟩ := h; rfl)
  · have hu := hu_of hr
    refine ⟨_, (pss_one ps_pass), ?_⟩
    obtain ⟨a, rfl, k⟩ := h
    exact k
theorem ok_NoOrder_init (T : Txt K mg A D) : FnOk P w K mg base CX0 1 A.a_NoOrder_init D.d_NoOrder_init p_NoOrder_init (sp_NoOrder_init K A) := by
  refine T.F_NoOrder_init.ok sc_NoOrder_init (fun vs H Q E h => ?_) (fun cdv Ar outer s H vs Q E hr h => ?_)
  · (obtain ⟨a, rfl, _⟩ := h; rfl)
  · have hu := hu_of hr
    refine ⟨_, (pss_one ps_pass), ?_⟩
    obtain ⟨a, rfl, k⟩ := h
    exact k
theorem ok_NoPrices_init (T : Txt K mg A D) : FnOk P w K mg base CX0 1 A.a_NoPrices_init D.d_NoPrices_init p_NoPrices_init (sp_NoPrices_init K A) := by
  refine T.F_NoPrices_init.ok sc_NoPrices_init (fun vs H Q E h => ?_) (fun cdv Ar outer s H vs Q E hr h => ?_)
  · (obtain ⟨a, rfl, _⟩ := h; rfl)
  · have hu := hu_of hr
    refine ⟨_, (pss_one ps_pass), ?_⟩
    obtain ⟨a, rfl, k⟩ := h
    exact k
theorem ok_Over_init (T : Txt K mg A D) : FnOk P w K mg base CX0 1 A.a_Over_init D.d_Over_init p_Over_init (sp_Over_init K A) := by
  refine T.F_Over_init.ok sc_Over_init (fun vs H Q E h => ?_) (fun cdv Ar outer s H vs Q E hr h => ?_)
  · (obtain ⟨a, rfl, _⟩ := h; rfl)
  · have hu := hu_of hr
    refine ⟨_, (pss_one ps_pass), ?_⟩
    obtain ⟨a, rfl, k⟩ := h
    exact k
theorem ok_NoLength_init (T : Txt K mg A D) : FnOk P w K mg base CX0 1 A.a_NoLength_init D.d_NoLength_init p_NoLength_init (sp_NoLength_init K A) := by
  refine T.F_NoLength_init.ok sc_NoLength_init (fun vs H Q E h => ?_) (fun cdv Ar outer s H vs Q E hr h => ?_)
  · (obtain ⟨a, rfl, _⟩ := h; rfl)
  · have hu := hu_of hr
    refine ⟨_, (pss_one ps_pass), ?_⟩
    obtain ⟨a, rfl, k⟩ := h
    exact k
theorem ok_NothingDone_init (T : Txt K mg A D) : FnOk P w K mg base CX0 1 A.a_NothingDone_init D.d_NothingDone_init p_NothingDone_init (sp_NothingDone_init K A) := by
  refine T.F_NothingDone_init.ok sc_NothingDone_init (fun vs H Q E h => ?_) (fun cdv Ar outer s H vs Q E hr h => ?_)
  · (obtain ⟨a, rfl, _⟩ := h; rfl)
  · have hu := hu_of hr
    refine ⟨_, (pss_one ps_pass), ?_⟩
    obtain ⟨a, rfl, k⟩ := h
    exact k
theorem ok_NoLine_init (T : Txt K mg A D) : FnOk P w K mg base CX0 1 A.a_NoLine_init D.d_NoLine_init p_NoLine_init (sp_NoLine_init K A) := by
  refine T.F_NoLine_init.ok sc_NoLine_init (fun vs H Q E h => ?_) (fun cdv Ar outer s H vs Q E hr h => ?_)
  · (obtain ⟨a, rfl, _⟩ := h; rfl)
  · have hu := hu_of hr
    refine ⟨_, (pss_one ps_pass), ?_⟩
    obtain ⟨a, rfl, k⟩ := h
    exact k
theorem ok_NoBounds_init (T : Txt K mg A D) : FnOk P w K mg base CX0 1 A.a_NoBounds_init D.d_NoBounds_init p_NoBounds_init (sp_NoBounds_init K A) := by
  refine T.F_NoBounds_init.ok sc_NoBounds_init (fun vs H Q E h => ?_) (fun cdv Ar outer s H vs Q E hr h => ?_)
  · (obtain ⟨a, rfl, _⟩ := h; rfl)
  · have hu := hu_of hr
    refine ⟨_, (pss_one ps_pass), ?_⟩
    obtain ⟨a, rfl, k⟩ := h
    exact k
theorem ok_TooMany_init (T : Txt K mg A D) : FnOk P w K mg base CX0 1 A.a_TooMany_init D.d_TooMany_init p_TooMany_init (sp_TooMany_init K A) := by
  refine T.F_TooMany_init.ok sc_TooMany_init (fun vs H Q E h => ?_) (fun cdv Ar outer s H vs Q E hr h => ?_)
  · (obtain ⟨a, C, v, rfl, _⟩ := h; rfl)
  · have hu := hu_of hr
    refine ⟨_, (pss_one (ps_ost (pv 0) (pv 1))), ?_⟩
    obtain ⟨a, C, v, rfl, T1, hno, ha, k⟩ := h
    exact ⟨_, rfl, _, rfl, a, C, rfl, T1, hno, .inl ⟨ha, fun dx n ne => k dx n ne⟩⟩
theorem ok_NoRule_init (T : Txt K mg A D) : FnOk P w K mg base CX0 1 A.a_NoRule_init D.d_NoRule_init p_NoRule_init (sp_NoRule_init K A) := by
  refine T.F_NoRule_init.ok sc_NoRule_init (fun vs H Q E h => ?_) (fun cdv Ar outer s H vs Q E hr h => ?_)
  · (obtain ⟨a, C, v, rfl, _⟩ := h; rfl)
  · have hu := hu_of hr
    refine ⟨_, (pss_one (ps_ost (pv 0) (pv 1))), ?_⟩
    obtain ⟨a, C, v, rfl, T1, hno, ha, k⟩ := h
    exact ⟨_, rfl, _, rfl, a, C, rfl, T1, hno, .inl ⟨ha, fun dx n ne => k dx n ne⟩⟩
theorem ok_TooLate_init (T : Txt K mg A D) : FnOk P w K mg base CX0 1 A.a_TooLate_init D.d_TooLate_init p_TooLate_init (sp_TooLate_init K A) := by
  refine T.F_TooLate_init.ok sc_TooLate_init (fun vs H Q E h => ?_) (fun cdv Ar outer s H vs Q E hr h => ?_)
  · (obtain ⟨a, C, v, rfl, _⟩ := h; rfl)
  · have hu := hu_of hr
    refine ⟨_, (pss_one (ps_ost (pv 0) (pv 1))), ?_⟩
    obtain ⟨a, C, v, rfl, T1, hno, ha, k⟩ := h
    exact ⟨_, rfl, _, rfl, a, C, rfl, T1, hno, .inl ⟨ha, fun dx n ne => k dx n ne⟩⟩
theorem ok_BadText_init (T : Txt K mg A D) : FnOk P w K mg base CX0 1 A.a_BadText_init D.d_BadText_init p_BadText_init (sp_BadText_init K A) := by
  refine T.F_BadText_init.ok sc_BadText_init (fun vs H Q E h => ?_) (fun cdv Ar outer s H vs Q E hr h => ?_)
  · (obtain ⟨a, C, v, rfl, _⟩ := h; rfl)
  · have hu := hu_of hr
    refine ⟨_, (pss_one (ps_ost (pv 0) (pv 1))), ?_⟩
    obtain ⟨a, C, v, rfl, T1, hno, ha, k⟩ := h
    exact ⟨_, rfl, _, rfl, a, C, rfl, T1, hno, .inl ⟨ha, fun dx n ne => k dx n ne⟩⟩
theorem ok_NoName_init (T : Txt K mg A D) : FnOk P w K mg base CX0 1 A.a_NoName_init D.d_NoName_init p_NoName_init (sp_NoName_init K A) := by
  refine T.F_NoName_init.ok sc_NoName_init (fun vs H Q E h => ?_) (fun cdv Ar outer s H vs Q E hr h => ?_)
  · (obtain ⟨a, C, v, rfl, _⟩ := h; rfl)
  · have hu := hu_of hr
    refine ⟨_, (pss_one (ps_ost (pv 0) (pv 1))), ?_⟩
    obtain ⟨a, C, v, rfl, T1, hno, ha, k⟩ := h
    exact ⟨_, rfl, _, rfl, a, C, rfl, T1, hno, .inl ⟨ha, fun dx n ne => k dx n ne⟩⟩
theorem ok_l_pool (T : Txt K mg A D) : FnOk P w K mg base CX0 1 A.a_l_pool D.d_l_pool p_l_pool (sp_l_pool K A) := by
  refine T.F_l_pool.ok sc_l_pool (fun vs H Q E h => ?_) (fun cdv Ar outer s H vs Q E hr h => ?_)
  · exact h.len
  · have hu := hu_of hr
    refine ⟨_, (pss_cons (ps_set (i := 1) sc_l_pool.nd rfl (Or.inl rfl) (pe_op op_add (pe_op op_add (pe_op op_mod (pe_callTy call_int1 (by rfl) T.n_int (by decide +kernel) (pa_cons (pe_callB (cr_sum rfl) (by rfl) T.n_sum (by decide +kernel) (pa_cons (pe_slice sl_list (pv 0) po_none (po_some pe_int)) pa_nil)) pa_nil)) pe_int) (pe_callB call_len_seq (by rfl) T.n_len (by decide +kernel) (pa_cons (pv 0) pa_nil))) pe_int)) (pss_cons (ps_for PassesOwn.never rfl (pi_list (pe_slice sl_list (pv 0) po_none (po_some pe_int))) (pg_name (i := 2) sc_l_pool.nd rfl (Or.inl rfl)) (pss_one (ps_set (i := 1) sc_l_pool.nd rfl (Or.inl rfl) (pe_op op_mod (pe_callTy call_int1 (by rfl) T.n_int (by decide +kernel) (pa_cons (pe_op op_add (pe_op op_add (pe_op op_mul (pv 1) pe_int) (pe_op op_mod (pe_callTy call_int1 (by rfl) T.n_int (by decide +kernel) (pa_cons (pv 2) pa_nil)) pe_int)) pe_int) pa_nil)) pe_int)))) (pss_one (ps_ret (pe_lst (pa_cons (pv 1) (pa_cons pe_int (pa_cons (pe_lc (own := [("_law_cell", 2)]) (g := (gName 2))  rfl sc_l_pool.nd (pi_list (pe_slice sl_list (pv 0) po_none (po_some pe_int))) (blkOk_by (own := [("_law_cell", 2)]) (N := n_l_pool) (sc := defScope s_l_pool) (by decide +kernel)) (fun _ _ _ _ _ => (pg_name (i := 2) sc_l_pool.nd rfl (Or.inl rfl))) (fun _ _ _ _ _ => pts_one (pt_cmpR op_ge (pe_callB call_abs (by rfl) T.n_abs (by decide +kernel) (pa_cons (pv 2) pa_nil)) (pe_op op_pow pe_int pe_int) (nomark _))) (fun _ _ _ _ _ => (pe_callB call_abs (by rfl) T.n_abs (by decide +kernel) (pa_cons (pv 2) pa_nil)))) pa_nil)))))))), ?_⟩
    obtain ⟨a, ns, rfl, hS, hlen, k⟩ := h.ex
    obtain ⟨m1, e1, l1⟩ := cutV_ints ns none (some 1)
    obtain ⟨m2, e2, l2⟩ := cutV_ints ns none (some 63)
    have ha : ns.length ≤ 63 := hlen
    refine ⟨_, rfl, _, rfl, a, _, rfl, hS, fun p1 np1 => ?_⟩
    have x1 : Ex H (upd H p1 (.lst (cutV (ns.map V.int) none (some 1)))) := Ex.new np1
    refine ⟨p1, m1, rfl, SqL.of (by rw [upd_same, e1]), .inl ⟨_, rfl, _, _, rfl, rfl, (by show (0 : Int) < 1000003; decide), _, rfl, a, _, rfl, .inl (ex_l x1 hS), _, _, rfl, rfl, _, _, rfl, rfl, ?_⟩⟩
    generalize upd H p1 (.lst (cutV (ns.map V.int) none (some 1))) = H1 at x1
    -- for cell in script[:63]
    refine ⟨_, rfl, _, rfl, a, _, rfl, ex_l x1 hS, fun p2 np2 => ?_⟩
    have x2 : Ex H1 (upd H1 p2 (.lst (cutV (ns.map V.int) none (some 63)))) := Ex.new np2
    have h2 : (upd H1 p2 (.lst (cutV (ns.map V.int) none (some 63)))) p2 = some (.lst (m2.map V.int)) := by rw [upd_same, e2]
    generalize upd H1 p2 (.lst (cutV (ns.map V.int) none (some 63))) = H2 at x2 h2
    refine ⟨p2, rfl, ⟨_, SqL.of h2⟩, for_list (K := K) (a := p2) (xs := m2.map V.int) (fun i σ H' => ∃ (z : Int) (v : Option V), σ = [some (.ref a), some (.int z), v] ∧ Ex H2 H') ⟨_, _, rfl, Ex.refl _⟩ (fun i σ H' _ ⟨_, _, _, x⟩ => ex_l x (SqL.of h2)) ?_ ?_⟩
    · rintro i y σ H' hi ⟨z, v, rfl, x⟩
      obtain ⟨n, _, rfl⟩ := ints_get hi
      exact ⟨_, rfl, _, _, rfl, rfl, .inr (by constructor <;> decide), _, rfl, .inl ⟨_, rfl, _, _, rfl, rfl, (by show (0 : Int) < 2147483629; decide), _, _, rfl, rfl, _, _, rfl, rfl, .inl ⟨_, rfl, _, _, rfl, rfl, (by show (0 : Int) < 2147483647; decide), _, _, rfl, x⟩⟩⟩
    · rintro σ H' ⟨z, v, rfl, x⟩
      have y0 : Ex H H' := (x1.trans x2).trans x
      -- return [seed, 0, [..]]
      refine ⟨_, rfl, _, rfl, _, rfl, a, _, rfl, ex_l y0 hS, fun p3 np3 => ?_⟩
      have x3 : Ex H' (upd H' p3 (.lst (cutV (ns.map V.int) none (some 63)))) := Ex.new np3
      have h3 : (upd H' p3 (.lst (cutV (ns.map V.int) none (some 63)))) p3 = some (.lst (m2.map V.int)) := by rw [upd_same, e2]
      generalize upd H' p3 (.lst (cutV (ns.map V.int) none (some 63))) = H3 at x3 h3
      refine ⟨p3, rfl, ⟨_, SqL.of h3⟩, fun c nc => lc_list (K := K) (a := p3) (xs := m2.map V.int) (fun i H4 => ∃ ms : List Int, H4 c = some (.lst (ms.map V.int)) ∧ ms.length ≤ i ∧ Ex H3 H4) ⟨[], upd_same, Nat.le_refl _, Ex.new nc⟩ (fun i H4 _ ⟨_, _, _, x4⟩ => ex_l x4 (SqL.of h3)) ?_ ?_⟩
      · rintro i y H4 hi ⟨ms, hm, hl, x4⟩
        obtain ⟨n, _, rfl⟩ := ints_get hi
        have hil : i < m2.length := by
          have := (List.getElem?_eq_some_iff.mp hi).1
          rw [List.length_map] at this
          exact this
        refine ⟨rfl, _, rfl, _, rfl, _, _, rfl, rfl, ⟨by decide, by decide, by decide⟩, _, _, rfl, rfl, _, rfl, ?_⟩
        refine ite2 (fun _ => ?_) (fun _ => ?_)
        · exact ⟨_, rfl, _, rfl, _, hm, small1000 (by rw [List.length_map]; omega), ms ++ [if n < 0 then -n else n], by rw [upd_same, List.map_append] <;> rfl, by rw [List.length_append]; show _ + 1 ≤ _; omega, x4.mut nc⟩
        · exact ⟨ms, hm, Nat.le_succ_of_le hl, x4⟩
      · rintro H4 ⟨ms, hm, _, x4⟩
        refine ⟨(by show 3 ≤ sizeLine; decide), fun p np => k p c _ ?_ ?_ ⟨⟨_, _, upd_same⟩, ⟨ms, by rw [upd_ne (ne_of_none hm np)]; exact hm⟩, ?_⟩ ?_⟩
        · exact fresh_back ((y0.trans x3).trans x4) np
        · exact fresh_back (y0.trans x3) nc
        · exact (ne_of_none hm np).symm
        · exact ((y0.trans x3).trans x4).trans (Ex.new np)
theorem ok_l_draw (T : Txt K mg A D) : FnOk P w K mg base CX0 1 A.a_l_draw D.d_l_draw p_l_draw (sp_l_draw K A) := by
  refine T.F_l_draw.ok sc_l_draw (fun vs H Q E h => ?_) (fun cdv Ar outer s H vs Q E hr h => ?_)
  · exact h.len
  · have hu := hu_of hr
    refine ⟨_, (pss_cons (ps_asg (pe_op op_add (pe_ix ix_list (pv 0) pe_int (fun _ _ => rfl)) pe_int) (pg_sub (pv 0) pe_int set_list)) (pss_cons (ps_set (i := 2) sc_l_draw.nd rfl (Or.inl rfl) (pe_ix ix_list (pv 0) pe_int (fun _ _ => rfl))) (pss_cons (ps_if (pt_cmpR op_gt (pe_callB call_len_seq (by rfl) T.n_len (by decide +kernel) (pa_cons (pv 2) pa_nil)) pe_int (nomark _)) (pss_cons (ps_set (i := 3) sc_l_draw.nd rfl (Or.inl rfl) (pe_op op_mod (pe_callTy call_int1 (by rfl) T.n_int (by decide +kernel) (pa_cons (pe_ix ix_list (pv 2) pe_int (fun _ _ => rfl)) pa_nil)) (pv 1))) (pss_cons (ps_asg (pe_op op_fdivW (pe_callTy call_int1 (by rfl) T.n_int (by decide +kernel) (pa_cons (pe_ix ix_list (pv 2) pe_int (fun _ _ => rfl)) pa_nil)) (pv 1)) (pg_sub (pv 2) pe_int set_list)) (pss_cons (ps_if (pt_cmpR op_eq (pe_ix ix_list (pv 2) pe_int (fun _ _ => rfl)) pe_int (nomark _)) (pss_one (ps_expr (pe_bm PySem.F.plainAttrs_list PySem.F.slot_list_pop PySem.F.type_list_pop mt_popAt (pv 2) (pa_cons pe_int pa_nil)))) pss_nil) (pss_one (ps_ret (pv 3)))))) pss_nil) (pss_cons (ps_set (i := 4) sc_l_draw.nd rfl (Or.inl rfl) (pe_op op_mod (pe_callTy call_int1 (by rfl) T.n_int (by decide +kernel) (pa_cons (pe_op op_mul (pe_op op_add (pe_ix ix_list (pv 0) pe_int (fun _ _ => rfl)) (pe_op op_mul pe_int (pe_ix ix_list (pv 0) pe_int (fun _ _ => rfl)))) pe_int) pa_nil)) pe_int)) (pss_cons (ps_set (i := 4) sc_l_draw.nd rfl (Or.inl rfl) (pe_op op_mod (pe_callTy call_int1 (by rfl) T.n_int (by decide +kernel) (pa_cons (pe_op op_mul (pv 4) (pe_op op_add (pe_op op_fdiv (pv 4) pe_int) pe_int)) pa_nil)) pe_int)) (pss_cons (ps_set (i := 4) sc_l_draw.nd rfl (Or.inl rfl) (pe_op op_mod (pe_callTy call_int1 (by rfl) T.n_int (by decide +kernel) (pa_cons (pe_op op_mul (pv 4) (pe_op op_add (pe_op op_fdiv (pv 4) pe_int) pe_int)) pa_nil)) pe_int)) (pss_one (ps_ret (pe_op op_mod (pe_callTy call_int1 (by rfl) T.n_int (by decide +kernel) (pa_cons (pe_op op_fdiv (pv 4) pe_int) pa_nil)) (pv 1)))))))))), ?_⟩
    obtain ⟨p, c, m, rfl, ⟨⟨i, j, hp⟩, ⟨ns, hc⟩, ne⟩, m0, m1, k⟩ := h.ex
    -- pool[1] = pool[1] + 1
    refine ⟨_, rfl, p, _, 1, _, rfl, rfl, SqL.of hp, rfl, _, _, rfl, rfl, ?_⟩
    refine ⟨_, rfl, p, _, 1, 1, rfl, rfl, hp, rfl, ?_⟩
    -- cells = pool[2]
    have hp1 : (upd H p (.lst [.int i, .int (j + 1), .ref c])) p = some (.lst [.int i, .int (j + 1), .ref c]) := upd_same
    have hc1 : (upd H p (.lst [.int i, .int (j + 1), .ref c])) c = some (.lst (ns.map V.int)) := by rw [upd_ne ne.symm]; exact hc
    have kp1 : Kept p c H (upd H p (.lst [.int i, .int (j + 1), .ref c])) := fun a o h1 _ e => by rw [upd_ne h1]; exact e
    show tSeq _ _ _ _ (upd H p (.lst [.int i, .int (j + 1), .ref c]))
    generalize upd H p (.lst [.int i, .int (j + 1), .ref c]) = H1 at hp1 hc1 kp1
    refine ⟨_, rfl, p, _, 2, _, rfl, rfl, SqL.of hp1, rfl, ?_⟩
    -- if len(cells) > 0
    refine ⟨_, rfl, c, _, rfl, .inl (SqL.of hc1), _, _, rfl, rfl, _, rfl, ?_⟩
    cases ns with
    | cons n r =>
      refine if_pos_of (decide_eq_true (by show (0 : Int) < ((n :: r).map V.int).length; simp only [List.length_map, List.length_cons]; omega)) ?_
      refine ⟨_, rfl, c, _, 0, _, rfl, rfl, SqL.of hc1, atI0 _ _, .inl ⟨_, rfl, _, rfl, _, _, rfl, rfl, m0, ?_⟩⟩
      refine ⟨_, rfl, c, _, 0, _, rfl, rfl, SqL.of hc1, atI0 _ _, .inl ⟨_, rfl, _, rfl, _, _, rfl, rfl, wide_div m0 (b := 100) (by omega) (by decide) (by decide), ?_⟩⟩
      refine ⟨_, rfl, c, _, 0, 0, rfl, rfl, hc1, ixN0 _, ?_⟩
      have hp2 : (upd H1 c (.lst ((n / m :: r).map V.int))) p = some (.lst [.int i, .int (j + 1), .ref c]) := by rw [upd_ne ne]; exact hp1
      have hc2 : (upd H1 c (.lst ((n / m :: r).map V.int))) c = some (.lst ((n / m :: r).map V.int)) := upd_same
      have kp2 : Kept p c H (upd H1 c (.lst ((n / m :: r).map V.int))) := fun a o h1 h2 e => by rw [upd_ne h2]; exact kp1 a o h1 h2 e
      show tSeq _ _ _ _ (upd H1 c (.lst ((n / m :: r).map V.int)))
      generalize upd H1 c (.lst ((n / m :: r).map V.int)) = H2 at hp2 hc2 kp2
      -- if cells[0] == 0: cells.pop(0)
      refine ⟨_, rfl, c, _, 0, _, rfl, rfl, SqL.of hc2, atI0 _ _, rfl, _, rfl, ?_⟩
      refine ite2 (fun _ => ?_) (fun _ => ?_)
      · refine ⟨_, rfl, .inl ⟨rfl, _, SqL.of hc2⟩, c, _, 0, 0, _, rfl, rfl, hc2, by decide, by decide, seqIx0 _, rfl, ?_⟩
        exact ⟨_, rfl, k _ _ (Int.emod_nonneg _ (by omega)) (Int.emod_lt_of_pos _ m0) ⟨⟨_, _, by rw [upd_ne ne]; exact hp2⟩, ⟨r, upd_same⟩, ne⟩ fun a o h1 h2 e => by rw [upd_ne h2]; exact kp2 a o h1 h2 e⟩
      · exact ⟨_, rfl, k _ _ (Int.emod_nonneg _ (by omega)) (Int.emod_lt_of_pos _ m0) ⟨⟨_, _, hp2⟩, ⟨_, hc2⟩, ne⟩ kp2⟩
    | nil =>
      refine if_neg_of (decide_eq_false (by show ¬ (0 : Int) < (([] : List Int).map V.int).length; simp)) ?_
      refine ⟨_, rfl, p, _, 0, _, rfl, rfl, SqL.of hp1, rfl, _, rfl, p, _, 1, _, rfl, rfl, SqL.of hp1, rfl, _, _, rfl, rfl, .inl (by constructor <;> decide), _, _, rfl, rfl, _, _, rfl, rfl, .inr (by constructor <;> decide), .inl ⟨_, rfl, _, _, rfl, rfl, (by show (0 : Int) < 2147483647; decide), ?_⟩⟩
      generalize hx : ((i + 7919 * (j + 1)) * 48271) % 2147483647 = x
      have hx0 : 0 ≤ x ∧ x < 2147483647 := by rw [← hx]; exact ⟨Int.emod_nonneg _ (by decide), Int.emod_lt_of_pos _ (by decide)⟩
      refine ⟨_, rfl, _, rfl, _, _, rfl, rfl, ⟨by decide, by decide⟩, _, _, rfl, rfl, _, _, rfl, rfl, .inl ⟨by omega, by omega⟩, .inl ⟨_, rfl, _, _, rfl, rfl, (by show (0 : Int) < 2147483647; decide), ?_⟩⟩
      generalize hy : (x * (x / 1009 + 69621)) % 2147483647 = y
      have hy0 : 0 ≤ y ∧ y < 2147483647 := by rw [← hy]; exact ⟨Int.emod_nonneg _ (by decide), Int.emod_lt_of_pos _ (by decide)⟩
      refine ⟨_, rfl, _, rfl, _, _, rfl, rfl, ⟨by decide, by decide⟩, _, _, rfl, rfl, _, _, rfl, rfl, .inl ⟨by omega, by omega⟩, .inl ⟨_, rfl, _, _, rfl, rfl, (by show (0 : Int) < 2147483399; decide), ?_⟩⟩
      generalize (y * (y / 2003 + 40692)) % 2147483399 = z
      exact ⟨_, rfl, _, _, rfl, rfl, ⟨by decide, by decide⟩, .inl ⟨_, rfl, _, rfl, _, _, rfl, rfl, m0, k _ _ (Int.emod_nonneg _ (by omega)) (Int.emod_lt_of_pos _ m0) ⟨⟨_, _, hp1⟩, ⟨_, hc1⟩, ne⟩ kp1⟩⟩
theorem ok_l_made (T : Txt K mg A D) : FnOk P w K mg base CX0 3 A.a_l_made D.d_l_made p_l_made (sp_l_made K A) := by
  have G_BadBook_init := ok_BadBook_init (P := P) (w := w) (base := base) T
  have G_NoWork_init := ok_NoWork_init (P := P) (w := w) (base := base) T
  have G_NoLot_init := ok_NoLot_init (P := P) (w := w) (base := base) T
  have G_NoGroup_init := ok_NoGroup_init (P := P) (w := w) (base := base) T
  have G_NoNumber_init := ok_NoNumber_init (P := P) (w := w) (base := base) T
  have G_NoRow_init := ok_NoRow_init (P := P) (w := w) (base := base) T
  have G_NoOrder_init := ok_NoOrder_init (P := P) (w := w) (base := base) T
  have G_NoPrices_init := ok_NoPrices_init (P := P) (w := w) (base := base) T
  have G_Over_init := ok_Over_init (P := P) (w := w) (base := base) T
  have G_NoLength_init := ok_NoLength_init (P := P) (w := w) (base := base) T
  have G_NothingDone_init := ok_NothingDone_init (P := P) (w := w) (base := base) T
  have G_NoLine_init := ok_NoLine_init (P := P) (w := w) (base := base) T
  have G_NoBounds_init := ok_NoBounds_init (P := P) (w := w) (base := base) T
  have G_TooMany_init := ok_TooMany_init (P := P) (w := w) (base := base) T
  have G_NoRule_init := ok_NoRule_init (P := P) (w := w) (base := base) T
  have G_TooLate_init := ok_TooLate_init (P := P) (w := w) (base := base) T
  have G_BadText_init := ok_BadText_init (P := P) (w := w) (base := base) T
  have G_NoName_init := ok_NoName_init (P := P) (w := w) (base := base) T
  refine T.F_l_made.ok sc_l_made (fun vs H Q E h => ?_) (fun cdv Ar outer s H vs Q E hr h => ?_)
  · exact h.len
  · have hu := hu_of hr
    refine ⟨_, (pss_cons (ps_set (i := 1) sc_l_made.nd rfl (Or.inl rfl) (pe_lst (pa_cons (pe_oexV0 T.e_BadBook T.i_BadBook T.t_BadBook G_BadBook_init (hr.mono (by decide)) (b_BadBook_init T) pass0 rfl T.g_BadBook) (pa_cons (pe_oexV0 T.e_NoWork T.i_NoWork T.t_NoWork G_NoWork_init (hr.mono (by decide)) (b_NoWork_init T) pass0 rfl T.g_NoWork) (pa_cons (pe_oexV0 T.e_NoLot T.i_NoLot T.t_NoLot G_NoLot_init (hr.mono (by decide)) (b_NoLot_init T) pass0 rfl T.g_NoLot) (pa_cons (pe_oexV0 T.e_NoGroup T.i_NoGroup T.t_NoGroup G_NoGroup_init (hr.mono (by decide)) (b_NoGroup_init T) pass0 rfl T.g_NoGroup) (pa_cons (pe_oexV0 T.e_NoNumber T.i_NoNumber T.t_NoNumber G_NoNumber_init (hr.mono (by decide)) (b_NoNumber_init T) pass0 rfl T.g_NoNumber) (pa_cons (pe_oexV0 T.e_NoRow T.i_NoRow T.t_NoRow G_NoRow_init (hr.mono (by decide)) (b_NoRow_init T) pass0 rfl T.g_NoRow) (pa_cons (pe_oexV0 T.e_NoOrder T.i_NoOrder T.t_NoOrder G_NoOrder_init (hr.mono (by decide)) (b_NoOrder_init T) pass0 rfl T.g_NoOrder) (pa_cons (pe_oexV0 T.e_NoPrices T.i_NoPrices T.t_NoPrices G_NoPrices_init (hr.mono (by decide)) (b_NoPrices_init T) pass0 rfl T.g_NoPrices) (pa_cons (pe_oexV0 T.e_Over T.i_Over T.t_Over G_Over_init (hr.mono (by decide)) (b_Over_init T) pass0 rfl T.g_Over) (pa_cons (pe_oexV0 T.e_NoLength T.i_NoLength T.t_NoLength G_NoLength_init (hr.mono (by decide)) (b_NoLength_init T) pass0 rfl T.g_NoLength) pa_nil)))))))))))) (pss_one (ps_ret (pe_op op_cat (pv 1) (pe_lst (pa_cons (pe_oexV0 T.e_NothingDone T.i_NothingDone T.t_NothingDone G_NothingDone_init (hr.mono (by decide)) (b_NothingDone_init T) pass0 rfl T.g_NothingDone) (pa_cons (pe_oexV0 T.e_NoLine T.i_NoLine T.t_NoLine G_NoLine_init (hr.mono (by decide)) (b_NoLine_init T) pass0 rfl T.g_NoLine) (pa_cons (pe_oexV0 T.e_NoBounds T.i_NoBounds T.t_NoBounds G_NoBounds_init (hr.mono (by decide)) (b_NoBounds_init T) pass0 rfl T.g_NoBounds) (pa_cons (pe_oexV T.e_TooMany T.i_TooMany T.t_TooMany G_TooMany_init (hr.mono (by decide)) (b_TooMany_init T) pass0 rfl T.g_TooMany (pa_cons (pv 0) pa_nil)) (pa_cons (pe_oexV T.e_NoRule T.i_NoRule T.t_NoRule G_NoRule_init (hr.mono (by decide)) (b_NoRule_init T) pass0 rfl T.g_NoRule (pa_cons (pv 0) pa_nil)) (pa_cons (pe_oexV T.e_TooLate T.i_TooLate T.t_TooLate G_TooLate_init (hr.mono (by decide)) (b_TooLate_init T) pass0 rfl T.g_TooLate (pa_cons (pv 0) pa_nil)) (pa_cons (pe_oexV T.e_BadText T.i_BadText T.t_BadText G_BadText_init (hr.mono (by decide)) (b_BadText_init T) pass0 rfl T.g_BadText (pa_cons (pv 0) pa_nil)) (pa_cons (pe_oexV T.e_NoName T.i_NoName T.t_NoName G_NoName_init (hr.mono (by decide)) (b_NoName_init T) pass0 rfl T.g_NoName (pa_cons (pv 0) pa_nil)) pa_nil))))))))))))), ?_⟩
    obtain ⟨v, rfl, k⟩ := h.ex
    have eH : Ex H H := Ex.refl _
    refine fun a0 n0 => ⟨_, rfl, rfl, ?_⟩
    have x0 : Ex H (L2.upd H a0 (exo a0 A.C_BadBook none)) := Ex.new n0
    have e0 : ErrAt (L2.upd H a0 (exo a0 A.C_BadBook none)) A.C_BadBook none (.ref a0) := ⟨a0, rfl, upd_same⟩
    generalize L2.upd H a0 (exo a0 A.C_BadBook none) = G1 at x0 e0 ⊢
    have eH := eH.trans x0
    clear x0
    refine fun a1 n1 => ⟨_, rfl, rfl, ?_⟩
    have x1 : Ex G1 (L2.upd G1 a1 (exo a1 A.C_NoWork none)) := Ex.new n1
    have e1 : ErrAt (L2.upd G1 a1 (exo a1 A.C_NoWork none)) A.C_NoWork none (.ref a1) := ⟨a1, rfl, upd_same⟩
    generalize L2.upd G1 a1 (exo a1 A.C_NoWork none) = G2 at x1 e1 ⊢
    have eH := eH.trans x1
    have e0 := e0.mono x1
    clear x1
    refine fun a2 n2 => ⟨_, rfl, rfl, ?_⟩
    have x2 : Ex G2 (L2.upd G2 a2 (exo a2 A.C_NoLot none)) := Ex.new n2
    have e2 : ErrAt (L2.upd G2 a2 (exo a2 A.C_NoLot none)) A.C_NoLot none (.ref a2) := ⟨a2, rfl, upd_same⟩
    generalize L2.upd G2 a2 (exo a2 A.C_NoLot none) = G3 at x2 e2 ⊢
    have eH := eH.trans x2
    have e0 := e0.mono x2
    have e1 := e1.mono x2
    clear x2
    refine fun a3 n3 => ⟨_, rfl, rfl, ?_⟩
    have x3 : Ex G3 (L2.upd G3 a3 (exo a3 A.C_NoGroup none)) := Ex.new n3
    have e3 : ErrAt (L2.upd G3 a3 (exo a3 A.C_NoGroup none)) A.C_NoGroup none (.ref a3) := ⟨a3, rfl, upd_same⟩
    generalize L2.upd G3 a3 (exo a3 A.C_NoGroup none) = G4 at x3 e3 ⊢
    have eH := eH.trans x3
    have e0 := e0.mono x3
    have e1 := e1.mono x3
    have e2 := e2.mono x3
    clear x3
    refine fun a4 n4 => ⟨_, rfl, rfl, ?_⟩
    have x4 : Ex G4 (L2.upd G4 a4 (exo a4 A.C_NoNumber none)) := Ex.new n4
    have e4 : ErrAt (L2.upd G4 a4 (exo a4 A.C_NoNumber none)) A.C_NoNumber none (.ref a4) := ⟨a4, rfl, upd_same⟩
    generalize L2.upd G4 a4 (exo a4 A.C_NoNumber none) = G5 at x4 e4 ⊢
    have eH := eH.trans x4
    have e0 := e0.mono x4
    have e1 := e1.mono x4
    have e2 := e2.mono x4
    have e3 := e3.mono x4
    clear x4
    refine fun a5 n5 => ⟨_, rfl, rfl, ?_⟩
    have x5 : Ex G5 (L2.upd G5 a5 (exo a5 A.C_NoRow none)) := Ex.new n5
    have e5 : ErrAt (L2.upd G5 a5 (exo a5 A.C_NoRow none)) A.C_NoRow none (.ref a5) := ⟨a5, rfl, upd_same⟩
    generalize L2.upd G5 a5 (exo a5 A.C_NoRow none) = G6 at x5 e5 ⊢
    have eH := eH.trans x5
    have e0 := e0.mono x5
    have e1 := e1.mono x5
    have e2 := e2.mono x5
    have e3 := e3.mono x5
    have e4 := e4.mono x5
    clear x5
    refine fun a6 n6 => ⟨_, rfl, rfl, ?_⟩
    have x6 : Ex G6 (L2.upd G6 a6 (exo a6 A.C_NoOrder none)) := Ex.new n6
    have e6 : ErrAt (L2.upd G6 a6 (exo a6 A.C_NoOrder none)) A.C_NoOrder none (.ref a6) := ⟨a6, rfl, upd_same⟩
    generalize L2.upd G6 a6 (exo a6 A.C_NoOrder none) = G7 at x6 e6 ⊢
    have eH := eH.trans x6
    have e0 := e0.mono x6
    have e1 := e1.mono x6
    have e2 := e2.mono x6
    have e3 := e3.mono x6
    have e4 := e4.mono x6
    have e5 := e5.mono x6
    clear x6
    refine fun a7 n7 => ⟨_, rfl, rfl, ?_⟩
    have x7 : Ex G7 (L2.upd G7 a7 (exo a7 A.C_NoPrices none)) := Ex.new n7
    have e7 : ErrAt (L2.upd G7 a7 (exo a7 A.C_NoPrices none)) A.C_NoPrices none (.ref a7) := ⟨a7, rfl, upd_same⟩
    generalize L2.upd G7 a7 (exo a7 A.C_NoPrices none) = G8 at x7 e7 ⊢
    have eH := eH.trans x7
    have e0 := e0.mono x7
    have e1 := e1.mono x7
    have e2 := e2.mono x7
    have e3 := e3.mono x7
    have e4 := e4.mono x7
    have e5 := e5.mono x7
    have e6 := e6.mono x7
    clear x7
    refine fun a8 n8 => ⟨_, rfl, rfl, ?_⟩
    have x8 : Ex G8 (L2.upd G8 a8 (exo a8 A.C_Over none)) := Ex.new n8
    have e8 : ErrAt (L2.upd G8 a8 (exo a8 A.C_Over none)) A.C_Over none (.ref a8) := ⟨a8, rfl, upd_same⟩
    generalize L2.upd G8 a8 (exo a8 A.C_Over none) = G9 at x8 e8 ⊢
    have eH := eH.trans x8
    have e0 := e0.mono x8
    have e1 := e1.mono x8
    have e2 := e2.mono x8
    have e3 := e3.mono x8
    have e4 := e4.mono x8
    have e5 := e5.mono x8
    have e6 := e6.mono x8
    have e7 := e7.mono x8
    clear x8
    refine fun a9 n9 => ⟨_, rfl, rfl, ?_⟩
    have x9 : Ex G9 (L2.upd G9 a9 (exo a9 A.C_NoLength none)) := Ex.new n9
    have e9 : ErrAt (L2.upd G9 a9 (exo a9 A.C_NoLength none)) A.C_NoLength none (.ref a9) := ⟨a9, rfl, upd_same⟩
    generalize L2.upd G9 a9 (exo a9 A.C_NoLength none) = G10 at x9 e9 ⊢
    have eH := eH.trans x9
    have e0 := e0.mono x9
    have e1 := e1.mono x9
    have e2 := e2.mono x9
    have e3 := e3.mono x9
    have e4 := e4.mono x9
    have e5 := e5.mono x9
    have e6 := e6.mono x9
    have e7 := e7.mono x9
    have e8 := e8.mono x9
    clear x9
    refine ⟨(by show 10 ≤ sizeLine; decide), fun l nl => ?_⟩
    have xl : Ex G10 (L2.upd G10 l (.lst [.ref a0, .ref a1, .ref a2, .ref a3, .ref a4, .ref a5, .ref a6, .ref a7, .ref a8, .ref a9])) := Ex.new nl
    have hl : (L2.upd G10 l (.lst [.ref a0, .ref a1, .ref a2, .ref a3, .ref a4, .ref a5, .ref a6, .ref a7, .ref a8, .ref a9])) l = some (.lst [.ref a0, .ref a1, .ref a2, .ref a3, .ref a4, .ref a5, .ref a6, .ref a7, .ref a8, .ref a9]) := upd_same
    generalize L2.upd G10 l (.lst [.ref a0, .ref a1, .ref a2, .ref a3, .ref a4, .ref a5, .ref a6, .ref a7, .ref a8, .ref a9]) = GL at xl hl ⊢
    have eH := eH.trans xl
    have e0 := e0.mono xl
    have e1 := e1.mono xl
    have e2 := e2.mono xl
    have e3 := e3.mono xl
    have e4 := e4.mono xl
    have e5 := e5.mono xl
    have e6 := e6.mono xl
    have e7 := e7.mono xl
    have e8 := e8.mono xl
    have e9 := e9.mono xl
    refine ⟨_, rfl, ?_⟩
    refine fun a10 n10 => ⟨_, rfl, rfl, ?_⟩
    have x10 : Ex GL (L2.upd GL a10 (exo a10 A.C_NothingDone none)) := Ex.new n10
    have e10 : ErrAt (L2.upd GL a10 (exo a10 A.C_NothingDone none)) A.C_NothingDone none (.ref a10) := ⟨a10, rfl, upd_same⟩
    generalize L2.upd GL a10 (exo a10 A.C_NothingDone none) = G11 at x10 e10 ⊢
    have eH := eH.trans x10
    have e0 := e0.mono x10
    have e1 := e1.mono x10
    have e2 := e2.mono x10
    have e3 := e3.mono x10
    have e4 := e4.mono x10
    have e5 := e5.mono x10
    have e6 := e6.mono x10
    have e7 := e7.mono x10
    have e8 := e8.mono x10
    have e9 := e9.mono x10
    have hl := x10 _ _ hl
    clear x10
    refine fun a11 n11 => ⟨_, rfl, rfl, ?_⟩
    have x11 : Ex G11 (L2.upd G11 a11 (exo a11 A.C_NoLine none)) := Ex.new n11
    have e11 : ErrAt (L2.upd G11 a11 (exo a11 A.C_NoLine none)) A.C_NoLine none (.ref a11) := ⟨a11, rfl, upd_same⟩
    generalize L2.upd G11 a11 (exo a11 A.C_NoLine none) = G12 at x11 e11 ⊢
    have eH := eH.trans x11
    have e0 := e0.mono x11
    have e1 := e1.mono x11
    have e2 := e2.mono x11
    have e3 := e3.mono x11
    have e4 := e4.mono x11
    have e5 := e5.mono x11
    have e6 := e6.mono x11
    have e7 := e7.mono x11
    have e8 := e8.mono x11
    have e9 := e9.mono x11
    have e10 := e10.mono x11
    have hl := x11 _ _ hl
    clear x11
    refine fun a12 n12 => ⟨_, rfl, rfl, ?_⟩
    have x12 : Ex G12 (L2.upd G12 a12 (exo a12 A.C_NoBounds none)) := Ex.new n12
    have e12 : ErrAt (L2.upd G12 a12 (exo a12 A.C_NoBounds none)) A.C_NoBounds none (.ref a12) := ⟨a12, rfl, upd_same⟩
    generalize L2.upd G12 a12 (exo a12 A.C_NoBounds none) = G13 at x12 e12 ⊢
    have eH := eH.trans x12
    have e0 := e0.mono x12
    have e1 := e1.mono x12
    have e2 := e2.mono x12
    have e3 := e3.mono x12
    have e4 := e4.mono x12
    have e5 := e5.mono x12
    have e6 := e6.mono x12
    have e7 := e7.mono x12
    have e8 := e8.mono x12
    have e9 := e9.mono x12
    have e10 := e10.mono x12
    have e11 := e11.mono x12
    have hl := x12 _ _ hl
    clear x12
    refine ⟨_, rfl, (by show 1 ≤ 1000; decide), fun a13 n13 => ⟨a13, A.C_TooMany, v, rfl, T.e_TooMany, T.nf_TooMany, upd_same, fun d13 nd13 ne13 => ⟨rfl, ?_⟩⟩⟩
    have x13 : Ex G13 (L2.upd (L2.upd (L2.upd G13 a13 (exo a13 A.C_TooMany none)) d13 (exd d13 [("most", v)])) a13 (exo a13 A.C_TooMany (some d13))) := ((Ex.new n13).trans (Ex.new nd13)).mut n13
    have e13 : ErrAt (L2.upd (L2.upd (L2.upd G13 a13 (exo a13 A.C_TooMany none)) d13 (exd d13 [("most", v)])) a13 (exo a13 A.C_TooMany (some d13))) A.C_TooMany (some ("most", v)) (.ref a13) := ⟨a13, rfl, d13, upd_same, by rw [upd_ne ne13]; exact upd_same⟩
    generalize L2.upd (L2.upd (L2.upd G13 a13 (exo a13 A.C_TooMany none)) d13 (exd d13 [("most", v)])) a13 (exo a13 A.C_TooMany (some d13)) = G14 at x13 e13 ⊢
    have eH := eH.trans x13
    have e0 := e0.mono x13
    have e1 := e1.mono x13
    have e2 := e2.mono x13
    have e3 := e3.mono x13
    have e4 := e4.mono x13
    have e5 := e5.mono x13
    have e6 := e6.mono x13
    have e7 := e7.mono x13
    have e8 := e8.mono x13
    have e9 := e9.mono x13
    have e10 := e10.mono x13
    have e11 := e11.mono x13
    have e12 := e12.mono x13
    have hl := x13 _ _ hl
    clear x13
    refine ⟨_, rfl, (by show 1 ≤ 1000; decide), fun a14 n14 => ⟨a14, A.C_NoRule, v, rfl, T.e_NoRule, T.nf_NoRule, upd_same, fun d14 nd14 ne14 => ⟨rfl, ?_⟩⟩⟩
    have x14 : Ex G14 (L2.upd (L2.upd (L2.upd G14 a14 (exo a14 A.C_NoRule none)) d14 (exd d14 [("group", v)])) a14 (exo a14 A.C_NoRule (some d14))) := ((Ex.new n14).trans (Ex.new nd14)).mut n14
    have e14 : ErrAt (L2.upd (L2.upd (L2.upd G14 a14 (exo a14 A.C_NoRule none)) d14 (exd d14 [("group", v)])) a14 (exo a14 A.C_NoRule (some d14))) A.C_NoRule (some ("group", v)) (.ref a14) := ⟨a14, rfl, d14, upd_same, by rw [upd_ne ne14]; exact upd_same⟩
    generalize L2.upd (L2.upd (L2.upd G14 a14 (exo a14 A.C_NoRule none)) d14 (exd d14 [("group", v)])) a14 (exo a14 A.C_NoRule (some d14)) = G15 at x14 e14 ⊢
    have eH := eH.trans x14
    have e0 := e0.mono x14
    have e1 := e1.mono x14
    have e2 := e2.mono x14
    have e3 := e3.mono x14
    have e4 := e4.mono x14
    have e5 := e5.mono x14
    have e6 := e6.mono x14
    have e7 := e7.mono x14
    have e8 := e8.mono x14
    have e9 := e9.mono x14
    have e10 := e10.mono x14
    have e11 := e11.mono x14
    have e12 := e12.mono x14
    have e13 := e13.mono x14
    have hl := x14 _ _ hl
    clear x14
    refine ⟨_, rfl, (by show 1 ≤ 1000; decide), fun a15 n15 => ⟨a15, A.C_TooLate, v, rfl, T.e_TooLate, T.nf_TooLate, upd_same, fun d15 nd15 ne15 => ⟨rfl, ?_⟩⟩⟩
    have x15 : Ex G15 (L2.upd (L2.upd (L2.upd G15 a15 (exo a15 A.C_TooLate none)) d15 (exd d15 [("most", v)])) a15 (exo a15 A.C_TooLate (some d15))) := ((Ex.new n15).trans (Ex.new nd15)).mut n15
    have e15 : ErrAt (L2.upd (L2.upd (L2.upd G15 a15 (exo a15 A.C_TooLate none)) d15 (exd d15 [("most", v)])) a15 (exo a15 A.C_TooLate (some d15))) A.C_TooLate (some ("most", v)) (.ref a15) := ⟨a15, rfl, d15, upd_same, by rw [upd_ne ne15]; exact upd_same⟩
    generalize L2.upd (L2.upd (L2.upd G15 a15 (exo a15 A.C_TooLate none)) d15 (exd d15 [("most", v)])) a15 (exo a15 A.C_TooLate (some d15)) = G16 at x15 e15 ⊢
    have eH := eH.trans x15
    have e0 := e0.mono x15
    have e1 := e1.mono x15
    have e2 := e2.mono x15
    have e3 := e3.mono x15
    have e4 := e4.mono x15
    have e5 := e5.mono x15
    have e6 := e6.mono x15
    have e7 := e7.mono x15
    have e8 := e8.mono x15
    have e9 := e9.mono x15
    have e10 := e10.mono x15
    have e11 := e11.mono x15
    have e12 := e12.mono x15
    have e13 := e13.mono x15
    have e14 := e14.mono x15
    have hl := x15 _ _ hl
    clear x15
    refine ⟨_, rfl, (by show 1 ≤ 1000; decide), fun a16 n16 => ⟨a16, A.C_BadText, v, rfl, T.e_BadText, T.nf_BadText, upd_same, fun d16 nd16 ne16 => ⟨rfl, ?_⟩⟩⟩
    have x16 : Ex G16 (L2.upd (L2.upd (L2.upd G16 a16 (exo a16 A.C_BadText none)) d16 (exd d16 [("line", v)])) a16 (exo a16 A.C_BadText (some d16))) := ((Ex.new n16).trans (Ex.new nd16)).mut n16
    have e16 : ErrAt (L2.upd (L2.upd (L2.upd G16 a16 (exo a16 A.C_BadText none)) d16 (exd d16 [("line", v)])) a16 (exo a16 A.C_BadText (some d16))) A.C_BadText (some ("line", v)) (.ref a16) := ⟨a16, rfl, d16, upd_same, by rw [upd_ne ne16]; exact upd_same⟩
    generalize L2.upd (L2.upd (L2.upd G16 a16 (exo a16 A.C_BadText none)) d16 (exd d16 [("line", v)])) a16 (exo a16 A.C_BadText (some d16)) = G17 at x16 e16 ⊢
    have eH := eH.trans x16
    have e0 := e0.mono x16
    have e1 := e1.mono x16
    have e2 := e2.mono x16
    have e3 := e3.mono x16
    have e4 := e4.mono x16
    have e5 := e5.mono x16
    have e6 := e6.mono x16
    have e7 := e7.mono x16
    have e8 := e8.mono x16
    have e9 := e9.mono x16
    have e10 := e10.mono x16
    have e11 := e11.mono x16
    have e12 := e12.mono x16
    have e13 := e13.mono x16
    have e14 := e14.mono x16
    have e15 := e15.mono x16
    have hl := x16 _ _ hl
    clear x16
    refine ⟨_, rfl, (by show 1 ≤ 1000; decide), fun a17 n17 => ⟨a17, A.C_NoName, v, rfl, T.e_NoName, T.nf_NoName, upd_same, fun d17 nd17 ne17 => ⟨rfl, ?_⟩⟩⟩
    have x17 : Ex G17 (L2.upd (L2.upd (L2.upd G17 a17 (exo a17 A.C_NoName none)) d17 (exd d17 [("name", v)])) a17 (exo a17 A.C_NoName (some d17))) := ((Ex.new n17).trans (Ex.new nd17)).mut n17
    have e17 : ErrAt (L2.upd (L2.upd (L2.upd G17 a17 (exo a17 A.C_NoName none)) d17 (exd d17 [("name", v)])) a17 (exo a17 A.C_NoName (some d17))) A.C_NoName (some ("name", v)) (.ref a17) := ⟨a17, rfl, d17, upd_same, by rw [upd_ne ne17]; exact upd_same⟩
    generalize L2.upd (L2.upd (L2.upd G17 a17 (exo a17 A.C_NoName none)) d17 (exd d17 [("name", v)])) a17 (exo a17 A.C_NoName (some d17)) = G18 at x17 e17 ⊢
    have eH := eH.trans x17
    have e0 := e0.mono x17
    have e1 := e1.mono x17
    have e2 := e2.mono x17
    have e3 := e3.mono x17
    have e4 := e4.mono x17
    have e5 := e5.mono x17
    have e6 := e6.mono x17
    have e7 := e7.mono x17
    have e8 := e8.mono x17
    have e9 := e9.mono x17
    have e10 := e10.mono x17
    have e11 := e11.mono x17
    have e12 := e12.mono x17
    have e13 := e13.mono x17
    have e14 := e14.mono x17
    have e15 := e15.mono x17
    have e16 := e16.mono x17
    have hl := x17 _ _ hl
    clear x17
    refine ⟨(by show 8 ≤ sizeLine; decide), fun l2 nl2 => ?_⟩
    have x2 : Ex G18 (L2.upd G18 l2 (.lst [.ref a10, .ref a11, .ref a12, .ref a13, .ref a14, .ref a15, .ref a16, .ref a17])) := Ex.new nl2
    refine ⟨l, l2, _, _, rfl, rfl, x2 _ _ hl, upd_same, (by show 18 ≤ sizeLine; decide), fun l3 nl3 => k l3 [.ref a0, .ref a1, .ref a2, .ref a3, .ref a4, .ref a5, .ref a6, .ref a7, .ref a8, .ref a9, .ref a10, .ref a11, .ref a12, .ref a13, .ref a14, .ref a15, .ref a16, .ref a17] _ ((eH.trans x2).trans (Ex.new nl3)) (by rw [upd_same] <;> rfl) rfl fun i x C f hx hC hf => ?_⟩
    have x3 := x2.trans (Ex.new nl3 (o := .lst ([.ref a0, .ref a1, .ref a2, .ref a3, .ref a4, .ref a5, .ref a6, .ref a7, .ref a8, .ref a9] ++ [.ref a10, .ref a11, .ref a12, .ref a13, .ref a14, .ref a15, .ref a16, .ref a17])))
    match i, hx, hC, hf with
    | 0, hx, hC, hf =>
      obtain rfl : V.ref a0 = x := Option.some.inj hx
      obtain rfl : A.C_BadBook = C := Option.some.inj hC
      obtain rfl : (none : Option (Str × V)) = f := Option.some.inj hf
      exact e0.mono x3
    | 1, hx, hC, hf =>
      obtain rfl : V.ref a1 = x := Option.some.inj hx
      obtain rfl : A.C_NoWork = C := Option.some.inj hC
      obtain rfl : (none : Option (Str × V)) = f := Option.some.inj hf
      exact e1.mono x3
    | 2, hx, hC, hf =>
      obtain rfl : V.ref a2 = x := Option.some.inj hx
      obtain rfl : A.C_NoLot = C := Option.some.inj hC
      obtain rfl : (none : Option (Str × V)) = f := Option.some.inj hf
      exact e2.mono x3
    | 3, hx, hC, hf =>
      obtain rfl : V.ref a3 = x := Option.some.inj hx
      obtain rfl : A.C_NoGroup = C := Option.some.inj hC
      obtain rfl : (none : Option (Str × V)) = f := Option.some.inj hf
      exact e3.mono x3
    | 4, hx, hC, hf =>
      obtain rfl : V.ref a4 = x := Option.some.inj hx
      obtain rfl : A.C_NoNumber = C := Option.some.inj hC
      obtain rfl : (none : Option (Str × V)) = f := Option.some.inj hf
      exact e4.mono x3
    | 5, hx, hC, hf =>
      obtain rfl : V.ref a5 = x := Option.some.inj hx
      obtain rfl : A.C_NoRow = C := Option.some.inj hC
      obtain rfl : (none : Option (Str × V)) = f := Option.some.inj hf
      exact e5.mono x3
    | 6, hx, hC, hf =>
      obtain rfl : V.ref a6 = x := Option.some.inj hx
      obtain rfl : A.C_NoOrder = C := Option.some.inj hC
      obtain rfl : (none : Option (Str × V)) = f := Option.some.inj hf
      exact e6.mono x3
    | 7, hx, hC, hf =>
      obtain rfl : V.ref a7 = x := Option.some.inj hx
      obtain rfl : A.C_NoPrices = C := Option.some.inj hC
      obtain rfl : (none : Option (Str × V)) = f := Option.some.inj hf
      exact e7.mono x3
    | 8, hx, hC, hf =>
      obtain rfl : V.ref a8 = x := Option.some.inj hx
      obtain rfl : A.C_Over = C := Option.some.inj hC
      obtain rfl : (none : Option (Str × V)) = f := Option.some.inj hf
      exact e8.mono x3
    | 9, hx, hC, hf =>
      obtain rfl : V.ref a9 = x := Option.some.inj hx
      obtain rfl : A.C_NoLength = C := Option.some.inj hC
      obtain rfl : (none : Option (Str × V)) = f := Option.some.inj hf
      exact e9.mono x3
    | 10, hx, hC, hf =>
      obtain rfl : V.ref a10 = x := Option.some.inj hx
      obtain rfl : A.C_NothingDone = C := Option.some.inj hC
      obtain rfl : (none : Option (Str × V)) = f := Option.some.inj hf
      exact e10.mono x3
    | 11, hx, hC, hf =>
      obtain rfl : V.ref a11 = x := Option.some.inj hx
      obtain rfl : A.C_NoLine = C := Option.some.inj hC
      obtain rfl : (none : Option (Str × V)) = f := Option.some.inj hf
      exact e11.mono x3
    | 12, hx, hC, hf =>
      obtain rfl : V.ref a12 = x := Option.some.inj hx
      obtain rfl : A.C_NoBounds = C := Option.some.inj hC
      obtain rfl : (none : Option (Str × V)) = f := Option.some.inj hf
      exact e12.mono x3
    | 13, hx, hC, hf =>
      obtain rfl : V.ref a13 = x := Option.some.inj hx
      obtain rfl : A.C_TooMany = C := Option.some.inj hC
      obtain rfl : (some ("most", v) : Option (Str × V)) = f := Option.some.inj hf
      exact e13.mono x3
    | 14, hx, hC, hf =>
      obtain rfl : V.ref a14 = x := Option.some.inj hx
      obtain rfl : A.C_NoRule = C := Option.some.inj hC
      obtain rfl : (some ("group", v) : Option (Str × V)) = f := Option.some.inj hf
      exact e14.mono x3
    | 15, hx, hC, hf =>
      obtain rfl : V.ref a15 = x := Option.some.inj hx
      obtain rfl : A.C_TooLate = C := Option.some.inj hC
      obtain rfl : (some ("most", v) : Option (Str × V)) = f := Option.some.inj hf
      exact e15.mono x3
    | 16, hx, hC, hf =>
      obtain rfl : V.ref a16 = x := Option.some.inj hx
      obtain rfl : A.C_BadText = C := Option.some.inj hC
      obtain rfl : (some ("line", v) : Option (Str × V)) = f := Option.some.inj hf
      exact e16.mono x3
    | 17, hx, hC, hf =>
      obtain rfl : V.ref a17 = x := Option.some.inj hx
      obtain rfl : A.C_NoName = C := Option.some.inj hC
      obtain rfl : (some ("name", v) : Option (Str × V)) = f := Option.some.inj hf
      exact e17.mono x3
    | n + 18, hx, _, _ => simp at hx
theorem ok_l_kinds (T : Txt K mg A D) : FnOk P w K mg base CX0 1 A.a_l_kinds D.d_l_kinds p_l_kinds (sp_l_kinds K A) := by
  refine T.F_l_kinds.ok sc_l_kinds (fun vs H Q E h => ?_) (fun cdv Ar outer s H vs Q E hr h => ?_)
  · exact h.len
  · have hu := hu_of hr
    refine ⟨_, (pss_cons (ps_set (i := 1) sc_l_kinds.nd rfl (Or.inl rfl) (pe_lst (pa_cons (pe_callB call_isX (by rfl) T.n_isinstance (by decide +kernel) (pa_cons (pv 0) (pa_cons (pe_glob (v := .ref A.C_BadBook) rfl T.g_BadBook rfl) pa_nil))) (pa_cons (pe_callB call_isX (by rfl) T.n_isinstance (by decide +kernel) (pa_cons (pv 0) (pa_cons (pe_glob (v := .ref A.C_NoWork) rfl T.g_NoWork rfl) pa_nil))) (pa_cons (pe_callB call_isX (by rfl) T.n_isinstance (by decide +kernel) (pa_cons (pv 0) (pa_cons (pe_glob (v := .ref A.C_NoLot) rfl T.g_NoLot rfl) pa_nil))) (pa_cons (pe_callB call_isX (by rfl) T.n_isinstance (by decide +kernel) (pa_cons (pv 0) (pa_cons (pe_glob (v := .ref A.C_NoGroup) rfl T.g_NoGroup rfl) pa_nil))) pa_nil)))))) (pss_cons (ps_set (i := 1) sc_l_kinds.nd rfl (Or.inl rfl) (pe_op op_cat (pv 1) (pe_lst (pa_cons (pe_callB call_isX (by rfl) T.n_isinstance (by decide +kernel) (pa_cons (pv 0) (pa_cons (pe_glob (v := .ref A.C_NoNumber) rfl T.g_NoNumber rfl) pa_nil))) (pa_cons (pe_callB call_isX (by rfl) T.n_isinstance (by decide +kernel) (pa_cons (pv 0) (pa_cons (pe_glob (v := .ref A.C_NoRow) rfl T.g_NoRow rfl) pa_nil))) (pa_cons (pe_callB call_isX (by rfl) T.n_isinstance (by decide +kernel) (pa_cons (pv 0) (pa_cons (pe_glob (v := .ref A.C_NoOrder) rfl T.g_NoOrder rfl) pa_nil))) (pa_cons (pe_callB call_isX (by rfl) T.n_isinstance (by decide +kernel) (pa_cons (pv 0) (pa_cons (pe_glob (v := .ref A.C_NoPrices) rfl T.g_NoPrices rfl) pa_nil))) pa_nil))))))) (pss_cons (ps_set (i := 1) sc_l_kinds.nd rfl (Or.inl rfl) (pe_op op_cat (pv 1) (pe_lst (pa_cons (pe_callB call_isX (by rfl) T.n_isinstance (by decide +kernel) (pa_cons (pv 0) (pa_cons (pe_glob (v := .ref A.C_Over) rfl T.g_Over rfl) pa_nil))) (pa_cons (pe_callB call_isX (by rfl) T.n_isinstance (by decide +kernel) (pa_cons (pv 0) (pa_cons (pe_glob (v := .ref A.C_NoLength) rfl T.g_NoLength rfl) pa_nil))) (pa_cons (pe_callB call_isX (by rfl) T.n_isinstance (by decide +kernel) (pa_cons (pv 0) (pa_cons (pe_glob (v := .ref A.C_NothingDone) rfl T.g_NothingDone rfl) pa_nil))) (pa_cons (pe_callB call_isX (by rfl) T.n_isinstance (by decide +kernel) (pa_cons (pv 0) (pa_cons (pe_glob (v := .ref A.C_NoLine) rfl T.g_NoLine rfl) pa_nil))) pa_nil))))))) (pss_cons (ps_set (i := 1) sc_l_kinds.nd rfl (Or.inl rfl) (pe_op op_cat (pv 1) (pe_lst (pa_cons (pe_callB call_isX (by rfl) T.n_isinstance (by decide +kernel) (pa_cons (pv 0) (pa_cons (pe_glob (v := .ref A.C_NoBounds) rfl T.g_NoBounds rfl) pa_nil))) (pa_cons (pe_callB call_isX (by rfl) T.n_isinstance (by decide +kernel) (pa_cons (pv 0) (pa_cons (pe_glob (v := .ref A.C_TooMany) rfl T.g_TooMany rfl) pa_nil))) (pa_cons (pe_callB call_isX (by rfl) T.n_isinstance (by decide +kernel) (pa_cons (pv 0) (pa_cons (pe_glob (v := .ref A.C_NoRule) rfl T.g_NoRule rfl) pa_nil))) (pa_cons (pe_callB call_isX (by rfl) T.n_isinstance (by decide +kernel) (pa_cons (pv 0) (pa_cons (pe_glob (v := .ref A.C_TooLate) rfl T.g_TooLate rfl) pa_nil))) (pa_cons (pe_callB call_isX (by rfl) T.n_isinstance (by decide +kernel) (pa_cons (pv 0) (pa_cons (pe_glob (v := .ref A.C_BadText) rfl T.g_BadText rfl) pa_nil))) pa_nil)))))))) (pss_one (ps_ret (pe_op op_cat (pv 1) (pe_lst (pa_cons (pe_callB call_isX (by rfl) T.n_isinstance (by decide +kernel) (pa_cons (pv 0) (pa_cons (pe_glob (v := .ref A.C_NoName) rfl T.g_NoName rfl) pa_nil))) pa_nil))))))))), ?_⟩
    obtain ⟨x, rfl, C, f, hC, hx, k⟩ := h.ex
    obtain ⟨a, d, rfl, ha, hd⟩ := hx.at
    have kit : ∀ D ∈ errs A, PySem.W.kitOne K (.ref C) (.ref D) = some (decide (C = D)) := fun D hD => T.es.kit hC hD
    have xc := T.es.xc C hC
    clear hx
    have eH : Ex H H := Ex.refl _
    refine ⟨_, rfl, a, C, d, _, _, _, rfl, ClsV.own _, ha, hd, xc, kit A.C_BadBook (by simp [errs]), _, rfl, a, C, d, _, _, _, rfl, ClsV.own _, ha, hd, xc, kit A.C_NoWork (by simp [errs]), _, rfl, a, C, d, _, _, _, rfl, ClsV.own _, ha, hd, xc, kit A.C_NoLot (by simp [errs]), _, rfl, a, C, d, _, _, _, rfl, ClsV.own _, ha, hd, xc, kit A.C_NoGroup (by simp [errs]), (by show 4 ≤ sizeLine; decide), fun l0 nl0 => ?_⟩
    have x0 : Ex H (L2.upd H l0 (.lst [.bl (decide (C = A.C_BadBook)), .bl (decide (C = A.C_NoWork)), .bl (decide (C = A.C_NoLot)), .bl (decide (C = A.C_NoGroup))])) := Ex.new nl0
    have h0 : (L2.upd H l0 (.lst [.bl (decide (C = A.C_BadBook)), .bl (decide (C = A.C_NoWork)), .bl (decide (C = A.C_NoLot)), .bl (decide (C = A.C_NoGroup))])) l0 = some (.lst [.bl (decide (C = A.C_BadBook)), .bl (decide (C = A.C_NoWork)), .bl (decide (C = A.C_NoLot)), .bl (decide (C = A.C_NoGroup))]) := upd_same
    generalize L2.upd H l0 (.lst [.bl (decide (C = A.C_BadBook)), .bl (decide (C = A.C_NoWork)), .bl (decide (C = A.C_NoLot)), .bl (decide (C = A.C_NoGroup))]) = G0 at x0 h0 ⊢
    have eH := eH.trans x0
    have ha := x0 _ _ ha
    have hd : ∀ dx, d = some dx → ∃ fs, G0 dx = some (exd dx fs) := fun dx e => by
      obtain ⟨fs, q⟩ := hd dx e
      exact ⟨fs, x0 _ _ q⟩
    refine ⟨_, rfl, _, rfl, a, C, d, _, _, _, rfl, ClsV.own _, ha, hd, xc, kit A.C_NoNumber (by simp [errs]), _, rfl, a, C, d, _, _, _, rfl, ClsV.own _, ha, hd, xc, kit A.C_NoRow (by simp [errs]), _, rfl, a, C, d, _, _, _, rfl, ClsV.own _, ha, hd, xc, kit A.C_NoOrder (by simp [errs]), _, rfl, a, C, d, _, _, _, rfl, ClsV.own _, ha, hd, xc, kit A.C_NoPrices (by simp [errs]), (by show 4 ≤ sizeLine; decide), fun m1 nm1 => ?_⟩
    have y1 : Ex G0 (L2.upd G0 m1 (.lst [.bl (decide (C = A.C_NoNumber)), .bl (decide (C = A.C_NoRow)), .bl (decide (C = A.C_NoOrder)), .bl (decide (C = A.C_NoPrices))])) := Ex.new nm1
    have g1 : (L2.upd G0 m1 (.lst [.bl (decide (C = A.C_NoNumber)), .bl (decide (C = A.C_NoRow)), .bl (decide (C = A.C_NoOrder)), .bl (decide (C = A.C_NoPrices))])) m1 = some (.lst [.bl (decide (C = A.C_NoNumber)), .bl (decide (C = A.C_NoRow)), .bl (decide (C = A.C_NoOrder)), .bl (decide (C = A.C_NoPrices))]) := upd_same
    generalize L2.upd G0 m1 (.lst [.bl (decide (C = A.C_NoNumber)), .bl (decide (C = A.C_NoRow)), .bl (decide (C = A.C_NoOrder)), .bl (decide (C = A.C_NoPrices))]) = J1 at y1 g1 ⊢
    refine ⟨l0, m1, _, _, rfl, rfl, y1 _ _ h0, g1, (by show 8 ≤ sizeLine; decide), fun l1 nl1 => ?_⟩
    have x1 : Ex G0 (L2.upd J1 l1 (.lst ([.bl (decide (C = A.C_BadBook)), .bl (decide (C = A.C_NoWork)), .bl (decide (C = A.C_NoLot)), .bl (decide (C = A.C_NoGroup))] ++ [.bl (decide (C = A.C_NoNumber)), .bl (decide (C = A.C_NoRow)), .bl (decide (C = A.C_NoOrder)), .bl (decide (C = A.C_NoPrices))]))) := y1.trans (Ex.new nl1)
    have h1 : (L2.upd J1 l1 (.lst ([.bl (decide (C = A.C_BadBook)), .bl (decide (C = A.C_NoWork)), .bl (decide (C = A.C_NoLot)), .bl (decide (C = A.C_NoGroup))] ++ [.bl (decide (C = A.C_NoNumber)), .bl (decide (C = A.C_NoRow)), .bl (decide (C = A.C_NoOrder)), .bl (decide (C = A.C_NoPrices))]))) l1 = some (.lst [.bl (decide (C = A.C_BadBook)), .bl (decide (C = A.C_NoWork)), .bl (decide (C = A.C_NoLot)), .bl (decide (C = A.C_NoGroup)), .bl (decide (C = A.C_NoNumber)), .bl (decide (C = A.C_NoRow)), .bl (decide (C = A.C_NoOrder)), .bl (decide (C = A.C_NoPrices))]) := upd_same
    generalize L2.upd J1 l1 (.lst ([.bl (decide (C = A.C_BadBook)), .bl (decide (C = A.C_NoWork)), .bl (decide (C = A.C_NoLot)), .bl (decide (C = A.C_NoGroup))] ++ [.bl (decide (C = A.C_NoNumber)), .bl (decide (C = A.C_NoRow)), .bl (decide (C = A.C_NoOrder)), .bl (decide (C = A.C_NoPrices))])) = G1 at x1 h1 ⊢
    have eH := eH.trans x1
    have ha := x1 _ _ ha
    have hd : ∀ dx, d = some dx → ∃ fs, G1 dx = some (exd dx fs) := fun dx e => by
      obtain ⟨fs, q⟩ := hd dx e
      exact ⟨fs, x1 _ _ q⟩
    refine ⟨_, rfl, _, rfl, a, C, d, _, _, _, rfl, ClsV.own _, ha, hd, xc, kit A.C_Over (by simp [errs]), _, rfl, a, C, d, _, _, _, rfl, ClsV.own _, ha, hd, xc, kit A.C_NoLength (by simp [errs]), _, rfl, a, C, d, _, _, _, rfl, ClsV.own _, ha, hd, xc, kit A.C_NothingDone (by simp [errs]), _, rfl, a, C, d, _, _, _, rfl, ClsV.own _, ha, hd, xc, kit A.C_NoLine (by simp [errs]), (by show 4 ≤ sizeLine; decide), fun m2 nm2 => ?_⟩
    have y2 : Ex G1 (L2.upd G1 m2 (.lst [.bl (decide (C = A.C_Over)), .bl (decide (C = A.C_NoLength)), .bl (decide (C = A.C_NothingDone)), .bl (decide (C = A.C_NoLine))])) := Ex.new nm2
    have g2 : (L2.upd G1 m2 (.lst [.bl (decide (C = A.C_Over)), .bl (decide (C = A.C_NoLength)), .bl (decide (C = A.C_NothingDone)), .bl (decide (C = A.C_NoLine))])) m2 = some (.lst [.bl (decide (C = A.C_Over)), .bl (decide (C = A.C_NoLength)), .bl (decide (C = A.C_NothingDone)), .bl (decide (C = A.C_NoLine))]) := upd_same
    generalize L2.upd G1 m2 (.lst [.bl (decide (C = A.C_Over)), .bl (decide (C = A.C_NoLength)), .bl (decide (C = A.C_NothingDone)), .bl (decide (C = A.C_NoLine))]) = J2 at y2 g2 ⊢
    refine ⟨l1, m2, _, _, rfl, rfl, y2 _ _ h1, g2, (by show 12 ≤ sizeLine; decide), fun l2 nl2 => ?_⟩
    have x2 : Ex G1 (L2.upd J2 l2 (.lst ([.bl (decide (C = A.C_BadBook)), .bl (decide (C = A.C_NoWork)), .bl (decide (C = A.C_NoLot)), .bl (decide (C = A.C_NoGroup)), .bl (decide (C = A.C_NoNumber)), .bl (decide (C = A.C_NoRow)), .bl (decide (C = A.C_NoOrder)), .bl (decide (C = A.C_NoPrices))] ++ [.bl (decide (C = A.C_Over)), .bl (decide (C = A.C_NoLength)), .bl (decide (C = A.C_NothingDone)), .bl (decide (C = A.C_NoLine))]))) := y2.trans (Ex.new nl2)
    have h2 : (L2.upd J2 l2 (.lst ([.bl (decide (C = A.C_BadBook)), .bl (decide (C = A.C_NoWork)), .bl (decide (C = A.C_NoLot)), .bl (decide (C = A.C_NoGroup)), .bl (decide (C = A.C_NoNumber)), .bl (decide (C = A.C_NoRow)), .bl (decide (C = A.C_NoOrder)), .bl (decide (C = A.C_NoPrices))] ++ [.bl (decide (C = A.C_Over)), .bl (decide (C = A.C_NoLength)), .bl (decide (C = A.C_NothingDone)), .bl (decide (C = A.C_NoLine))]))) l2 = some (.lst [.bl (decide (C = A.C_BadBook)), .bl (decide (C = A.C_NoWork)), .bl (decide (C = A.C_NoLot)), .bl (decide (C = A.C_NoGroup)), .bl (decide (C = A.C_NoNumber)), .bl (decide (C = A.C_NoRow)), .bl (decide (C = A.C_NoOrder)), .bl (decide (C = A.C_NoPrices)), .bl (decide (C = A.C_Over)), .bl (decide (C = A.C_NoLength)), .bl (decide (C = A.C_NothingDone)), .bl (decide (C = A.C_NoLine))]) := upd_same
    generalize L2.upd J2 l2 (.lst ([.bl (decide (C = A.C_BadBook)), .bl (decide (C = A.C_NoWork)), .bl (decide (C = A.C_NoLot)), .bl (decide (C = A.C_NoGroup)), .bl (decide (C = A.C_NoNumber)), .bl (decide (C = A.C_NoRow)), .bl (decide (C = A.C_NoOrder)), .bl (decide (C = A.C_NoPrices))] ++ [.bl (decide (C = A.C_Over)), .bl (decide (C = A.C_NoLength)), .bl (decide (C = A.C_NothingDone)), .bl (decide (C = A.C_NoLine))])) = G2 at x2 h2 ⊢
    have eH := eH.trans x2
    have ha := x2 _ _ ha
    have hd : ∀ dx, d = some dx → ∃ fs, G2 dx = some (exd dx fs) := fun dx e => by
      obtain ⟨fs, q⟩ := hd dx e
      exact ⟨fs, x2 _ _ q⟩
    refine ⟨_, rfl, _, rfl, a, C, d, _, _, _, rfl, ClsV.own _, ha, hd, xc, kit A.C_NoBounds (by simp [errs]), _, rfl, a, C, d, _, _, _, rfl, ClsV.own _, ha, hd, xc, kit A.C_TooMany (by simp [errs]), _, rfl, a, C, d, _, _, _, rfl, ClsV.own _, ha, hd, xc, kit A.C_NoRule (by simp [errs]), _, rfl, a, C, d, _, _, _, rfl, ClsV.own _, ha, hd, xc, kit A.C_TooLate (by simp [errs]), _, rfl, a, C, d, _, _, _, rfl, ClsV.own _, ha, hd, xc, kit A.C_BadText (by simp [errs]), (by show 5 ≤ sizeLine; decide), fun m3 nm3 => ?_⟩
    have y3 : Ex G2 (L2.upd G2 m3 (.lst [.bl (decide (C = A.C_NoBounds)), .bl (decide (C = A.C_TooMany)), .bl (decide (C = A.C_NoRule)), .bl (decide (C = A.C_TooLate)), .bl (decide (C = A.C_BadText))])) := Ex.new nm3
    have g3 : (L2.upd G2 m3 (.lst [.bl (decide (C = A.C_NoBounds)), .bl (decide (C = A.C_TooMany)), .bl (decide (C = A.C_NoRule)), .bl (decide (C = A.C_TooLate)), .bl (decide (C = A.C_BadText))])) m3 = some (.lst [.bl (decide (C = A.C_NoBounds)), .bl (decide (C = A.C_TooMany)), .bl (decide (C = A.C_NoRule)), .bl (decide (C = A.C_TooLate)), .bl (decide (C = A.C_BadText))]) := upd_same
    generalize L2.upd G2 m3 (.lst [.bl (decide (C = A.C_NoBounds)), .bl (decide (C = A.C_TooMany)), .bl (decide (C = A.C_NoRule)), .bl (decide (C = A.C_TooLate)), .bl (decide (C = A.C_BadText))]) = J3 at y3 g3 ⊢
    refine ⟨l2, m3, _, _, rfl, rfl, y3 _ _ h2, g3, (by show 17 ≤ sizeLine; decide), fun l3 nl3 => ?_⟩
    have x3 : Ex G2 (L2.upd J3 l3 (.lst ([.bl (decide (C = A.C_BadBook)), .bl (decide (C = A.C_NoWork)), .bl (decide (C = A.C_NoLot)), .bl (decide (C = A.C_NoGroup)), .bl (decide (C = A.C_NoNumber)), .bl (decide (C = A.C_NoRow)), .bl (decide (C = A.C_NoOrder)), .bl (decide (C = A.C_NoPrices)), .bl (decide (C = A.C_Over)), .bl (decide (C = A.C_NoLength)), .bl (decide (C = A.C_NothingDone)), .bl (decide (C = A.C_NoLine))] ++ [.bl (decide (C = A.C_NoBounds)), .bl (decide (C = A.C_TooMany)), .bl (decide (C = A.C_NoRule)), .bl (decide (C = A.C_TooLate)), .bl (decide (C = A.C_BadText))]))) := y3.trans (Ex.new nl3)
    have h3 : (L2.upd J3 l3 (.lst ([.bl (decide (C = A.C_BadBook)), .bl (decide (C = A.C_NoWork)), .bl (decide (C = A.C_NoLot)), .bl (decide (C = A.C_NoGroup)), .bl (decide (C = A.C_NoNumber)), .bl (decide (C = A.C_NoRow)), .bl (decide (C = A.C_NoOrder)), .bl (decide (C = A.C_NoPrices)), .bl (decide (C = A.C_Over)), .bl (decide (C = A.C_NoLength)), .bl (decide (C = A.C_NothingDone)), .bl (decide (C = A.C_NoLine))] ++ [.bl (decide (C = A.C_NoBounds)), .bl (decide (C = A.C_TooMany)), .bl (decide (C = A.C_NoRule)), .bl (decide (C = A.C_TooLate)), .bl (decide (C = A.C_BadText))]))) l3 = some (.lst [.bl (decide (C = A.C_BadBook)), .bl (decide (C = A.C_NoWork)), .bl (decide (C = A.C_NoLot)), .bl (decide (C = A.C_NoGroup)), .bl (decide (C = A.C_NoNumber)), .bl (decide (C = A.C_NoRow)), .bl (decide (C = A.C_NoOrder)), .bl (decide (C = A.C_NoPrices)), .bl (decide (C = A.C_Over)), .bl (decide (C = A.C_NoLength)), .bl (decide (C = A.C_NothingDone)), .bl (decide (C = A.C_NoLine)), .bl (decide (C = A.C_NoBounds)), .bl (decide (C = A.C_TooMany)), .bl (decide (C = A.C_NoRule)), .bl (decide (C = A.C_TooLate)), .bl (decide (C = A.C_BadText))]) := upd_same
    generalize L2.upd J3 l3 (.lst ([.bl (decide (C = A.C_BadBook)), .bl (decide (C = A.C_NoWork)), .bl (decide (C = A.C_NoLot)), .bl (decide (C = A.C_NoGroup)), .bl (decide (C = A.C_NoNumber)), .bl (decide (C = A.C_NoRow)), .bl (decide (C = A.C_NoOrder)), .bl (decide (C = A.C_NoPrices)), .bl (decide (C = A.C_Over)), .bl (decide (C = A.C_NoLength)), .bl (decide (C = A.C_NothingDone)), .bl (decide (C = A.C_NoLine))] ++ [.bl (decide (C = A.C_NoBounds)), .bl (decide (C = A.C_TooMany)), .bl (decide (C = A.C_NoRule)), .bl (decide (C = A.C_TooLate)), .bl (decide (C = A.C_BadText))])) = G3 at x3 h3 ⊢
    have eH := eH.trans x3
    have ha := x3 _ _ ha
    have hd : ∀ dx, d = some dx → ∃ fs, G3 dx = some (exd dx fs) := fun dx e => by
      obtain ⟨fs, q⟩ := hd dx e
      exact ⟨fs, x3 _ _ q⟩
    refine ⟨_, rfl, _, rfl, a, C, d, _, _, _, rfl, ClsV.own _, ha, hd, xc, kit A.C_NoName (by simp [errs]), (by show 1 ≤ sizeLine; decide), fun m4 nm4 => ?_⟩
    have y4 : Ex G3 (L2.upd G3 m4 (.lst [.bl (decide (C = A.C_NoName))])) := Ex.new nm4
    have g4 : (L2.upd G3 m4 (.lst [.bl (decide (C = A.C_NoName))])) m4 = some (.lst [.bl (decide (C = A.C_NoName))]) := upd_same
    generalize L2.upd G3 m4 (.lst [.bl (decide (C = A.C_NoName))]) = J4 at y4 g4 ⊢
    refine ⟨l3, m4, _, _, rfl, rfl, y4 _ _ h3, g4, (by show 18 ≤ sizeLine; decide), fun l4 nl4 => ?_⟩
    exact k l4 _ ((eH.trans y4).trans (Ex.new nl4)) (by rw [upd_same] <;> rfl)
theorem ok_l_same (T : Txt K mg A D) : FnOk P w K mg base CX0 1 A.a_l_same D.d_l_same p_l_same (sp_l_same K A) := by
  refine T.F_l_same.ok sc_l_same (fun vs H Q E h => ?_) (fun cdv Ar outer s H vs Q E hr h => ?_)
  · exact h.len
  · have hu := hu_of hr
    refine ⟨_, (pss_one (ps_ret (pe_and (pe_cmpR (op_eqOr hr.units hr.units0) (pv 0) (pv 1) (nomark _)) (pe_one (pe_cmpR op_eq (pe_callB call_isi (by rfl) T.n_isinstance (by decide +kernel) (pa_cons (pv 0) (pa_cons (pe_bltn (v := .ty "bool") (by rfl) T.n_bool (by decide +kernel) rfl) pa_nil))) (pe_callB call_isi (by rfl) T.n_isinstance (by decide +kernel) (pa_cons (pv 1) (pa_cons (pe_bltn (v := .ty "bool") (by rfl) T.n_bool (by decide +kernel) rfl) pa_nil))) (nomark _)))))), ?_⟩
    obtain ⟨x, y, rfl, rfl, ⟨⟨b, hb, c, hc⟩, hs⟩, k⟩ := h.ex
    have fin : decide (V.bl c = V.bl c) = true := by simp
    have rest : ∀ {Q' : VK}, (Q' (.bl (decide (V.bl c = V.bl c))) H) → tOp rEq (tCB (rIsi K) (tCons (tVar 0) (tCons (tC (V.ty "bool")) tNil))) (tCB (rIsi K) (tCons (tVar 1) (tCons (tC (V.ty "bool")) tNil))) [some x, some x] H Q' := fun {Q'} q => ⟨_, rfl, _, _, _, _, _, rfl, ClsV.ty _, hb, hc, _, rfl, _, _, _, _, _, rfl, ClsV.ty _, hb, hc, rfl, q⟩
    rcases hs with ⟨dd, hd1, hd2⟩ | ⟨a, kvs, rfl, h1, h2, h3⟩
    · refine ⟨_, rfl, _, rfl, .inl ⟨dd, dd, hd1, hd1, hd2, hd2, _, rfl, ?_⟩⟩
      rw [eqv_same hd2]
      refine iteT (rest ?_)
      rw [fin]
      exact k
    · refine ⟨_, rfl, _, rfl, .inr ⟨a, a, kvs, rfl, rfl, h1, h1, h2, h3, _, rfl, iteT (rest ?_)⟩⟩
      rw [fin]
      exact k
theorem ok_l_caught (T : Txt K mg A D) : FnOk P w K mg base CX0 3 A.a_l_caught D.d_l_caught p_l_caught (sp_l_caught K A) := by
  have G_NoLine_init := ok_NoLine_init (P := P) (w := w) (base := base) T
  have G_Over_init := ok_Over_init (P := P) (w := w) (base := base) T
  have G_TooMany_init := ok_TooMany_init (P := P) (w := w) (base := base) T
  refine T.F_l_caught.ok sc_l_caught (fun vs H Q E h => ?_) (fun cdv Ar outer s H vs Q E hr h => ?_)
  · exact h.len
  · have hu := hu_of hr
    refine ⟨_, (pss_cons (ps_set (i := 2) sc_l_caught.nd rfl (Or.inl rfl) pe_str) (pss_cons (ps_try_many rfl rfl takes0 (fun W pn xe tk _ => (pss_cons (ps_if (pt_cmpR op_eq (pv 0) pe_int (nomark _)) (pss_one (ps_raise rfl tk (pmk_oex0 T.e_Over T.i_Over T.t_Over G_Over_init (hr.mono (by decide)) (b_Over_init T) pass0 rfl T.g_Over))) pss_nil) (pss_cons (ps_if (pt_cmpR op_eq (pv 0) pe_int (nomark _)) (pss_one (ps_raise rfl tk (pmk_oex T.e_TooMany T.i_TooMany T.t_TooMany G_TooMany_init (hr.mono (by decide)) (b_TooMany_init T) .nil pass0 rfl T.g_TooMany (pa_cons (pv 1) pa_nil)))) pss_nil) (pss_one (ps_raise rfl tk (pmk_oex0 T.e_NoLine T.i_NoLine T.t_NoLine G_NoLine_init (hr.mono (by decide)) (b_NoLine_init T) pass0 rfl T.g_NoLine)))))) (.cons ⟨rfl, by decide, .inl T.g_TooMany⟩ (fun a oe cls d pn _ _ => (pss_one (ps_set (i := 2) sc_l_caught.nd rfl (Or.inl rfl) pe_str))) (.cons ⟨rfl, by decide, .inl T.g_MiddleError⟩ (fun a oe cls d pn _ _ => (pss_one (ps_set (i := 2) sc_l_caught.nd rfl (Or.inl rfl) pe_str))) .nil))) (pss_one (ps_ret (pv 2))))), ?_⟩
    obtain ⟨x, y, rfl, i, rfl, hi, k⟩ := h.ex
    refine ⟨_, rfl, rfl, _, rfl, ite2 (fun c0 => ?_) (fun c0 => ?_)⟩
    · have i0 : i = 0 := by
        have := of_decide_eq_true c0
        injection this with this
        omega
      subst i0
      exact ⟨false, T.mt_Over, (fun q => nomatch q), fun _ => ⟨true, T.mm_Over, (fun _ ax nax => ⟨_, rfl, k _ (Ex.refl _)⟩), fun q => nomatch q⟩⟩
    · refine ⟨_, rfl, rfl, _, rfl, ite2 (fun c1 => ?_) (fun c1 => ?_)⟩
      · have i1 : i = 1 := by
          have := of_decide_eq_true c1
          injection this with this
          omega
        subst i1
        refine ⟨_, rfl, (by show 1 ≤ 1000; decide), fun a na => ⟨a, A.C_TooMany, y, rfl, T.e_TooMany, T.nf_TooMany, upd_same, fun dx ndx ne => ⟨rfl, dx, [("most", y)], upd_same, by rw [upd_ne ne]; exact upd_same, by rw [upd_ne ne] at ndx; exact ndx, ?_⟩⟩⟩
        rw [upd_ne ne] at ndx
        refine ⟨true, T.m_TooMany, (fun _ ax nax => ⟨_, rfl, k _ (fun b o e => ?_)⟩), fun q => nomatch q⟩
        have ba : b ≠ a := ne_of_none e na
        have bd : b ≠ dx := ne_of_none e ndx
        rw [upd_ne bd, del_ne ba, upd_ne ba, upd_ne bd, upd_ne ba]
        exact e
      · have i2 : i = 2 := by
          have n0 : i ≠ 0 := fun z => c0 (by subst z; rfl)
          have n1 : i ≠ 1 := fun z => c1 (by subst z; rfl)
          omega
        subst i2
        exact ⟨false, T.mt_NoLine, (fun q => nomatch q), fun _ => ⟨true, T.mm_NoLine, (fun _ ax nax => ⟨_, rfl, k _ (Ex.refl _)⟩), fun q => nomatch q⟩⟩
theorem ok_law (T : Txt K mg A D) : FnOk P w K mg base CX0 4 A.a_law D.d_law p_law (sp_law K A) := by
  have G_l_pool := ok_l_pool (P := P) (w := w) (base := base) T
  have G_l_made := ok_l_made (P := P) (w := w) (base := base) T
  have G_l_draw := ok_l_draw (P := P) (w := w) (base := base) T
  have G_l_kinds := ok_l_kinds (P := P) (w := w) (base := base) T
  have G_l_caught := ok_l_caught (P := P) (w := w) (base := base) T
  have G_l_same := ok_l_same (P := P) (w := w) (base := base) T
  refine T.F_law.ok sc_law (fun vs H Q E h => ?_) (fun cdv Ar outer s H vs Q E hr h => ?_)
  · exact h.len
  · have hu := hu_of hr
    refine ⟨_, (pss_cons (ps_set (i := 1) sc_law.nd rfl (Or.inl rfl) (pe_call G_l_pool (hr.mono (by decide)) rfl T.g_l_pool (k_l_pool T) (b_l_pool T) .nil pass0 (pa_cons (pv 0) pa_nil))) (pss_cons (ps_set (i := 2) sc_law.nd rfl (Or.inl rfl) (pe_lst (pa_cons pe_non (pa_cons pe_bl (pa_cons pe_int (pa_cons (pe_un un_neg pe_int) (pa_cons pe_str (pa_cons (pe_lst (pa_cons pe_int pa_nil)) (pa_cons (pe_tup (pa_cons pe_int (pa_cons pe_str pa_nil))) (pa_cons (pe_disp (pps_cons pe_str pe_int pps_nil) (by rfl) (by rfl) (fun z => by cases z) (by decide)) (pa_cons (pe_op op_pow pe_int pe_int) (pa_cons (pe_tup pa_nil) (pa_cons (pe_tup (pa_cons pe_int (pa_cons pe_int pa_nil))) pa_nil))))))))))))) (pss_cons (ps_set (i := 3) sc_law.nd rfl (Or.inr rfl) (pe_ix ix_list (pv 2) (pe_call G_l_draw (hr.mono (by decide)) rfl T.g_l_draw (k_l_draw T) (b_l_draw T) .nil pass0 (pa_cons (pv 1) (pa_cons pe_int pa_nil))) (fun _ _ => rfl))) (pss_cons (ps_set (i := 4) sc_law.nd rfl (Or.inl rfl) (pe_call G_l_made (hr.mono (by decide)) rfl T.g_l_made (k_l_made T) (b_l_made T) .nil pass0 (pa_cons (pv 3) pa_nil))) (pss_cons (ps_for PassesOwn.never rfl (pi_range1 (by rfl) T.n_range (pa_cons (pe_callB call_len_seq (by rfl) T.n_len (by decide +kernel) (pa_cons (pv 4) pa_nil)) pa_nil)) (pg_name (i := 5) sc_law.nd rfl (Or.inr rfl)) (pss_cons (ps_if (PW.pt (pw_or (pt_not (pt_val (pe_callB call_isX (by rfl) T.n_isinstance (by decide +kernel) (pa_cons (pe_ix ix_list (pv 4) (pv 5) (fun _ _ => rfl)) (pa_cons (pe_glob (v := .ref A.C_MiddleError) rfl T.g_MiddleError rfl) pa_nil))))) (pw_or1 (pt_not (pt_val (pe_callB call_isX (by rfl) T.n_isinstance (by decide +kernel) (pa_cons (pe_ix ix_list (pv 4) (pv 5) (fun _ _ => rfl)) (pa_cons (pe_bltn (v := .ty "ValueError") (by rfl) T.n_ValueError (by decide +kernel) rfl) pa_nil)))))))) (pss_one (ps_ret pe_bl)) pss_nil) (pss_one (ps_if (pt_cmpR (op_neD hr.units) (pe_call G_l_kinds (hr.mono (by decide)) rfl T.g_l_kinds (k_l_kinds T) (b_l_kinds T) .nil pass0 (pa_cons (pe_ix ix_list (pv 4) (pv 5) (fun _ _ => rfl)) pa_nil)) (pe_lc (own := [("_law_place", 6)]) (g := (gName 6)) (tt := tYes) rfl sc_law.nd (pi_range1 (by rfl) T.n_range (pa_cons pe_int pa_nil)) (blkOk_by (own := [("_law_place", 6)]) (N := n_law) (sc := defScope s_law) (by decide +kernel)) (fun _ _ _ _ _ => (pg_name (i := 6) sc_law.nd rfl (Or.inl rfl))) (fun _ _ _ _ _ => pts_nil) (fun _ _ _ _ _ => (pe_cmpR op_eq (pv 6) (pv 5) (nomark _)))) (nomark _)) (pss_one (ps_ret pe_bl)) pss_nil)))) (pss_cons (ps_set (i := 7) sc_law.nd rfl (Or.inl rfl) (pe_lst (pa_cons (pe_exF (pe_ix ix_list (pv 4) pe_int (fun _ _ => rfl))) (pa_cons (pe_exF (pe_ix ix_list (pv 4) pe_int (fun _ _ => rfl))) (pa_cons (pe_exF (pe_ix ix_list (pv 4) pe_int (fun _ _ => rfl))) (pa_cons (pe_exF (pe_ix ix_list (pv 4) pe_int (fun _ _ => rfl))) (pa_cons (pe_exF (pe_ix ix_list (pv 4) pe_int (fun _ _ => rfl))) pa_nil))))))) (pss_cons (ps_if (pt_not (pt_val (pe_callB (cr_all rfl) (by rfl) T.n_all (by decide +kernel) (pa_cons (pe_lc (own := [("_law_told", 8)]) (g := (gName 8)) (tt := tYes) rfl sc_law.nd (pi_list (pv 7)) (blkOk_by (own := [("_law_told", 8)]) (N := n_law) (sc := defScope s_law) (by decide +kernel)) (fun _ _ _ _ _ => (pg_name (i := 8) sc_law.nd rfl (Or.inl rfl))) (fun _ _ _ _ _ => pts_nil) (fun _ _ _ _ _ => (pe_call G_l_same (hr.mono (by decide)) rfl T.g_l_same (k_l_same T) (b_l_same T) .nil pass0 (pa_cons (pv 8) (pa_cons (pv 3) pa_nil))))) pa_nil)))) (pss_one (ps_ret pe_bl)) pss_nil) (pss_one (ps_ret (pe_cmpR (op_eqD hr.units) (pe_lc (own := [("_law_which", 9)]) (g := (gName 9)) (tt := tYes) rfl sc_law.nd (pi_range1 (by rfl) T.n_range (pa_cons pe_int pa_nil)) (blkOk_by (own := [("_law_which", 9)]) (N := n_law) (sc := defScope s_law) (by decide +kernel)) (fun _ _ _ _ _ => (pg_name (i := 9) sc_law.nd rfl (Or.inl rfl))) (fun _ _ _ _ _ => pts_nil) (fun _ _ _ _ _ => (pe_call G_l_caught (hr.mono (by decide)) rfl T.g_l_caught (k_l_caught T) (b_l_caught T) .nil pass0 (pa_cons (pv 9) (pa_cons (pv 3) pa_nil))))) (pe_lst (pa_cons pe_str (pa_cons pe_str (pa_cons pe_str pa_nil)))) (nomark _))))))))))), ?_⟩
    obtain ⟨s0, ns, rfl, hS, hlen, kfin⟩ := h.ex
    refine ⟨_, rfl, ⟨s0, ns, rfl, hS, hlen, fun p c H1 np nc P1 x1 => ?_⟩⟩
    -- things
    refine ⟨_, rfl, (by show 1 ≤ sizeLine; decide), fun q1 nq1 => ⟨(by show 2 ≤ sizeLine; decide), fun q2 nq2 => fun q3 nq3 => ⟨upd_same, [(.inr (Str.ofString "a"), .int 1)], rfl, (by show 1 ≤ 15; decide), ?_⟩⟩⟩
    have y1 : Ex H1 (L2.upd H1 q1 (.lst [.int 1])) := Ex.new nq1
    have g1 : (L2.upd H1 q1 (.lst [.int 1])) q1 = some (.lst [.int 1]) := upd_same
    generalize L2.upd H1 q1 (.lst [.int 1]) = G1 at y1 g1 nq2 nq3 ⊢
    have y2 : Ex G1 (L2.upd G1 q2 (.tup [.int 2, .str (Str.ofString "a")])) := Ex.new nq2
    have g2 : (L2.upd G1 q2 (.tup [.int 2, .str (Str.ofString "a")])) q2 = some (.tup [.int 2, .str (Str.ofString "a")]) := upd_same
    generalize L2.upd G1 q2 (.tup [.int 2, .str (Str.ofString "a")]) = G2 at y2 g2 nq3 ⊢
    have y3 : Ex G2 (L2.upd (L2.upd G2 q3 (.dK [])) q3 (.dK (mergeK [] [(.inr (Str.ofString "a"), .int 1)]))) := (Ex.new nq3).mut nq3
    have g3 : (L2.upd (L2.upd G2 q3 (.dK [])) q3 (.dK (mergeK [] [(.inr (Str.ofString "a"), .int 1)]))) q3 = some (.dK [(.inr (Str.ofString "a"), .int 1)]) := upd_same
    generalize L2.upd (L2.upd G2 q3 (.dK [])) q3 (.dK (mergeK [] [(.inr (Str.ofString "a"), .int 1)])) = G3 at y3 g3 ⊢
    refine ⟨_, _, rfl, rfl, ⟨by decide, by decide, by decide⟩, (by show 0 ≤ sizeLine; decide), fun q4 nq4 => ⟨(by show 2 ≤ sizeLine; decide), fun q5 nq5 => ⟨(by show 11 ≤ sizeLine; decide), fun q6 nq6 => ?_⟩⟩⟩
    have y4 : Ex G3 (L2.upd G3 q4 (.tup [])) := Ex.new nq4
    have g4 : (L2.upd G3 q4 (.tup [])) q4 = some (.tup []) := upd_same
    generalize L2.upd G3 q4 (.tup []) = G4 at y4 g4 nq5 nq6 ⊢
    have y5 : Ex G4 (L2.upd G4 q5 (.tup [.int 0, .int 1])) := Ex.new nq5
    have g5 : (L2.upd G4 q5 (.tup [.int 0, .int 1])) q5 = some (.tup [.int 0, .int 1]) := upd_same
    generalize L2.upd G4 q5 (.tup [.int 0, .int 1]) = G5 at y5 g5 nq6 ⊢
    have y6 : Ex G5 (L2.upd G5 q6 (.lst [.non, .bl true, .int 0, .int (-7), .str (Str.ofString "name"), .ref q1, .ref q2, .ref q3, .int (10 ^ (30 : Int).toNat), .ref q4, .ref q5])) := Ex.new nq6
    have g6 : (L2.upd G5 q6 (.lst [.non, .bl true, .int 0, .int (-7), .str (Str.ofString "name"), .ref q1, .ref q2, .ref q3, .int (10 ^ (30 : Int).toNat), .ref q4, .ref q5])) q6 = some (.lst [.non, .bl true, .int 0, .int (-7), .str (Str.ofString "name"), .ref q1, .ref q2, .ref q3, .int (10 ^ (30 : Int).toNat), .ref q4, .ref q5]) := upd_same
    have z5 := y5.trans y6
    have z4 := y4.trans z5
    have z3 := y3.trans z4
    have z2 := y2.trans z3
    have g1 := z2 _ _ g1
    have g2 := z3 _ _ g2
    have g3 := z4 _ _ g3
    have g4 := z5 _ _ g4
    have g5 := y6 _ _ g5
    have PF := P1.mono (y1.trans z2)
    have ap : ∀ {a : Addr} {o : HO}, (∀ xs, o ≠ .lst xs) → (L2.upd G5 q6 (.lst [.non, .bl true, .int 0, .int (-7), .str (Str.ofString "name"), .ref q1, .ref q2, .ref q3, .int (10 ^ (30 : Int).toNat), .ref q4, .ref q5])) a = some o → a ≠ p ∧ a ≠ c := fun {a o} no e => by
      obtain ⟨i, j, e1⟩ := PF.ob
      obtain ⟨ms, e2⟩ := PF.cl
      exact ⟨fun z => by rw [z, e1] at e; exact no _ (Option.some.inj e).symm, fun z => by rw [z, e2] at e; exact no _ (Option.some.inj e).symm⟩
    have q1n : q1 ≠ p ∧ q1 ≠ c := ⟨P1.nep nq1, P1.nec nq1⟩
    have q6n : q6 ≠ p ∧ q6 ≠ c := by
      have P5 := P1.mono (((y1.trans y2).trans y3).trans (y4.trans y5))
      exact ⟨P5.nep nq6, P5.nec nq6⟩
    have q2n := ap (fun xs e => by cases e) g2
    have q3n := ap (fun xs e => by cases e) g3
    have q4n := ap (fun xs e => by cases e) g4
    have q5n := ap (fun xs e => by cases e) g5
    clear ap z2 z3 z4 z5 y1 y2 y3 y4 y5 y6 nq1 nq2 nq3 nq4 nq5 nq6
    generalize L2.upd G5 q6 (.lst [.non, .bl true, .int 0, .int (-7), .str (Str.ofString "name"), .ref q1, .ref q2, .ref q3, .int (10 ^ (30 : Int).toNat), .ref q4, .ref q5]) = G6 at g1 g2 g3 g4 g5 g6 PF ⊢
    -- value
    refine ⟨_, rfl, _, rfl, ⟨p, c, 11, rfl, PF, by decide, by decide, fun d H2 d0 d1 P2 K2 => ?_⟩⟩
    have g1 := K2 _ _ q1n.1 q1n.2 g1
    have g2 := K2 _ _ q2n.1 q2n.2 g2
    have g3 := K2 _ _ q3n.1 q3n.2 g3
    have g4 := K2 _ _ q4n.1 q4n.2 g4
    have g5 := K2 _ _ q5n.1 q5n.2 g5
    have g6 := K2 _ _ q6n.1 q6n.2 g6
    obtain ⟨d, rfl⟩ : ∃ k : Nat, d = (k : Int) := ⟨d.toNat, by omega⟩
    have tyb : ∀ (T' : String) (b : Bool) {H' : Hp} {v : V}, TyX K H' v (.type T') → kitB T' "bool" = some b → ∃ t, TyX K H' v t ∧ ∃ c, PySem.W.kitOne K t (.type "bool") = some c := fun T' b {H' v} h e => ⟨_, h, b, kit_ty e⟩
    obtain ⟨v, hv, hSv⟩ : ∃ v, atI [V.non, .bl true, .int 0, .int (-7), .str (Str.ofString "name"), .ref q1, .ref q2, .ref q3, .int (10 ^ (30 : Int).toNat), .ref q4, .ref q5] (d : Int) = some v ∧ ∀ H', Ex H2 H' → SameV K H' v := by
      match d, d1 with
      | 0, _ => exact ⟨_, rfl, fun H' e => ⟨tyb "NoneType" false (.base .non) (by decide +kernel), .inl ⟨_, .non, by decide⟩⟩⟩
      | 1, _ => exact ⟨_, rfl, fun H' e => ⟨tyb "bool" true (.base (.bl true)) (by decide +kernel), .inl ⟨_, .bl true, by decide⟩⟩⟩
      | 2, _ => exact ⟨_, rfl, fun H' e => ⟨tyb "int" false (.base (.int 0)) (by decide +kernel), .inl ⟨_, .int 0, by decide⟩⟩⟩
      | 3, _ => exact ⟨_, rfl, fun H' e => ⟨tyb "int" false (.base (.int _)) (by decide +kernel), .inl ⟨_, .int _, by decide⟩⟩⟩
      | 4, _ => exact ⟨_, rfl, fun H' e => ⟨tyb "str" false (.base (.str _)) (by decide +kernel), .inl ⟨_, .str _, by decide +kernel⟩⟩⟩
      | 5, _ => exact ⟨_, rfl, fun H' e => ⟨tyb "list" false (ty_list (SqL.of (e _ _ g1))) (by decide +kernel), .inl ⟨_, .lst (SqL.of (e _ _ g1)) (.cons (.int 1) .nil), by decide⟩⟩⟩
      | 6, _ => exact ⟨_, rfl, fun H' e => ⟨tyb "tuple" false (ty_tup (SqT.of (e _ _ g2))) (by decide +kernel), .inl ⟨_, .tup (SqT.of (e _ _ g2)) (.cons (.int 2) (.cons (.str _) .nil)), by decide +kernel⟩⟩⟩
      | 7, _ => exact ⟨_, rfl, fun H' e => ⟨tyb "dict" false (.base (.dK (e _ _ g3))) (by decide +kernel), .inr ⟨q3, _, rfl, e _ _ g3, by simp, fun z hz => by rw [List.mem_singleton.mp hz]; rfl⟩⟩⟩
      | 8, _ => exact ⟨_, rfl, fun H' e => ⟨tyb "int" false (.base (.int _)) (by decide +kernel), .inl ⟨_, .int _, by decide⟩⟩⟩
      | 9, _ => exact ⟨_, rfl, fun H' e => ⟨tyb "tuple" false (ty_tup (SqT.of (e _ _ g4))) (by decide +kernel), .inl ⟨_, .tup (SqT.of (e _ _ g4)) .nil, by decide⟩⟩⟩
      | 10, _ => exact ⟨_, rfl, fun H' e => ⟨tyb "tuple" false (ty_tup (SqT.of (e _ _ g5))) (by decide +kernel), .inl ⟨_, .tup (SqT.of (e _ _ g5)) (.cons (.int 0) (.cons (.int 1) .nil)), by decide⟩⟩⟩
      | n + 11, h => exact absurd h (by omega)
    refine ⟨q6, _, (d : Int), _, rfl, rfl, SqL.of g6, hv, ?_⟩
    -- made
    refine ⟨_, rfl, ⟨_, rfl, fun l xs H3 e3 hl hxl he => ?_⟩⟩
    have lerr : (errs A).length = 18 := rfl
    have lfld : (fldOf v).length = 18 := rfl
    have item : ∀ (i : Nat), i < 18 → ∃ (x : V) (C : Addr) (f : Option (Str × V)), xs[i]? = some x ∧ (errs A)[i]? = some C ∧ (fldOf v)[i]? = some f ∧ C ∈ errs A ∧ ErrAt H3 C f x := fun i hi => by
      have h1 : xs[i]? = some xs[i] := List.getElem?_eq_getElem (by omega)
      have h2 : (errs A)[i]? = some (errs A)[i] := List.getElem?_eq_getElem (by omega)
      have h3 : (fldOf v)[i]? = some (fldOf v)[i] := List.getElem?_eq_getElem (by omega)
      exact ⟨_, _, _, h1, h2, h3, List.mem_of_getElem? h2, he i _ _ _ h1 h2 h3⟩
    -- for k in range(len(made))
    refine ⟨_, rfl, l, _, rfl, .inl (SqL.of hl), (18 : Int), by rw [hxl] <;> rfl, by omega, by omega, for_range (lo := 0) (n := 18) (fun i σ H' => ∃ (v5 v6 : Option V), σ = [some (.ref s0), some (.ref p), some (.ref q6), some v, some (.ref l), v5, v6, none, none, none] ∧ Ex H3 H')
      ⟨_, _, rfl, Ex.refl _⟩ ?_ ?_⟩
    · rintro i σ H4 hi ⟨v5, v6, rfl, e4⟩
      have ei : (0 : Int) + (i : Int) = (i : Int) := Int.zero_add _
      rw [ei]
      obtain ⟨x, C, f, h1, h2, h3, hC, hx⟩ := item i hi
      have hx := hx.mono e4
      have hl4 := e4 _ _ hl
      obtain ⟨a, dd, rfl, ha, hd⟩ := hx.at
      have at1 : atI xs (i : Int) = some (V.ref a) := atI_of h1
      have xc := T.es.xc C hC
      refine ⟨_, rfl, _, rfl, l, _, (i : Int), _, rfl, rfl, SqL.of hl4, at1, a, C, dd, _, _, _, rfl, ClsV.own _, ha, hd, xc, T.es.mid hC, _, rfl, iteF ?_⟩
      refine ⟨_, rfl, _, rfl, l, _, (i : Int), _, rfl, rfl, SqL.of hl4, at1, a, C, dd, _, _, _, rfl, ClsV.ty _, ha, hd, xc, (T.es.er C hC).val, _, rfl, iteF ?_⟩
      refine ⟨_, rfl, _, rfl, l, _, (i : Int), _, rfl, rfl, SqL.of hl4, at1, ⟨_, rfl, C, f, hC, hx, fun l2 H5 e5 hl2 => ?_⟩⟩
      refine ⟨18, rfl, by decide, by decide, fun D hD => lc_range (lo := 0) (n := 18) (fun j H' => H' D = some (.lst ((List.range j).map fun k => V.bl (decide (k = i)))) ∧ Ex H5 H') ⟨upd_same, Ex.new hD⟩ ?_ ?_⟩
      · rintro j H' hj ⟨p1, p2⟩
        refine ⟨rfl, _, rfl, _, rfl, rfl, _, p1, small1000 (by rw [List.length_map, List.length_range]; omega), ?_, p2.mut hD⟩
        rw [upd_same, List.range_succ, List.map_append]
        have e : decide (V.int (0 + (j : Int)) = V.int (i : Int)) = decide (j = i) := by
          apply decide_eq_decide.mpr
          constructor
          · intro z
            injection z with z
            omega
          · intro z
            rw [z, Int.zero_add]
        rw [e] <;> rfl
      · rintro H' ⟨p1, p2⟩
        have flags : ∀ (bs : List Bool), DpAll K H' (bs.map V.bl) (bs.map PyData.bool) := fun bs => by
          induction bs with
          | nil => exact .nil
          | cons b r ih => exact .cons (.bl b) ih
        have same : (errs A).map (fun D => decide (C = D)) = (List.range 18).map fun k => decide (k = i) := by
          apply List.ext_getElem
          · rw [List.length_map, List.length_map, lerr, List.length_range]
          · intro j j1 j2
            rw [List.getElem_map, List.getElem_map, List.getElem_range]
            apply decide_eq_decide.mpr
            have nd := (List.nodup_cons.mp T.es.nd).2
            have hCi : (errs A)[i]'(by omega) = C := by
              have := h2
              rw [List.getElem?_eq_getElem (by omega)] at this
              exact Option.some.inj this
            rw [← hCi]
            rw [List.length_map] at j1
            constructor
            · intro z
              exact ((List.getElem_inj nd).mp z).symm
            · intro z
              subst z
              rfl
        have q1 : H' l2 = some (.lst (((errs A).map fun D => decide (C = D)).map V.bl)) := by
          rw [p2 _ _ hl2, List.map_map] <;> rfl
        have q2 : H' D = some (.lst (((List.range 18).map fun k => decide (k = i)).map V.bl)) := by
          rw [p1, List.map_map] <;> rfl
        rw [← same] at q2
        have sh : ∀ bs : List Bool, bs.length ≤ 100 → SeqAt.shaped (.list (bs.map PyData.bool)) = true := fun bs hb => by
          have c1 : PyData.canLayAll0 (bs.map PyData.bool) = true := by
            clear hb
            induction bs with
            | nil => rfl
            | cons b r ih =>
              rw [List.map_cons, PyData.canLayAll0, ih]
              simp [PyData.canLay0]
          have c2 : PyData.depthAll (bs.map PyData.bool) = 0 := by
            clear hb c1
            induction bs with
            | nil => rfl
            | cons b r ih =>
              rw [List.map_cons, PyData.depthAll, ih]
              simp [PyData.depth]
          unfold SeqAt.shaped
          rw [PyData.canLay0, c1, PyData.depth, c2] <;> rfl
        have shp := sh ((errs A).map fun D => decide (C = D)) (by rw [List.length_map, lerr]; omega)
        refine ⟨_, _, .lst (SqL.of q1) (flags _), .lst (SqL.of q2) (flags _), shp, shp, _, rfl, ?_⟩
        rw [eqv_same shp]
        exact iteF ⟨_, _, rfl, (e4.trans e5).trans p2⟩
    · rintro σ H4 ⟨v5, v6, rfl, e4⟩
      have hl4 := e4 _ _ hl
      have fld : ∀ (i : Nat) (C : Addr) (nm : Str), i < 18 → (errs A)[i]? = some C → (fldOf v)[i]? = some (some (nm, v)) → ∃ a dx, xs[i]? = some (.ref a) ∧ H4 a = some (exo a C (some dx)) ∧ H4 dx = some (exd dx [(nm, v)]) := fun i C nm hi h2 h3 => by
        have h1 : xs[i]? = some xs[i] := List.getElem?_eq_getElem (by omega)
        obtain ⟨a, ea, dx, h4, h5⟩ := he i _ _ _ h1 h2 h3
        exact ⟨a, dx, by rw [h1, ea], e4 _ _ h4, e4 _ _ h5⟩
      obtain ⟨a13, d13, i13, j13, k13⟩ := fld 13 A.C_TooMany "most" (by decide) rfl rfl
      obtain ⟨a14, d14, i14, j14, k14⟩ := fld 14 A.C_NoRule "group" (by decide) rfl rfl
      obtain ⟨a15, d15, i15, j15, k15⟩ := fld 15 A.C_TooLate "most" (by decide) rfl rfl
      obtain ⟨a16, d16, i16, j16, k16⟩ := fld 16 A.C_BadText "line" (by decide) rfl rfl
      obtain ⟨a17, d17, i17, j17, k17⟩ := fld 17 A.C_NoName "name" (by decide) rfl rfl
      -- fields
      refine ⟨_, rfl, l, _, 13, _, rfl, rfl, SqL.of hl4, (show atI xs ((13 : Nat) : Int) = _ from atI_of i13), a13, A.C_TooMany, d13, _, v, rfl, j13, k13, T.xf_TooMany, T.nf_TooMany, by simp [List.lookup], _, rfl, l, _, 14, _, rfl, rfl, SqL.of hl4, (show atI xs ((14 : Nat) : Int) = _ from atI_of i14), a14, A.C_NoRule, d14, _, v, rfl, j14, k14, T.xf_NoRule, T.nf_NoRule, by simp [List.lookup], _, rfl, l, _, 15, _, rfl, rfl, SqL.of hl4, (show atI xs ((15 : Nat) : Int) = _ from atI_of i15), a15, A.C_TooLate, d15, _, v, rfl, j15, k15, T.xf_TooLate, T.nf_TooLate, by simp [List.lookup], _, rfl, l, _, 16, _, rfl, rfl, SqL.of hl4, (show atI xs ((16 : Nat) : Int) = _ from atI_of i16), a16, A.C_BadText, d16, _, v, rfl, j16, k16, T.xf_BadText, T.nf_BadText, by simp [List.lookup], _, rfl, l, _, 17, _, rfl, rfl, SqL.of hl4, (show atI xs ((17 : Nat) : Int) = _ from atI_of i17), a17, A.C_NoName, d17, _, v, rfl, j17, k17, T.xf_NoName, T.nf_NoName, by simp [List.lookup], (by show 5 ≤ sizeLine; decide), fun lf nlf => ?_⟩
      have xf : Ex H4 (L2.upd H4 lf (.lst [v, v, v, v, v])) := Ex.new nlf
      have hlf : (L2.upd H4 lf (.lst [v, v, v, v, v])) lf = some (.lst [v, v, v, v, v]) := upd_same
      generalize L2.upd H4 lf (.lst [v, v, v, v, v]) = H5 at xf hlf ⊢
      have e25 := (e3.trans e4).trans xf
      -- all([..])
      refine ⟨_, rfl, lf, rfl, ⟨_, SqL.of hlf⟩, fun D hD => lc_list (K := K) (a := lf) (xs := [v, v, v, v, v]) (fun i H' => H' D = some (.lst ((List.replicate i true).map V.bl)) ∧ Ex H5 H') ⟨upd_same, Ex.new hD⟩ (fun i H' _ q => SqL.of (q.2 _ _ hlf)) ?_ ?_⟩
      · rintro i y H' hi' ⟨p1, p2⟩
        have ey : y = v := by
          have := List.mem_of_getElem? hi'
          simpa using this
        have il : i < 5 := (List.getElem?_eq_some_iff.mp hi').1
        subst ey
        refine ⟨rfl, _, rfl, _, rfl, ⟨_, _, rfl, rfl, hSv H' (e25.trans p2), _, p1, small1000 (by rw [List.length_map, List.length_replicate]; omega), ?_, p2.mut hD⟩⟩
        rw [upd_same, List.replicate_succ', List.map_append] <;> rfl
      rintro H6 ⟨p1, e6⟩
      refine ⟨D, _, rfl, SqL.of p1, _, rfl, ?_⟩
      rw [show (List.replicate [v, v, v, v, v].length true).all id = true by simp]
      refine iteF ?_
      clear p1
      -- caught
      refine ⟨3, rfl, by decide, by decide, fun D2 hD2 => lc_range (lo := 0) (n := 3) (fun j H' => H' D2 = some (.lst ((List.range j).map fun k => V.str (if k = 1 then Str.ofString "many" else Str.ofString "middle"))) ∧ Ex H6 H') ⟨upd_same, Ex.new hD2⟩ ?_ ?_⟩
      · rintro j H' hj ⟨p1, p2⟩
        refine ⟨rfl, _, rfl, _, rfl, ⟨_, _, rfl, j, congrArg V.int (Int.zero_add _), hj, fun H7 e7 => ⟨_, e7 _ _ p1, small1000 (by rw [List.length_map, List.length_range]; omega), ?_, (p2.trans e7).mut hD2⟩⟩⟩
        rw [upd_same, List.range_succ, List.map_append] <;> rfl
      · rintro H' ⟨p1, p2⟩
        have p3 : H' D2 = some (.lst [V.str (Str.ofString "middle"), .str (Str.ofString "many"), .str (Str.ofString "middle")]) := p1
        refine ⟨(by show 3 ≤ sizeLine; decide), fun l3 nl3 => ?_⟩
        refine ⟨.list [.str (Str.ofString "middle"), .str (Str.ofString "many"), .str (Str.ofString "middle")], .list [.str (Str.ofString "middle"), .str (Str.ofString "many"), .str (Str.ofString "middle")], .lst (SqL.of ((Ex.new nl3) _ _ p3)) (.cons (.str _) (.cons (.str _) (.cons (.str _) .nil))), .lst (SqL.of upd_same) (.cons (.str _) (.cons (.str _) (.cons (.str _) .nil))), by decide +kernel, by decide +kernel, ?_⟩
        rw [show PyData.eqv (.list [.str (Str.ofString "middle"), .str (Str.ofString "many"), .str (Str.ofString "middle")]) (.list [.str (Str.ofString "middle"), .str (Str.ofString "many"), .str (Str.ofString "middle")]) = true by decide +kernel]
        exact kfin _
end
theorem all_mk {l : PySem.W.OpenLaw} {w : World} {K : PySem.W.Frag} {h : Heap} {mg : Str → Option Value} {fa : Addr} (X : K.In h) (G : h.Ns mainGlobals mg) (hfa : mg "law" = some (.ref fa))
    {C_MiddleError : Addr}
    {C_BadBook : Addr}
    {nm_BadBook q_BadBook : Str} {N_BadBook CM_BadBook : Addr} {bs_BadBook : List Value} {sn_BadBook : List Str} {sub_BadBook : List Value} {ab_BadBook : Bool} {col_BadBook : Option Bool} {dd_BadBook : Option Addr} {m0_BadBook m1_BadBook m2_BadBook m3_BadBook m5_BadBook : Option Value}
    {C_NoWork : Addr}
    {nm_NoWork q_NoWork : Str} {N_NoWork CM_NoWork : Addr} {bs_NoWork : List Value} {sn_NoWork : List Str} {sub_NoWork : List Value} {ab_NoWork : Bool} {col_NoWork : Option Bool} {dd_NoWork : Option Addr} {m0_NoWork m1_NoWork m2_NoWork m3_NoWork m5_NoWork : Option Value}
    {C_NoLot : Addr}
    {nm_NoLot q_NoLot : Str} {N_NoLot CM_NoLot : Addr} {bs_NoLot : List Value} {sn_NoLot : List Str} {sub_NoLot : List Value} {ab_NoLot : Bool} {col_NoLot : Option Bool} {dd_NoLot : Option Addr} {m0_NoLot m1_NoLot m2_NoLot m3_NoLot m5_NoLot : Option Value}
    {C_NoGroup : Addr}
    {nm_NoGroup q_NoGroup : Str} {N_NoGroup CM_NoGroup : Addr} {bs_NoGroup : List Value} {sn_NoGroup : List Str} {sub_NoGroup : List Value} {ab_NoGroup : Bool} {col_NoGroup : Option Bool} {dd_NoGroup : Option Addr} {m0_NoGroup m1_NoGroup m2_NoGroup m3_NoGroup m5_NoGroup : Option Value}
    {C_NoNumber : Addr}
    {nm_NoNumber q_NoNumber : Str} {N_NoNumber CM_NoNumber : Addr} {bs_NoNumber : List Value} {sn_NoNumber : List Str} {sub_NoNumber : List Value} {ab_NoNumber : Bool} {col_NoNumber : Option Bool} {dd_NoNumber : Option Addr} {m0_NoNumber m1_NoNumber m2_NoNumber m3_NoNumber m5_NoNumber : Option Value}
    {C_NoRow : Addr}
    {nm_NoRow q_NoRow : Str} {N_NoRow CM_NoRow : Addr} {bs_NoRow : List Value} {sn_NoRow : List Str} {sub_NoRow : List Value} {ab_NoRow : Bool} {col_NoRow : Option Bool} {dd_NoRow : Option Addr} {m0_NoRow m1_NoRow m2_NoRow m3_NoRow m5_NoRow : Option Value}
    {C_TooMany : Addr}
    {nm_TooMany q_TooMany : Str} {N_TooMany CM_TooMany : Addr} {bs_TooMany : List Value} {sn_TooMany : List Str} {sub_TooMany : List Value} {ab_TooMany : Bool} {col_TooMany : Option Bool} {dd_TooMany : Option Addr} {m0_TooMany m1_TooMany m2_TooMany m3_TooMany m5_TooMany : Option Value}
    {C_NoOrder : Addr}
    {nm_NoOrder q_NoOrder : Str} {N_NoOrder CM_NoOrder : Addr} {bs_NoOrder : List Value} {sn_NoOrder : List Str} {sub_NoOrder : List Value} {ab_NoOrder : Bool} {col_NoOrder : Option Bool} {dd_NoOrder : Option Addr} {m0_NoOrder m1_NoOrder m2_NoOrder m3_NoOrder m5_NoOrder : Option Value}
    {C_NoRule : Addr}
    {nm_NoRule q_NoRule : Str} {N_NoRule CM_NoRule : Addr} {bs_NoRule : List Value} {sn_NoRule : List Str} {sub_NoRule : List Value} {ab_NoRule : Bool} {col_NoRule : Option Bool} {dd_NoRule : Option Addr} {m0_NoRule m1_NoRule m2_NoRule m3_NoRule m5_NoRule : Option Value}
    {C_TooLate : Addr}
    {nm_TooLate q_TooLate : Str} {N_TooLate CM_TooLate : Addr} {bs_TooLate : List Value} {sn_TooLate : List Str} {sub_TooLate : List Value} {ab_TooLate : Bool} {col_TooLate : Option Bool} {dd_TooLate : Option Addr} {m0_TooLate m1_TooLate m2_TooLate m3_TooLate m5_TooLate : Option Value}
    {C_NoPrices : Addr}
    {nm_NoPrices q_NoPrices : Str} {N_NoPrices CM_NoPrices : Addr} {bs_NoPrices : List Value} {sn_NoPrices : List Str} {sub_NoPrices : List Value} {ab_NoPrices : Bool} {col_NoPrices : Option Bool} {dd_NoPrices : Option Addr} {m0_NoPrices m1_NoPrices m2_NoPrices m3_NoPrices m5_NoPrices : Option Value}
    {C_NoBounds : Addr}
    {nm_NoBounds q_NoBounds : Str} {N_NoBounds CM_NoBounds : Addr} {bs_NoBounds : List Value} {sn_NoBounds : List Str} {sub_NoBounds : List Value} {ab_NoBounds : Bool} {col_NoBounds : Option Bool} {dd_NoBounds : Option Addr} {m0_NoBounds m1_NoBounds m2_NoBounds m3_NoBounds m5_NoBounds : Option Value}
    {C_Over : Addr}
    {nm_Over q_Over : Str} {N_Over CM_Over : Addr} {bs_Over : List Value} {sn_Over : List Str} {sub_Over : List Value} {ab_Over : Bool} {col_Over : Option Bool} {dd_Over : Option Addr} {m0_Over m1_Over m2_Over m3_Over m5_Over : Option Value}
    {C_NoLength : Addr}
    {nm_NoLength q_NoLength : Str} {N_NoLength CM_NoLength : Addr} {bs_NoLength : List Value} {sn_NoLength : List Str} {sub_NoLength : List Value} {ab_NoLength : Bool} {col_NoLength : Option Bool} {dd_NoLength : Option Addr} {m0_NoLength m1_NoLength m2_NoLength m3_NoLength m5_NoLength : Option Value}
    {C_NothingDone : Addr}
    {nm_NothingDone q_NothingDone : Str} {N_NothingDone CM_NothingDone : Addr} {bs_NothingDone : List Value} {sn_NothingDone : List Str} {sub_NothingDone : List Value} {ab_NothingDone : Bool} {col_NothingDone : Option Bool} {dd_NothingDone : Option Addr} {m0_NothingDone m1_NothingDone m2_NothingDone m3_NothingDone m5_NothingDone : Option Value}
    {C_BadText : Addr}
    {nm_BadText q_BadText : Str} {N_BadText CM_BadText : Addr} {bs_BadText : List Value} {sn_BadText : List Str} {sub_BadText : List Value} {ab_BadText : Bool} {col_BadText : Option Bool} {dd_BadText : Option Addr} {m0_BadText m1_BadText m2_BadText m3_BadText m5_BadText : Option Value}
    {C_NoLine : Addr}
    {nm_NoLine q_NoLine : Str} {N_NoLine CM_NoLine : Addr} {bs_NoLine : List Value} {sn_NoLine : List Str} {sub_NoLine : List Value} {ab_NoLine : Bool} {col_NoLine : Option Bool} {dd_NoLine : Option Addr} {m0_NoLine m1_NoLine m2_NoLine m3_NoLine m5_NoLine : Option Value}
    {C_NoName : Addr}
    {nm_NoName q_NoName : Str} {N_NoName CM_NoName : Addr} {bs_NoName : List Value} {sn_NoName : List Str} {sub_NoName : List Value} {ab_NoName : Bool} {col_NoName : Option Bool} {dd_NoName : Option Addr} {m0_NoName m1_NoName m2_NoName m3_NoName m5_NoName : Option Value}
    {f_BadBook_init : Addr} {oc_BadBook_init kV_BadBook_init dc_BadBook_init pm_BadBook_init cd_BadBook_init ct_BadBook_init : Value} {od_BadBook_init an_BadBook_init : Option Addr} {sl_BadBook_init : Array (Option Value)}
    {f_NoWork_init : Addr} {oc_NoWork_init kV_NoWork_init dc_NoWork_init pm_NoWork_init cd_NoWork_init ct_NoWork_init : Value} {od_NoWork_init an_NoWork_init : Option Addr} {sl_NoWork_init : Array (Option Value)}
    {f_NoLot_init : Addr} {oc_NoLot_init kV_NoLot_init dc_NoLot_init pm_NoLot_init cd_NoLot_init ct_NoLot_init : Value} {od_NoLot_init an_NoLot_init : Option Addr} {sl_NoLot_init : Array (Option Value)}
    {f_NoGroup_init : Addr} {oc_NoGroup_init kV_NoGroup_init dc_NoGroup_init pm_NoGroup_init cd_NoGroup_init ct_NoGroup_init : Value} {od_NoGroup_init an_NoGroup_init : Option Addr} {sl_NoGroup_init : Array (Option Value)}
    {f_NoNumber_init : Addr} {oc_NoNumber_init kV_NoNumber_init dc_NoNumber_init pm_NoNumber_init cd_NoNumber_init ct_NoNumber_init : Value} {od_NoNumber_init an_NoNumber_init : Option Addr} {sl_NoNumber_init : Array (Option Value)}
    {f_NoRow_init : Addr} {oc_NoRow_init kV_NoRow_init dc_NoRow_init pm_NoRow_init cd_NoRow_init ct_NoRow_init : Value} {od_NoRow_init an_NoRow_init : Option Addr} {sl_NoRow_init : Array (Option Value)}
    {f_TooMany_init : Addr} {oc_TooMany_init kV_TooMany_init dc_TooMany_init pm_TooMany_init cd_TooMany_init ct_TooMany_init : Value} {od_TooMany_init an_TooMany_init : Option Addr} {sl_TooMany_init : Array (Option Value)}
    {f_NoOrder_init : Addr} {oc_NoOrder_init kV_NoOrder_init dc_NoOrder_init pm_NoOrder_init cd_NoOrder_init ct_NoOrder_init : Value} {od_NoOrder_init an_NoOrder_init : Option Addr} {sl_NoOrder_init : Array (Option Value)}
    {f_NoRule_init : Addr} {oc_NoRule_init kV_NoRule_init dc_NoRule_init pm_NoRule_init cd_NoRule_init ct_NoRule_init : Value} {od_NoRule_init an_NoRule_init : Option Addr} {sl_NoRule_init : Array (Option Value)}
    {f_TooLate_init : Addr} {oc_TooLate_init kV_TooLate_init dc_TooLate_init pm_TooLate_init cd_TooLate_init ct_TooLate_init : Value} {od_TooLate_init an_TooLate_init : Option Addr} {sl_TooLate_init : Array (Option Value)}
    {f_NoPrices_init : Addr} {oc_NoPrices_init kV_NoPrices_init dc_NoPrices_init pm_NoPrices_init cd_NoPrices_init ct_NoPrices_init : Value} {od_NoPrices_init an_NoPrices_init : Option Addr} {sl_NoPrices_init : Array (Option Value)}
    {f_NoBounds_init : Addr} {oc_NoBounds_init kV_NoBounds_init dc_NoBounds_init pm_NoBounds_init cd_NoBounds_init ct_NoBounds_init : Value} {od_NoBounds_init an_NoBounds_init : Option Addr} {sl_NoBounds_init : Array (Option Value)}
    {f_Over_init : Addr} {oc_Over_init kV_Over_init dc_Over_init pm_Over_init cd_Over_init ct_Over_init : Value} {od_Over_init an_Over_init : Option Addr} {sl_Over_init : Array (Option Value)}
    {f_NoLength_init : Addr} {oc_NoLength_init kV_NoLength_init dc_NoLength_init pm_NoLength_init cd_NoLength_init ct_NoLength_init : Value} {od_NoLength_init an_NoLength_init : Option Addr} {sl_NoLength_init : Array (Option Value)}
    {f_NothingDone_init : Addr} {oc_NothingDone_init kV_NothingDone_init dc_NothingDone_init pm_NothingDone_init cd_NothingDone_init ct_NothingDone_init : Value} {od_NothingDone_init an_NothingDone_init : Option Addr} {sl_NothingDone_init : Array (Option Value)}
    {f_BadText_init : Addr} {oc_BadText_init kV_BadText_init dc_BadText_init pm_BadText_init cd_BadText_init ct_BadText_init : Value} {od_BadText_init an_BadText_init : Option Addr} {sl_BadText_init : Array (Option Value)}
    {f_NoLine_init : Addr} {oc_NoLine_init kV_NoLine_init dc_NoLine_init pm_NoLine_init cd_NoLine_init ct_NoLine_init : Value} {od_NoLine_init an_NoLine_init : Option Addr} {sl_NoLine_init : Array (Option Value)}
    {f_NoName_init : Addr} {oc_NoName_init kV_NoName_init dc_NoName_init pm_NoName_init cd_NoName_init ct_NoName_init : Value} {od_NoName_init an_NoName_init : Option Addr} {sl_NoName_init : Array (Option Value)}
    {f_l_pool : Addr} {oc_l_pool kV_l_pool dc_l_pool pm_l_pool cd_l_pool ct_l_pool : Value} {od_l_pool an_l_pool : Option Addr} {sl_l_pool : Array (Option Value)}
    {f_l_draw : Addr} {oc_l_draw kV_l_draw dc_l_draw pm_l_draw cd_l_draw ct_l_draw : Value} {od_l_draw an_l_draw : Option Addr} {sl_l_draw : Array (Option Value)}
    {f_l_made : Addr} {oc_l_made kV_l_made dc_l_made pm_l_made cd_l_made ct_l_made : Value} {od_l_made an_l_made : Option Addr} {sl_l_made : Array (Option Value)}
    {f_l_kinds : Addr} {oc_l_kinds kV_l_kinds dc_l_kinds pm_l_kinds cd_l_kinds ct_l_kinds : Value} {od_l_kinds an_l_kinds : Option Addr} {sl_l_kinds : Array (Option Value)}
    {f_l_same : Addr} {oc_l_same kV_l_same dc_l_same pm_l_same cd_l_same ct_l_same : Value} {od_l_same an_l_same : Option Addr} {sl_l_same : Array (Option Value)}
    {f_l_caught : Addr} {oc_l_caught kV_l_caught dc_l_caught pm_l_caught cd_l_caught ct_l_caught : Value} {od_l_caught an_l_caught : Option Addr} {sl_l_caught : Array (Option Value)}
    {f_law : Addr} {oc_law kV_law dc_law pm_law cd_law ct_law : Value} {od_law an_law : Option Addr} {sl_law : Array (Option Value)}
    (aC_MiddleError : PySem.W.nsIn K mainGlobals "MiddleError" = some (some (.ref C_MiddleError)))
    (eC_MiddleError : PySem.W.subIn K (.ref C_MiddleError) (.type "BaseException") = some true)
    (tC_MiddleError : PySem.W.typeIn K (.ref C_MiddleError) = some (.type "type"))
    (hC_MiddleError : PySem.W.hasDictIn K C_MiddleError = true)
    (aC_BadBook : PySem.W.nsIn K mainGlobals "BadBook" = some (some (.ref C_BadBook)))
    (xL_BadBook : K.lookup C_BadBook = some (excClassObj nm_BadBook q_BadBook C_BadBook N_BadBook bs_BadBook [.ref CM_BadBook, .type "ValueError", .type "Exception", .type "BaseException", .type "object"] true sn_BadBook sub_BadBook ab_BadBook col_BadBook dd_BadBook m0_BadBook m1_BadBook m2_BadBook m3_BadBook m5_BadBook "ValueError.__new__"))
    (sa_BadBook : PySem.W.findIn K (.ref C_BadBook) "__setattr__" = some (some (.builtin "object.__setattr__")))
    (kC_BadBook : PySem.W.keepIn K (.ref C_BadBook) = true)
    (eC_BadBook : PySem.W.subIn K (.ref C_BadBook) (.type "BaseException") = some true)
    (tC_BadBook : PySem.W.typeIn K (.ref C_BadBook) = some (.type "type"))
    (hC_BadBook : PySem.W.hasDictIn K C_BadBook = true)
    (sC_BadBook : PySem.W.subIn K (.ref C_BadBook) (.ref C_BadBook) = some true)
    (aC_NoWork : PySem.W.nsIn K mainGlobals "NoWork" = some (some (.ref C_NoWork)))
    (xL_NoWork : K.lookup C_NoWork = some (excClassObj nm_NoWork q_NoWork C_NoWork N_NoWork bs_NoWork [.ref CM_NoWork, .type "ValueError", .type "Exception", .type "BaseException", .type "object"] true sn_NoWork sub_NoWork ab_NoWork col_NoWork dd_NoWork m0_NoWork m1_NoWork m2_NoWork m3_NoWork m5_NoWork "ValueError.__new__"))
    (sa_NoWork : PySem.W.findIn K (.ref C_NoWork) "__setattr__" = some (some (.builtin "object.__setattr__")))
    (kC_NoWork : PySem.W.keepIn K (.ref C_NoWork) = true)
    (eC_NoWork : PySem.W.subIn K (.ref C_NoWork) (.type "BaseException") = some true)
    (tC_NoWork : PySem.W.typeIn K (.ref C_NoWork) = some (.type "type"))
    (hC_NoWork : PySem.W.hasDictIn K C_NoWork = true)
    (sC_NoWork : PySem.W.subIn K (.ref C_NoWork) (.ref C_NoWork) = some true)
    (aC_NoLot : PySem.W.nsIn K mainGlobals "NoLot" = some (some (.ref C_NoLot)))
    (xL_NoLot : K.lookup C_NoLot = some (excClassObj nm_NoLot q_NoLot C_NoLot N_NoLot bs_NoLot [.ref CM_NoLot, .type "ValueError", .type "Exception", .type "BaseException", .type "object"] true sn_NoLot sub_NoLot ab_NoLot col_NoLot dd_NoLot m0_NoLot m1_NoLot m2_NoLot m3_NoLot m5_NoLot "ValueError.__new__"))
    (sa_NoLot : PySem.W.findIn K (.ref C_NoLot) "__setattr__" = some (some (.builtin "object.__setattr__")))
    (kC_NoLot : PySem.W.keepIn K (.ref C_NoLot) = true)
    (eC_NoLot : PySem.W.subIn K (.ref C_NoLot) (.type "BaseException") = some true)
    (tC_NoLot : PySem.W.typeIn K (.ref C_NoLot) = some (.type "type"))
    (hC_NoLot : PySem.W.hasDictIn K C_NoLot = true)
    (sC_NoLot : PySem.W.subIn K (.ref C_NoLot) (.ref C_NoLot) = some true)
    (aC_NoGroup : PySem.W.nsIn K mainGlobals "NoGroup" = some (some (.ref C_NoGroup)))
    (xL_NoGroup : K.lookup C_NoGroup = some (excClassObj nm_NoGroup q_NoGroup C_NoGroup N_NoGroup bs_NoGroup [.ref CM_NoGroup, .type "ValueError", .type "Exception", .type "BaseException", .type "object"] true sn_NoGroup sub_NoGroup ab_NoGroup col_NoGroup dd_NoGroup m0_NoGroup m1_NoGroup m2_NoGroup m3_NoGroup m5_NoGroup "ValueError.__new__"))
    (sa_NoGroup : PySem.W.findIn K (.ref C_NoGroup) "__setattr__" = some (some (.builtin "object.__setattr__")))
    (kC_NoGroup : PySem.W.keepIn K (.ref C_NoGroup) = true)
    (eC_NoGroup : PySem.W.subIn K (.ref C_NoGroup) (.type "BaseException") = some true)
    (tC_NoGroup : PySem.W.typeIn K (.ref C_NoGroup) = some (.type "type"))
    (hC_NoGroup : PySem.W.hasDictIn K C_NoGroup = true)
    (sC_NoGroup : PySem.W.subIn K (.ref C_NoGroup) (.ref C_NoGroup) = some true)
    (aC_NoNumber : PySem.W.nsIn K mainGlobals "NoNumber" = some (some (.ref C_NoNumber)))
    (xL_NoNumber : K.lookup C_NoNumber = some (excClassObj nm_NoNumber q_NoNumber C_NoNumber N_NoNumber bs_NoNumber [.ref CM_NoNumber, .type "ValueError", .type "Exception", .type "BaseException", .type "object"] true sn_NoNumber sub_NoNumber ab_NoNumber col_NoNumber dd_NoNumber m0_NoNumber m1_NoNumber m2_NoNumber m3_NoNumber m5_NoNumber "ValueError.__new__"))
    (sa_NoNumber : PySem.W.findIn K (.ref C_NoNumber) "__setattr__" = some (some (.builtin "object.__setattr__")))
    (kC_NoNumber : PySem.W.keepIn K (.ref C_NoNumber) = true)
    (eC_NoNumber : PySem.W.subIn K (.ref C_NoNumber) (.type "BaseException") = some true)
    (tC_NoNumber : PySem.W.typeIn K (.ref C_NoNumber) = some (.type "type"))
    (hC_NoNumber : PySem.W.hasDictIn K C_NoNumber = true)
    (sC_NoNumber : PySem.W.subIn K (.ref C_NoNumber) (.ref C_NoNumber) = some true)
    (aC_NoRow : PySem.W.nsIn K mainGlobals "NoRow" = some (some (.ref C_NoRow)))
    (xL_NoRow : K.lookup C_NoRow = some (excClassObj nm_NoRow q_NoRow C_NoRow N_NoRow bs_NoRow [.ref CM_NoRow, .type "ValueError", .type "Exception", .type "BaseException", .type "object"] true sn_NoRow sub_NoRow ab_NoRow col_NoRow dd_NoRow m0_NoRow m1_NoRow m2_NoRow m3_NoRow m5_NoRow "ValueError.__new__"))
    (sa_NoRow : PySem.W.findIn K (.ref C_NoRow) "__setattr__" = some (some (.builtin "object.__setattr__")))
    (kC_NoRow : PySem.W.keepIn K (.ref C_NoRow) = true)
    (eC_NoRow : PySem.W.subIn K (.ref C_NoRow) (.type "BaseException") = some true)
    (tC_NoRow : PySem.W.typeIn K (.ref C_NoRow) = some (.type "type"))
    (hC_NoRow : PySem.W.hasDictIn K C_NoRow = true)
    (sC_NoRow : PySem.W.subIn K (.ref C_NoRow) (.ref C_NoRow) = some true)
    (aC_TooMany : PySem.W.nsIn K mainGlobals "TooMany" = some (some (.ref C_TooMany)))
    (xL_TooMany : K.lookup C_TooMany = some (excClassObj nm_TooMany q_TooMany C_TooMany N_TooMany bs_TooMany [.ref CM_TooMany, .type "ValueError", .type "Exception", .type "BaseException", .type "object"] true sn_TooMany sub_TooMany ab_TooMany col_TooMany dd_TooMany m0_TooMany m1_TooMany m2_TooMany m3_TooMany m5_TooMany "ValueError.__new__"))
    (sa_TooMany : PySem.W.findIn K (.ref C_TooMany) "__setattr__" = some (some (.builtin "object.__setattr__")))
    (kC_TooMany : PySem.W.keepIn K (.ref C_TooMany) = true)
    (eC_TooMany : PySem.W.subIn K (.ref C_TooMany) (.type "BaseException") = some true)
    (tC_TooMany : PySem.W.typeIn K (.ref C_TooMany) = some (.type "type"))
    (hC_TooMany : PySem.W.hasDictIn K C_TooMany = true)
    (sC_TooMany : PySem.W.subIn K (.ref C_TooMany) (.ref C_TooMany) = some true)
    (aC_NoOrder : PySem.W.nsIn K mainGlobals "NoOrder" = some (some (.ref C_NoOrder)))
    (xL_NoOrder : K.lookup C_NoOrder = some (excClassObj nm_NoOrder q_NoOrder C_NoOrder N_NoOrder bs_NoOrder [.ref CM_NoOrder, .type "ValueError", .type "Exception", .type "BaseException", .type "object"] true sn_NoOrder sub_NoOrder ab_NoOrder col_NoOrder dd_NoOrder m0_NoOrder m1_NoOrder m2_NoOrder m3_NoOrder m5_NoOrder "ValueError.__new__"))
    (sa_NoOrder : PySem.W.findIn K (.ref C_NoOrder) "__setattr__" = some (some (.builtin "object.__setattr__")))
    (kC_NoOrder : PySem.W.keepIn K (.ref C_NoOrder) = true)
    (eC_NoOrder : PySem.W.subIn K (.ref C_NoOrder) (.type "BaseException") = some true)
    (tC_NoOrder : PySem.W.typeIn K (.ref C_NoOrder) = some (.type "type"))
    (hC_NoOrder : PySem.W.hasDictIn K C_NoOrder = true)
    (sC_NoOrder : PySem.W.subIn K (.ref C_NoOrder) (.ref C_NoOrder) = some true)
    (aC_NoRule : PySem.W.nsIn K mainGlobals "NoRule" = some (some (.ref C_NoRule)))
    (xL_NoRule : K.lookup C_NoRule = some (excClassObj nm_NoRule q_NoRule C_NoRule N_NoRule bs_NoRule [.ref CM_NoRule, .type "ValueError", .type "Exception", .type "BaseException", .type "object"] true sn_NoRule sub_NoRule ab_NoRule col_NoRule dd_NoRule m0_NoRule m1_NoRule m2_NoRule m3_NoRule m5_NoRule "ValueError.__new__"))
    (sa_NoRule : PySem.W.findIn K (.ref C_NoRule) "__setattr__" = some (some (.builtin "object.__setattr__")))
    (kC_NoRule : PySem.W.keepIn K (.ref C_NoRule) = true)
    (eC_NoRule : PySem.W.subIn K (.ref C_NoRule) (.type "BaseException") = some true)
    (tC_NoRule : PySem.W.typeIn K (.ref C_NoRule) = some (.type "type"))
    (hC_NoRule : PySem.W.hasDictIn K C_NoRule = true)
    (sC_NoRule : PySem.W.subIn K (.ref C_NoRule) (.ref C_NoRule) = some true)
    (aC_TooLate : PySem.W.nsIn K mainGlobals "TooLate" = some (some (.ref C_TooLate)))
    (xL_TooLate : K.lookup C_TooLate = some (excClassObj nm_TooLate q_TooLate C_TooLate N_TooLate bs_TooLate [.ref CM_TooLate, .type "ValueError", .type "Exception", .type "BaseException", .type "object"] true sn_TooLate sub_TooLate ab_TooLate col_TooLate dd_TooLate m0_TooLate m1_TooLate m2_TooLate m3_TooLate m5_TooLate "ValueError.__new__"))
    (sa_TooLate : PySem.W.findIn K (.ref C_TooLate) "__setattr__" = some (some (.builtin "object.__setattr__")))
    (kC_TooLate : PySem.W.keepIn K (.ref C_TooLate) = true)
    (eC_TooLate : PySem.W.subIn K (.ref C_TooLate) (.type "BaseException") = some true)
    (tC_TooLate : PySem.W.typeIn K (.ref C_TooLate) = some (.type "type"))
    (hC_TooLate : PySem.W.hasDictIn K C_TooLate = true)
    (sC_TooLate : PySem.W.subIn K (.ref C_TooLate) (.ref C_TooLate) = some true)
    (aC_NoPrices : PySem.W.nsIn K mainGlobals "NoPrices" = some (some (.ref C_NoPrices)))
    (xL_NoPrices : K.lookup C_NoPrices = some (excClassObj nm_NoPrices q_NoPrices C_NoPrices N_NoPrices bs_NoPrices [.ref CM_NoPrices, .type "ValueError", .type "Exception", .type "BaseException", .type "object"] true sn_NoPrices sub_NoPrices ab_NoPrices col_NoPrices dd_NoPrices m0_NoPrices m1_NoPrices m2_NoPrices m3_NoPrices m5_NoPrices "ValueError.__new__"))
    (sa_NoPrices : PySem.W.findIn K (.ref C_NoPrices) "__setattr__" = some (some (.builtin "object.__setattr__")))
    (kC_NoPrices : PySem.W.keepIn K (.ref C_NoPrices) = true)
    (eC_NoPrices : PySem.W.subIn K (.ref C_NoPrices) (.type "BaseException") = some true)
    (tC_NoPrices : PySem.W.typeIn K (.ref C_NoPrices) = some (.type "type"))
    (hC_NoPrices : PySem.W.hasDictIn K C_NoPrices = true)
    (sC_NoPrices : PySem.W.subIn K (.ref C_NoPrices) (.ref C_NoPrices) = some true)
    (aC_NoBounds : PySem.W.nsIn K mainGlobals "NoBounds" = some (some (.ref C_NoBounds)))
    (xL_NoBounds : K.lookup C_NoBounds = some (excClassObj nm_NoBounds q_NoBounds C_NoBounds N_NoBounds bs_NoBounds [.ref CM_NoBounds, .type "ValueError", .type "Exception", .type "BaseException", .type "object"] true sn_NoBounds sub_NoBounds ab_NoBounds col_NoBounds dd_NoBounds m0_NoBounds m1_NoBounds m2_NoBounds m3_NoBounds m5_NoBounds "ValueError.__new__"))
    (sa_NoBounds : PySem.W.findIn K (.ref C_NoBounds) "__setattr__" = some (some (.builtin "object.__setattr__")))
    (kC_NoBounds : PySem.W.keepIn K (.ref C_NoBounds) = true)
    (eC_NoBounds : PySem.W.subIn K (.ref C_NoBounds) (.type "BaseException") = some true)
    (tC_NoBounds : PySem.W.typeIn K (.ref C_NoBounds) = some (.type "type"))
    (hC_NoBounds : PySem.W.hasDictIn K C_NoBounds = true)
    (sC_NoBounds : PySem.W.subIn K (.ref C_NoBounds) (.ref C_NoBounds) = some true)
    (aC_Over : PySem.W.nsIn K mainGlobals "Over" = some (some (.ref C_Over)))
    (xL_Over : K.lookup C_Over = some (excClassObj nm_Over q_Over C_Over N_Over bs_Over [.ref CM_Over, .type "ValueError", .type "Exception", .type "BaseException", .type "object"] true sn_Over sub_Over ab_Over col_Over dd_Over m0_Over m1_Over m2_Over m3_Over m5_Over "ValueError.__new__"))
    (sa_Over : PySem.W.findIn K (.ref C_Over) "__setattr__" = some (some (.builtin "object.__setattr__")))
    (kC_Over : PySem.W.keepIn K (.ref C_Over) = true)
    (eC_Over : PySem.W.subIn K (.ref C_Over) (.type "BaseException") = some true)
    (tC_Over : PySem.W.typeIn K (.ref C_Over) = some (.type "type"))
    (hC_Over : PySem.W.hasDictIn K C_Over = true)
    (sC_Over : PySem.W.subIn K (.ref C_Over) (.ref C_Over) = some true)
    (aC_NoLength : PySem.W.nsIn K mainGlobals "NoLength" = some (some (.ref C_NoLength)))
    (xL_NoLength : K.lookup C_NoLength = some (excClassObj nm_NoLength q_NoLength C_NoLength N_NoLength bs_NoLength [.ref CM_NoLength, .type "ValueError", .type "Exception", .type "BaseException", .type "object"] true sn_NoLength sub_NoLength ab_NoLength col_NoLength dd_NoLength m0_NoLength m1_NoLength m2_NoLength m3_NoLength m5_NoLength "ValueError.__new__"))
    (sa_NoLength : PySem.W.findIn K (.ref C_NoLength) "__setattr__" = some (some (.builtin "object.__setattr__")))
    (kC_NoLength : PySem.W.keepIn K (.ref C_NoLength) = true)
    (eC_NoLength : PySem.W.subIn K (.ref C_NoLength) (.type "BaseException") = some true)
    (tC_NoLength : PySem.W.typeIn K (.ref C_NoLength) = some (.type "type"))
    (hC_NoLength : PySem.W.hasDictIn K C_NoLength = true)
    (sC_NoLength : PySem.W.subIn K (.ref C_NoLength) (.ref C_NoLength) = some true)
    (aC_NothingDone : PySem.W.nsIn K mainGlobals "NothingDone" = some (some (.ref C_NothingDone)))
    (xL_NothingDone : K.lookup C_NothingDone = some (excClassObj nm_NothingDone q_NothingDone C_NothingDone N_NothingDone bs_NothingDone [.ref CM_NothingDone, .type "ValueError", .type "Exception", .type "BaseException", .type "object"] true sn_NothingDone sub_NothingDone ab_NothingDone col_NothingDone dd_NothingDone m0_NothingDone m1_NothingDone m2_NothingDone m3_NothingDone m5_NothingDone "ValueError.__new__"))
    (sa_NothingDone : PySem.W.findIn K (.ref C_NothingDone) "__setattr__" = some (some (.builtin "object.__setattr__")))
    (kC_NothingDone : PySem.W.keepIn K (.ref C_NothingDone) = true)
    (eC_NothingDone : PySem.W.subIn K (.ref C_NothingDone) (.type "BaseException") = some true)
    (tC_NothingDone : PySem.W.typeIn K (.ref C_NothingDone) = some (.type "type"))
    (hC_NothingDone : PySem.W.hasDictIn K C_NothingDone = true)
    (sC_NothingDone : PySem.W.subIn K (.ref C_NothingDone) (.ref C_NothingDone) = some true)
    (aC_BadText : PySem.W.nsIn K mainGlobals "BadText" = some (some (.ref C_BadText)))
    (xL_BadText : K.lookup C_BadText = some (excClassObj nm_BadText q_BadText C_BadText N_BadText bs_BadText [.ref CM_BadText, .type "ValueError", .type "Exception", .type "BaseException", .type "object"] true sn_BadText sub_BadText ab_BadText col_BadText dd_BadText m0_BadText m1_BadText m2_BadText m3_BadText m5_BadText "ValueError.__new__"))
    (sa_BadText : PySem.W.findIn K (.ref C_BadText) "__setattr__" = some (some (.builtin "object.__setattr__")))
    (kC_BadText : PySem.W.keepIn K (.ref C_BadText) = true)
    (eC_BadText : PySem.W.subIn K (.ref C_BadText) (.type "BaseException") = some true)
    (tC_BadText : PySem.W.typeIn K (.ref C_BadText) = some (.type "type"))
    (hC_BadText : PySem.W.hasDictIn K C_BadText = true)
    (sC_BadText : PySem.W.subIn K (.ref C_BadText) (.ref C_BadText) = some true)
    (aC_NoLine : PySem.W.nsIn K mainGlobals "NoLine" = some (some (.ref C_NoLine)))
    (xL_NoLine : K.lookup C_NoLine = some (excClassObj nm_NoLine q_NoLine C_NoLine N_NoLine bs_NoLine [.ref CM_NoLine, .type "ValueError", .type "Exception", .type "BaseException", .type "object"] true sn_NoLine sub_NoLine ab_NoLine col_NoLine dd_NoLine m0_NoLine m1_NoLine m2_NoLine m3_NoLine m5_NoLine "ValueError.__new__"))
    (sa_NoLine : PySem.W.findIn K (.ref C_NoLine) "__setattr__" = some (some (.builtin "object.__setattr__")))
    (kC_NoLine : PySem.W.keepIn K (.ref C_NoLine) = true)
    (eC_NoLine : PySem.W.subIn K (.ref C_NoLine) (.type "BaseException") = some true)
    (tC_NoLine : PySem.W.typeIn K (.ref C_NoLine) = some (.type "type"))
    (hC_NoLine : PySem.W.hasDictIn K C_NoLine = true)
    (sC_NoLine : PySem.W.subIn K (.ref C_NoLine) (.ref C_NoLine) = some true)
    (aC_NoName : PySem.W.nsIn K mainGlobals "NoName" = some (some (.ref C_NoName)))
    (xL_NoName : K.lookup C_NoName = some (excClassObj nm_NoName q_NoName C_NoName N_NoName bs_NoName [.ref CM_NoName, .type "ValueError", .type "Exception", .type "BaseException", .type "object"] true sn_NoName sub_NoName ab_NoName col_NoName dd_NoName m0_NoName m1_NoName m2_NoName m3_NoName m5_NoName "ValueError.__new__"))
    (sa_NoName : PySem.W.findIn K (.ref C_NoName) "__setattr__" = some (some (.builtin "object.__setattr__")))
    (kC_NoName : PySem.W.keepIn K (.ref C_NoName) = true)
    (eC_NoName : PySem.W.subIn K (.ref C_NoName) (.type "BaseException") = some true)
    (tC_NoName : PySem.W.typeIn K (.ref C_NoName) = some (.type "type"))
    (hC_NoName : PySem.W.hasDictIn K C_NoName = true)
    (sC_NoName : PySem.W.subIn K (.ref C_NoName) (.ref C_NoName) = some true)
    (a_BadBook_init : PySem.W.findIn K (.ref C_BadBook) "__init__" = some (some (.ref f_BadBook_init)))
    (t_BadBook_init : PySem.W.typeIn K (.ref f_BadBook_init) = some (.type "function"))
    (l_BadBook_init : K.lookup f_BadBook_init = some ⟨oc_BadBook_init, od_BadBook_init, .func (PySem.W.fnOf "__init__" "BadBook.__init__" (defArgs s_BadBook_init) (defBody s_BadBook_init) (defScope s_BadBook_init) .none kV_BadBook_init dc_BadBook_init pm_BadBook_init an_BadBook_init cd_BadBook_init ct_BadBook_init), sl_BadBook_init⟩)
    (c_BadBook_init : PySem.W.codeIn K cd_BadBook_init "BadBook.__init__" = true)
    (k_BadBook_init : PySem.W.keepIn K (.ref f_BadBook_init) = true)
    (a_NoWork_init : PySem.W.findIn K (.ref C_NoWork) "__init__" = some (some (.ref f_NoWork_init)))
    (t_NoWork_init : PySem.W.typeIn K (.ref f_NoWork_init) = some (.type "function"))
    (l_NoWork_init : K.lookup f_NoWork_init = some ⟨oc_NoWork_init, od_NoWork_init, .func (PySem.W.fnOf "__init__" "NoWork.__init__" (defArgs s_NoWork_init) (defBody s_NoWork_init) (defScope s_NoWork_init) .none kV_NoWork_init dc_NoWork_init pm_NoWork_init an_NoWork_init cd_NoWork_init ct_NoWork_init), sl_NoWork_init⟩)
    (c_NoWork_init : PySem.W.codeIn K cd_NoWork_init "NoWork.__init__" = true)
    (k_NoWork_init : PySem.W.keepIn K (.ref f_NoWork_init) = true)
    (a_NoLot_init : PySem.W.findIn K (.ref C_NoLot) "__init__" = some (some (.ref f_NoLot_init)))
    (t_NoLot_init : PySem.W.typeIn K (.ref f_NoLot_init) = some (.type "function"))
    (l_NoLot_init : K.lookup f_NoLot_init = some ⟨oc_NoLot_init, od_NoLot_init, .func (PySem.W.fnOf "__init__" "NoLot.__init__" (defArgs s_NoLot_init) (defBody s_NoLot_init) (defScope s_NoLot_init) .none kV_NoLot_init dc_NoLot_init pm_NoLot_init an_NoLot_init cd_NoLot_init ct_NoLot_init), sl_NoLot_init⟩)
    (c_NoLot_init : PySem.W.codeIn K cd_NoLot_init "NoLot.__init__" = true)
    (k_NoLot_init : PySem.W.keepIn K (.ref f_NoLot_init) = true)
    (a_NoGroup_init : PySem.W.findIn K (.ref C_NoGroup) "__init__" = some (some (.ref f_NoGroup_init)))
    (t_NoGroup_init : PySem.W.typeIn K (.ref f_NoGroup_init) = some (.type "function"))
    (l_NoGroup_init : K.lookup f_NoGroup_init = some ⟨oc_NoGroup_init, od_NoGroup_init, .func (PySem.W.fnOf "__init__" "NoGroup.__init__" (defArgs s_NoGroup_init) (defBody s_NoGroup_init) (defScope s_NoGroup_init) .none kV_NoGroup_init dc_NoGroup_init pm_NoGroup_init an_NoGroup_init cd_NoGroup_init ct_NoGroup_init), sl_NoGroup_init⟩)
    (c_NoGroup_init : PySem.W.codeIn K cd_NoGroup_init "NoGroup.__init__" = true)
    (k_NoGroup_init : PySem.W.keepIn K (.ref f_NoGroup_init) = true)
    (a_NoNumber_init : PySem.W.findIn K (.ref C_NoNumber) "__init__" = some (some (.ref f_NoNumber_init)))
    (t_NoNumber_init : PySem.W.typeIn K (.ref f_NoNumber_init) = some (.type "function"))
    (l_NoNumber_init : K.lookup f_NoNumber_init = some ⟨oc_NoNumber_init, od_NoNumber_init, .func (PySem.W.fnOf "__init__" "NoNumber.__init__" (defArgs s_NoNumber_init) (defBody s_NoNumber_init) (defScope s_NoNumber_init) .none kV_NoNumber_init dc_NoNumber_init pm_NoNumber_init an_NoNumber_init cd_NoNumber_init ct_NoNumber_init), sl_NoNumber_init⟩)
    (c_NoNumber_init : PySem.W.codeIn K cd_NoNumber_init "NoNumber.__init__" = true)
    (k_NoNumber_init : PySem.W.keepIn K (.ref f_NoNumber_init) = true)
    (a_NoRow_init : PySem.W.findIn K (.ref C_NoRow) "__init__" = some (some (.ref f_NoRow_init)))
    (t_NoRow_init : PySem.W.typeIn K (.ref f_NoRow_init) = some (.type "function"))
    (l_NoRow_init : K.lookup f_NoRow_init = some ⟨oc_NoRow_init, od_NoRow_init, .func (PySem.W.fnOf "__init__" "NoRow.__init__" (defArgs s_NoRow_init) (defBody s_NoRow_init) (defScope s_NoRow_init) .none kV_NoRow_init dc_NoRow_init pm_NoRow_init an_NoRow_init cd_NoRow_init ct_NoRow_init), sl_NoRow_init⟩)
    (c_NoRow_init : PySem.W.codeIn K cd_NoRow_init "NoRow.__init__" = true)
    (k_NoRow_init : PySem.W.keepIn K (.ref f_NoRow_init) = true)
    (a_TooMany_init : PySem.W.findIn K (.ref C_TooMany) "__init__" = some (some (.ref f_TooMany_init)))
    (t_TooMany_init : PySem.W.typeIn K (.ref f_TooMany_init) = some (.type "function"))
    (l_TooMany_init : K.lookup f_TooMany_init = some ⟨oc_TooMany_init, od_TooMany_init, .func (PySem.W.fnOf "__init__" "TooMany.__init__" (defArgs s_TooMany_init) (defBody s_TooMany_init) (defScope s_TooMany_init) .none kV_TooMany_init dc_TooMany_init pm_TooMany_init an_TooMany_init cd_TooMany_init ct_TooMany_init), sl_TooMany_init⟩)
    (c_TooMany_init : PySem.W.codeIn K cd_TooMany_init "TooMany.__init__" = true)
    (k_TooMany_init : PySem.W.keepIn K (.ref f_TooMany_init) = true)
    (a_NoOrder_init : PySem.W.findIn K (.ref C_NoOrder) "__init__" = some (some (.ref f_NoOrder_init)))
    (t_NoOrder_init : PySem.W.typeIn K (.ref f_NoOrder_init) = some (.type "function"))
    (l_NoOrder_init : K.lookup f_NoOrder_init = some ⟨oc_NoOrder_init, od_NoOrder_init, .func (PySem.W.fnOf "__init__" "NoOrder.__init__" (defArgs s_NoOrder_init) (defBody s_NoOrder_init) (defScope s_NoOrder_init) .none kV_NoOrder_init dc_NoOrder_init pm_NoOrder_init an_NoOrder_init cd_NoOrder_init ct_NoOrder_init), sl_NoOrder_init⟩)
    (c_NoOrder_init : PySem.W.codeIn K cd_NoOrder_init "NoOrder.__init__" = true)
    (k_NoOrder_init : PySem.W.keepIn K (.ref f_NoOrder_init) = true)
    (a_NoRule_init : PySem.W.findIn K (.ref C_NoRule) "__init__" = some (some (.ref f_NoRule_init)))
    (t_NoRule_init : PySem.W.typeIn K (.ref f_NoRule_init) = some (.type "function"))
    (l_NoRule_init : K.lookup f_NoRule_init = some ⟨oc_NoRule_init, od_NoRule_init, .func (PySem.W.fnOf "__init__" "NoRule.__init__" (defArgs s_NoRule_init) (defBody s_NoRule_init) (defScope s_NoRule_init) .none kV_NoRule_init dc_NoRule_init pm_NoRule_init an_NoRule_init cd_NoRule_init ct_NoRule_init), sl_NoRule_init⟩)
    (c_NoRule_init : PySem.W.codeIn K cd_NoRule_init "NoRule.__init__" = true)
    (k_NoRule_init : PySem.W.keepIn K (.ref f_NoRule_init) = true)
    (a_TooLate_init : PySem.W.findIn K (.ref C_TooLate) "__init__" = some (some (.ref f_TooLate_init)))
    (t_TooLate_init : PySem.W.typeIn K (.ref f_TooLate_init) = some (.type "function"))
    (l_TooLate_init : K.lookup f_TooLate_init = some ⟨oc_TooLate_init, od_TooLate_init, .func (PySem.W.fnOf "__init__" "TooLate.__init__" (defArgs s_TooLate_init) (defBody s_TooLate_init) (defScope s_TooLate_init) .none kV_TooLate_init dc_TooLate_init pm_TooLate_init an_TooLate_init cd_TooLate_init ct_TooLate_init), sl_TooLate_init⟩)
    (c_TooLate_init : PySem.W.codeIn K cd_TooLate_init "TooLate.__init__" = true)
    (k_TooLate_init : PySem.W.keepIn K (.ref f_TooLate_init) = true)
    (a_NoPrices_init : PySem.W.findIn K (.ref C_NoPrices) "__init__" = some (some (.ref f_NoPrices_init)))
    (t_NoPrices_init : PySem.W.typeIn K (.ref f_NoPrices_init) = some (.type "function"))
    (l_NoPrices_init : K.lookup f_NoPrices_init = some ⟨oc_NoPrices_init, od_NoPrices_init, .func (PySem.W.fnOf "__init__" "NoPrices.__init__" (defArgs s_NoPrices_init) (defBody s_NoPrices_init) (defScope s_NoPrices_init) .none kV_NoPrices_init dc_NoPrices_init pm_NoPrices_init an_NoPrices_init cd_NoPrices_init ct_NoPrices_init), sl_NoPrices_init⟩)
    (c_NoPrices_init : PySem.W.codeIn K cd_NoPrices_init "NoPrices.__init__" = true)
    (k_NoPrices_init : PySem.W.keepIn K (.ref f_NoPrices_init) = true)
    (a_NoBounds_init : PySem.W.findIn K (.ref C_NoBounds) "__init__" = some (some (.ref f_NoBounds_init)))
    (t_NoBounds_init : PySem.W.typeIn K (.ref f_NoBounds_init) = some (.type "function"))
    (l_NoBounds_init : K.lookup f_NoBounds_init = some ⟨oc_NoBounds_init, od_NoBounds_init, .func (PySem.W.fnOf "__init__" "NoBounds.__init__" (defArgs s_NoBounds_init) (defBody s_NoBounds_init) (defScope s_NoBounds_init) .none kV_NoBounds_init dc_NoBounds_init pm_NoBounds_init an_NoBounds_init cd_NoBounds_init ct_NoBounds_init), sl_NoBounds_init⟩)
    (c_NoBounds_init : PySem.W.codeIn K cd_NoBounds_init "NoBounds.__init__" = true)
    (k_NoBounds_init : PySem.W.keepIn K (.ref f_NoBounds_init) = true)
    (a_Over_init : PySem.W.findIn K (.ref C_Over) "__init__" = some (some (.ref f_Over_init)))
    (t_Over_init : PySem.W.typeIn K (.ref f_Over_init) = some (.type "function"))
    (l_Over_init : K.lookup f_Over_init = some ⟨oc_Over_init, od_Over_init, .func (PySem.W.fnOf "__init__" "Over.__init__" (defArgs s_Over_init) (defBody s_Over_init) (defScope s_Over_init) .none kV_Over_init dc_Over_init pm_Over_init an_Over_init cd_Over_init ct_Over_init), sl_Over_init⟩)
    (c_Over_init : PySem.W.codeIn K cd_Over_init "Over.__init__" = true)
    (k_Over_init : PySem.W.keepIn K (.ref f_Over_init) = true)
    (a_NoLength_init : PySem.W.findIn K (.ref C_NoLength) "__init__" = some (some (.ref f_NoLength_init)))
    (t_NoLength_init : PySem.W.typeIn K (.ref f_NoLength_init) = some (.type "function"))
    (l_NoLength_init : K.lookup f_NoLength_init = some ⟨oc_NoLength_init, od_NoLength_init, .func (PySem.W.fnOf "__init__" "NoLength.__init__" (defArgs s_NoLength_init) (defBody s_NoLength_init) (defScope s_NoLength_init) .none kV_NoLength_init dc_NoLength_init pm_NoLength_init an_NoLength_init cd_NoLength_init ct_NoLength_init), sl_NoLength_init⟩)
    (c_NoLength_init : PySem.W.codeIn K cd_NoLength_init "NoLength.__init__" = true)
    (k_NoLength_init : PySem.W.keepIn K (.ref f_NoLength_init) = true)
    (a_NothingDone_init : PySem.W.findIn K (.ref C_NothingDone) "__init__" = some (some (.ref f_NothingDone_init)))
    (t_NothingDone_init : PySem.W.typeIn K (.ref f_NothingDone_init) = some (.type "function"))
    (l_NothingDone_init : K.lookup f_NothingDone_init = some ⟨oc_NothingDone_init, od_NothingDone_init, .func (PySem.W.fnOf "__init__" "NothingDone.__init__" (defArgs s_NothingDone_init) (defBody s_NothingDone_init) (defScope s_NothingDone_init) .none kV_NothingDone_init dc_NothingDone_init pm_NothingDone_init an_NothingDone_init cd_NothingDone_init ct_NothingDone_init), sl_NothingDone_init⟩)
    (c_NothingDone_init : PySem.W.codeIn K cd_NothingDone_init "NothingDone.__init__" = true)
    (k_NothingDone_init : PySem.W.keepIn K (.ref f_NothingDone_init) = true)
    (a_BadText_init : PySem.W.findIn K (.ref C_BadText) "__init__" = some (some (.ref f_BadText_init)))
    (t_BadText_init : PySem.W.typeIn K (.ref f_BadText_init) = some (.type "function"))
    (l_BadText_init : K.lookup f_BadText_init = some ⟨oc_BadText_init, od_BadText_init, .func (PySem.W.fnOf "__init__" "BadText.__init__" (defArgs s_BadText_init) (defBody s_BadText_init) (defScope s_BadText_init) .none kV_BadText_init dc_BadText_init pm_BadText_init an_BadText_init cd_BadText_init ct_BadText_init), sl_BadText_init⟩)
    (c_BadText_init : PySem.W.codeIn K cd_BadText_init "BadText.__init__" = true)
    (k_BadText_init : PySem.W.keepIn K (.ref f_BadText_init) = true)
    (a_NoLine_init : PySem.W.findIn K (.ref C_NoLine) "__init__" = some (some (.ref f_NoLine_init)))
    (t_NoLine_init : PySem.W.typeIn K (.ref f_NoLine_init) = some (.type "function"))
    (l_NoLine_init : K.lookup f_NoLine_init = some ⟨oc_NoLine_init, od_NoLine_init, .func (PySem.W.fnOf "__init__" "NoLine.__init__" (defArgs s_NoLine_init) (defBody s_NoLine_init) (defScope s_NoLine_init) .none kV_NoLine_init dc_NoLine_init pm_NoLine_init an_NoLine_init cd_NoLine_init ct_NoLine_init), sl_NoLine_init⟩)
    (c_NoLine_init : PySem.W.codeIn K cd_NoLine_init "NoLine.__init__" = true)
    (k_NoLine_init : PySem.W.keepIn K (.ref f_NoLine_init) = true)
    (a_NoName_init : PySem.W.findIn K (.ref C_NoName) "__init__" = some (some (.ref f_NoName_init)))
    (t_NoName_init : PySem.W.typeIn K (.ref f_NoName_init) = some (.type "function"))
    (l_NoName_init : K.lookup f_NoName_init = some ⟨oc_NoName_init, od_NoName_init, .func (PySem.W.fnOf "__init__" "NoName.__init__" (defArgs s_NoName_init) (defBody s_NoName_init) (defScope s_NoName_init) .none kV_NoName_init dc_NoName_init pm_NoName_init an_NoName_init cd_NoName_init ct_NoName_init), sl_NoName_init⟩)
    (c_NoName_init : PySem.W.codeIn K cd_NoName_init "NoName.__init__" = true)
    (k_NoName_init : PySem.W.keepIn K (.ref f_NoName_init) = true)
    (a_l_pool : PySem.W.nsIn K mainGlobals "_law_pool" = some (some (.ref f_l_pool)))
    (l_l_pool : K.lookup f_l_pool = some ⟨oc_l_pool, od_l_pool, .func (PySem.W.fnOf "_law_pool" "_law_pool" (defArgs s_l_pool) (defBody s_l_pool) (defScope s_l_pool) .none kV_l_pool dc_l_pool pm_l_pool an_l_pool cd_l_pool ct_l_pool), sl_l_pool⟩)
    (c_l_pool : PySem.W.codeIn K cd_l_pool "_law_pool" = true)
    (k_l_pool : PySem.W.keepIn K (.ref f_l_pool) = true)
    (a_l_draw : PySem.W.nsIn K mainGlobals "_law_draw" = some (some (.ref f_l_draw)))
    (l_l_draw : K.lookup f_l_draw = some ⟨oc_l_draw, od_l_draw, .func (PySem.W.fnOf "_law_draw" "_law_draw" (defArgs s_l_draw) (defBody s_l_draw) (defScope s_l_draw) .none kV_l_draw dc_l_draw pm_l_draw an_l_draw cd_l_draw ct_l_draw), sl_l_draw⟩)
    (c_l_draw : PySem.W.codeIn K cd_l_draw "_law_draw" = true)
    (k_l_draw : PySem.W.keepIn K (.ref f_l_draw) = true)
    (a_l_made : PySem.W.nsIn K mainGlobals "_law_made" = some (some (.ref f_l_made)))
    (l_l_made : K.lookup f_l_made = some ⟨oc_l_made, od_l_made, .func (PySem.W.fnOf "_law_made" "_law_made" (defArgs s_l_made) (defBody s_l_made) (defScope s_l_made) .none kV_l_made dc_l_made pm_l_made an_l_made cd_l_made ct_l_made), sl_l_made⟩)
    (c_l_made : PySem.W.codeIn K cd_l_made "_law_made" = true)
    (k_l_made : PySem.W.keepIn K (.ref f_l_made) = true)
    (a_l_kinds : PySem.W.nsIn K mainGlobals "_law_kinds" = some (some (.ref f_l_kinds)))
    (l_l_kinds : K.lookup f_l_kinds = some ⟨oc_l_kinds, od_l_kinds, .func (PySem.W.fnOf "_law_kinds" "_law_kinds" (defArgs s_l_kinds) (defBody s_l_kinds) (defScope s_l_kinds) .none kV_l_kinds dc_l_kinds pm_l_kinds an_l_kinds cd_l_kinds ct_l_kinds), sl_l_kinds⟩)
    (c_l_kinds : PySem.W.codeIn K cd_l_kinds "_law_kinds" = true)
    (k_l_kinds : PySem.W.keepIn K (.ref f_l_kinds) = true)
    (a_l_same : PySem.W.nsIn K mainGlobals "_law_same" = some (some (.ref f_l_same)))
    (l_l_same : K.lookup f_l_same = some ⟨oc_l_same, od_l_same, .func (PySem.W.fnOf "_law_same" "_law_same" (defArgs s_l_same) (defBody s_l_same) (defScope s_l_same) .none kV_l_same dc_l_same pm_l_same an_l_same cd_l_same ct_l_same), sl_l_same⟩)
    (c_l_same : PySem.W.codeIn K cd_l_same "_law_same" = true)
    (k_l_same : PySem.W.keepIn K (.ref f_l_same) = true)
    (a_l_caught : PySem.W.nsIn K mainGlobals "_law_caught" = some (some (.ref f_l_caught)))
    (l_l_caught : K.lookup f_l_caught = some ⟨oc_l_caught, od_l_caught, .func (PySem.W.fnOf "_law_caught" "_law_caught" (defArgs s_l_caught) (defBody s_l_caught) (defScope s_l_caught) .none kV_l_caught dc_l_caught pm_l_caught an_l_caught cd_l_caught ct_l_caught), sl_l_caught⟩)
    (c_l_caught : PySem.W.codeIn K cd_l_caught "_law_caught" = true)
    (k_l_caught : PySem.W.keepIn K (.ref f_l_caught) = true)
    (a_law : PySem.W.nsIn K mainGlobals "law" = some (some (.ref f_law)))
    (l_law : K.lookup f_law = some ⟨oc_law, od_law, .func (PySem.W.fnOf "law" "law" (defArgs s_law) (defBody s_law) (defScope s_law) .none kV_law dc_law pm_law an_law cd_law ct_law), sl_law⟩)
    (c_law : PySem.W.codeIn K cd_law "law" = true)
    (k_law : PySem.W.keepIn K (.ref f_law) = true)
    (z_ValueError : PySem.W.nsIn K mainGlobals "ValueError" = some none)
    (z_abs : PySem.W.nsIn K mainGlobals "abs" = some none)
    (z_all : PySem.W.nsIn K mainGlobals "all" = some none)
    (z_bool : PySem.W.nsIn K mainGlobals "bool" = some none)
    (z_int : PySem.W.nsIn K mainGlobals "int" = some none)
    (z_isinstance : PySem.W.nsIn K mainGlobals "isinstance" = some none)
    (z_len : PySem.W.nsIn K mainGlobals "len" = some none)
    (z_range : PySem.W.nsIn K mainGlobals "range" = some none)
    (z_sum : PySem.W.nsIn K mainGlobals "sum" = some none)
    (xn : PySem.W.specialIn K (.builtin "object.__class__") "__get__" = some (some (.builtin "getset_descriptor.__get__")))
    (xt : PySem.W.takesIn K (.builtin "object.__class__") = some true)
    (cm_BadBook : CM_BadBook = C_MiddleError)
    (xg_BadBook : PySem.W.findIn K (.ref C_BadBook) "__getattribute__" = some (some (.builtin "BaseException.__getattribute__")))
    (xk_BadBook : PySem.W.findIn K (.ref C_BadBook) "__getattr__" = some none)
    (xa_BadBook : PySem.W.findIn K (.ref C_BadBook) "__class__" = some (some (.builtin "object.__class__")))
    (xm_BadBook : PySem.W.mroIn K C_BadBook (.type "object") = some true)
    (cm_NoWork : CM_NoWork = C_MiddleError)
    (xg_NoWork : PySem.W.findIn K (.ref C_NoWork) "__getattribute__" = some (some (.builtin "BaseException.__getattribute__")))
    (xk_NoWork : PySem.W.findIn K (.ref C_NoWork) "__getattr__" = some none)
    (xa_NoWork : PySem.W.findIn K (.ref C_NoWork) "__class__" = some (some (.builtin "object.__class__")))
    (xm_NoWork : PySem.W.mroIn K C_NoWork (.type "object") = some true)
    (cm_NoLot : CM_NoLot = C_MiddleError)
    (xg_NoLot : PySem.W.findIn K (.ref C_NoLot) "__getattribute__" = some (some (.builtin "BaseException.__getattribute__")))
    (xk_NoLot : PySem.W.findIn K (.ref C_NoLot) "__getattr__" = some none)
    (xa_NoLot : PySem.W.findIn K (.ref C_NoLot) "__class__" = some (some (.builtin "object.__class__")))
    (xm_NoLot : PySem.W.mroIn K C_NoLot (.type "object") = some true)
    (cm_NoGroup : CM_NoGroup = C_MiddleError)
    (xg_NoGroup : PySem.W.findIn K (.ref C_NoGroup) "__getattribute__" = some (some (.builtin "BaseException.__getattribute__")))
    (xk_NoGroup : PySem.W.findIn K (.ref C_NoGroup) "__getattr__" = some none)
    (xa_NoGroup : PySem.W.findIn K (.ref C_NoGroup) "__class__" = some (some (.builtin "object.__class__")))
    (xm_NoGroup : PySem.W.mroIn K C_NoGroup (.type "object") = some true)
    (cm_NoNumber : CM_NoNumber = C_MiddleError)
    (xg_NoNumber : PySem.W.findIn K (.ref C_NoNumber) "__getattribute__" = some (some (.builtin "BaseException.__getattribute__")))
    (xk_NoNumber : PySem.W.findIn K (.ref C_NoNumber) "__getattr__" = some none)
    (xa_NoNumber : PySem.W.findIn K (.ref C_NoNumber) "__class__" = some (some (.builtin "object.__class__")))
    (xm_NoNumber : PySem.W.mroIn K C_NoNumber (.type "object") = some true)
    (cm_NoRow : CM_NoRow = C_MiddleError)
    (xg_NoRow : PySem.W.findIn K (.ref C_NoRow) "__getattribute__" = some (some (.builtin "BaseException.__getattribute__")))
    (xk_NoRow : PySem.W.findIn K (.ref C_NoRow) "__getattr__" = some none)
    (xa_NoRow : PySem.W.findIn K (.ref C_NoRow) "__class__" = some (some (.builtin "object.__class__")))
    (xm_NoRow : PySem.W.mroIn K C_NoRow (.type "object") = some true)
    (cm_NoOrder : CM_NoOrder = C_MiddleError)
    (xg_NoOrder : PySem.W.findIn K (.ref C_NoOrder) "__getattribute__" = some (some (.builtin "BaseException.__getattribute__")))
    (xk_NoOrder : PySem.W.findIn K (.ref C_NoOrder) "__getattr__" = some none)
    (xa_NoOrder : PySem.W.findIn K (.ref C_NoOrder) "__class__" = some (some (.builtin "object.__class__")))
    (xm_NoOrder : PySem.W.mroIn K C_NoOrder (.type "object") = some true)
    (cm_NoPrices : CM_NoPrices = C_MiddleError)
    (xg_NoPrices : PySem.W.findIn K (.ref C_NoPrices) "__getattribute__" = some (some (.builtin "BaseException.__getattribute__")))
    (xk_NoPrices : PySem.W.findIn K (.ref C_NoPrices) "__getattr__" = some none)
    (xa_NoPrices : PySem.W.findIn K (.ref C_NoPrices) "__class__" = some (some (.builtin "object.__class__")))
    (xm_NoPrices : PySem.W.mroIn K C_NoPrices (.type "object") = some true)
    (cm_Over : CM_Over = C_MiddleError)
    (xg_Over : PySem.W.findIn K (.ref C_Over) "__getattribute__" = some (some (.builtin "BaseException.__getattribute__")))
    (xk_Over : PySem.W.findIn K (.ref C_Over) "__getattr__" = some none)
    (xa_Over : PySem.W.findIn K (.ref C_Over) "__class__" = some (some (.builtin "object.__class__")))
    (xm_Over : PySem.W.mroIn K C_Over (.type "object") = some true)
    (cm_NoLength : CM_NoLength = C_MiddleError)
    (xg_NoLength : PySem.W.findIn K (.ref C_NoLength) "__getattribute__" = some (some (.builtin "BaseException.__getattribute__")))
    (xk_NoLength : PySem.W.findIn K (.ref C_NoLength) "__getattr__" = some none)
    (xa_NoLength : PySem.W.findIn K (.ref C_NoLength) "__class__" = some (some (.builtin "object.__class__")))
    (xm_NoLength : PySem.W.mroIn K C_NoLength (.type "object") = some true)
    (cm_NothingDone : CM_NothingDone = C_MiddleError)
    (xg_NothingDone : PySem.W.findIn K (.ref C_NothingDone) "__getattribute__" = some (some (.builtin "BaseException.__getattribute__")))
    (xk_NothingDone : PySem.W.findIn K (.ref C_NothingDone) "__getattr__" = some none)
    (xa_NothingDone : PySem.W.findIn K (.ref C_NothingDone) "__class__" = some (some (.builtin "object.__class__")))
    (xm_NothingDone : PySem.W.mroIn K C_NothingDone (.type "object") = some true)
    (cm_NoLine : CM_NoLine = C_MiddleError)
    (xg_NoLine : PySem.W.findIn K (.ref C_NoLine) "__getattribute__" = some (some (.builtin "BaseException.__getattribute__")))
    (xk_NoLine : PySem.W.findIn K (.ref C_NoLine) "__getattr__" = some none)
    (xa_NoLine : PySem.W.findIn K (.ref C_NoLine) "__class__" = some (some (.builtin "object.__class__")))
    (xm_NoLine : PySem.W.mroIn K C_NoLine (.type "object") = some true)
    (cm_NoBounds : CM_NoBounds = C_MiddleError)
    (xg_NoBounds : PySem.W.findIn K (.ref C_NoBounds) "__getattribute__" = some (some (.builtin "BaseException.__getattribute__")))
    (xk_NoBounds : PySem.W.findIn K (.ref C_NoBounds) "__getattr__" = some none)
    (xa_NoBounds : PySem.W.findIn K (.ref C_NoBounds) "__class__" = some (some (.builtin "object.__class__")))
    (xm_NoBounds : PySem.W.mroIn K C_NoBounds (.type "object") = some true)
    (cm_TooMany : CM_TooMany = C_MiddleError)
    (xg_TooMany : PySem.W.findIn K (.ref C_TooMany) "__getattribute__" = some (some (.builtin "BaseException.__getattribute__")))
    (xk_TooMany : PySem.W.findIn K (.ref C_TooMany) "__getattr__" = some none)
    (xa_TooMany : PySem.W.findIn K (.ref C_TooMany) "__class__" = some (some (.builtin "object.__class__")))
    (xm_TooMany : PySem.W.mroIn K C_TooMany (.type "object") = some true)
    (cm_NoRule : CM_NoRule = C_MiddleError)
    (xg_NoRule : PySem.W.findIn K (.ref C_NoRule) "__getattribute__" = some (some (.builtin "BaseException.__getattribute__")))
    (xk_NoRule : PySem.W.findIn K (.ref C_NoRule) "__getattr__" = some none)
    (xa_NoRule : PySem.W.findIn K (.ref C_NoRule) "__class__" = some (some (.builtin "object.__class__")))
    (xm_NoRule : PySem.W.mroIn K C_NoRule (.type "object") = some true)
    (cm_TooLate : CM_TooLate = C_MiddleError)
    (xg_TooLate : PySem.W.findIn K (.ref C_TooLate) "__getattribute__" = some (some (.builtin "BaseException.__getattribute__")))
    (xk_TooLate : PySem.W.findIn K (.ref C_TooLate) "__getattr__" = some none)
    (xa_TooLate : PySem.W.findIn K (.ref C_TooLate) "__class__" = some (some (.builtin "object.__class__")))
    (xm_TooLate : PySem.W.mroIn K C_TooLate (.type "object") = some true)
    (cm_BadText : CM_BadText = C_MiddleError)
    (xg_BadText : PySem.W.findIn K (.ref C_BadText) "__getattribute__" = some (some (.builtin "BaseException.__getattribute__")))
    (xk_BadText : PySem.W.findIn K (.ref C_BadText) "__getattr__" = some none)
    (xa_BadText : PySem.W.findIn K (.ref C_BadText) "__class__" = some (some (.builtin "object.__class__")))
    (xm_BadText : PySem.W.mroIn K C_BadText (.type "object") = some true)
    (cm_NoName : CM_NoName = C_MiddleError)
    (xg_NoName : PySem.W.findIn K (.ref C_NoName) "__getattribute__" = some (some (.builtin "BaseException.__getattribute__")))
    (xk_NoName : PySem.W.findIn K (.ref C_NoName) "__getattr__" = some none)
    (xa_NoName : PySem.W.findIn K (.ref C_NoName) "__class__" = some (some (.builtin "object.__class__")))
    (xm_NoName : PySem.W.mroIn K C_NoName (.type "object") = some true)
    (nf_TooMany : PySem.W.findIn K (.ref C_TooMany) "most" = some none)
    (nf_NoRule : PySem.W.findIn K (.ref C_NoRule) "group" = some none)
    (nf_TooLate : PySem.W.findIn K (.ref C_TooLate) "most" = some none)
    (nf_BadText : PySem.W.findIn K (.ref C_BadText) "line" = some none)
    (nf_NoName : PySem.W.findIn K (.ref C_NoName) "name" = some none)
    (sm_Over : PySem.W.subIn K (.ref C_Over) (.ref C_MiddleError) = some true)
    (sm_NoLine : PySem.W.subIn K (.ref C_NoLine) (.ref C_MiddleError) = some true)
    (sm_TooMany : PySem.W.subIn K (.ref C_TooMany) (.ref C_MiddleError) = some true)
    (st_Over : PySem.W.subIn K (.ref C_Over) (.ref C_TooMany) = some false)
    (st_NoLine : PySem.W.subIn K (.ref C_NoLine) (.ref C_TooMany) = some false)
    (nd : ([C_MiddleError, C_BadBook, C_NoWork, C_NoLot, C_NoGroup, C_NoNumber, C_NoRow, C_NoOrder, C_NoPrices, C_Over, C_NoLength, C_NothingDone, C_NoLine, C_NoBounds, C_TooMany, C_NoRule, C_TooLate, C_BadText, C_NoName] : List Addr).Nodup) :
    ∃ fd : FuncData, (∀ (s : Shared) (v : Value), BindsTo s fd ⟨[v], []⟩ [("_law_script", v)]) ∧ ∀ base : Heap, K.In base → base.Ns mainGlobals mg → FnOk l.prog w K mg base CX0 4 fa fd ["_law_script"] (sp_law K ⟨fun _ => 0, fun _ => 0⟩) := by
  have e := (PySem.W.mg_of X G a_law).symm.trans hfa
  cases e
  have T : Txt K mg ⟨fun n => ([f_BadBook_init, f_NoWork_init, 0, 0, 0, 0, 0, 0, 0, 0, 0, f_l_pool, f_l_draw, 0, 0, fa, f_NoLot_init, f_NoRow_init, 0, 0, 0, 0, 0, 0, 0, 0, 0, 0, 0, 0, 0, 0, 0, 0, 0, 0, f_NoNumber_init, 0, 0, 0, 0, 0, f_NoGroup_init, 0, 0, 0, 0, 0, 0, 0, 0, 0, 0, 0, 0, 0, 0, 0, 0, 0, 0, 0, 0, 0, 0, 0, 0, 0, f_NoOrder_init, 0, 0, 0, 0, 0, 0, 0, 0, 0, 0, 0, 0, f_NoPrices_init, f_Over_init, f_NoLength_init, f_NothingDone_init, f_NoLine_init, f_NoBounds_init, f_TooMany_init, f_NoRule_init, f_TooLate_init, f_BadText_init, f_NoName_init, f_l_made, f_l_kinds, f_l_same, f_l_caught] : List Addr).getD n 0, fun n => ([C_BadBook, C_NoWork, 0, C_NoLot, C_NoRow, C_NoNumber, C_MiddleError, C_NoGroup, C_NoOrder, C_NoPrices, C_Over, C_NoLength, C_NothingDone, C_NoLine, C_NoBounds, C_TooMany, C_NoRule, C_TooLate, C_BadText, C_NoName] : List Addr).getD n 0⟩ ⟨fun n => ([PySem.W.fnOf "__init__" "BadBook.__init__" (defArgs s_BadBook_init) (defBody s_BadBook_init) (defScope s_BadBook_init) .none kV_BadBook_init dc_BadBook_init pm_BadBook_init an_BadBook_init cd_BadBook_init ct_BadBook_init, PySem.W.fnOf "__init__" "NoWork.__init__" (defArgs s_NoWork_init) (defBody s_NoWork_init) (defScope s_NoWork_init) .none kV_NoWork_init dc_NoWork_init pm_NoWork_init an_NoWork_init cd_NoWork_init ct_NoWork_init, PySem.W.fnOf "law" "law" (defArgs s_law) (defBody s_law) (defScope s_law) .none kV_law dc_law pm_law an_law cd_law ct_law, PySem.W.fnOf "law" "law" (defArgs s_law) (defBody s_law) (defScope s_law) .none kV_law dc_law pm_law an_law cd_law ct_law, PySem.W.fnOf "law" "law" (defArgs s_law) (defBody s_law) (defScope s_law) .none kV_law dc_law pm_law an_law cd_law ct_law, PySem.W.fnOf "law" "law" (defArgs s_law) (defBody s_law) (defScope s_law) .none kV_law dc_law pm_law an_law cd_law ct_law, PySem.W.fnOf "law" "law" (defArgs s_law) (defBody s_law) (defScope s_law) .none kV_law dc_law pm_law an_law cd_law ct_law, PySem.W.fnOf "law" "law" (defArgs s_law) (defBody s_law) (defScope s_law) .none kV_law dc_law pm_law an_law cd_law ct_law, PySem.W.fnOf "law" "law" (defArgs s_law) (defBody s_law) (defScope s_law) .none kV_law dc_law pm_law an_law cd_law ct_law, PySem.W.fnOf "law" "law" (defArgs s_law) (defBody s_law) (defScope s_law) .none kV_law dc_law pm_law an_law cd_law ct_law, PySem.W.fnOf "law" "law" (defArgs s_law) (defBody s_law) (defScope s_law) .none kV_law dc_law pm_law an_law cd_law ct_law, PySem.W.fnOf "_law_pool" "_law_pool" (defArgs s_l_pool) (defBody s_l_pool) (defScope s_l_pool) .none kV_l_pool dc_l_pool pm_l_pool an_l_pool cd_l_pool ct_l_pool, PySem.W.fnOf "_law_draw" "_law_draw" (defArgs s_l_draw) (defBody s_l_draw) (defScope s_l_draw) .none kV_l_draw dc_l_draw pm_l_draw an_l_draw cd_l_draw ct_l_draw, PySem.W.fnOf "law" "law" (defArgs s_law) (defBody s_law) (defScope s_law) .none kV_law dc_law pm_law an_law cd_law ct_law, PySem.W.fnOf "law" "law" (defArgs s_law) (defBody s_law) (defScope s_law) .none kV_law dc_law pm_law an_law cd_law ct_law, PySem.W.fnOf "law" "law" (defArgs s_law) (defBody s_law) (defScope s_law) .none kV_law dc_law pm_law an_law cd_law ct_law, PySem.W.fnOf "__init__" "NoLot.__init__" (defArgs s_NoLot_init) (defBody s_NoLot_init) (defScope s_NoLot_init) .none kV_NoLot_init dc_NoLot_init pm_NoLot_init an_NoLot_init cd_NoLot_init ct_NoLot_init, PySem.W.fnOf "__init__" "NoRow.__init__" (defArgs s_NoRow_init) (defBody s_NoRow_init) (defScope s_NoRow_init) .none kV_NoRow_init dc_NoRow_init pm_NoRow_init an_NoRow_init cd_NoRow_init ct_NoRow_init, PySem.W.fnOf "law" "law" (defArgs s_law) (defBody s_law) (defScope s_law) .none kV_law dc_law pm_law an_law cd_law ct_law, PySem.W.fnOf "law" "law" (defArgs s_law) (defBody s_law) (defScope s_law) .none kV_law dc_law pm_law an_law cd_law ct_law, PySem.W.fnOf "law" "law" (defArgs s_law) (defBody s_law) (defScope s_law) .none kV_law dc_law pm_law an_law cd_law ct_law, PySem.W.fnOf "law" "law" (defArgs s_law) (defBody s_law) (defScope s_law) .none kV_law dc_law pm_law an_law cd_law ct_law, PySem.W.fnOf "law" "law" (defArgs s_law) (defBody s_law) (defScope s_law) .none kV_law dc_law pm_law an_law cd_law ct_law, PySem.W.fnOf "law" "law" (defArgs s_law) (defBody s_law) (defScope s_law) .none kV_law dc_law pm_law an_law cd_law ct_law, PySem.W.fnOf "law" "law" (defArgs s_law) (defBody s_law) (defScope s_law) .none kV_law dc_law pm_law an_law cd_law ct_law, PySem.W.fnOf "law" "law" (defArgs s_law) (defBody s_law) (defScope s_law) .none kV_law dc_law pm_law an_law cd_law ct_law, PySem.W.fnOf "law" "law" (defArgs s_law) (defBody s_law) (defScope s_law) .none kV_law dc_law pm_law an_law cd_law ct_law, PySem.W.fnOf "law" "law" (defArgs s_law) (defBody s_law) (defScope s_law) .none kV_law dc_law pm_law an_law cd_law ct_law, PySem.W.fnOf "law" "law" (defArgs s_law) (defBody s_law) (defScope s_law) .none kV_law dc_law pm_law an_law cd_law ct_law, PySem.W.fnOf "law" "law" (defArgs s_law) (defBody s_law) (defScope s_law) .none kV_law dc_law pm_law an_law cd_law ct_law, PySem.W.fnOf "law" "law" (defArgs s_law) (defBody s_law) (defScope s_law) .none kV_law dc_law pm_law an_law cd_law ct_law, PySem.W.fnOf "law" "law" (defArgs s_law) (defBody s_law) (defScope s_law) .none kV_law dc_law pm_law an_law cd_law ct_law, PySem.W.fnOf "law" "law" (defArgs s_law) (defBody s_law) (defScope s_law) .none kV_law dc_law pm_law an_law cd_law ct_law, PySem.W.fnOf "law" "law" (defArgs s_law) (defBody s_law) (defScope s_law) .none kV_law dc_law pm_law an_law cd_law ct_law, PySem.W.fnOf "law" "law" (defArgs s_law) (defBody s_law) (defScope s_law) .none kV_law dc_law pm_law an_law cd_law ct_law, PySem.W.fnOf "law" "law" (defArgs s_law) (defBody s_law) (defScope s_law) .none kV_law dc_law pm_law an_law cd_law ct_law, PySem.W.fnOf "__init__" "NoNumber.__init__" (defArgs s_NoNumber_init) (defBody s_NoNumber_init) (defScope s_NoNumber_init) .none kV_NoNumber_init dc_NoNumber_init pm_NoNumber_init an_NoNumber_init cd_NoNumber_init ct_NoNumber_init, PySem.W.fnOf "law" "law" (defArgs s_law) (defBody s_law) (defScope s_law) .none kV_law dc_law pm_law an_law cd_law ct_law, PySem.W.fnOf "law" "law" (defArgs s_law) (defBody s_law) (defScope s_law) .none kV_law dc_law pm_law an_law cd_law ct_law, PySem.W.fnOf "law" "law" (defArgs s_law) (defBody s_law) (defScope s_law) .none kV_law dc_law pm_law an_law cd_law ct_law, PySem.W.fnOf "law" "law" (defArgs s_law) (defBody s_law) (defScope s_law) .none kV_law dc_law pm_law an_law cd_law ct_law, PySem.W.fnOf "law" "law" (defArgs s_law) (defBody s_law) (defScope s_law) .none kV_law dc_law pm_law an_law cd_law ct_law, PySem.W.fnOf "__init__" "NoGroup.__init__" (defArgs s_NoGroup_init) (defBody s_NoGroup_init) (defScope s_NoGroup_init) .none kV_NoGroup_init dc_NoGroup_init pm_NoGroup_init an_NoGroup_init cd_NoGroup_init ct_NoGroup_init, PySem.W.fnOf "law" "law" (defArgs s_law) (defBody s_law) (defScope s_law) .none kV_law dc_law pm_law an_law cd_law ct_law, PySem.W.fnOf "law" "law" (defArgs s_law) (defBody s_law) (defScope s_law) .none kV_law dc_law pm_law an_law cd_law ct_law, PySem.W.fnOf "law" "law" (defArgs s_law) (defBody s_law) (defScope s_law) .none kV_law dc_law pm_law an_law cd_law ct_law, PySem.W.fnOf "law" "law" (defArgs s_law) (defBody s_law) (defScope s_law) .none kV_law dc_law pm_law an_law cd_law ct_law, PySem.W.fnOf "law" "law" (defArgs s_law) (defBody s_law) (defScope s_law) .none kV_law dc_law pm_law an_law cd_law ct_law, PySem.W.fnOf "law" "law" (defArgs s_law) (defBody s_law) (defScope s_law) .none kV_law dc_law pm_law an_law cd_law ct_law, PySem.W.fnOf "law" "law" (defArgs s_law) (defBody s_law) (defScope s_law) .none kV_law dc_law pm_law an_law cd_law ct_law, PySem.W.fnOf "law" "law" (defArgs s_law) (defBody s_law) (defScope s_law) .none kV_law dc_law pm_law an_law cd_law ct_law, PySem.W.fnOf "law" "law" (defArgs s_law) (defBody s_law) (defScope s_law) .none kV_law dc_law pm_law an_law cd_law ct_law, PySem.W.fnOf "law" "law" (defArgs s_law) (defBody s_law) (defScope s_law) .none kV_law dc_law pm_law an_law cd_law ct_law, PySem.W.fnOf "law" "law" (defArgs s_law) (defBody s_law) (defScope s_law) .none kV_law dc_law pm_law an_law cd_law ct_law, PySem.W.fnOf "law" "law" (defArgs s_law) (defBody s_law) (defScope s_law) .none kV_law dc_law pm_law an_law cd_law ct_law, PySem.W.fnOf "law" "law" (defArgs s_law) (defBody s_law) (defScope s_law) .none kV_law dc_law pm_law an_law cd_law ct_law, PySem.W.fnOf "law" "law" (defArgs s_law) (defBody s_law) (defScope s_law) .none kV_law dc_law pm_law an_law cd_law ct_law, PySem.W.fnOf "law" "law" (defArgs s_law) (defBody s_law) (defScope s_law) .none kV_law dc_law pm_law an_law cd_law ct_law, PySem.W.fnOf "law" "law" (defArgs s_law) (defBody s_law) (defScope s_law) .none kV_law dc_law pm_law an_law cd_law ct_law, PySem.W.fnOf "law" "law" (defArgs s_law) (defBody s_law) (defScope s_law) .none kV_law dc_law pm_law an_law cd_law ct_law, PySem.W.fnOf "law" "law" (defArgs s_law) (defBody s_law) (defScope s_law) .none kV_law dc_law pm_law an_law cd_law ct_law, PySem.W.fnOf "law" "law" (defArgs s_law) (defBody s_law) (defScope s_law) .none kV_law dc_law pm_law an_law cd_law ct_law, PySem.W.fnOf "law" "law" (defArgs s_law) (defBody s_law) (defScope s_law) .none kV_law dc_law pm_law an_law cd_law ct_law, PySem.W.fnOf "law" "law" (defArgs s_law) (defBody s_law) (defScope s_law) .none kV_law dc_law pm_law an_law cd_law ct_law, PySem.W.fnOf "law" "law" (defArgs s_law) (defBody s_law) (defScope s_law) .none kV_law dc_law pm_law an_law cd_law ct_law, PySem.W.fnOf "law" "law" (defArgs s_law) (defBody s_law) (defScope s_law) .none kV_law dc_law pm_law an_law cd_law ct_law, PySem.W.fnOf "law" "law" (defArgs s_law) (defBody s_law) (defScope s_law) .none kV_law dc_law pm_law an_law cd_law ct_law, PySem.W.fnOf "law" "law" (defArgs s_law) (defBody s_law) (defScope s_law) .none kV_law dc_law pm_law an_law cd_law ct_law, PySem.W.fnOf "__init__" "NoOrder.__init__" (defArgs s_NoOrder_init) (defBody s_NoOrder_init) (defScope s_NoOrder_init) .none kV_NoOrder_init dc_NoOrder_init pm_NoOrder_init an_NoOrder_init cd_NoOrder_init ct_NoOrder_init, PySem.W.fnOf "law" "law" (defArgs s_law) (defBody s_law) (defScope s_law) .none kV_law dc_law pm_law an_law cd_law ct_law, PySem.W.fnOf "law" "law" (defArgs s_law) (defBody s_law) (defScope s_law) .none kV_law dc_law pm_law an_law cd_law ct_law, PySem.W.fnOf "law" "law" (defArgs s_law) (defBody s_law) (defScope s_law) .none kV_law dc_law pm_law an_law cd_law ct_law, PySem.W.fnOf "law" "law" (defArgs s_law) (defBody s_law) (defScope s_law) .none kV_law dc_law pm_law an_law cd_law ct_law, PySem.W.fnOf "law" "law" (defArgs s_law) (defBody s_law) (defScope s_law) .none kV_law dc_law pm_law an_law cd_law ct_law, PySem.W.fnOf "law" "law" (defArgs s_law) (defBody s_law) (defScope s_law) .none kV_law dc_law pm_law an_law cd_law ct_law, PySem.W.fnOf "law" "law" (defArgs s_law) (defBody s_law) (defScope s_law) .none kV_law dc_law pm_law an_law cd_law ct_law, PySem.W.fnOf "law" "law" (defArgs s_law) (defBody s_law) (defScope s_law) .none kV_law dc_law pm_law an_law cd_law ct_law, PySem.W.fnOf "law" "law" (defArgs s_law) (defBody s_law) (defScope s_law) .none kV_law dc_law pm_law an_law cd_law ct_law, PySem.W.fnOf "law" "law" (defArgs s_law) (defBody s_law) (defScope s_law) .none kV_law dc_law pm_law an_law cd_law ct_law, PySem.W.fnOf "law" "law" (defArgs s_law) (defBody s_law) (defScope s_law) .none kV_law dc_law pm_law an_law cd_law ct_law, PySem.W.fnOf "law" "law" (defArgs s_law) (defBody s_law) (defScope s_law) .none kV_law dc_law pm_law an_law cd_law ct_law, PySem.W.fnOf "__init__" "NoPrices.__init__" (defArgs s_NoPrices_init) (defBody s_NoPrices_init) (defScope s_NoPrices_init) .none kV_NoPrices_init dc_NoPrices_init pm_NoPrices_init an_NoPrices_init cd_NoPrices_init ct_NoPrices_init, PySem.W.fnOf "__init__" "Over.__init__" (defArgs s_Over_init) (defBody s_Over_init) (defScope s_Over_init) .none kV_Over_init dc_Over_init pm_Over_init an_Over_init cd_Over_init ct_Over_init, PySem.W.fnOf "__init__" "NoLength.__init__" (defArgs s_NoLength_init) (defBody s_NoLength_init) (defScope s_NoLength_init) .none kV_NoLength_init dc_NoLength_init pm_NoLength_init an_NoLength_init cd_NoLength_init ct_NoLength_init, PySem.W.fnOf "__init__" "NothingDone.__init__" (defArgs s_NothingDone_init) (defBody s_NothingDone_init) (defScope s_NothingDone_init) .none kV_NothingDone_init dc_NothingDone_init pm_NothingDone_init an_NothingDone_init cd_NothingDone_init ct_NothingDone_init, PySem.W.fnOf "__init__" "NoLine.__init__" (defArgs s_NoLine_init) (defBody s_NoLine_init) (defScope s_NoLine_init) .none kV_NoLine_init dc_NoLine_init pm_NoLine_init an_NoLine_init cd_NoLine_init ct_NoLine_init, PySem.W.fnOf "__init__" "NoBounds.__init__" (defArgs s_NoBounds_init) (defBody s_NoBounds_init) (defScope s_NoBounds_init) .none kV_NoBounds_init dc_NoBounds_init pm_NoBounds_init an_NoBounds_init cd_NoBounds_init ct_NoBounds_init, PySem.W.fnOf "__init__" "TooMany.__init__" (defArgs s_TooMany_init) (defBody s_TooMany_init) (defScope s_TooMany_init) .none kV_TooMany_init dc_TooMany_init pm_TooMany_init an_TooMany_init cd_TooMany_init ct_TooMany_init, PySem.W.fnOf "__init__" "NoRule.__init__" (defArgs s_NoRule_init) (defBody s_NoRule_init) (defScope s_NoRule_init) .none kV_NoRule_init dc_NoRule_init pm_NoRule_init an_NoRule_init cd_NoRule_init ct_NoRule_init, PySem.W.fnOf "__init__" "TooLate.__init__" (defArgs s_TooLate_init) (defBody s_TooLate_init) (defScope s_TooLate_init) .none kV_TooLate_init dc_TooLate_init pm_TooLate_init an_TooLate_init cd_TooLate_init ct_TooLate_init, PySem.W.fnOf "__init__" "BadText.__init__" (defArgs s_BadText_init) (defBody s_BadText_init) (defScope s_BadText_init) .none kV_BadText_init dc_BadText_init pm_BadText_init an_BadText_init cd_BadText_init ct_BadText_init, PySem.W.fnOf "__init__" "NoName.__init__" (defArgs s_NoName_init) (defBody s_NoName_init) (defScope s_NoName_init) .none kV_NoName_init dc_NoName_init pm_NoName_init an_NoName_init cd_NoName_init ct_NoName_init, PySem.W.fnOf "_law_made" "_law_made" (defArgs s_l_made) (defBody s_l_made) (defScope s_l_made) .none kV_l_made dc_l_made pm_l_made an_l_made cd_l_made ct_l_made, PySem.W.fnOf "_law_kinds" "_law_kinds" (defArgs s_l_kinds) (defBody s_l_kinds) (defScope s_l_kinds) .none kV_l_kinds dc_l_kinds pm_l_kinds an_l_kinds cd_l_kinds ct_l_kinds, PySem.W.fnOf "_law_same" "_law_same" (defArgs s_l_same) (defBody s_l_same) (defScope s_l_same) .none kV_l_same dc_l_same pm_l_same an_l_same cd_l_same ct_l_same, PySem.W.fnOf "_law_caught" "_law_caught" (defArgs s_l_caught) (defBody s_l_caught) (defScope s_l_caught) .none kV_l_caught dc_l_caught pm_l_caught an_l_caught cd_l_caught ct_l_caught] : List FuncData).getD n (PySem.W.fnOf "law" "law" (defArgs s_law) (defBody s_law) (defScope s_law) .none kV_law dc_law pm_law an_law cd_law ct_law)⟩ := {
    g_MiddleError := PySem.W.mg_of X G aC_MiddleError,
    g_BadBook := PySem.W.mg_of X G aC_BadBook,
    e_BadBook := ⟨⟨nm_BadBook, q_BadBook, N_BadBook, bs_BadBook, _, sn_BadBook, sub_BadBook, ab_BadBook, col_BadBook, dd_BadBook, m0_BadBook, m1_BadBook, m2_BadBook, m3_BadBook, m5_BadBook, xL_BadBook, rfl⟩, sa_BadBook, eC_BadBook, tC_BadBook, kC_BadBook⟩,
    i_BadBook := a_BadBook_init,
    t_BadBook := t_BadBook_init,
    m_BadBook := PySem.W.exm_ref eC_BadBook hC_BadBook tC_BadBook sC_BadBook,
    g_NoWork := PySem.W.mg_of X G aC_NoWork,
    e_NoWork := ⟨⟨nm_NoWork, q_NoWork, N_NoWork, bs_NoWork, _, sn_NoWork, sub_NoWork, ab_NoWork, col_NoWork, dd_NoWork, m0_NoWork, m1_NoWork, m2_NoWork, m3_NoWork, m5_NoWork, xL_NoWork, rfl⟩, sa_NoWork, eC_NoWork, tC_NoWork, kC_NoWork⟩,
    i_NoWork := a_NoWork_init,
    t_NoWork := t_NoWork_init,
    m_NoWork := PySem.W.exm_ref eC_NoWork hC_NoWork tC_NoWork sC_NoWork,
    g_NoLot := PySem.W.mg_of X G aC_NoLot,
    e_NoLot := ⟨⟨nm_NoLot, q_NoLot, N_NoLot, bs_NoLot, _, sn_NoLot, sub_NoLot, ab_NoLot, col_NoLot, dd_NoLot, m0_NoLot, m1_NoLot, m2_NoLot, m3_NoLot, m5_NoLot, xL_NoLot, rfl⟩, sa_NoLot, eC_NoLot, tC_NoLot, kC_NoLot⟩,
    i_NoLot := a_NoLot_init,
    t_NoLot := t_NoLot_init,
    m_NoLot := PySem.W.exm_ref eC_NoLot hC_NoLot tC_NoLot sC_NoLot,
    g_NoGroup := PySem.W.mg_of X G aC_NoGroup,
    e_NoGroup := ⟨⟨nm_NoGroup, q_NoGroup, N_NoGroup, bs_NoGroup, _, sn_NoGroup, sub_NoGroup, ab_NoGroup, col_NoGroup, dd_NoGroup, m0_NoGroup, m1_NoGroup, m2_NoGroup, m3_NoGroup, m5_NoGroup, xL_NoGroup, rfl⟩, sa_NoGroup, eC_NoGroup, tC_NoGroup, kC_NoGroup⟩,
    i_NoGroup := a_NoGroup_init,
    t_NoGroup := t_NoGroup_init,
    m_NoGroup := PySem.W.exm_ref eC_NoGroup hC_NoGroup tC_NoGroup sC_NoGroup,
    g_NoNumber := PySem.W.mg_of X G aC_NoNumber,
    e_NoNumber := ⟨⟨nm_NoNumber, q_NoNumber, N_NoNumber, bs_NoNumber, _, sn_NoNumber, sub_NoNumber, ab_NoNumber, col_NoNumber, dd_NoNumber, m0_NoNumber, m1_NoNumber, m2_NoNumber, m3_NoNumber, m5_NoNumber, xL_NoNumber, rfl⟩, sa_NoNumber, eC_NoNumber, tC_NoNumber, kC_NoNumber⟩,
    i_NoNumber := a_NoNumber_init,
    t_NoNumber := t_NoNumber_init,
    m_NoNumber := PySem.W.exm_ref eC_NoNumber hC_NoNumber tC_NoNumber sC_NoNumber,
    g_NoRow := PySem.W.mg_of X G aC_NoRow,
    e_NoRow := ⟨⟨nm_NoRow, q_NoRow, N_NoRow, bs_NoRow, _, sn_NoRow, sub_NoRow, ab_NoRow, col_NoRow, dd_NoRow, m0_NoRow, m1_NoRow, m2_NoRow, m3_NoRow, m5_NoRow, xL_NoRow, rfl⟩, sa_NoRow, eC_NoRow, tC_NoRow, kC_NoRow⟩,
    i_NoRow := a_NoRow_init,
    t_NoRow := t_NoRow_init,
    m_NoRow := PySem.W.exm_ref eC_NoRow hC_NoRow tC_NoRow sC_NoRow,
    g_TooMany := PySem.W.mg_of X G aC_TooMany,
    e_TooMany := ⟨⟨nm_TooMany, q_TooMany, N_TooMany, bs_TooMany, _, sn_TooMany, sub_TooMany, ab_TooMany, col_TooMany, dd_TooMany, m0_TooMany, m1_TooMany, m2_TooMany, m3_TooMany, m5_TooMany, xL_TooMany, rfl⟩, sa_TooMany, eC_TooMany, tC_TooMany, kC_TooMany⟩,
    i_TooMany := a_TooMany_init,
    t_TooMany := t_TooMany_init,
    m_TooMany := PySem.W.exm_ref eC_TooMany hC_TooMany tC_TooMany sC_TooMany,
    g_NoOrder := PySem.W.mg_of X G aC_NoOrder,
    e_NoOrder := ⟨⟨nm_NoOrder, q_NoOrder, N_NoOrder, bs_NoOrder, _, sn_NoOrder, sub_NoOrder, ab_NoOrder, col_NoOrder, dd_NoOrder, m0_NoOrder, m1_NoOrder, m2_NoOrder, m3_NoOrder, m5_NoOrder, xL_NoOrder, rfl⟩, sa_NoOrder, eC_NoOrder, tC_NoOrder, kC_NoOrder⟩,
    i_NoOrder := a_NoOrder_init,
    t_NoOrder := t_NoOrder_init,
    m_NoOrder := PySem.W.exm_ref eC_NoOrder hC_NoOrder tC_NoOrder sC_NoOrder,
    g_NoRule := PySem.W.mg_of X G aC_NoRule,
    e_NoRule := ⟨⟨nm_NoRule, q_NoRule, N_NoRule, bs_NoRule, _, sn_NoRule, sub_NoRule, ab_NoRule, col_NoRule, dd_NoRule, m0_NoRule, m1_NoRule, m2_NoRule, m3_NoRule, m5_NoRule, xL_NoRule, rfl⟩, sa_NoRule, eC_NoRule, tC_NoRule, kC_NoRule⟩,
    i_NoRule := a_NoRule_init,
    t_NoRule := t_NoRule_init,
    m_NoRule := PySem.W.exm_ref eC_NoRule hC_NoRule tC_NoRule sC_NoRule,
    g_TooLate := PySem.W.mg_of X G aC_TooLate,
    e_TooLate := ⟨⟨nm_TooLate, q_TooLate, N_TooLate, bs_TooLate, _, sn_TooLate, sub_TooLate, ab_TooLate, col_TooLate, dd_TooLate, m0_TooLate, m1_TooLate, m2_TooLate, m3_TooLate, m5_TooLate, xL_TooLate, rfl⟩, sa_TooLate, eC_TooLate, tC_TooLate, kC_TooLate⟩,
    i_TooLate := a_TooLate_init,
    t_TooLate := t_TooLate_init,
    m_TooLate := PySem.W.exm_ref eC_TooLate hC_TooLate tC_TooLate sC_TooLate,
    g_NoPrices := PySem.W.mg_of X G aC_NoPrices,
    e_NoPrices := ⟨⟨nm_NoPrices, q_NoPrices, N_NoPrices, bs_NoPrices, _, sn_NoPrices, sub_NoPrices, ab_NoPrices, col_NoPrices, dd_NoPrices, m0_NoPrices, m1_NoPrices, m2_NoPrices, m3_NoPrices, m5_NoPrices, xL_NoPrices, rfl⟩, sa_NoPrices, eC_NoPrices, tC_NoPrices, kC_NoPrices⟩,
    i_NoPrices := a_NoPrices_init,
    t_NoPrices := t_NoPrices_init,
    m_NoPrices := PySem.W.exm_ref eC_NoPrices hC_NoPrices tC_NoPrices sC_NoPrices,
    g_NoBounds := PySem.W.mg_of X G aC_NoBounds,
    e_NoBounds := ⟨⟨nm_NoBounds, q_NoBounds, N_NoBounds, bs_NoBounds, _, sn_NoBounds, sub_NoBounds, ab_NoBounds, col_NoBounds, dd_NoBounds, m0_NoBounds, m1_NoBounds, m2_NoBounds, m3_NoBounds, m5_NoBounds, xL_NoBounds, rfl⟩, sa_NoBounds, eC_NoBounds, tC_NoBounds, kC_NoBounds⟩,
    i_NoBounds := a_NoBounds_init,
    t_NoBounds := t_NoBounds_init,
    m_NoBounds := PySem.W.exm_ref eC_NoBounds hC_NoBounds tC_NoBounds sC_NoBounds,
    g_Over := PySem.W.mg_of X G aC_Over,
    e_Over := ⟨⟨nm_Over, q_Over, N_Over, bs_Over, _, sn_Over, sub_Over, ab_Over, col_Over, dd_Over, m0_Over, m1_Over, m2_Over, m3_Over, m5_Over, xL_Over, rfl⟩, sa_Over, eC_Over, tC_Over, kC_Over⟩,
    i_Over := a_Over_init,
    t_Over := t_Over_init,
    m_Over := PySem.W.exm_ref eC_Over hC_Over tC_Over sC_Over,
    g_NoLength := PySem.W.mg_of X G aC_NoLength,
    e_NoLength := ⟨⟨nm_NoLength, q_NoLength, N_NoLength, bs_NoLength, _, sn_NoLength, sub_NoLength, ab_NoLength, col_NoLength, dd_NoLength, m0_NoLength, m1_NoLength, m2_NoLength, m3_NoLength, m5_NoLength, xL_NoLength, rfl⟩, sa_NoLength, eC_NoLength, tC_NoLength, kC_NoLength⟩,
    i_NoLength := a_NoLength_init,
    t_NoLength := t_NoLength_init,
    m_NoLength := PySem.W.exm_ref eC_NoLength hC_NoLength tC_NoLength sC_NoLength,
    g_NothingDone := PySem.W.mg_of X G aC_NothingDone,
    e_NothingDone := ⟨⟨nm_NothingDone, q_NothingDone, N_NothingDone, bs_NothingDone, _, sn_NothingDone, sub_NothingDone, ab_NothingDone, col_NothingDone, dd_NothingDone, m0_NothingDone, m1_NothingDone, m2_NothingDone, m3_NothingDone, m5_NothingDone, xL_NothingDone, rfl⟩, sa_NothingDone, eC_NothingDone, tC_NothingDone, kC_NothingDone⟩,
    i_NothingDone := a_NothingDone_init,
    t_NothingDone := t_NothingDone_init,
    m_NothingDone := PySem.W.exm_ref eC_NothingDone hC_NothingDone tC_NothingDone sC_NothingDone,
    g_BadText := PySem.W.mg_of X G aC_BadText,
    e_BadText := ⟨⟨nm_BadText, q_BadText, N_BadText, bs_BadText, _, sn_BadText, sub_BadText, ab_BadText, col_BadText, dd_BadText, m0_BadText, m1_BadText, m2_BadText, m3_BadText, m5_BadText, xL_BadText, rfl⟩, sa_BadText, eC_BadText, tC_BadText, kC_BadText⟩,
    i_BadText := a_BadText_init,
    t_BadText := t_BadText_init,
    m_BadText := PySem.W.exm_ref eC_BadText hC_BadText tC_BadText sC_BadText,
    g_NoLine := PySem.W.mg_of X G aC_NoLine,
    e_NoLine := ⟨⟨nm_NoLine, q_NoLine, N_NoLine, bs_NoLine, _, sn_NoLine, sub_NoLine, ab_NoLine, col_NoLine, dd_NoLine, m0_NoLine, m1_NoLine, m2_NoLine, m3_NoLine, m5_NoLine, xL_NoLine, rfl⟩, sa_NoLine, eC_NoLine, tC_NoLine, kC_NoLine⟩,
    i_NoLine := a_NoLine_init,
    t_NoLine := t_NoLine_init,
    m_NoLine := PySem.W.exm_ref eC_NoLine hC_NoLine tC_NoLine sC_NoLine,
    g_NoName := PySem.W.mg_of X G aC_NoName,
    e_NoName := ⟨⟨nm_NoName, q_NoName, N_NoName, bs_NoName, _, sn_NoName, sub_NoName, ab_NoName, col_NoName, dd_NoName, m0_NoName, m1_NoName, m2_NoName, m3_NoName, m5_NoName, xL_NoName, rfl⟩, sa_NoName, eC_NoName, tC_NoName, kC_NoName⟩,
    i_NoName := a_NoName_init,
    t_NoName := t_NoName_init,
    m_NoName := PySem.W.exm_ref eC_NoName hC_NoName tC_NoName sC_NoName,
    F_BadBook_init := fun_mk (st := s_BadBook_init) l_BadBook_init c_BadBook_init k_BadBook_init,
    F_NoWork_init := fun_mk (st := s_NoWork_init) l_NoWork_init c_NoWork_init k_NoWork_init,
    F_NoLot_init := fun_mk (st := s_NoLot_init) l_NoLot_init c_NoLot_init k_NoLot_init,
    F_NoGroup_init := fun_mk (st := s_NoGroup_init) l_NoGroup_init c_NoGroup_init k_NoGroup_init,
    F_NoNumber_init := fun_mk (st := s_NoNumber_init) l_NoNumber_init c_NoNumber_init k_NoNumber_init,
    F_NoRow_init := fun_mk (st := s_NoRow_init) l_NoRow_init c_NoRow_init k_NoRow_init,
    F_TooMany_init := fun_mk (st := s_TooMany_init) l_TooMany_init c_TooMany_init k_TooMany_init,
    F_NoOrder_init := fun_mk (st := s_NoOrder_init) l_NoOrder_init c_NoOrder_init k_NoOrder_init,
    F_NoRule_init := fun_mk (st := s_NoRule_init) l_NoRule_init c_NoRule_init k_NoRule_init,
    F_TooLate_init := fun_mk (st := s_TooLate_init) l_TooLate_init c_TooLate_init k_TooLate_init,
    F_NoPrices_init := fun_mk (st := s_NoPrices_init) l_NoPrices_init c_NoPrices_init k_NoPrices_init,
    F_NoBounds_init := fun_mk (st := s_NoBounds_init) l_NoBounds_init c_NoBounds_init k_NoBounds_init,
    F_Over_init := fun_mk (st := s_Over_init) l_Over_init c_Over_init k_Over_init,
    F_NoLength_init := fun_mk (st := s_NoLength_init) l_NoLength_init c_NoLength_init k_NoLength_init,
    F_NothingDone_init := fun_mk (st := s_NothingDone_init) l_NothingDone_init c_NothingDone_init k_NothingDone_init,
    F_BadText_init := fun_mk (st := s_BadText_init) l_BadText_init c_BadText_init k_BadText_init,
    F_NoLine_init := fun_mk (st := s_NoLine_init) l_NoLine_init c_NoLine_init k_NoLine_init,
    F_NoName_init := fun_mk (st := s_NoName_init) l_NoName_init c_NoName_init k_NoName_init,
    g_l_pool := PySem.W.mg_of X G a_l_pool,
    F_l_pool := fun_mk (st := s_l_pool) l_l_pool c_l_pool k_l_pool,
    g_l_draw := PySem.W.mg_of X G a_l_draw,
    F_l_draw := fun_mk (st := s_l_draw) l_l_draw c_l_draw k_l_draw,
    g_l_made := PySem.W.mg_of X G a_l_made,
    F_l_made := fun_mk (st := s_l_made) l_l_made c_l_made k_l_made,
    g_l_kinds := PySem.W.mg_of X G a_l_kinds,
    F_l_kinds := fun_mk (st := s_l_kinds) l_l_kinds c_l_kinds k_l_kinds,
    g_l_same := PySem.W.mg_of X G a_l_same,
    F_l_same := fun_mk (st := s_l_same) l_l_same c_l_same k_l_same,
    g_l_caught := PySem.W.mg_of X G a_l_caught,
    F_l_caught := fun_mk (st := s_l_caught) l_l_caught c_l_caught k_l_caught,
    g_law := PySem.W.mg_of X G a_law,
    F_law := fun_mk (st := s_law) l_law c_law k_law,
    n_ValueError := PySem.W.mg_none_of X G z_ValueError,
    n_abs := PySem.W.mg_none_of X G z_abs,
    n_all := PySem.W.mg_none_of X G z_all,
    n_bool := PySem.W.mg_none_of X G z_bool,
    n_int := PySem.W.mg_none_of X G z_int,
    n_isinstance := PySem.W.mg_none_of X G z_isinstance,
    n_len := PySem.W.mg_none_of X G z_len,
    n_range := PySem.W.mg_none_of X G z_range,
    n_sum := PySem.W.mg_none_of X G z_sum,
    es := ⟨List.forall_mem_cons.mpr ⟨(show Er K C_MiddleError C_BadBook from ⟨⟨nm_BadBook, q_BadBook, N_BadBook, bs_BadBook, sn_BadBook, sub_BadBook, ab_BadBook, col_BadBook, dd_BadBook, m0_BadBook, m1_BadBook, m2_BadBook, m3_BadBook, m5_BadBook, cm_BadBook ▸ xL_BadBook⟩, hC_BadBook, tC_BadBook⟩), List.forall_mem_cons.mpr ⟨(show Er K C_MiddleError C_NoWork from ⟨⟨nm_NoWork, q_NoWork, N_NoWork, bs_NoWork, sn_NoWork, sub_NoWork, ab_NoWork, col_NoWork, dd_NoWork, m0_NoWork, m1_NoWork, m2_NoWork, m3_NoWork, m5_NoWork, cm_NoWork ▸ xL_NoWork⟩, hC_NoWork, tC_NoWork⟩), List.forall_mem_cons.mpr ⟨(show Er K C_MiddleError C_NoLot from ⟨⟨nm_NoLot, q_NoLot, N_NoLot, bs_NoLot, sn_NoLot, sub_NoLot, ab_NoLot, col_NoLot, dd_NoLot, m0_NoLot, m1_NoLot, m2_NoLot, m3_NoLot, m5_NoLot, cm_NoLot ▸ xL_NoLot⟩, hC_NoLot, tC_NoLot⟩), List.forall_mem_cons.mpr ⟨(show Er K C_MiddleError C_NoGroup from ⟨⟨nm_NoGroup, q_NoGroup, N_NoGroup, bs_NoGroup, sn_NoGroup, sub_NoGroup, ab_NoGroup, col_NoGroup, dd_NoGroup, m0_NoGroup, m1_NoGroup, m2_NoGroup, m3_NoGroup, m5_NoGroup, cm_NoGroup ▸ xL_NoGroup⟩, hC_NoGroup, tC_NoGroup⟩), List.forall_mem_cons.mpr ⟨(show Er K C_MiddleError C_NoNumber from ⟨⟨nm_NoNumber, q_NoNumber, N_NoNumber, bs_NoNumber, sn_NoNumber, sub_NoNumber, ab_NoNumber, col_NoNumber, dd_NoNumber, m0_NoNumber, m1_NoNumber, m2_NoNumber, m3_NoNumber, m5_NoNumber, cm_NoNumber ▸ xL_NoNumber⟩, hC_NoNumber, tC_NoNumber⟩), List.forall_mem_cons.mpr ⟨(show Er K C_MiddleError C_NoRow from ⟨⟨nm_NoRow, q_NoRow, N_NoRow, bs_NoRow, sn_NoRow, sub_NoRow, ab_NoRow, col_NoRow, dd_NoRow, m0_NoRow, m1_NoRow, m2_NoRow, m3_NoRow, m5_NoRow, cm_NoRow ▸ xL_NoRow⟩, hC_NoRow, tC_NoRow⟩), List.forall_mem_cons.mpr ⟨(show Er K C_MiddleError C_NoOrder from ⟨⟨nm_NoOrder, q_NoOrder, N_NoOrder, bs_NoOrder, sn_NoOrder, sub_NoOrder, ab_NoOrder, col_NoOrder, dd_NoOrder, m0_NoOrder, m1_NoOrder, m2_NoOrder, m3_NoOrder, m5_NoOrder, cm_NoOrder ▸ xL_NoOrder⟩, hC_NoOrder, tC_NoOrder⟩), List.forall_mem_cons.mpr ⟨(show Er K C_MiddleError C_NoPrices from ⟨⟨nm_NoPrices, q_NoPrices, N_NoPrices, bs_NoPrices, sn_NoPrices, sub_NoPrices, ab_NoPrices, col_NoPrices, dd_NoPrices, m0_NoPrices, m1_NoPrices, m2_NoPrices, m3_NoPrices, m5_NoPrices, cm_NoPrices ▸ xL_NoPrices⟩, hC_NoPrices, tC_NoPrices⟩), List.forall_mem_cons.mpr ⟨(show Er K C_MiddleError C_Over from ⟨⟨nm_Over, q_Over, N_Over, bs_Over, sn_Over, sub_Over, ab_Over, col_Over, dd_Over, m0_Over, m1_Over, m2_Over, m3_Over, m5_Over, cm_Over ▸ xL_Over⟩, hC_Over, tC_Over⟩), List.forall_mem_cons.mpr ⟨(show Er K C_MiddleError C_NoLength from ⟨⟨nm_NoLength, q_NoLength, N_NoLength, bs_NoLength, sn_NoLength, sub_NoLength, ab_NoLength, col_NoLength, dd_NoLength, m0_NoLength, m1_NoLength, m2_NoLength, m3_NoLength, m5_NoLength, cm_NoLength ▸ xL_NoLength⟩, hC_NoLength, tC_NoLength⟩), List.forall_mem_cons.mpr ⟨(show Er K C_MiddleError C_NothingDone from ⟨⟨nm_NothingDone, q_NothingDone, N_NothingDone, bs_NothingDone, sn_NothingDone, sub_NothingDone, ab_NothingDone, col_NothingDone, dd_NothingDone, m0_NothingDone, m1_NothingDone, m2_NothingDone, m3_NothingDone, m5_NothingDone, cm_NothingDone ▸ xL_NothingDone⟩, hC_NothingDone, tC_NothingDone⟩), List.forall_mem_cons.mpr ⟨(show Er K C_MiddleError C_NoLine from ⟨⟨nm_NoLine, q_NoLine, N_NoLine, bs_NoLine, sn_NoLine, sub_NoLine, ab_NoLine, col_NoLine, dd_NoLine, m0_NoLine, m1_NoLine, m2_NoLine, m3_NoLine, m5_NoLine, cm_NoLine ▸ xL_NoLine⟩, hC_NoLine, tC_NoLine⟩), List.forall_mem_cons.mpr ⟨(show Er K C_MiddleError C_NoBounds from ⟨⟨nm_NoBounds, q_NoBounds, N_NoBounds, bs_NoBounds, sn_NoBounds, sub_NoBounds, ab_NoBounds, col_NoBounds, dd_NoBounds, m0_NoBounds, m1_NoBounds, m2_NoBounds, m3_NoBounds, m5_NoBounds, cm_NoBounds ▸ xL_NoBounds⟩, hC_NoBounds, tC_NoBounds⟩), List.forall_mem_cons.mpr ⟨(show Er K C_MiddleError C_TooMany from ⟨⟨nm_TooMany, q_TooMany, N_TooMany, bs_TooMany, sn_TooMany, sub_TooMany, ab_TooMany, col_TooMany, dd_TooMany, m0_TooMany, m1_TooMany, m2_TooMany, m3_TooMany, m5_TooMany, cm_TooMany ▸ xL_TooMany⟩, hC_TooMany, tC_TooMany⟩), List.forall_mem_cons.mpr ⟨(show Er K C_MiddleError C_NoRule from ⟨⟨nm_NoRule, q_NoRule, N_NoRule, bs_NoRule, sn_NoRule, sub_NoRule, ab_NoRule, col_NoRule, dd_NoRule, m0_NoRule, m1_NoRule, m2_NoRule, m3_NoRule, m5_NoRule, cm_NoRule ▸ xL_NoRule⟩, hC_NoRule, tC_NoRule⟩), List.forall_mem_cons.mpr ⟨(show Er K C_MiddleError C_TooLate from ⟨⟨nm_TooLate, q_TooLate, N_TooLate, bs_TooLate, sn_TooLate, sub_TooLate, ab_TooLate, col_TooLate, dd_TooLate, m0_TooLate, m1_TooLate, m2_TooLate, m3_TooLate, m5_TooLate, cm_TooLate ▸ xL_TooLate⟩, hC_TooLate, tC_TooLate⟩), List.forall_mem_cons.mpr ⟨(show Er K C_MiddleError C_BadText from ⟨⟨nm_BadText, q_BadText, N_BadText, bs_BadText, sn_BadText, sub_BadText, ab_BadText, col_BadText, dd_BadText, m0_BadText, m1_BadText, m2_BadText, m3_BadText, m5_BadText, cm_BadText ▸ xL_BadText⟩, hC_BadText, tC_BadText⟩), List.forall_mem_cons.mpr ⟨(show Er K C_MiddleError C_NoName from ⟨⟨nm_NoName, q_NoName, N_NoName, bs_NoName, sn_NoName, sub_NoName, ab_NoName, col_NoName, dd_NoName, m0_NoName, m1_NoName, m2_NoName, m3_NoName, m5_NoName, cm_NoName ▸ xL_NoName⟩, hC_NoName, tC_NoName⟩), fun _ h => nomatch h⟩⟩⟩⟩⟩⟩⟩⟩⟩⟩⟩⟩⟩⟩⟩⟩⟩⟩, nd, List.forall_mem_cons.mpr ⟨(show ExcC K C_BadBook from ⟨xg_BadBook, xk_BadBook, eC_BadBook, hC_BadBook, xa_BadBook, xn, xt, xm_BadBook⟩), List.forall_mem_cons.mpr ⟨(show ExcC K C_NoWork from ⟨xg_NoWork, xk_NoWork, eC_NoWork, hC_NoWork, xa_NoWork, xn, xt, xm_NoWork⟩), List.forall_mem_cons.mpr ⟨(show ExcC K C_NoLot from ⟨xg_NoLot, xk_NoLot, eC_NoLot, hC_NoLot, xa_NoLot, xn, xt, xm_NoLot⟩), List.forall_mem_cons.mpr ⟨(show ExcC K C_NoGroup from ⟨xg_NoGroup, xk_NoGroup, eC_NoGroup, hC_NoGroup, xa_NoGroup, xn, xt, xm_NoGroup⟩), List.forall_mem_cons.mpr ⟨(show ExcC K C_NoNumber from ⟨xg_NoNumber, xk_NoNumber, eC_NoNumber, hC_NoNumber, xa_NoNumber, xn, xt, xm_NoNumber⟩), List.forall_mem_cons.mpr ⟨(show ExcC K C_NoRow from ⟨xg_NoRow, xk_NoRow, eC_NoRow, hC_NoRow, xa_NoRow, xn, xt, xm_NoRow⟩), List.forall_mem_cons.mpr ⟨(show ExcC K C_NoOrder from ⟨xg_NoOrder, xk_NoOrder, eC_NoOrder, hC_NoOrder, xa_NoOrder, xn, xt, xm_NoOrder⟩), List.forall_mem_cons.mpr ⟨(show ExcC K C_NoPrices from ⟨xg_NoPrices, xk_NoPrices, eC_NoPrices, hC_NoPrices, xa_NoPrices, xn, xt, xm_NoPrices⟩), List.forall_mem_cons.mpr ⟨(show ExcC K C_Over from ⟨xg_Over, xk_Over, eC_Over, hC_Over, xa_Over, xn, xt, xm_Over⟩), List.forall_mem_cons.mpr ⟨(show ExcC K C_NoLength from ⟨xg_NoLength, xk_NoLength, eC_NoLength, hC_NoLength, xa_NoLength, xn, xt, xm_NoLength⟩), List.forall_mem_cons.mpr ⟨(show ExcC K C_NothingDone from ⟨xg_NothingDone, xk_NothingDone, eC_NothingDone, hC_NothingDone, xa_NothingDone, xn, xt, xm_NothingDone⟩), List.forall_mem_cons.mpr ⟨(show ExcC K C_NoLine from ⟨xg_NoLine, xk_NoLine, eC_NoLine, hC_NoLine, xa_NoLine, xn, xt, xm_NoLine⟩), List.forall_mem_cons.mpr ⟨(show ExcC K C_NoBounds from ⟨xg_NoBounds, xk_NoBounds, eC_NoBounds, hC_NoBounds, xa_NoBounds, xn, xt, xm_NoBounds⟩), List.forall_mem_cons.mpr ⟨(show ExcC K C_TooMany from ⟨xg_TooMany, xk_TooMany, eC_TooMany, hC_TooMany, xa_TooMany, xn, xt, xm_TooMany⟩), List.forall_mem_cons.mpr ⟨(show ExcC K C_NoRule from ⟨xg_NoRule, xk_NoRule, eC_NoRule, hC_NoRule, xa_NoRule, xn, xt, xm_NoRule⟩), List.forall_mem_cons.mpr ⟨(show ExcC K C_TooLate from ⟨xg_TooLate, xk_TooLate, eC_TooLate, hC_TooLate, xa_TooLate, xn, xt, xm_TooLate⟩), List.forall_mem_cons.mpr ⟨(show ExcC K C_BadText from ⟨xg_BadText, xk_BadText, eC_BadText, hC_BadText, xa_BadText, xn, xt, xm_BadText⟩), List.forall_mem_cons.mpr ⟨(show ExcC K C_NoName from ⟨xg_NoName, xk_NoName, eC_NoName, hC_NoName, xa_NoName, xn, xt, xm_NoName⟩), fun _ h => nomatch h⟩⟩⟩⟩⟩⟩⟩⟩⟩⟩⟩⟩⟩⟩⟩⟩⟩⟩, hC_MiddleError, tC_MiddleError⟩,
    xf_TooMany := ⟨xg_TooMany, xk_TooMany, eC_TooMany, hC_TooMany⟩,
    nf_TooMany := nf_TooMany,
    xf_NoRule := ⟨xg_NoRule, xk_NoRule, eC_NoRule, hC_NoRule⟩,
    nf_NoRule := nf_NoRule,
    xf_TooLate := ⟨xg_TooLate, xk_TooLate, eC_TooLate, hC_TooLate⟩,
    nf_TooLate := nf_TooLate,
    xf_BadText := ⟨xg_BadText, xk_BadText, eC_BadText, hC_BadText⟩,
    nf_BadText := nf_BadText,
    xf_NoName := ⟨xg_NoName, xk_NoName, eC_NoName, hC_NoName⟩,
    nf_NoName := nf_NoName,
    mm_Over := PySem.W.exm_ref eC_MiddleError hC_MiddleError tC_MiddleError sm_Over,
    mm_NoLine := PySem.W.exm_ref eC_MiddleError hC_MiddleError tC_MiddleError sm_NoLine,
    mm_TooMany := PySem.W.exm_ref eC_MiddleError hC_MiddleError tC_MiddleError sm_TooMany,
    mt_Over := PySem.W.exm_ref eC_TooMany hC_TooMany tC_TooMany st_Over,
    mt_NoLine := PySem.W.exm_ref eC_TooMany hC_TooMany tC_TooMany st_NoLine }
  exact ⟨PySem.W.fnOf "law" "law" (defArgs s_law) (defBody s_law) (defScope s_law) .none kV_law dc_law pm_law an_law cd_law ct_law, fun s v => .of_eq rfl, fun base _ _ => ok_law T⟩
theorem walk {l : PySem.W.OpenLaw} {q : Program} {loose : List Str} {XP : (Str → Option Value) → Heap → Prop} {YP : World → Heap → Prop} {d : DefRec} {K : Params → PySem.W.Frag} (hn : l.most = some 63) (hdf : d.params.defaults = [])
    (hY : ∀ (w : World) (h : Heap), YP w h → (K w.params).In h)
    (F : ∀ (w : World) (mg : Str → Option Value) (fa : Addr) (h : Heap), (K w.params).In h → h.Ns mainGlobals mg → mg d.name = some (.ref fa) →
      ∃ fd : FuncData, (∀ (s : Shared) (u : Value), BindsTo s fd ⟨[u], []⟩ [("_law_script", u)]) ∧ ∀ base : Heap, (K w.params).In base → base.Ns mainGlobals mg → FnOk l.prog w (K w.params) mg base CX0 4 fa fd ["_law_script"] (sp_law (K w.params) ⟨fun _ => 0, fun _ => 0⟩)) :
    PySem.W.WalkO q loose XP YP l.row.toRowW d [] (fun f vs => PySem.call f vs) :=
  L2.walk_of (n := 63) (k := 4) (x := "_law_script") (CX := fun _ => CX0) (sp := fun w => sp_law (K w.params) ⟨fun _ => 0, fun _ => 0⟩) hn (by decide) hdf ⟨rfl, by decide, by decide⟩ hY F (fun _ _ a ns hl _ hS => ⟨a, ns, rfl, hS, hl, fun _ => rfl⟩) fun _ _ _ _ _ z => z
end My
open PySem PySem.W PyProof.Rows
set_option maxRecDepth 100000 in
set_option maxHeartbeats 0 in
theorem PySem.Challenge.cw_bymiddles_k00_errors_and_their_fields_holds : PySem.Challenge.rw_bymiddles_k00_errors_and_their_fields.Holds := by
  w_on; o_law; k_head; (case hw => w_witness2)
  k_fill
  refine My.walk (l := PySem.Challenge.rw_bymiddles_k00_errors_and_their_fields) rfl rfl (fun w h Y => PySem.W.kIn_of Y) ?F
  case F =>
    intro w mg fa h KX G hmg
    refine' My.all_mk KX G hmg ?aC_MiddleError ?eC_MiddleError ?tC_MiddleError ?hC_MiddleError ?aC_BadBook ?xL_BadBook ?sa_BadBook ?kC_BadBook ?eC_BadBook ?tC_BadBook ?hC_BadBook ?sC_BadBook ?aC_NoWork ?xL_NoWork ?sa_NoWork ?kC_NoWork ?eC_NoWork ?tC_NoWork ?hC_NoWork ?sC_NoWork ?aC_NoLot ?xL_NoLot ?sa_NoLot ?kC_NoLot ?eC_NoLot ?tC_NoLot ?hC_NoLot ?sC_NoLot ?aC_NoGroup ?xL_NoGroup ?sa_NoGroup ?kC_NoGroup ?eC_NoGroup ?tC_NoGroup ?hC_NoGroup ?sC_NoGroup ?aC_NoNumber ?xL_NoNumber ?sa_NoNumber ?kC_NoNumber ?eC_NoNumber ?tC_NoNumber ?hC_NoNumber ?sC_NoNumber ?aC_NoRow ?xL_NoRow ?sa_NoRow ?kC_NoRow ?eC_NoRow ?tC_NoRow ?hC_NoRow ?sC_NoRow ?aC_TooMany ?xL_TooMany ?sa_TooMany ?kC_TooMany ?eC_TooMany ?tC_TooMany ?hC_TooMany ?sC_TooMany ?aC_NoOrder ?xL_NoOrder ?sa_NoOrder ?kC_NoOrder ?eC_NoOrder ?tC_NoOrder ?hC_NoOrder ?sC_NoOrder ?aC_NoRule ?xL_NoRule ?sa_NoRule ?kC_NoRule ?eC_NoRule ?tC_NoRule ?hC_NoRule ?sC_NoRule ?aC_TooLate ?xL_TooLate ?sa_TooLate ?kC_TooLate ?eC_TooLate ?tC_TooLate ?hC_TooLate ?sC_TooLate ?aC_NoPrices ?xL_NoPrices ?sa_NoPrices ?kC_NoPrices ?eC_NoPrices ?tC_NoPrices ?hC_NoPrices ?sC_NoPrices ?aC_NoBounds ?xL_NoBounds ?sa_NoBounds ?kC_NoBounds ?eC_NoBounds ?tC_NoBounds ?hC_NoBounds ?sC_NoBounds ?aC_Over ?xL_Over ?sa_Over ?kC_Over ?eC_Over ?tC_Over ?hC_Over ?sC_Over ?aC_NoLength ?xL_NoLength ?sa_NoLength ?kC_NoLength ?eC_NoLength ?tC_NoLength ?hC_NoLength ?sC_NoLength ?aC_NothingDone ?xL_NothingDone ?sa_NothingDone ?kC_NothingDone ?eC_NothingDone ?tC_NothingDone ?hC_NothingDone ?sC_NothingDone ?aC_BadText ?xL_BadText ?sa_BadText ?kC_BadText ?eC_BadText ?tC_BadText ?hC_BadText ?sC_BadText ?aC_NoLine ?xL_NoLine ?sa_NoLine ?kC_NoLine ?eC_NoLine ?tC_NoLine ?hC_NoLine ?sC_NoLine ?aC_NoName ?xL_NoName ?sa_NoName ?kC_NoName ?eC_NoName ?tC_NoName ?hC_NoName ?sC_NoName ?a_BadBook_init ?t_BadBook_init ?l_BadBook_init ?c_BadBook_init ?k_BadBook_init ?a_NoWork_init ?t_NoWork_init ?l_NoWork_init ?c_NoWork_init ?k_NoWork_init ?a_NoLot_init ?t_NoLot_init ?l_NoLot_init ?c_NoLot_init ?k_NoLot_init ?a_NoGroup_init ?t_NoGroup_init ?l_NoGroup_init ?c_NoGroup_init ?k_NoGroup_init ?a_NoNumber_init ?t_NoNumber_init ?l_NoNumber_init ?c_NoNumber_init ?k_NoNumber_init ?a_NoRow_init ?t_NoRow_init ?l_NoRow_init ?c_NoRow_init ?k_NoRow_init ?a_TooMany_init ?t_TooMany_init ?l_TooMany_init ?c_TooMany_init ?k_TooMany_init ?a_NoOrder_init ?t_NoOrder_init ?l_NoOrder_init ?c_NoOrder_init ?k_NoOrder_init ?a_NoRule_init ?t_NoRule_init ?l_NoRule_init ?c_NoRule_init ?k_NoRule_init ?a_TooLate_init ?t_TooLate_init ?l_TooLate_init ?c_TooLate_init ?k_TooLate_init ?a_NoPrices_init ?t_NoPrices_init ?l_NoPrices_init ?c_NoPrices_init ?k_NoPrices_init ?a_NoBounds_init ?t_NoBounds_init ?l_NoBounds_init ?c_NoBounds_init ?k_NoBounds_init ?a_Over_init ?t_Over_init ?l_Over_init ?c_Over_init ?k_Over_init ?a_NoLength_init ?t_NoLength_init ?l_NoLength_init ?c_NoLength_init ?k_NoLength_init ?a_NothingDone_init ?t_NothingDone_init ?l_NothingDone_init ?c_NothingDone_init ?k_NothingDone_init ?a_BadText_init ?t_BadText_init ?l_BadText_init ?c_BadText_init ?k_BadText_init ?a_NoLine_init ?t_NoLine_init ?l_NoLine_init ?c_NoLine_init ?k_NoLine_init ?a_NoName_init ?t_NoName_init ?l_NoName_init ?c_NoName_init ?k_NoName_init ?a_l_pool ?l_l_pool ?c_l_pool ?k_l_pool ?a_l_draw ?l_l_draw ?c_l_draw ?k_l_draw ?a_l_made ?l_l_made ?c_l_made ?k_l_made ?a_l_kinds ?l_l_kinds ?c_l_kinds ?k_l_kinds ?a_l_same ?l_l_same ?c_l_same ?k_l_same ?a_l_caught ?l_l_caught ?c_l_caught ?k_l_caught ?a_law ?l_law ?c_law ?k_law ?z_ValueError ?z_abs ?z_all ?z_bool ?z_int ?z_isinstance ?z_len ?z_range ?z_sum ?xn ?xt ?cm_BadBook ?xg_BadBook ?xk_BadBook ?xa_BadBook ?xm_BadBook ?cm_NoWork ?xg_NoWork ?xk_NoWork ?xa_NoWork ?xm_NoWork ?cm_NoLot ?xg_NoLot ?xk_NoLot ?xa_NoLot ?xm_NoLot ?cm_NoGroup ?xg_NoGroup ?xk_NoGroup ?xa_NoGroup ?xm_NoGroup ?cm_NoNumber ?xg_NoNumber ?xk_NoNumber ?xa_NoNumber ?xm_NoNumber ?cm_NoRow ?xg_NoRow ?xk_NoRow ?xa_NoRow ?xm_NoRow ?cm_NoOrder ?xg_NoOrder ?xk_NoOrder ?xa_NoOrder ?xm_NoOrder ?cm_NoPrices ?xg_NoPrices ?xk_NoPrices ?xa_NoPrices ?xm_NoPrices ?cm_Over ?xg_Over ?xk_Over ?xa_Over ?xm_Over ?cm_NoLength ?xg_NoLength ?xk_NoLength ?xa_NoLength ?xm_NoLength ?cm_NothingDone ?xg_NothingDone ?xk_NothingDone ?xa_NothingDone ?xm_NothingDone ?cm_NoLine ?xg_NoLine ?xk_NoLine ?xa_NoLine ?xm_NoLine ?cm_NoBounds ?xg_NoBounds ?xk_NoBounds ?xa_NoBounds ?xm_NoBounds ?cm_TooMany ?xg_TooMany ?xk_TooMany ?xa_TooMany ?xm_TooMany ?cm_NoRule ?xg_NoRule ?xk_NoRule ?xa_NoRule ?xm_NoRule ?cm_TooLate ?xg_TooLate ?xk_TooLate ?xa_TooLate ?xm_TooLate ?cm_BadText ?xg_BadText ?xk_BadText ?xa_BadText ?xm_BadText ?cm_NoName ?xg_NoName ?xk_NoName ?xa_NoName ?xm_NoName ?nf_TooMany ?nf_NoRule ?nf_TooLate ?nf_BadText ?nf_NoName ?sm_Over ?sm_NoLine ?sm_TooMany ?st_Over ?st_NoLine ?nd
    (case aC_MiddleError => k_is)
    (case eC_MiddleError => k_is)
    (case tC_MiddleError => k_is)
    (case hC_MiddleError => k_is)
    (case aC_BadBook => k_is)
    (case xL_BadBook => k_is)
    (case sa_BadBook => k_is)
    (case kC_BadBook => k_is)
    (case eC_BadBook => k_is)
    (case tC_BadBook => k_is)
    (case hC_BadBook => k_is)
    (case sC_BadBook => first | rfl | k_is)
    (case aC_NoWork => k_is)
    (case xL_NoWork => k_is)
    (case sa_NoWork => k_is)
    (case kC_NoWork => k_is)
    (case eC_NoWork => k_is)
    (case tC_NoWork => k_is)
    (case hC_NoWork => k_is)
    (case sC_NoWork => first | rfl | k_is)
    (case aC_NoLot => k_is)
    (case xL_NoLot => k_is)
    (case sa_NoLot => k_is)
    (case kC_NoLot => k_is)
    (case eC_NoLot => k_is)
    (case tC_NoLot => k_is)
    (case hC_NoLot => k_is)
    (case sC_NoLot => first | rfl | k_is)
    (case aC_NoGroup => k_is)
    (case xL_NoGroup => k_is)
    (case sa_NoGroup => k_is)
    (case kC_NoGroup => k_is)
    (case eC_NoGroup => k_is)
    (case tC_NoGroup => k_is)
    (case hC_NoGroup => k_is)
    (case sC_NoGroup => first | rfl | k_is)
    (case aC_NoNumber => k_is)
    (case xL_NoNumber => k_is)
    (case sa_NoNumber => k_is)
    (case kC_NoNumber => k_is)
    (case eC_NoNumber => k_is)
    (case tC_NoNumber => k_is)
    (case hC_NoNumber => k_is)
    (case sC_NoNumber => first | rfl | k_is)
    (case aC_NoRow => k_is)
    (case xL_NoRow => k_is)
    (case sa_NoRow => k_is)
    (case kC_NoRow => k_is)
    (case eC_NoRow => k_is)
    (case tC_NoRow => k_is)
    (case hC_NoRow => k_is)
    (case sC_NoRow => first | rfl | k_is)
    (case aC_TooMany => k_is)
    (case xL_TooMany => k_is)
    (case sa_TooMany => k_is)
    (case kC_TooMany => k_is)
    (case eC_TooMany => k_is)
    (case tC_TooMany => k_is)
    (case hC_TooMany => k_is)
    (case sC_TooMany => first | rfl | k_is)
    (case aC_NoOrder => k_is)
    (case xL_NoOrder => k_is)
    (case sa_NoOrder => k_is)
    (case kC_NoOrder => k_is)
    (case eC_NoOrder => k_is)
    (case tC_NoOrder => k_is)
    (case hC_NoOrder => k_is)
    (case sC_NoOrder => first | rfl | k_is)
    (case aC_NoRule => k_is)
    (case xL_NoRule => k_is)
    (case sa_NoRule => k_is)
    (case kC_NoRule => k_is)
    (case eC_NoRule => k_is)
    (case tC_NoRule => k_is)
    (case hC_NoRule => k_is)
    (case sC_NoRule => first | rfl | k_is)
    (case aC_TooLate => k_is)
    (case xL_TooLate => k_is)
    (case sa_TooLate => k_is)
    (case kC_TooLate => k_is)
    (case eC_TooLate => k_is)
    (case tC_TooLate => k_is)
    (case hC_TooLate => k_is)
    (case sC_TooLate => first | rfl | k_is)
    (case aC_NoPrices => k_is)
    (case xL_NoPrices => k_is)
    (case sa_NoPrices => k_is)
    (case kC_NoPrices => k_is)
    (case eC_NoPrices => k_is)
    (case tC_NoPrices => k_is)
    (case hC_NoPrices => k_is)
    (case sC_NoPrices => first | rfl | k_is)
    (case aC_NoBounds => k_is)
    (case xL_NoBounds => k_is)
    (case sa_NoBounds => k_is)
    (case kC_NoBounds => k_is)
    (case eC_NoBounds => k_is)
    (case tC_NoBounds => k_is)
    (case hC_NoBounds => k_is)
    (case sC_NoBounds => first | rfl | k_is)
    (case aC_Over => k_is)
    (case xL_Over => k_is)
    (case sa_Over => k_is)
    (case kC_Over => k_is)
    (case eC_Over => k_is)
    (case tC_Over => k_is)
    (case hC_Over => k_is)
    (case sC_Over => first | rfl | k_is)
    (case aC_NoLength => k_is)
    (case xL_NoLength => k_is)
    (case sa_NoLength => k_is)
    (case kC_NoLength => k_is)
    (case eC_NoLength => k_is)
    (case tC_NoLength => k_is)
    (case hC_NoLength => k_is)
    (case sC_NoLength => first | rfl | k_is)
    (case aC_NothingDone => k_is)
    (case xL_NothingDone => k_is)
    (case sa_NothingDone => k_is)
    (case kC_NothingDone => k_is)
    (case eC_NothingDone => k_is)
    (case tC_NothingDone => k_is)
    (case hC_NothingDone => k_is)
    (case sC_NothingDone => first | rfl | k_is)
    (case aC_BadText => k_is)
    (case xL_BadText => k_is)
    (case sa_BadText => k_is)
    (case kC_BadText => k_is)
    (case eC_BadText => k_is)
    (case tC_BadText => k_is)
    (case hC_BadText => k_is)
    (case sC_BadText => first | rfl | k_is)
    (case aC_NoLine => k_is)
    (case xL_NoLine => k_is)
    (case sa_NoLine => k_is)
    (case kC_NoLine => k_is)
    (case eC_NoLine => k_is)
    (case tC_NoLine => k_is)
    (case hC_NoLine => k_is)
    (case sC_NoLine => first | rfl | k_is)
    (case aC_NoName => k_is)
    (case xL_NoName => k_is)
    (case sa_NoName => k_is)
    (case kC_NoName => k_is)
    (case eC_NoName => k_is)
    (case tC_NoName => k_is)
    (case hC_NoName => k_is)
    (case sC_NoName => first | rfl | k_is)
    (case a_BadBook_init => k_is)
    (case t_BadBook_init => k_is)
    (case l_BadBook_init => k_is)
    (case c_BadBook_init => k_is)
    (case k_BadBook_init => k_is)
    (case a_NoWork_init => k_is)
    (case t_NoWork_init => k_is)
    (case l_NoWork_init => k_is)
    (case c_NoWork_init => k_is)
    (case k_NoWork_init => k_is)
    (case a_NoLot_init => k_is)
    (case t_NoLot_init => k_is)
    (case l_NoLot_init => k_is)
    (case c_NoLot_init => k_is)
    (case k_NoLot_init => k_is)
    (case a_NoGroup_init => k_is)
    (case t_NoGroup_init => k_is)
    (case l_NoGroup_init => k_is)
    (case c_NoGroup_init => k_is)
    (case k_NoGroup_init => k_is)
    (case a_NoNumber_init => k_is)
    (case t_NoNumber_init => k_is)
    (case l_NoNumber_init => k_is)
    (case c_NoNumber_init => k_is)
    (case k_NoNumber_init => k_is)
    (case a_NoRow_init => k_is)
    (case t_NoRow_init => k_is)
    (case l_NoRow_init => k_is)
    (case c_NoRow_init => k_is)
    (case k_NoRow_init => k_is)
    (case a_TooMany_init => k_is)
    (case t_TooMany_init => k_is)
    (case l_TooMany_init => k_is)
    (case c_TooMany_init => k_is)
    (case k_TooMany_init => k_is)
    (case a_NoOrder_init => k_is)
    (case t_NoOrder_init => k_is)
    (case l_NoOrder_init => k_is)
    (case c_NoOrder_init => k_is)
    (case k_NoOrder_init => k_is)
    (case a_NoRule_init => k_is)
    (case t_NoRule_init => k_is)
    (case l_NoRule_init => k_is)
    (case c_NoRule_init => k_is)
    (case k_NoRule_init => k_is)
    (case a_TooLate_init => k_is)
    (case t_TooLate_init => k_is)
    (case l_TooLate_init => k_is)
    (case c_TooLate_init => k_is)
    (case k_TooLate_init => k_is)
    (case a_NoPrices_init => k_is)
    (case t_NoPrices_init => k_is)
    (case l_NoPrices_init => k_is)
    (case c_NoPrices_init => k_is)
    (case k_NoPrices_init => k_is)
    (case a_NoBounds_init => k_is)
    (case t_NoBounds_init => k_is)
    (case l_NoBounds_init => k_is)
    (case c_NoBounds_init => k_is)
    (case k_NoBounds_init => k_is)
    (case a_Over_init => k_is)
    (case t_Over_init => k_is)
    (case l_Over_init => k_is)
    (case c_Over_init => k_is)
    (case k_Over_init => k_is)
    (case a_NoLength_init => k_is)
    (case t_NoLength_init => k_is)
    (case l_NoLength_init => k_is)
    (case c_NoLength_init => k_is)
    (case k_NoLength_init => k_is)
    (case a_NothingDone_init => k_is)
    (case t_NothingDone_init => k_is)
    (case l_NothingDone_init => k_is)
    (case c_NothingDone_init => k_is)
    (case k_NothingDone_init => k_is)
    (case a_BadText_init => k_is)
    (case t_BadText_init => k_is)
    (case l_BadText_init => k_is)
    (case c_BadText_init => k_is)
    (case k_BadText_init => k_is)
    (case a_NoLine_init => k_is)
    (case t_NoLine_init => k_is)
    (case l_NoLine_init => k_is)
    (case c_NoLine_init => k_is)
    (case k_NoLine_init => k_is)
    (case a_NoName_init => k_is)
    (case t_NoName_init => k_is)
    (case l_NoName_init => k_is)
    (case c_NoName_init => k_is)
    (case k_NoName_init => k_is)
    (case a_l_pool => k_is)
    (case l_l_pool => k_is)
    (case c_l_pool => k_is)
    (case k_l_pool => k_is)
    (case a_l_draw => k_is)
    (case l_l_draw => k_is)
    (case c_l_draw => k_is)
    (case k_l_draw => k_is)
    (case a_l_made => k_is)
    (case l_l_made => k_is)
    (case c_l_made => k_is)
    (case k_l_made => k_is)
    (case a_l_kinds => k_is)
    (case l_l_kinds => k_is)
    (case c_l_kinds => k_is)
    (case k_l_kinds => k_is)
    (case a_l_same => k_is)
    (case l_l_same => k_is)
    (case c_l_same => k_is)
    (case k_l_same => k_is)
    (case a_l_caught => k_is)
    (case l_l_caught => k_is)
    (case c_l_caught => k_is)
    (case k_l_caught => k_is)
    (case a_law => k_is)
    (case l_law => k_is)
    (case c_law => k_is)
    (case k_law => k_is)
    (case z_ValueError => k_is)
    (case z_abs => k_is)
    (case z_all => k_is)
    (case z_bool => k_is)
    (case z_int => k_is)
    (case z_isinstance => k_is)
    (case z_len => k_is)
    (case z_range => k_is)
    (case z_sum => k_is)
    (case xn => k_is)
    (case xt => k_is)
    (case cm_BadBook => rfl)
    (case xg_BadBook => k_is)
    (case xk_BadBook => k_is)
    (case xa_BadBook => k_is)
    (case xm_BadBook => k_is)
    (case cm_NoWork => rfl)
    (case xg_NoWork => k_is)
    (case xk_NoWork => k_is)
    (case xa_NoWork => k_is)
    (case xm_NoWork => k_is)
    (case cm_NoLot => rfl)
    (case xg_NoLot => k_is)
    (case xk_NoLot => k_is)
    (case xa_NoLot => k_is)
    (case xm_NoLot => k_is)
    (case cm_NoGroup => rfl)
    (case xg_NoGroup => k_is)
    (case xk_NoGroup => k_is)
    (case xa_NoGroup => k_is)
    (case xm_NoGroup => k_is)
    (case cm_NoNumber => rfl)
    (case xg_NoNumber => k_is)
    (case xk_NoNumber => k_is)
    (case xa_NoNumber => k_is)
    (case xm_NoNumber => k_is)
    (case cm_NoRow => rfl)
    (case xg_NoRow => k_is)
    (case xk_NoRow => k_is)
    (case xa_NoRow => k_is)
    (case xm_NoRow => k_is)
    (case cm_NoOrder => rfl)
    (case xg_NoOrder => k_is)
    (case xk_NoOrder => k_is)
    (case xa_NoOrder => k_is)
    (case xm_NoOrder => k_is)
    (case cm_NoPrices => rfl)
    (case xg_NoPrices => k_is)
    (case xk_NoPrices => k_is)
    (case xa_NoPrices => k_is)
    (case xm_NoPrices => k_is)
    (case cm_Over => rfl)
    (case xg_Over => k_is)
    (case xk_Over => k_is)
    (case xa_Over => k_is)
    (case xm_Over => k_is)
    (case cm_NoLength => rfl)
    (case xg_NoLength => k_is)
    (case xk_NoLength => k_is)
    (case xa_NoLength => k_is)
    (case xm_NoLength => k_is)
    (case cm_NothingDone => rfl)
    (case xg_NothingDone => k_is)
    (case xk_NothingDone => k_is)
    (case xa_NothingDone => k_is)
    (case xm_NothingDone => k_is)
    (case cm_NoLine => rfl)
    (case xg_NoLine => k_is)
    (case xk_NoLine => k_is)
    (case xa_NoLine => k_is)
    (case xm_NoLine => k_is)
    (case cm_NoBounds => rfl)
    (case xg_NoBounds => k_is)
    (case xk_NoBounds => k_is)
    (case xa_NoBounds => k_is)
    (case xm_NoBounds => k_is)
    (case cm_TooMany => rfl)
    (case xg_TooMany => k_is)
    (case xk_TooMany => k_is)
    (case xa_TooMany => k_is)
    (case xm_TooMany => k_is)
    (case cm_NoRule => rfl)
    (case xg_NoRule => k_is)
    (case xk_NoRule => k_is)
    (case xa_NoRule => k_is)
    (case xm_NoRule => k_is)
    (case cm_TooLate => rfl)
    (case xg_TooLate => k_is)
    (case xk_TooLate => k_is)
    (case xa_TooLate => k_is)
    (case xm_TooLate => k_is)
    (case cm_BadText => rfl)
    (case xg_BadText => k_is)
    (case xk_BadText => k_is)
    (case xa_BadText => k_is)
    (case xm_BadText => k_is)
    (case cm_NoName => rfl)
    (case xg_NoName => k_is)
    (case xk_NoName => k_is)
    (case xa_NoName => k_is)
    (case xm_NoName => k_is)
    (case nf_TooMany => k_is)
    (case nf_NoRule => k_is)
    (case nf_TooLate => k_is)
    (case nf_BadText => k_is)
    (case nf_NoName => k_is)
    (case sm_Over => k_is)
    (case sm_NoLine => k_is)
    (case sm_TooMany => k_is)
    (case st_Over => k_is)
    (case st_NoLine => k_is)
    (case nd => decide)
